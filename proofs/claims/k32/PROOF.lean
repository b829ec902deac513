import PyProof.Rows.All
import Wide.All
import OpenK.AllK
import Wide.FinOn
import PyProof.EqAt
import PyProof.EqKinds
import PyProof.TupleCall
import PySem.Challenge.RW_raisedsums_k32_whole_exchanged_does_the
set_option Elab.async false
set_option linter.all false
set_option maxRecDepth 100000
noncomputable section
namespace PySem.W.Fast
theorem tw3778089932605240562:True:=⟨⟩
theorem tw12582418320425171149:True:=⟨⟩
theorem tw7815283709400812693:True:=⟨⟩
theorem tw11053396333779406985:True:=⟨⟩
theorem tw5991885854951799734:True:=⟨⟩
theorem tw16228608785390847899:True:=⟨⟩
theorem tw7661295078252232849:True:=⟨⟩
theorem tw4163718199930024623:True:=⟨⟩
theorem tw4786896050195487150:True:=⟨⟩
theorem tw1093994936367347611:True:=⟨⟩
theorem tw14967998223747603096:True:=⟨⟩
theorem tw13621970425783432856:True:=⟨⟩
theorem tw5683400068805332594:True:=⟨⟩
theorem tw14263446698410348007:True:=⟨⟩
theorem tw12394393851756317468:True:=⟨⟩
theorem tw18390840798691177523:True:=⟨⟩
theorem tw11167325217044175068:True:=⟨⟩
theorem tw8267525896829932635:True:=⟨⟩
theorem tw13948200583456211190:True:=⟨⟩
theorem tw7488693416198446736:True:=⟨⟩
theorem tw16778129731270583863:True:=⟨⟩
theorem tw13410150419067803369:True:=⟨⟩
theorem tw11042856999919206849:True:=⟨⟩
theorem tw14628731280544101756:True:=⟨⟩
theorem tw15445956183657741017:True:=⟨⟩
theorem tw15060140844765799711:True:=⟨⟩
theorem tw5941747251789784211:True:=⟨⟩
theorem tw670567487447191908:True:=⟨⟩
theorem tw18286931832898115102:True:=⟨⟩
theorem tw2663667879759083439:True:=⟨⟩
theorem tw10601654481353558058:True:=⟨⟩
theorem tw2496100675246957067:True:=⟨⟩
theorem tw13859938661075400652:True:=⟨⟩
theorem tw16922059455093437313:True:=⟨⟩
theorem tw15860509633165275822:True:=⟨⟩
theorem tw6528662676723354858:True:=⟨⟩
theorem tw11888258930609389970:True:=⟨⟩
theorem tw5966859544320511990:True:=⟨⟩
theorem tw17585794601408805144:True:=⟨⟩
theorem tw7586329952840544197:True:=⟨⟩
theorem tw2798022258476929219:True:=⟨⟩
theorem tw4572618214144437333:True:=⟨⟩
theorem tw1783513483911766412:True:=⟨⟩
theorem tw17998543710490321952:True:=⟨⟩
theorem tw16910767455302432796:True:=⟨⟩
theorem tw11388017258543306570:True:=⟨⟩
theorem tw8567098670411002061:True:=⟨⟩
theorem tw6941307936210352155:True:=⟨⟩
theorem tw12828959260734717095:True:=⟨⟩
theorem tw4202983234351952939:True:=⟨⟩
theorem tw13635510677110539186:True:=⟨⟩
theorem tw17711921453414503437:True:=⟨⟩
theorem tw16608869364818307922:True:=⟨⟩
theorem tw151676504561861421:True:=⟨⟩
theorem tw12870693406229065779:True:=⟨⟩
theorem tw17481275248916517068:True:=⟨⟩
theorem tw10016319697441534235:True:=⟨⟩
theorem tw15481858305275400436:True:=⟨⟩
theorem tw5718787153675166113:True:=⟨⟩
theorem tw2262061206494702774:True:=⟨⟩
theorem tw6177208193025721823:True:=⟨⟩
theorem tw16430282715151954749:True:=⟨⟩
theorem tw12662134529541223352:True:=⟨⟩
theorem tw8886090303639775693:True:=⟨⟩
theorem tw12297052458896596866:True:=⟨⟩
theorem tw17972684529296936736:True:=⟨⟩
theorem tw8902728864897062180:True:=⟨⟩
theorem tw1333635351831105638:True:=⟨⟩
theorem tw10954441789476286361:True:=⟨⟩
theorem tw15231240778131140605:True:=⟨⟩
theorem tw889991570539348304:True:=⟨⟩
theorem tw3866670293364329035:True:=⟨⟩
theorem tw1515771594733877136:True:=⟨⟩
theorem tw4390790105777452628:True:=⟨⟩
theorem tw6023899710606481213:True:=⟨⟩
theorem tw14788011830550057307:True:=⟨⟩
theorem tw1276282265441000328:True:=⟨⟩
theorem tw14937377956154023451:True:=⟨⟩
end PySem.W.Fast
open PySem
set_option genSizeOfSpec false
set_option genInjectivity false
abbrev Fg:=PySem.W.Frag
abbrev xba:=@PySem.wpAny_bind
abbrev xbb:=@Nat.le_trans
abbrev xbc:=@List.length_map
abbrev xbd:=@List.getElem?_eq_getElem
abbrev xbe:=@PySem.wpAny_pure
abbrev xbf:=@List.mem_cons_of_mem
abbrev xbg:=@List.getD_eq_getElem?_getD
abbrev xbh:=@List.getElem?_eq_some_iff
abbrev xbi:=@List.mem_range
abbrev xbj:=@Nat.le_refl
abbrev xbk:=@PySem.Heap.get?_push_of_some
abbrev xbl:=@List.length_append
abbrev xbm:=@List.mem_cons
abbrev xbn:=@Nat.lt_of_lt_of_le
abbrev xbo:=@PyProof.Rows.wpS_bind
abbrev xbp:=@decide_eq_true
abbrev xbq:=@List.map_cons
abbrev xbr:=@List.mem_cons_self
abbrev xbs:=@PyProof.Rows.wpS_pure
abbrev xbt:=@List.mem_map
abbrev xbu:=@List.mem_of_getElem?
abbrev xbv:=@decide_eq_false
abbrev xbw:=@List.length_cons
abbrev xbx:=@List.all_eq_true
abbrev xby:=@List.size_toArray
abbrev xbz:=@List.mem_singleton
abbrev xca:=@List.mem_append
abbrev xcb:=@List.getElem?_set_ne
abbrev xcc:=@List.append_assoc
abbrev xcd:=@PySem.Heap.lt_size
abbrev xce:=@List.take_length
abbrev xcf:=@Nat.le_of_lt
abbrev xcg:=@List.getElem?_append_left
abbrev xch:=@Array.length_toList
abbrev xci:=@PySem.Heap.get?_push_size
abbrev xcj:=@List.mem_filter
abbrev xck:=@Nat.le_add_right
abbrev xcl:=@Nat.ne_of_lt
abbrev xcm:=@Array.getElem?_toList
abbrev xcn:=@List.filter_cons_of_pos
abbrev xco:=@List.getElem?_map
abbrev xcp:=@Nat.le_of_not_lt
abbrev xcq:=@List.filter_cons_of_neg
abbrev xcr:=@Nat.add_sub_cancel'
abbrev xcs:=@List.sum_cons
abbrev xct:=@Nat.add_le_add_left
abbrev xcu:=@List.mem_flatMap
abbrev xcv:=@Int.eq_ofNat_of_zero_le
abbrev xcw:=@Nat.le_of_lt_succ
abbrev xcx:=@List.length_take
abbrev xcy:=@List.getElem_mem
abbrev xcz:=@List.map_map
abbrev xda:=@List.take_append_drop
abbrev xdb:=@Option.map_eq_some_iff
abbrev xdc:=@List.drop_eq_getElem_cons
abbrev xdd:=@Array.getD_eq_getD_getElem?
abbrev xde:=@Option.some.inj
abbrev xdf:=@List.nodup_cons
abbrev xdg:=@Nat.lt_of_le_of_lt
abbrev xdh:=@of_decide_eq_true
abbrev xdi:=@List.getElem?_append_right
abbrev xdj:=@Nat.add_sub_cancel_left
abbrev xdk:=@Array.getElem?_eq_getElem
abbrev xdl:=@Nat.xor_assoc
abbrev xdm:=@Bool.and_eq_true
abbrev xdn:=@List.length_set
abbrev xdo:=@Bool.false_eq_true
abbrev xdp:=@Nat.lt_of_le_of_ne
abbrev xdq:=@List.sum_append
abbrev xdr:=@List.map_append
abbrev xds:=@PySem.W.mg_none_of
abbrev xdt:=@Nat.le_of_eq
abbrev xdu:=@List.take_of_length_le
abbrev xdv:=@Nat.le_sub_one_of_lt
abbrev xdw:=@Nat.le_of_succ_le
abbrev xdx:=@PySem.wpAny_newObj_type
abbrev xdy:=@List.mem_append_right
abbrev xdz:=@Nat.le_of_add_left_le
abbrev xea:=@List.map_congr_left
abbrev xeb:=@Array.toList_append
abbrev xec:=@List.append_nil
abbrev xed:=@List.mem_of_mem_take
abbrev xee:=@List.Nodup.length_le_of_subset
abbrev xef:=@List.filterMap_cons_some
abbrev xeg:=@Nat.mul_le_mul_right
abbrev xeh:=@Int.toNat_natCast
abbrev xei:=@Nat.mod_two_eq_zero_or_one
abbrev xej:=@PyProof.Rows.wpS_forRange
abbrev xek:=@Nat.sub_lt_left_of_lt_add
abbrev xel:=@Nat.zero_add
abbrev xem:=@Nat.le_antisymm
abbrev xen:=@Nat.min_eq_left
abbrev xeo:=@Nat.add_lt_of_lt_sub'
abbrev xep:=@Nat.zero_le
abbrev xeq:=@PySem.wpAny_holding
abbrev xer:=@PySem.wpAny_call_entry
abbrev xes:=@List.count_append
abbrev xet:=@List.filterMap_cons_none
abbrev xeu:=@if_false
abbrev xev:=@List.getElem_of_mem
abbrev xew:=@PySem.Heap.SameBut.update
abbrev xex:=@Nat.add_lt_add_left
abbrev xey:=@PySem.wpAny_mono
abbrev xez:=@List.getElem?_eq_none
abbrev xfa:=@Nat.eq_of_beq_eq_true
abbrev xfb:=@PyProof.Rows.slot_tuple_getitem
abbrev xfc:=@List.nodup_iff_pairwise_ne
abbrev xfd:=@List.find?_cons
abbrev xfe:=@Nat.sub_lt_sub_right
abbrev xff:=@List.mem_of_mem_drop
abbrev xfg:=@List.filter_append
abbrev xfh:=@List.getElem?_set_self
abbrev xfi:=@Nat.not_lt_of_le
abbrev xfj:=@Ne.symm
abbrev xfk:=@Array.toList_push
abbrev xfl:=@List.foldl_append
abbrev xfm:=@PySem.wpAny_truthy_bool
abbrev xfn:=@PySem.Heap.get?_update_self
abbrev xfo:=@Nat.le_sub_of_add_le'
abbrev xfp:=@Nat.xor_zero
abbrev xfq:=@PySem.W.kia_one
abbrev xfr:=@Bool.eq_iff_iff
abbrev xfs:=@List.getElem?_drop
abbrev xft:=@Option.bind_eq_some_iff
abbrev xfu:=@Array.perm_iff_toList_perm
abbrev xfv:=@if_true
abbrev xfw:=@Nat.le_succ_of_le
abbrev xfx:=@Nat.lt_of_succ_lt
abbrev xfy:=@List.filter_congr
abbrev xfz:=@List.replicate_succ
abbrev xga:=@beq_eq_false_iff_ne
abbrev xgb:=@List.pairwise_iff_getElem
abbrev xgc:=@List.foldl_cons
abbrev xgd:=@List.length_replicate
abbrev xge:=@List.length_filter_le
abbrev xgf:=@Nat.ble_eq_true_of_le
abbrev xgg:=@Bool.false_ne_true
abbrev xgh:=@List.length_drop
abbrev xgi:=@List.lookup_cons
abbrev xgj:=@Nat.succ_le_succ
abbrev xgk:=@List.count_eq_zero
abbrev xgl:=@PyProof.Rows.wpS_mono
abbrev xgm:=@List.nodup_nil
abbrev xgn:=@PySem.F.slot_dict_keyiterator_next
abbrev xgo:=@Nat.sub_le_sub_right
abbrev xgp:=@List.pairwise_append
abbrev xgq:=@Nat.sub_pos_of_lt
abbrev xgr:=@List.length_range
abbrev xgs:=@PySem.wpAny_ite_false
abbrev xgt:=@Nat.lt_of_not_le
abbrev xgu:=@List.length_singleton
abbrev xgv:=@PySem.Obj.data_mapFields
abbrev xgw:=@List.Perm.append_left
abbrev xgx:=@List.Pairwise.sublist
abbrev xgy:=@Nat.lt_of_lt_of_eq
abbrev xgz:=@List.pairwise_cons
abbrev xha:=@PySem.sizeLine_eq
abbrev xhb:=@List.mem_append_left
abbrev xhc:=@Nat.sub_le
abbrev xhd:=@Bool.or_eq_false_iff
abbrev xhe:=@List.count_cons
abbrev xhf:=@Nat.testBit_xor
abbrev xhg:=@Nat.lt_irrefl
abbrev xhh:=@PySem.wpAny_typeNameOfWhole_keyiter
abbrev xhi:=@List.getElem?_cons_succ
abbrev xhj:=@List.length_eq_zero_iff
abbrev xhk:=@PySem.mem_of_lookup
abbrev xhl:=@Nat.sub_le_sub_left
abbrev xhm:=@List.not_mem_nil
abbrev xhn:=@beq_self_eq_true
abbrev xho:=@decide_eq_decide
abbrev xhp:=@Array.getElem?_eq_none
abbrev xhq:=@beq_iff_eq
abbrev xhr:=@PyProof.Rows.wpS_modify
abbrev xhs:=@Nat.sub_add_cancel
abbrev xht:=@Int.zero_add
abbrev xhu:=@List.count_pos_iff
abbrev xhv:=@Nat.xor_self
abbrev xhw:=@decide_eq_true_iff
abbrev xhx:=@List.range_succ
abbrev xhy:=@PySem.Obj.isFreed_of_fields
abbrev xhz:=@Nat.min_le_left
abbrev xia:=@List.perm_append_comm
abbrev xib:=@PySem.wpAny_passesOwn
abbrev xic:=@List.ext_getElem?
abbrev xid:=@Nat.lt_succ_of_lt
abbrev xie:=@List.flatten_cons
abbrev xig:=@List.nodup_iff_count
abbrev xih:=@PySem.wpAny_setField
abbrev xii:=@Nat.min_le_right
abbrev xij:=@Nat.lt_or_ge
abbrev xik:=@List.take_succ_eq_append_getElem
abbrev xil:=@List.nodup_range
abbrev xim:=@PySem.F.called_set
abbrev xin:=@List.any_eq_true
abbrev xio:=@List.cons_append
abbrev xip:=@Nat.zero_xor
abbrev xiq:=@Nat.zero_testBit
abbrev xir:=@decide_false
abbrev xis:=@List.filter_sublist
abbrev xit:=@PySem.F.plainAttrs_dict
abbrev xiu:=@List.countP_cons_of_pos
abbrev xiv:=@Nat.lt_add_of_pos_right
abbrev xiw:=@PySem.Paired.length
abbrev xix:=@List.any_cons
abbrev xiy:=@PyProof.Rows.wpS_get
abbrev xiz:=@PySem.Calls.spliced_cons
abbrev xja:=@List.length_nil
abbrev xjb:=@Nat.sub_lt
abbrev xjc:=@Nat.eq_zero_or_pos
abbrev xjd:=@List.filter_map
abbrev xje:=@PySem.tupleKind_room_in1
abbrev xjf:=@PySem.wpAny_rule
abbrev xjg:=@List.Perm.append_right
abbrev xjh:=@List.drop_eq_nil_of_le
abbrev xji:=@PySem.wpAny_field
abbrev xjj:=@decide_true
abbrev xjk:=@List.nodup_append
abbrev xjl:=@List.flatMap_cons
abbrev xjm:=@PySem.wpAny_dictEntries
abbrev xjn:=@decide_eq_true_eq
abbrev xjo:=@Nat.lt_trans
abbrev xjp:=@PySem.F.slot_dict_pop
abbrev xjq:=@Nat.sub_self
abbrev xjr:=@Array.extract_eq_empty_of_le
abbrev xjs:=@Nat.succ_mul
abbrev xjt:=@Nat.le_of_ble_eq_true
abbrev xju:=@PySem.codeAny_mono
abbrev xjv:=@List.ext_getElem
abbrev xjw:=@List.getElem_map
abbrev xjx:=@Nat.min_eq_right
abbrev xjy:=@Array.toList_reverse
abbrev xjz:=@List.reverse_reverse
abbrev xka:=@Nat.lt_succ_self
abbrev xkb:=@PySem.F.slot_tuple_mul
abbrev xkc:=@Option.getD_some
abbrev xkd:=@List.Pairwise.filter
abbrev xke:=@PySem.wpAny_askSetting
abbrev xkf:=@Array.getElem?_setIfInBounds_self_of_lt
abbrev xkg:=@Nat.mul_assoc
abbrev xkh:=@List.filterMap_cons
abbrev xki:=@List.length_reverse
abbrev xkj:=@Nat.testBit_two_pow
abbrev xkk:=@List.mem_of_find?_eq_some
abbrev xkl:=@PySem.PassesOwn.never
abbrev xkm:=@Int.emod_nonneg
abbrev xkn:=@Classical.byContradiction
abbrev xko:=@PySem.codeAny_builtin
abbrev xkp:=@PySem.wpAny_ite_split
abbrev xkq:=@Nat.ne_of_gt
abbrev xkr:=@PySem.F.args_tuple_add_2
abbrev xks:=@List.filterMap_map
abbrev xkt:=@Nat.add_zero
abbrev xku:=@PySem.AutoSeq1.wpAny_loadPart'
abbrev xkv:=@List.filter_filter
abbrev xkw:=@List.sum_nil
abbrev xkx:=@Nat.pow_succ
abbrev xky:=@PySem.wpAny_pyIter_tuple
abbrev xkz:=@PySem.wpAny_Call_Name_kw
abbrev xla:=@PyProof.Rows.slot_tuple_getitem
abbrev xlb:=@PySem.call_meets
abbrev xlc:=@PySem.F.entry_tuple_add
abbrev xld:=@List.countP_cons_of_neg
abbrev xle:=@List.pairwise_singleton
abbrev xlf:=@List.getElem?_cons_zero
abbrev xlg:=@List.eraseIdx_cons_succ
abbrev xlh:=@List.any_eq_false
abbrev xli:=@PySem.Calls.spliced_nil
abbrev xlj:=@List.take_sublist
abbrev xlk:=@PySem.Obj.cls_mapFields
abbrev xll:=@Nat.zero_lt_of_lt
abbrev xlm:=@List.reverse_cons
abbrev xln:=@List.pairwise_map
abbrev xlo:=@PySem.wpAny_pyIter_list
abbrev xlp:=@PySem.wpAny_setState_of
abbrev xlq:=@PySem.F.slot_tuple_add
abbrev xlr:=@PySem.Calls.callWith_builtin
abbrev xls:=@Nat.le_mul_of_pos_left
abbrev xlt:=@Nat.le_succ
abbrev xlu:=@PySem.wpAny_attempt
abbrev xlv:=@List.getElem_inj
abbrev xlw:=@List.filter_cons
abbrev xlx:=@List.mem_reverse
abbrev xly:=@PyProof.Rows.wpS_lift
abbrev xlz:=@PySem.F.slot_tuple_lt
abbrev xma:=@PySem.F.slot_dict_get
abbrev xmb:=@Array.getElem?_setIfInBounds_ne
abbrev xmc:=@Array.mem_toList_iff
abbrev xmd:=@PySem.Calls.evalArgs_plain
abbrev xme:=@Array.toList_extract
abbrev xmf:=@List.nil_append
abbrev xmg:=@Int.le_trans
abbrev xmh:=@Nat.mod_lt
abbrev xmi:=@PySem.Around.under_plainId
abbrev xmj:=@Bool.decide_and
abbrev xmk:=@List.eq_nil_iff_forall_not_mem
abbrev xml:=@Nat.ble_eq
abbrev xmm:=@PySem.wpAny_execs_nil
abbrev xmn:=@PySem.wpAny_typeOf
abbrev xmo:=@PySem.call_meetsIn
abbrev xmp:=@PySem.codeAny_call_builtin
abbrev xmq:=@List.filter_eq_self
abbrev xmr:=@List.getElem?_range
abbrev xms:=@Int.toNat_of_nonneg
abbrev xmt:=@List.flatMap_append
abbrev xmu:=@PySem.wpAny_setEntries_of
abbrev xmv:=@List.drop_drop
abbrev xmw:=@List.take_zero
abbrev xmx:=@PySem.Heap.size_push
abbrev xmy:=@PySem.F.slot_dict_setdefault
abbrev xmz:=@PySem.wpAny_fieldsOf
abbrev xna:=@or_false
abbrev xnb:=@Int.le_refl
abbrev xnc:=@Int.add_mul
abbrev xnd:=@PyProof.Rows.callWith_type1
abbrev xne:=@PySem.Heap.IsSliceOf.new
abbrev xnf:=@Array.append_empty
abbrev xng:=@Nat.pos_of_ne_zero
abbrev xnh:=@PySem.F.args_tuple_mul_2
abbrev xni:=@List.find?_eq_none
abbrev xnj:=@of_decide_eq_false
abbrev xnk:=@Array.getElem?_eq_some_iff
abbrev xnl:=@Nat.add_assoc
abbrev xnm:=@List.perm_ext_iff_of_nodup
abbrev xnn:=@Bool.and_true
abbrev xno:=@Nat.lt_of_mul_lt_mul_right
abbrev xnp:=@PySem.wpAny_standAt
abbrev xnq:=@PySem.evalPart_none
abbrev xnr:=@Nat.lt_succ_of_le
abbrev xns:=@List.mapM_toArray
abbrev xnt:=@List.drop_sublist
abbrev xnu:=@List.getElem_drop
abbrev xnv:=@List.getElem_take
abbrev xnw:=@PySem.F.entry_tuple_mul
abbrev xnx:=@List.Pairwise.imp
abbrev xny:=@PySem.wpAny_sequenceKey
abbrev xnz:=@PySem.slot_list_getitem
abbrev xoa:=@PySem.wpAny_pyIter_slot
abbrev xob:=@Nat.lt_of_mul_lt_mul_left
abbrev xoc:=@Int.ediv_one
abbrev xod:=@List.map_nil
abbrev xoe:=@Nat.max_eq_right
abbrev xof:=@Nat.add_comm
abbrev xog:=@List.perm_middle
abbrev xoh:=@Nat.sub_zero
abbrev xoi:=@List.drop_length
abbrev xoj:=@Nat.xor_comm
abbrev xok:=@Nat.mul_comm
abbrev xol:=@List.Nodup.count
abbrev xom:=@map_eq_pure_bind
abbrev xon:=@List.of_mem_zip
abbrev xoo:=@Nat.le_add_left
abbrev xop:=@Nat.not_lt_zero
abbrev xoq:=@Bool.or_eq_true
abbrev xos:=@List.find?_some
abbrev xot:=@Nat.and_div_two
abbrev xou:=@Int.natCast_add
abbrev xov:=@Nat.two_pos
abbrev xow:=@List.map_id
abbrev xox:=@List.drop_zero
abbrev xoy:=@List.Perm.refl
abbrev xoz:=@Int.mul_nonneg
abbrev xpa:=@Bool.false_xor
set_option maxHeartbeats 0
namespace L2
open Spec PyProof.Rows
noncomputable abbrev Key:=Sum Int Str
def keyIs:Key->Value->Bool
 |.inl k,v=>Value.isInt k v
 |.inr x,v=>Value.isStrOf x v
def keyH(w:World):Key->Int
 |.inl k=>hashInt k
 |.inr x=>hashStr w x
theorem zbe:∀{k:Key}{v:Value},keyIs k v=true->(∃i t,k=Sum.inl i/\v=Value.int i t)\/(∃x t,k=Sum.inr x/\v=Value.str x t)
 |.inl i,v,h=>by
  obtain⟨t,e⟩:=Value.isInt_shape (k:=i) (v:=v) h;exact .inl ⟨i,t,rfl,e⟩
 |.inr x,v,h=>by
  obtain⟨t,e⟩:=Value.isStrOf_shape (x:=x) (v:=v) h;exact .inr ⟨x,t,rfl,e⟩
theorem zbat(i:Int)(t:Tok):keyIs (.inl i) (.int i t)=true:=by simp[keyIs,Value.isInt]
theorem zbas(x:Str)(t:Tok):keyIs (.inr x) (.str x t)=true:=by simp[keyIs,Value.isStrOf]
theorem zbuc(a b:Int):decide ((Sum.inl a:Key)=Sum.inl b)=(a==b):=by
 by_cases e:a=b
 ·subst e;simp
 ·have h:¬ (Sum.inl a:Key)=Sum.inl b:=λq=>e (Sum.inl.inj q)
  rw[xbv h];exact(xga.mpr e).symm
theorem zbtz(a b:Str):decide ((Sum.inr a:Key)=Sum.inr b)=decide (a=b):=by
 by_cases e:a=b
 ·subst e;simp
 ·have h:¬ (Sum.inr a:Key)=Sum.inr b:=λq=>e (Sum.inr.inj q)
  rw[xbv h,xbv e]
theorem zbub(a:Int)(b:Str):decide ((Sum.inl a:Key)=Sum.inr b)=false:=xbv (λq=>nomatch q)
theorem zbua(a:Str)(b:Int):decide ((Sum.inr a:Key)=Sum.inl b)=false:=xbv (λq=>nomatch q)
def mixKind(d:Program) (w:World):PySem.KeyKind d w Key where
 is:=keyIs
 hash:=keyH w
 inj:=λv a b m g=>by
  rcases zbe m with⟨i,t,rfl,rfl⟩|⟨x,t,rfl,rfl⟩
  ·rcases zbe g with⟨j,u,rfl,e⟩|⟨y,u,rfl,e⟩
   ·injection e with c _;rw[c]
   ·exact nomatch e
  ·rcases zbe g with⟨j,u,rfl,e⟩|⟨y,u,rfl,e⟩
   ·exact nomatch e
   ·injection e with c _;rw[c]
 byValue:=λk v h=>by
  rcases zbe h with⟨i,t,rfl,rfl⟩|⟨x,t,rfl,rfl⟩<;>rfl
 pyHash:=λf h=>by
  rcases zbe f with⟨i,t,rfl,rfl⟩|⟨x,t,rfl,rfl⟩
  ·exact wpAny_pyHash_int h
  ·exact wpAny_pyHash_str h
 eqBool:=λl f h=>by
  rcases zbe l with⟨i,t,rfl,rfl⟩|⟨x,t,rfl,rfl⟩
  ·rcases zbe f with⟨j,u,rfl,rfl⟩|⟨y,u,rfl,rfl⟩
   ·rw[zbuc] at h;exact wpAny_eqBool_int h
   ·rw[zbub] at h;exact SeqAt.EqAt.int_str i t y u _ _ _ _ h
  ·rcases zbe f with⟨j,u,rfl,rfl⟩|⟨y,u,rfl,rfl⟩
   ·rw[zbua] at h;exact SeqAt.EqAt.str_int x t j u _ _ _ _ h
   ·rw[zbtz] at h;exact wpAny_eqBool_str h
 «strs»:=λk x t v h=>by
  rcases zbe h with⟨i,u,rfl,e⟩|⟨y,u,rfl,e⟩
  ·exact nomatch e
  ·injection e with c _
   subst c;cases v<;>rfl
theorem zsv(a:Program)(w:World)(i:Int)(t:Tok):(mixKind a w).is (.inl i) (.int i t)=true:=zbat i t
theorem zsu(a:Program)(w:World)(x:Str)(t:Tok):(mixKind a w).is (.inr x) (.str x t)=true:=zbas x t
set_option genInjectivity true in
inductive V where
 |non|bl (b:Bool)|int (i:Int)|str (x:Str)|byt (b:Array UInt8)|flt (b:UInt64)|ref (a:Addr)|ty (n:String)
 deriving DecidableEq
noncomputable def RelV:V->Value->Prop
 |.non,u=>u=Value.none
 |.bl b,u=>u=Value.bool b
 |.int i,u=>∃t,u=Value.int i t
 |.str x,u=>∃t,u=Value.str x t
 |.byt b,u=>∃t,u=Value.bytes b t
 |.flt b,u=>∃t,u=Value.float b t
 |.ref a,u=>u=Value.ref a
 |.ty n,u=>u=Value.type n
abbrev Vals:List V->List Value->Prop:=Paired RelV
theorem Vals.length(r:Vals xs us):xs.length=us.length:=xiw r
theorem Vals.get:∀{b:List V}{a:List Value}{i:Nat}{x:V},Vals b a->b[i]?=some x->∃u,a[i]?=some u/\RelV x u
 |_,_,_,_,.nil,e=>by simp at e
 |_,_,0,_,.cons r _,e=>by simp at e;subst e;exact⟨_,rfl,r⟩
 |_,_,i+1,x,.cons _ t,e=>by
  obtain⟨u,d,c⟩:=Vals.get (i:=i) (x:=x) t (by simpa using e);exact⟨u,by simpa using d,c⟩
theorem Vals.set(r:RelV x u):∀{b:List V}{a:List Value}(i:Nat),Vals b a->Vals (b.set i x) (a.set i u)
 |_,_,_,.nil=>.nil
 |_,_,0,.cons _ t=>.cons r t
 |_,_,i+1,.cons q t=>.cons q (Vals.set r i t)
theorem Vals.append:∀{d c:List V}{a b:List Value},Vals d a->Vals c b->Vals (d++c) (a++b)
 |_,_,_,_,.nil,s=>s
 |_,_,_,_,.cons r t,s=>.cons r (Vals.append t s)
theorem Vals.take:∀{b:List V}{a:List Value}(n:Nat),Vals b a->Vals (b.take n) (a.take n)
 |_,_,0,_=>.nil
 |_,_,_+1,.nil=>.nil
 |_,_,n+1,.cons r t=>.cons r (Vals.take n t)
theorem Vals.drop:∀{b:List V}{a:List Value}(n:Nat),Vals b a->Vals (b.drop n) (a.drop n)
 |_,_,0,r=>r
 |_,_,_+1,.nil=>.nil
 |_,_,n+1,.cons _ t=>Vals.drop n t
def RelO:Option V->Option Value->Prop
 |some v,some u=>RelV v u
 |none,none=>True
 |_,_=>False
def KV{κ:Type}:List (κ×V)->List (κ×Value)->Prop:=Paired λ(p:κ×V) (q:κ×Value)=>p.1=q.1/\RelV p.2 q.2
def kV:Key->V
 |.inl i=>.int i
 |.inr x=>.str x
set_option genInjectivity true in
inductive HO where
 /-- a list -/
 |lst (xs:List V)
 /-- a tuple (never changes) -/
 |tup (xs:List V)
 /-- a dict whose keys are ints and texts;one whose keys are tuples of ints and texts (the empty one is both) -/
 |dK (kvs:List (Key×V))|dT (kvs:List (List Key×V))
 /-- a set of ints: its members,its size -/
 |set (S:Int->Bool) (n:Nat)
 /-- an instance of the class at C,its dict at dx,its attributes -/
 |ins (C dx:Addr) (fs:List (Str×V))
 /-- the dict of the instance at x -/
 |own (x:Addr)
 /-- the dict of an exception -/
 |xd (fs:List (Str×V))
 /-- a bound method,f of x -/
 |met (f x:Addr)
 /-- a range object lo,lo+1,.. below hi -/
 |rng (lo hi:Int)
 /-- a thing that is known to the object (the script;a dict while a loop walks it): read,never written while it is so -/
 |frz (o:Obj) (u:HO)
 /-- a code object's table -/
 |tbl (ps:Array Value)
 /-- any other thing,by what is true of its one object (a def of one's own: SetO a S n:=HO.ext λh=>..) -/
 |ext (φ:Heap->Prop)
noncomputable abbrev Hp:=Addr->Option HO
def upd(H:Hp) (a:Addr) (o:HO):Hp:=λb=>if b=a then some o else H b
theorem zt:upd H a o a=some o:=by unfold upd;rw[if_pos rfl]
theorem zu(h:b≠a):upd H a o b=H b:=by unfold upd;rw[if_neg h]
theorem zbwx{H:Hp}{a b:Addr}{o u:HO}(h:H a=some o)(c:H b=some u)(d:o≠u):a≠b:=by
 intro e;subst e;rw[h] at c;exact d (xde c)
theorem zn{H:Hp}{a b:Addr}{o:HO}(h:H a=some o)(c:H b=none):a≠b:=by
 intro e;subst e;rw[h] at c;cases c
section
variable (P:Program)(w:World)
def ObjOk(H:Hp) (h:Heap) (a:Addr):HO->Prop
 |.lst c=>c.length<=sizeLine/\∃(b:List Value) (n:Nat),Vals c b/\h.get? a=some { cls:=.type "list",data:=.seq b.toArray n }
 |.tup c=>c.length<=sizeLine/\∃b:List Value,Vals c b/\IsTup h a b.toArray
 |.dK kvs=>kvs.length<=sizeLine/\(a==sysModules)=false/\∃j,KV kvs j/\h.DictOf (mixKind P w) a j
 |.dT kvs=>kvs.length<=sizeLine/\(a==sysModules)=false/\∃c:List (List Key×Addr×Value),
  Paired (λ(p:List Key×V) (q:List Key×Addr×Value)=>p.1=q.1/\H q.2.1=some (.tup (p.1.map kV))/\RelV p.2 q.2.2) kvs c /\
  ∃o g k,h.get? a=some o/\o.ExactDict/\o.data=.dict g k/\g.toList=c.map (entryOfKey (tupleKind (mixKind P w)))/\(c.map (·.1)).Nodup
 |.set S n=>h.SetOf (intKind P w) a S n
 |.ins C dx fs=>H dx=some (.own a)/\fs.length<=1000/\dx≠a/\h.get? a=some (W.instObj C dx) /\
  ∃d,h.Ns1 dx d/\(∀f,RelO (fs.lookup f) (d f))/\PySem.Within d (fs.map (·.1))
 |.own _=>∃o,h.get? a=some o
 |.xd fs=>∃d,h.Ns1 a d/\∀f,RelO (fs.lookup f) (d f)
 |.rng lo hi=>∃ t u v,h.get? a=some { cls:=.type "range",data:=.fields #[.int lo t,.int hi u,.int 1 v] }
 |.frz o u=>h.get? a=some o/\ObjOk H h a u
 |.tbl ps=>h.get? a=some {cls:=.none,data:=.fields ps}
 |.met f x=>h.get? a=some (W.methodObj (.ref f) (.ref x))
 |.ext φ=>φ h/\(∃o,h.get? a=some o)/\∀i e:Heap,φ i->(∀o,i.get? a=some o->e.get? a=some o)->φ e
def HOk(H:Hp) (h:Heap):Prop:=∀a o,H a=some o->ObjOk P w H h a o
end
theorem ObjOk.lt(x:ObjOk P w H h a o):a<h.objs.size:=by
 cases o with
 |lst xs=>obtain⟨_,_,_,_,e⟩:=x;exact xcd e
 |tup xs=>obtain⟨_,_,_,p⟩:=x;exact p.lt
 |dK kvs=>obtain⟨_,_,_,_,o,_,_,e,_⟩:=x;exact xcd e
 |dT kvs=>obtain⟨_,_,_,_,o,_,_,e,_⟩:=x;exact xcd e
 |set S n=>obtain⟨o,_,_,_,e,_⟩:=x;exact xcd e
 |ins C dx fs=>obtain⟨_,_,_,e,_⟩:=x;exact xcd e
 |own y=>obtain⟨_,e⟩:=x;exact xcd e
 |xd fs=>obtain⟨_,⟨_,_,_,e,_⟩,_⟩:=x;exact xcd e
 |rng lo hi=>obtain⟨_,_,_,e⟩:=x;exact xcd e
 |frz ob u=>obtain⟨e,_⟩:=x;exact xcd e
 |tbl ps=>exact xcd (show h.get? a=some _ from x)
 |met f y=>exact xcd (show h.get? a=some _ from x)
 |ext φ=>obtain⟨_,⟨_,e⟩,_⟩:=x;exact xcd e
section
variable {a:Addr}
theorem Paired.mapP{α β:Type}{F G:α->β->Prop}:∀{d:List α}{c:List β},Paired F d c->(∀a b,F a b->G a b)->Paired G d c
 |_,_,.nil,_=>.nil
 |_,_,.cons r t,f=>.cons (f _ _ r) (Paired.mapP t f)
end
theorem ObjOk.stay{h:Heap}{s:Heap}(x:ObjOk P w H h a o)(k:∀b u,(b=a\/H b=some (.own a))->h.get? b=some u->s.get? b=some u)
  (X:∀b,H b=some (.own a)->H' b=some (.own a))(I:∀b m,H b=some (.tup m)->H' b=some (.tup m)):ObjOk P w H' s a o:=by
 induction o with
 |lst m=>obtain⟨z,l,n,r,e⟩:=x;exact⟨z,l,n,r,k _ _ (.inl rfl) e⟩
 |tup m=>obtain⟨z,l,r,g,e,c⟩:=x;exact⟨z,l,r,g,k _ _ (.inl rfl) e,c⟩
 |dK kvs=>obtain⟨z,y,U,r,g,i,j,e,c⟩:=x;exact⟨z,y,U,r,g,i,j,k _ _ (.inl rfl) e,c⟩
 |dT kvs=>
  obtain⟨z,y,m,r,g,i,j,e,c⟩:=x;exact⟨z,y,m,Paired.mapP r λp q z=>⟨z.1,I _ _ z.2.1,z.2.2⟩,g,i,j,k _ _ (.inl rfl) e,c⟩
 |set S n=>obtain⟨g,i,j,t,e,c⟩:=x;exact⟨g,i,j,t,k _ _ (.inl rfl) e,c⟩
 |ins C dx fs=>
  obtain⟨d,z,J,e,A,⟨E,i,j,Q,c⟩,r⟩:=x;exact⟨X _ d,z,J,k _ _ (.inl rfl) e,A,⟨E,i,j,k _ _ (.inr d) Q,c⟩,r⟩
 |own y=>obtain⟨g,e⟩:=x;exact⟨g,k _ _ (.inl rfl) e⟩
 |xd fs=>obtain⟨A,⟨E,i,j,e,c⟩,r⟩:=x;exact⟨A,⟨E,i,j,k _ _ (.inl rfl) e,c⟩,r⟩
 |rng lo hi=>obtain⟨t,u,v,e⟩:=x;exact⟨t,u,v,k _ _ (.inl rfl) e⟩
 |frz g u ih=>obtain⟨e,q⟩:=x;exact⟨k _ _ (.inl rfl) e,ih q⟩
 |tbl ps=>
  have e:h.get? a=some {cls:=.none,data:=.fields ps}:=x;show s.get? a=some {cls:=.none,data:=.fields ps};exact k a _ (.inl rfl) e
 |met f y=>
  have e:h.get? a=some (W.methodObj (.ref f) (.ref y)):=x;show s.get? a=some (W.methodObj (.ref f) (.ref y));exact k a _ (.inl rfl) e
 |ext φ=>obtain⟨p,⟨o,e⟩,G⟩:=x;exact⟨G _ _ p λo q=>k _ _ (.inl rfl) q,⟨o,k _ _ (.inl rfl) e⟩,G⟩
theorem HOk.lt(x:HOk P w H h)(e:H a=some o):a<h.objs.size:=(x a o e).lt
theorem HOk.fresh(x:HOk P w H h)(e:h.objs.size<=a):H a=none:=by
 cases q:H a with
 |none=>rfl
 |some u=>exact absurd (xbn (x.lt q) e) (xhg _)
theorem HOk.kept{h':Heap}(x:HOk P w H h)(k:∀b u,h.get? b=some u->h'.get? b=some u):HOk P w H h':=λa o e=>
 (x a o e).stay (λb u _ q=>k b u q) (λ_ q=>q) λ_ _ q=>q
section
variable {P:Program}{w:World}{H:Hp}{h:Heap}{h':Heap}{a:Addr}{o:HO}
theorem HOk.laid(x:HOk P w H h)(k:∀b u,h.get? b=some u->h'.get? b=some u)(g:h.objs.size<=a)(d:ObjOk P w (upd H a o) h' a o):HOk P w (upd H a o) h':=λb u e=>by
 have f:=x.fresh g;by_cases hb:b=a
 ·subst hb;rw[zt] at e;cases e;exact d
 ·rw[zu hb] at e;exact(x b u e).stay (λc v _ q=>k c v q) (λc q=>by rw[zu (zn q f)];exact q) λc i q=>by rw[zu (zn q f)];exact q
end
def Rd(H:Hp) (a:Addr) (u:HO):Prop:=H a=some u\/∃o,H a=some (.frz o u)
theorem Rd.ok(r:Rd H a u)(x:HOk P w H h):ObjOk P w H h a u:=by
 rcases r with r|⟨o,r⟩
 ·exact x a u r
 ·obtain⟨_,q⟩:=x a _ r;exact q
noncomputable def Mut:Option HO->Prop
 |some (.lst _)=>True
 |some (.dK _)=>True
 |some (.dT _)=>True
 |some (.set _ _)=>True
 |some (.ins _ _ _)=>True
 |some (.ext _)=>True
 |_=>False
theorem HOk.write{h':Heap}(n:HOk P w H h)(f:Mut (H x))(m:e=x\/H e=some (.own x))(k:∀b u,b≠e->h.get? b=some u->h'.get? b=some u)(i:∃u,h'.get? e=some u)
  (j:ObjOk P w (upd H x o') h' x o'):HOk P w (upd H x o') h':=λb u q=>by
 have a:∀c y,H c=some (.own y)->c≠x:=λc y r z=>by subst z;rw[r] at f;exact f
 have d:∀c g,H c=some (.tup g)->c≠x:=λc g r z=>by subst z;rw[r] at f;exact f
 by_cases hb:b=x
 ·subst hb;rw[zt] at q;cases q;exact j
 ·rw[zu hb] at q;by_cases hbe:b=e
  ·have l:H b=some (.own x):=by
    rcases m with z|z
    ·exact absurd (hbe.trans z) hb
    ·rw[hbe];exact z
   rw[q] at l;cases l
   obtain⟨v,o⟩:=i;exact⟨v,by rw[hbe];exact o⟩
  ·refine(n b u q).stay (λc v hc r=>k c v ?_ r) (λc r=>by rw[zu (a c b r)];exact r) λc g r=>by rw[zu (d c g r)];exact r
   rcases hc with rfl|hc
   ·exact hbe
   ·rintro rfl;rcases m with z|z
    ·exact a c b hc z
    ·rw[hc] at z;cases z;exact hb rfl
structure Un (fs ex:List Addr) (H H':Hp) (h h':Heap):Prop where
 keep:∀b o,h.get? b=some o->H b=none->b∉fs->b∉ex->h'.get? b=some o
 slot:∀b o,h.get? b=some o->H b=none->b∈fs->b∉ex->∃sl,h'.get? b=some {o with slots:=sl}
 free:∀b o,h.get? b=some o->H b=none->b∉ex->H' b=none
 there:∀b o,h.get? b=some o->b∉ex->∃o',h'.get? b=some o'
 tups:∀b xs,H b=some (.tup xs)->H' b=some (.tup xs)
 frzs:∀b o u,H b=some (.frz o u)->H' b=some (.frz o u)
 tbls:∀b ps,H b=some (.tbl ps)->∃more,H' b=some (.tbl (ps++more))
theorem Un.any(u:Un fs ex H H1 h h1) (q:h.get? b=some ob)(n:H b=none)(a:b∉ex):∃c,h1.get? b=some {ob with slots:=c}:=by
 by_cases hb:b∈fs
 ·exact u.slot b ob q n hb a
 ·exact⟨ob.slots,u.keep b ob q n hb a⟩
theorem Un.kept{h:Heap}{h':Heap}(k:∀b u,h.get? b=some u->h'.get? b=some u):Un fs ex H H h h':=
 ⟨λb a q _ _ _=>k b a q,λb a q _ _ _=>⟨a.slots,k b a q⟩,λ_ _ _ n _=>n,λb a q _=>⟨a,k b a q⟩,λ_ _ q=>q,λ_ _ _ q=>q,λ_ c q=>⟨#[],by rw[q];simp⟩⟩
theorem Un.refl:Un fs ex H H h h:=Un.kept λ_ _ q=>q
section
variable {fs:List Addr}{ex:List Addr}{H:Hp}{h:Heap}{h':Heap}{a:Addr}{o:HO}
theorem Un.laid(k:∀b u,h.get? b=some u->h'.get? b=some u)(d:h.objs.size<=a)(c:H a=none):Un fs ex H (upd H a o) h h' where
 keep:=λb u q _ _ _=>k b u q
 slot:=λb u q _ _ _=>⟨u.slots,k b u q⟩
 free:=λb u q n _=>by rw[zu (xcl (xbn (xcd q) d))];exact n
 there:=λb u q _=>⟨u,k b u q⟩
 tups:=λb e q=>by rw[zu (zn q c)];exact q
 frzs:=λb u e q=>by rw[zu (zn q c)];exact q
 tbls:=λb f q=>⟨#[],by rw[zu (zn q c),q];simp⟩
end
theorem Un.write{h:Heap}{h':Heap}(a:Mut (H x))(i:e=x\/H e=some (.own x))(k:∀b u,b≠e->h.get? b=some u->h'.get? b=some u)(d:∃u,h'.get? e=some u):Un fs ex H (upd H x o) h h':=by
 have f:∀b,H b=none->b≠x:=λb n z=>by subst z;rw[n] at a;exact a
 have g:∀b,H b=none->b≠e:=λb n z=>by
  subst z;rcases i with r|r
  ·exact f b n r
  ·rw[n] at r;cases r
 have c:∀b u,H b=some u->¬ Mut (some u)->b≠x:=λb u q j z=>by subst z;rw[q] at a;exact j a
 refine⟨λb u q n _ _=>k b u (g b n) q,λb u q n _ _=>⟨u.slots,k b u (g b n) q⟩,λb u q n _=>by rw[zu (f b n)];exact n,λb u q _=>?_,
  λb l q=>by rw[zu (c b _ q λz=>z)];exact q,λb u l q=>by rw[zu (c b _ q λz=>z)];exact q,λb m q=>⟨#[],by rw[zu (c b _ q λz=>z),q];simp⟩⟩
 by_cases hbe:b=e
 ·subst hbe;exact d
 ·exact⟨u,k b u hbe q⟩
def trk(h:Heap) (H:Hp):List Addr:=(List.range h.objs.size).filter λa=>(H a).isSome
def hidT(h:Heap) (H:Hp):Heap:=W.hideAll h (trk h H)
theorem zbax(h:Heap)(H:Hp):(hidT h H).objs.size=h.objs.size:=W.hideAll_size _ _
theorem zbib{h:Heap}(e:h.get? b=some o)(n:H b=none):(hidT h H).get? b=some o:=
 W.hideAll_get _ e λa=>by
  have q:(H b).isSome=true:=(xcj.mp a).2;rw[n] at q;simp at q
theorem zbnc(e:(hidT h H).get? b=some o):h.get? b=some o/\H b=none:=by
 have a:h.get? b=some o:=W.of_hideAll (trk h H) e;refine⟨a,?_⟩;cases q:H b with
 |none=>rfl
 |some x=>
  have c:b∈trk h H:=xcj.mpr ⟨xbi.mpr (xcd a),by simp[q]⟩;have z:(hidT h H).get? b=none:=W.hideAll_none (trk h H) c;rw[z] at e;cases e
structure Mod (K:Fg) (mg:Str->Option Value) (base:Heap):Prop where
 kin:K.In base
 glob:base.Ns mainGlobals mg
 blt:∃ mb,base.Ns builtinsNs mb/\∀ x:Str,x≠"__name__"->mb x=bootBuiltins x
 nolimit:base.NoLimit
structure Cx where
 prog:Program
 w:World
 K:Fg
 mg:Str->Option Value
 base:Heap
 A:Around
 N:List Str
 s₀:Shared
 H₀:Hp
 env:Env
 outer:List Env
 stack:List Env
 ex:List Addr
 fn:Str->Bool
 calm:Bool
 pn:List (Addr×Obj)
 xe:Value->Shared->Prop
noncomputable def frs(l:List Env):List Addr:=l.filterMap (·.frame)
abbrev Cx.fs(X:Cx):List Addr:=frs X.outer
noncomputable def Vis(a:Scope) (x:Str):Prop:=a.names.lookup x=some .local\/a.names.lookup x=some .cell\/a.names.lookup x=some .free
noncomputable def Loc(a:Scope) (x:Str):Prop:=a.names.lookup x=some .local\/a.names.lookup x=some .cell
noncomputable def Look(a:Env) (h:Heap) (m:Str->Option Value) (x:Str) (u:Value):Prop:=
 (a.kindOf x=some .local/\m x=some u)\/((a.kindOf x=some .cell\/a.kindOf x=some .free)/\∃c,a.cells.lookup x=some c/\h.IsCell c (some u))
structure Cx.Ok (X:Cx):Prop where
 mod:Mod X.K X.mg X.base
 kind:X.env.scope.kind=.function
 glob:X.env.globals=mainGlobals
 blt:X.env.builtins=builtinsNs
 above:X.s₀.heap.objs.size<=X.env.locals
 inj:∀x y c,X.env.cells.lookup x=some c->X.env.cells.lookup y=some c->x=y
 has:∀x,(X.env.kindOf x=some .cell\/X.env.kindOf x=some .free)->∃c,X.env.cells.lookup x=some c
 cab:∀x c,X.fn x=true->X.env.cells.lookup x=some c->X.s₀.heap.objs.size<=c
 hd:X.calm=true->X.A.handled=none
 frames:X.A.frames=some X.stack
 stk:X.stack=X.outer\/(X.stack=X.env::X.outer/\X.env.frame=some X.env.locals)
 exf:∀b∈X.ex,b≠X.env.locals/\∀x c,X.env.cells.lookup x=some c->c≠b
 bs:∀b o,X.base.get? b=some o->X.s₀.heap.get? b=some o/\X.H₀ b=none
 bsz:X.base.objs.size<=X.s₀.heap.objs.size
 noex:∀b o,X.base.get? b=some o->b∉X.ex
 exfs:∀b∈X.ex,b∉X.fs
 funs:X.s₀.heap.FunFrames X.base X.outer
 frf:∀b∈X.fs,X.H₀ b=none
def Hnd(A:Around) (H:Hp):Prop:=∀v,A.handled=some v->∃a o,v=.ref a/\H a=some (.frz o (.ext λ_=>True))/\∃b,o.data=.fields b/\b[2]?=some .none
theorem Hnd.map(h:Hnd A H)(f:∀b o u,H b=some (.frz o u)->H' b=some (.frz o u)):Hnd A H':=λv e=>let ⟨a,o,h1,h2,h3⟩:=h v e;⟨a,o,h1,f _ _ _ h2,h3⟩
theorem Hnd.none{A:Around}(h:A.handled=.none):Hnd A H:=λv e=>by rw[h] at e;cases e
structure Inv (X:Cx) (aU:List (Addr×Obj)) (σ:List (Option V)) (H:Hp) (s:Shared):Prop where
 ok:X.Ok
 os:s.os=X.s₀.os
 bare:AllBare s.gens
 base:Un X.fs X.ex X.H₀ H X.s₀.heap s.heap
 loc:∃m,s.heap.Ns X.env.locals m/\∀(i:Nat) (x:Str) (v:V),X.N[i]?=some x->σ[i]?=some (some v)->Vis X.env.scope x->∃u,RelV v u/\Look X.env s.heap m x u
 cell:∀x c,X.env.cells.lookup x=some c->∃v,s.heap.IsCell c v
 free:H X.env.locals=none
 freeC:∀x c,X.env.cells.lookup x=some c->H c=none
 pin:∀p∈X.pn++aU,s.heap.get? p.1=some p.2/\H p.1=none/\p.1≠X.env.locals/\p.1∉X.fs/\∀v,p.2.data≠.cell v
 hok:HOk X.prog X.w H s.heap
 len:σ.length=X.N.length
 hnd:Hnd X.A H
theorem Cx.Ok.nofr{X:Cx}(c:X.Ok) (e:X.base.get? b=some o):b∉X.fs:=λa=>by
 have:=(c.funs.mem a).1;rw[e] at this;cases this
theorem Inv.bs(I:Inv X aU σ H s):∀b o,X.base.get? b=some o->s.heap.get? b=some o/\H b=none:=λb o e=>
 ⟨I.base.keep b o (I.ok.bs b o e).1 (I.ok.bs b o e).2 (I.ok.nofr e) (I.ok.noex b o e),I.base.free b o (I.ok.bs b o e).1 (I.ok.bs b o e).2 (I.ok.noex b o e)⟩
theorem Inv.bk(I:Inv X aU σ H s):∀b o,X.base.get? b=some o->s.heap.get? b=some o:=λb o e=>(I.bs b o e).1
theorem Inv.mod(I:Inv X aU σ H s):Mod X.K X.mg X.base:=I.ok.mod
theorem Inv.kIn(I:Inv X aU σ H s):X.K.In s.heap:=I.ok.mod.kin.keeps I.bk
theorem Inv.lt(I:Inv X aU σ H s):X.env.locals<s.heap.objs.size:=let ⟨_,hn,_⟩:=I.loc;hn.lt
theorem Inv.sz(I:Inv X aU σ H s):X.s₀.heap.objs.size<=s.heap.objs.size:=xbb I.ok.above (xcf I.lt)
theorem Inv.nofs(I:Inv X aU σ H s) (h:s.heap.objs.size<=a):a∉X.fs:=λb=>by
 obtain⟨_,o,c,_⟩:=I.ok.funs.mem b;exact absurd (xbn (xcd c) (xbb I.sz h)) (xhg _)
theorem Inv.cne(I:Inv X aU σ H s):∀x c,X.env.cells.lookup x=some c->c≠X.env.locals:=λx c e z=>by
 obtain⟨v,o,d,f⟩:=I.cell x c e;obtain⟨m,⟨h,g,i,b,a,_⟩,_⟩:=I.loc;rw[z,b] at d;cases d;rw[a] at f;cases f
theorem Inv.funs(I:Inv X aU σ H s):s.heap.FunFrames X.base X.outer:=by
 have f:∀(l:List Env),(∀b∈frs l,b∈X.fs)->X.s₀.heap.FunFrames X.base l->s.heap.FunFrames X.base l:=by
  intro l
  induction l with
  |nil=>intro _ _;trivial
  |cons env r ih=>
   intro g m;obtain⟨n,⟨L,o,d,j,h,i⟩,k⟩:=m;have a:L∈X.fs:=g L (by unfold frs;rw[xkh,d];exact xbr);obtain⟨p,e⟩:=I.base.slot L o h (I.ok.frf L a) a λz=>I.ok.exfs L z a
   exact⟨n,⟨L,_,d,j,e,i⟩,ih (λb c=>g b (by unfold frs;rw[xkh,d];exact xbf _ c)) k⟩
 exact f X.outer (λ_ c=>c) I.ok.funs
theorem Inv.stack(I:Inv X aU σ H s):s.heap.FunFrames X.base X.stack:=by
 rcases I.ok.stk with e|⟨e,b⟩
 ·rw[e];exact I.funs
 ·rw[e];obtain⟨m,a,_⟩:=I.loc;refine .cons (by rw[I.ok.kind];decide) b a ?_ I.funs;exact Heap.get?_none_of_le (xbb I.ok.bsz I.ok.above)
theorem Inv.stkSub(I:Inv X aU σ H s):∀b∈frs X.stack,b∈X.env.locals::X.fs:=λb a=>by
 rcases I.ok.stk with e|⟨e,c⟩
 ·rw[e] at a;exact xbf _ a
 ·rw[e] at a;unfold frs at a;rw[xkh,c] at a;exact a
theorem Inv.stkFree(I:Inv X aU σ H s):∀b∈frs X.stack,H b=none:=λb hb=>by
 rcases xbm.mp (I.stkSub b hb) with e|hb
 ·rw[e];exact I.free
 ·obtain⟨_,o,a,_⟩:=I.ok.funs.mem hb;exact I.base.free b o a (I.ok.frf b hb) λz=>I.ok.exfs b z hb
section
variable {X:Cx}{aU:List (Addr×Obj)}{σ:List (Option V)}{H:Hp}{H':Hp}{s:Shared}{h':Heap}
theorem Inv.step{g':Array GenState}{t':Nat}{d':Drawn}{ch:List Addr}(I:Inv X aU σ H s)
  (j:∀b∈ch,(b∈X.ex\/X.s₀.heap.objs.size<=b)/\b≠X.env.locals/\(∀x c,X.env.cells.lookup x=some c->c≠b)/\∀p∈X.pn++aU,p.1≠b)
  (g:∀b o,b≠X.env.locals->b∉X.fs->b∉ch->s.heap.get? b=some o->H b=none->h'.get? b=some o)
  (E:∀b o,b≠X.env.locals->b∈X.fs->b∉ch->s.heap.get? b=some o->H b=none->∃sl,h'.get? b=some {o with slots:=sl})(f:∀b o,b∉ch->s.heap.get? b=some o->H b=none->H' b=none)
  (G:∀b o,b∉ch->s.heap.get? b=some o->∃Y,h'.get? b=some Y)
  (a0:∀b A,H b=some (.tup A)->H' b=some (.tup A))(C:∀b o u,H b=some (.frz o u)->H' b=some (.frz o u))(a1:∀b ps,H b=some (.tbl ps)->∃Q,H' b=some (.tbl (ps++Q)))
  (ns:∀m,s.heap.Ns X.env.locals m->h'.Ns X.env.locals m)(a4:HOk X.prog X.w H' h')(hg:AllBare g'):
  Inv X aU σ H' {s with heap:=h',gens:=g',drawn:=d',toks:=t'}:=by
 have U:∀b o,X.s₀.heap.get? b=some o->b≠X.env.locals:=λb o e=>xcl (xbn (xcd e) I.ok.above)
 have y:∀b o,X.s₀.heap.get? b=some o->b∉X.ex->b∉ch:=λb o e a J=>by
  rcases(j b J).1 with z|z
  ·exact a z
  ·exact absurd (xbn (xcd e) z) (xhg _)
 have h:∀x c,X.env.cells.lookup x=some c->∀v,s.heap.IsCell c v->h'.IsCell c v:=λx c e v a2=>by
  obtain⟨o,P,hd⟩:=a2;have t:c∉ch:=λz=>(j c z).2.2.1 x c e rfl
  by_cases hc:c∈X.fs
  ·obtain⟨sl,q⟩:=E c o (I.cne x c e) hc t P (I.freeC x c e);exact⟨_,q,hd⟩
  ·exact⟨o,g c o (I.cne x c e) hc t P (I.freeC x c e),hd⟩
 refine⟨I.ok,I.os,hg,⟨λb o e n J a=>?_,λb o e n J a=>?_,λb o e n a=>?_,λb o e a=>?_,λb A e=>a0 b A (I.base.tups b A e),λb o A e=>C b o A (I.base.frzs b o A e),λb ps e=>?_⟩,?_,λx c e=>?_,?_,λx c e=>?_,λp hp=>?_,a4,I.len,I.hnd.map C⟩
 ·exact g b o (U b o e) J (y b o e a) (I.base.keep b o e n J a) (I.base.free b o e n a)
 ·obtain⟨sl,w⟩:=I.base.slot b o e n J a;obtain⟨a3,S⟩:=E b _ (U b o e) J (y b o e a) w (I.base.free b o e n a);exact⟨a3,S⟩
 ·obtain⟨Y,w⟩:=I.base.there b o e a;exact f b Y (y b o e a) w (I.base.free b o e n a)
 ·obtain⟨Y,w⟩:=I.base.there b o e a;exact G b Y (y b o e a) w
 ·obtain⟨m1,w⟩:=I.base.tbls b ps e;obtain⟨m2,S⟩:=a1 b _ w;exact⟨m1++m2,by rw[S,Array.append_assoc]⟩
 ·obtain⟨m,hn,hl⟩:=I.loc;refine⟨m,ns m hn,λi x v w S e3=>?_⟩;obtain⟨u,r,l⟩:=hl i x v w S e3;refine⟨u,r,?_⟩;rcases l with l|⟨k,c,e,z⟩
  ·exact .inl l
  ·exact .inr ⟨k,c,e,h x c e _ z⟩
 ·obtain⟨v,z⟩:=I.cell x c e;exact⟨v,h x c e v z⟩
 ·obtain⟨m,⟨o,_,_,P,_⟩,_⟩:=I.loc;exact f _ o (λz=>(j _ z).2.1 rfl) P I.free
 ·obtain⟨v,o,P,hd⟩:=I.cell x c e;exact f c o (λz=>(j c z).2.2.1 x c e rfl) P (I.freeC x c e)
 ·obtain⟨e,n,ne,nf,d⟩:=I.pin p hp;have t:p.1∉ch:=λz=>(j p.1 z).2.2.2 p hp rfl
  exact⟨g p.1 p.2 ne nf t e n,f p.1 p.2 t e n,ne,nf,d⟩
theorem Inv.un{t':Nat}(I:Inv X aU σ H s)(u:Un X.fs [] H H' s.heap h')(d:HOk X.prog X.w H' h'):Inv X aU σ H' {s with heap:=h',toks:=t'}:=by
 obtain⟨m,⟨o,q,v,h,r⟩,_⟩:=id I.loc;obtain⟨l,i⟩:=u.any h I.free (by simp)
 exact I.step (g':=s.gens) (d':=s.drawn) (ch:=[]) (λ_ z=>nomatch z) (λb o _ g _ e n=>u.keep b o e n g (by simp)) (λb o _ g _ e n=>u.slot b o e n g (by simp)) (λb o _ e n=>u.free b o e n (by simp)) (λb o _ e=>u.there b o e (by simp)) u.tups u.frzs u.tbls (λp j=>by
  obtain⟨t,c,f,a,k⟩:=j;rw[h] at a;cases a
  exact⟨_,c,f,i,k⟩) d I.bare
theorem Inv.call{g':Array GenState}{t':Nat}{d':Drawn}{ch:List Addr}(I:Inv X aU σ H s)(u:Un (frs X.stack) ch H H' s.heap h')(i:HOk X.prog X.w H' h')(l:AllBare g')
  (d:∀b∈ch,(b∈X.ex\/X.s₀.heap.objs.size<=b)/\b≠X.env.locals/\(∀x c,X.env.cells.lookup x=some c->c≠b)/\∀p∈X.pn++aU,p.1≠b):
  Inv X aU σ H' {s with heap:=h',gens:=g',drawn:=d',toks:=t'}:=by
 obtain⟨m,⟨o,A,E,k,r⟩,_⟩:=id I.loc;obtain⟨w,g⟩:=u.any k I.free λz=>(d _ z).2.1 rfl
 exact I.step (ch:=ch) d (λb o g v a e n=>u.keep b o e n (λz=>(xbm.mp (I.stkSub b z)).elim g v) a) (λb o _ _ a e n=>u.any e n a) (λb o a e n=>u.free b o e n a) (λb o a e=>u.there b o e a) u.tups u.frzs u.tbls (λy q=>by
  obtain⟨C,h,j,f,t⟩:=q;rw[k] at f;cases f
  exact⟨_,h,j,g,t⟩) i l
end
section
variable {X:Cx}{aU:List (Addr×Obj)}{σ:List (Option V)}{H:Hp}{s:Shared}{h':Heap}
theorem Inv.turned{t':Nat}{it:Addr}(I:Inv X aU σ H s)(k:∀b o,b≠it->s.heap.get? b=some o->h'.get? b=some o)(w:H it=none)(f:it≠X.env.locals)
  (h:it∈X.ex\/X.s₀.heap.objs.size<=it)(g:∀x c,X.env.cells.lookup x=some c->c≠it)(t:∀p∈X.pn++aU,p.1≠it):Inv X aU σ H {s with heap:=h',toks:=t'}:=by
 have d:∀b u,H b=some u->b≠it:=λb u e z=>by rw[z,w] at e;cases e
 refine I.step (g':=s.gens) (d':=s.drawn) (ch:=[it]) (λb A=>?_) (λb o _ _ a e _=>k b o (λz=>a (by simp[z])) e) (λb o _ _ a e _=>⟨o.slots,k b o (λz=>a (by simp[z])) e⟩) (λ_ _ _ _ n=>n)
  (λb o a e=>⟨o,k b o (λz=>a (by simp[z])) e⟩) (λ_ _ e=>e) (λ_ _ _ e=>e) (λb C e=>⟨#[],by rw[e];simp⟩) (λm i=>?_) (λb u e=>?_) I.bare
 ·have e:b=it:=by simpa using A
  subst e;exact⟨h,f,g,t⟩
 ·obtain⟨o,j,y,l,r⟩:=i;exact⟨o,j,y,k _ o (xfj f) l,r⟩
 ·refine(I.hok b u e).stay (λc v a q=>k c v ?_ q) (λ_ q=>q) λ_ _ q=>q
  rcases a with z|z
  ·rw[z];exact d b u e
  ·exact d c _ z
end
theorem Inv.tok(I:Inv X aU σ H s)(t:Nat):Inv X aU σ H {s with toks:=t}:=I.un (h':=s.heap) (t':=t) Un.refl I.hok
theorem Inv.kept{h':Heap}(I:Inv X aU σ H s)(k:∀b u,s.heap.get? b=some u->h'.get? b=some u):Inv X aU σ H {s with heap:=h',toks:=t'}:=I.un (Un.kept k) (I.hok.kept k)
theorem Inv.laid{d:Heap}(I:Inv X aU σ H s)(k:∀b u,s.heap.get? b=some u->d.get? b=some u)(c:s.heap.objs.size<=a)(e:ObjOk X.prog X.w (upd H a o) d a o):
 Inv X aU σ (upd H a o) {s with heap:=d,toks:=t'}:=I.un (Un.laid k c (I.hok.fresh c)) (I.hok.laid k c e)
theorem Inv.write{c:Heap}(I:Inv X aU σ H s)(f:Mut (H x))(g:e=x\/H e=some (.own x))(k:∀b u,b≠e->s.heap.get? b=some u->c.get? b=some u)(a:∃u,c.get? e=some u)
 (d:ObjOk X.prog X.w (upd H x o) c x o):Inv X aU σ (upd H x o) {s with heap:=c,toks:=t'}:=I.un (Un.write f g k a) (I.hok.write f g k a d)
theorem Inv.pins_of(I:Inv X aU σ H s)(h:∀p∈a,s.heap.get? p.1=some p.2/\H p.1=none/\p.1≠X.env.locals/\p.1∉X.fs/\∀v,p.2.data≠.cell v):Inv X a σ H s:=
 ⟨I.ok,I.os,I.bare,I.base,I.loc,I.cell,I.free,I.freeC,λp b=>(xca.mp b).elim (λz=>I.pin p (xhb _ z)) (h p),I.hok,I.len,I.hnd⟩
theorem zvn{N:List Str}(e:N.Nodup){i j:Nat}{x:Str}(a:N[i]?=some x)(b:N[j]?=some x):i=j:=by
 obtain⟨g,c⟩:=xbh.mp a;obtain⟨f,d⟩:=xbh.mp b;exact(xlv e).mp (c.trans d.symm)
theorem zpt{s:Shared}{M:Model}{i:Nat}{x:Str}(I:Inv X aU σ H s)(hN:X.N.Nodup)(S:X.N[i]?=some x)(t:Loc X.env.scope x)(r:RelV v u)
  (h:∀s',Inv X aU (σ.set i (some v)) H s'->(∃a,Heap.SameBut a s.heap s'.heap/\(a=X.env.locals\/X.env.cells.lookup x=some a))->Q () s')(hf:X.fn x=true\/X.env.scope.names.lookup x=some .local:=by first|exact .inl rfl|exact .inr rfl|assumption):wpAny M A (storeName X.env x u) Q E s:=by
 obtain⟨m,hn,hl⟩:=id I.loc;have a1:(X.env.scope.kind==.class||(X.env.scope.kind==.module&&X.env.locals != X.env.globals))=false:=by rw[I.ok.kind];rfl
 have Y:i < σ.length:=by rw[I.len];exact(xbh.mp S).1
 have G:=I.cne;have l:∀{a:Addr}{h':Heap},(∃o,s.heap.get? a=some o/\H a=none)->Heap.SameBut a s.heap h'->HOk X.prog X.w H h':=λ{a h'} ha f b ob e=>by
  obtain⟨_,_,w⟩:=ha;refine(I.hok b ob e).stay (λc w' hc q=>(f.2 c ?_).trans q) (λ_ q=>q) λ_ _ q=>q
  rintro rfl;rcases hc with rfl|hc
  ·rw[w] at e;cases e
  ·rw[w] at hc;cases hc
 rcases t with hk|hk
 ·refine wpAny_storeName_local hk hn (λh' a3 f=>?_) a1;obtain⟨oL,_,_,a4,_⟩:=id hn;refine h _ ⟨I.ok,I.os,I.bare,⟨λb o e n P t=>?_,λb o e n P t=>?_,I.base.free,λb o e t=>?_,I.base.tups,I.base.frzs,I.base.tbls⟩,⟨_,a3,λj y v' g C e3=>?_⟩,λy c e=>?_,I.free,I.freeC,λp hp=>?_,l ⟨oL,a4,I.free⟩ f,by simpa using I.len,I.hnd⟩ ⟨_,f,.inl rfl⟩
  ·exact(f.2 b (xcl (xbn (xcd e) I.ok.above))).trans (I.base.keep b o e n P t)
  ·obtain⟨sl,g⟩:=I.base.slot b o e n P t;exact⟨sl,(f.2 b (xcl (xbn (xcd e) I.ok.above))).trans g⟩
  ·obtain⟨o',g⟩:=I.base.there b o e t;exact⟨o',(f.2 b (xcl (xbn (xcd e) I.ok.above))).trans g⟩
  ·by_cases hj:j=i
   ·subst hj;rw[S] at g;cases g
    rw[xfh Y] at C;cases C;exact⟨u,r,.inl ⟨hk,by simp⟩⟩
   ·rw[xcb (xfj hj)] at C;obtain⟨u',r',q⟩:=hl j y v' g C e3;refine⟨u',r',?_⟩;rcases q with⟨k,e⟩|⟨k,c,e,z⟩
    ·refine .inl ⟨k,?_⟩;have:y≠x:=λe=>hj (zvn hN g (e ▸ S))
     simp[this,e]
    ·exact .inr ⟨k,c,e,z.sameBut f (G y c e)⟩
  ·obtain⟨w',z⟩:=I.cell y c e;exact⟨w',z.sameBut f (G y c e)⟩
  ·obtain⟨e,n,ne,nf,d⟩:=I.pin p hp;exact⟨(f.2 p.1 ne).trans e,n,ne,nf,d⟩
 ·have J:X.fn x=true:=by
   rcases hf with z|z
   ·exact z
   ·rw[z] at hk;cases hk
  obtain⟨c,hc⟩:=I.ok.has x (.inl hk);obtain⟨w',z⟩:=I.cell x c hc;refine wpAny_storeName_cell I.ok.kind hk hc z (λh' U f=>?_);obtain⟨oc,a0,a2⟩:=id z;refine h {s with heap:=h'} ⟨I.ok,I.os,I.bare,⟨λb o e n P t=>?_,λb o e n P t=>?_,I.base.free,λb o e t=>?_,I.base.tups,I.base.frzs,I.base.tbls⟩,⟨m,hn.sameBut f (xfj (G x c hc)),λj y v' g C e3=>?_⟩,λy c' e=>?_,I.free,I.freeC,λp hp=>?_,l ⟨oc,a0,I.freeC x c hc⟩ f,by simpa using I.len,I.hnd⟩ ⟨c,f,.inr hc⟩
  ·exact(f.2 b (xcl (xbn (xcd e) (I.ok.cab x c J hc)))).trans (I.base.keep b o e n P t)
  ·obtain⟨sl,g⟩:=I.base.slot b o e n P t;exact⟨sl,(f.2 b (xcl (xbn (xcd e) (I.ok.cab x c J hc)))).trans g⟩
  ·obtain⟨o',g⟩:=I.base.there b o e t;exact⟨o',(f.2 b (xcl (xbn (xcd e) (I.ok.cab x c J hc)))).trans g⟩
  ·by_cases hj:j=i
   ·subst hj;rw[S] at g;cases g
    rw[xfh Y] at C;cases C;exact⟨u,r,.inr ⟨.inl hk,c,hc,U⟩⟩
   ·rw[xcb (xfj hj)] at C;obtain⟨u',r',q⟩:=hl j y v' g C e3;refine⟨u',r',?_⟩;rcases q with q|⟨k,c',e,z'⟩
    ·exact .inl q
    ·refine .inr ⟨k,c',e,z'.sameBut f ?_⟩;rintro rfl;exact hj (zvn hN g (I.ok.inj _ _ _ e hc ▸ S))
  ·by_cases hcc:c'=c
   ·subst hcc;exact⟨_,U⟩
   ·obtain⟨w2,z2⟩:=I.cell y c' e;exact⟨w2,z2.sameBut f hcc⟩
  ·obtain⟨e,n,ne,nf,d⟩:=I.pin p hp;refine⟨(f.2 p.1 ?_).trans e,n,ne,nf,d⟩;intro q;rw[q,a0] at e;have q':oc=p.2:=xde e;exact d w' (by rw[←q'];exact a2)
theorem znv{M:Model}(I:Inv X aU σ H s)(f:X.N.Nodup)(e:X.N[i]?=some x)(b:Loc X.env.scope x)(r:RelV v u)
  (h:∀a,Inv X aU (σ.set i (some v)) H a->Q () a)(d:X.fn x=true\/X.env.scope.names.lookup x=some .local:=by first|exact .inl rfl|exact .inr rfl|assumption):wpAny M A (storeName X.env x u) Q E s:=
 zpt I f e b r (λa c _=>h a c) d
theorem Inv.call'{s':Shared}{j:List Addr}(I:Inv X g σ H s)(m:s'.os=s.os)(u:Un (frs X.stack) j H H' s.heap s'.heap)(a:HOk X.prog X.w H' s'.heap)(k:AllBare s'.gens)
  (d:∀b∈j,(b∈X.ex\/X.s₀.heap.objs.size<=b)/\b≠X.env.locals/\(∀x c,X.env.cells.lookup x=some c->c≠b)/\∀p∈X.pn++g,p.1≠b):Inv X g σ H' s':=by
 obtain⟨n,h,f,i,l⟩:=s';have e:l=s.os:=m;subst e;exact I.call (g':=h) (t':=i) (d':=f) u a k d
abbrev XK:=Value->Option Addr->Hp->Prop
noncomputable abbrev St:=List (Option V)
abbrev VK:=V->Hp->Prop
abbrev TE:=St->Hp->VK->Prop
abbrev TT:=St->Hp->(Bool->Hp->Prop)->Prop
abbrev TA:=St->Hp->(List V->Hp->Prop)->Prop
structure Ends where
 nx:St->Hp->Prop
 rt:VK
 bk:St->Hp->Prop:=λ_ _=>False
 ct:St->Hp->Prop:=λ_ _=>False
abbrev TS:=Ends->St->Hp->Prop
def EP(X:Cx) (b:List (Addr×Obj)) (σ:St) (Q:VK) (u:Value) (c:Shared):Prop:=∃v a,Inv X b σ a c/\RelV v u/\Q v a
def TP(X:Cx) (c:List (Addr×Obj)) (σ:St) (Q:Bool->Hp->Prop) (b:Bool) (d:Shared):Prop:=∃a,Inv X c σ a d/\Q b a
def AP(X:Cx) (d:List (Addr×Obj)) (σ:St) (Q:List V->Hp->Prop) (c:List Value) (e:Shared):Prop:=∃b a,Inv X d σ a e/\Vals b c/\Q b a
def SP(X:Cx) (c:List (Addr×Obj)) (D:Ends) (f:Flow) (d:Shared):Prop:=
 match f with
 |.next=>∃b a,Inv X c b a d/\D.nx b a
 |.brk=>∃b a,Inv X c b a d/\D.bk b a
 |.cont=>∃b a,Inv X c b a d/\D.ct b a
 |.ret u=>∃v b a,Inv X c b a d/\RelV v u/\D.rt v a
def PE(X:Cx) (e:Expr) (t:TE):Prop:=
 ∀(a:List (Addr×Obj)) (s:Shared) (σ:St) (H:Hp) (Q:VK),Inv X a σ H s->t σ H Q->wpAny (model X.prog X.w) X.A (eval e X.env) (EP X a σ Q) X.xe s
def PT(X:Cx) (e:Expr) (t:TT):Prop:=
 ∀(a:List (Addr×Obj)) (s:Shared) (σ:St) (H:Hp) (Q:Bool->Hp->Prop),Inv X a σ H s->t σ H Q->wpAny (model X.prog X.w) X.A (isTrue e X.env (eval e X.env)) (TP X a σ Q) X.xe s
def PW(X:Cx) (e:Expr) (t:TT):Prop:=
 ∀(a:Sem Value) (b:List (Addr×Obj)) (s:Shared) (σ:St) (H:Hp) (Q:Bool->Hp->Prop),Inv X b σ H s->t σ H Q->wpAny (model X.prog X.w) X.A (isTrue e X.env a) (TP X b σ Q) X.xe s
theorem PW.pt(h:PW X e t):PT X e t:=h _
def PA(X:Cx) (c:List Expr) (t:TA):Prop:=
 ∀(a:Pos) (b:List (Addr×Obj)) (s:Shared) (σ:St) (H:Hp) (Q:List V->Hp->Prop),Inv X b σ H s->t σ H Q->wpAny (model X.prog X.w) X.A (spliced (backTo a (starEach c X.env))) (AP X b σ Q) X.xe s
def PS(X:Cx) (b:Stmt) (t:TS):Prop:=
 ∀(a:List (Addr×Obj)) (s:Shared) (σ:St) (H:Hp) (D:Ends),Inv X a σ H s->t D σ H->wpAny (model X.prog X.w) X.A (exec b X.env) (SP X a D) X.xe s
def PSs(X:Cx) (b:List Stmt) (t:TS):Prop:=
 ∀(a:List (Addr×Obj)) (s:Shared) (σ:St) (H:Hp) (D:Ends),Inv X a σ H s->t D σ H->wpAny (model X.prog X.w) X.A (execs b X.env) (SP X a D) X.xe s
theorem thn{α:Type}{t:Sem α}{Q b:α->Shared->Prop}{M:Model}(h:wpAny M A t Q E s)(c:∀a s,Q a s->b a s):wpAny M A t b E s:=xey h c λ_ _ x=>x
def tVar(i:Nat):TE:=λσ H Q=>∃v,σ[i]?=some (some v)/\Q v H
def tC(v:V):TE:=λ_ H Q=>Q v H
theorem zbst{X:Cx}(o:X.N[i]?=some x)(q:Vis X.env.scope x)(f:(x==("__debug__" : Str))=false:=by decide)(d:(x==("__classdict__" : Str))=false:=by decide):PE X (.Name x pos) (tVar i):=by
 intro j s σ H Q I h;obtain⟨v,e,h⟩:=h;obtain⟨m,p,k⟩:=I.loc;obtain⟨u,r,l⟩:=k i x v o e q;have b:EP X j σ Q u s:=⟨v,H,I,r,h⟩
 rcases l with⟨hk,n⟩|⟨hk,c,g,a⟩
 ·exact wpAny_Name (wpAny_loadName_local I.ok.kind hk p n b) f
 ·rcases hk with hk|hk
  ·exact wpAny_Name (wpAny_loadName_cell I.ok.kind hk g a b) f
  ·exact wpAny_Name (wpAny_loadName_free I.ok.kind hk g a b d) f
theorem zbsx{i j pos}:PE X (.Constant (.int i) j pos) (tC (.int i)):=λ_ _ _ H _ I h=>wpAny_Constant_int ⟨.int i,H,I.tok _,⟨_,rfl⟩,h⟩
theorem zbxw{b j pos}:PE X (.Constant (.bool b) j pos) (tC (.bl b)):=λ_ _ _ H _ I h=>Constant_bool ⟨.bl b,H,I,rfl,h⟩
noncomputable def Gl(X:Cx) (x:Str):Prop:=X.env.kindOf x=some .globalImplicit
theorem zbdn(I:Inv X aU σ H s)(a:Gl X x)(b:X.mg x=some u)(h:Q u s)
  (c:(x==("__debug__" : Str))=false:=by decide):wpAny (model X.prog X.w) X.A (eval (.Name x pos) X.env) Q E s:=
 Calls.Name_function_global I.ok.kind a (Calls.loadGlobal_global (by rw[I.ok.glob];exact I.mod.glob.keeps I.bk) b h) c
theorem zvx(I:Inv X aU σ H s)(a:Gl X x)(d:X.mg x=none)(g:bootBuiltins x=some u)(h:Q u s)
  (c:x≠"__name__":=by decide)(e:(x==("__debug__" : Str))=false:=by decide):wpAny (model X.prog X.w) X.A (eval (.Name x pos) X.env) Q E s:=by
 obtain⟨i,f,b⟩:=I.mod.blt;exact Calls.Name_function_global I.ok.kind a (Calls.loadGlobal_builtin (by rw[I.ok.glob];exact I.mod.glob.keeps I.bk) d (by rw[I.ok.blt];exact f.keeps I.bk) ((b x c).trans g) h) e
theorem zbmj(a:Gl X x)(b:X.mg x=some u)(r:RelV v u)(c:(x==("__debug__" : Str))=false:=by decide):PE X (.Name x pos) (tC v):=
 λ_ _ _ H _ I h=>zbdn I a b ⟨v,H,I,r,h⟩ c
theorem zux(a:Gl X x)(b:X.mg x=none)(e:bootBuiltins x=some u)(r:RelV v u)(d:x≠"__name__":=by decide)(c:(x==("__debug__" : Str))=false:=by decide):PE X (.Name x pos) (tC v):=
 λ_ _ _ H _ I h=>zvx I a b e ⟨v,H,I,r,h⟩ d c
def PC(X:Cx) (f:CmpOp) (a b:Expr) (t:TE):Prop:=
 ∀(c:List (Addr×Obj)) (s:Shared) (σ:St) (H:Hp) (Q:VK),Inv X c σ H s->t σ H Q ->
  wpAny (model X.prog X.w) X.A (eval a X.env) (λv e=>wpAny (model X.prog X.w) X.A (eval b X.env) (λu d=>wpAny (model X.prog X.w) X.A (compareOp f v u) (EP X c σ Q) X.xe d) X.xe e) X.xe s
def tB(t:TE):TT:=λσ H Q=>t σ H λx H1=>∃c,x=.bl c/\Q c H1
theorem zbsy(h:PC X op a b t)(c:behindInMarks op b=false:=by first|exact nobehind _ (by decide) (by decide)|rfl):PE X (.Compare a [op] [b] pos) t:=λd s σ H Q I e=>wpAny_Compare1 (h d s σ H Q I e) c
section
variable {X:Cx}{a:Expr}{b:Expr}{pos:Pos}
theorem zbsk{e:CmpOp}{t:TE}(h:PC X e a b t)(g:behindInMarks e b=false:=by first|exact nobehind _ (by decide) (by decide)|rfl):PT X (.Compare a [e] [b] pos) (tB t):=by
 intro k s σ H Q I n;refine wpAny_isTrue_Compare1 (thn (h k s σ H _ I n) λv r g=>thn g λu p i=>thn i λc o f=>?_) g;obtain⟨x,H1,m,j,l⟩:=f;obtain⟨d,rfl,q⟩:=l;cases j;exact xfm ⟨H1,m,q⟩
end
def tAnd(t u:TT):TT:=λσ H Q=>t σ H λc H1=>if c=true then u σ H1 Q else Q false H1
def tOr(t u:TT):TT:=λσ H Q=>t σ H λc H1=>if c=true then Q true H1 else u σ H1 Q
def tNot(t:TT):TT:=λσ H Q=>t σ H λc H1=>Q (!c) H1
section
variable {X:Cx}{a:Expr}{pos:Pos}{tA:TT}
theorem pw_and1(d:PT X a tA):PW X (.BoolOp .And [a] pos) tA:=by
 intro g b s σ H Q I h;refine isTrue_and (thn (d b s σ H Q I h) λc f e=>?_);cases c with
 |true=>exact isTrue_and_nil e
 |false=>exact e
theorem pw_or1(d:PT X a tA):PW X (.BoolOp .Or [a] pos) tA:=by
 intro g b s σ H Q I h;refine isTrue_or (thn (d b s σ H Q I h) λc f e=>?_);cases c with
 |false=>exact isTrue_or_nil e
 |true=>exact e
end
section
variable {X:Cx}{a:Expr}{b:Expr}{pos:Pos}{tA:TT}{tB':TT}{rest:List Expr}
theorem pw_and(k:PT X a tA)(l:PW X (.BoolOp .And (b::rest) pos) tB'):PW X (.BoolOp .And (a::b::rest) pos) (tAnd tA tB'):=by
 intro i e s σ H Q I h;refine isTrue_and (thn (k e s σ H _ I h) λc j d=>?_);obtain⟨H1,g,f⟩:=d;cases c with
 |true=>exact l i e j σ H1 Q g f
 |false=>exact⟨H1,g,f⟩
theorem pw_or(k:PT X a tA)(l:PW X (.BoolOp .Or (b::rest) pos) tB'):PW X (.BoolOp .Or (a::b::rest) pos) (tOr tA tB'):=by
 intro i e s σ H Q I h;refine isTrue_or (thn (k e s σ H _ I h) λc j d=>?_);obtain⟨H1,g,f⟩:=d;cases c with
 |true=>exact⟨H1,g,f⟩
 |false=>exact l i e j σ H1 Q g f
end
theorem zbsj(d:PT X a tA):PT X (.UnaryOp .Not a pos) (tNot tA):=by
 intro b s σ H Q I h;exact isTrue_not (d b s σ H (λc H1=>Q (!c) H1) I h)
def tAndV(a tb:TE):TE:=λσ H Q=>a σ H λx H1=>∃c,x=.bl c/\if c=true then tb σ H1 Q else Q (.bl false) H1
def tNotV(a:TE):TE:=λσ H Q=>a σ H λx H1=>∃c,x=.bl c/\Q (.bl (!c)) H1
theorem zbsv{op} (h:PE X a t):PE X (.BoolOp op [a] pos) t:=λb s σ H Q I c=>BoolOp_one (h b s σ H Q I c)
section
variable {X:Cx}{a:Expr}{b:Expr}{ta:TE}{tb:TE}{pos:Pos}{rest:List Expr}
theorem zbsz(k:PE X a ta)(l:PE X (.BoolOp .And (b::rest) pos) tb):PE X (.BoolOp .And (a::b::rest) pos) (tAndV ta tb):=by
 intro f s σ H Q I h;refine BoolOp_and (thn (k f s σ H _ I h) λv j e=>?_);obtain⟨x,H1,g,i,d⟩:=e;obtain⟨c,rfl,d⟩:=d;cases i;refine xfm ?_;cases c with
 |true=>exact l f j σ H1 Q g d
 |false=>exact⟨.bl false,H1,g,rfl,d⟩
end
section
variable {X:Cx}{a:Expr}{ta:TE}{pos:Pos}
theorem zbsw(i:PE X a ta):PE X (.UnaryOp .Not a pos) (tNotV ta):=by
 intro f s σ H Q I h;refine UnaryOp_ (thn (i f s σ H _ I h) λv j d=>?_);obtain⟨x,H1,g,e,b⟩:=d;obtain⟨c,rfl,b⟩:=b;cases e;exact not_of (xfm ⟨.bl (!c),H1,g,rfl,b⟩)
end
def tIf(t:TT) (a tb:TE):TE:=λσ H Q=>t σ H λc H1=>if c=true then a σ H1 Q else tb σ H1 Q
section
variable {X:Cx}{a:Expr}{b:Expr}{ta:TE}{tb:TE}{pos:Pos}{tA:TT}
theorem zbgc{c:Expr}(k:PT X c tA)(l:PE X a ta)(m:PE X b tb):PE X (.IfExp c a b pos) (tIf tA ta tb):=by
 intro e s σ H Q I h;refine wpAny_IfExp (thn (k e s σ H _ I h) λd j f=>?_);obtain⟨H1,i,g⟩:=f;cases d with
 |true=>exact l e j σ H1 Q i g
 |false=>exact m e j σ H1 Q i g
end
def SqL(K:Fg) (H:Hp) (a:Addr) (c:List V):Prop:=
 Rd H a (.lst c) \/
  ∃(o:Obj) (b:Array Value) (n:Nat),K.lookup a=some o/\o.cls=.type "list"/\o.dict=none/\o.data=.seq b n/\b.size<=sizeLine/\Vals c b.toList
def SqT(K:Fg) (H:Hp) (a:Addr) (c:List V):Prop:=
 Rd H a (.tup c) \/
  ∃(o:Obj) (b:Array Value) (n:Nat),K.lookup a=some o/\o.cls=.type "tuple"/\o.data=.seq b n/\b.size<=sizeLine/\Vals c b.toList
noncomputable def absV:Value->Option V
 |.none=>some .non
 |.bool b=>some (.bl b)
 |.int i _=>some (.int i)
 |.str x _=>some (.str x)
 |.bytes b _=>some (.byt b)
 |.float b _=>some (.flt b)
 |.ref a=>some (.ref a)
 |.type n=>some (.ty n)
 |_=>none
theorem RelV.abs(r:RelV x u):absV u=some x:=by
 cases x with
 |non=>cases r;rfl
 |bl _=>cases r;rfl
 |int _=>obtain⟨t,rfl⟩:=r;rfl
 |str _=>obtain⟨t,rfl⟩:=r;rfl
 |byt _=>obtain⟨t,rfl⟩:=r;rfl
 |flt _=>obtain⟨t,rfl⟩:=r;rfl
 |ref _=>cases r;rfl
 |ty _=>cases r;rfl
theorem RelV.inj(r:RelV x u)(q:RelV y u):x=y:=xde (r.abs.symm.trans q.abs)
theorem Vals.inj:∀{c b:List V}{a:List Value},Vals c a->Vals b a->c=b
 |_,_,_,.nil,.nil=>rfl
 |_,_,_,.cons r t,.cons r' t'=>by rw[r.inj r',Vals.inj t t']
section
variable {H:Hp}{a:Addr}{xs:List V}
theorem SqL.of{K:Fg}(h:H a=some (.lst xs)):SqL K H a xs:=.inl (.inl h)
theorem SqT.of{K:Fg}(h:H a=some (.tup xs)):SqT K H a xs:=.inl (.inl h)
end
theorem Inv.list(I:Inv X aU σ H s)(h:SqL X.K H a xs):∃b:List Value,Vals xs b/\PlainL s.heap a b.toArray/\xs.length<=sizeLine:=by
 rcases h with h|⟨o,b,n,g,c,f,d,i,r⟩
 ·obtain⟨z,b,n,r,e⟩:=h.ok I.hok;exact⟨b,r,⟨_,n,e,rfl,rfl,rfl⟩,z⟩
 ·refine⟨b.toList,r,⟨o,n,I.kIn a o g,c,f,by simpa using d⟩,?_⟩;have e:=r.length;simp only[xch] at e;lia
theorem Inv.tuple(I:Inv X aU σ H s)(h:SqT X.K H a xs):∃b:List Value,Vals xs b/\IsTup s.heap a b.toArray/\xs.length<=sizeLine:=by
 rcases h with h|⟨o,b,n,f,c,d,g,r⟩
 ·obtain⟨z,b,r,p⟩:=h.ok I.hok;exact⟨b,r,p,z⟩
 ·refine⟨b.toList,r,⟨o,I.kIn a o f,c,n,by simpa using d⟩,?_⟩;have e:=r.length;simp only[xch] at e;lia
theorem Inv.list_inj(I:Inv X aU σ H s)(h:SqL X.K H a xs)(g:SqL X.K H a ys):xs=ys:=by
 obtain⟨b,r,⟨o,n,e,_,_,d⟩,_⟩:=I.list h;obtain⟨its',i,⟨k,l,f,_,_,c⟩,_⟩:=I.list g;rw[e] at f;cases f
 rw[d] at c;injection c with j _
 have:b=its':=by simpa using congrArg Array.toList j
 subst this;exact r.inj i
theorem Inv.tuple_inj(I:Inv X aU σ H s)(h:SqT X.K H a xs)(g:SqT X.K H a ys):xs=ys:=by
 obtain⟨b,r,⟨o,e,_,n,d⟩,_⟩:=I.tuple h;obtain⟨its',i,⟨k,f,_,l,c⟩,_⟩:=I.tuple g;rw[e] at f;cases f
 rw[d] at c;injection c with j _
 have:b=its':=by simpa using congrArg Array.toList j
 subst this;exact r.inj i
noncomputable abbrev Cx.wish(X:Cx) (E:Value->Shared->Prop):Cx:={X with xe:=E}
abbrev Cx.nox(X:Cx):Cx:=X.wish λ_ _=>False
theorem Cx.Ok.wish{X:Cx}(a:X.Ok)(E:Value->Shared->Prop):(X.wish E).Ok:=
 ⟨a.mod,a.kind,a.glob,a.blt,a.above,a.inj,a.has,a.cab,a.hd,a.frames,a.stk,a.exf,a.bs,a.bsz,a.noex,a.exfs,a.funs,a.frf⟩
theorem Cx.Ok.unwish{X:Cx}(a:(X.wish E).Ok):X.Ok:=
 ⟨a.mod,a.kind,a.glob,a.blt,a.above,a.inj,a.has,a.cab,a.hd,a.frames,a.stk,a.exf,a.bs,a.bsz,a.noex,a.exfs,a.funs,a.frf⟩
theorem Inv.wish(I:Inv X aU σ H s)(E:Value->Shared->Prop):Inv (X.wish E) aU σ H s:=⟨I.ok.wish E,I.os,I.bare,I.base,I.loc,I.cell,I.free,I.freeC,I.pin,I.hok,I.len,I.hnd⟩
theorem Inv.unwish{X:Cx}(I:Inv (X.wish E) aU σ H s):Inv X aU σ H s:=⟨I.ok.unwish,I.os,I.bare,I.base,I.loc,I.cell,I.free,I.freeC,I.pin,I.hok,I.len,I.hnd⟩
theorem SP.unwish{X:Cx}{D:Ends}(h:SP (X.wish E) aU D f s'):SP X aU D f s':=by
 cases f with
 |next=>obtain⟨b,a,I,q⟩:=h;exact⟨b,a,I.unwish,q⟩
 |brk=>obtain⟨b,a,I,q⟩:=h;exact⟨b,a,I.unwish,q⟩
 |cont=>obtain⟨b,a,I,q⟩:=h;exact⟨b,a,I.unwish,q⟩
 |ret u=>obtain⟨v,b,a,I,r,q⟩:=h;exact⟨v,b,a,I.unwish,r,q⟩
section
variable {X:Cx}{aU:List (Addr×Obj)}{σ:St}{H:Hp}{s:Shared}
theorem PSs.nox{a:List Stmt}{t:TS}(h:PSs X.nox a t):PSs X a t:=λaU s σ H D I b=>
 xey (h aU s σ H D (I.wish _) b) (λ_ _ q=>q.unwish) λ_ _ z=>False.elim z
end
def tNext:TS:=λD σ H=>D.nx σ H
def tSeq(t u:TS):TS:=λD σ H=>t {D with nx:=u D} σ H
theorem zblu:PSs X [] tNext:=λ_ _ σ H _ I h=>xmm ⟨σ,H,I,h⟩
section
variable {X:Cx}{au:Stmt}{rest:List Stmt}{t:TS}{u:TS}
theorem zbft(g:PS X au t)(c:PSs X rest u):PSs X (au::rest) (tSeq t u):=by
 intro a s σ H D I h;refine wpAny_execs_cons (thn (g a s σ H {D with nx:=u D} I h) λf e q=>?_);cases f with
 |next=>
  obtain⟨d,i,b,q⟩:=q;exact c a e d i D b q
 |ret v=>exact q
 |brk=>exact q
 |cont=>exact q
end
section
variable {X:Cx}{au:Stmt}{t:TS}
theorem zblt(a:PS X au t):PSs X [au] t:=by
 intro b s σ H D I h;refine wpAny_execs_cons (thn (a b s σ H D I h) λf c q=>?_);cases f with
 |next=>exact xmm q
 |ret v=>exact q
 |brk=>exact q
 |cont=>exact q
end
def tBreak:TS:=λD σ H=>D.bk σ H
theorem zbfv:PS X (.Break pos) tBreak:=λ_ _ σ H _ I h=>wpAny_Break ⟨σ,H,I,h⟩
theorem Inv.quiet(I:Inv X aU σ H s):interactive X.env=false:=by simp[interactive,I.ok.kind]
def tDrop(a:TE):TS:=λD σ H=>a σ H λ_ H1=>D.nx σ H1
section
variable {X:Cx}{e:Expr}{te:TE}{pos:Pos}
theorem zblw(d:PE X e te)(c:swapsWith e none pos.line X.env=pure false:=by rfl):PS X (.Expr e pos) (tDrop te):=by
 intro a s σ H D I h;exact wpAny_Expr_any (thn (d a s σ H _ I h) λv i ⟨x,H1,f,g,b⟩=>⟨σ,H1,f,b⟩) I.quiet c
end
def tRet(a:TE):TS:=λD σ H=>a σ H D.rt
section
variable {X:Cx}{e:Expr}{te:TE}{pos:Pos}
theorem zbsm(d:PE X e te):PS X (.Return (some e) pos) (tRet te):=by
 intro b s σ H D I h;exact wpAny_Return_some (thn (d b s σ H _ I h) λv g ⟨x,H1,f,a,c⟩=>⟨x,σ,H1,f,a,c⟩)
end
def tIfS(c:TT) (t u:TS):TS:=λD σ H=>c σ H λb H1=>if b=true then t D σ H1 else u D σ H1
section
variable {X:Cx}{t:TS}{u:TS}{pos:Pos}
theorem zbxr{c:Expr}{a b:List Stmt}{g:TT}(l:PT X c g)(m:PSs X a t)(n:PSs X b u):PS X (.If c a b pos) (tIfS g t u):=by
 intro e s σ H D I h;refine wpAny_If (thn (l e s σ H _ I h) λd k f=>?_);obtain⟨H1,j,i⟩:=f;cases d with
 |true=>exact m e k σ H1 D j i
 |false=>exact n e k σ H1 D j i
end
abbrev TG:=V->St->Hp->(St->Hp->Prop)->Prop
abbrev TGs:=List V->St->Hp->(St->Hp->Prop)->Prop
def PG(X:Cx) (a:Expr) (t:TG):Prop:=
 ∀(b:List (Addr×Obj)) (s:Shared) (σ:St) (H:Hp) (v:V) (u:Value) (Q:St->Hp->Prop),Inv X b σ H s->RelV v u->t v σ H Q ->
  wpAny (model X.prog X.w) X.A (assign a X.env u) (λ_ e=>∃c d,Inv X b c d e/\Q c d) X.xe s
def PGs(X:Cx) (f:List Expr) (t:TGs):Prop:=
 ∀(b:List (Addr×Obj)) (s:Shared) (σ:St) (H:Hp) (e:List V) (a:List Value) (Q:St->Hp->Prop),Inv X b σ H s->Vals e a->t e σ H Q ->
  wpAny (model X.prog X.w) X.A (assignInOrder ((assignEach f X.env).map (·.2)) a) (λ_ g=>∃c d,Inv X b c d g/\Q c d) X.xe s
abbrev TSet:=V->V->V->Hp->(Hp->Prop)->Prop
def PSet(X:Cx) (t:TSet):Prop:=
 ∀(a:List (Addr×Obj)) (s:Shared) (σ:St) (H:Hp) (o i v:V) (d b u:Value) (Q:Hp->Prop),Inv X a σ H s->RelV o d->RelV i b->RelV v u->t o i v H Q ->
  wpAny (model X.prog X.w) X.A (setItem d b u) (λ_ e=>∃c,Inv X a σ c e/\Q c) X.xe s
abbrev TIp:=V->V->Hp->VK->Prop
def PIp(X:Cx) (b:Operator) (t:TIp):Prop:=
 ∀(a:List (Addr×Obj)) (s:Shared) (σ:St) (H:Hp) (x y:V) (v u:Value) (Q:VK),Inv X a σ H s->RelV x v->RelV y u->t x y H Q ->
  wpAny (model X.prog X.w) X.A (inplaceOp b v u) (EP X a σ Q) X.xe s
def gName(i:Nat):TG:=λv σ H Q=>Q (σ.set i (some v)) H
theorem zbmh{X:Cx}(e:X.N.Nodup)(d:X.N[i]?=some x)(a:Loc X.env.scope x)(c:X.fn x=true\/X.env.scope.names.lookup x=some .local:=by first|exact .inl rfl|exact .inr rfl|assumption):PG X (.Name x pos) (gName i):=by
 intro f s σ H v u Q I r h;exact wpAny_assign_Name (znv I e d a r (λg b=>⟨_,H,b,h⟩) c)
def gNil:TGs:=λa σ H Q=>a=[]/\Q σ H
def gCons(t:TG) (u:TGs):TGs:=λb σ H Q=>∃v r,b=v::r/\t v σ H λc a=>u r c a Q
theorem zbmg:PGs X [] gNil:=by
 intro b s σ H c a Q I r h;obtain⟨e,h⟩:=h;subst e;cases r;exact assignInOrder_nil ⟨σ,H,I,h⟩
section
variable {X:Cx}
theorem zbga{e:Expr}{a:List Expr}{t:TG}{u:TGs}(m:PG X e t)(f:PGs X a u)
  (j:(assignEach (e::a) X.env).map (·.2)=assign e X.env::(assignEach a X.env).map (·.2):=by rfl):PGs X (e::a) (gCons t u):=by
 intro c s σ H p n Q I r h;obtain⟨v,o,d,h⟩:=h;subst d;cases r with
 |cons r rr=>
  rw[j];refine assignInOrder_cons (thn (m c s σ H _ _ _ I r h) λ_ l b=>?_);obtain⟨g,H1,k,i⟩:=b;exact f c l g H1 _ _ Q k rr i
end
def gTup(K:Fg) (n:Nat) (t:TGs):TG:=λv σ H Q=>∃a b,v=.ref a/\SqT K H a b/\b.length=n/\t b σ H Q
theorem zbsr{X:Cx}(q:X.calm=true)(h:PGs X es t)
  (z:(assignEach es X.env).length=n:=by rfl)(d:(assignEach es X.env).findIdx? (·.1)=none:=by rfl):PG X (.Tuple es k pos) (gTup X.K n t):=by
 intro g s σ H v u Q I r c;obtain⟨a,x,i,l,A,c⟩:=c;subst i;cases r;obtain⟨m,f,p,C⟩:=I.tuple l;refine assign_Tuple_tuple (I.ok.hd q) p (by simp[z,←A,f.length]) d λw j=>?_
 have y:Inv X g σ H {s with heap:=w}:=I.kept (t':=s.toks) λb o e=>j b o (xcl (xcd e)) e
 exact h g _ σ H x _ Q y (by simpa using f) c
def gSub(b a:TE) (t:TSet):TG:=λv σ H Q=>b σ H λo H1=>a σ H1 λi H2=>t o i v H2 λH3=>Q σ H3
section
variable {X:Cx}{pos:Pos}
theorem zbss{o i:Expr}{e f:TE}{t:TSet}(m:PE X o e)(k:PE X i f)(q:PSet X t)
  (l:∀v,assign (.Subscript o i pos) X.env v=(do
   let b ←holding [v] (eval o X.env)
   let c ←holding [v,b] (eval i X.env)
   standAt pos
   holding [v,b,c] (setItem b c v)
   release [v,b,c] []):=by intro _;rfl):PG X (.Subscript o i pos) (gSub e f t):=by
 intro d s σ H v u Q I r h;rw[l];refine xba (xeq (thn (m d s σ H _ I h) λb z a=>?_));obtain⟨x,H1,E,p,j⟩:=a;refine xba (xeq (thn (k d z σ H1 _ E j) λc w a=>?_));obtain⟨y,H2,C,A,G⟩:=a;refine xba (xnp (xba (xeq (thn (q d w σ H2 x y v b c u _ C p A r G) λ_ J a=>?_))));obtain⟨H3,g,n⟩:=a;exact wpAny_release ⟨σ,H3,g,n⟩
end
def tAsg(a:TE) (g:TG):TS:=λD σ H=>a σ H λx H1=>g x σ H1 D.nx
section
variable {X:Cx}{pos:Pos}
theorem zbsp{a e:Expr}{d:TE}{g:TG}(l:PE X e d)(f:PG X a g)(k:swapsWithSole [a] e pos.line X.env=pure false:=by rfl)(o:swappedStores [a] e X.env=pure none:=by rfl)
  (p:(assignEach [a] X.env).map (·.2)=[assign a X.env]:=by rfl):PS X (.Assign [a] e pos) (tAsg d g):=by
 intro c s σ H D I h;refine wpAny_Assign_stores (thn (l c s σ H _ I h) λv n b=>?_) k o;obtain⟨x,H1,m,i,j⟩:=b;rw[p];exact thn (f c n σ H1 x v _ m i j) λ_ r q=>q
theorem zbsl{i:Nat}{x:Str}{e:Expr}{c:TE}{a:Pos}(o:X.N.Nodup)(n:X.N[i]?=some x)(d:Loc X.env.scope x)(m:PE X e c)(l:swapsWith e (some (.Name x a)) pos.line X.env=pure false:=by rfl)(f:X.fn x=true\/X.env.scope.names.lookup x=some .local:=by first|exact .inl rfl|exact .inr rfl|assumption):
  PS X (.Assign [.Name x a] e pos) (tAsg c (gName i)):=by
 intro j s σ H D I h;refine wpAny_Assign_Name (thn (m j s σ H _ I h) λv t b=>?_) l;obtain⟨y,H1,q,g,k⟩:=b;exact znv q o n d g (λr p=>⟨_,H1,p,k⟩) f
end
def tAug(i:Nat) (a:TE) (b:TIp):TS:=λD σ H=>∃x,σ[i]?=some (some x)/\a σ H λy H1=>b x y H1 λz H2=>D.nx (σ.set i (some z)) H2
section
variable {X:Cx}{pos:Pos}
theorem zbso{i:Nat}{x:Str}{e:Expr}{t:TE}{f:Operator}{q:TIp}{d:Pos}(U:X.N.Nodup)(o:X.N[i]?=some x)(g:Loc X.env.scope x)(G:PE X e t)(Y:PIp X f q)(hf:X.fn x=true\/X.env.scope.names.lookup x=some .local:=by first|exact .inl rfl|exact .inr rfl|assumption):
  PS X (.AugAssign (.Name x d) f e pos) (tAug i t q):=by
 intro j s σ H D I h;obtain⟨v,A,h⟩:=h;obtain⟨m,P,Q⟩:=I.loc;have n:Vis X.env.scope x:=by rcases g with k|k;exact .inl k;exact .inr (.inl k)
 obtain⟨u,r,l⟩:=Q i x v o A n;refine wpAny_AugAssign_Name ?_;have p:wpAny (model X.prog X.w) X.A (eval e X.env) (λw J=>wpAny (model X.prog X.w) X.A (inplaceOp f u w) (λr S=>wpAny (model X.prog X.w) X.A (storeName X.env x r) (λ_=>SP X j D .next) X.xe S) X.xe J) X.xe s:=by
  refine thn (G j s σ H _ I h) λw s1 b=>?_
  obtain⟨y,H1,I1,r1,E⟩:=b;refine thn (Y j s1 σ H1 v y u w _ I1 r r1 E) λz s2 b=>?_
  obtain⟨zv,H2,I2,r2,q2⟩:=b;exact znv I2 U o g r2 (λs3 C=>⟨_,H2,C,q2⟩) hf
 rcases l with⟨hk,hm⟩|⟨hk,c,hc,a⟩
 ·exact wpAny_loadName_local I.ok.kind hk P hm p
 ·rcases hk with hk|hk
  ·exact wpAny_loadName_cell I.ok.kind hk hc a p
  ·rcases g with k|k
   ·have:X.env.scope.names.lookup x=some .free:=hk;rw[k] at this;cases this
   ·have:X.env.scope.names.lookup x=some .free:=hk;rw[k] at this;cases this
end
def ipI(f:Int->Int->Int):TIp:=λx y H Q=>∃i j,x=.int i/\y=.int j/\Q (.int (f i j)) H
theorem zbuh:PIp X .Sub (ipI λi j=>i-j):=by
 intro e s σ H x y v u Q I b d h;obtain⟨i,j,a,c,q⟩:=h;subst a;subst c
 obtain⟨t,rfl⟩:=b;obtain⟨f,rfl⟩:=d;exact isub_int ⟨.int _,H,I.tok _,⟨_,rfl⟩,q⟩
def tWhile(c:TT) (tb:TS):TS:=λD σ H=>∃W:Nat->St->Hp->Prop,(∃m,W m σ H)/\∀m σ H,W m σ H ->
 c σ H λb H1=>if b=true then ∃N:St->Hp->Prop,(∀e d,N e d->∃a,a<m/\W a e d)/\tb {D with nx:=N,ct:=N,bk:=D.nx} σ H1 else D.nx σ H1
section
variable {X:Cx}{pos:Pos}
theorem zbfu{c:Expr}{a:List Stmt}{y:TT}{tb:TS}(x:PassesOwn (model X.prog X.w) X.A X.env X.xe)(P:PT X c y)(U:PSs X a tb):PS X (.While c a [] pos) (tWhile y tb):=by
 intro l s σ H D I h;obtain⟨W,⟨C,S⟩,e⟩:=h;refine wpAny_While (codeAny_whileLoop (λn E=>∃u w,Inv X l u w E/\W n u w) ?_ C ⟨σ,H,I,S⟩);rintro n J ⟨i,H1,Q,A⟩;refine xib x (thn (P l J i H1 _ Q (e n i H1 A)) λb G p=>?_);obtain⟨H2,z,j⟩:=p;cases b with
 |true=>
  obtain⟨N,t,j⟩:=j;rw[if_pos rfl];refine xib x (thn (U l G i H2 _ z j) λf Y g=>?_);cases f with
  |next=>
   obtain⟨d,H3,k,m⟩:=g;obtain⟨q,o,r⟩:=t d H3 m;exact⟨q,o,d,H3,k,r⟩
  |cont=>
   obtain⟨d,H3,k,m⟩:=g;obtain⟨q,o,r⟩:=t d H3 m;exact⟨q,o,d,H3,k,r⟩
  |brk=>exact g
  |ret v=>exact g
 |false=>
  rw[if_neg xgg];exact xmm ⟨i,H2,z,j⟩
end
structure It where
 go:Nat->Hp->Prop
 yld:Nat->Hp->V->Hp->Prop
 stop:Nat->Hp->Prop
def FpOk(X:Cx) (a:List (Addr×Obj)) (H:Hp) (b:Addr):Prop:=
 H b=none/\b≠X.env.locals/\b∉X.fs/\(b∈X.ex\/X.s₀.heap.objs.size<=b)/\(∀x c,X.env.cells.lookup x=some c->c≠b)/\∀p∈X.pn++a,p.1≠b
theorem Inv.fpOk(I:Inv X aU σ H s)(a:s.heap.objs.size<=b)(f:H' b=none):FpOk X aU H' b:=by
 refine⟨f,xkq (xbn I.lt a),I.nofs a,.inr (xbb I.sz a),λx c e z=>?_,λp d z=>?_⟩
 ·obtain⟨v,q⟩:=I.cell x c e;exact absurd (xbn q.lt (by rw[z];exact a)) (xhg _)
 ·exact absurd (xbn (xcd (I.pin p d).1) (by rw[z];exact a)) (xhg _)
structure Turn (P:Program) (w:World) (K:Fg) (tg:Expr) (J:It) (fp:List Addr) (it:Addr) (tn:Nat->Heap->Prop):Prop where
 mem:it∈fp
 obj:∀i h,tn i h->∀b∈fp,∃o,h.get? b=some o/\∀v,o.data≠.cell v
 keep:∀i h h',tn i h->(∀b∈fp,∀o,h.get? b=some o->h'.get? b=some o)->tn i h'
 item:∀(X:Cx),X.prog=P->X.w=w->X.K=K->X.calm=true->∀(i:Nat) (aU:List (Addr×Obj)) (s:Shared) (σ:St) (H:Hp) (E:Value->Shared->Prop),Inv X aU σ H s->(∀b∈fp,FpOk X aU H b)->tn i s.heap->J.go i H ->
  wpAny (model P w) X.A (pyNext (.ref it)) (λr s1=>∃u,r=some u /\
   wpAny (model P w) X.A (letOwnedTupleGo tg (.ref it) u) (λ_ s2=>∃x H',Inv X aU σ H' s2/\RelV x u/\J.yld i H x H'/\tn (i+1) s2.heap/\∀b∈fp,H' b=none) E s1) E s
 done:∀(X:Cx),X.prog=P->X.w=w->X.K=K->X.calm=true->∀(i:Nat) (aU:List (Addr×Obj)) (s:Shared) (σ:St) (H:Hp) (E:Value->Shared->Prop),Inv X aU σ H s->(∀b∈fp,FpOk X aU H b)->tn i s.heap->J.stop i H ->
  wpAny (model P w) X.A (pyNext (.ref it)) (λr s1=>r=none/\Inv X aU σ H s1) E s
 self:∀(A:Around) (i:Nat) (s:Shared) (Q:Value->Shared->Prop) (E:Value->Shared->Prop),tn i s.heap->Q (.ref it) s->wpAny (model P w) A (pyIter (.ref it)) Q E s
abbrev TI:=St->Hp->(It->Hp->Prop)->Prop
def PIE(X:Cx) (e:List (Addr×Obj)) (σ:St) (i:Expr) (R:It->Hp->Prop) (a:Value) (f:Shared):Prop:=
 ∃(d:Addr) (g:List Addr) (h:Nat->Heap->Prop) (J:It) (c:Hp),a=.ref d/\Inv X e σ c f/\Turn X.prog X.w X.K i J g d h/\h 0 f.heap/\(∀b∈g,FpOk X e c b)/\R J c
def PI(X:Cx) (c a:Expr) (e:TI):Prop:=
 ∀(b:List (Addr×Obj)) (s:Shared) (σ:St) (H:Hp) (R:It->Hp->Prop),Inv X b σ H s->e σ H R ->
  wpAny (model X.prog X.w) X.A (eval a X.env) (λv d=>wpAny (model X.prog X.w) X.A (pyIter v) (PIE X b σ c R) X.xe d) X.xe s
theorem zbrj{M:Model}{s:Shared}(c:s.heap.get? it=some o)(b:o.cls=.type n)(d:o.data=.fields vs)
    (e:["enumerate","zip","dict_itemiterator","dict_reverseitemiterator","odict_iterator","itertools.zip_longest","itertools.pairwise"].contains n=false)(a:Q () s):wpAny M A (letOwnedTupleGo tg (.ref it) u) Q E s:=by
  unfold letOwnedTupleGo;cases tg <;> first
    |exact xbe a
    | (cases u <;> first
        |exact xbe a
        | (refine xba (wpAny_load c ?_)
           rw[b,d];show wpAny M A (if(["enumerate","zip","dict_itemiterator","dict_reverseitemiterator","odict_iterator","itertools.zip_longest","itertools.pairwise"].contains n&&vs[0]?==some (rawInt _))=true then _ else _) Q E s
           rw[if_neg (by intro h; rw[e,Bool.false_and] at h; cases h)]
           exact xbe a))
def Itl(K:Fg) (a:Addr):It:=
 ⟨λi H=>∃b x,SqL K H a b/\b[i]?=some x,λi H x c=>c=H/\∀b,SqL K H a b->b[i]?=some x,λi H=>∃b,SqL K H a b/\b.length<=i⟩
def Itt(K:Fg) (a:Addr):It:=
 ⟨λi H=>∃b x,SqT K H a b/\b[i]?=some x,λi H x c=>c=H/\∀b,SqT K H a b->b[i]?=some x,λi H=>∃b,SqT K H a b/\b.length<=i⟩
noncomputable def Itr(lo:Int) (n:Nat):It:=⟨λi _=>i<n,λi H x a=>a=H/\x=.int (lo+i),λi _=>n<=i⟩
theorem zyt{P:Program}{w:World}{K:Fg}{tg:Expr}(a it:Addr):Turn P w K tg (Itl K a) [it] it (λi h=>h.IsListIter it a i) where
 mem:=by simp
 obj:=λi h f b g=>by
  have e:b=it:=by simpa using g
  subst e;obtain⟨o,e,c,d⟩:=f;exact⟨o,e,λv z=>by rw[d] at z;cases z⟩
 keep:=λi h n f k=>f.at λo e=>k it (by simp) o e
 item:=by
  intro X Y r q hc i aU s σ H E I m f G;subst Y r q;obtain⟨xs,x,l,t⟩:=G;obtain⟨C,S,p,hz⟩:=I.list l;obtain⟨u,hu,ru⟩:=S.get t;obtain⟨A,J,f2,Q,y,U⟩:=m it (by simp);refine wpAny_pyNext_list_item f p.isList (x:=u) (by simpa using hu) λn j sb=>?_
  have I1:Inv X aU σ H {s with heap:=n}:=I.turned (t':=s.toks) (λb o g e=>(sb.2 b g).trans e) A J Q y U;obtain⟨o,e,c,d⟩:=id j;exact⟨u,rfl,zbrj (s:={s with heap:=n}) e c d (by decide) ⟨x,H,I1,ru,⟨rfl,λys hy=>by rw[I.list_inj hy l];exact t⟩,j,λb g=>(m b g).1⟩⟩
 done:=by
  intro X Y r q hc i aU s σ H E I m f G;subst Y r q;obtain⟨xs,l,t⟩:=G;obtain⟨C,S,p,hz⟩:=I.list l;obtain⟨A,J,f2,Q,y,U⟩:=m it (by simp);have hl:=S.length;exact wpAny_pyNext_list_end (I.ok.hd hc) f p.isList (by simp;lia) λn eb=>⟨rfl,I.turned (t':=s.toks) (λb o g e=>eb b o g e) A J Q y U⟩
 self:=λ_ _ _ _ _ f h=>wpAny_pyIter_listiter f h
theorem ztn{P:Program}{w:World}{K:Fg}{tg:Expr}(a it:Addr):Turn P w K tg (Itt K a) [it] it (λi h=>h.IsTupleIter it a i) where
 mem:=by simp
 obj:=λi h f b j=>by
  have e:b=it:=by simpa using j
  subst e;obtain⟨o,e,c,d⟩:=f;exact⟨o,e,λv z=>by rw[d] at z;cases z⟩
 keep:=λi h q f k=>f.at λo e=>k it (by simp) o e
 item:=by
  intro X Y t r hc i aU s σ H E I n f G;subst Y t r;obtain⟨xs,x,m,y⟩:=G;obtain⟨g,S,p,hz⟩:=I.tuple m;obtain⟨u,hu,ru⟩:=S.get y;obtain⟨C,J,f2,Q,A,U⟩:=n it (by simp);refine wpAny_pyNext_tuple_item f (show s.heap.IsTuple a g.toArray from p) (x:=u) (by simpa using hu) λq l sb=>?_
  have I1:Inv X aU σ H {s with heap:=q}:=I.turned (t':=s.toks) (λb o j e=>(sb.2 b j).trans e) C J Q A U;obtain⟨o,e,c,d⟩:=id l;exact⟨u,rfl,zbrj (s:={s with heap:=q}) e c d (by decide) ⟨x,H,I1,ru,⟨rfl,λys hy=>by rw[I.tuple_inj hy m];exact y⟩,l,λb j=>(n b j).1⟩⟩
 done:=by
  intro X Y t r hc i aU s σ H E I n f G;subst Y t r;obtain⟨xs,m,y⟩:=G;obtain⟨g,S,p,hz⟩:=I.tuple m;obtain⟨C,J,f2,Q,A,U⟩:=n it (by simp);have hl:=S.length;exact wpAny_pyNext_tuple_end (I.ok.hd hc) f (show s.heap.IsTuple a g.toArray from p) (by simp;lia) λq eb=>⟨rfl,I.turned (t':=s.toks) (λb o j e=>eb b o j e) C J Q A U⟩
 self:=λ_ _ _ _ _ f h=>wpAny_pyIter_tupleiter f h
theorem zto{P:Program}{w:World}{K:Fg}{U:Expr}(it:Addr)(lo:Int)(n:Nat):Turn P w K U (Itr lo n) [it] it (λi h=>IsRangeIter h it (lo+(i:Nat)*1) ((n:Int)-(i:Nat)) 1) where
 mem:=by simp
 obj:=λi h a b c=>by
  have e:b=it:=by simpa using c
  subst e
  exact⟨_,a,λv z=>by
   have z':Data.fields _=Data.cell v:=z
   cases z'⟩
 keep:=λi h g a k=>k it (by simp) _ a
 item:=by
  intro X A l j x i C s σ H E I f a q;subst A l j;obtain⟨p,r,Y,u,m,y⟩:=f it (by simp);have W:=Walks.range (prog:=X.prog) (w:=X.w) (I.ok.hd x) it lo 1 n;refine W.item i s _ _ q a λv g G S d J=>?_
  obtain⟨t,rfl⟩:=S;have I1:Inv X C σ H {s with heap:=g,toks:=G}:=I.turned (λb o c e=>J b o (by simpa using c) e) p r u m y;refine⟨_,rfl,zbrj (s:={ s with heap:=g,toks:=G }) (n:="range_iterator") d rfl rfl (by decide) ⟨.int (lo + i),H,I1,⟨t,?_⟩,⟨rfl,rfl⟩,d,λb c=>(f b c).1⟩⟩
  rw[Int.mul_one]
 done:=by
  intro X A l j x i C s σ H E I f a q;subst A l j;obtain⟨p,r,Y,u,m,y⟩:=f it (by simp);exact wpAny_pyNext_range_end (I.ok.hd x) a (by have:n<=i:=q;lia) λg Q=>⟨rfl,I.turned (t':=s.toks) (λb o c e=>Q b o c e) p r u m y⟩
 self:=λ_ _ _ _ _ a h=>wpAny_pyIter_rangeiter a h
def iList(K:Fg) (b:TE):TI:=λσ H R=>b σ H λx H1=>∃a,x=.ref a/\(∃c,SqL K H1 a c)/\R (Itl K a) H1
def iTup(K:Fg) (b:TE):TI:=λσ H R=>b σ H λx H1=>∃a,x=.ref a/\(∃c,SqT K H1 a c)/\R (Itt K a) H1
section
variable {X:Cx}{tg:Expr}
theorem zbmd{l:Expr}{g:TE}(t:PE X l g):PI X tg l (iList X.K g):=by
 intro m s σ H R I h;refine thn (t m s σ H _ I h) λv d f=>?_
 obtain⟨x,H1,c,k,n⟩:=f;obtain⟨a,e,⟨y,j⟩,q⟩:=n;subst e;cases k;obtain⟨i,u,p,w⟩:=c.list j;refine xlo p.isList ?_;refine⟨d.heap.objs.size,[d.heap.objs.size],_,_,H1,rfl,c.kept (t':=d.toks) λb o e=>xbk _ e,zyt a _,⟨_,xci _ rfl,rfl,rfl⟩,λb r=>?_,q⟩;have e:b=d.heap.objs.size:=by simpa using r
 subst e;exact c.fpOk (xbj _) (c.hok.fresh (xbj _))
theorem zbsq{l:Expr}{i:TE}(t:PE X l i):PI X tg l (iTup X.K i):=by
 intro m s σ H R I h;refine thn (t m s σ H _ I h) λv c g=>?_
 obtain⟨x,H1,d,k,n⟩:=g;obtain⟨a,e,⟨y,j⟩,q⟩:=n;subst e;cases k;obtain⟨f,u,p,w⟩:=d.tuple j;refine xky (show c.heap.IsTuple a f.toArray from p) ?_;refine⟨c.heap.objs.size,[c.heap.objs.size],_,_,H1,rfl,d.kept (t':=c.toks) λb o e=>xbk _ e,ztn a _,⟨_,xci _ rfl,rfl,rfl⟩,λb r=>?_,q⟩;have e:b=c.heap.objs.size:=by simpa using r
 subst e;exact d.fpOk (xbj _) (d.hok.fresh (xbj _))
end
theorem zbfq{s:Shared}{lo a:Int}{c:Nat}(I:Inv X aU σ H s)(k:-(2^62)<=lo)(g:lo<2^62)(j:-(2^62)<=a)(i:a<2^62)
  (q:R (Itr lo (a-lo).toNat) H):wpAny (model X.prog X.w) X.A (pyIter (.ref s.heap.objs.size)) (PIE X aU σ tg R) E { s with heap:=s.heap.push { cls:=.type "range",data:=.fields #[.int lo t,.int a u,.int 1 v] },toks:=c }:=by
 refine wpAny_pyIter_range (IsRange.new ..) (small_one k g j i) ?_;have d:Inv X aU σ H { s with heap:=s.heap.push { cls:=.type "range",data:=.fields #[.int lo t,.int a u,.int 1 v] },toks:=c }:=I.kept λb o e=>xbk _ e
 refine⟨(s.heap.push { cls:=.type "range",data:=.fields #[.int lo t,.int a u,.int 1 v] }).objs.size,[(s.heap.push { cls:=.type "range",data:=.fields #[.int lo t,.int a u,.int 1 v] }).objs.size],_,_,H,rfl,
  d.kept (t':=c) λb o e=>xbk _ e,zto _ lo (a-lo).toNat,?_,λb l=>?_,q⟩
 ·have f:lo+((0:Nat):Int)*1=lo:=by simp
  have h:(((a-lo).toNat:Nat):Int)-((0:Nat):Int)=Builtin.Range.rangeSize lo a 1:=by rw[rangeSize_one];split<;>lia
  show IsRangeIter _ _ (lo+((0:Nat):Int)*1) ((((a-lo).toNat:Nat):Int)-((0:Nat):Int)) 1;rw[f,h];exact xci _ rfl
 ·have e:b=(s.heap.push { cls:=.type "range",data:=.fields #[.int lo t,.int a u,.int 1 v] }).objs.size:=by simpa using l
  subst e;exact d.fpOk (xbj _) (d.hok.fresh (xbj _))
def iRng1(a:TA):TI:=λσ H R=>a σ H λb H1=>∃j:Int,b=[.int j]/\-(2^62)<=j/\j<2^62/\R (Itr 0 j.toNat) H1
section
variable {X:Cx}{tg:Expr}
theorem zzq{a:Expr}{f:TA}{p b:Pos}(g:Gl X "range")(l:X.mg "range"=none)(u:PA X [a] f)(m:starEach [a] X.env=[(false,eval a X.env)]:=by rfl):PI X tg (.Call (.Name "range" p) [a] [] b) (iRng1 f):=by
 intro k s σ H R I h;refine Call_ (zvx I g l boot_range (xnd (thn (u b k s σ H _ I h) λv w d=>?_) m rfl));obtain⟨x,H1,n,i,c⟩:=d;obtain⟨j,e,c,o,q⟩:=c;subst e;cases i with
 |cons r rr=>
  cases rr;obtain⟨t,rfl⟩:=r;exact call_range_1 (zbfq n (by lia) (by lia) c o (by simpa using q))
end
def tFor(e:TI) (g:TG) (tb:TS):TS:=λD σ H=>e σ H λJ H1=>∃W:Nat->Nat->St->Hp->Prop,(∃m,W 0 m σ H1)/\∀i m σ H,W i m σ H ->
 (J.stop i H/\D.nx σ H)\/(J.go i H/\∃N:St->Hp->Prop,(∀c a,N c a->∃b,b<m/\W (i+1) b c a)/\∀x a,J.yld i H x a->g x σ a λd H2=>tb {D with nx:=N,ct:=N,bk:=D.nx} d H2)
noncomputable def pinsAt(a:List Addr) (h:Heap):List (Addr×Obj):=a.filterMap λb=>(h.get? b).map λo=>(b,o)
theorem zfl{h:Heap}(a:b∈fp)(e:h.get? b=some o):(b,o)∈pinsAt fp h:=List.mem_filterMap.mpr ⟨b,a,by rw[e];rfl⟩
theorem zbaa(a:p∈pinsAt fp h):p.1∈fp/\h.get? p.1=some p.2:=by
 obtain⟨b,c,e⟩:=List.mem_filterMap.mp a;cases q:h.get? b with
 |none=>rw[q] at e;cases e
 |some o=>
  rw[q] at e;have d:(b,o)=p:=xde e;subst d;exact⟨c,q⟩
theorem Inv.pinned(I:Inv X aU σ H s)(g:∀b∈c,FpOk X aU H b)(k:∀b∈c,∃o,s.heap.get? b=some o/\∀v,o.data≠.cell v):Inv X (aU++pinsAt c s.heap) σ H s:=
 I.pins_of λp h=>(xca.mp h).elim (λz=>I.pin p (xdy _ z)) λz=>by
  obtain⟨f,e⟩:=zbaa z;obtain⟨j,i,l,_⟩:=g p.1 f;obtain⟨o,a,d⟩:=k p.1 f;rw[e] at a;cases a
  exact⟨e,j,i,l,d⟩
theorem Inv.unpinned(I:Inv X (aU++pl) σ H s):Inv X aU σ H s:=I.pins_of λp a=>I.pin p (xdy _ (xhb _ a))
section
variable {X:Cx}{tg:Expr}
theorem zbsn{c:Expr}{w:List Stmt}{wi:TI}{g:TG}{tb:TS}{a0:Pos}(U:PassesOwn (model X.prog X.w) X.A X.env X.xe)(hc:X.calm=true)(hi:PI X tg c wi)(hg:PG X tg g)(q:PSs X w tb)
  (hs:∀x,foldedSetIterable c X.env x=pure x:=by intro _;rfl):PS X (.For tg c w [] a0) (tFor wi g tb):=by
 intro y s σ H D I h;refine wpAny_For (thn (hi y s σ H _ I h) λv s1 h1=>thn h1 λa4 s2 h2=>?_) hs;obtain⟨it,G,tn,J,H2,e,I2,T,a1,f2,W,⟨m0,w0⟩,Q⟩:=h2;subst e;have j:∀{H':Hp},(∀b∈G,H' b=none)->∀b∈G,FpOk X y H' b:=λhn b q=>⟨hn b q,(f2 b q).2⟩
 refine codeAny_forLoop_any (λn s'=>∃i E H',Inv X y E H' s'/\tn i s'.heap/\(∀b∈G,H' b=none)/\W i n E H') ?_ m0 ⟨0,σ,H2,I2,a1,λb q=>(f2 b q).1,w0⟩;rintro n s3 ⟨i,A,H3,I3,C,Y,w3⟩;rcases Q i n A H3 w3 with⟨P,qn⟩|⟨go,N,hN,step⟩
 ·refine xib U (thn (T.done X rfl rfl rfl hc i y s3 A H3 X.xe I3 (j Y) C P) λr s4 a=>?_);obtain⟨hr,I4⟩:=a;subst hr;exact xmm ⟨A,H3,I4,qn⟩
 ·refine xib U (thn (T.item X rfl rfl rfl hc i y s3 A H3 X.xe I3 (j Y) C go) λr s4 a=>?_);obtain⟨u,hr,h4⟩:=a;subst hr;refine xib U (thn h4 λ_ s5 a=>?_);obtain⟨x,H5,I5,r5,y5,z,a3⟩:=a;have a2:=I5.pinned (j a3) (T.obj _ _ z);refine xib U (thn (hg _ s5 A H5 x u _ a2 r5 (step x H5 y5)) λ_ s6 a=>?_);obtain⟨σ6,H6,I6,q6⟩:=a;refine xib U (thn (q _ s6 σ6 H6 _ I6 q6) λf s7 t=>?_);have again:∀{k:St}{l:Hp},Inv X (y++pinsAt G s5.heap) k l s7->N k l->∃m,m<n/\∃i E H',Inv X y E H' s7/\tn i s7.heap/\(∀b∈G,H' b=none)/\W i m E H':=λ{k l} p S=>by
   obtain⟨m',hm,w7⟩:=hN k l S;refine⟨m',hm,i+1,k,l,p.unpinned,T.keep _ _ _ z λb q o e=>(p.pin (b,o) (xdy _ (xdy _ (zfl q e)))).1,λb q=>?_,w7⟩;obtain⟨o,e,d⟩:=T.obj _ _ z b q;exact(p.pin (b,o) (xdy _ (xdy _ (zfl q e)))).2.1
  cases f with
  |next=>obtain⟨k,l,p,S⟩:=t;exact again p S
  |cont=>obtain⟨k,l,p,S⟩:=t;exact again p S
  |brk=>obtain⟨k,l,p,t⟩:=t;exact⟨k,l,p.unpinned,t⟩
  |ret v=>obtain⟨x7,k,l,p,r7,t⟩:=t;exact⟨x7,k,l,p.unpinned,r7,t⟩
end
abbrev R2:=V->V->Hp->VK->Prop
def OpR(X:Cx) (f:Value->Value->Sem Value) (r:R2):Prop:=
 ∀(a:List (Addr×Obj)) (s:Shared) (σ:St) (H:Hp) (x y:V) (v u:Value) (Q:VK),Inv X a σ H s->RelV x v->RelV y u->r x y H Q ->
  wpAny (model X.prog X.w) X.A (f v u) (EP X a σ Q) X.xe s
def UnR(X:Cx) (f:Value->Sem Value) (r:V->Hp->VK->Prop):Prop:=
 ∀(a:List (Addr×Obj)) (s:Shared) (σ:St) (H:Hp) (x:V) (v:Value) (Q:VK),Inv X a σ H s->RelV x v->r x H Q ->
  wpAny (model X.prog X.w) X.A (f v) (EP X a σ Q) X.xe s
def CallR(X:Cx) (f:Value) (r:List V->Hp->VK->Prop):Prop:=
 ∀(b:List (Addr×Obj)) (s:Shared) (σ:St) (H:Hp) (c:List V) (a:List Value) (Q:VK),Inv X b σ H s->Vals c a->r c H Q ->
  wpAny (model X.prog X.w) X.A (call f a) (EP X b σ Q) X.xe s
def TruR(X:Cx) (r:V->Hp->(Bool->Hp->Prop)->Prop):Prop:=
 ∀(a:List (Addr×Obj)) (s:Shared) (σ:St) (H:Hp) (x:V) (v:Value) (Q:Bool->Hp->Prop),Inv X a σ H s->RelV x v->r x H Q ->
  wpAny (model X.prog X.w) X.A (truthy v) (TP X a σ Q) X.xe s
def tOp(r:R2) (a tb:TE):TE:=λσ H Q=>a σ H λx H1=>tb σ H1 λy H2=>r x y H2 Q
def tUn(r:V->Hp->VK->Prop) (a:TE):TE:=λσ H Q=>a σ H λx H1=>r x H1 Q
def rI(C:Int->Int->Prop) (g:Int->Int->V):R2:=λx y H Q=>∃i j,x=.int i/\y=.int j/\C i j/\Q (g i j) H
def rI0(g:Int->Int->V):R2:=λx y H Q=>∃i j,x=.int i/\y=.int j/\Q (g i j) H
def rU(g:Int->V):V->Hp->VK->Prop:=λx H Q=>∃i,x=.int i/\Q (g i) H
section
variable {X:Cx}{a:Expr}{b:Expr}{ta:TE}{tb:TE}
theorem binT(r:PE X a ta)(t:PE X b tb){d:List (Addr×Obj)}{s:Shared}{σ:St}{H:Hp}{R:V->V->Hp->Prop}(I:Inv X d σ H s)
  (h:ta σ H λx H1=>tb σ H1 λy H2=>R x y H2){Q:Value->Shared->Prop}{f:Value->Value->Sem Value}
  (i:∀v u e x y H2,Inv X d σ H2 e->RelV x v->RelV y u->R x y H2->wpAny (model X.prog X.w) X.A (f v u) Q X.xe e):
  wpAny (model X.prog X.w) X.A (eval a X.env) (λv g=>wpAny (model X.prog X.w) X.A (eval b X.env) (λu q=>wpAny (model X.prog X.w) X.A (f v u) Q X.xe q) X.xe g) X.xe s:=by
 refine thn (r d s σ H _ I h) λv n c=>?_
 obtain⟨x,H1,m,j,k⟩:=c;refine thn (t d n σ H1 _ m k) λu e c=>?_
 obtain⟨y,H2,l,p,o⟩:=c;exact i v u e x y H2 l j p o
end
section
variable {X:Cx}{a:Expr}{b:Expr}{ta:TE}{tb:TE}{pos:Pos}
theorem zbxu{c:Operator}{r:R2}(i:OpR X (binaryOp c) r)(j:PE X a ta)(k:PE X b tb):PE X (.BinOp a c b pos) (tOp r ta tb):=by
 intro d s σ H Q I h;exact wpAny_BinOp (binT j k I h λv u g x y H2 f l e q=>i d g σ H2 x y v u Q f l e q)
end
section
variable {X:Cx}{a:Expr}{ta:TE}{pos:Pos}
theorem zbxt{c:UnaryOp}{r:V->Hp->VK->Prop}(g:UnR X (unaryOp c) r)(j:PE X a ta):PE X (.UnaryOp c a pos) (tUn r ta):=by
 intro b s σ H Q I h;exact UnaryOp_ (thn (j b s σ H _ I h) λv i ⟨x,H1,f,d,e⟩=>g b i σ H1 x v Q f d e)
end
section
variable {X:Cx}
theorem opI{f:Value->Value->Sem Value}{C:Int->Int->Prop}{g:Int->Int->Int}
  (rule:∀(i j:Int) (t u:Tok) (s:Shared) (Q:Value->Shared->Prop) (E:Value->Shared->Prop),C i j->Q (.int (g i j) s.toks) {s with toks:=s.toks+1}->wpAny (model X.prog X.w) X.A (f (.int i t) (.int j u)) Q E s):
  OpR X f (rI C λi j=>.int (g i j)):=by
 intro e s σ H x y v u Q I d b h;obtain⟨i,j,rfl,rfl,a,q⟩:=h;obtain⟨t,rfl⟩:=d;obtain⟨c,rfl⟩:=b;exact rule i j t c s _ _ a ⟨.int (g i j),H,I.tok _,⟨_,rfl⟩,q⟩
theorem opI0{f:Value->Value->Sem Value}{g:Int->Int->Int}
  (rule:∀(i j:Int) (t u:Tok) (s:Shared) (Q:Value->Shared->Prop) (E:Value->Shared->Prop),Q (.int (g i j) s.toks) {s with toks:=s.toks+1}->wpAny (model X.prog X.w) X.A (f (.int i t) (.int j u)) Q E s):
  OpR X f (rI0 λi j=>.int (g i j)):=by
 intro d s σ H x y v u Q I b a h;obtain⟨i,j,rfl,rfl,q⟩:=h;obtain⟨t,rfl⟩:=b;obtain⟨c,rfl⟩:=a;exact rule i j t c s _ _ ⟨.int (g i j),H,I.tok _,⟨_,rfl⟩,q⟩
theorem opB0{f:Value->Value->Sem Value}{g:Int->Int->Bool}
  (rule:∀(i j:Int) (t u:Tok) (s:Shared) (Q:Value->Shared->Prop) (E:Value->Shared->Prop),Q (.bool (g i j)) s->wpAny (model X.prog X.w) X.A (f (.int i t) (.int j u)) Q E s):
  OpR X f (rI0 λi j=>.bl (g i j)):=by
 intro d s σ H x y v u Q I b a h;obtain⟨i,j,rfl,rfl,q⟩:=h;obtain⟨t,rfl⟩:=b;obtain⟨c,rfl⟩:=a;exact rule i j t c s _ _ ⟨.bl (g i j),H,I,rfl,q⟩
end
noncomputable def CPow(i j:Int):Prop:=0<=j/\j<=1000000/\i.natAbs<2^64
noncomputable def CMul(i j:Int):Prop:=(-(2^64)<i/\i<2^64)\/(-(2^64)<j/\j<2^64)
theorem CMul.ok(h:CMul i j):IntMulOk i j:=by
 rcases h with⟨a,b⟩|⟨a,b⟩
 ·exact .of_left (intBits_le_64 a b)
 ·exact .of_right (intBits_le_64 a b)
theorem zbti:OpR X (binaryOp .Add) (rI0 λi j=>.int (i+j)):=opI0 λ_ _ _ _ _ _ _ q=>add_int q
theorem zbtc:OpR X (binaryOp .Sub) (rI0 λi j=>.int (i-j)):=opI0 λ_ _ _ _ _ _ _ q=>sub_int q
section
variable {X:Cx}
theorem zjb:OpR X (binaryOp .Mult) (rI CMul λi j=>.int (i*j)):=opI λ_ _ _ _ _ _ _ a q=>mul_int q a.ok
end
theorem zsf:OpR X (binaryOp .Mod) (rI (λ_ j=>0<j) λi j=>.int (i%j)):=opI λi j _ _ _ _ _ a q=>by
 have b:(0:Int)<j:=a;exact mod_int' (by lia) (by rw[Int.fmod_eq_emod_of_nonneg i (by lia)];exact q)
section
variable {X:Cx}
theorem zbtd:OpR X (binaryOp .Pow) (rI CPow λi j=>.int (i^j.toNat)):=opI λ_ _ _ _ _ _ _ a q=>pow_int_small a.1 a.2.1 a.2.2 q
end
theorem zbgq:OpR X (binaryOp .BitAnd) (rI0 λi j=>.int (Builtin.bitAnd i j)):=opI0 λ_ _ _ _ _ _ _ q=>and_int q
section
variable {X:Cx}
theorem unI{f:Value->Sem Value}{g:Int->Int}
  (rule:∀(i:Int) (t:Tok) (s:Shared) (Q:Value->Shared->Prop) (E:Value->Shared->Prop),Q (.int (g i) s.toks) {s with toks:=s.toks+1}->wpAny (model X.prog X.w) X.A (f (.int i t)) Q E s):
  UnR X f (rU λi=>.int (g i)):=by
 intro b s σ H x v Q I a h;obtain⟨i,rfl,q⟩:=h;obtain⟨t,rfl⟩:=a;exact rule i t s _ _ ⟨.int (g i),H,I.tok _,⟨_,rfl⟩,q⟩
end
theorem zbrp:UnR X (unaryOp .USub) (rU λi=>.int (-i)):=unI λ_ _ _ _ _ q=>neg_int q
theorem zbxy:OpR X (compareOp .Lt) (rI0 λi j=>.bl (decide (i<j))):=opB0 λ_ _ _ _ _ _ _ q=>lt_int q
theorem zbmv:OpR X (compareOp .LtE) (rI0 λi j=>.bl (decide (i<=j))):=opB0 λ_ _ _ _ _ _ _ q=>le_int q
theorem zbtg:OpR X (compareOp .Gt) (rI0 λi j=>.bl (decide (j<i))):=opB0 λ_ _ _ _ _ _ _ q=>gt_int q
theorem zbxz:OpR X (compareOp .GtE) (rI0 λi j=>.bl (decide (j<=i))):=opB0 λ_ _ _ _ _ _ _ q=>ge_int q
theorem OpR.or(h:OpR X f r)(d:OpR X f r'):OpR X f (λx y H Q=>r x y H Q\/r' x y H Q):=by
 intro a s σ H x y v u Q I c b q;rcases q with q|q
 ·exact h a s σ H x y v u Q I c b q
 ·exact d a s σ H x y v u Q I c b q
theorem nomark(b:Expr) (h:op≠.In:=by decide)(d:op≠.NotIn:=by decide):behindInMarks op b=false:=by
 have a:(op==CmpOp.In)=false:=by cases op<;>first|rfl|exact absurd rfl h
 have c:(op==CmpOp.NotIn)=false:=by cases op<;>first|rfl|exact absurd rfl d
 cases b<;>simp[behindInMarks,a,c]
theorem zbmm(i:OpR X (compareOp op) r)(j:PE X a ta)(k:PE X b tb)(d:behindInMarks op b=false):PE X (.Compare a [op] [b] pos) (tOp r ta tb):=by
 intro c s σ H Q I h;exact wpAny_Compare1 (binT j k I h λv u g x y H2 f l e q=>i c g σ H2 x y v u Q f l e q) d
def tTest(t:TE):TT:=λσ H Q=>t σ H λx a=>∃k,x=.bl k/\Q k a
section
variable {X:Cx}{a:Expr}{b:Expr}{c:Expr}{ta:TE}{tb:TE}{pos:Pos}
theorem zblr{f:CmpOp}{r:R2}(q:OpR X (compareOp f) r)(E:PE X a ta)(G:PE X b tb)(l:behindInMarks f b=false):PT X (.Compare a [f] [b] pos) (tTest (tOp r ta tb)):=by
 intro d s σ H Q I h
 refine wpAny_isTrue_Compare1 (thn (E d s σ H _ I h) λv t ⟨x,H1,p,i,j⟩=>thn (G d t σ H1 _ p j) λu o ⟨y,H2,n,w,C⟩=>
  thn (q d o σ H2 x y v u _ n i w C) λc J ⟨z,H3,g,m,k,e,A⟩=>?_) l
 subst e;cases m;exact xfm ⟨H3,g,A⟩
end
def tChain(r d:R2) (e tb b:TE):TE:=λσ H Q=>e σ H λx H1=>tb σ H1 λy H2=>r x y H2 λz H3=>∃k,z=.bl k /\
 (if k=true then b σ H3 λa c=>d y a c Q else Q (.bl false) H3)
section
variable {X:Cx}{a:Expr}{b:Expr}{c:Expr}{ta:TE}{tb:TE}{tc:TE}{pos:Pos}
theorem zbgh{i f:CmpOp}{r m:R2}(A:OpR X (compareOp i) r)(j:OpR X (compareOp f) m)(t:PE X a ta)(hb:PE X b tb)(hc:PE X c tc)
  (P:lastMarks [i,f] [b,c]=false:=by with_unfolding_all rfl):PE X (.Compare a [i,f] [b,c] pos) (tChain r m ta tb tc):=by
 intro g s σ H Q I h
 refine Compare_chain (thn (t g s σ H _ I h) λv Y ⟨x,H1,I1,J,p⟩=>chain_link (thn (hb g Y σ H1 _ I1 p) λu U ⟨y,H2,I2,o,q2⟩=>
  thn (A g U σ H2 x y v u _ I2 J o q2) λd w ⟨z,H3,l,r3,k,e,n⟩=>?_)) P
 subst e;cases r3;refine xfm ?_;cases k with
 |false=>exact ite_ff ⟨.bl false,H3,l,rfl,n⟩
 |true=>exact ite_tt (chain_last (thn (hc g w σ H3 _ l n) λw' C ⟨E,S,q,r4,G⟩=>j g C σ S y E u w' Q q o r4 G))
theorem zbfs{i f:CmpOp}{r n:R2}(E:OpR X (compareOp i) r)(l:OpR X (compareOp f) n)(A:PE X a ta)(hb:PE X b tb)(hc:PE X c tc)
  (hm:lastMarks [i,f] [b,c]=false:=by with_unfolding_all rfl):PT X (.Compare a [i,f] [b,c] pos) (tTest (tChain r n ta tb tc)):=by
 intro g s σ H Q I h
 refine isTrue_chain (thn (A g s σ H _ I h) λv s1 ⟨x,H1,I1,r1,q⟩=>test_link (thn (hb g s1 σ H1 _ I1 q) λu s2 ⟨y,H2,I2,p,q2⟩=>
  thn (E g s2 σ H2 x y v u _ I2 r1 p q2) λd C ⟨z,H3,m,r3,k,e,o⟩=>?_)) hm
 subst e;cases r3;refine xfm ?_;cases k with
 |false=>
  obtain⟨k',e',q'⟩:=o;cases e';exact ite_ff ⟨H3,m,q'⟩
 |true=>
  refine ite_tt (test_last (thn (hc g C σ H3 _ m o) λw' J ⟨P,H4,w,r4,S⟩=>thn (l g J σ H4 y P u w' _ w p r4 S) λd' s5 j=>?_));obtain⟨z2,H5,G,Y,k2,t,U⟩:=j;subst t;cases Y;exact xfm ⟨H5,G,U⟩
end
def TruV(K:Fg) (x:V) (H:Hp) (k:Bool):Prop:=
 match x with
 |.non=>k=false
 |.bl b=>k=b
 |.int i=>k=(i != 0)
 |.str y=>y.length<=sizeLine/\k=((y.length:Int) != 0)
 |.byt y=>y.size<=sizeLine/\k=((y.size:Int) != 0)
 |.ref p=>(∃c,SqL K H p c/\k=!c.isEmpty)\/(∃c,SqT K H p c/\k=!c.isEmpty)\/∃a,H p=some (.dK a)/\k=!a.isEmpty
 |_=>False
theorem zwg{κ:Type}{a:List (κ×V)}{b:List (κ×Value)}(r:KV a b):(!b.isEmpty)=!a.isEmpty:=by
 cases r<;>rfl
theorem zmw(r:Vals xs its):(!its.toArray.isEmpty)=!xs.isEmpty:=by
 cases r<;>simp
theorem line63:(sizeLine:Nat)<2^63:=by rw[xha];decide
section
variable {X:Cx}{b:Expr}
theorem zbrs:TruR X (λx H Q=>∃k,TruV X.K x H k/\Q k H):=by
 intro z s σ H x v Q I g h;obtain⟨k,e,q⟩:=h;have C:=line63;have A:sizeLine=16777216:=xha;cases x with
 |non=>
  cases g;have a:k=false:=e;subst a;exact truthy_none ⟨H,I,q⟩
 |bl b=>
  cases g;have a:k=b:=e;subst a;exact xfm ⟨H,I,q⟩
 |int i=>
  obtain⟨t,rfl⟩:=g;have a:k=(i != 0):=e;subst a;exact PySem.P.truthy_int ⟨H,I,q⟩
 |str y=>
  obtain⟨t,rfl⟩:=g;obtain⟨w,a⟩:y.length<=sizeLine/\k=((y.length:Int) != 0):=e;subst a;exact PySem.P.truthy_str (by lia) ⟨H,I.tok _,q⟩
 |byt y=>
  obtain⟨t,rfl⟩:=g;obtain⟨w,a⟩:y.size<=sizeLine/\k=((y.size:Int) != 0):=e;subst a;exact W.truthy_bytes (by lia) ⟨H,I.tok _,q⟩
 |ref p=>
  cases g;have a:(∃f,SqL X.K H p f/\k=!f.isEmpty)\/(∃f,SqT X.K H p f/\k=!f.isEmpty)\/∃c,H p=some (.dK c)/\k=!c.isEmpty:=e
  rcases a with⟨f,j,a⟩|⟨f,j,a⟩|⟨c,j,a⟩
  ·subst a;obtain⟨l,r,n,o⟩:=I.list j;have d:=r.length;exact wpAny_truthy_list n.isList (by simp only[xby];lia) ⟨H,I.tok _,by rw[zmw r];exact q⟩
  ·subst a;obtain⟨l,r,n,o⟩:=I.tuple j;have d:=r.length;exact truthy_tuple n (by simp only[xby];lia) ⟨H,I.tok _,by rw[zmw r];exact q⟩
  ·subst a;obtain⟨o,u,vs,r,m⟩:c.length<=sizeLine/\(p==sysModules)=false/\∃vs,KV c vs/\s.heap.DictOf (mixKind X.prog X.w) p vs:=I.hok p _ j
   have d:c.length=vs.length:=xiw r;exact wpAny_truthy_dict u m (by lia) ⟨H,I.tok _,by rw[zwg r];exact q⟩
 |_=>exact(show False from e).elim
end
section
variable {X:Cx}{a:Expr}{ta:TE}
theorem zut(l:PE X a ta)(g:∀b,isTrue a X.env b=(do let v ←b;standAt a.pos;holding [v] (truthy v))):
  PT X a (λσ H Q=>ta σ H λx d=>∃k,TruV X.K x d k/\Q k d):=by
 intro c s σ H Q I h;exact isTrue_plain (thn (l c s σ H _ I h) λv j ⟨x,H1,i,e,f⟩=>zbrs c j σ H1 x v Q i e f) (g _)
end
theorem zva:OpR X (binaryOp .Add) (λx y H Q=>∃i j,x=.str i/\y=.str j/\i.length+j.length<=sizeLine/\Q (.str (i++j)) H):=by
 intro e s σ H x y v u Q I d a h;obtain⟨i,j,rfl,rfl,c,q⟩:=h;obtain⟨t,rfl⟩:=d;obtain⟨b,rfl⟩:=a;exact add_str (λb f=>⟨.str (i++j),H,I.tok _,⟨_,rfl⟩,q⟩) c
theorem vals1(r:Vals [x] us):∃u,us=[u]/\RelV x u:=by
 cases r with
 |cons r1 r2=>cases r2;exact⟨_,rfl,r1⟩
theorem vals2(r:Vals [x,y] us):∃u w',us=[u,w']/\RelV x u/\RelV y w':=by
 cases r with
 |cons r1 r2=>
  cases r2 with
  |cons r3 r4=>cases r4;exact⟨_,_,rfl,r1,r3⟩
theorem zbjo:CallR X (.builtin "abs") (λa H Q=>∃ i,a=[.int i]/\Q (.int (if i<0 then -i else i)) H):=by
 intro c s σ H a b Q I r h;obtain⟨i,rfl,q⟩:=h;obtain⟨u,rfl,t,rfl⟩:=vals1 r;exact call_abs_int λu d=>⟨.int (if i<0 then -i else i),H,I.tok _,⟨_,rfl⟩,q⟩
theorem zbbv{X:Cx}(b:X.calm=true):CallR X (.builtin "max") (λa H Q=>∃ i j,a=[.int i,.int j]/\Q (.int (if j > i then j else i)) H):=by
 intro e s σ H a c Q I r h;obtain⟨i,j,rfl,q⟩:=h;obtain⟨u,d,rfl,⟨t,rfl⟩,⟨f,rfl⟩⟩:=vals2 r;refine max_two_ints (I.ok.hd b) λg l k=>⟨_,H,I.kept k,?_,q⟩
 by_cases hj:j > i
 ·rw[if_pos hj,if_pos hj];exact⟨_,rfl⟩
 ·rw[if_neg hj,if_neg hj];exact⟨_,rfl⟩
theorem zer{X:Cx}(b:X.calm=true):CallR X (.builtin "min") (λa H Q=>∃ i j,a=[.int i,.int j]/\Q (.int (if j<i then j else i)) H):=by
 intro e s σ H a c Q I r h;obtain⟨i,j,rfl,q⟩:=h;obtain⟨u,d,rfl,⟨t,rfl⟩,⟨f,rfl⟩⟩:=vals2 r;refine min_two_ints (I.ok.hd b) λg l k=>⟨_,H,I.kept k,?_,q⟩
 by_cases hj:j<i
 ·rw[if_pos hj,if_pos hj];exact⟨_,rfl⟩
 ·rw[if_neg hj,if_neg hj];exact⟨_,rfl⟩
structure ObjM (h:Heap) (x dx C:Addr) (mA:Str->Option Value):Prop where
 obj:h.get? x=some (W.instObj C dx)
 ns:h.Ns1 dx mA
 ne:dx≠x
theorem zbal{h:Heap}(n:h.Ns1 dx mA):∃f,h.get? dx=some f/\∀b,W.lookIn b f=some (mA b):=by
 obtain⟨o,d,p,i,j,m,_,g⟩:=n;refine⟨o,i,λb=>?_⟩;have e:=g b;unfold nsFind findBy at e;rw[←Array.find?_toList] at e;unfold W.lookIn;rw[j];dsimp only;split
 ·rename_i y q;rw[q] at e;exact congrArg some e
 ·rename_i q;rw[q] at e;have a:d.toList.any (·.refKey)=false:=by
   rw[xlh];intro y k;obtain⟨z,t,c⟩:=m y (xmc.mp k);simp[DictEntry.refKey,c]
  have l:¬ d.toList.any (·.refKey)=true:=by rw[a];exact xgg
  rw[if_neg l];exact congrArg some e
theorem ObjM.look(I:ObjM h x dx C mA):∃b,W.InstAt h x (W.instObj C dx) C (some b)/\∀a,W.lookIn a b=some (mA a):=
 let ⟨b,ho,hl⟩:=zbal I.ns
 ⟨b,⟨I.obj,rfl,rfl,ho⟩,hl⟩
theorem RelO.some_of(r:RelO (some v) o):∃u,o=some u/\RelV v u:=by
 cases o with
 |none=>exact(show False from r).elim
 |some u=>exact⟨u,rfl,r⟩
theorem zboj(c:HOk P w H h)(e:H a=some (.ins C dx fs)):∃b,ObjM h a dx C b/\(∀f,RelO (fs.lookup f) (b f))/\PySem.Within b (fs.map (·.1))/\fs.length<=1000/\H dx=some (.own a):=by
 obtain⟨d,z,g,i,b,n,r,q⟩:=(show ObjOk P w H h a (.ins C dx fs) from c a _ e)
 exact⟨b,⟨i,n,g⟩,r,q,z,d⟩
structure Cls (K:Fg) (C:Addr):Prop where
 pg:W.plainGet K C Str.empty=true
 hd:W.hasDictIn K C=true
 po:W.plainOver K C=true
 sa:W.findIn K (.ref C) "__setattr__"=some (some (.builtin "object.__setattr__"))
theorem Cls.get{K:Fg}{C:Addr}(c:Cls K C)(f:Str):W.plainGet K C f=true:=c.pg
inductive TyOf (K:Fg) (H:Hp):V->Value->Prop where
 |non:TyOf K H .non (.type "NoneType")
 |bl (x:Bool):TyOf K H (.bl x) (.type "bool")
 |int (i:Int):TyOf K H (.int i) (.type "int")
 |str (x:Str):TyOf K H (.str x) (.type "str")
 |flt (x:UInt64):TyOf K H (.flt x) (.type "float")
 |lst {a:Addr}{xs:List V}(e:H a=some (.lst xs)):TyOf K H (.ref a) (.type "list")
 |frz {a:Addr}{o:Obj}{xs:List V}(e:H a=some (.frz o (.lst xs))):TyOf K H (.ref a) (.type "list")
 |tup {a:Addr}{xs:List V}(e:H a=some (.tup xs)):TyOf K H (.ref a) (.type "tuple")
 |dK {a:Addr}{kvs:List (Key×V)}(e:H a=some (.dK kvs)):TyOf K H (.ref a) (.type "dict")
 |dT {a:Addr}{kvs:List (List Key×V)}(e:H a=some (.dT kvs)):TyOf K H (.ref a) (.type "dict")
 |ins {a C dx:Addr}{fs:List (Str×V)}(e:H a=some (.ins C dx fs)) (cl:Cls K C) (ha:W.findIn K (.ref C) "__class__"=some (some (.builtin "object.__class__")))
  (hn:W.specialIn K (.builtin "object.__class__") "__get__"=some (some (.builtin "getset_descriptor.__get__")))(htk:W.takesIn K (.builtin "object.__class__")=some true)
  (hm:W.mroIn K C (.type "object")=some true):TyOf K H (.ref a) (.ref C)
theorem zbav(I:Inv X aU σ H s)(d:RelV x u)(m:TyOf X.K H x t)(e:W.kitOne X.K t c=some b)(h:∀k,Q (.bool b) {s with toks:=k}):
  wpAny (model X.prog X.w) A (call (.builtin "isinstance") [u,c]) Q E s:=by
 cases m with
 |non=>cases(show u=Value.none from d);exact xfq W.kitx_none I.kIn True.intro e (λz=>nomatch z) h
 |bl y=>cases(show u=Value.bool y from d);exact xfq W.kitx_bool I.kIn True.intro e (λz=>nomatch z) h
 |int i=>obtain⟨t,q⟩:=(show ∃t,u=Value.int i t from d);cases q;exact xfq W.kitx_int I.kIn True.intro e (λz=>nomatch z) h
 |str y=>obtain⟨t,q⟩:=(show ∃t,u=Value.str y t from d);cases q;exact xfq W.kitx_str I.kIn True.intro e (λz=>nomatch z) h
 |flt y=>obtain⟨t,q⟩:=(show ∃t,u=Value.float y t from d);cases q;exact xfq W.kitx_float I.kIn True.intro e (λz=>nomatch z) h
 |@lst a g ea=>
  cases(show u=Value.ref a from d);obtain⟨_,_,n,_,f⟩:=(show ObjOk X.prog X.w H s.heap a (.lst g) from I.hok a _ ea)
  exact xfq W.kitx_list I.kIn ⟨_,f,rfl⟩ e (λz=>nomatch z) h
 |@frz a ob g ea=>
  cases(show u=Value.ref a from d);obtain⟨_,_,_,n,_,f⟩:=(show ObjOk X.prog X.w H s.heap a (.frz ob (.lst g)) from I.hok a _ ea)
  exact xfq W.kitx_list I.kIn ⟨_,f,rfl⟩ e (λz=>nomatch z) h
 |@tup a g ea=>
  cases(show u=Value.ref a from d);obtain⟨_,_,_,p⟩:=(show ObjOk X.prog X.w H s.heap a (.tup g) from I.hok a _ ea)
  obtain⟨o,f,j,_⟩:=p;exact xfq W.kitx_tuple I.kIn ⟨o,f,j⟩ e (λz=>nomatch z) h
 |@dK a kvs ea=>
  cases(show u=Value.ref a from d);obtain⟨_,_,G,_,p⟩:=(show ObjOk X.prog X.w H s.heap a (.dK kvs) from I.hok a _ ea)
  obtain⟨o,l,r,f,j,_⟩:=p;exact xfq W.kitx_dict I.kIn ⟨o,f,j.1⟩ e (λz=>nomatch z) h
 |@dT a kvs ea=>
  cases(show u=Value.ref a from d);obtain⟨_,_,g,_,o,l,r,f,j,_⟩:=(show ObjOk X.prog X.w H s.heap a (.dT kvs) from I.hok a _ ea)
  exact xfq W.kitx_dict I.kIn ⟨o,f,j.1⟩ e (λz=>nomatch z) h
 |@ins a C dx fs ea cl ha hn htk hm=>
  cases(show u=Value.ref a from d);obtain⟨v,O,_⟩:=zboj I.hok ea;obtain⟨w,J,_⟩:=O.look;exact xfq (W.kitx_own (cl.get _) cl.hd ha hn htk hm) I.kIn J e (λz=>nomatch z) h
structure Room (k:Nat) (A:Around):Prop where
 hd:A.handled=none
 dp:A.depth+3*k+5<recursionLimit
 un:A.units+16*k+200<cLine
theorem Room.mono(r:Room k A)(h:j<=k):Room j A:=⟨r.hd,by have:=r.dp;lia,by have:=r.un;lia⟩
theorem Room.deeper(r:Room (k+1) A)(a:Env):Room k (A.deeper a):=
 ⟨r.hd,by have:=r.dp;show A.depth+1+3*k+5<_;lia,by have:=r.un;show A.units+3+16*k+200<_;lia⟩
theorem Room.depth(r:Room k A):A.depth<recursionLimit:=by have:=r.dp;lia
theorem Room.units(r:Room k A):A.units+64<cLine:=by have:=r.un;lia
theorem Room.units0(r:Room k A):A.units<cLine:=by have:=r.un;lia
def tNil:TA:=λ_ H Q=>Q [] H
def tCons(a:TE) (b:TA):TA:=λσ H Q=>a σ H λx H1=>b σ H1 λc H2=>Q (x::c) H2
theorem zbmq:PA X [] tNil:=λ_ _ _ _ H Q I h=>xli ⟨[],H,I,.nil,h⟩
theorem zbcv(o:PE X e te)(p:PA X es t)(i:starEach (e::es) X.env=(false,eval e X.env)::starEach es X.env:=by rfl):PA X (e::es) (tCons te t):=by
 intro a c s σ H Q I h;rw[i];show wpAny _ _ (spliced ((false,eval e X.env)::backTo a (starEach es X.env))) _ _ s;refine xiz (thn (o c s σ H _ I h) λu l b=>?_);obtain⟨x,H1,k,f,g⟩:=b;exact thn (p a c l σ H1 _ k g) λq r ⟨n,H2,j,d,m⟩=>⟨x::n,H2,j,.cons f d,m⟩
def tTup(t:TA):TE:=λσ H Q=>t σ H λa H1=>a.length<=sizeLine/\∀p,H1 p=none->Q (.ref p) (upd H1 p (.tup a))
def tLst(t:TA):TE:=λσ H Q=>t σ H λa H1=>a.length<=sizeLine/\∀p,H1 p=none->Q (.ref p) (upd H1 p (.lst a))
theorem zbsu{x1}(h:PA X es t):PE X (.Tuple es x1 pos) (tTup t):=by
 intro i s σ H Q I f;refine wpAny_Tuple_spliced (thn (h pos i s σ H _ I f) λd a ⟨j,H1,c,r,z,q⟩=>⟨by rw[←r.length];exact z,?_⟩);have g:H1 a.heap.objs.size=none:=c.hok.fresh (xbj _);refine⟨.ref a.heap.objs.size,upd H1 a.heap.objs.size (.tup j),c.laid (t':=a.toks) (λb u e=>xbk _ e) (xbj _) ?_,rfl,q _ g⟩;exact⟨z,d,r,⟨_,xci _ rfl,rfl,_,rfl⟩⟩
theorem zbmi(h:PA X es t):PE X (.List es pos) (tLst t):=by
 intro i s σ H Q I f;refine wpAny_List_spliced (thn (h pos i s σ H _ I f) λd a ⟨j,H1,c,r,z,q⟩=>⟨by rw[←r.length];exact z,?_⟩);have g:H1 a.heap.objs.size=none:=c.hok.fresh (xbj _);refine⟨.ref a.heap.objs.size,upd H1 a.heap.objs.size (.lst j),c.laid (t':=a.toks) (λb u e=>xbk _ e) (xbj _) ?_,rfl,q _ g⟩;exact⟨z,d,0,r,xci _ rfl⟩
abbrev Sp:=List V->Hp->VK->XK->Prop
abbrev CXT:=List Env->Hp->Shared->XK->Value->Shared->Prop
structure Env0 (P:Program) (w:World) (K:Fg) (mg:Str->Option Value) (base:Heap) (A:Around) (outer:List Env) (s:Shared) (H:Hp):Prop where
 frames:A.frames=some outer
 mod:Mod K mg base
 bs:∀b o,base.get? b=some o->s.heap.get? b=some o/\H b=none
 bsz:base.objs.size<=s.heap.objs.size
 funs:s.heap.FunFrames base outer
 frf:∀b∈frs outer,H b=none
 hok:HOk P w H s.heap
 bare:AllBare s.gens
def CE(a:List Env) (P:Program) (w:World) (H:Hp) (s:Shared) (Q:VK) (u:Value) (b:Shared):Prop:=
 ∃v c,b.os=s.os/\AllBare b.gens/\Un (frs a) [] H c s.heap b.heap/\HOk P w c b.heap/\RelV v u/\Q v c
def CR(c:CXT) (a:List Env) (P:Program) (w:World) (H:Hp) (s:Shared) (Q:VK) (E:XK) (r:Result) (b:Shared):Prop:=
 match r with
 |.ok (.ret u)=>CE a P w H s Q u b
 |.ok _=>False
 |.error e=>c a H s E e b
structure FnOk (P:Program) (w:World) (K:Fg) (mg:Str->Option Value) (base:Heap) (CX:CXT) (k:Nat) (f:Addr) (fd:FuncData) (ps:List Str) (sp:Sp):Prop where
 len:∀vs H Q E,sp vs H Q E->vs.length=ps.length
 run:∀(A:Around) (outer:List Env) (s:Shared) (H:Hp) (args:Args) (us:List Value) (vs:List V) (Q:VK) (E:XK),Room k A->Env0 P w K mg base A outer s H->BindsTo s fd args (ps.zip us)->Vals vs us->sp vs H Q E ->
  codeAny (model P w) A (.call (.ref f) args) (CR CX outer P w H s Q E) s
theorem Inv.env0(I:Inv X aU σ H s):Env0 X.prog X.w X.K X.mg X.base X.A X.stack s H:=
 ⟨I.ok.frames,I.ok.mod,I.bs,xbb I.ok.bsz I.sz,I.stack,I.stkFree,I.hok,I.bare⟩
theorem Inv.after(I:Inv X aU σ H s)(h:CE X.stack X.prog X.w H s Q u s'):EP X aU σ Q u s':=by
 obtain⟨v,i,os,a,f,c,r,q⟩:=h;obtain⟨j,g,d,t,e⟩:=s';obtain rfl:e=s.os:=os;exact⟨v,i,I.call (h':=j) (g':=g) (d':=d) (t':=t) (ch:=[]) f c a (λb z=>absurd z (by simp)),r,q⟩
def tCall(b:Sp) (a:List V) (E:XK) (t:TA):TE:=λσ H Q=>t σ H λc H1=>b (c++a) H1 Q E
noncomputable def Binds(K:Fg) (d:FuncData) (b:List Str) (c:List Value):Prop:=
 ∀(s:Shared) (a:List Value),K.In s.heap->(a++c).length=b.length->BindsTo s d ⟨a,[]⟩ (b.zip (a++c))
theorem Binds.all{K:Fg}{b:List Str}(h:∀a:List Value,a.length=b.length->bindArgs fd ⟨a,[]⟩=pure (b.zip a)):Binds K fd b []:=λs a _ c=>by
 rw[xec] at c ⊢;exact .of_eq (h a c)
def Passes(c:CXT) (X:Cx) (E:XK):Prop:=∀(b:List (Addr×Obj)) (σ:St) (H:Hp) (s:Shared) (e:Value) (a:Shared),Inv X b σ H s->c X.stack H s E e a->X.xe e a
theorem zbsh{X:Cx}(F:FnOk X.prog X.w X.K X.mg X.base CX k f fd ps sp)(d:Room k X.A)(j:Binds X.K fd ps ds)(i:Vals dvs ds)(c:Passes CX X E)
  (I:Inv X aU σ H s)(r:Vals vs us)(h:sp (vs++dvs) H Q E):wpAny (model X.prog X.w) X.A (call (.ref f) us) (EP X aU σ Q) X.xe s:=by
 have b:Vals (vs++dvs) (us++ds):=r.append i;have l:(us++ds).length=ps.length:=by rw[←b.length];exact F.len _ _ _ _ h
 refine wpAny_call (xju (F.run X.A X.stack s H ⟨us,[]⟩ (us++ds) (vs++dvs) Q E d I.env0 (j s us I.kIn l) b h) λr g a=>?_);cases r with
 |error e=>exact c aU σ H s e g I a
 |ok fl=>
  cases fl with
  |ret u=>exact I.after a
  |next=>exact False.elim a
  |brk=>exact False.elim a
  |cont=>exact False.elim a
theorem zbmn{X:Cx}(F:FnOk X.prog X.w X.K X.mg X.base CX k f fd ps sp)(u:Room k X.A)(g:Gl X x)(l:X.mg x=some (.ref f))(v:W.keepIn X.K (.ref f)=true)(i:Binds X.K fd ps ds)(n:Vals dvs ds)(d:Passes CX X E)
  (o:PA X (e::es) t)(a:(x==("__debug__" : Str))=false:=by decide)(m:starEach (e::es) X.env=(false,eval e X.env)::starEach es X.env:=by rfl)(b:(backTo pos (starEach es X.env)).any (·.1)=false:=by rfl):
  PE X (.Call (.Name x p) (e::es) [] pos) (tCall sp dvs E t):=by
 intro j s σ H Q I h;refine xkz (zbdn I g l ?_ a);refine W.callWith_K (h₀:=X.base) I.ok.mod.kin v (thn (o pos j s σ H _ I h) λw z ⟨y,H1,c,r,q⟩=>⟨c.kIn,?_⟩) m b;exact zbsh F u i n d c r q
structure FnScope (N P:List Str) (sc:Scope):Prop where
 kind:sc.kind=.function
 co:sc.isCoroutine=false
 gen:sc.isGenerator=false
 nd:N.Nodup
 pre:N.take P.length=P
 par:∀x∈P,sc.names.lookup x=some .local\/sc.names.lookup x=some .cell
 nofree:∀y∈sc.names,y.2≠.free
theorem zrq{kindOf:Str->Option NameKind}:∀{a:List (Str×Value)}{m:Str->Option Value},(∀v,(x,v)∉a)->bindL kindOf a m x=m x
 |[],_,_=>rfl
 | (n,v)::r,m,h=>by
  unfold bindL;rw[zrq λw b=>h w (xbf _ b)];split
  ·have:x≠n:=by rintro rfl;exact h v xbr
   simp[this]
  ·rfl
theorem zrs{kindOf:Str->Option NameKind}:∀{a:List (Str×Value)}{m:Str->Option Value},(∀v,(x,v)∉a)->bindC kindOf a m x=m x
 |[],_,_=>rfl
 | (n,v)::r,m,h=>by
  unfold bindC;rw[zrs λw b=>h w (xbf _ b)];split
  ·rfl
  ·have:x≠n:=by rintro rfl;exact h v xbr
   simp[this]
theorem zrr{kindOf:Str->Option NameKind}:∀{P:List Str}{a:List Value}{i:Nat}{m:Str->Option Value},P.Nodup->P[i]?=some x->a[i]?=some v->kindOf x=some .local ->
  bindL kindOf (P.zip a) m x=some v
 |[],_,_,_,_,h,_,_=>by simp at h
 |_::_,[],_,_,_,_,h,_=>by simp at h
 |p::P,w::a,0,m,nd,h1,h2,hk=>by
  simp at h1 h2;subst h1;subst h2
  show bindL kindOf ((p,w)::P.zip a) m p=_;unfold bindL;rw[zrq λv b=>(xdf.mp nd).1 (xon b).1,if_pos hk];simp
 |p::P,w::a,i+1,m,nd,h1,h2,hk=>by
  show bindL kindOf ((p,w)::P.zip a) m x=_;unfold bindL;exact zrr (i:=i) (xdf.mp nd).2 (by simpa using h1) (by simpa using h2) hk
theorem zrt{kindOf:Str->Option NameKind}:∀{P:List Str}{a:List Value}{i:Nat}{m:Str->Option Value},P.Nodup->P[i]?=some x->a[i]?=some v->kindOf x≠some .local ->
  bindC kindOf (P.zip a) m x=some v
 |[],_,_,_,_,h,_,_=>by simp at h
 |_::_,[],_,_,_,_,h,_=>by simp at h
 |p::P,w::a,0,m,nd,h1,h2,hk=>by
  simp at h1 h2;subst h1;subst h2
  show bindC kindOf ((p,w)::P.zip a) m p=_;unfold bindC;rw[zrs λv b=>(xdf.mp nd).1 (xon b).1,if_neg hk];simp
 |p::P,w::a,i+1,m,nd,h1,h2,hk=>by
  show bindC kindOf ((p,w)::P.zip a) m x=_;unfold bindC;exact zrt (i:=i) (xdf.mp nd).2 (by simpa using h1) (by simpa using h2) hk
def start(N:List Str) (a:List V):St:=a.map some++List.replicate (N.length-a.length) none
def cxOf(g:CXT) (P:Program) (w:World) (K:Fg) (mg:Str->Option Value) (base:Heap) (N:List Str) (b:Str) (a:Scope) (f:Addr) (d:Value) (A:Around) (outer:List Env) (s:Shared) (H:Hp) (E:XK):Cx where
 prog:=P
 w:=w
 K:=K
 mg:=mg
 base:=base
 A:=A.deeper (envOfC b a s.heap.objs.size f d)
 N:=N
 s₀:=s
 H₀:=H
 env:=envOfC b a s.heap.objs.size f d
 outer:=outer
 stack:=envOfC b a s.heap.objs.size f d::outer
 ex:=[]
 calm:=true
 fn:=λ_=>true
 pn:=[]
 xe:=λe i=>wpAny (model P w) (A.deeper (envOfC b a s.heap.objs.size f d)) (leaving (envOfC b a s.heap.objs.size f d) e) (λ_ c=>g outer H s E e c) (λh c=>g outer H s E h c) i
theorem zxd{a:Scope}(h:a.names.lookup x=some .cell):∃c,(cellsFrom n a.names []).lookup x=some c:=by
 have q:=W.cellsFrom_some a.names n [] (.inl h);exact Option.isSome_iff_exists.mp q
theorem zbaw{K:Fg}{N:List Str}{A:Around}{l:List V}
  (S:FnScope N ps scope)(I:A.handled=none)(g:Env0 P w K mg base A outer s H)(hl:l.length=ps.length)(r:Vals l us)
  (x:InCallC s s.heap.objs.size (bindL (envOfC qual scope s.heap.objs.size f cd).kindOf (ps.zip us) λ_=>none) (cellsFrom (s.heap.objs.size+1) scope.names []) (bindC (envOfC qual scope s.heap.objs.size f cd).kindOf (ps.zip us) λ_=>none) s1):
  Inv (cxOf CX P w K mg base N qual scope f cd A outer s H E) [] (start N l) H s1:=by
 have U:ps.length<=N.length:=by have:=congrArg List.length S.pre;rw[xcx] at this;lia
 obtain⟨C,tk,rfl,J⟩:=x.done;have j:∀b:Addr,b∉(cxOf CX P w K mg base N qual scope f cd A outer s H E).ex:=λb z=>absurd (show b∈([]:List Addr) from z) (by simp)
 refine⟨⟨g.mod,S.kind,rfl,rfl,xbj _,λy z c C d=>?_,λy hy=>?_,λy c _ h=>?_,λ_=>I,Around.frames_deeper g.frames,.inr ⟨rfl,rfl⟩,λb z=>absurd z (j b),g.bs,g.bsz,λb _ _=>j b,λb z=>absurd z (j b),g.funs,g.frf⟩,
  rfl,g.bare,Un.kept J,⟨_,x.toInCall.ns,λi y v C d Y=>?_⟩,λy c h=>⟨_,x.cell y c h⟩,g.hok.fresh (xbj _),λy c h=>?_,λp m=>absurd (show p∈([]:List (Addr×Obj)) from m) (by simp),g.hok.kept J,?_,Hnd.none I⟩
 ·exact name_of_addr x.apart (xhk C) (xhk d)
 ·have hy:scope.names.lookup y=some .cell\/scope.names.lookup y=some .free:=hy;rcases hy with hy|hy
  ·exact zxd hy
  ·exact absurd rfl (S.nofree _ (xhk hy))
 ·exact xcf (x.above y c (xhk h))
 ·have t:i<l.length:=by
   unfold start at d;by_cases t:i<l.length
   ·exact t
   ·rw[xdi (by simpa using t)] at d;rw[List.getElem?_replicate] at d;split at d<;>cases d
  have X:l[i]?=some v:=by
   unfold start at d;rw[xcg (by simpa using t),xco] at d;cases e:l[i]? with
   |none=>rw[e] at d;cases d
   |some a=>rw[e] at d;cases d;rfl
  obtain⟨u,G,Q⟩:=r.get X;have m:ps[i]?=some y:=by
   rw[←S.pre,List.getElem?_take_of_lt (by lia)];exact C
  have o:ps.Nodup:=by rw[←S.pre];exact S.nd.sublist (xlj _ _)
  refine⟨u,Q,?_⟩;rcases S.par y (xbu m) with k|k
  ·exact .inl ⟨k,zrr o m G k⟩
  ·obtain⟨c,e⟩:=zxd (n:=s.heap.objs.size+1) k;refine .inr ⟨.inl k,c,e,?_⟩;have q:=x.cell y c e;rw[zrt o m G (by show scope.names.lookup y≠_;rw[k];decide)] at q;exact q
 ·exact g.hok.fresh (xcf (x.above y c (xhk h)))
 ·unfold start;show _=N.length;rw[xbl,xbc,xgd];lia
theorem zbyj{K:Fg}{kV:Value}
     {N:List Str}(lk:K.lookup f=some ⟨oc,od,.func (W.fnOf name qual params body scope dV kV doc pm an cdv ct),osl⟩)(C:W.codeIn K cdv qual=true)(S:FnScope N ps scope)
    (j:∀ c H Q E,sp c H Q E->c.length=ps.length)
    (h:∀(A:Around) (a:List Env) (s:Shared) (H:Hp) (c:List V) (Q:VK) (E:XK),Room k (A.deeper (envOfC qual scope s.heap.objs.size f cdv))->sp c H Q E ->
      ∃ t,PSs (cxOf CX P w K mg base N qual scope f cdv A a s H E) body t/\t { nx:=λ_ d=>Q .non d,rt:=Q } (start N c) H):
    FnOk P w K mg base CX (k + 1) f (W.fnOf name qual params body scope dV kV doc pm an cdv ct) ps sp:=by
  refine⟨j,λA a s H a0 us c Q E G m hb r l=>?_⟩;have hl:=j _ _ _ _ l;have KX:K.In s.heap:=m.mod.kin.keeps λb o e=>(m.bs b o e).1
  have Y:s.heap.NoLimit:=m.mod.nolimit.keeps λb o e=>(m.bs b o e).1
  have g:∀ y∈ps.zip us,scope.names.lookup y.1=some .local\/(scope.names.lookup y.1=some .cell/\((cellsFrom (s.heap.objs.size + 1) scope.names []).lookup y.1).isSome=true):=λU hy=>by
    obtain⟨n,v⟩:=U;rcases S.par n (xon hy).1 with q|q
    · exact .inl q
    · exact .inr ⟨q,W.cellsFrom_some _ _ _ (.inl q)⟩
  refine codeAny_call_function G.depth (KX _ _ lk) rfl S.co S.gen rfl (W.codeRec_of KX C) (hb _ _ _ _ ?_);refine wpAny_newFunctionEnv_cells S.kind g λa1 he s1 x=>?_
  subst he;refine⟨Y.keeps x.toInCall.keep,codeAny_func ?_⟩;obtain⟨t,ht,hq⟩:=h A a s H c Q E (G.deeper _) l;have I:Inv (cxOf CX P w K mg base N qual scope f cdv A a s H E) [] (start N c) H s1:=zbaw S G.hd m hl r x;refine xey (ht [] s1 (start N c) H _ I hq) (λfl s' i=>?_) λe s' i=>i
  have p:∀{z:St}{d:Hp}{v:V}{u:Value},Inv (cxOf CX P w K mg base N qual scope f cdv A a s H E) [] z d s'->RelV v u->Q v d->CE a P w H s Q u s':=
    λ{z d v u} J X q=>⟨v,d,J.os,J.bare,J.base,J.hok,X,q⟩
  cases fl with
  |ret u=>
    obtain⟨v,z,d,J,X,q⟩:=i;exact p J X q
  |next=>
    obtain⟨z,d,J,q⟩:=i;exact p (v:=V.non) (u:=Value.none) J rfl q
  |brk=>
    obtain⟨_,_,_,q⟩:=i;exact False.elim q
  |cont=>
    obtain⟨_,_,_,q⟩:=i;exact False.elim q
def tCB(r:List V->Hp->VK->Prop) (t:TA):TE:=λσ H Q=>t σ H λa H1=>r a H1 Q
theorem zuw{id:String}(g:CallR X (.builtin id) r)(f:Gl X x)(k:X.mg x=none)(v:bootBuiltins x=some (.builtin id))(q:PA X (e::es) t)(o:x≠"__name__":=by decide)(a:(x==("__debug__" : Str))=false:=by decide)
  (l:starEach (e::es) X.env=(false,eval e X.env)::starEach es X.env:=by rfl)(b:(backTo pos (starEach es X.env)).any (·.1)=false:=by rfl):PE X (.Call (.Name x p) (e::es) [] pos) (tCB r t):=by
 intro c s σ H Q I h;refine xkz (zvx I f k v ?_ o a);exact PyProof.Rows.callWith_builtin1 (thn (q pos c s σ H _ I h) λd n ⟨u,H1,m,i,j⟩=>g c n σ H1 u d Q m i j) l b
theorem zqi{T:String}(g:CallR X (.type T) r)(f:Gl X x)(k:X.mg x=none)(v:bootBuiltins x=some (.type T))(q:PA X (e::es) t)(o:x≠"__name__":=by decide)(a:(x==("__debug__" : Str))=false:=by decide)
  (l:starEach (e::es) X.env=(false,eval e X.env)::starEach es X.env:=by rfl)(b:(backTo pos (starEach es X.env)).any (·.1)=false:=by rfl):PE X (.Call (.Name x p) (e::es) [] pos) (tCB r t):=by
 intro c s σ H Q I h;refine xkz (zvx I f k v ?_ o a);exact xnd (thn (q pos c s σ H _ I h) λd n ⟨u,H1,m,i,j⟩=>g c n σ H1 u d Q m i j) l b
end L2
namespace HT
open PyProof.Rows
noncomputable def lexLt:List Int->List Int->Bool
 |[],[]=>false
 |[],_::_=>true
 |_::_,[]=>false
 |x::xs,y::ys=>if x=y then lexLt xs ys else decide (x<y)
theorem zdb(x y:Int)(b a:List Int):lexLt (x::b) (y::a)=if x=y then lexLt b a else decide (x<y):=rfl
theorem zed:lexLt [] []=false:=rfl
theorem zci(y:Int)(a:List Int):lexLt [] (y::a)=true:=rfl
theorem zdl(x:Int)(a:List Int):lexLt (x::a) []=false:=rfl
theorem zbif(A:Around)(s:Shared)(a:Int)(t:Tok)(c:Int)(u:Tok):∃e,SeqAt.EqAt A s (.int a t) (.int c u) e/\(e=true↔a=c):=
 ⟨(a==c),SeqAt.EqAt.int_int a t c u,by simp⟩
theorem zbfp(A:Around)(s:Shared)(a:Int)(t:Tok)(c:Int)(u:Tok)(b:Program)(w:World)(E:Value->Shared->Prop)(Q:Value->Shared->Prop)(h:Q (.bool (decide (a<c))) s):
  wpAny (model b w) A (richCompare .Lt (.int a t) (.int c u)) Q E s:=
 (PyProof.Rows.lt_int h:wpAny (model b w) A (compareOp .Lt (.int a t) (.int c u)) Q E s)
section
open SeqAt
open PySem.AutoSeq1 (wpAny_loadPart')
open MeetsSeq MeetsSeq2 MeetsSeq3
theorem zgv(l b:Addr)(i f:Array Value)(n n2:Nat)(dd a0:Option Addr)(sl a2:Array (Option Value))(I J:List Int)(hi:IntsAre i.toList I)(hj:IntsAre f.toList J):
  Meets (Builtin.«tuple.__lt__» ⟨[.ref l,.ref b],[]⟩)
   (λ_ R s=>s.heap.get? l=some { cls:=.type "tuple",dict:=dd,data:=.seq i n,slots:=sl }/\s.heap.get? b=some { cls:=.type "tuple",dict:=a0,data:=.seq f n2,slots:=a2 } /\
    R (.ok (.ret (.bool (lexLt I J)))) s):=
 .of_wp λr w A R s h=>by
  obtain⟨U,g,d,P,os⟩:=s;obtain⟨hl,hb,h⟩:=h
  have f2:=AutoSeq1.sub_tuple_tuple;have z1:i.size=I.length:=by rw[←hi.length];simp
  have z2:f.size=J.length:=by rw[←hj.length];simp
  wp_walk using wpAny_loadPart' hl,wpAny_loadPart' hb,wpAny_forIn_list _ (λv b Y=>b.1=none/\Y=⟨U,g,d,P,os⟩/\∃(Q S:List Value) (m k:List Int),v=Q.zip S /\
   IntsAre Q m/\IntsAre S k/\m.length+f.size=k.length+i.size/\R (.ok (.ret (.bool (lexLt m k)))) ⟨U,g,d,P,os⟩) _
  case turn=>
   rintro⟨y,x⟩ v b Y ⟨H,rfl,Q,S,m,k,o,G,p,j,C⟩;cases G with
   |nil=>rw[List.zip_nil_left] at o;cases o
   |cons a t hvi'=>
    cases p with
    |nil=>rw[List.zip_nil_right] at o;cases o
    |cons c u hwi'=>
     rw[List.zip_cons_cons] at o;injection o with a1 E
     injection a1 with hy hx
     subst hy hx;rw[zdb] at C;simp only[xbw] at j;obtain⟨e,he,z⟩:=zbif A.in1 ⟨U,g,d,P,os⟩ a t c u;refine xba (he r w _ _ ?_);cases e with
     |true=>
      rw[if_pos (z.mp rfl)] at C
      wp_walk
      exact⟨rfl,rfl,_,_,_,_,E,hvi',hwi',by lia,C⟩
     |false=>
      rw[if_neg (λq=>absurd (z.mpr q) xgg)] at C;have X:=zbfp A.in1 ⟨U,g,d,P,os⟩ a t c u r w
      wp_walk using X
      exact⟨_,rfl,by simpa using C⟩
  case fin=>
   rintro⟨b1,b2⟩ Y ⟨H,rfl,Q,S,m,k,o,G,p,j,C⟩;simp only at H;subst H;have hv:lexLt m k=decide (i.size<f.size):=by
    cases G with
    |nil=>
     cases p with
     |nil=>
      simp only[xja] at j;rw[zed];exact(xbv (by lia)).symm
     |cons c u hw=>
      simp only[xja,xbw] at j;rw[zci];exact(xbp (by lia)).symm
    |cons a t hv=>
     cases p with
     |nil=>
      simp only[xja,xbw] at j;rw[zdl];exact(xbv (by lia)).symm
     |cons c u hw=>
      rw[List.zip_cons_cons] at o;cases o
   rw[hv] at C
   wp_walk
   exact⟨_,rfl,by simpa [Builtin.Tuple.tupleCompareSizes] using C⟩
  case h=>
   exact⟨rfl,rfl,i.toList,f.toList,I,J,rfl,hi,hj,by lia,h⟩
end
theorem zmt{A:Around}{s:Shared}(r:IsTup s.heap l items)(z:IsTup s.heap b items2)(p:IntsAre items.toList ns)(u:IntsAre items2.toList ms)
  (o:A.units<cLine)(h:Q (.bool (lexLt ns ms)) s):wpAny (model prog w) A (compareOp .Lt (.ref l) (.ref b)) Q E s:=by
 obtain⟨⟨v,t,g,y⟩,j,k,n,m⟩:=id r;obtain⟨⟨i,e,data2,f⟩,d,a,q,c⟩:=id z;simp only at k m a c;subst k m a c;exact richCompare_meets_room (op:=.Lt) ⟨_,j,rfl⟩ ⟨_,d,rfl⟩ xlz F.entry_tuple_lt (F.args_tuple_lt_2 _ _) (zgv l b items items2 n q t e y f ns ms p u)
  ⟨j,d,show Value.bool (lexLt ns ms)≠Value.notImplemented/\Q (.bool (lexLt ns ms)) s from⟨(λx=>nomatch x),h⟩⟩ o
theorem zbqc{s:Shared}{d a:List Value}(y:IsTup s.heap t d.toArray)(z:IsTup s.heap b a.toArray)(o:d≠[])
  (x:a=[]->Q (.ref t) s)(v:a≠[]->Q (.ref s.heap.objs.size) { s with heap:=s.heap.push { cls:=.type "tuple",data:=.seq (d++a).toArray } })
  (k:d.length+a.length<=sizeLine):wpAny (model prog w) A (binaryOp .Add (.ref t) (.ref b)) Q E s:=by
 obtain⟨⟨cls,p,data,q⟩,j,r,n,u⟩:=id y;obtain⟨⟨m,g,data2,i⟩,c,f,l,h⟩:=id z;simp only at r u f h;subst r u f h;have e:d.toArray++a.toArray=(d++a).toArray:=by simp
 by_cases hw:a=[]
 ·exact concat_meets ⟨_,j,rfl⟩ ⟨_,c,rfl⟩ noFill_tuple_add seq_tuple_add xlq xlc (xkr _ _)
   (tuple_addW1 t b d.toArray a.toArray n l p g q i (by simpa using o) (by simp[hw])) ⟨j,c,x hw⟩
 ·refine concat_meets ⟨_,j,rfl⟩ ⟨_,c,rfl⟩ noFill_tuple_add seq_tuple_add xlq xlc (xkr _ _)
   (tuple_addW2 t b d.toArray a.toArray n l p g q i (by simpa using o) (by simpa using hw) (by rw[xby,xby];exact k)) ⟨j,c,?_⟩
  rw[e];exact v hw
noncomputable def sIx(n d:Nat):Option Int->Nat
 |none=>d
 |some v=>if v<0 then(v+(n:Int)).toNat else min v.toNat n
theorem zui(n d:Nat):sIx n d none=d:=rfl
theorem zbcr(n d k:Nat):sIx n d (some (k:Int))=min k n:=by
 show(if(k:Int)<0 then((k:Int)+(n:Int)).toNat else min (k:Int).toNat n)=min k n;rw[if_neg (by lia),xeh]
theorem zbsf(n d:Nat)(a:d<=n)(o:Option Int):sIx n d o<=n:=by
 cases o with
 |none=>exact a
 |some v=>
  show(if v<0 then(v+(n:Int)).toNat else min v.toNat n)<=n;by_cases hv:v<0
  ·rw[if_pos hv];lia
  ·rw[if_neg hv];exact xii _ _
theorem zbeg(v:Int)(n d:Nat):(if v<0 then max (v+(n:Int)) 0 else min v (n:Int))=((sIx n d (some v):Nat):Int):=by
 show(if v<0 then max (v+(n:Int)) 0 else min v (n:Int))=(((if v<0 then(v+(n:Int)).toNat else min v.toNat n):Nat):Int)
 by_cases hv:v<0
 ·simp only[if_pos hv];lia
 ·simp only[if_neg hv];lia
theorem zya(lo a:Option Int)(n:Nat):Builtin.Slice.sliceAdjust lo a 1 (n:Int)=(((sIx n 0 lo:Nat):Int),((sIx n n a:Nat):Int)):=by
 have b:¬ ((1:Int)<0):=by lia
 unfold Builtin.Slice.sliceAdjust;simp only[b,xeu];refine Prod.ext ?_ ?_
 ·cases lo with
  |none=>rfl
  |some v=>exact zbeg v n 0
 ·cases a with
  |none=>rfl
  |some v=>exact zbeg v n n
theorem zuv(i j:Nat):Builtin.Slice.slicePlaces (i:Int) (j:Int) 1=j-i:=by
 unfold Builtin.Slice.slicePlaces;have a:(1:Int) > 0:=by lia
 simp only[a,xfv,xoc];split<;>lia
theorem zdy(p:IsPart v o)(h:Q o s):wpAny (model prog w) A (Builtin.Slice.slicePartIndex v) Q E s:=by
 cases p with
 |none=>exact slicePart_none h
 |int i t=>exact slicePart_int h
theorem zdz{s:Shared}{lo c:Option Int}{n:Nat}(d:s.heap.IsSliceOf sl vl vu .none)(g:IsPart vl lo)(e:IsPart vu c)
  (h:Q (((sIx n 0 lo:Nat):Int),1,sIx n n c-sIx n 0 lo) s):wpAny (model prog w) A (Builtin.Slice.sliceApplied (.ref sl) (pure (n:Int))) Q E s:=by
 obtain⟨os,a,f,b⟩:=id d;unfold Builtin.Slice.sliceApplied Builtin.Slice.sliceFields;refine xba (xba (xji a b (x:=vl) rfl (xba (xji a b (x:=vu) rfl (xba (xji a b (x:=.none) rfl (xbe ?_)))))));refine xba (slicePart_none ?_);show wpAny _ _ (if((1:Int)==0)=true then _ else _) _ _ s;rw[if_neg (by decide)];refine xba (zdy g (xba (zdy e (xba (xbe ?_)))));show wpAny _ _ (match Builtin.Slice.sliceAdjust lo c 1 (n:Int) with|(lo,c)=>pure (lo,(1:Int),Builtin.Slice.slicePlaces lo c 1)) _ _ s;rw[zya lo c n];show wpAny _ _ (pure (((sIx n 0 lo:Nat):Int),(1:Int),Builtin.Slice.slicePlaces ((sIx n 0 lo:Nat):Int) ((sIx n n c:Nat):Int) 1)) _ _ s;rw[zuv];exact xbe h
theorem zbfy(a:Array Value)(i k:Nat):((List.range k).filterMap λ(m:Nat)=>a[((i:Int)+(m:Int)*1).toNat]?).toArray=((a.toList.drop i).take k).toArray:=by
 have e:(λ(m:Nat)=>a[((i:Int)+(m:Int)*1).toNat]?)=λm=>a[i+m]?:=by
  funext m
  have:((i:Int)+(m:Int)*1).toNat=i+m:=by lia
  rw[this]
 rw[e];have:=pick_run a i k;rw[xks] at this;have b:((λx=>a[x]?) ∘ λx=>i+x)=λm=>a[i+m]?:=rfl
 rw[b] at this;rw[this]
theorem zhi{s:Shared}{lo:Option Int}(b:IsTup s.heap t items)(g:s.heap.IsSliceOf sl vl vu .none)(n:IsPart vl lo)(k:IsPart vu hi)
  (l:¬ (sIx items.size 0 lo=0/\sIx items.size items.size hi=items.size))
  (h:Q (.ref s.heap.objs.size) { s with heap:=s.heap.push { cls:=.type "tuple",data:=.seq ((items.toList.drop (sIx items.size 0 lo)).take (sIx items.size items.size hi-sIx items.size 0 lo)).toArray } })
  (i:items.size<=sizeLine):wpAny (model prog w) A (getItem (.ref t) (.ref sl)) Q E s:=by
 have a:sizeOk (.seq ((items.toList.drop (sIx items.size 0 lo)).take (sIx items.size items.size hi-sIx items.size 0 lo)).toArray):=by
  show((items.toList.drop (sIx items.size 0 lo)).take (sIx items.size items.size hi-sIx items.size 0 lo)).toArray.size<=sizeLine;rw[xby,xcx,xgh,xch];lia
 have r:sIx items.size items.size hi<=items.size:=zbsf _ _ (xbj _) hi;obtain⟨os,c,f,j⟩:=id g;have e:s.TypeIs (.ref sl) "slice":=⟨os,c,f⟩
 unfold getItem
 try with_reducible refine xeq ?_
 first|refine xba (xbe ?_)|skip
 refine xba (xny b.typeIs (by decide) ?_)
 refine xba (wpAny_callSpecial?_slot (name:=Str.ofString "__getitem__") b.typeIs xfb
  (xer xfb b.typeIs entry_tuple_getitem ?_ (args_tuple_getitem _ _)))
 show wpAny _ _ (Builtin.Tuple.tupleItemsOf (.ref t) >>= _) _ _ s;refine xba (tupleItemsOf_ b ?_);refine xba (xmn e ?_);rw[if_pos (by decide)];refine xba (zdz g n k ?_);have d:¬ ((((sIx items.size 0 lo:Nat):Int)==0&&(1:Int)==1&&(sIx items.size items.size hi-sIx items.size 0 lo)==items.size)=true):=by
  intro q;rw[xdm,xdm] at q;have o:((sIx items.size 0 lo:Nat):Int)=0:=eq_of_beq q.1.1;have p:sIx items.size items.size hi-sIx items.size 0 lo=items.size:=eq_of_beq q.2;exact l ⟨by lia,by lia⟩
 show wpAny _ _ (if(((sIx items.size 0 lo:Nat):Int)==0&&(1:Int)==1&&(sIx items.size items.size hi-sIx items.size 0 lo)==items.size)=true then _ else _) _ _ s;rw[if_neg d,zbfy]
 first
  |exact xba (m:=Builtin.Tuple.tupleExact _) (xdx (xbe ⟨_,rfl,xbe h⟩) a)
  |exact xba (m:=Builtin.Tuple.tupleExact _) (xdx (xba (xbe (xbe ⟨_,rfl,xbe h⟩))) a)
  |exact xba (xba (m:=Builtin.Tuple.tupleExact _) (xdx (xbe (xbe ⟨_,rfl,xbe h⟩)) a))
  |exact xba (xba (m:=Builtin.Tuple.tupleExact _) (xdx (xbe ⟨_,rfl,xbe h⟩) a))
end HT
namespace L2
open Spec PyProof.Rows
abbrev TO:=St->Hp->(Option Int->Hp->Prop)->Prop
def PO(X:Cx) (e:Option Expr) (t:TO):Prop:=
 ∀(b:List (Addr×Obj)) (s:Shared) (σ:St) (H:Hp) (Q:Option Int->Hp->Prop),Inv X b σ H s->t σ H Q ->
  wpAny (model X.prog X.w) X.A (evalPart e X.env) (λu c=>∃o a,Inv X b σ a c/\IsPart u o/\Q o a) X.xe s
def tNoPart:TO:=λ_ H Q=>Q none H
def tPart(t:TE):TO:=λσ H Q=>t σ H λx H1=>∃i,x=.int i/\Q (some i) H1
theorem zee{ns:List Int}:∀{a:List Value},Vals (ns.map V.int) a->IntsAre a ns:=by
 induction ns with
 |nil=>intro a r;rw[xod] at r;cases r;exact .nil
 |cons n ns ih=>
  intro a r;rw[xbq] at r;cases r with
  |cons r1 r2=>
   obtain⟨t,e⟩:=r1;subst e;exact .cons n t (ih r2)
theorem zbma:PO X none tNoPart:=by
 intro a s σ H Q I h;rw[xnq];exact xbe ⟨none,H,I,.none,h⟩
theorem zblz(h:PE X e te):PO X (some e) (tPart te):=by
 intro c s σ H Q I g;rw[evalPart_some];refine thn (h c s σ H _ I g) λu j a=>?_
 obtain⟨x,H1,f,b,d⟩:=a;obtain⟨i,rfl,q⟩:=d;obtain⟨t,rfl⟩:=b;exact⟨some i,H1,f,.int i t,q⟩
def SlR(X:Cx) (r:V->Option Int->Option Int->Hp->VK->Prop):Prop:=
 ∀(c:List (Addr×Obj)) (s:Shared) (σ:St) (H:Hp) (x:V) (v e a:Value) (lo d:Option Int) (b:Addr) (Q:VK),Inv X c σ H s->RelV x v->s.heap.IsSliceOf b e a .none->IsPart e lo->IsPart a d->r x lo d H Q ->
  ∃ T id,typeLookup (.type T) "__getitem__"=pure (some (.builtin id))/\s.TypeIs v T/\wpAny (model X.prog X.w) X.A (getItem v (.ref b)) (EP X c σ Q) X.xe s
section
variable {lo:Option Expr}
theorem SlR.or(h:SlR X r)(k:SlR X r'):SlR X (λx lo a H Q=>r x lo a H Q\/r' x lo a H Q):=by
 intro d s σ H x v g b lo a c Q I j e i f q;rcases q with q|q
 ·exact h d s σ H x v g b lo a c Q I j e i f q
 ·exact k d s σ H x v g b lo a c Q I j e i f q
end
def tSl(r:V->Option Int->Option Int->Hp->VK->Prop) (b:TE) (c a:TO):TE:=λσ H Q=>b σ H λx H1=>c σ H1 λl H2=>a σ H2 λu H3=>r x l u H3 Q
theorem zbgb{lo:Option Expr}(z:SlR X r)(m:PE X e te)(p:PO X lo tl)(k:PO X hi th):PE X (.Subscript e (.Slice lo hi none p2) pos) (tSl r te tl th):=by
 intro d s σ H Q I h;refine Subscript_ (thn (m d s σ H _ I h) λv J c=>?_);obtain⟨x,H1,S,E,j⟩:=c;refine wpAny_Slice (thn (p d J σ H1 _ S j) λg G ⟨l,H2,P,o,U⟩=>thn (k d G σ H2 _ P U) λf a c=>?_);obtain⟨u,H3,i,t,w⟩:=c;rw[xnq];refine xbe ?_;have n:Inv X d σ H3 { a with heap:=a.heap.push { cls:=.type "slice",data:=.fields #[g,f,.none] } }:=i.kept (t':=a.toks) λb Y q=>xbk _ q
 obtain⟨T,id,y,A,C⟩:=z d { a with heap:=a.heap.push { cls:=.type "slice",data:=.fields #[g,f,.none] } } σ H3 x v g f l u a.heap.objs.size Q n E (xne ..) o t w
 show wpAny (model X.prog X.w) X.A (subscriptTail e (.Slice lo hi none p2) v (.ref a.heap.objs.size)) (EP X d σ Q) X.xe { a with heap:=a.heap.push { cls:=.type "slice",data:=.fields #[g,f,.none] } }
 exact tail_any (ops:=[.ref a.heap.objs.size,v]) A y C (by with_unfolding_all rfl)
def cutV(a:List V) (lo b:Option Int):List V:=(a.drop (HT.sIx a.length 0 lo)).take (HT.sIx a.length a.length b-HT.sIx a.length 0 lo)
theorem zke(a:List V)(lo b:Option Int):(cutV a lo b).length<=a.length:=by
 unfold cutV;rw[xcx,xgh];lia
def rSlT(K:Fg):V->Option Int->Option Int->Hp->VK->Prop:=λx lo c H Q=>∃a b,x=.ref a/\SqT K H a b /\
 ¬ (HT.sIx b.length 0 lo=0/\HT.sIx b.length b.length c=b.length)/\∀p,H p=none->Q (.ref p) (upd H p (.tup (cutV b lo c)))
theorem zbry:SlR X (rSlT X.K):=by
 intro w s σ H x v y t lo f u Q I p k n l h;obtain⟨a,d,rfl,j,m,q⟩:=h;cases p;obtain⟨e,r,g,i⟩:=I.tuple j;have c:e.toArray.size=d.length:=by rw[xby];exact r.length.symm
 refine⟨"tuple",_,xfb.lookup,g.typeIs,?_⟩
 refine HT.zhi g k n l (by rw[c];exact m) ?_ (by rw[c];exact i);rw[c];refine⟨.ref s.heap.objs.size,_,I.laid (t':=s.toks) (o:=.tup (cutV d lo f)) (λb z q=>xbk _ q) (xbj _) ?_,rfl,q _ (I.hok.fresh (xbj _))⟩;exact⟨xbb (zke d lo f) i,_,(r.drop (HT.sIx d.length 0 lo)).take (HT.sIx d.length d.length f-HT.sIx d.length 0 lo),IsTup.new _ _⟩
def rLtT(K:Fg):R2:=λx y H Q=>∃a b d c,x=.ref a/\y=.ref b/\SqT K H a (d.map V.int)/\SqT K H b (c.map V.int)/\Q (.bl (HT.lexLt d c)) H
theorem zbte{X:Cx}(g:X.A.units<cLine):OpR X (compareOp .Lt) (rLtT X.K):=by
 intro r s σ H x y v u Q I p i h;obtain⟨a,b,ns,ms,rfl,rfl,m,e,q⟩:=h;cases p;cases i;obtain⟨d,f,n,_⟩:=I.tuple m;obtain⟨c,l,o,_⟩:=I.tuple e;have k:IntsAre d.toArray.toList ns:=zee f;have j:IntsAre c.toArray.toList ms:=zee l;exact HT.zmt n o k j g ⟨.bl (HT.lexLt ns ms),H,I,rfl,q⟩
def rCatT(K:Fg):R2:=λx y H Q=>∃a b d c,x=.ref a/\y=.ref b/\SqT K H a d/\SqT K H b c/\d≠[]/\d.length+c.length<=sizeLine /\
 (c=[]->Q (.ref a) H)/\(c≠[]->∀p,H p=none->Q (.ref p) (upd H p (.tup (d++c))))
theorem Vals.nil_iff(r:Vals xs us):us=[]↔xs=[]:=by
 cases r with
 |nil=>simp
 |cons _ _=>simp
theorem zbmw:OpR X (binaryOp .Add) (rCatT X.K):=by
 intro G s σ H x y v u Q I C l h;obtain⟨a,b,n,A,rfl,rfl,p,j,i,e,k,m⟩:=h;cases C;cases l;obtain⟨g,d,r,_⟩:=I.tuple p;obtain⟨f,c,t,_⟩:=I.tuple j;refine HT.zbqc r t (λz=>i (d.nil_iff.mp z)) (λz=>⟨.ref a,H,I,rfl,k (c.nil_iff.mp z)⟩) (λz=>?_) (by rw[←d.length,←c.length];exact e);refine⟨.ref s.heap.objs.size,_,I.laid (t':=s.toks) (o:=.tup (n++A)) (λb E q=>xbk _ q) (xbj _) ?_,rfl,m (λw=>z (c.nil_iff.mpr w)) _ (I.hok.fresh (xbj _))⟩;exact⟨by rw[xbl];exact e,_,d.append c,IsTup.new _ _⟩
noncomputable def ixN(n:Nat) (i:Int):Option Nat:=if 0<=i then(if i<n then some i.toNat else none) else if -(n:Int)<=i then some (i+n).toNat else none
def atI{α:Type}(a:List α) (i:Int):Option α:=(ixN a.length i).bind λj=>a[j]?
theorem zbdq(h:ixN n i=some j):seqIndex? i n=some j/\j<n/\-(n:Int)<=i/\i<n:=by
 unfold ixN at h;by_cases h0:0<=i
 ·rw[if_pos h0] at h;by_cases h1:i<n
  ·rw[if_pos h1] at h;have e:i.toNat=j:=xde h;exact⟨by rw[seqIndex_of h0 h1,e],by lia,by lia,h1⟩
  ·rw[if_neg h1] at h;cases h
 ·rw[if_neg h0] at h;by_cases h1:-(n:Int)<=i
  ·rw[if_pos h1] at h;have e:(i+n).toNat=j:=xde h;exact⟨by rw[seqIndex_neg (by lia) h1,e],by lia,h1,by lia⟩
  ·rw[if_neg h1] at h;cases h
theorem zxv{α:Type}{a:List α}{v:α}(h:atI a i=some v):∃j,seqIndex? i a.length=some j/\a[j]?=some v/\j<a.length/\-(a.length:Int)<=i/\i<a.length:=by
 unfold atI at h;cases e:ixN a.length i with
 |none=>rw[e] at h;cases h
 |some j=>
  rw[e] at h;obtain⟨f,b,d,c⟩:=zbdq e;exact⟨j,f,h,b,d,c⟩
theorem zxu{α:Type}{a:List α}{j:Nat}{v:α}(h:a[j]?=some v):atI a (j:Int)=some v:=by
 have b:j<a.length:=(xbh.mp h).1;have e:ixN a.length (j:Int)=some j:=by
  unfold ixN;rw[if_pos (by lia),if_pos (by lia)];simp
 unfold atI;rw[e];exact h
noncomputable def PlainIx(b:Expr):Prop:=∀o i,subscripted b false o i=operate [o,i] (getItem o i)
def IxR(X:Cx) (r:R2):Prop:=
 ∀(b a:Expr) (c:List (Addr×Obj)) (s:Shared) (σ:St) (H:Hp) (x y:V) (v u:Value) (Q:VK),Inv X c σ H s->RelV x v->RelV y u->r x y H Q ->
  subscripted a false v u=operate [v,u] (getItem v u)->wpAny (model X.prog X.w) X.A (subscriptTail b a v u) (EP X c σ Q) X.xe s
def MtR(X:Cx) (id:String) (r:V->List V->Hp->VK->Prop):Prop:=
 ∀(b:List (Addr×Obj)) (s:Shared) (σ:St) (H:Hp) (x:V) (c:List V) (v:Value) (a:List Value) (Q:VK),Inv X b σ H s->RelV x v->Vals c a->r x c H Q ->
  wpAny (model X.prog X.w) X.A (call (.builtin id) (v::a)) (EP X b σ Q) X.xe s
theorem IxR.or(h:IxR X r)(g:IxR X r'):IxR X (λx y H Q=>r x y H Q\/r' x y H Q):=by
 intro b a c s σ H x y v u Q I f d q e;rcases q with q|q
 ·exact h b a c s σ H x y v u Q I f d q e
 ·exact g b a c s σ H x y v u Q I f d q e
theorem zbxv(k:IxR X r)(j:PE X a ta)(c:PE X b tb)(f:PlainIx b):PE X (.Subscript a b pos) (tOp r ta tb):=by
 intro d s σ H Q I h;exact Subscript_ (binT j c I h λv u i x y H2 g l e q=>k a b d i σ H2 x y v u Q g l e q (f _ _))
def rIxL(K:Fg):R2:=λx y H Q=>∃p a i v,x=.ref p/\y=.int i/\SqL K H p a/\atI a i=some v/\Q v H
def rIxT(K:Fg):R2:=λx y H Q=>∃p a i v,x=.ref p/\y=.int i/\SqT K H p a/\atI a i=some v/\Q v H
def rIxS:R2:=λx y H Q=>∃z i c,x=.str z/\y=.int i/\z.length<=sizeLine/\atI z.cps.toList i=some c/\Q (.str ⟨#[c]⟩) H
theorem zboe:IxR X (rIxL X.K):=by
 intro f k l s σ H x y v u Q I U P h n;obtain⟨p,Y,i,z,rfl,rfl,J,A,q⟩:=h;cases U;obtain⟨t,rfl⟩:=P;obtain⟨e,r,d,hz⟩:=I.list J;obtain⟨j,b,o,h3,C,E⟩:=zxv A;obtain⟨w,m,c⟩:=r.get o;have G:=r.length;have hn:=line63;have a:EP X l σ Q w s:=⟨z,H,I,c,q⟩
 by_cases h0:0<=i
 ·have g:i.toNat=j:=by
   rw[seqIndex_of h0 E] at b;exact xde b
  exact item_listR d.isList h0 (by lia) (by rw[g];simpa using m) a n
 ·have g:(i+(e.toArray.size:Int)).toNat=j:=by
   rw[seqIndex_neg (by lia) C] at b;rw[xby,←G];exact xde b
  exact subscriptTail_builtinR (x:=w) d.isList.typeIs xnz.lookup
   (wpAny_getItem_list_neg (Q:=λr S=>r=w/\EP X l σ Q r S) d.isList (by lia) (by rw[xby]<;>lia) (by lia) (by rw[g];simpa using m) ⟨rfl,a⟩) n
theorem zbud:IxR X (rIxT X.K):=by
 intro b d f s σ H x y v u Q I J n h G;obtain⟨p,S,i,z,rfl,rfl,m,k,q⟩:=h;cases J;obtain⟨t,rfl⟩:=n;obtain⟨E,r,e,hz⟩:=I.tuple m;obtain⟨j,C,g,h3,P,Y⟩:=zxv k;obtain⟨w,o,a⟩:=r.get g;have l:=r.length;have U:=line63;have c:EP X f σ Q w s:=⟨z,H,I,a,q⟩
 exact subscriptTail_builtinR (x:=w) e.typeIs xla.lookup
  (getItem_tuple (j:=j) (Q:=λr A=>r=w/\EP X f σ Q r A) e (by lia) (by lia) (by rw[xby,←l];exact C) (by simpa using o) ⟨rfl,c⟩) G
theorem zbue:IxR X rIxS:=by
 intro b a w s σ H x y v u Q I r k h l;obtain⟨z,i,c,rfl,rfl,A,m,q⟩:=h;obtain⟨t,rfl⟩:=r;obtain⟨C,rfl⟩:=k;obtain⟨j,d,f,E,n,o⟩:=zxv m;have p:z.cps.toList.length=z.length:=by simp[Str.length]
 rw[p] at d n o;have G:=line63
 exact tail_any (typeIs_str s z t) slot_str_getitem.lookup (getItem_str (c:=c) (by
  have e:decide (i < -(2^63:Int))=false:=xbv (by lia);have g:decide (i ≥ 2^63)=false:=xbv (by lia)
  rw[e,g,Bool.or_false]) (by rw[d];simpa using f) ⟨.str ⟨#[c]⟩,H,I.tok _,⟨_,rfl⟩,q⟩) l
def rIx(K:Fg):R2:=λx y H Q=>rIxL K x y H Q\/rIxT K x y H Q\/rIxS x y H Q
theorem zbuf:IxR X (rIx X.K):=zboe.or (zbud.or zbue)
theorem zvr(a:List Value)(n j:Nat)(u:Value):Obj.mapSeq (·.setIfInBounds j u) { cls:=.type "list",data:=.seq a.toArray n }={ cls:=.type "list",data:=.seq (a.set j u).toArray n }:=by
 simp[Obj.mapSeq]
theorem Inv.lst(I:Inv X aU σ H s)(h:H p=some (.lst xs)):
  ∃(a:List Value) (n:Nat),Vals xs a/\s.heap.get? p=some { cls:=.type "list",data:=.seq a.toArray n }/\xs.length<=sizeLine:=by
 obtain⟨z,a,n,r,e⟩:=I.hok p _ h;exact⟨a,n,r,e,z⟩
theorem Inv.lstUpd{c a:List Value}(I:Inv X aU σ H s)(h:H p=some (.lst xs))
  (i:s.heap.get? p=some { cls:=.type "list",data:=.seq c.toArray n })(d:f { cls:=.type "list",data:=.seq c.toArray n }={ cls:=.type "list",data:=.seq a.toArray n' })(r:Vals ys a)(g:ys.length<=sizeLine)(t:Nat):
  Inv X aU σ (upd H p (.lst ys)) {s with heap:=s.heap.update p f,toks:=t}:=by
 have e:(s.heap.update p f).get? p=some { cls:=.type "list",data:=.seq a.toArray n' }:=by
  rw[xfn f i (by rw[d]<;>rfl),d]
 refine I.write (x:=p) (e:=p) (by rw[h];trivial) (.inl rfl) (λb u j q=>(Heap.get?_update_other _ _ (xfj j)).trans q) ⟨_,e⟩ ?_;exact⟨g,a,n',r,e⟩
def rSetL:V->V->V->Hp->(Hp->Prop)->Prop:=λo i v H Q=>∃p a k j,o=.ref p/\i=.int k/\H p=some (.lst a)/\ixN a.length k=some j/\Q (upd H p (.lst (a.set j v)))
theorem zbfh:PSet X rSetL:=by
 intro x s σ H o i v S P u Q I y A E h;obtain⟨p,w,k,j,rfl,rfl,m,C,q⟩:=h;cases y;obtain⟨t,rfl⟩:=A;obtain⟨a,n,r,d,z⟩:=I.lst m;obtain⟨b,G,l,g⟩:=zbdq C;have c:=r.length;have J:=line63;have f:Inv X x σ (upd H p (.lst (w.set j v))) {s with heap:=s.heap.update p (Obj.mapSeq (·.setIfInBounds j u))}:=
  I.lstUpd m d (zvr a n j u) (r.set E j) (by rw[xdn];exact z) s.toks
 by_cases h0:0<=k
 ·have e:k.toNat=j:=by
   rw[seqIndex_of h0 g] at b;exact xde b
  exact W.ki_setAt d h0 (by lia) (by rw[xby,←c];exact g) (by rw[e];exact⟨_,f,q⟩)
 ·have e:(k+(a.toArray.size:Int)).toNat=j:=by
   rw[seqIndex_neg (by lia) l] at b;rw[xby,←c];exact xde b
  exact W.ki_setBack d (by lia) (by rw[xby,←c];exact l) (by lia) (by rw[e];exact⟨_,f,q⟩)
theorem zny(lo a:Option Int)(n:Nat):(sliceBounds lo a none n).1=((HT.sIx n 0 lo:Nat):Int)/\(sliceBounds lo a none n).2.1=((HT.sIx n n a:Nat):Int)/\(sliceBounds lo a none n).2.2=1:=by
 refine⟨?_,?_,rfl⟩
 ·cases lo with
  |none=>simp[sliceBounds,HT.sIx]
  |some i=>
   simp only[sliceBounds,HT.sIx,Option.getD_none,show(1:Int) > 0 by decide,xfv];by_cases h:i<0
   ·simp only[h,xfv]<;>lia
   ·simp only[h,xeu]<;>lia
 ·cases a with
  |none=>simp[sliceBounds,HT.sIx]
  |some i=>
   simp only[sliceBounds,HT.sIx,Option.getD_none,show(1:Int) > 0 by decide,xfv];by_cases h:i<0
   ·simp only[h,xfv]<;>lia
   ·simp only[h,xeu]<;>lia
theorem zmj(a:List Value)(lo b:Option Int):slicePick a.toArray lo b none=((a.drop (HT.sIx a.length 0 lo)).take (HT.sIx a.length a.length b-HT.sIx a.length 0 lo)).toArray:=by
 obtain⟨e,c,d⟩:=zny lo b a.toArray.size;unfold slicePick;rw[e,c,d];simp only[sliceRange_one,pick_run,xby]<;>rfl
def rSlL(K:Fg):V->Option Int->Option Int->Hp->VK->Prop:=λx lo c H Q=>∃a b,x=.ref a/\SqL K H a b/\∀p,H p=none->Q (.ref p) (upd H p (.lst (cutV b lo c)))
theorem zbli:SlR X (rSlL X.K):=by
 intro u s σ H x v w p lo e t Q I n j m l h;obtain⟨a,c,rfl,i,q⟩:=h;cases n;obtain⟨g,r,f,k⟩:=I.list i;have d:=r.length;refine⟨"list",_,xnz.lookup,f.isList.typeIs,?_⟩
 refine wpAny_getItem_list_slice f.isList j m l .none (by simp) ?_ (by rw[xby]<;>lia);rw[zmj,←d];refine⟨.ref s.heap.objs.size,_,I.laid (t':=s.toks) (o:=.lst (cutV c lo e)) (λb y q=>xbk _ q) (xbj _) ?_,rfl,q _ (I.hok.fresh (xbj _))⟩;exact⟨xbb (zke c lo e) k,_,0,(r.drop (HT.sIx c.length 0 lo)).take (HT.sIx c.length c.length e-HT.sIx c.length 0 lo),xci _ rfl⟩
theorem zcl:CallR X (.builtin "len") (λf H Q=>∃ p b,f=[.ref p]/\(SqL X.K H p b\/SqT X.K H p b)/\Q (.int b.length) H):=by
 intro k s σ H f j Q I r h;obtain⟨p,b,rfl,hq,q⟩:=h;obtain⟨u,rfl,i⟩:=vals1 r;cases i;have l:=line63;rcases hq with hq|hq
 ·obtain⟨c,d,e,g⟩:=I.list hq;have a:=d.length;exact Calls.call_len_list e.isList (by simp only[xby]<;>lia) ⟨.int b.length,H,I.tok _,⟨s.toks+1,by rw[xby,a]⟩,q⟩
 ·obtain⟨c,d,e,g⟩:=I.tuple hq;have a:=d.length;exact len_tuple e (by simp only[xby]<;>lia) ⟨.int b.length,H,I.tok _,⟨s.toks+1,by rw[xby,a]⟩,q⟩
theorem CallR.or(h:CallR X f r)(e:CallR X f r'):CallR X f (λa H Q=>r a H Q\/r' a H Q):=by
 intro c s σ H a b Q I d q;rcases q with q|q
 ·exact h c s σ H a b Q I d q
 ·exact e c s σ H a b Q I d q
theorem zpc:CallR X (.type "list") (λz H Q=>∃ p d,z=[.ref p]/\(SqL X.K H p d\/SqT X.K H p d)/\∀ l,H l=none->Q (.ref l) (upd H l (.lst d))):=by
 intro A s σ H z E Q I r h;obtain⟨p,d,rfl,hq,q⟩:=h;obtain⟨u,rfl,C⟩:=vals1 r;cases C;have j:∀(a:List Value),Vals d a->d.length<=sizeLine->∀(c:Heap) (g:Nat),(∀b y,s.heap.get? b=some y->c.get? b=some y) ->
   c.get? s.heap.objs.size=some { cls:=.type "list",dict:=none,data:=.seq a.toArray g,slots:=#[] }->EP X A σ Q (.ref s.heap.objs.size) { s with heap:=c }:=λa f k c g m e=>
  ⟨.ref s.heap.objs.size,_,I.laid (t':=s.toks) m (xbj _) (show ObjOk X.prog X.w _ c _ (.lst d) from⟨k,a,g,f,e⟩),rfl,q _ (I.hok.fresh (xbj _))⟩
 rcases hq with hq|hq
 ·obtain⟨a,f,x,k⟩:=I.list hq;have i:=f.length;obtain⟨o,v,t,n,w⟩:=x.isList;exact call_list_seq p (.inl rfl) v t w (λc g m e=>j a f k c g m e) (by simp only[xby]<;>lia)
 ·obtain⟨a,f,x,k⟩:=I.tuple hq;have i:=f.length;obtain⟨o,v,t,n,w⟩:=x;exact call_list_seq p (.inr rfl) v t w (λc g m e=>j a f k c g m e) (by simp only[xby]<;>lia)
theorem zbi:CallR X (.type "tuple") (λt H Q=>∃ p c,t=[.ref p]/\((SqL X.K H p c/\∀ l,H l=none->Q (.ref l) (upd H l (.tup c)))\/(SqT X.K H p c/\Q (.ref p) H))):=by
 intro k s σ H t y Q I r h;obtain⟨p,c,rfl,h⟩:=h;obtain⟨u,rfl,x⟩:=vals1 r;cases x;rcases h with⟨f,q⟩|⟨f,q⟩
 ·obtain⟨a,g,i,m⟩:=I.list f;have j:=g.length;refine call_tuple_list i.isList (λd v=>?_) (by simp only[xby]<;>lia);have n:Inv X k σ H {s with heap:=d}:=I.kept (t':=s.toks) v;have w:Inv X k σ (upd H d.objs.size (.tup c)) { s with heap:=d.push { cls:=.type "tuple",data:=.seq a.toArray } }:=
   n.laid (t':=s.toks) (λb o e=>xbk _ e) (xbj _) (show ObjOk X.prog X.w _ _ _ (.tup c) from⟨m,a,g,IsTup.new _ _⟩)
  exact⟨.ref d.objs.size,_,w,rfl,q _ (n.hok.fresh (xbj _))⟩
 ·obtain⟨a,g,i,m⟩:=I.tuple f;exact call_tuple_same i ⟨.ref p,H,I,rfl,q⟩
def tyV(K:Fg) (T:String) (x:V) (H:Hp):Prop:=match x with
 |.str _=>T="str"
 |.int _=>T="int"
 |.ref p=>(T="list"/\∃ b,SqL K H p b)\/(T="tuple"/\∃ o,K.lookup p=some o/\o.cls=.type "tuple"/\o.dict=none) \/
  (T="dict"/\((∃ a,H p=some (.dK a))\/∃ a,H p=some (.dT a)))\/(T="set"/\∃ S n,H p=some (.set S n))
 |_=>False
theorem zbrq{T:String}(I:Inv X aU σ H s)(r:RelV x v)(f:tyV X.K T x H):
  s.TypeIs v T/\∀a,v=.ref a->∃k,s.heap.get? a=some k/\k.dict=none:=by
 cases x with
 |str z=>
  obtain⟨t,rfl⟩:=r;cases(show T="str" from f)
  exact⟨typeIs_str s z t,λ_ e=>nomatch e⟩
 |int i=>
  obtain⟨t,rfl⟩:=r;cases(show T="int" from f)
  exact⟨typeIs_int s i t,λ_ e=>nomatch e⟩
 |ref p=>
  cases r;rcases f with⟨rfl,w,q⟩|⟨rfl,o,b,u,h⟩|⟨rfl,b⟩|⟨rfl,S,n,b⟩
  ·obtain⟨m,_,l,_⟩:=I.list q;refine⟨l.isList.typeIs,λa e=>?_⟩;cases e;obtain⟨o,n,e,c,h,_⟩:=l;exact⟨o,e,h⟩
  ·refine⟨⟨o,I.kIn p o b,u⟩,λa e=>?_⟩;cases e;exact⟨o,I.kIn _ o b,h⟩
  ·have z:∃o,s.heap.get? p=some o/\o.ExactDict:=by
    rcases b with⟨j,b⟩|⟨j,b⟩
    ·obtain⟨_,_,_,_,o,_,_,e,d,_⟩:=I.hok p _ b;exact⟨o,e,d⟩
    ·obtain⟨_,_,_,_,o,_,_,e,d,_⟩:=I.hok p _ b;exact⟨o,e,d⟩
   obtain⟨o,e,d⟩:=z;refine⟨⟨o,e,d.1⟩,λa g=>?_⟩;cases g;exact⟨o,e,d.2.1⟩
  ·obtain⟨o,_,_,_,e,d,_⟩:=I.hok p _ b;refine⟨⟨o,e,d.1⟩,λa g=>?_⟩;cases g;exact⟨o,e,d.2.1⟩
 |_=>exact False.elim f
def tBM(K:Fg) (T:String) (r:V->List V->Hp->VK->Prop) (a:TE) (t:TA):TE:=λσ H Q=>a σ H λx H1=>tyV K T x H1/\t σ H1 λb H2=>r x b H2 Q
theorem zbrd{c:Pos}{T:String}{id:String}(E:PlainAttrs T)(g:Slot T name id)(j:typeOf (.builtin id)=pure (.type "method_descriptor"))(G:MtR X id r)(A:PE X o to)(y:PA X (e::es) t)
  (d:attributeBase o name X.env (eval o X.env)=eval o X.env:=by rfl)
  (i:((backTo cpos (starEach (e::es) X.env)).all (λx=>!x.1)&&(backToKw cpos (keywordEach [] X.env)).all (λx=>x.1.isSome)
   && decide ((e::es).length+([]:List Keyword).length+(if([]:List Keyword).isEmpty then 0 else 1)<30))=true:=by rfl)
  (f:(c.endLine==cpos.line)=true:=by rfl)(J:starEach (e::es) X.env=(false,eval e X.env)::starEach es X.env:=by rfl)(b:(backTo cpos (starEach es X.env)).any (·.1)=false:=by rfl):
  PE X (.Call (.Attribute o name c) (e::es) [] cpos) (tBM X.K T r to t):=by
 intro k s σ H Q I h;refine wpAny_Call_method_late d i f rfl (thn (A k s σ H _ I h) λv S l=>?_);obtain⟨x,H1,q,p,ty,w⟩:=l;obtain⟨C,u⟩:=zbrq q p ty;refine⟨T,id,E,g,j,C,u,?_⟩;have n:=y cpos k S σ H1 _ q w;rw[J] at n ⊢;refine xlr (by show(false||(backTo cpos (starEach es X.env)).any (·.1))=false;rw[b]<;>rfl) (xmd ?_);exact thn n λz P ⟨Y,H2,I2,U,q2⟩=>G k P σ H2 x Y v z Q I2 p U q2
/- xs.append(e),list.index on a module's tuple .. are MtR facts of 06m -/
def MtM(X:Cx) (id:String) (r:V->List V->Hp->VK->Prop):Prop:=
 ∀(b:List (Addr×Obj)) (s:Shared) (σ:St) (H:Hp) (x:V) (c:List V) (v:Value) (a:List Value) (Q:VK),Inv X b σ H s->RelV x v->Vals c a->r x c H Q ->
  wpAny (model X.prog X.w) X.A (call (.builtin id) (v::a)) (EP X b σ Q) X.xe s
theorem Vals.one:∀{x:V}{a:List Value},Vals [x] a->∃u,a=[u]/\RelV x u
 |_,_,.cons r .nil=>⟨_,rfl,r⟩
theorem Inv.lset{a its':List Value}(I:Inv X aU σ H s)(g:H l=some (.lst xs))
  (e:s.heap.get? l=some { cls:=.type "list",data:=.seq a.toArray n })(b:f a.toArray=its'.toArray)(i:Vals ys its')(d:ys.length<=sizeLine):
  Inv X aU σ (upd H l (.lst ys)) {s with heap:=s.heap.update l (Obj.mapSeq f),toks:=t'}:=by
 have q:=PySem.IsL.update e f;rw[b] at q;refine I.write (x:=l) (e:=l) (by rw[g];exact trivial) (.inl rfl) (λj u h c=>(Heap.get?_update_other s.heap (Obj.mapSeq f) (xfj h)).trans c) ⟨_,q⟩ ?_;exact⟨d,its',_,i,q⟩
theorem Inv.lnew(I:Inv X aU σ H s)(a:Vals ys its)(b:ys.length<=sizeLine):
  Inv X aU σ (upd H s.heap.objs.size (.lst ys)) { s with heap:=s.heap.push { cls:=.type "list",data:=.seq its.toArray },toks:=t' }:=
 I.laid (λ_ _ q=>xbk _ q) (xbj _) ⟨b,its,0,a,xci _ rfl⟩
theorem Inv.fresh(I:Inv X aU σ H s):H s.heap.objs.size=none:=I.hok.fresh (xbj _)
theorem Inv.lstM(I:Inv X aU σ H s)(b:H l=some (.lst xs)):xs.length<=sizeLine/\∃(a:List Value) (n:Nat),Vals xs a/\xs.length=a.length/\s.heap.get? l=some { cls:=.type "list",data:=.seq a.toArray n }:=by
 obtain⟨z,a,n,r,e⟩:=I.hok l _ b;exact⟨z,a,n,r,r.length,e⟩
theorem notLongL(h:n<=sizeLine):Builtin.List.listTooLong n=false:=by
 unfold Builtin.List.listTooLong;exact xbv (by lia)
def rAppend:V->List V->Hp->VK->Prop:=λx b H Q=>∃l a y,x=.ref l/\b=[y]/\H l=some (.lst a)/\a.length<sizeLine/\Q .non (upd H l (.lst (a++[y])))
theorem zqq:MtM X "list.append" rAppend:=by
 intro i s σ H x m v g Q I f d h;obtain⟨l,k,y,rfl,rfl,b,j,q⟩:=h;cases f;obtain⟨u,rfl,c⟩:=d.one;obtain⟨z,a,n,r,o,e⟩:=I.lstM b;refine xlb F.slot_list_append ⟨_,e,rfl⟩ F.entry_list_append (F.args_list_append_2 _ _) (PySem.list_append l a.toArray n u (by rw[xby];lia)) ⟨e,?_⟩;refine⟨.non,_,I.lset (its':=a++[u]) b e (by simp) (r.append (.cons c .nil)) ?_,rfl,q⟩;rw[xbl,xgu];lia
def rExtend:V->List V->Hp->VK->Prop:=λx d H Q=>∃l b c a,x=.ref l/\d=[.ref b]/\H l=some (.lst c)/\H b=some (.lst a)/\c.length+a.length<=sizeLine/\Q .non (upd H l (.lst (c++a)))
theorem zbai:MtM X "list.extend" rExtend:=by
 intro E s σ H x J v C Q I t w h;obtain⟨l,b,y,S,rfl,rfl,g,m,G,q⟩:=h;cases t;obtain⟨u,rfl,i⟩:=w.one;cases i;obtain⟨z,c,n,r,A,e⟩:=I.lstM g;obtain⟨P,a,k,p,o,j⟩:=I.lstM m;have f:c.toArray.size+a.toArray.size<=sizeLine:=by rw[xby,xby];lia
 have d:¬ (!c.toArray.isEmpty&&Builtin.List.listTooLong (c.toArray.size+a.toArray.size))=true:=by
  rw[notLongL f,Bool.and_false];exact xgg
 refine xlb F.slot_list_extend ⟨_,e,rfl⟩ F.entry_list_extend (F.args_list_extend_2 _ _)
  (AutoSeq1.list_extend_list_list_0 l c.toArray n b a.toArray k d (by rw[xby];lia) (by lia)) ⟨e,j,?_⟩
 refine⟨.non,_,I.lset (its':=c++a) g e (by simp) (r.append p) ?_,rfl,q⟩;rw[xbl];lia
def rCat:R2:=λx y H Q=>∃l b c a,x=.ref l/\y=.ref b/\H l=some (.lst c)/\H b=some (.lst a)/\c.length+a.length<=sizeLine/\∀p,H p=none->Q (.ref p) (upd H p (.lst (c++a)))
theorem zbth:OpR X (binaryOp .Add) rCat:=by
 intro p s σ H x y v u Q I o g h;obtain⟨l,b,C,E,rfl,rfl,k,i,w,q⟩:=h;cases o;cases g;obtain⟨z,c,n,r,G,e⟩:=I.lstM k;obtain⟨t,a,A,d,m,f⟩:=I.lstM i;refine PySem.P.add_list e f ?_ (by rw[xby,xby];lia);have j:c.toArray++a.toArray=(c++a).toArray:=by simp
 rw[j];exact⟨.ref _,_,I.lnew (t':=s.toks) (r.append d) (by rw[xbl];lia),rfl,q _ I.fresh⟩
section
variable {κ:Type}[DecidableEq κ]
noncomputable def valV(a:List (κ×V)) (k:κ):Option V:=(a.find? λb=>decide (b.1=k)).map (·.2)
noncomputable def putK(a:List (κ×V)) (k:κ) (v:V):List (κ×V):=
 if(a.any λb=>decide (b.1=k))=true then a.map (λb=>if b.1=k then(b.1,v) else b) else a++[(k,v)]
noncomputable def dropK(a:List (κ×V)) (k:κ):List (κ×V):=a.filter λb=>decide (b.1≠k)
theorem zhv{p:κ×V}{r:List (κ×V)}{k:κ}(e:p.1=k):valV (p::r) k=some p.2:=by simp[valV,xfd,e]
theorem zhw{p:κ×V}{r:List (κ×V)}{k:κ}(e:¬ p.1=k):valV (p::r) k=valV r k:=by simp[valV,xfd,e]
theorem ztl(k:κ):∀a:List (κ×V),(a.any λb=>decide (b.1=k))=(valV a k).isSome
 |[]=>rfl
 |p::r=>by
  rw[xix];by_cases e:p.1=k
  ·simp only[zhv e,xbp e,Bool.true_or,Option.isSome_some]
  ·rw[zhw e,xbv e,Bool.false_or];exact ztl k r
theorem zgj(a:List (κ×V))(k:κ)(v:V):(putK a k v).length<=a.length+1:=by
 unfold putK;split
 ·rw[xbc];lia
 ·rw[xbl,xbw,xja];lia
theorem RelO.isSome_eq(r:RelO o u):o.isSome=u.isSome:=by
 cases o with
 |none=>cases u with
  |none=>rfl
  |some _=>exact(show False from r).elim
 |some _=>cases u with
  |none=>exact(show False from r).elim
  |some _=>rfl
theorem RelO.getD(r:RelO o u)(a:RelV d d'):RelV (o.getD d) (u.getD d'):=by
 cases o with
 |none=>cases u with
  |none=>exact a
  |some _=>exact(show False from r).elim
 |some _=>cases u with
  |none=>exact(show False from r).elim
  |some _=>exact r
theorem KV.val(r:KV kvs vs)(k:κ):RelO (valV kvs k) (valueAt vs k):=by
 unfold KV at r
 induction r with
 |nil=>exact True.intro
 |@cons p q ps qs h t ih=>
  obtain⟨c,d⟩:=h;by_cases e:p.1=k
  ·have a:q.1=k:=c.symm.trans e;have b:valueAt (q::qs) k=some q.2:=by simp[valueAt,xfd,a]
   rw[zhv e,b];exact d
  ·have a:¬ q.1=k:=λz=>e (c.trans z)
   have b:valueAt (q::qs) k=valueAt qs k:=by simp[valueAt,xfd,a]
   rw[zhw e,b];exact ih
theorem KV.any(r:KV kvs vs)(k:κ):(kvs.any λa=>decide (a.1=k))=vs.any λa=>decide (a.1=k):=by
 unfold KV at r
 induction r with
 |nil=>rfl
 |cons h t ih=>rw[xix,xix,ih,h.1]
theorem KV.repl(r:KV kvs vs)(k:κ) (d:RelV y u):
  KV (kvs.map λa=>if a.1=k then(a.1,y) else a) (vs.map λa=>if a.1=k then(a.1,u) else a):=by
 unfold KV at r ⊢
 induction r with
 |nil=>exact .nil
 |@cons p q ps qs h t ih=>
  rw[xbq,xbq];refine .cons ?_ ih;obtain⟨b,c⟩:=h;by_cases e:p.1=k
  ·rw[if_pos e,if_pos (b.symm.trans e)];exact⟨b,d⟩
  ·rw[if_neg e,if_neg (λz=>e (b.trans z))];exact⟨b,c⟩
theorem KV.put(r:KV kvs vs)(k:κ) (a:RelV y u):KV (putK kvs k y) (stored vs k u):=by
 unfold putK stored;rw[r.any k];by_cases e:(vs.any λb=>decide (b.1=k))=true
 ·rw[if_pos e,if_pos e];exact r.repl k a
 ·rw[if_neg e,if_neg e];exact Paired.snoc r ⟨rfl,a⟩
theorem KV.drop(r:KV kvs vs)(k:κ):KV (dropK kvs k) (without vs k):=by
 unfold KV at r ⊢;unfold dropK without
 induction r with
 |nil=>exact .nil
 |@cons p q ps qs h t ih=>
  obtain⟨c,f⟩:=h;rw[xlw,xlw];by_cases e:p.1=k
  ·have a:¬ decide (p.1≠k)=true:=by simp[e]
   have b:¬ decide (q.1≠k)=true:=by simp[c.symm.trans e]
   rw[if_neg a,if_neg b];exact ih
  ·have d:¬ q.1=k:=λz=>e (c.trans z)
   have a:decide (p.1≠k)=true:=by simp[e]
   have b:decide (q.1≠k)=true:=by simp[d]
   rw[if_pos a,if_pos b];exact .cons ⟨c,f⟩ ih
theorem KV.keys{a:List (κ×V)}{b:List (κ×Value)}(r:KV a b):a.map (·.1)=b.map (·.1):=by
 unfold KV at r
 induction r with
 |nil=>rfl
 |cons h t ih=>rw[xbq,xbq,ih,h.1]
theorem KV.length(r:KV kvs vs):kvs.length=vs.length:=xiw r
theorem zbiq(a:List (κ×V))(k:κ):(dropK a k).length<=a.length:=xge _ _
end
theorem zbhu(r:RelV (kV k) u):(mixKind P w).is k u=true:=by
 cases k with
 |inl i=>obtain⟨t,e⟩:=(show ∃t,u=Value.int i t from r);subst e;exact zsv P w i t
 |inr x=>obtain⟨t,e⟩:=(show ∃t,u=Value.str x t from r);subst e;exact zsu P w x t
theorem zqt:∀{a:List Key}{b:List Value},Vals (a.map kV) b->ItemsAre (mixKind P w) a b
 |[],_,r=>by rw[xod] at r;cases r;exact .nil
 |k::a,_,r=>by
  rw[xbq] at r;cases r with
  |cons h t=>exact .cons (zbhu h) (zqt t)
abbrev KT(H:Hp):List (List Key×V)->List (List Key×Addr×Value)->Prop:=Paired λp q=>p.1=q.1/\H q.2.1=some (.tup (p.1.map kV))/\RelV p.2 q.2.2
theorem KT.val(r:KT H kvs xs)(k:List Key):RelO (valV kvs k) ((atKey xs k).map (·.2)):=by
 induction r with
 |nil=>exact True.intro
 |@cons p q ps qs h t ih=>
  obtain⟨c,_,d⟩:=h;by_cases e:p.1=k
  ·have a:q.1=k:=c.symm.trans e;have b:atKey (q::qs) k=some q.2:=by simp[atKey,xfd,a]
   rw[zhv e,b];exact d
  ·have a:¬ q.1=k:=λz=>e (c.trans z)
   have b:atKey (q::qs) k=atKey qs k:=by simp[atKey,xfd,a]
   rw[zhw e,b];exact ih
theorem KT.repl(r:KT H kvs xs)(k:List Key) (d:RelV y u):
  KT H (kvs.map λb=>if b.1=k then(b.1,y) else b) (xs.map (putAt k u)):=by
 induction r with
 |nil=>exact .nil
 |@cons p q ps qs h t ih=>
  rw[xbq,xbq];refine .cons ?_ ih;obtain⟨a,c,f⟩:=h;unfold putAt;by_cases e:p.1=k
  ·rw[if_pos e,if_pos (a.symm.trans e)];exact⟨a,c,d⟩
  ·rw[if_neg e,if_neg (λz=>e (a.trans z))];exact⟨a,c,f⟩
theorem KT.put(r:KT H kvs xs)(k:List Key) (d:H b=some (.tup (k.map kV)))(a:RelV y u):
  KT H (putK kvs k y) (storedH xs k b u):=by
 have e:(kvs.any λc=>decide (c.1=k))=(atKey xs k).isSome:=by
  rw[ztl,(r.val k).isSome_eq,Option.isSome_map]
 unfold putK storedH;rw[e];by_cases q:(atKey xs k).isSome=true
 ·rw[if_pos q,if_pos q];exact r.repl k a
 ·rw[if_neg q,if_neg q];exact Paired.snoc r ⟨rfl,d,a⟩
theorem KT.keeps(r:KT H kvs xs)(c:∀b a,H b=some (.tup a)->H' b=some (.tup a)):KT H' kvs xs:=
 Paired.mapP r λ_ _ z=>⟨z.1,c _ _ z.2.1,z.2.2⟩
theorem zbws(b:HOk P w H h)(e:Rd H a u):ObjOk P w H h a u:=e.ok b
theorem zbir(b:HOk P w H h)(e:Rd H a (.dK kvs)):kvs.length<=sizeLine/\(a==sysModules)=false/\∃vs,KV kvs vs/\h.DictOf (mixKind P w) a vs:=
 show ObjOk P w H h a (.dK kvs) from zbws b e
theorem zbvc(b:HOk P w H h)(e:H a=some (.dK kvs)):kvs.length<=sizeLine/\(a==sysModules)=false/\∃vs,KV kvs vs/\h.DictOf (mixKind P w) a vs:=zbir b (.inl e)
theorem zsx{c:List Key}(f:HOk P w H h)(e:H a=some (.tup (c.map kV))):(tupleKind (mixKind P w)).is h c a:=by
 obtain⟨_,b,r,o,i,d,n,g⟩:=(show ObjOk P w H h a (.tup (c.map kV)) from f a _ e)
 exact⟨o,b.toArray,n,i,d,g,by simpa using zqt r⟩
theorem zbki(c:HOk P w H h)(e:Rd H a (.dT kvs)):kvs.length<=sizeLine/\(a==sysModules)=false /\
  ∃xs,KT H kvs xs/\h.DictOfH (tupleKind (mixKind P w)) a xs:=by
 obtain⟨z,y,xs,r,o,i,n,k,d,j,g,f⟩:=(show ObjOk P w H h a (.dT kvs) from zbws c e)
 refine⟨z,y,xs,r,o,i,n,k,d,j,g,λx hx=>?_,f⟩;have b:∀{l:List (List Key×V)}{m:List (List Key×Addr×Value)},KT H l m->∀x∈m,(tupleKind (mixKind P w)).is h x.1 x.2.1:=by
  intro l m q
  induction q with
  |nil=>intro x hx;exact nomatch hx
  |@cons p q ps qs hq t ih=>
   intro x hx;rcases xbm.mp hx with e|hx
   ·subst e;exact zsx c (by rw[←hq.1];exact hq.2.1)
   ·exact ih x hx
 exact b r x hx
theorem zbxd(b:HOk P w H h)(e:H a=some (.dT kvs)):kvs.length<=sizeLine/\(a==sysModules)=false /\
 ∃xs,KT H kvs xs/\h.DictOfH (tupleKind (mixKind P w)) a xs:=zbki b (.inl e)
def DGet(H:Hp) (a:Addr) (y:V) (r:Option V):Prop:=
 (∃c k,Rd H a (.dK c)/\y=kV k/\r=valV c k)\/∃c k b,Rd H a (.dT c)/\y=.ref b/\H b=some (.tup (k.map kV))/\r=valV c k
def DPut(H:Hp) (a:Addr) (y v:V) (d:Hp):Prop:=
 (∃c k,H a=some (.dK c)/\y=kV k/\c.length<sizeLine/\d=upd H a (.dK (putK c k v))) \/
 ∃c k b,H a=some (.dT c)/\y=.ref b/\H b=some (.tup (k.map kV))/\c.length<sizeLine/\d=upd H a (.dT (putK c k v))
theorem DPut.t{k:List Key}(e:H a=some (.dT kvs))(c:H b=some (.tup (k.map kV)))(d:kvs.length<sizeLine):
 DPut H a (.ref b) v (upd H a (.dT (putK kvs k v))):=.inr ⟨kvs,k,b,e,rfl,c,d,rfl⟩
theorem Inv.big(I:Inv X aU σ H s):sysModules<s.heap.objs.size:=by
 have h:mainGlobals<s.heap.objs.size:=(I.mod.glob.keeps I.bk).lt;exact xjo (by decide) h
theorem zbbk{A:Around}(x:A.units+1<cLine)(I:Inv X aU σ H s)(g:DGet H a y (some v))(r:RelV y u)(h:∀f t,Inv X aU σ H t->RelV v f->Q f t):
  wpAny (model X.prog X.w) A (getItem (.ref a) u) Q E s:=by
 rcases g with⟨q,k,e,m,l⟩|⟨q,k,b,e,m,C,l⟩
 ·subst m;obtain⟨z,J,P,c,i⟩:=zbir I.hok e;obtain⟨f,n,d⟩:=RelO.some_of (v:=v) (o:=valueAt P k) (by rw[l];exact c.val k);exact wpAny_getItem_of (zbhu r) i.mapOf n (h f _ (I.tok _) d)
 ·subst m;cases(show u=Value.ref b from r);obtain⟨z,J,G,c,i⟩:=zbki I.hok e;obtain⟨f,n,d⟩:=RelO.some_of (v:=v) (o:=(atKey G k).map (·.2)) (by rw[l];exact c.val k);obtain⟨p,w,j⟩:=xdb.mp n;refine wpAny_getItem_heap (xje x) (zsx I.hok C) i w ?_;rw[j];exact h f _ (I.tok _) d
theorem d_in{A:Around}(p:A.units+1<cLine)(I:Inv X aU σ H s)(g:DGet H a y o)(m:RelV y u)(h:∀n,Inv X aU σ H n->Q (.bool o.isSome) n):
  wpAny (model X.prog X.w) A (compareOp .In u (.ref a)) Q E s:=by
 rcases g with⟨i,k,e,f,l⟩|⟨i,k,b,e,f,r,l⟩
 ·subst f;obtain⟨z,j,v,c,d⟩:=zbir I.hok e;refine wpAny_in_of (zbhu m) j d.mapOf ?_;rw[←(c.val k).isSome_eq,←l];exact h _ (I.tok _)
 ·subst f;cases(show u=Value.ref b from m);obtain⟨z,j,t,c,d⟩:=zbki I.hok e;refine wpAny_in_heap (xje p) (zsx I.hok r) j d ?_;have q:=(c.val k).isSome_eq;rw[Option.isSome_map] at q;rw[←q,←l];exact h _ (I.tok _)
theorem znd(I:Inv X aU σ H s)(d:Mut (H a))(f:Heap.SameBut a s.heap h')(g:∃q,h'.get? a=some q)(c:ObjOk X.prog X.w (upd H a ob) h' a ob):
  Inv X aU σ (upd H a ob) {s with heap:=h',toks:=t'}:=
 I.write (x:=a) (e:=a) d (.inl rfl) (λb q h z=>(f.2 b h).trans z) g c
theorem zbis{d:Heap}{b:List (Key×V)}(z:b.length<=sizeLine)(f:(a==sysModules)=false)(c:KV b vs)(e:d.DictOf (mixKind P w) a vs):
 ObjOk P w H' d a (.dK b):=⟨z,f,vs,c,e⟩
theorem zbbj{A:Around}(hu:A.units+1<cLine)(I:Inv X aU σ H s)(g:DPut H a y v H')(G:RelV y u)(U:RelV v r)(h:∀J,Inv X aU σ H' J->Q () J):
  wpAny (model X.prog X.w) A (setItem (.ref a) u r) Q E s:=by
 rcases g with⟨f,k,e,n,l,m⟩|⟨f,k,b,e,n,C,l,m⟩
 ·subst n m;obtain⟨z,x,vs,d,t⟩:=zbvc I.hok e;have p:vs.length<=sizeLine:=by rw[←d.length];exact z
  have o:(putK f k v).length<=sizeLine:=by have:=zgj f k v;lia
  refine wpAny_setItem_pairs (hsz:=p) (zbhu G) t λS i w=>h _ ?_
  have he:∃q,S.get? a=some q:=let ⟨q,_,_,j,_⟩:=i;⟨q,j⟩
  exact znd I (by rw[e];exact True.intro) w he (zbis o x (d.put k U) i)
 ·subst n m;cases(show u=Value.ref b from G);obtain⟨z,x,xs,d,t⟩:=zbxd I.hok e;have p:xs.length<=sizeLine:=by rw[←xiw d];exact z
  have o:(putK f k v).length<=sizeLine:=by have:=zgj f k v;lia
  refine wpAny_setItem_heap (hsz:=p) (xje hu) (zsx I.hok C) t λS i w=>h _ ?_
  obtain⟨q,es,ep,j,Y,h3,h4,_,h5⟩:=i;refine znd I (by rw[e];exact True.intro) w ⟨q,j⟩ ⟨o,x,_,(d.put k C U).keeps λc ys P=>?_,q,es,ep,j,Y,h3,h4,h5⟩;rw[zu (zbwx P e (λz=>nomatch z))];exact P
theorem zbyv(I:Inv X aU σ H s)(e:H a=some (.dK kvs))(f:RelV (kV k) u)(l:valV kvs k=some v)(m:more=[]\/∃x,more=[x])
  (h:∀ c n,Inv X aU σ (upd H a (.dK (dropK kvs k))) n->RelV v c->Q c n):wpAny (model X.prog X.w) A (call (.builtin "dict.pop") (.ref a::u::more)) Q E s:=by
 obtain⟨z,G,p,b,j⟩:=zbvc I.hok e;obtain⟨c,J,g⟩:=RelO.some_of (v:=v) (o:=valueAt p k) (by rw[←l];exact b.val k);have r:(keyPart u).isSome=true:=by
  cases k with
  |inl i=>obtain⟨t,q⟩:=(show ∃t,u=Value.int i t from f);subst q;rfl
  |inr x=>obtain⟨t,q⟩:=(show ∃t,u=Value.str x t from f);subst q;rfl
 have P:argsOk "dict.pop" ⟨.ref a::u::more,[]⟩:=by
  rcases m with q|⟨x,q⟩
  ·subst q;exact F.args_dict_pop_2 _ _
  ·subst q;exact F.args_dict_pop_3 _ _ _
 refine xmo xjp j.typeIs F.entry_dict_pop P (meets_dict_pop_there (mixKind X.prog X.w) a (zbhu f) more m r)
  ⟨p,c,j,by rw[←b.length];exact z,J,λC d w=>h c _ ?_ g⟩
 have y:∃q,C.get? a=some q:=let ⟨q,_,_,hq,_⟩:=d;⟨q,hq⟩
 exact znd I (by rw[e];exact True.intro) w y (zbis (xbb (zbiq kvs k) z) G (b.drop k) d)
noncomputable def NoSl(i:Expr):Prop:=∀b a,subscripted i false b a=operate [b,a] (getItem b a)
theorem zblf{T id:String}
  (g:typeLookup (.type T) "__getitem__"=pure (some (.builtin id)))(j:NoSl slice)
  (h:wpAny (model prog w) A (eval value env) (λo c=>wpAny (model prog w) A (eval slice env) (λi s₂=>s₂.TypeIs o T/\wpAny (model prog w) A (getItem o i) Q E s₂) E c) E s):
  wpAny (model prog w) A (eval (.Subscript value slice pos) env) Q E s:=by
 refine Subscript_ (xey h (λo c k=>xey k (λi s₂ b=>?_) λ_ _ x=>x) λ_ _ x=>x);obtain⟨e,b⟩:=b;unfold subscriptTail;refine xba ?_;rw[getitemInPython_of_ne e.not_modules];refine xba (wpAny_specialOf e g ?_);have a:wpAny (model prog w) A (subscripted slice false o i) (λr d=>wpAny (model prog w) A (letTemporaryGo value o r >>= λ_=>pure r) Q E d) E s₂:=by
  rw[j o i];exact wpAny_operating (xey b (λr d f=>xba (wpAny_letTemporaryGo (xbe f))) λ_ _ x=>x)
 first
  |exact xbe (xba a)
  |exact xba (xbe (xba a))
  |exact xba a
theorem zta(I:Inv X aU σ H s)(g:DGet H a y o):s.TypeIs (.ref a) "dict":=by
 rcases g with⟨d,k,e,_,_⟩|⟨d,k,b,e,_,_,_⟩
 ·obtain⟨_,_,f,_,c⟩:=zbir I.hok e;exact c.typeIs
 ·obtain⟨_,_,h,_,c⟩:=zbki I.hok e;exact c.typeIs
def tDGet(c b:TE):TE:=λσ H Q=>c σ H λx H1=>b σ H1 λy H2=>∃a v,x=.ref a/\DGet H2 a y (some v)/\Q v H2
def tDIn(b c:TE):TE:=λσ H Q=>b σ H λy H1=>c σ H1 λx H2=>∃a o,x=.ref a/\DGet H2 a y o/\Q (.bl o.isSome) H2
def sDPut(e d c:TE):TS:=λD σ H=>c σ H λv H1=>e σ H1 λx H2=>d σ H2 λy H3=>∃a b,x=.ref a/\DPut H3 a y v b/\D.nx σ b
theorem zbmk{X:Cx}(k:X.A.units+1<cLine)(n:PE X o td)(l:PE X i ty)(p:NoSl i):PE X (.Subscript o i pos) (tDGet td ty):=by
 intro d s σ H Q I h;refine zblf F.slot_dict_getitem.lookup p (thn (n d s σ H _ I h) λu q ⟨x,H1,w,t,j⟩=>thn (l d q σ H1 _ w j) λC E c=>?_);obtain⟨y,H2,e,m,a,v,r,g,z⟩:=c;subst r;obtain rfl:u=Value.ref a:=t;exact⟨zta e g,zbbk k e g m λG A f b=>⟨v,H2,f,b,z⟩⟩
theorem zbta{X:Cx}(f:X.A.units+1<cLine)(k:PE X i ty)(n:PE X o td):PC X .In i o (tDIn ty td):=by
 intro c s σ H Q I h;refine thn (k c s σ H _ I h) λz p ⟨y,H1,m,j,e⟩=>thn (n c p σ H1 _ m e) λu A b=>?_
 obtain⟨x,H2,l,t,a,v,r,g,q⟩:=b;subst r;obtain rfl:u=Value.ref a:=t;exact d_in f l g j λw d=>⟨.bl v.isSome,H2,d,rfl,q⟩
theorem zblx{X:Cx}{b:Pos}(j:X.A.units+1<cLine)(p:PE X o td)(k:PE X i ty)(m:PE X value tv)(t:swapsWith value (some (.Subscript o i pos')) b.line X.env=pure false):
  PS X (.Assign [.Subscript o i pos'] value b) (sDPut td ty tv):=by
 intro c s σ H D I h;refine wpAny_Assign_Subscript (thn (m c s σ H _ I h) λr A ⟨v,H1,P,G,f⟩=>thn (p c A σ H1 _ P f) λu z ⟨x,H2,J,E,Q⟩=>thn (k c z σ H2 _ J Q) λU S d=>?_) t;obtain⟨y,H3,e,n,a,w,C,g,q⟩:=d;subst C;obtain rfl:u=Value.ref a:=E;exact zbbj j e g n G λY l=>⟨σ,w,l,q⟩
theorem zbit(h:Heap)(a:sysModules<h.objs.size):ObjOk P w H (h.push { cls:=.type "dict",data:=.dict #[] }) h.objs.size (.dK []):=
 ⟨xep _,xga.mpr (xfj (xcl a)),[],.nil,Heap.DictOf.new h⟩
theorem zbij(h:Heap)(a:sysModules<h.objs.size):ObjOk P w H (h.push { cls:=.type "dict",data:=.dict #[] }) h.objs.size (.dT []):=
 ⟨xep _,xga.mpr (xfj (xcl a)),[],.nil,_,#[],0,xci _ rfl,⟨rfl,rfl,rfl⟩,rfl,rfl,xgm⟩
def tDNewK:TE:=λ_ H Q=>∀p,H p=none->Q (.ref p) (upd H p (.dK []))
def tDNewT:TE:=λ_ H Q=>∀p,H p=none->Q (.ref p) (upd H p (.dT []))
theorem zbgf:PE X (.Dict [] [] pos) tDNewK:=λb s σ H Q I h=>
 wpAny_Dict_empty ⟨.ref s.heap.objs.size,_,I.laid (a:=s.heap.objs.size) (o:=.dK []) (t':=s.toks) (λ_ _ q=>xbk _ q) (xbj _) (zbit s.heap I.big),rfl,h _ (I.hok.fresh (xbj _))⟩
theorem zbge:PE X (.Dict [] [] pos) tDNewT:=λb s σ H Q I h=>
 wpAny_Dict_empty ⟨.ref s.heap.objs.size,_,I.laid (a:=s.heap.objs.size) (o:=.dT []) (t':=s.toks) (λ_ _ q=>xbk _ q) (xbj _) (zbij s.heap I.big),rfl,h _ (I.hok.fresh (xbj _))⟩
structure M1 (X:Cx) (o:Expr) (m:Str) (apos:Pos) (e:Expr) (cpos:Pos):Prop where
 base:attributeBase o m X.env (eval o X.env)=eval o X.env
 few:((backTo cpos (starEach [e] X.env)).all (λx=>!x.1)&&(backToKw cpos (keywordEach [] X.env)).all (λx=>x.1.isSome)
  && decide (([e]:List Expr).length+([]:List Keyword).length+(if([]:List Keyword).isEmpty then 0 else 1)<30))=true
 line:(apos.endLine==cpos.line)=true
 trees:backTo cpos (starEach [e] X.env)=[(false,eval e X.env)]
structure M2 (X:Cx) (o:Expr) (m:Str) (apos:Pos) (e f:Expr) (cpos:Pos):Prop where
 base:attributeBase o m X.env (eval o X.env)=eval o X.env
 few:((backTo cpos (starEach [e,f] X.env)).all (λx=>!x.1)&&(backToKw cpos (keywordEach [] X.env)).all (λx=>x.1.isSome)
  && decide (([e,f]:List Expr).length+([]:List Keyword).length+(if([]:List Keyword).isEmpty then 0 else 1)<30))=true
 line:(apos.endLine==cpos.line)=true
 trees:backTo cpos (starEach [e,f] X.env)=[(false,eval e X.env),(false,eval f X.env)]
def IsD(H:Hp) (a:Addr):Prop:=(∃b,Rd H a (.dK b))\/∃b,Rd H a (.dT b)
theorem zboi(I:Inv X aU σ H s)(d:IsD H a):
  s.TypeIs (.ref a) "dict"/\(∀ b,Value.ref a=.ref b->∃ c,s.heap.get? b=some c/\c.dict=none)/\(a==sysModules)=false:=by
 rcases d with⟨g,e⟩|⟨g,e⟩
 ·obtain⟨_,i,l,_,f⟩:=zbir I.hok e;refine⟨f.typeIs,λb q=>?_,i⟩;cases q;obtain⟨c,_,_,j,h,_⟩:=f;exact⟨c,j,h.2.1⟩
 ·obtain⟨_,i,k,_,f⟩:=zbki I.hok e;refine⟨f.typeIs,λb q=>?_,i⟩;cases q;obtain⟨c,_,_,j,h,_⟩:=f;exact⟨c,j,h.2.1⟩
theorem zbvi{A:Around}(v:A.units+1<cLine)(I:Inv X aU σ H s)(g:DGet H a y o)(p:RelV y u)(t:RelV d r)(h:∀n q,Inv X aU σ H q->RelV (o.getD d) n->Q n q):
  wpAny (model X.prog X.w) A (call (.builtin "dict.get") [.ref a,u,r]) Q E s:=by
 rcases g with⟨j,k,e,i,l⟩|⟨j,k,b,e,i,w,l⟩
 ·subst i;obtain⟨z,m,C,c,f⟩:=zbir I.hok e;refine xmo xma f.typeIs F.entry_dict_get (F.args_dict_get_3 _ _ _) (meets_dict_get_default (mixKind X.prog X.w) a (zbhu p) m r) ⟨_,f.mapOf,h _ _ (I.tok _) ?_⟩;rw[l];exact(c.val k).getD t
 ·subst i;cases(show u=Value.ref b from p);obtain⟨z,m,x,c,f⟩:=zbki I.hok e;refine xmo xma f.typeIs F.entry_dict_get (F.args_dict_get_3 _ _ _) (meetsH_dict_get_default (tupleKind (mixKind X.prog X.w)) a b m r) ⟨xje v,k,x,zsx I.hok w,f,h _ _ (I.tok _) ?_⟩;rw[l];exact(c.val k).getD t
def tDGet2(d c b:TE):TE:=λσ H Q=>d σ H λx H1=>∃a,x=.ref a/\IsD H1 a/\c σ H1 λy H2=>b σ H2 λz H3=>∃o,DGet H3 a y o/\Q (o.getD z) H3
theorem zbgg{X:Cx}(n:X.A.units + 1<cLine)(v:PE X o td)(p:PE X e ty)(A:PE X f tx)(m:M2 X o "get" apos e f cpos):PE X (.Call (.Attribute o "get" apos) [e,f] [] cpos) (tDGet2 td ty tx):=by
 intro c s σ H Q I h;refine wpAny_Call_method m.base m.few m.line xit xma F.type_dict_get (thn (v c s σ H _ I h) λu G i=>?_);obtain⟨x,H1,j,S,a,J,d,l⟩:=i;subst J;obtain rfl:u=Value.ref a:=S;obtain⟨C,P,_⟩:=zboi j d;refine⟨C,P,?_⟩;rw[m.trees]
 refine xlr rfl (xmd (xiz (thn (p c G σ H1 _ j l) λiv E ⟨y,H2,U,t,Y⟩=>
  xiz (thn (A c E σ H2 _ U Y) λfv s3 ⟨z,H3,k,r,ov,g,w⟩=>xli ?_))))
 exact zbvi n k g t r λw' s4 q b=>⟨_,H3,q,b,w⟩
end L2
namespace Att
open PySem.W Calls PyProof.Rows
theorem zjg:∀(ns:List Int) (c:List Value),WellAll P h c (ns.map WData.int)->IntsAre c ns:=by
 intro ns
 induction ns with
 |nil=>
  intro c w;rw[xod] at w;cases w;exact .nil
 |cons n ns ih=>
  intro c w;rw[xbq] at w;cases w with
  |cons a b=>
   cases a;exact .cons _ _ (ih _ b)
theorem zze{l:OpenLaw}(t:l.most=some n)
  (c:l.row.toRowW.claim.pre args=true)(i:WellAll P h vals args):
  ∃ a m b,vals=[Value.ref a]/\args=[WData.list (b.map WData.int)]/\h.get? a=some { cls:=.type "list",data:=.seq m.toArray }/\IntsAre m b/\b.length<=n:=by
 have j:WShape.hasAll [] args [.list .int]=true:=(pre_splitW c).1;have k:l.pre.holds [] {args:=args}=true:=(pre_splitW c).2;obtain⟨d,r,rfl,p,o⟩:=hasAllW_cons j;obtain rfl:=hasAllW_nil o;obtain⟨v,rfl,u⟩:=hasW_list p;obtain⟨b,rfl⟩:=items_int u;have e:b.length<=n:=by
  unfold OpenLaw.pre at k;have f:(WTm.not (.lt (.lit (.int (n:Int))) (.len (.arg 0)))).holds [] {args:=[.list (b.map .int)]}=true:=by
   have f:=(holds_andW k).1;rw[t] at f;exact f
  have g:=condW_of f (w_not (w_lt w_lit (w_len_list (w_arg rfl))));rw[xbc] at g;refine xcp λq=>?_
  have s:(n:Int)<((b.length:Nat):Int):=by lia
  first
   | (rw[xbp s] at g;exact absurd g (by decide))
   | (simp at g;lia)
 cases i with
 |cons w1 w2=>
  cases w2;cases w1 with
  |list ho hall=>exact⟨_,_,b,rfl,rfl,ho,zjg b _ hall,e⟩
theorem zzn(l:OpenLaw)(args:List WData):l.row.toRowW.claim.post args (.bool true) args=true:=
 postW_of (r:=l.row.toRowW) (X:=(true==true))
  (show WShape.has [] (.bool true) .bool=true by first|rfl|decide|simp[WShape.has,WShape.arms,WShape.armsAll])
  (show(WTm.eq .res (.lit (.bool true))).value [] {args:=args,res:=some (.bool true),after:=args}=some (.bool (true==true)) from w_eq_bool (w_res rfl) w_lit) rfl
theorem attach_call{l:OpenLaw}{d:DefRec}
  (U:l.most=some n)(z:d.params.defaults=[])
  (call:∀(w:World) (A b:Shared) (m y:Str->Option Value) (k:Addr) (o:Obj) (u t e:Value) (a:Addr) (g:List Value) (p:List Int),
   Ground q loose [] XP w A m y b.heap->YP w b.heap ->
   b.heap.get? k=some o->o.data=.func (docDef d.name d.params d.body d.scope u t e)->b.heap.CodeRec t d.name->m d.name=some (.ref k) ->
   b.heap.get? a=some { cls:=.type "list",data:=.seq g.toArray }->IntsAre g p->p.length<=n->b.gens=#[] ->
   codeAny (model l.prog w) callerA (.call (.ref k) ⟨[.ref a],[]⟩) (λr s=>r=.ok (.ret (.bool true))/\OldK b.heap s.heap/\s.os=b.os/\AllBare s.gens) b):
  WalkO q loose XP YP l.row.toRowW d [] (λf g=>PySem.call f g):=by
 intro w A b m y G Y k o u t e dV kV ho hd x I C hg J H as i E a0 v S;obtain rfl:dV=.none:=Dflts.none I z;obtain rfl:kV=.none:=Dflts.noKw I;obtain⟨a,g,p,rfl,rfl,h,c,j⟩:=zze U i v;refine enter_call (xju (call w A b m y k o u t e a g p G Y ho (fd_plain hd) x C h c j hg) λr s X=>?_);obtain⟨rfl,P,h3,Q⟩:=X;exact⟨.inl ⟨.bool true,.bool true,[],rfl,λ_=>rfl,.bool true,zzn l _,λ_=>⟨List.Pairwise.nil,λ_ hm=>(nomatch hm)⟩⟩,P,h3,Q⟩
end Att
namespace L2
open Spec PyProof.Rows
theorem zpq:∀{a:List Value}{b:List Int},IntsAre a b->Vals (b.map V.int) a
 |_,_,.nil=>.nil
 |_,_,.cons n t h=>.cons ⟨t,rfl⟩ (zpq h)
def Only(H:Hp):Prop:=∀b,H b=none\/∃o a,H b=some (.frz o (.lst a))
theorem zbhl{K:Fg}{s₁:Shared}{t:List Value}
  (KX:K.In s₁.heap)(I:s₁.heap.Ns mainGlobals mg)(f:s₁.heap.Ns builtinsNs mb)(Y:∀ x:Str,x≠"__name__"->mb x=bootBuiltins x)(C:s₁.heap.NoLimit)(hg:s₁.gens=#[])
  (U:s₁.heap.get? a=some { cls:=.type "list",data:=.seq t.toArray })(hi:IntsAre t ns)(hl:ns.length<=sizeLine)(hr:Room k callerA)
  (F:∀g:Heap,K.In g->g.Ns mainGlobals mg->FnOk P w K mg g CX k fa fd [x] sp)(p:∀(s:Shared) (u:Value),BindsTo s fd ⟨[u],[]⟩ [(x,u)])
  (a0:∀H:Hp,Only H->SqL K H a (ns.map V.int)->sp [.ref a] H (λv _=>v=.bl true) λ_ _ _=>False)
  (X:∀H e i,CX [] H s₁ (λ_ _ _=>False) e i->False):
  codeAny (model P w) callerA (.call (.ref fa) ⟨[.ref a],[]⟩) (λr i=>r=.ok (.ret (.bool true))/\OldK s₁.heap i.heap/\i.os=s₁.os/\AllBare i.gens) s₁:=by
 have rv:=zpq hi;have Q:=hi.length;have l:∀H:Hp,Only H->SqL K H a (ns.map V.int)->HOk P w H s₁.heap->(∀b,H b≠none->b=a)->(H a≠none->K.lookup a=none) ->
   codeAny (model P w) callerA (.call (.ref fa) ⟨[.ref a],[]⟩) (λr i=>r=.ok (.ret (.bool true))/\OldK s₁.heap i.heap/\i.os=s₁.os/\AllBare i.gens) s₁:=by
  intro H hO hS J hA hK;have c:∀{b:Addr}{o:Obj},s₁.heap.get? b=some o->H b=none->(hidT s₁.heap H).get? b=some o:=λe n=>zbib e n
  have a1:∀{b:Addr}{o:Obj}{y:Array DictEntry}{ep:Nat},s₁.heap.get? b=some o->o.data=.dict y ep->H b=none:=λ{b o y ep} e d=>by
   cases q:H b with
   |none=>rfl
   |some u=>
    have e':b=a:=hA b (by rw[q];simp);subst e';rw[U] at e;cases e
    have d':Data.seq t.toArray _=Data.dict y ep:=d;cases d'
  have j:∀{b:Addr}{m:Str->Option Value},s₁.heap.Ns b m->(hidT s₁.heap H).Ns b m:=λ{b m} ⟨o,y,ep,e,d,r⟩=>⟨o,y,ep,c e (a1 e d),d,r⟩
  have E:K.In (hidT s₁.heap H):=λb o e=>c (KX b o e) (by
   cases q:H b with
   |none=>rfl
   |some u=>
    have e':b=a:=hA b (by rw[q];simp);subst e'
    rw[hK (by rw[q];simp)] at e;cases e)
  have hM:Mod K mg (hidT s₁.heap H):=⟨E,j I,⟨mb,j f,Y⟩,let ⟨mc,h1,h2⟩:=C;⟨mc,j h1,h2⟩⟩
  have e0:Env0 P w K mg (hidT s₁.heap H) callerA [] s₁ H:=⟨rfl,hM,λb o e=>zbnc e,xdt (zbax _ _),trivial,λb f=>absurd (show b∈([]:List Addr) from f) (by simp),J,.of_eq hg⟩
  refine xju ((F _ E (j I)).run callerA [] s₁ H ⟨[.ref a],[]⟩ [.ref a] [.ref a] _ _ hr e0 (p s₁ (.ref a)) (.cons rfl .nil) (a0 H hO hS)) λr i h=>?_
  cases r with
  |error e=>exact(X H e i h).elim
  |ok fl=>
   cases fl with
   |next=>exact False.elim h
   |brk=>exact False.elim h
   |cont=>exact False.elim h
   |ret u=>
    obtain⟨v,H',os,S,un,A,r',q⟩:=h;have q':v=.bl true:=q;subst q';obtain rfl:u=Value.bool true:=r';refine⟨rfl,OldK.of_keep λb o e=>?_,os,S⟩;cases q:H b with
    |none=>exact un.keep b o e q (by intro z;exact absurd (show b∈([]:List Addr) from z) (by simp)) (by simp)
    |some u=>
     rcases hO b with z|⟨ob,xs,z⟩
     ·rw[q] at z;cases z
     ·have z2:=un.frzs b ob _ z;obtain⟨e1,_⟩:=J b _ z;obtain⟨e2,_⟩:=A b _ z2;rw[e] at e1;cases e1
      exact e2
 cases hk:K.lookup a with
 |some o=>
  have e:=KX a o hk;rw[U] at e;cases e;refine l (λ_=>none) (λ_=>.inl rfl) (.inr ⟨_,t.toArray,_,hk,rfl,rfl,rfl,by rw[xby,Q];exact hl,by simpa using rv⟩) (λb u z=>by have G:(none:Option HO)=some u:=z;cases G) (λb z=>absurd rfl z) λz=>absurd rfl z
 |none=>
  refine l (λb=>if b=a then some (.frz { cls:=.type "list",data:=.seq t.toArray } (.lst (ns.map V.int))) else none) (λb=>?_) (.inl (.inr ⟨{ cls:=.type "list",data:=.seq t.toArray },if_pos rfl⟩)) (λb u z=>?_) (λb z=>?_) λ_=>hk
  ·by_cases f:b=a
   ·exact .inr ⟨_,_,if_pos f⟩
   ·exact .inl (if_neg f)
  ·by_cases f:b=a
   ·have G:=(if_pos f).symm.trans z;cases G;subst f;exact⟨U,by rw[xbc];exact hl,t,_,rv,U⟩
   ·have G:=(if_neg f).symm.trans z;cases G
  ·by_cases f:b=a
   ·exact f
   ·exact absurd (if_neg f) z
theorem zbkq{l:W.OpenLaw}{n k:Nat}{q:Program}{g:List Str}{XP:(Str->Option Value)->Heap->Prop}{P:World->Heap->Prop}{d:DefRec}{K:Params->Fg}{CX:World->CXT}{sp:World->Sp}{x:Str}
  (S:l.most=some n)(A:n<=sizeLine)(C:d.params.defaults=[])(hr:Room k callerA)
  (Q:∀(w:World) (h:Heap),P w h->(K w.params).In h)
  (F:∀(w:World) (j:Str->Option Value) (r:Addr) (h:Heap),(K w.params).In h->h.Ns mainGlobals j->j d.name=some (.ref r) ->
   ∃t:FuncData,(∀(s:Shared) (u:Value),BindsTo s t ⟨[u],[]⟩ [(x,u)]) /\
    ∀b:Heap,(K w.params).In b->b.Ns mainGlobals j->FnOk l.prog w (K w.params) j b (CX w) k r t [x] (sp w))
  (E:∀(w:World) (H:Hp) (a:Addr) (p:List Int),p.length<=n->Only H->SqL (K w.params) H a (p.map V.int)->sp w [.ref a] H (λv _=>v=.bl true) λ_ _ _=>False)
  (y:∀(w:World) (H:Hp) (s:Shared) (e:Value) (z:Shared),CX w [] H s (λ_ _ _=>False) e z->False):
  W.WalkO q g XP P l.row.toRowW d [] (λf J=>PySem.call f J):=by
 refine Att.attach_call S C λw s₀ s₁ j mb r o pm cd a0 a J p G Y ho hd U I m i c hg=>?_
 have KX:=Q w _ Y;obtain⟨t,hb,hF⟩:=F w j r _ KX G.T.g I;exact zbhl KX G.T.g G.T.b G.T.builtins G.T.nolimit hg m i (xbb c A) hr hF hb (λH X hS=>E w H a p c X hS) λH e z=>y w H s₁ e z
end L2
/- THE LAST THEOREM (shape;LID,My.* are yours):
 My.Adr: a structure of the addresses that your layer names (classes,functions);My.Txt K t: a structure (Prop) of the equations over K;
 My.txt_mk:{K} {implicit addresses ..} (e1:nsIn K mainGlobals "law"=some (some (.ref f))) (e2:K.lookup f=some ⟨oc,od,.func (fnOf "law" "law" params body scope dV kV doc pm an cdv ct),sl⟩) (e3:codeIn K cdv "law"=true) ..:∃ t,My.Txt K t
(the tactic k_is has no namespace: write k_is) -/
namespace L2
open Spec PyProof.Rows
noncomputable def defArgs(s:Stmt):Arguments:=match s with
 |.FunctionDef _ a _ _ _ _ _ _ _ _=>a
 |_=>{posonlyargs:=[],args:=[],vararg:=none,kwonlyargs:=[],kw_defaults:=[],kwarg:=none,defaults:=[]}
noncomputable def defBody(s:Stmt):List Stmt:=match s with
 |.FunctionDef _ _ b _ _ _ _ _ _ _=>b
 |_=>[]
noncomputable def defScope(s:Stmt):Scope:=match s with
 |.FunctionDef _ _ _ _ _ _ sc _ _ _=>sc
 |_=>{kind:=.function,names:=[],isGenerator:=false,isCoroutine:=false}
abbrev CX0:CXT:=λ_ _ _ _ _ _=>False
abbrev E0:XK:=λ_ _ _=>False
theorem pass0:Passes CX0 X E0:=λ_ _ _ _ _ _ _ h=>h.elim
structure Fun (K:Fg) (x qual:Str) (au:Stmt) (f:Addr) (fd:FuncData):Prop where
 ex:∃(oc:Value) (od:Option Addr) (kV doc pm:Value) (an:Option Addr) (cdv ct:Value) (osl:Array (Option Value)),
  fd=W.fnOf x qual (defArgs au) (defBody au) (defScope au) .none kV doc pm an cdv ct/\K.lookup f=some ⟨oc,od,.func fd,osl⟩/\W.codeIn K cdv qual=true
 kp:W.keepIn K (.ref f)=true
theorem Fun.ok{K:Fg}{N:List Str}(F:Fun K x qual au f fd)(S:FnScope N ps (defScope au))(i:∀d H Q E,sp d H Q E->d.length=ps.length)
  (c:∀(b:Value) (A:Around) (a:List Env) (s:Shared) (H:Hp) (d:List V) (Q:VK) (E:XK),Room k (A.deeper (envOfC qual (defScope au) s.heap.objs.size f b))->sp d H Q E ->
   ∃t,PSs (cxOf CX0 P w K mg base N qual (defScope au) f b A a s H E).nox (defBody au) t/\t {nx:=λ_ m=>Q .non m,rt:=Q} (start N d) H):FnOk P w K mg base CX0 (k+1) f fd ps sp:=by
 obtain⟨p,v,kV,j,y,r,b,u,l,rfl,o,e⟩:=F.ex;refine zbyj o e S i λA a s H d Q E n g=>?_
 obtain⟨t,h,q⟩:=c b A a s H d Q E n g;exact⟨t,h.nox,q⟩
theorem Fun.binds{K:Fg}{g:List Str}(F:Fun K x qual au f fd)
  (h:∀(kV b i:Value) (d:Option Addr) (a e:Value) (c:List Value),c.length=g.length->bindArgs (W.fnOf x qual (defArgs au) (defBody au) (defScope au) .none kV b i d a e) ⟨c,[]⟩=pure (g.zip c)):Binds K fd g []:=by
 obtain⟨l,m,kV,b,i,d,a,e,k,rfl,n,j⟩:=F.ex;exact .all (h kV b i d a e)
theorem zbuk{K:Fg}{kV:Value}(l:K.lookup f=some ⟨oc,od,.func (W.fnOf x qual (defArgs au) (defBody au) (defScope au) .none kV doc pm an cdv ct),osl⟩)
 (c:W.codeIn K cdv qual=true)(k:W.keepIn K (.ref f)=true):Fun K x qual au f (W.fnOf x qual (defArgs au) (defBody au) (defScope au) .none kV doc pm an cdv ct):=⟨⟨oc,od,kV,doc,pm,an,cdv,ct,osl,rfl,l,c⟩,k⟩
theorem zbdt(a:Room k A):A.units+1<cLine:=xdg (xct (by decide:1<=64) _) a.units
theorem pv{X:Cx}(i:Nat) (d:X.N[i]?=some x:=by rfl)(b:Vis X.env.scope x:=by first|exact Or.inl rfl|exact Or.inr (Or.inl rfl)|exact Or.inr (Or.inr rfl))(c:(x==("__debug__" : Str))=false:=by decide)
 (a:(x==("__classdict__" : Str))=false:=by decide):PE X (.Name x pos) (tVar i):=zbst d b c a
theorem iteF{A B:Prop}(h:B):if false=true then A else B:=by
 rw[if_neg xgg];exact h
theorem iteT{A B:Prop}(h:A):if true=true then A else B:=by
 rw[if_pos rfl];exact h
section
variable {κ:Type}[DecidableEq κ]
end
noncomputable abbrev NoX:Value->Shared->Prop:=λ_ _=>False
noncomputable abbrev testsOf(cs:List Expr) (a:Env):Sem Bool:=
 forIn cs true λd b=>if b=true then do let z ←isTrue d a (eval d a);pure (ForInStep.yield z) else pure (ForInStep.yield b)
def CompStep(P:Program) (w:World) (B:Around) (b x:Expr) (cs:List Expr) (a:Env) (i l:Value) (K:Shared->Prop) (v:Value) (f:Shared):Prop:=
 wpAny (model P w) B (letOwnedTupleGo b i v) (λ_ sb=>wpAny (model P w) B (assign b a v) (λ_ d=>wpAny (model P w) B (testsOf cs a) (λe c=>
  if e=true then wpAny (model P w) B (eval x a) (λy h=>wpAny (model P w) B (call (.builtin "list.append") [l,y]) (λ_ g=>K g) NoX h) NoX c else K c) NoX d) NoX sb) NoX f
theorem zbbp{cs:List Expr}(J:Nat->Shared->Prop)
  (s:∀k d,J k d->wpAny (model P w) B (pyNext i) (λo f=>match o with
   |none=>R (.ok .next) f
   |some v=>CompStep P w B tg x cs ev i l (λh=>∃j,j<k/\J j h) v f) NoX d)
  (k:Nat)(u:J k sh):codeAny (model P w) B (.compLoop (.ListComp x [⟨tg,it,cs,0⟩] sc ps) 0 i l ev) R sh:=by
 have a:∀{E:Value->Shared->Prop}(e:Value) (z:Shared),NoX e z->E e z:=λ_ _ z=>z.elim
 refine codeAny_loop rfl J (λk d t=>wpAny_noted (by
  rw[compTurn_list];refine xba (xnp (xba (xey (s k d t) (λo f b=>?_) a)))
  match o,b with
  |none,b=>exact xbe b
  |some v,b=>
   refine xba (xey b (λ_ sb m=>xba (xey m (λ_ r n=>xba (xey n (λg C c=>?_) a)) a)) a)
   match g,c with
   |false,c=>exact xbe (And.intro rfl c)
   |true,c=>exact xba (xba (xey c (λy A q=>xba (xey q (λ_ h p=>xbe (xbe (And.intro rfl p))) a)) a)))) k u
theorem zpa{env:Env}:∀(b:List (Str×NameKind)) (acc:List (Str×Addr)),(∀y∈b,y.2=.free->∃c,env.cells.lookup y.1=some c)->(∀x c,acc.lookup x=some c->env.cells.lookup x=some c) ->
  ∃f:List (Str×Addr),(forIn b acc (λx r=>if(x.2==NameKind.free)=true then do let a ←cellOf env x.1;pure (ForInStep.yield ((x.1,a)::r)) else pure (ForInStep.yield r)):Sem (List (Str×Addr)))=pure f /\
   (∀x c,f.lookup x=some c->env.cells.lookup x=some c)/\(∀x c,acc.lookup x=some c->∃h,f.lookup x=some h)/\∀x,(x,NameKind.free)∈b->∃c,f.lookup x=some c:=by
 intro b
 induction b with
 |nil=>intro acc _ i;exact⟨acc,rfl,i,λx c e=>⟨c,e⟩,λx z=>(nomatch z)⟩
 |cons y r ih=>
  intro acc j i;obtain⟨n,k⟩:=y;by_cases hk:k=.free
  ·subst hk;obtain⟨c,p⟩:=j (n,.free) xbr rfl
   obtain⟨f,e,o,g,m⟩:=ih ((n,c)::acc) (λy l=>j y (xbf _ l)) (λx h e=>by
    rw[xgi] at e;by_cases d:x=n
    ·subst d;rw[xhn] at e;cases e;exact p
    ·rw[xga.mpr d] at e
     exact i x h e)
   refine⟨f,?_,o,λx h s=>?_,λx d=>?_⟩
   ·rw[List.forIn_cons];simp only[xhn,ite_true];have q:cellOf env n=pure c:=by unfold cellOf;rw[p]
    rw[q];simp only[pure_bind];exact e
   ·by_cases d:x=n
    ·subst d;exact g x c (by rw[xgi,xhn])
    ·exact g x h (by rw[xgi,xga.mpr d];exact s)
   ·rcases xbm.mp d with z|z
    ·cases z;exact g n c (by rw[xgi,xhn])
    ·exact m x z
  ·obtain⟨f,e,o,g,m⟩:=ih acc (λy l=>j y (xbf _ l)) i;refine⟨f,?_,o,g,λx d=>?_⟩
   ·rw[List.forIn_cons];have t:(k==NameKind.free)=false:=by simpa using hk
    simp only[t,xdo,xeu,pure_bind];exact e
   ·rcases xbm.mp d with z|z
    ·cases z;exact absurd rfl hk
    ·exact m x z
theorem zxc{scope:Scope}{env:Env}(h:∀y∈scope.names,y.2=.free->∃c,env.cells.lookup y.1=some c):
  ∃cl,closureFor scope env=pure cl/\(∀x c,cl.lookup x=some c->env.cells.lookup x=some c)/\∀x,(x,NameKind.free)∈scope.names->∃c,cl.lookup x=some c:=by
 obtain⟨cl,e,h1,_,h3⟩:=zpa (env:=env) scope.names [] h (λx c e=>(nomatch e));refine⟨cl,?_,h1,h3⟩;unfold closureFor;have e':=congrArg (λm=>m >>= λr=>(pure r:Sem (List (Str×Addr)))) e;simp only[pure_bind] at e';exact e'
theorem zbl{a:Env}:∀{b:List (Str×NameKind)}{x:Str}{k:NameKind},(b.map λ(n,k)=>if(k==NameKind.free&&a.scope.kind==.function&&a.kindOf n==some .cell) then(n,NameKind.cell) else(n,k)).lookup x=some k ->
  b.lookup x=some k\/(k=.cell/\b.lookup x=some .free)
 |[],_,_,h=>by simp at h
 | (n,k')::r,x,k,h=>by
  have e:=@zbl a r x k;have c:List.lookup x ((if(k'==NameKind.free&&a.scope.kind==.function&&a.kindOf n==some .cell)=true then(n,NameKind.cell) else(n,k'))::_)=_:=h;cases hx:x==n with
  |true=>
   by_cases hc:(k'==NameKind.free&&a.scope.kind==.function&&a.kindOf n==some .cell)=true
   ·rw[if_pos hc] at c;simp only[xgi,hx] at c ⊢;cases c;rw[xdm,xdm] at hc;exact .inr ⟨rfl,by rw[eq_of_beq hc.1.1]⟩
   ·rw[if_neg hc] at c;simp only[xgi,hx] at c ⊢;exact .inl c
  |false=>
   have d:(r.map λ(n,k)=>if(k==NameKind.free&&a.scope.kind==.function&&a.kindOf n==some .cell) then(n,NameKind.cell) else(n,k)).lookup x=some k:=by
    by_cases hc:(k'==NameKind.free&&a.scope.kind==.function&&a.kindOf n==some .cell)=true
    ·rw[if_pos hc] at c;simp only[xgi,hx] at c;exact c
    ·rw[if_neg hc] at c;simp only[xgi,hx] at c;exact c
   simp only[xgi,hx];exact e d
def cxC(X:Cx) (N:List Str) (a:Scope) (c:List (Str×Addr)) (C:Addr) (b:List Addr) (s:Shared) (H:Hp):Cx:=
 {X with N:=N,s₀:=s,H₀:=H,env:=compEnvC a c C X.env,outer:=X.stack,ex:=b,fn:=λ_=>false,pn:=[],xe:=λ_ _=>False}
def startC(k:Nat) (is:List Nat) (σ:St):St:=List.replicate k none++is.map λi=>(σ[i]?).getD none
structure CompScope (X:Cx) (N:List Str) (k:Nat) (is:List Nat) (scope:Scope):Prop where
 kind:scope.kind=.function
 nocell:∀y∈scope.names,y.2≠.cell
 names:∀y∈scope.names,y.2=.local->scope.names.lookup y.1=some .local
 frees:∀y∈scope.names,y.2=.free->X.env.kindOf y.1=some .cell\/X.env.kindOf y.1=some .free
 len:N.length=k+is.length
 own:∀j i,is[j]?=some i->∃x,N[k+j]?=some x/\X.N[i]?=some x/\scope.names.lookup x=some .free
theorem zfm{l:List (Str×NameKind)}(h:l.lookup x=some k):(x,k)∈l:=xhk h
theorem zbhw{N:List Str}{C:List (Str×Addr)}{P:Heap}(S:CompScope X N k is scope)(I:Inv X aU σ H s)
  (h:∀x c,C.lookup x=some c->X.env.cells.lookup x=some c)(c2:∀x,(x,NameKind.free)∈scope.names->∃c,C.lookup x=some c)
  (w:∀b∈G,FpOk X aU H b)(Y:∀b∈G,∃o,s.heap.get? b=some o)(hn:P.Ns s.heap.objs.size (λ_=>none))(t:∀b o,s.heap.get? b=some o->P.get? b=some o):
  Inv (cxC X N scope C s.heap.objs.size G s H) [] (startC k is σ) H {s with heap:=P,toks:=tk}:=by
 have hC:∀b o,s.heap.get? b=some o->b≠s.heap.objs.size:=λb o e=>xcl (xcd e)
 have U:∀b∈G,b∉frs X.stack:=λb g z=>by
  rcases xbm.mp (I.stkSub b z) with e|e
  ·exact(w b g).2.1 e
  ·exact(w b g).2.2.1 e
 refine⟨⟨I.ok.mod,S.kind,I.ok.glob,I.ok.blt,xbj _,λx y c A d=>I.ok.inj x y c (h x c A) (h y c d),λx hx=>?_,λx c z=>?_,I.ok.hd,I.ok.frames,.inl rfl,λb g=>⟨?_,λx c e=>?_⟩,I.bs,xbb I.ok.bsz I.sz,λb o e g=>?_,U,I.stack,I.stkFree⟩,
  rfl,I.bare,Un.kept t,⟨_,hn,λi x v A d e3=>?_⟩,λx c e=>?_,I.hok.fresh (xbj _),λx c e=>I.freeC x c (h x c e),λp hp=>(nomatch hp),I.hok.kept t,?_,I.hnd⟩
 ·have E:(scope.names.map λ(n,k)=>if(k==NameKind.free&&X.env.scope.kind==.function&&X.env.kindOf n==some .cell) then(n,NameKind.cell) else(n,k)).lookup x=some .cell\/(scope.names.map λ(n,k)=>if(k==NameKind.free&&X.env.scope.kind==.function&&X.env.kindOf n==some .cell) then(n,NameKind.cell) else(n,k)).lookup x=some .free:=hx;have q:scope.names.lookup x=some .free:=by
   rcases E with z|z
   ·rcases zbl z with q|⟨_,q⟩
    ·exact absurd rfl (S.nocell _ (zfm q))
    ·exact q
   ·rcases zbl z with q|⟨q,_⟩
    ·exact q
    ·cases q
  exact c2 x (zfm q)
 ·cases z
 ·obtain⟨o,e⟩:=Y b g;exact hC b o e
 ·exact(w b g).2.2.2.2.1 x c (h x c e)
 ·rcases(w b g).2.2.2.1 with z|z
  ·exact I.ok.noex b o e z
  ·exact absurd (xbn (xcd (I.ok.bs b o e).1) z) (xhg _)
 ·-- a name of the def around
  unfold startC at d;have hi:k<=i:=by
   rcases xij i k with z|z
   ·rw[xcg (by rw[xgd];exact z),List.getElem?_replicate,if_pos z] at d;cases d
   ·exact z
  rw[xdi (by rw[xgd];exact hi),xgd,xco] at d;cases ej:is[i-k]? with
  |none=>rw[ej] at d;cases d
  |some j=>
   rw[ej] at d;have f:(σ[j]?).getD none=some v:=xde d;obtain⟨y,y1,y2,Q⟩:=S.own (i-k) j ej;have ey:y=x:=by
    have z:N[i]?=some y:=by rw[←y1];congr 1;lia
    have l:N[i]?=some x:=A;rw[z] at l;exact xde l
   subst ey;have e4:σ[j]?=some (some v):=by
    cases q:σ[j]? with
    |none=>rw[q] at f;cases f
    |some o=>rw[q] at f;exact congrArg some f
   have kd:=S.frees _ (zfm Q) rfl;have a0:Vis X.env.scope y:=.inr kd;obtain⟨m,_,hl⟩:=I.loc;obtain⟨u,r,lk⟩:=hl j y v y2 e4 a0;refine⟨u,r,?_⟩;rcases lk with⟨z,_⟩|⟨_,c,e5,cc⟩
   ·rcases kd with q|q<;>(rw[q] at z;cases z)
   ·obtain⟨c',e6⟩:=c2 y (zfm Q);have:c'=c:=by
     have z:=h y c' e6;rw[e5] at z;exact(xde z).symm
    subst this;refine .inr ⟨?_,c',e6,?_⟩
    ·rcases e3 with z|z|z
     ·exact absurd (zbl z) (by
       rw[Q];rintro(q|⟨q,_⟩)
       ·cases q
       ·cases q)
     ·exact .inl z
     ·exact .inr z
    ·obtain⟨o,J,hd⟩:=cc;exact⟨o,t _ o J,hd⟩
 ·obtain⟨v,o,J,hd⟩:=I.cell x c (h x c e);exact⟨v,o,t _ o J,hd⟩
 ·unfold startC;rw[xbl,xgd,xbc];exact S.len.symm
theorem zbhx{N:List Str}(I:Inv X aU σ H s)(d:∀b∈h,FpOk X aU H b)(J:Inv (cxC X N scope cl s.heap.objs.size h s H) [] σ' H' s')
  (f:Heap.SameBut s.heap.objs.size s'.heap h'):Inv X aU σ H' {s' with heap:=h'}:=by
 have j:∀b o,s.heap.get? b=some o->b≠s.heap.objs.size:=λb o e=>xcl (xcd e)
 have k:H' s.heap.objs.size=none:=J.free;have B:Un (frs X.stack) h H H' s.heap s'.heap:=J.base
 have U:Un (frs X.stack) h H H' s.heap h':=⟨λb o e n i g=>f.extBut b o (j b o e) (B.keep b o e n i g),λb o e n i g=>by
   obtain⟨p,q⟩:=B.slot b o e n i g;exact⟨p,f.extBut b _ (j b o e) q⟩,B.free,λb o e m=>by
   obtain⟨l,q⟩:=B.there b o e m
   exact⟨l,f.extBut b l (j b o e) q⟩,B.tups,B.frzs,B.tbls⟩
 refine I.call' (s':={s' with heap:=h'}) J.os U (λa o e=>?_) J.bare (λb c=>⟨(d b c).2.2.2.1,(d b c).2.1,(d b c).2.2.2.2.1,(d b c).2.2.2.2.2⟩);refine(J.hok a o e).stay (λb u c q=>f.extBut b u ?_ q) (λ_ q=>q) λ_ _ q=>q
 rcases c with z|z
 ·intro y;rw[z] at y;rw[y,k] at e;cases e
 ·intro y;rw[y,k] at z;cases z
structure OffC (X:Cx) (aU:List (Addr×Obj)) (H:Hp) (C:Addr):Prop where
 free:H C=none
 loc:C≠X.env.locals
 young:X.s₀.heap.objs.size<=C
 cell:∀x c,X.env.cells.lookup x=some c->c≠C
 pin:∀p∈X.pn++aU,p.1≠C
theorem OffC.back(o:OffC X aU H C)(I:Inv X aU σ H s)(c:Heap.SameBut C s.heap h'):Inv X aU σ H {s with heap:=h'}:=
 I.turned (t':=s.toks) (λb u a e=>c.extBut b u a e) o.free o.loc (.inr o.young) o.cell o.pin
def nxC(p:Addr) (g:TE) (f:TT) (N:St->Hp->Prop):St->Hp->Prop:=λa H3=>f a H3 λb d=>
 if b=true then g a d λy e=>∃c,e p=some (.lst c)/\c.length<sizeLine/\N a (upd e p (.lst (c++[y]))) else N a d
def CompG(J:It) (g:TG) (e:TT) (f:TE) (Q:VK) (p:Addr) (σ:St) (H:Hp):Prop:=∃W:Nat->Nat->St->Hp->Prop,(∃m,W 0 m σ H) /\
 ∀i m c a,W i m c a->(J.stop i a/\Q (.ref p) a)\/(J.go i a/\∃N:St->Hp->Prop,(∀d H2,N d H2->∃b,b<m/\W (i+1) b d H2)/\∀x H2,J.yld i a x H2->g x c H2 (nxC p f e N))
def tComp(c:TI) (k:Nat) (is:List Nat) (g:TG) (a:TT) (b:TE):TE:=λσ H Q=>c σ H λJ H1=>∀p,H1 p=none->CompG J g a b Q p (startC k is σ) (upd H1 p (.lst []))
def tYes:TT:=λ_ H Q=>Q true H
def PIf(X:Cx) (a:List Expr) (t:TT):Prop:=
 ∀(b:List (Addr×Obj)) (s:Shared) (σ:St) (H:Hp) (Q:Bool->Hp->Prop),Inv X b σ H s->t σ H Q ->
  wpAny (model X.prog X.w) X.A (forIn a true λc r=>if r=true then do let ok ←isTrue c X.env (eval c X.env);pure (ForInStep.yield ok) else pure (ForInStep.yield r)) (TP X b σ Q) X.xe s
theorem zbmc:PIf X [] tYes:=λa s σ H Q I h=>wpAny_tests_nil ⟨H,I,h⟩
theorem zbmb(h:PT X c t):PIf X [c] t:=λa s σ H Q I b=>wpAny_tests_one (h a s σ H Q I b)
section
variable {X:Cx}{tg:Expr}{iter:Expr}{elt:Expr}{ifs:List Expr}{g:TG}{tc:TT}{te:TE}{N:List Str}{k:Nat}{is:List Nat}{scope:Scope}{pos:Pos}
theorem zni(A:X.calm=true)(hg:∀j C f s H,PG (cxC X N scope j C f s H) tg g)(hc:∀j C f s H,PIf (cxC X N scope j C f s H) ifs tc)(he:∀j C f s H,PE (cxC X N scope j C f s H) elt te)
  (S:CompScope X N k is scope){aU:List (Addr×Obj)}{σ:St}{H2:Hp}{s2:Shared}{j:List (Str×Addr)}{it:Addr}{f:List Addr}{tn:Nat->Heap->Prop}{J:It}{Q:VK}{E:Value->Shared->Prop}{RR:Value->Addr->Result->Shared->Prop}
  (I2:Inv X aU σ H2 s2)(T:Turn X.prog X.w X.K tg J f it tn)(b0:tn 0 s2.heap)(f2:∀b∈f,FpOk X aU H2 b)
  (c1:∀x c,j.lookup x=some c->X.env.cells.lookup x=some c)(c2:∀x,(x,NameKind.free)∈scope.names->∃c,j.lookup x=some c)
  (h:∀p,H2 p=none->∃W:Nat->Nat->St->Hp->Prop,(∃m,W 0 m (startC k is σ) (upd H2 p (.lst []))) /\
   ∀i m t H',W i m t H'->(J.stop i H'/\Q (.ref p) H')\/(J.go i H'/\∃N:St->Hp->Prop,(∀σ2 H2,N σ2 H2->∃G,G<m/\W (i+1) G σ2 H2)/\∀x H2,J.yld i H' x H2->g x t H2 (nxC p te tc N)))
  (hR:∀(p C:Addr) (w:Shared) (H':Hp) (m:Str->Option Value),OffC X aU H' C->w.heap.Ns C m->Inv X aU σ H' w->Q (.ref p) H'->RR (.ref p) C (.ok .next) w):
  wpAny (model X.prog X.w) X.A (newList []) (λacc s₃=>wpAny (model X.prog X.w) X.A (newFunctionEnv scope X.env.globals j [] X.env.qual none .none (some X.env)) (λI s₄=>
   codeAny (model X.prog X.w) X.A (.compStart (.ListComp elt [⟨tg,iter,ifs,0⟩] scope pos) 0 (.ref it) acc {I with scope:=relabel scope X.env}) (RR acc I.locals) s₄) E s₃) E s2:=by
 refine xdx ?_;have fresh:H2 s2.heap.objs.size=none:=I2.fresh;have I3:Inv X aU σ (upd H2 s2.heap.objs.size (.lst [])) { s2 with heap:=s2.heap.push { cls:=.type "list",dict:=none,data:=.seq ([]:List Value).toArray } }:=I2.lnew (t':=s2.toks) (.nil) (by decide)
 generalize hs3:({ s2 with heap:=s2.heap.push { cls:=.type "list",dict:=none,data:=.seq ([]:List Value).toArray } }:Shared)=s3 at I3
 have k3:∀b o,s2.heap.get? b=some o->s3.heap.get? b=some o:=λb o e=>by rw[←hs3];exact xbk _ e
 refine wpAny_newFunctionEnv S.nocell (by intro y hy;simp at hy) (λh₁ a7 a6=>?_) S.kind;have a0:tn 0 s3.heap:=T.keep _ _ _ b0 λb _ o e=>k3 b o e
 have f3:∀b∈f,FpOk X aU (upd H2 s2.heap.objs.size (.lst [])) b:=λb l=>by
  obtain⟨o,e,_⟩:=T.obj _ _ b0 b l;exact⟨by rw[zu (xcl (xcd e))];exact(f2 b l).1,(f2 b l).2⟩
 have k4:∀b o,s3.heap.get? b=some o->h₁.get? b=some o:=λb o e=>a6.extBut b o (xcl (xcd e)) (xbk _ e)
 have J4:=zbhw (tk:=s3.toks+([]:List (Str×Value)).length) S I3 c1 c2 f3 (λb l=>let ⟨o,e,_⟩:=T.obj _ _ a0 b l;⟨o,e⟩) a7 k4;obtain⟨W,⟨m0,w0⟩,a2⟩:=h s2.heap.objs.size fresh;have a3:tn 0 h₁:=T.keep _ _ _ a0 λb _ o e=>k4 b o e
 have P:codeAny (model X.prog X.w) X.A (.compLoop (.ListComp elt [⟨tg,iter,ifs,0⟩] scope pos) 0 (.ref it) (.ref s2.heap.objs.size) (compEnvC scope j s3.heap.objs.size X.env)) (RR (.ref s2.heap.objs.size) s3.heap.objs.size) {s3 with heap:=h₁,toks:=s3.toks+([]:List (Str×Value)).length}:=by
  have z:∀{H':Hp},(∀b∈f,H' b=none)->∀b∈f,FpOk (cxC X N scope j s3.heap.objs.size f s3 (upd H2 s2.heap.objs.size (.lst []))) [] H' b:=λ{H'} hn b l=>by
   obtain⟨o,e,_⟩:=T.obj _ _ a0 b l;refine⟨hn b l,xcl (xcd e),J4.ok.exfs b l,.inl l,λx c e'=>(f3 b l).2.2.2.2.1 x c (c1 x c e'),λp hp=>(nomatch hp)⟩
  refine zbbp (λn w=>∃i t H',Inv (cxC X N scope j s3.heap.objs.size f s3 (upd H2 s2.heap.objs.size (.lst []))) [] t H' w/\tn i w.heap/\(∀b∈f,H' b=none)/\W i n t H') ?_ m0
   ⟨0,_,_,J4,a3,λb l=>(f3 b l).1,w0⟩
  rintro n s5 ⟨i,σ5,H5,I5,a5,a8,w5⟩;rcases a2 i n σ5 H5 w5 with⟨a1,q⟩|⟨go,N',a9,step⟩
  ·refine thn (T.done (cxC X N scope j s3.heap.objs.size f s3 (upd H2 s2.heap.objs.size (.lst []))) rfl rfl rfl A i [] s5 σ5 H5 _ I5 (z a8) a5 a1) λr s6 a=>?_
   obtain⟨hr,I6⟩:=a;subst hr;obtain⟨m,U,_⟩:=I6.loc;refine hR _ _ s6 H5 m ⟨I6.free,xkq I3.lt,I3.sz,λx c e=>?_,λp hp=>xcl (xcd (I3.pin p hp).1)⟩ U (zbhx (h':=s6.heap) I3 f3 I6 (.refl ..)) q;obtain⟨v,o,ho,_⟩:=I3.cell x c e;exact xcl (xcd ho)
  ·refine thn (T.item (cxC X N scope j s3.heap.objs.size f s3 (upd H2 s2.heap.objs.size (.lst []))) rfl rfl rfl A i [] s5 σ5 H5 _ I5 (z a8) a5 go) λr s6 a=>?_
   obtain⟨u,hr,h6⟩:=a;subst hr;refine thn h6 λ_ s7 a=>?_
   obtain⟨x,H7,I7,r7,y7,Y,b6⟩:=a;have b7:=I7.pinned (z b6) (T.obj _ _ Y);refine thn (hg j s3.heap.objs.size f s3 _ _ s7 σ5 H7 x u _ b7 r7 (step x H7 y7)) λ_ s8 a=>?_
   obtain⟨σ8,H8,I8,q8⟩:=a;refine thn (hc j s3.heap.objs.size f s3 _ _ s8 σ8 H8 _ I8 q8) λb s9 a=>?_
   obtain⟨H9,I9,q9⟩:=a;have again:∀{t:St}{H':Hp}{w:Shared}{G:Nat},Inv (cxC X N scope j s3.heap.objs.size f s3 (upd H2 s2.heap.objs.size (.lst []))) ([]++pinsAt f s7.heap) t H' w->G<n->W (i+1) G t H' ->
     ∃m,m<n/\∃i t H',Inv (cxC X N scope j s3.heap.objs.size f s3 (upd H2 s2.heap.objs.size (.lst []))) [] t H' w/\tn i w.heap/\(∀b∈f,H' b=none)/\W i m t H':=λ{t H' w G} I' U w'=>by
    refine⟨G,U,i+1,t,H',I'.unpinned,T.keep _ _ _ Y λb l o e=>(I'.pin (b,o) (xdy _ (xdy _ (zfl l e)))).1,λb l=>?_,w'⟩;obtain⟨o,e,d⟩:=T.obj _ _ Y b l;exact(I'.pin (b,o) (xdy _ (xdy _ (zfl l e)))).2.1
   cases b with
   |false=>
    obtain⟨G,U,w'⟩:=a9 _ _ q9;exact again I9 U w'
   |true=>
    refine thn (he j s3.heap.objs.size f s3 _ _ s9 σ8 H9 _ I9 q9) λv b5 a=>?_
    obtain⟨y,a4,b3,b1,xs,b9,hz,b4⟩:=a;obtain⟨G,U,w'⟩:=a9 _ _ b4;refine thn (zqq (X:=cxC X N scope j s3.heap.objs.size f s3 (upd H2 s2.heap.objs.size (.lst []))) _ b5 σ8 a4 (.ref s2.heap.objs.size) [y] _ [v] (λ_ H'=>H'=upd a4 s2.heap.objs.size (.lst (xs++[y]))) b3 rfl (.cons b1 .nil) ⟨_,xs,y,rfl,rfl,b9,hz,rfl⟩) λ_ c4 a=>?_
    obtain⟨_,c5,b2,_,c0⟩:=a;subst c0;exact again b2 U w'
 have c3:s2.heap.push { cls:=.type "list",dict:=none,data:=.seq ([]:List Value).toArray }=s3.heap:=by rw[←hs3]
 have b8:=codeAny_compStart_list (elt:=elt) (target:=tg) (iter:=iter) (ifs:=ifs) (rest:=[]) (scope:=scope) (pos:=pos) P (T.self X.A 0 _ _ _ a3 P);exact b8
end
theorem zix{N:List Str}(S:CompScope X N k is scope) (I:Inv X aU σ H s):
  ∃cl,closureFor scope X.env=pure cl/\(∀x c,cl.lookup x=some c->X.env.cells.lookup x=some c)/\∀x,(x,NameKind.free)∈scope.names->∃c,cl.lookup x=some c:=
 zxc λy hy hf=>I.ok.has y.1 (S.frees y hy hf)
theorem zbml{X:Cx}{N:List Str}(a:X.calm=true)(u:PI X tg iter wi)(A:∀b C c s H,PG (cxC X N scope b C c s H) tg g)(Y:∀b C c s H,PIf (cxC X N scope b C c s H) ifs tc)(t:∀b C c s H,PE (cxC X N scope b C c s H) elt te)
  (S:CompScope X N k is scope)(G:∀x,foldedSetIterable iter X.env x=pure x:=by intro _;rfl):PE X (.ListComp elt [⟨tg,iter,ifs,0⟩] scope pos) (tComp wi k is g tc te):=by
 intro j s σ H Q I h;obtain⟨b,e,z,l⟩:=zix S I;rw[eval_ListComp];refine wpAny_comprehension_free (use:=none) rfl G e S.kind S.names (thn (u j s σ H _ I h) λxv s1 w=>thn w λv s2 o=>?_);obtain⟨it,c,tn,J,H2,r,I2,T,d,y,P⟩:=o;subst r;refine zni (Q:=Q) (RR:=λacc C=>compPost (model X.prog X.w) X.A X.xe none (EP X j σ Q) acc C) a A Y t S I2 T d y z l P ?_;intro p C s' U m i E n q;exact⟨m,E,λh' f=>⟨.ref p,U,i.back n f,rfl,q⟩⟩
theorem zblv{X:Cx}{N:List Str}(c:X.calm=true)(hN:X.N.Nodup)(r:X.N[i]?=some x)(hx:Loc X.env.scope x)(hi:PI X tg iter wi)(hg:∀f C j s H,PG (cxC X N scope f C j s H) tg g)(hc:∀f C j s H,PIf (cxC X N scope f C j s H) ifs tc)
  (he:∀f C j s H,PE (cxC X N scope f C j s H) elt te)(S:CompScope X N k is scope){b:Pos}(G:swapsWith (.ListComp elt [⟨tg,iter,ifs,0⟩] scope pos) (some (.Name x pos')) b.line X.env=pure true:=by rfl)
  (hf:X.fn x=true\/X.env.scope.names.lookup x=some .local:=by first|exact .inl rfl|exact .inr rfl|assumption)
  (P:∀x,foldedSetIterable iter X.env x=pure x:=by intro _;rfl):PS X (.Assign [.Name x pos'] (.ListComp elt [⟨tg,iter,ifs,0⟩] scope pos) b) (tAsg (tComp wi k is g tc te) (gName i)):=by
 intro t s σ H D I h;obtain⟨f,e,c1,U⟩:=zix S I;rw[exec_Assign_Name_used (hs:=G)];refine xba (xnp (xba (?_:wpAny _ X.A _ _ _ s)));show wpAny _ X.A (do let _ ←comprehension (.ListComp elt [⟨tg,iter,ifs,0⟩] scope pos) scope X.env _ (newList []) false (eval iter X.env) (some (assign (.Name x pos') X.env))) _ _ s
 refine xba (xey (wpAny_comprehension_free (use:=some (assign (.Name x pos') X.env)) (Q:=λ_ l=>SP X t D .next l) rfl P e S.kind S.names
  (thn (hi t s σ H _ I h) λxv s1 h1=>thn h1 λa0 s2 h2=>?_)) (λ_ l hq=>xbe (xbe hq)) λ_ _ e=>e)
 obtain⟨it,j,tn,J,H2,e2,I2,T,u,f2,h3⟩:=h2;subst e2;refine zni (Q:=λv E=>gName i v σ E D.nx) (RR:=λacc C=>compPost (model X.prog X.w) X.A X.xe (some (assign (.Name x pos') X.env)) (λ_ l=>SP X t D .next l) acc C) c hg hc he S I2 T u f2 c1 U h3 ?_;intro p C l E m d hm Y q;show wpAny _ X.A (assign (.Name x pos') X.env (.ref p)) _ _ _;refine wpAny_assign_Name (zpt (v:=.ref p) Y hN r hx rfl (λa1 w A=>?_) hf);obtain⟨a,n,ha⟩:=A;have o:C≠a:=by
  rcases ha with z|z
  ·rw[z];exact d.loc
  ·exact(d.cell x a z).symm
 exact⟨m,hm.sameBut n o,λh' y=>⟨_,E,d.back w y,q⟩⟩
def Callee(P:Program) (w:World) (K:Fg) (c:Str->Option Value) (a:Heap) (x:Str) (k:Nat) (d:List Str) (e:Sp):Prop:=
 ∃f b,FnOk P w K c a CX0 k f b d e/\Binds K b d []/\W.keepIn K (.ref f)=true/\c x=some (.ref f)
theorem zbgi{X:Cx}(c:Callee X.prog X.w X.K X.mg X.base x k ps sp)(l:Room k X.A)(g:Gl X x)(j:PA X (e::es) t)(a:(x==("__debug__" : Str))=false:=by decide)
  (h:starEach (e::es) X.env=(false,eval e X.env)::starEach es X.env:=by rfl)(d:(backTo pos (starEach es X.env)).any (·.1)=false:=by rfl):
  PE X (.Call (.Name x p) (e::es) [] pos) (tCall sp [] E0 t):=by
 obtain⟨f,n,F,b,i,m⟩:=c;exact zbmn F l g m i b .nil pass0 j a h d
noncomputable def TopF(K:Fg) (x:Str) (a:Stmt):Prop:=
 ∃f b,W.nsIn K mainGlobals x=some (some (.ref f))/\Fun K x x a f b
theorem zbf{K:Fg}{x:Str}{au:Stmt}{f:Addr}{h g:Option Addr}{e:Array (Option Value)}{d kV j m b i:Value}
  (a:W.nsIn K mainGlobals x=some (some (.ref f)))(l:K.lookup f=some ⟨d,h,.func (W.fnOf x x (defArgs au) (defBody au) (defScope au) .none kV j m g b i),e⟩)(c:W.codeIn K b x=true)(k:W.keepIn K (.ref f)=true):TopF K x au:=
 ⟨f,_,a,zbuk l c k⟩
theorem zro{P:Program}{w:World}{K:Fg}{m:Str->Option Value}{c h:Heap}{x:Str}{d:Stmt}{N j:List Str}{k:Nat}{sp:Sp}(T:TopF K x d)(X:K.In h)(G:h.Ns mainGlobals m)(S:FnScope N j (defScope d))
  (y:∀(kV n p:Value) (r:Option Addr) (b u:Value) (l:List Value),l.length=j.length->bindArgs (W.fnOf x x (defArgs d) (defBody d) (defScope d) .none kV n p r b u) ⟨l,[]⟩=pure (j.zip l))
  (o:∀i H Q E,sp i H Q E->i.length=j.length)
  (e:∀(f:Addr) (b:Value) (A:Around) (g:List Env) (s:Shared) (H:Hp) (i:List V) (Q:VK) (E:XK),Room k (A.deeper (envOfC x (defScope d) s.heap.objs.size f b))->sp i H Q E ->
   ∃t,PSs (cxOf CX0 P w K m c N x (defScope d) f b A g s H E).nox (defBody d) t/\t {nx:=λ_ v=>Q .non v,rt:=Q} (start N i) H):Callee P w K m c x (k+1) j sp:=by
 obtain⟨f,q,a,F⟩:=T;exact⟨f,q,F.ok S o (e f),F.binds y,F.kp,W.mg_of X G a⟩
theorem zgp:CallR X (.builtin "isinstance") (λd H Q=>∃ x T t b,d=[x,.ty T]/\TyOf X.K H x t/\W.kitOne X.K t (.type T)=some b/\Q (.bl b) H):=by
 intro k s σ H d j Q I r h;obtain⟨x,T,t,b,rfl,c,e,q⟩:=h;obtain⟨u,g,rfl,f,a⟩:=vals2 r;cases(show g=Value.type T from a);exact zbav I f c e λi=>⟨.bl b,H,I.tok i,rfl,q⟩
noncomputable def CDivP(i j:Int):Prop:=0<j/\j<2^1000
theorem zoh:OpR X (binaryOp .FloorDiv) (rI CDivP λi j=>.int (i/j)):=opI λi j _ _ _ _ _ a q=>by
 have e:i.fdiv j=i/j:=Int.fdiv_eq_ediv_of_nonneg i (by have:=a.1;lia);refine floordiv_int (by have:=a.1;lia) (by rw[e];exact q) (.inl (PyProof.noPylong_of_log2 ?_));have f:j.natAbs<2^1000:=by
  have h:=a.1;have d:=a.2;have c:(j.natAbs:Int)=j:=by lia
  have g:(j.natAbs:Int)<((2^1000:Nat):Int):=by
   rw[c];exact_mod_cast d
  exact_mod_cast g
 have b:j.natAbs≠0:=by have:=a.1;lia
 have:=(Nat.log2_lt b).mpr f;lia
noncomputable def compLook(a:List Str) (xs:List (Str×NameKind)) (N:List Str) (k:Nat) (is:List Nat) (scope:Scope):Bool:=
 (scope.kind==.function)&&scope.names.all (λy=>y.2 != .cell)&&scope.names.all (λy=>y.2 != .local||scope.names.lookup y.1==some .local) &&
 scope.names.all (λy=>y.2 != .free||(xs.lookup y.1==some .cell||xs.lookup y.1==some .free))&&(N.length==k+is.length) &&
 (List.range is.length).all (λj=>match is[j]?,N[k+j]? with
  |some i,some x=>a[i]?==some x&&scope.names.lookup x==some .free
  |_,_=>false)
theorem zfq{X:Cx}{N:List Str}(h:compLook X.N X.env.scope.names N k is scope=true):CompScope X N k is scope:=by
 unfold compLook at h;simp only[xdm,xbx] at h;obtain⟨⟨⟨⟨⟨l,b⟩,g⟩,f⟩,c⟩,d⟩:=h;refine⟨eq_of_beq l,λy a e=>?_,λy a e=>?_,λy a e=>?_,eq_of_beq c,λj i e=>?_⟩
 ·have:=b y a;rw[e] at this;simp at this
 ·have:=g y a;rw[e] at this;simp at this;exact this
 ·have:=f y a;rw[e] at this;simp at this;exact this
 ·have m:j<is.length:=(xbh.mp e).1;have:=d j (xbi.mpr m);rw[e] at this;cases e2:N[k+j]? with
  |none=>rw[e2] at this;cases this
  |some x=>
   rw[e2] at this;simp only[xdm,xhq] at this;exact⟨x,rfl,this.1,this.2⟩
theorem zxi:bootBuiltins "len"=some (.builtin "len"):=by decide +kernel
theorem zbvx:bootBuiltins "abs"=some (.builtin "abs"):=by decide +kernel
theorem zte:bootBuiltins "min"=some (.builtin "min"):=by decide +kernel
theorem zbqf:bootBuiltins "max"=some (.builtin "max"):=by decide +kernel
theorem zbjp:bootBuiltins "sum"=some (.builtin "sum"):=by decide +kernel
theorem zdp:bootBuiltins "sorted"=some (.builtin "sorted"):=by decide +kernel
theorem zbvw:bootBuiltins "all"=some (.builtin "all"):=by decide +kernel
theorem zei:bootBuiltins "isinstance"=some (.builtin "isinstance"):=by decide +kernel
theorem zbvv:bootBuiltins "int"=some (.type "int"):=by decide +kernel
theorem zbqh:bootBuiltins "bool"=some (.type "bool"):=by decide +kernel
theorem zeh:bootBuiltins "tuple"=some (.type "tuple"):=by decide +kernel
theorem zbqg:bootBuiltins "list"=some (.type "list"):=by decide +kernel
theorem zbvu:bootBuiltins "set"=some (.type "set"):=by decide +kernel
theorem zbex(h:H p=some o):upd H p o=H:=by
 funext b
 unfold upd;split
 ·subst b;exact h.symm
 ·rfl
end L2
namespace Srt
open PySem.W PyProof.Rows
section
variable (r:Nat->Nat)
noncomputable def lt(i j:Nat):Bool:=decide (r i<r j)
noncomputable def At(p:Array Nat) (i:Nat):Nat:=r (p.getD i 0)
def Up(p:Array Nat) (n:Nat):Prop:=∀i j,i<=j->j<n->At r p i<=At r p j
end
noncomputable def midHeap(h:Heap) (d:Addr) (a:List Value):Heap:=((h.update d (Obj.mapSeq λ_=>(#[]:Array Value))).push (seqObj "tuple" a.toArray 0)).push (seqObj "list" #[] 0)
theorem zju{h:Heap}(a:b≠d)(e:h.get? b=some ob):(midHeap h d xs).get? b=some ob:=
 xbk _ (xbk _ ((Heap.get?_update_ne _ _ _ _ a).trans e))
def Answers(P:Program) (w:World) (B:Around) (r:Nat->Nat) (b:List Value) (a:Shared):Prop:=
 ∃κ,(∀R:SortKind->Shared->Prop,R κ a->wpAny (model P w) B (keyKind' b.toArray) R (λ_ _=>False) a) /\
  ∀i j C,i<b.length->j<b.length->C (lt r i j) a->kas_ask P w B κ b i j C a
noncomputable def outOf(a:List Value) (p:Array Nat):Array Value:=List.toArray (p.toList.map λi=>a.getD i Value.none)
theorem zzc{a:List Value}(h:a.length<2):(a.toArray.zip a.toArray).map (·.2)=outOf a (List.toArray (List.range a.length)):=by
 unfold outOf
 match a,h with
 |[],_=>simp
 |[_],_=>simp[xhx]
 |_::_::_,h=>exact absurd h (by simp)
end Srt
namespace Srt
open PySem.W PyProof.Rows HT
theorem zfn:∀a:List Int,lexLt a a=false
 |[]=>rfl
 |x::a=>by rw[zdb,if_pos rfl];exact zfn a
theorem zhn:∀{a b c:List Int},lexLt a b=true->lexLt b c=true->lexLt a c=true
 |_,[],[],_,h=>by rw[zed] at h;cases h
 |_,_::_,[],_,h=>by rw[zdl] at h;cases h
 |[],[],_::_,h,_=>by rw[zed] at h;cases h
 |_::_,[],_::_,h,_=>by rw[zdl] at h;cases h
 |[],_::_,_::_,_,_=>zci _ _
 |x::a,y::b,z::c,h1,h2=>by
  rw[zdb] at h1 h2 ⊢;by_cases e1:x=y
  ·rw[if_pos e1] at h1;subst e1;by_cases e2:x=z
   ·rw[if_pos e2] at h2 ⊢;exact zhn h1 h2
   ·rw[if_neg e2] at h2 ⊢;exact h2
  ·rw[if_neg e1] at h1;have e:=xdh h1;by_cases e2:y=z
   ·subst e2;rw[if_neg e1];exact h1
   ·rw[if_neg e2] at h2;have d:=xdh h2;rw[if_neg (by lia)];exact xbp (by lia)
theorem zmv:∀a b:List Int,lexLt a b=true\/a=b\/lexLt b a=true
 |[],[]=>.inr (.inl rfl)
 |[],_::_=>.inl (zci _ _)
 |_::_,[]=>.inr (.inr (zci _ _))
 |x::a,y::b=>by
  rw[zdb,zdb];by_cases e:x=y
  ·subst e;rw[if_pos rfl,if_pos rfl];rcases zmv a b with h|h|h
   ·exact .inl h
   ·exact .inr (.inl (by rw[h]))
   ·exact .inr (.inr h)
  ·rw[if_neg e,if_neg (λz=>e z.symm)];rcases Int.lt_or_gt_of_ne e with h|h
   ·exact .inl (xbp h)
   ·exact .inr (.inr (xbp h))
theorem zqr{a b:List Int}(h:lexLt a b=true):lexLt b a=false:=by
 cases e:lexLt b a with
 |false=>rfl
 |true=>have:=zhn h e;rw[zfn] at this;cases this
theorem zxa(a:∀x,p x=true->q x=true):∀{l:List Nat}{y:Nat},y∈l->q y=true->p y=false->l.countP p<l.countP q
 |[],_,h,_,_=>nomatch h
 |x::l,y,h,h1,h2=>by
  have b:∀l:List Nat,l.countP p<=l.countP q:=λl=>List.countP_mono_left λx _=>a x
  rcases xbm.mp h with rfl|h
  ·rw[xiu h1,xld (by rw[h2];decide)];exact xnr (b l)
  ·have e:=zxa a h h1 h2;by_cases c:p x=true
   ·rw[xiu c,xiu (a x c)];lia
   ·rw[xld c];by_cases d:q x=true
    ·rw[xiu d];lia
    ·rw[xld d];exact e
def rank(a:List (List Int)) (i:Nat):Nat:=(List.range a.length).countP λk=>lexLt (a.getD k []) (a.getD i [])
theorem zmm{ks:List (List Int)}(g:i<ks.length)(f:j<ks.length):lt (rank ks) i j=lexLt (ks.getD i []) (ks.getD j []):=by
 have up:∀{a b:Nat},a<ks.length->lexLt (ks.getD a []) (ks.getD b [])=true->rank ks a<rank ks b:=λ{a b} d h=>
  zxa (λx c=>zhn c h) (xbi.mpr d) h (zfn _)
 cases e:lexLt (ks.getD i []) (ks.getD j []) with
 |true=>exact xbp (up g e)
 |false=>
  refine xbv λh=>?_
  rcases zmv (ks.getD i []) (ks.getD j []) with z|z|z
  ·rw[e] at z;cases z
  ·unfold rank at h;rw[z] at h;exact absurd h (xhg _)
  ·have:=up f z;lia
section
variable {prog:Program}{w:World}{A:Around}{s:Shared}{b:Bool}{Q:Bool->Shared->Prop}
theorem zvv:∀{a c:List Value}{d f:List Int}(i:Nat),IntsAre a d->IntsAre c f->Q (lexLt d f) s->KatLex prog w A b (decide (a.length<c.length)) Q (a.zip c) i s
 |_,_,_,_,_,.nil,.nil,h=>h
 |_,_,_,_,_,.nil,.cons _ _ _,h=>h
 |_,_,_,_,_,.cons _ _ _,.nil,h=>h
 |_,_,_,_,i,.cons x t (vs:=a) (ns:=d) r1,.cons y u (vs:=c) (ns:=f) r2,h=>by
  rw[zdb] at h;refine kat_cons (wpAny_eqBool_int (kat_go (λe=>kat_yes ?_) λe=>kat_no ?_))
  ·rw[if_pos (eq_of_beq e)] at h;have q:=zvv (i+1) r1 r2 h;have g:decide ((Value.int x t::a).length<(Value.int y u::c).length)=decide (a.length<c.length):=by
    rw[xbw,xbw,xfr];simp
   rw[g];exact q
  ·rw[if_neg (xga.mp e)] at h;cases hb:(b&&i==0) with
   |true=>exact oneLt_int h
   |false=>exact kat_one _ _ (PyProof.Rows.lt_int h)
end
end Srt
namespace L2
open Spec PyProof.Rows PySem.W
theorem zpp:∀{b:List Addr}{c:List Value},Vals (b.map V.ref) c->c=b.map Value.ref
 |[],_,.nil=>rfl
 |a::b,_,.cons r t=>by
  rw[show _=Value.ref a from r,zpp t]
  rfl
def TupsAt(K:Fg) (H:Hp) (a:List (Addr×List Int)):Prop:=∀p∈a,SqT K H p.1 (p.2.map V.int)
theorem zm{α β:Type}(f:α->β)(d:β){l:List α}{i:Nat}{x:α}(h:l[i]?=some x):(l.map f).getD i d=f x:=by
 rw[xbg,xco,h]
 rfl
end L2
namespace L2
open Spec PyProof.Rows
mutual
inductive DAt (K:Fg) (H:Hp):V->PyData->Prop
 |non:DAt K H .non .none
 |bl (b:Bool):DAt K H (.bl b) (.bool b)
 |int (i:Int):DAt K H (.int i) (.int i)
 |str (x:Str):DAt K H (.str x) (.str x)
 |lst {a:Addr}{xs:List V}{ds:List PyData}:SqL K H a xs->DAll K H xs ds->DAt K H (.ref a) (.list ds)
 |tup {a:Addr}{xs:List V}{ds:List PyData}:SqT K H a xs->DAll K H xs ds->DAt K H (.ref a) (.tuple ds)
inductive DAll (K:Fg) (H:Hp):List V->List PyData->Prop
 |nil:DAll K H [] []
 |cons {x:V}{xs:List V}{d:PyData}{ds:List PyData}:DAt K H x d->DAll K H xs ds->DAll K H (x::xs) (d::ds)
end
section
variable {X:Cx}{aU:List (Addr×Obj)}{σ:St}{H:Hp}{s:Shared}
mutual
theorem zfd(I:Inv X aU σ H s):∀{v:V}{d:PyData}{u:Value},DAt X.K H v d->RelV v u->∃g,Reads s.heap u d g
 |_,_,_,.non,r=>by cases r;exact⟨_,.none⟩
 |_,_,_,.bl b,r=>by cases r;exact⟨_,.bool b⟩
 |_,_,_,.int i,r=>by obtain⟨t,rfl⟩:=r;exact⟨_,.int i t⟩
 |_,_,_,.str x,r=>by obtain⟨t,rfl⟩:=r;exact⟨_,.str x t⟩
 |_,_,_,.lst h all,r=>by
  cases r;obtain⟨a,f,⟨o,n,e,c,_,j⟩,_⟩:=I.list h;obtain⟨g,q⟩:=zgc I all f;exact⟨_,.list e c j q⟩
 |_,_,_,.tup h all,r=>by
  cases r;obtain⟨a,f,⟨o,e,c,n,j⟩,_⟩:=I.tuple h;obtain⟨g,q⟩:=zgc I all f;exact⟨_,.tuple e c j q⟩
theorem zgc(I:Inv X aU σ H s):∀{c:List V}{b:List PyData}{a:List Value},DAll X.K H c b->Vals c a->∃d,ReadsAll s.heap a b d
 |_,_,_,.nil,.nil=>⟨_,.nil⟩
 |_,_,_,.cons h t,.cons r rs=>by
  obtain⟨d,q⟩:=zfd I h r;obtain⟨f,e⟩:=zgc I t rs;exact⟨_,.cons q e⟩
end
end
def rEqX(K:Fg) (c:Bool):R2:=λx y H Q=>∃b a,DAt K H x b/\DAt K H y a/\PySem.SeqAt.shaped b=true/\PySem.SeqAt.shaped a=true/\Q (.bl (if c then !PyData.eqv b a else PyData.eqv b a)) H
section
variable {X:Cx}
theorem zsh(d:X.A.units+64<cLine):OpR X (compareOp .Eq) (rEqX X.K false):=by
 intro n s σ H x y v u Q I b j h;obtain⟨g,c,k,l,e,a,q⟩:=h;obtain⟨o,i⟩:=zfd I k b;obtain⟨m,f⟩:=zfd I l j;exact eq_dataH i f e a d ⟨.bl (PyData.eqv g c),H,I,rfl,q⟩
theorem zog(d:X.A.units+64<cLine):OpR X (compareOp .NotEq) (rEqX X.K true):=by
 intro n s σ H x y v u Q I b j h;obtain⟨g,c,k,l,e,a,q⟩:=h;obtain⟨o,i⟩:=zfd I k b;obtain⟨m,f⟩:=zfd I l j;exact ne_dataH i f e a d ⟨.bl (!PyData.eqv g c),H,I,rfl,q⟩
end
noncomputable def dI(a:List Int):List PyData:=a.map PyData.int
def dRow(a:List Int):PyData:=.tuple (dI a)
theorem zbpv:∀a b:List Int,PyData.eqvAll (dI a) (dI b)=decide (a=b)
 |[],[]=>by rfl
 |[],_::_=>by rfl
 |_::_,[]=>by rfl
 |x::a,y::b=>by
  show(x==y&&PyData.eqvAll (dI a) (dI b))=_;rw[zbpv a b,xfr];simp
theorem ziw(a b:List Int):PyData.eqv (dRow a) (dRow b)=decide (a=b):=zbpv a b
theorem zrm:∀a b:List (List Int),PyData.eqvAll (a.map dRow) (b.map dRow)=decide (a=b)
 |[],[]=>by rfl
 |[],_::_=>by rfl
 |_::_,[]=>by rfl
 |x::a,y::b=>by
  show(PyData.eqv (dRow x) (dRow y)&&PyData.eqvAll (a.map dRow) (b.map dRow))=_;rw[zrm a b,ziw,xfr];simp
theorem zbjh:∀a:List Int,PyData.canLayAll0 (dI a)=true/\PyData.depthAll (dI a)=0
 |[]=>⟨rfl,rfl⟩
 |x::a=>by
  obtain⟨b,c⟩:=zbjh a;refine⟨?_,?_⟩
  ·show(true&&PyData.canLayAll0 (dI a))=true;rw[b];rfl
  ·show max 0 (PyData.depthAll (dI a))=0;rw[c];rfl
theorem zkd(a:List Int):PySem.SeqAt.shaped (dRow a)=true:=by
 obtain⟨b,c⟩:=zbjh a;show(PyData.canLayAll0 (dI a)&&decide (PyData.depthAll (dI a)+1<=64))=true;rw[b,c];rfl
theorem zrl:∀a:List (List Int),PyData.canLayAll0 (a.map dRow)=true/\PyData.depthAll (a.map dRow)<=1
 |[]=>⟨rfl,xep _⟩
 |x::a=>by
  obtain⟨c,e⟩:=zrl a;obtain⟨d,b⟩:=zbjh x;refine⟨?_,?_⟩
  ·show(PyData.canLayAll0 (dI x)&&PyData.canLayAll0 (a.map dRow))=true;rw[c,d];rfl
  ·show max (PyData.depthAll (dI x)+1) (PyData.depthAll (a.map dRow))<=1;rw[b];lia
theorem zdo(a:List (List Int)):PySem.SeqAt.shaped (.tuple (a.map dRow))=true:=by
 obtain⟨b,c⟩:=zrl a;show(PyData.canLayAll0 (a.map dRow)&&decide (PyData.depthAll (a.map dRow)+1<=64))=true;rw[b,xbp (by lia)];rfl
theorem zmf:∀{a:List Bool}{c:List Value},Vals (a.map V.bl) c->c=a.map Value.bool
 |[],_,.nil=>rfl
 |b::a,_,.cons r t=>by
  rw[show _=Value.bool b from r,zmf t]
  rfl
theorem zzj(c:List Bool):((List.range c.length).all λi=>c.getD i false)=c.all id:=by
 rw[xfr];simp only[xbx,xbi];constructor
 ·intro h b d;obtain⟨i,a,rfl⟩:=xev d;have:=h i a;rw[xbg,xbd a] at this;exact this
 ·intro h i a;rw[xbg,xbd a];exact h _ (xcy a)
def rAny(K:Fg) (c:Bool):List V->Hp->VK->Prop:=λb H Q=>∃(l:Addr) (a:List Bool),b=[.ref l]/\SqL K H l (a.map V.bl)/\Q (.bl (if c then a.all id else a.any id)) H
theorem zrz(c:List Bool):TruthOf prog w A (λi v=>(c.map Value.bool).toArray[i]?=some v) (λi=>c.getD i false):=λi v s Q E f d=>by
 have a:(c.map Value.bool)[i]?=some v:=by simpa using f
 rw[xco] at a;cases e:c[i]? with
 |none=>rw[e] at a;cases a
 |some b=>
  rw[e] at a;cases a;dsimp only at d;rw[xbg,e] at d;exact xfm d
section
variable {X:Cx}
theorem zbjw(G:X.calm=true){k:List (Addr×Obj)}{σ:St}{H:Hp}{s:Shared}{l:Addr}{a:List Bool}{R:Bool->Prop}(I:Inv X k σ H s)(u:SqL X.K H l (a.map V.bl)){Q:Value->Shared->Prop}{F:(Nat->Bool)->Nat->Bool}
  (C:∀m,Inv X k σ H m->Q (.bool (F (λi=>a.getD i false) a.length)) m):
  wpAny (model X.prog X.w) X.A.in1 (pyIter (.ref l)) (λt c=>∃I v q n P St j,t=.ref I/\Walks X.prog X.w X.A.in1 I v q n P St/\St 0 c.heap/\TruthOf X.prog X.w X.A.in1 P j /\
   ∀g f,(∀b o,b∉q->c.heap.get? b=some o->g.get? b=some o)->Q (.bool (F j n)) {c with heap:=g,toks:=f}) X.xe s:=by
 obtain⟨y,E,d,J⟩:=I.list u;have e:=zmf E;subst e;have h:l<s.heap.objs.size:=by obtain⟨o,n,e,_⟩:=d;exact xcd e
 refine xlo d.isList ?_;refine⟨s.heap.objs.size,_,[s.heap.objs.size],_,_,_,_,rfl,Walks.list (A:=X.A.in1) (I.ok.hd G) _ l (xcl h) (a.map Value.bool).toArray,⟨⟨_,xci _ rfl,rfl,rfl⟩,d.isList.push _⟩,zrz a,λg f x=>?_⟩;have r:(a.map Value.bool).toArray.size=a.length:=by simp
 rw[r];refine C _ ?_;refine I.kept (t':=f) λb o e=>x b o ?_ (xbk _ e)
 intro z;have w:b=s.heap.objs.size:=by simpa using z
 have p:=xcd e;rw[w] at p;exact absurd p (xhg _)
theorem zbjn(d:X.calm=true):CallR X (.builtin "all") (rAny X.K true):=by
 intro j s σ H m g Q I r h;obtain⟨l,a,rfl,e,q⟩:=h;obtain⟨u,rfl,b⟩:=vals1 r;cases b;refine call_all_walk (zbjw (R:=λ_=>True) d I e (F:=λf n=>(List.range n).all f) λk c=>⟨.bl ((List.range a.length).all λi=>a.getD i false),H,c,rfl,?_⟩);rw[zzj];exact q
end
end L2
namespace Dct
open PySem.W PyProof.Rows
noncomputable def Raw(h:Heap) (d:Addr) (c:Array DictEntry) (b:Nat):Prop:=∃a,h.get? d=some a/\a.ExactDict/\a.data=.dict c b
theorem Raw.kept{h':Heap}(x:Raw h d es ep)(k:∀a,h.get? d=some a->h'.get? d=some a):Raw h' d es ep:=
 let ⟨a,e,r⟩:=x;⟨a,k a e,r⟩
theorem Raw.lt(x:Raw h d es ep):d<h.objs.size:=let ⟨_,e,_⟩:=x;xcd e
theorem Raw.is{a:Shared}(x:Raw a.heap d es ep):a.TypeIs (.ref d) "dict":=let ⟨ob,e,c,_⟩:=x; ⟨ob,e,c.1⟩
noncomputable def iterObj(d:Addr) (n a:Nat):Obj:={ cls:=.type "dict_keyiterator",data:=.fields #[.ref d,.int 0 0,.int n 0,.int a 0] }
theorem zum{au:Shared}{W:Value->Shared->Prop}(g:(d==sysModules)=false)(x:Raw au.heap d es ep)(a:W (.ref au.heap.objs.size) {au with heap:=au.heap.push (iterObj d es.size ep)}):wpAny (model P w) B (pyIter (.ref d)) W E au:=by
 obtain⟨h,e,c,f⟩:=id x;have b:=x.is;refine xoa b F.slot_dict_iter (xer F.slot_dict_iter b F.entry_dict_iter ?body (F.args_dict_iter_1 _))
 case body=>
  unfold Builtin.«dict.__iter__» Builtin.Dict.dictSlotNone Builtin.Dict.showsAll;refine xba (xba (wpAny_notOrdered_dict b (xbe ?_)));show wpAny _ _ ((if(d==sysModules)=true then _ else _) >>= _) _ _ au;rw[if_neg (λz=>xgg (g.symm.trans z))];refine xba (xbe (xba (xjm e f (xba (wpAny_dictEpoch e f (xba (xdx (xbe ⟨_,rfl, "dict_keyiterator",_,⟨_,xci _ rfl,rfl⟩,xgn.lookup,?_⟩))))))))
  exact a
theorem zul{au:Shared}{b:Array DictEntry}{W:Option Value->Shared->Prop}(a:au.heap.IsKeyIter it d k b.size ep)(x:Raw au.heap d b ep)(m:b[k]?=some en)
  (i:∀g:Heap,g.IsKeyIter it d (k+1) b.size ep->Heap.SameBut it au.heap g->W (some en.key) {au with heap:=g}):wpAny (model P w) B (pyNext (.ref it)) W E au:=by
 obtain⟨q,j,n,h⟩:=id a;obtain⟨p,e,c,l⟩:=id x;have lt:k<b.size:=(xnk.mp m).1;unfold pyNext;refine xba (xlu (wpAny_callSpecial?_slot (name:=Str.ofString "__next__") a.typeIs xgn (xer xgn a.typeIs F.entry_dict_keyiterator_next ?body (F.args_dict_keyiterator_next_1 _))))
 case body=>
  refine xba (xbe (xba (xba (xba (xhh a.typeIs (xbe (xba (xmz j h ?_))))))));simp only[show Builtin.Dict_items.ownsTuple "dict_keyiterator"=false from by decide,xdo,ite_false]
  show wpAny _ _ (if(Value.ref d==Value.none)=true then _ else _) _ _ au;have o:¬ (Value.ref d==Value.none)=true:=xgg;rw[if_neg o];refine xba (xbe (xba (xjm e l ?_)));rw[if_neg (by simp)];refine xba (xbe (xba (wpAny_dictEpoch e l ?_)));rw[if_neg (by simp)];refine xbe ?_;simp only[show ¬ ((k:Int)<0) from by lia,ite_false,xeh,m];refine xba (xba (xhh a.typeIs (xbe (xba (wpAny_isOneOf_keyiter a.typeIs ?_)))));show wpAny _ _ (setField (.ref it) 1 (rawInt ((k:Int)+1)) >>= _) _ _ au;refine xba (xih j h (by simp) ?_);have f:(au.heap.update it (Obj.mapFields (·.setIfInBounds 1 (rawInt ((k:Int)+1))))).IsKeyIter it d (k+1) b.size ep:=
   ⟨_,xfn _ j (xhy (xgv h _)),(xlk ..).trans n,by rw[xgv h];simp[rawInt]⟩
  refine xba (xeq (xba (wpAny_isOneOf_keyiter (s:={au with heap:=au.heap.update it (Obj.mapFields (·.setIfInBounds 1 (rawInt ((k:Int)+1))))}) f.typeIs ?_)));show wpAny _ _ (pure en.key) _ _ _;exact xbe (xbe ⟨_,rfl,xbe (i _ f (xew ..))⟩)
theorem zbct{B:Around}{au:Shared}{i:Array DictEntry}{W:Option Value->Shared->Prop}(p:B.handled=none)(f:au.heap.IsKeyIter it d k i.size ep)(x:Raw au.heap d i ep)(q:i.size<=k)
  (h:∀g:Heap,Heap.ExtBut it au.heap g->W none {au with heap:=g}):wpAny (model P w) B (pyNext (.ref it)) W E au:=by
 obtain⟨t,n,r,j⟩:=id f;obtain⟨s,e,c,l⟩:=id x;unfold pyNext;refine xba (xlu (wpAny_callSpecial?_slot (name:=Str.ofString "__next__") f.typeIs xgn (xer xgn f.typeIs F.entry_dict_keyiterator_next ?body (F.args_dict_keyiterator_next_1 _))))
 case body=>
  refine xba (xbe (xba (xba (xba (xhh f.typeIs (xbe (xba (xmz n j ?_))))))));simp only[show Builtin.Dict_items.ownsTuple "dict_keyiterator"=false from by decide,xdo,ite_false]
  show wpAny _ _ (if(Value.ref d==Value.none)=true then _ else _) _ _ au;have o:¬ (Value.ref d==Value.none)=true:=xgg;rw[if_neg o];refine xba (xbe (xba (xjm e l ?_)));rw[if_neg (by simp)];refine xba (xbe (xba (wpAny_dictEpoch e l ?_)));rw[if_neg (by simp)];refine xbe ?_;simp only[show ¬ ((k:Int)<0) from by lia,ite_false,xeh,xhp q];refine xba (xba (xhh f.typeIs (xbe ?_)));show wpAny _ _ (setField (.ref it) 0 .none >>= _) _ _ au;refine xba (xih n j (by simp) ?_);show wpAny _ _ (newExc (.type "StopIteration") [] >>= _) _ _ _
  refine xba ?_;simp only[newExc,newTuple];refine xba (xdx (xba (m:=firstArgMember _ _) (wpAny_of_eq (a:=Value.none) (by first|rfl|(simp only[firstArgMember];rfl)) (xdx ?_ (by size_fits)))) (by size_fits));simp only[raiseNew];refine xba (wpAny_handled ?_);rw[show B.in1.handled=none from p];refine xba (xbe (wpAny_throw ?_));refine xba (wpAny_isInstance (T:="StopIteration") (b:=true) ?_ isSubtype_stop (xbe (h _ (((xew ..).extBut.push _).push _))))
  exact⟨_,xci _ rfl,rfl⟩
theorem zzh{B:Around}(u:B.handled=none)(t:d≠it)(f:Array DictEntry)(p:Nat):
  Walks P w B it [it,d] [it] f.size (λi v=>∃n,f[i]?=some n/\v=n.key) (λi h=>h.IsKeyIter it d i f.size p/\Raw h d f p) where
 sub:=λb A=>xbm.mpr (.inl (xbz.mp A))
 frame:=λ_ _ _ z r=>⟨z.1.at λo e=>r it xbr o e,z.2.kept λo e=>r d (xbf _ (xbz.mpr rfl)) o e⟩
 item:=λi l s y x z j=>by
  have m:f[i]?=some f[i]:=xdk x;exact zul z.1 z.2 m λg a b=>j f[i].key g l.toks ⟨_,m,rfl⟩ ⟨a,z.2.kept λo e=>b.extBut d o t e⟩ λc o k e=>b.extBut c o (λq=>k (xbz.mpr q)) e
 done:=λl s y z j=>zbct u z.1 z.2 (xbj _) λg b=>j g l.toks λc o k e=>b c o (λq=>k (xbz.mpr q)) e
 self:=λ_ _ _ _ z j=>wpAny_pyIter_keyiter z.1 j
theorem zblp(g:(d==sysModules)=false)(a:Array DictEntry)(c:Nat):KdlSrc P w "dict" d d a.size (λi v=>∃ f,a[i]?=some f/\v=f.key) (λh=>Raw h d a c) where
 type:=λ_ x=>x.is
 there:=λ_ x=>⟨x.lt,x.lt⟩
 keep:=λ_ _ x k=>x.kept λo e=>k d (.inl rfl) o e
 notList:=by decide
 notTuple:=by decide
 hint:=λ_ _ _ _ x b=>kdl_hint_dict x.is b
 iter:=λ_ l j x=>⟨_,_,λ_ _ b=>zum g x b,zzh j (xcl x.lt) a c,⟨⟨_,xci _ rfl,rfl,rfl⟩,x.kept λo e=>xbk _ e⟩⟩
end Dct
namespace Srt
open PySem.W PyProof.Rows
end Srt
namespace L2
open Spec PyProof.Rows
theorem ObjOk.ob(x:ObjOk P w H h a o):∃ob,h.get? a=some ob:=by
 cases o with
 |lst xs=>obtain⟨_,_,_,_,e⟩:=x;exact⟨_,e⟩
 |tup xs=>obtain⟨_,_,_,ob,e,_⟩:=x;exact⟨_,e⟩
 |dK kvs=>obtain⟨_,_,_,_,ob,_,_,e,_⟩:=x;exact⟨_,e⟩
 |dT kvs=>obtain⟨_,_,_,_,ob,_,_,e,_⟩:=x;exact⟨_,e⟩
 |set S n=>obtain⟨ob,_,_,_,e,_⟩:=x;exact⟨_,e⟩
 |ins C dx fs=>obtain⟨_,_,_,e,_⟩:=x;exact⟨_,e⟩
 |own y=>obtain⟨_,e⟩:=x;exact⟨_,e⟩
 |xd fs=>obtain⟨_,⟨_,_,_,e,_⟩,_⟩:=x;exact⟨_,e⟩
 |rng lo hi=>obtain⟨_,_,_,e⟩:=x;exact⟨_,e⟩
 |frz ob u=>obtain⟨e,_⟩:=x;exact⟨_,e⟩
 |tbl ps=>exact⟨_,(show h.get? a=some _ from x)⟩
 |met f y=>exact⟨_,(show h.get? a=some _ from x)⟩
 |ext φ=>obtain⟨_,⟨_,e⟩,_⟩:=x;exact⟨_,e⟩
theorem Inv.away(I:Inv X aU σ H s) (c:∀b a,s.heap.get? b=some a->b≠q):H q=none:=by
 cases e:H q with
 |none=>rfl
 |some o=>
  obtain⟨a,z⟩:=(I.hok q o e).ob;exact absurd rfl (c q a z)
theorem Inv.laidN{g:Heap}(I:Inv X aU σ H s)(k:∀b u,s.heap.get? b=some u->g.get? b=some u)(f:∀b h,s.heap.get? b=some h->b≠q)(d:ObjOk X.prog X.w (upd H q o) g q o):
  Inv X aU σ (upd H q o) {s with heap:=g,toks:=t'}:=by
 have j:=I.away f;have a:∀{b:Addr}{u:HO},H b=some u->upd H q o b=some u:=λ{b u} e=>by rw[zu (zn e j)];exact e
 refine I.un ⟨λb u e _ _ _=>k b u e,λb u e _ _ _=>⟨u.slots,k b u e⟩,λb u e n _=>by rw[zu (f b u e)];exact n,λb u e _=>⟨u,k b u e⟩,λb i e=>a e,λb h u e=>a e,λb l e=>⟨#[],by rw[a e];simp⟩⟩ λb u e=>?_
 by_cases hb:b=q
 ·subst hb;rw[zt] at e;cases e;exact d
 ·rw[zu hb] at e;exact(I.hok b u e).stay (λc v _ z=>k c v z) (λc z=>a z) λc i z=>a z
theorem zbdp(a:List Int):(a.map (Sum.inl:Int->Key)).map kV=a.map V.int:=by rw[xcz];rfl
theorem znf{P:Program}{w:World}{H:Hp}{a:List (List Key×V)}:∀{c:List (List Int)}{f:List (List Key×Addr×Value)},
  Paired (λ(p:List Key×V) (q:List Key×Addr×Value)=>p.1=q.1/\H q.2.1=some (.tup (p.1.map kV))/\RelV p.2 q.2.2) a f->a.map (·.1)=c.map (λh=>h.map Sum.inl) ->
   ∃d:List (Addr×List Int),d.map (·.2)=c/\(∀p∈d,H p.1=some (.tup (p.2.map V.int)))/\f.map (λq=>(entryOfKey (tupleKind (mixKind P w)) q).key)=d.map λp=>Value.ref p.1:=by
 induction a with
 |nil=>
  intro c f r e;cases r;cases c with
  |nil=>exact⟨[],rfl,λp g=>(nomatch g),rfl⟩
  |cons x c=>cases e
 |cons kv a ih=>
  intro c f r e;cases r with
  |cons r rs=>
   cases c with
   |nil=>cases e
   |cons h c=>
    rw[xbq,xbq] at e;injection e with j l
    obtain⟨d,m,n,k⟩:=ih rs l;rename_i b _;obtain⟨o,i,s⟩:=r;refine⟨(b.2.1,h)::d,by rw[xbq,m],λp g=>?_,by rw[xbq,xbq,k];rfl⟩;rcases xbm.mp g with z|z
    ·subst z;rw[j,zbdp] at i;exact i
    ·exact n p z
open PySem.W in
theorem zbjx{sg:Shared}{a:List (Addr×List Int)}(h2:2<=a.length)
  (b:∀(i:Nat) (p:Addr×List Int),a[i]?=some p->∃(h:List Value) (o:Obj) (n:Nat),IntsAre h p.2/\sg.heap.get? p.1=some o/\o.cls=.type "tuple"/\o.data=.seq h.toArray n/\p.2≠[]):
  Srt.Answers P w B (Srt.rank (a.map (·.2))) (a.map λp=>Value.ref p.1) sg:=by
 refine⟨tuples' true,λR S=>?_,λi j C d A I=>?_⟩
 ·have kt:∀(l:List (Addr×List Int)),(∀p∈l,∃i:Nat,a[i]?=some p)->∃c:List Value,KatTups sg.heap (l.map λp=>Value.ref p.1) c/\c.length=l.length/\∀v∈c,∃i t,v=Value.int i t:=λl=>by
   induction l with
   |nil=>intro _;exact⟨[],KatTups.nil,rfl,λv e=>(nomatch e)⟩
   |cons p l ih=>
    intro m;obtain⟨c,u,J,q⟩:=ih λX E=>m X (xbf _ E)
    obtain⟨i,d⟩:=m p xbr;obtain⟨h,o,n,k,g,y,f,s⟩:=b i p d;obtain⟨pa,pn⟩:=p;dsimp only at k g y f s;cases k with
    |nil=>exact absurd rfl s
    |cons x t r=>exact⟨Value.int x t::c,KatTups.cons g y f rfl u,by rw[xbw,xbw,J],λv e=>(xbm.mp e).elim (λz=>⟨x,t,z⟩) (q v)⟩
  obtain⟨c,u,J,q⟩:=kt a λp m=>List.mem_iff_getElem?.mp m
  exact kat_kind (T:=.type "int") u (by lia) (λv e=>by
   obtain⟨i,t,rfl⟩:=q v e
   exact Looks.of_pure rfl) rfl S
 ·rw[xbc] at d A;have H:a[i]?=some a[i]:=xbd d;have G:a[j]?=some a[j]:=xbd A;obtain⟨h,o,n,k,g,y,f,s⟩:=b i _ H;obtain⟨U,o2,n2,c1,Q,c3,Y,c5⟩:=b j _ G;unfold kas_ask;rw[zm (λp:Addr×List Int=>Value.ref p.1) _ H,zm (λp:Addr×List Int=>Value.ref p.1) _ G];refine kat_lt g f Q Y (Srt.zvv 0 k c1 ?_);rw[Srt.zmm (by rw[xbc];exact d) (by rw[xbc];exact A),zm (λp:Addr×List Int=>p.2) _ H,zm (λp:Addr×List Int=>p.2) _ G] at I;exact I
theorem zuy{ps:List (Addr×List Int)}{p:Array Nat}(h:p.Perm (List.toArray (List.range ps.length)))(G:Srt.Up (Srt.rank (ps.map (·.2))) p ps.length):
  ∃n:List (Addr×List Int),n.Perm ps/\(n.map (·.2)).Pairwise (λx y=>HT.lexLt y x=false)/\Srt.outOf (ps.map λp=>Value.ref p.1) p=(n.map λp=>Value.ref p.1).toArray:=by
 have P:p.size=ps.length:=by rw[h.size_eq];simp
 have l:∀i∈p.toList,i<ps.length:=λi b=>by
  have J:=(h.mem_iff (a:=i)).mp (by rw[←xmc];exact b);exact xbi.mp (List.mem_toArray.mp J)
 refine⟨p.toList.map λi=>ps.getD i (0,[]),?_,?_,?_⟩
 ·have C:p.toList.Perm (List.range ps.length):=by
   have:=xfu.mp h
   simpa using this
  have s:=C.map λi=>ps.getD i (0,[])
  have Q:((List.range ps.length).map λi=>ps.getD i (0,[]))=ps:=by
   apply xjv
   ·simp
   ·intro i S E;simp[xbg,E]
  rw[Q] at s;exact s
 ·rw[xcz,xgb];intro i j b d e;rw[xjw,xjw];rw[xbc] at b d;have H:i<p.size:=by simpa using b
  have I:j<p.size:=by simpa using d
  have t:=G i j (xcf e) (by lia);have g:∀k,(c:k<p.toList.length)->p.getD k 0=p.toList[k]:=λk c=>by
   have f:k<p.size:=by simpa using c
   rw[xdd,xdk f];simp
  have w:=l _ (xcy b);have u:=l _ (xcy d);have q:=Srt.zmm (ks:=ps.map (·.2)) (i:=p.toList[j]) (j:=p.toList[i]) (by rw[xbc];exact u) (by rw[xbc];exact w);have m:Srt.lt (Srt.rank (ps.map (·.2))) p.toList[j] p.toList[i]=false:=by
   refine xbv λz=>?_
   unfold Srt.At at t;rw[g i b,g j d] at t;lia
  rw[m] at q;have v:∀k,k<ps.length->(ps.map (·.2)).getD k []=(ps.getD k (0,[])).2:=λk c=>by
   have r:ps[k]?=some ps[k]:=xbd c;rw[zm (λp:Addr×List Int=>p.2) _ r,xbg,r]
   rfl
  rw[v _ u,v _ w] at q;exact q.symm
 ·unfold Srt.outOf;rw[xcz]
  congr 1
  refine xea λi b=>?_
  have o:=l i b;have A:ps[i]?=some ps[i]:=xbd o;rw[zm (λp:Addr×List Int=>Value.ref p.1) _ A];show _=Value.ref (ps.getD i (0,[])).1;rw[xbg,A]
  rfl
theorem Inv.freeze(I:Inv X aU σ H s)(h:H a=some (.dT kvs))(e:s.heap.get? a=some ob):Inv X aU σ (upd H a (.frz ob (.dT kvs))) s:=by
 have d:∀{b:Addr}{u:HO},H b=some u->(∀l,u≠.dT l)->upd H a (.frz ob (.dT kvs)) b=some u:=λ{b u} q n=>by
  rw[zu (by rintro rfl;rw[h] at q;cases q;exact n _ rfl)];exact q
 have z:=I.un (h':=s.heap) (t':=s.toks) (H':=upd H a (.frz ob (.dT kvs))) ⟨λb u q _ _ _=>q,λb u q _ _ _=>⟨u.slots,q⟩,λb u q n _=>by
   rw[zu (by rintro rfl;rw[h] at n;cases n)];exact n,λb u q _=>⟨u,q⟩,λb f q=>d q (λl z=>by cases z),λb o u q=>d q (λl z=>by cases z),λb g q=>⟨#[],by rw[d q (λl z=>by cases z)];simp⟩⟩ (λb u q=>by
   by_cases hb:b=a
   ·subst hb;rw[zt] at q;cases q;exact⟨e,(I.hok b _ h).stay (λc v _ r=>r) (λc r=>d r (λl z=>by cases z)) λc f r=>d r (λl z=>by cases z)⟩
   ·rw[zu hb] at q
    exact(I.hok b u q).stay (λc v _ r=>r) (λc r=>d r (λl z=>by cases z)) λc f r=>d r (λl z=>by cases z))
 exact z
def Itd(a:Addr) (d:Obj) (b:List (List Key×V)) (c:List (Addr×List Int)):It:=
 ⟨λi H=>i<c.length/\H a=some (.frz d (.dT b)),λi H x e=>e=H/\∃p,c[i]?=some p/\x=.ref p.1,λi H=>c.length<=i/\H a=some (.frz d (.dT b))⟩
theorem zyu{P:Program}{w:World}{K:Fg}{tg:Expr}{a it:Addr}{n:Obj}{r:List (List Key×V)}{j:List (Addr×List Int)}{m:Array DictEntry}{ep:Nat}(ex:n.ExactDict)(dt:n.data=.dict m ep)
  (X:m.toList.map (·.key)=j.map λp=>Value.ref p.1):Turn P w K tg (Itd a n r j) [it] it (λi h=>h.IsKeyIter it a i m.size ep) where
 mem:=xbz.mpr rfl
 obj:=λi h f b t=>by
  have e:b=it:=xbz.mp t;subst e;obtain⟨o,e,c,d⟩:=f;exact⟨o,e,λv z=>by rw[d] at z;cases z⟩
 keep:=λi h h' f k=>f.at λo e=>k it (xbz.mpr rfl) o e
 item:=by
  intro Y hP J G hc i aU s σ H E I C f hg;subst hP J G;obtain⟨hi,U⟩:=hg;have a0:m.size=j.length:=by
   have:=congrArg List.length X
   rwa [xbc,xbc,xch] at this
  obtain⟨eo,_⟩:=(show ObjOk Y.prog Y.w H s.heap a (.frz n (.dT r)) from I.hok a _ U)
  obtain⟨S,f1,f2,f3,Q,f5⟩:=C it (xbz.mpr rfl);have A:m[i]?=some m[i]:=xdk (by lia);have u:j[i]?=some j[i]:=xbd hi;have y:m[i].key=Value.ref j[i].1:=by
   have q:=congrArg (λl=>l[i]?) X;simp only[xco,xcm,A,u] at q;exact xde q
  refine Dct.zul f ⟨n,eo,ex,dt⟩ A λg x sb=>?_
  have I1:Inv Y aU σ H {s with heap:=g}:=I.turned (t':=s.toks) (λb o t e=>sb.extBut b o t e) S f1 f3 Q f5;obtain⟨o,e,c,d⟩:=id x;exact⟨_,rfl,zbrj (s:={s with heap:=g}) e c d (by decide) ⟨.ref j[i].1,H,I1,y,⟨rfl,j[i],u,rfl⟩,x,λb t=>(C b t).1⟩⟩
 done:=by
  intro Y hP J G hc i aU s σ H E I C f hg;subst hP J G;obtain⟨hi,U⟩:=hg;have a0:m.size=j.length:=by
   have:=congrArg List.length X
   rwa [xbc,xbc,xch] at this
  obtain⟨eo,_⟩:=(show ObjOk Y.prog Y.w H s.heap a (.frz n (.dT r)) from I.hok a _ U)
  obtain⟨S,f1,f2,f3,Q,f5⟩:=C it (xbz.mpr rfl);exact Dct.zbct (I.ok.hd hc) f ⟨n,eo,ex,dt⟩ (by lia) λg eb=>⟨rfl,I.turned (t':=s.toks) (λb o t e=>eb b o t e) S f1 f3 Q f5⟩
 self:=λ_ _ _ _ _ f h=>wpAny_pyIter_keyiter f h
def iDct(f:TE):TI:=λσ H R=>f σ H λx H1=>∃(a:Addr) (b:List (List Key×V)) (d:List (List Int)),x=.ref a/\H1 a=some (.dT b)/\b.map (·.1)=d.map (λg=>g.map Sum.inl) /\
 ∀(e:Obj) (c:List (Addr×List Int)),c.map (·.2)=d->(∀p∈c,H1 p.1=some (.tup (p.2.map V.int)))->R (Itd a e b c) (upd H1 a (.frz e (.dT b)))
theorem zbme{X:Cx}{S l:Expr}{r:TE}(G:PE X l r):PI X S l (iDct r):=by
 intro U s σ H R I h;refine thn (G U s σ H _ I h) λv c g=>?_
 obtain⟨x,H1,u,r1,E⟩:=g;obtain⟨a,i,ks,rfl,y,C,q⟩:=E;cases r1;obtain⟨z,Y,ys,d,n,es,ep,k,m,A,Q,e5⟩:=(show ObjOk X.prog X.w H1 c.heap a (.dT i) from u.hok a _ y)
 obtain⟨t,a1,J,a3⟩:=znf (P:=X.prog) (w:=X.w) d C;have f:es.toList.map (·.key)=t.map λp=>Value.ref p.1:=by rw[Q,xcz];exact a3
 refine Dct.zum Y ⟨n,k,m,A⟩ ?_;have j:=u.freeze y k;refine⟨c.heap.objs.size,[c.heap.objs.size],_,_,_,rfl,j.kept (t':=c.toks) λb o e=>xbk _ e,zyu m A f,⟨_,xci _ rfl,rfl,rfl⟩,λb hb=>?_,q n t a1 J⟩;have e:b=c.heap.objs.size:=xbz.mp hb;subst e;exact j.fpOk (xbj _) (j.hok.fresh (xbj _))
end L2
namespace L2
open Spec PyProof.Rows PySem.W
noncomputable def TupsG(g:Heap) (b:List (Addr×List Int)):Prop:=∀ p∈b,∃(a:List Value) (o:Obj) (n:Nat),IntsAre a p.2/\g.get? p.1=some o/\o.cls=.type "tuple"/\o.data=.seq a.toArray n
theorem zra{b:Shared}:∀{ps:List (Addr×List Int)},TupsG b.heap ps->∃a:List (Option Value),a.map Option.isSome=ps.map (λp=>!p.2.isEmpty)/\∀(W:List (Option Value)->Shared->Prop),W a b->wpAny (model P w) B ((ps.map λp=>Value.ref p.1).mapM firstOfTuple') W E b
 |[],_=>⟨[],rfl,λW h=>by rw[xod,List.mapM_nil];exact xbe h⟩
 |p::ps,h=>by
  obtain⟨a,k,m⟩:=zra (ps:=ps) λq g=>h q (xbf _ g)
  obtain⟨f,o,n,c,d,i,e⟩:=h p xbr;refine⟨f.toArray[0]?::a,?_,λW j=>?_⟩
  ·rw[xbq,xbq,k]
   congr 1
   obtain⟨u,s⟩:=p;dsimp only at c ⊢;cases c with
   |nil=>rfl
   |cons x t r=>rfl
  ·rw[xbq,List.mapM_cons];have l:Looks (model P w) b.heap (typeOf (.ref p.1)) o.cls:=(Looks.ld d).andThen .now;refine xba ?_;rw[kas_first_eq];refine xba (Looks.here l ?_);rw[i,if_neg (by first|decide|simp)];exact xba (listItems_at d e (xbe (xba (m _ (xbe j)))))
theorem zvs(x y:Value):keyLt' general' x y=oneLt' false x y:=rfl
theorem zbju{B:Around}{sg:Shared}(y:κ=general'\/κ=oneType')(l:B.units<cLine) (x:TupsG sg.heap [a])(A:TupsG sg.heap [b]) (t:C (HT.lexLt a.2 b.2) sg):
  wpAny (model P w) B (keyLt' κ (.ref a.1) (.ref b.1)) C E sg:=by
 obtain⟨r,o,n,s,d,e,f⟩:=x a xbr;obtain⟨c,k,p,u,v,g,j⟩:=A b xbr;rcases y with rfl|rfl
 ·rw[zvs];exact kat_one _ _ (HT.zmt (items:=r.toArray) (items2:=c.toArray) ⟨o,d,e,n,f⟩ ⟨k,v,g,p,j⟩ s u l t)
 ·rw[keyLt'_oneType,oneLt'_eq];simp only[ite_true];refine xba (wpAny_cRoomFor l (xba (wpAny_callSpecialIfBound?_slot (T:="tuple") ⟨o,d,e⟩ xlz ?_)))
  obtain⟨G,z,m,H⟩:=o;obtain⟨q,h,data2,i⟩:=k;dsimp only at e f g j;subst e f g j;exact xlb xlz ⟨_,d,rfl⟩ F.entry_tuple_lt (F.args_tuple_lt_2 _ _) (HT.zgv a.1 b.1 r.toArray c.toArray n p z h H i a.2 b.2 s u) ⟨d,v,xfm t⟩
theorem zbjy{B:Around}{sg:Shared}(hu:B.units<cLine)(c:TupsG sg.heap a)(g:∃p∈a,p.2=[]):Srt.Answers P w B (Srt.rank (a.map (·.2))) (a.map λp=>Value.ref p.1) sg:=by
 obtain⟨u,f1,I⟩:=zra (P:=P) (w:=w) (B:=B) (E:=λ_ _=>False) c;have b:¬ (u.toArray.all λx=>x.isSome)=true:=λz=>by
  have z':u.all (λx=>x.isSome)=true:=by simpa using z
  obtain⟨p,t,he⟩:=g;have m:(!p.2.isEmpty)∈u.map Option.isSome:=by rw[f1];exact List.mem_map_of_mem (f:=λp:Addr×List Int=>!p.2.isEmpty) t
  obtain⟨o,ho,e⟩:=xbt.mp m;have:=xbx.mp z' o ho;rw[e,he] at this;cases this
 have s:∀{κ:SortKind},κ=general'\/κ=oneType'->∀i j C,i<(a.map λp=>Value.ref p.1).length->j<(a.map λp=>Value.ref p.1).length->C (Srt.lt (Srt.rank (a.map (·.2))) i j) sg->kas_ask P w B κ (a.map λp=>Value.ref p.1) i j C sg:=λ{κ} hκ i j C y A J=>by
  rw[xbc] at y A;have X:a[i]?=some a[i]:=xbd y;have U:a[j]?=some a[j]:=xbd A;unfold kas_ask;rw[zm (λp:Addr×List Int=>Value.ref p.1) _ X,zm (λp:Addr×List Int=>Value.ref p.1) _ U];rw[Srt.zmm (by rw[xbc];exact y) (by rw[xbc];exact A),zm (λp:Addr×List Int=>p.2) _ X,zm (λp:Addr×List Int=>p.2) _ U] at J;have l:∀k,(Q:k<a.length)->TupsG sg.heap [a[k]]:=λk Q q hq=>by
   rw[xbz.mp hq];exact c _ (xcy Q)
  exact zbju hκ hu (l i y) (l j A) J
 by_cases fst:(u.toArray[0]?.bind id).isSome=true
 ·refine⟨general',λR H=>?_,s (.inl rfl)⟩;rw[kat_kind_eq,xns,xom];refine xba (xba (I _ (xbe ?_)));rw[if_neg b,if_pos fst];exact xbe H
 ·refine⟨oneType',λR H=>?_,s (.inr rfl)⟩;rw[kat_kind_eq,xns,xom];refine xba (xba (I _ (xbe ?_)));rw[if_neg b,if_neg fst,oneTypeOnly'_eq,xns,xom];have ty:∀ v∈(a.map λp=>Value.ref p.1),∀ W:Value->Shared->Prop,W (.type "tuple") sg->wpAny (model P w) B (typeOf v) W (λ_ _=>False) sg:=λv hv W Y=>by
   obtain⟨p,t,rfl⟩:=xbt.mp hv;obtain⟨us,o,n,a1,a2,a3,a4⟩:=c p t;have S:Looks (model P w) sg.heap (typeOf (.ref p.1)) o.cls:=(Looks.ld a2).andThen .now;rw[a3] at S;exact S.here Y
  refine xba (xba (xba (kas_mapM (r:=Value.type "tuple") _ ty (xbe ?_))))
  obtain⟨p,t,_⟩:=g;obtain⟨d,rest,rfl⟩:∃d rest,a=d::rest:=by
   cases a with
   |nil=>exact nomatch t
   |cons d rest=>exact⟨d,rest,rfl⟩
  have G:((List.map (λ_=>Value.type "tuple") ((d::rest).map λp=>Value.ref p.1)).toArray.all λx=>x==Value.type "tuple")=true:=by
   rw[List.all_toArray,xbx];intro x hx;obtain⟨_,_,rfl⟩:=xbt.mp hx
   rfl
  have h:(List.map (λ_=>Value.type "tuple") ((d::rest).map λp=>Value.ref p.1)).toArray[0]?=some (Value.type "tuple"):=by simp
  rw[h];simp only[G,ite_true];exact xbe (xbe H)
theorem zbej{B:Around}{sg:Shared}{a:List (Addr×List Int)}(j:B.units<cLine)(g:2<=a.length)(b:TupsG sg.heap a):Srt.Answers P w B (Srt.rank (a.map (·.2))) (a.map λp=>Value.ref p.1) sg:=by
 by_cases c:∃p∈a,p.2=[]
 ·exact zbjy j b c
 ·refine zbjx g λi p k=>?_
  have d:=xbu k;obtain⟨e,o,n,l,m,h,f⟩:=b p d;exact⟨e,o,n,l,m,h,f,λz=>c ⟨p,d,z⟩⟩
theorem zhu(z:List (Addr×List Int)):Vals (z.map λp=>V.ref p.1) (z.map λp=>Value.ref p.1):=by
 induction z with
 |nil=>exact .nil
 |cons x z ih=>exact .cons rfl ih
end L2
namespace TS
open PyProof.Rows
noncomputable def kA(R:Keyed->Nat) (a:Array Keyed) (i:Nat):Nat:=match a[i]? with
 |some p=>R p
 |none=>0
theorem zdm(h:xs[i]?=ys[j]?):kA R xs i=kA R ys j:=by unfold kA;rw[h]
theorem zdv(h:xs[i]?=some x):kA R xs i=R x:=by unfold kA;rw[h]
def UpA(R:Keyed->Nat) (c:Array Keyed) (a b:Nat):Prop:=∀i j,a<=i->i<=j->j<b->kA R c i<=kA R c j
def DnA(R:Keyed->Nat) (c:Array Keyed) (a b:Nat):Prop:=∀i j,a<=i->i<=j->j<b->kA R c j<=kA R c i
noncomputable def Orc(a:Program) (w:World) (A:Around) (s:Shared) (κ:SortKind) (b:Array Keyed) (R:Keyed->Nat):Prop:=
 ∀x,x∈b.toList->∀y,y∈b.toList->∀(C:Bool->Shared->Prop),C (decide (R x<R y)) s->wpAny (model a w) A (keyLt' κ x.1 y.1) C (λ_ _=>False) s
structure B (κ:SortKind) (a₀:Array Keyed) (au:SortSt):Prop where
 perm:(arrOf au).Perm a₀
 kind:kindOf au=κ
 failed:failedOf au=none
section
variable {κ:SortKind}{a₀:Array Keyed}
theorem B.size{a:SortSt}(h:B κ a₀ a):(arrOf a).size=a₀.size:=h.perm.size_eq
theorem B.set{a:SortSt}(h:B κ a₀ a){b:Array Keyed}(c:b.Perm (arrOf a)):B κ a₀ (setArr a b):=⟨c.trans h.perm,h.kind,h.failed⟩
theorem B.mem{b:SortSt}(h:B κ a₀ b){i:Nat}(c:i<a₀.size):∃x,(arrOf b)[i]?=some x/\x∈a₀.toList:=by
 have a:i<(arrOf b).size:=by rw[h.size];exact c
 exact⟨_,getElem?_pos _ i a,(xfu.mp h.perm).mem_iff.mp (by simp)⟩
end
section
variable {prog:Program}{w:World}{A:Around}{E:Value->Shared->Prop}{s:Shared}{κ:SortKind}{a₀:Array Keyed}{R:Keyed->Nat}
theorem w_lt{x y:Keyed}{au:SortSt}{Q:Option Bool->SortSt->Prop}(O:Orc prog w A s κ a₀ R)(g:kindOf au=κ)(c:x∈a₀.toList)(d:y∈a₀.toList)(h:Q (some (decide (R x<R y))) au):wpS (model prog w) A E s (lt' x y) Q au:=by
 rw[lt'_eq];refine xbo (xiy ?_);rw[g];refine xbo (xly (xlu (xey (O x c y d (λb a=>a=s/\b=decide (R x<R y)) ⟨rfl,rfl⟩) (λb a e=>?_) λ_ _ f=>f.elim)));obtain⟨rfl,rfl⟩:=e;exact⟨rfl,xbs h⟩
end
section
variable {prog:Program}{w:World}{A:Around}{E:Value->Shared->Prop}{s:Shared}
theorem zmc{a:Array Keyed}{i:Nat}{x:Keyed}{au:SortSt}{Q:Keyed->SortSt->Prop}(e:a[i]?=some x)(h:Q x au):wpS (model prog w) A E s (elem' a i) Q au:=by
 rw[elem'_eq,e];exact xbs h
end
section
variable {prog:Program}{w:World}{A:Around}{E:Value->Shared->Prop}{s:Shared}{κ:SortKind}{a₀:Array Keyed}{R:Keyed->Nat}
theorem znr{i j:Nat}{au:SortSt}{Q:Option Bool->SortSt->Prop}(O:Orc prog w A s κ a₀ R)(b:B κ a₀ au)(e:i<a₀.size)(f:j<a₀.size)(h:Q (some (decide (kA R (arrOf au) i<kA R (arrOf au) j))) au):wpS (model prog w) A E s (ltAt' i j) Q au:=by
 obtain⟨x,a,d⟩:=b.mem e;obtain⟨y,c,g⟩:=b.mem f;rw[zdv a,zdv c] at h;rw[ltAt'_eq];exact xbo (xiy (xbo (zmc a (xbo (zmc c (w_lt O b.kind d g h))))))
end
section
variable {prog:Program}{w:World}{A:Around}{E:Value->Shared->Prop}{s:Shared}
theorem zyn{i j:Nat}{au:SortSt}{Q:Unit->SortSt->Prop}(h:Q () (setArr au (mirror (arrOf au) i j ((j-i)/2)))):wpS (model prog w) A E s (reverseSlice' i j) Q au:=by
 rw[reverseSlice'_eq];exact xhr h
theorem zbro{i j:Nat}{au:SortSt}{Q:Unit->SortSt->Prop}(h:Q () (setArr au (bubble (arrOf au) i (i-j)))):wpS (model prog w) A E s (moveDown' i j) Q au:=by
 rw[moveDown'_eq];exact xhr h
end
theorem zbkl{lo x n N:Nat}(h:x<n)(a:lo+n<=N):lo+x<N:=xbn (xex h lo) a
theorem zbkk{lo x n N:Nat}(h:x<n)(a:lo+n<=N):lo+x-1<N:=xdg (xhc _ _) (zbkl h a)
theorem zwe{lo n:Nat}(h:1<=n):lo+n-1<lo+n:=xjb (xbn h (xoo _ _)) Nat.one_pos
theorem zbrh{j lo n:Nat}(h:j<lo+(n+1))(e:¬j=lo+n):j<lo+n:=xdp (xcw h) e
theorem zbns(a:k<j):i<=i+j-1-k:=Nat.le_sub_of_add_le (xdv (xex a i))
theorem zbnt(b:i<=k)(a:k<j):i+j-1-k<j:=xdg (xhl b _) (by rw[Nat.sub_right_comm,xdj];exact xjb (xll a) Nat.one_pos)
theorem zli{a:Array Keyed}(b:j<=a.size)(k:Nat):kA R (mirror a i j ((j-i)/2)) k=if i<=k/\k<j then kA R a (i+j-1-k) else kA R a k:=by
 have e:=getElem?_mirror_all (i:=i) b k;split
 ·rename_i c;rw[if_pos c] at e;exact zdm e
 ·rename_i c;rw[if_neg c] at e;exact zdm e
noncomputable def Out(d c:Array Keyed) (a b:Nat):Prop:=∀k,k<a\/b<=k->d[k]?=c[k]?
theorem Out.refl(c:Array Keyed)(a b:Nat):Out c c a b:=λ_ _=>rfl
theorem Out.trans(d:Out xs ys a b)(e:Out ys zs a b):Out xs zs a b:=λk c=>(d k c).trans (e k c)
theorem Out.mirror{c:Array Keyed}(e:j<=c.size)(d:a<=i)(f:j<=b):Out (mirror c i j ((j-i)/2)) c a b:=λk g=>by
 rw[getElem?_mirror_all (i:=i) e k,if_neg λz=>g.elim (λh=>xfi (xbb d z.1) h) λh=>xfi (xbb f h) z.2]
theorem Out.bubble{c:Array Keyed}(i:src<c.size)(j:d<=src)(e:a<=src-d)(f:src<b):Out (bubble c src d) c a b:=λk g=>by
 rw[getElem?_bubble i d j k,if_neg λz=>g.elim (λh=>xfi (xbb e (xdt z.symm)) h) λh=>xfi h (xdg (xbb (xdt z) (xhc _ _)) f),if_neg λz=>g.elim (λh=>xfi (xbb e (xcf z.1)) h) λh=>xfi h (xdg z.2 f)]
structure Sm (au st':SortSt) (a b:Nat):Prop where
 out:Out (arrOf st') (arrOf au) a b
 pend:pendingOf st'=pendingOf au
section
variable {prog:Program}{w:World}{A:Around}{E:Value->Shared->Prop}{s:Shared}{κ:SortKind}{a₀:Array Keyed}{R:Keyed->Nat}
theorem zbku{lo a d:Nat}{au:SortSt}{Q:Option (Option Nat)×Nat->SortSt->Prop}(O:Orc prog w A s κ a₀ R)(b:B κ a₀ au)(q:lo+d<=a₀.size)(v:1<=a)(k:a<=d)(t:UpA R (arrOf au) lo (lo+a))
  (h:∀n,a<=n->n<=d->UpA R (arrOf au) lo (lo+n)->(n=d\/kA R (arrOf au) (lo+n)<kA R (arrOf au) (lo+n-1))->Q (none,n) au):
  wpS (model prog w) A E s (forIn [a:d] ((none,a):Option (Option Nat)×Nat) λ_ r=>do
   let x ←ltAt' (lo+r.2) (lo+r.2-1)
   match x with
   |some smaller=>if smaller=true then pure (ForInStep.done (none,r.2)) else pure (ForInStep.yield (none,r.2+1))
   |_=>pure (ForInStep.done (some none,r.2))) Q au:=by
 refine xej (I:=λx c f=>f=au/\c=(none,x)/\UpA R (arrOf au) lo (lo+x)) ?_ ?_ ⟨rfl,rfl,t⟩
 ·rintro x c f o m ⟨rfl,rfl,g⟩;dsimp only;refine xbo (znr O b (zbkl m q) (zbkk m q) ?_);by_cases c:kA R (arrOf f) (lo+x)<kA R (arrOf f) (lo+x-1)
  ·simp only[c,xjj,xfv];exact xbs (h x o (xcf m) g (.inr c))
  ·simp only[c,xir,xdo,xeu];refine xbs ⟨rfl,rfl,λi j p l u=>?_⟩;by_cases e:j=lo+x
   ·subst e;by_cases e2:i=lo+x
    ·rw[e2];exact xbj _
    ·exact xbb (g i (lo+x-1) p (xdv (xdp l e2)) (zwe (xbb v o))) (xcp c)
   ·exact g i j p l (zbrh u e)
 ·rintro c f ⟨rfl,rfl,g⟩;rw[xoe k] at g ⊢;exact h d k (xbj _) g (.inl rfl)
end
theorem zim{xs:Array Keyed}{i j:Nat}(b:j<=xs.size)(a:∀k,i<=k->k<j->kA R xs k=kA R xs (j-1))(k:Nat):kA R (mirror xs i j ((j-i)/2)) k=kA R xs k:=by
 rw[zli b];split
 ·rename_i c;rw[a _ (zbns c.2) (zbnt c.1 c.2),a k c.1 c.2]
 ·rfl
structure Fl (κ:SortKind) (a₀:Array Keyed) (R:Keyed->Nat) (st₀ au:SortSt) (lo n neq b:Nat):Prop where
 base:B κ a₀ au
 same:Sm st₀ au lo b
 dn:DnA R (arrOf au) lo (lo+n)
 hq:neq+1<=n
 eqs:∀i,lo+n-(neq+1)<=i->i<lo+n->kA R (arrOf au) i=kA R (arrOf au) (lo+n-1)
section
variable {κ:SortKind}{a₀:Array Keyed}{R:Keyed->Nat}
theorem Fl.turn{d c:SortSt}{lo n a b:Nat}(h:Fl κ a₀ R d c lo n a b)(m:lo+n<=b)(q:b<=a₀.size):
  Fl κ a₀ R d (setArr c (mirror (arrOf c) (lo+n-(a+1)) (lo+n) ((lo+n-(lo+n-(a+1)))/2))) lo n a b/\∀k,kA R (mirror (arrOf c) (lo+n-(a+1)) (lo+n) ((lo+n-(lo+n-(a+1)))/2)) k=kA R (arrOf c) k:=by
 have r:=h.base.size;have o:=h.hq;have f:lo+n<=(arrOf c).size:=by rw[r];exact xbb m q
 have e:=zim (R:=R) (xs:=arrOf c) (i:=lo+n-(a+1)) (j:=lo+n) f h.eqs;refine⟨⟨h.base.set (mirror_perm _ _ _ _),⟨(Out.mirror f (Nat.le_sub_of_add_le (xct o lo)) m).trans h.same.out,h.same.pend⟩,λi j g l p=>?_,h.hq,λi g l=>?_⟩,e⟩
 ·show kA R (mirror _ _ _ _) j<=kA R (mirror _ _ _ _) i;rw[e,e];exact h.dn i j g l p
 ·show kA R (mirror _ _ _ _) i=kA R (mirror _ _ _ _) _;rw[e,e];exact h.eqs i g l
theorem Fl.less{f d:SortSt}{lo n a b:Nat}(h:Fl κ a₀ R f d lo n a b)(c:kA R (arrOf d) (lo+n)<=kA R (arrOf d) (lo+n-1)):DnA R (arrOf d) lo (lo+(n+1)):=λi j g k m=>by
 have l:=h.hq;by_cases e:j=lo+n
 ·subst e;by_cases e2:i=lo+n
  ·rw[e2];exact xbj _
  ·exact xbb c (h.dn i (lo+n-1) g (xdv (xdp k e2)) (zwe (xbb (xoo 1 a) l)))
 ·exact h.dn i j g k (zbrh m e)
theorem Fl.fresh{a d:SortSt}{lo n e b:Nat}(h:Fl κ a₀ R a d lo n e b)(c:kA R (arrOf d) (lo+n)<=kA R (arrOf d) (lo+n-1)):Fl κ a₀ R a d lo (n+1) 0 b:=⟨h.base,h.same,h.less c,xgj (xep _),λi g f=>by
 have:i=lo+(n+1)-1:=xem (xcw f) g
 rw[this]⟩
theorem Fl.more{d f:SortSt}{lo n a b:Nat}(h:Fl κ a₀ R d f lo n a b)(c:kA R (arrOf f) (lo+n)=kA R (arrOf f) (lo+n-1)):Fl κ a₀ R d f lo (n+1) (a+1) b:=by
 have g:=h.hq;refine⟨h.base,h.same,h.less (xdt c),xgj g,λi k j=>?_⟩;rw[show lo+(n+1)-1=lo+n from rfl];by_cases e:i=lo+n
 ·rw[e]
 ·rw[c];exact h.eqs i (xbb (xdt (Nat.succ_sub_succ (lo+n) (a+1)).symm) k) (zbrh j e)
end
section
variable {prog:Program}{w:World}{A:Around}{E:Value->Shared->Prop}{s:Shared}{κ:SortKind}{a₀:Array Keyed}{R:Keyed->Nat}
theorem zbkt{lo nrem:Nat}{au:SortSt}{Q:Option Nat->SortSt->Prop}(O:Orc prog w A s κ a₀ R)(b:B κ a₀ au)(p:lo+nrem<=a₀.size)(h1:1<=nrem)
  (h:∀m a,1<=m->m<=nrem->B κ a₀ a->Sm au a lo (lo+nrem)->UpA R (arrOf a) lo (lo+m)->Q (some m) a):wpS (model prog w) A E s (countRun' lo nrem) Q au:=by
 have a4:Sm au au lo (lo+nrem):=⟨Out.refl _ _ _,rfl⟩
 have a8:∀G:Array Keyed,UpA R G lo (lo+1):=λG i j l g J=>by
  have:i=j:=xem g (xbb (xcw J) l);subst this;exact xbj _
 have a9:∀G:Array Keyed,DnA R G lo (lo+1):=λG i j l g J=>by
  have:i=j:=xem g (xbb (xcw J) l);subst this;exact xbj _
 rw[countRun'_eq];dsimp only;refine xbo (zbku O b p (xbj _) h1 (a8 _) λn n1 n2 hu a0=>?_);dsimp only;split
 ·exact xbs (h n au n1 n2 b a4 hu)
 rename_i a6;have X:n≠nrem:=λz=>a6 (by simp[z])
 have C:n<nrem:=xdp n2 X;have hl:kA R (arrOf au) (lo+n)<kA R (arrOf au) (lo+n-1):=by
  rcases a0 with z|z
  ·exact absurd z X
  ·exact z
 have hz:=b.size;have S:∀(n:Nat) (o:SortSt),B κ a₀ o->Sm au o lo (lo+nrem)->1<=n->n<=nrem->DnA R (arrOf o) lo (lo+n) ->
   B κ a₀ (setArr o (mirror (arrOf o) lo (lo+n) ((lo+n-lo)/2)))/\Sm au (setArr o (mirror (arrOf o) lo (lo+n) ((lo+n-lo)/2))) lo (lo+nrem)/\UpA R (mirror (arrOf o) lo (lo+n) ((lo+n-lo)/2)) lo (lo+n):=λn o b1 q U H t=>by
  have hz:=b1.size;have hm:=xct H lo;have u:lo+n<=(arrOf o).size:=by rw[hz];exact xbb hm p
  refine⟨b1.set (mirror_perm _ _ _ _),⟨(Out.mirror u (xbj _) hm).trans q.out,q.pend⟩,λi j l g J=>?_⟩;have hi:=xdg g J;rw[zli u,zli u,if_pos ⟨l,hi⟩,if_pos ⟨xbb l g,J⟩];exact t _ _ (zbns J) (xhl g _) (zbnt l hi)
 have P:¬ kA R (arrOf au) lo<kA R (arrOf au) (lo+n-1)->∀k,lo<=k->k<lo+n->kA R (arrOf au) k=kA R (arrOf au) (lo+n-1):=λc k k1 k2=>by
  have g1:=hu lo k (xbj _) k1 k2;have g2:=hu k (lo+n-1) k1 (xdv k2) (zwe n1);exact xem g2 (xbb (xcp c) g1)
 have a5:∀G:Array Keyed,(∀k,kA R G k=kA R (arrOf au) k)->¬ kA R (arrOf au) lo<kA R (arrOf au) (lo+n-1)->DnA R G lo (lo+(n+1)):=λG e c i j l g J=>by
  rw[e,e];by_cases e2:j=lo+n
  ·subst e2;by_cases e3:i=lo+n
   ·rw[e3];exact xbj _
   ·rw[P c i l (xdp g e3)];exact xcf hl
  ·have jn:=zbrh J e2;rw[P c i l (xdg g jn),P c j (xbb l g) jn];exact xbj _
 split
 ·have u:lo+n<=(arrOf au).size:=by rw[hz];exact xbb (xct n2 lo) p
  refine xbo (znr O b (xbn (xiv h1) p) (zbkk C p) ?_);by_cases c:kA R (arrOf au) lo<kA R (arrOf au) (lo+n-1)
  ·simp only[c,xjj,xfv];exact xbs (h n au n1 n2 b a4 hu)
  ·simp only[c,xir,xdo,xeu];refine xbo (zyn ?_);have b1:B κ a₀ (setArr au (mirror (arrOf au) lo (lo+n) ((lo+n-lo)/2))):=b.set (mirror_perm _ _ _ _);have q:Sm au (setArr au (mirror (arrOf au) lo (lo+n) ((lo+n-lo)/2))) lo (lo+nrem):=⟨Out.mirror u (xbj _) (xct n2 lo),rfl⟩
   have t:DnA R (arrOf (setArr au (mirror (arrOf au) lo (lo+n) ((lo+n-lo)/2)))) lo (lo+(n+1)):=a5 _ (zim u (P c)) c;generalize (setArr au (mirror (arrOf au) lo (lo+n) ((lo+n-lo)/2)))=o at b1 q t ⊢;refine xbo (xly (xjf ⟨rfl,?_⟩));refine xbo (xgl (xej (I:=λx c a=>∃d,c=(none,x,d)/\Fl κ a₀ R au a lo x d (lo+nrem)) (Q:=λc a=>∃m d,c=(none,m,d)/\n+1<=m/\m<=nrem/\Fl κ a₀ R au a lo m d (lo+nrem)) ?_ ?_ ?_) ?_)
   ·rintro x c a l g ⟨d,rfl,f⟩;dsimp only;refine xbo (znr O f.base (zbkl g p) (zbkk g p) ?_);by_cases c:kA R (arrOf a) (lo+x)<kA R (arrOf a) (lo+x-1)
    ·simp only[c,xjj,xfv];split
     ·obtain⟨y,e⟩:=f.turn (xct (xcf g) lo) p;refine xbo (zyn (xbs ⟨0,rfl,y.fresh ?_⟩));refine xcf (?_:kA R (mirror _ _ _ _) _<kA R (mirror _ _ _ _) _);rw[e,e];exact c
     ·exact xbs ⟨0,rfl,f.fresh (xcf c)⟩
    ·simp only[c,xir,xdo,xeu];refine xbo (znr O f.base (zbkk g p) (zbkl g p) ?_);by_cases c2:kA R (arrOf a) (lo+x-1)<kA R (arrOf a) (lo+x)
     ·simp only[c2,xjj,xfv];exact xbs ⟨x,d,rfl,l,xcf g,f⟩
     ·simp only[c2,xir,xdo,xeu];exact xbs ⟨d+1,rfl,f.more (xem (xcp c2) (xcp c))⟩
   ·rintro c a ⟨d,rfl,f⟩;rw[xoe C] at f ⊢;exact⟨nrem,d,rfl,C,xbj _,f⟩
   ·exact⟨0,rfl,b1,q,t,xgj (xep _),λi g1 g2=>by
     have:i=lo+(n+1)-1:=xem (xcw g2) g1
     rw[this]⟩
   ·rintro c a ⟨m,d,rfl,l,g,f⟩;dsimp only;split
    ·obtain⟨y,e⟩:=f.turn (xct g lo) p;refine xbo (zyn (xbo (zyn ?_)));obtain⟨v,Y,u3⟩:=S m _ y.base y.same (xdz l) g y.dn;exact xbo (zbku O v p (xdz l) g u3 λm' U H r _=>xbs (h m' _ (xbb (xdz l) U) H v Y r))
    ·refine xbo (zyn ?_);obtain⟨v,Y,u3⟩:=S m _ f.base f.same (xdz l) g f.dn;exact xbo (zbku O v p (xdz l) g u3 λm' U H r _=>xbs (h m' _ (xbb (xdz l) U) H v Y r))
 ·rename_i a7;have b1:=b;have q:=a4
  have t:DnA R (arrOf au) lo (lo+(n+1)):=a5 _ (λ_=>rfl) (by
   have:n=1:=xem (xcp a7) n1;subst this
   simp)
  refine xbo (xly (xjf ⟨rfl,?_⟩));refine xbo (xgl (xej (I:=λx c a=>∃d,c=(none,x,d)/\Fl κ a₀ R au a lo x d (lo+nrem)) (Q:=λc a=>∃m d,c=(none,m,d)/\n+1<=m/\m<=nrem/\Fl κ a₀ R au a lo m d (lo+nrem)) ?_ ?_ ?_) ?_)
  ·rintro x c a l g ⟨d,rfl,f⟩;dsimp only;refine xbo (znr O f.base (zbkl g p) (zbkk g p) ?_);by_cases c:kA R (arrOf a) (lo+x)<kA R (arrOf a) (lo+x-1)
   ·simp only[c,xjj,xfv];split
    ·obtain⟨y,e⟩:=f.turn (xct (xcf g) lo) p;refine xbo (zyn (xbs ⟨0,rfl,y.fresh ?_⟩));refine xcf (?_:kA R (mirror _ _ _ _) _<kA R (mirror _ _ _ _) _);rw[e,e];exact c
    ·exact xbs ⟨0,rfl,f.fresh (xcf c)⟩
   ·simp only[c,xir,xdo,xeu];refine xbo (znr O f.base (zbkk g p) (zbkl g p) ?_);by_cases c2:kA R (arrOf a) (lo+x-1)<kA R (arrOf a) (lo+x)
    ·simp only[c2,xjj,xfv];exact xbs ⟨x,d,rfl,l,xcf g,f⟩
    ·simp only[c2,xir,xdo,xeu];exact xbs ⟨d+1,rfl,f.more (xem (xcp c2) (xcp c))⟩
  ·rintro c a ⟨d,rfl,f⟩;rw[xoe C] at f ⊢;exact⟨nrem,d,rfl,C,xbj _,f⟩
  ·exact⟨0,rfl,b1,q,t,xgj (xep _),λi g1 g2=>by
    have:i=lo+(n+1)-1:=xem (xcw g2) g1
    rw[this]⟩
  ·rintro c a ⟨m,d,rfl,l,g,f⟩;dsimp only;split
   ·obtain⟨y,e⟩:=f.turn (xct g lo) p;refine xbo (zyn (xbo (zyn ?_)));obtain⟨v,Y,u3⟩:=S m _ y.base y.same (xdz l) g y.dn;exact xbo (zbku O v p (xdz l) g u3 λm' U H r _=>xbs (h m' _ (xbb (xdz l) U) H v Y r))
   ·refine xbo (zyn ?_);obtain⟨v,Y,u3⟩:=S m _ f.base f.same (xdz l) g f.dn;exact xbo (zbku O v p (xdz l) g u3 λm' U H r _=>xbs (h m' _ (xbb (xdz l) U) H v Y r))
end
theorem zqs{a:Array Keyed}(f:src<a.size)(g:d<=src)(k:Nat):kA R (bubble a src d) k=if k=src-d then kA R a src else if src-d<k/\k<=src then kA R a (k-1) else kA R a k:=by
 have e:=getElem?_bubble f d g k;split
 ·rename_i c;rw[if_pos c] at e;exact zdm e
 ·rename_i c;rw[if_neg c] at e;split
  ·rename_i b;rw[if_pos b] at e;exact zdm e
  ·rename_i b;rw[if_neg b] at e;exact zdm e
theorem zlc(c:a<=b)(h:b-a<=n-max 0 n):b=a:=by
 rw[Nat.zero_max,xjq] at h;exact xem (Nat.le_of_sub_eq_zero (Nat.le_zero.mp h)) c
theorem zbuj(h:¬l ≥ r):l<=(l+r)/2:=(Nat.le_div_iff_mul_le xov).mpr (by rw[Nat.mul_two];exact xct (xcf (xgt h)) l)
theorem zbri(h:¬l ≥ r):(l+r)/2<r:=(Nat.div_lt_iff_lt_mul xov).mpr (by rw[Nat.mul_two];exact Nat.add_lt_add_right (xgt h) r)
theorem hf_l(h:¬l ≥ r)(g:r-l<=k-x):(l+r)/2-l<=k-(x+1):=xbb (xdv (xfe (zbuj h) (zbri h))) (xgo g 1)
theorem hf_r(h:¬l ≥ r)(g:r-l<=k-x):r-((l+r)/2+1)<=k-(x+1):=xbb (xhl (xgj (zbuj h)) r) (xgo g 1)
theorem zbfw(h:p<j)(a:j<=q):j-1<q:=xbn (xjb (xll h) Nat.one_pos) a
section
variable {prog:Program}{w:World}{A:Around}{E:Value->Shared->Prop}{s:Shared}{κ:SortKind}{a₀:Array Keyed}{R:Keyed->Nat}
theorem zbxn{lo n S:Nat}{au:SortSt}{Q:Bool->SortSt->Prop}(O:Orc prog w A s κ a₀ R)(b:B κ a₀ au)(hn:lo+n<=a₀.size)(h1:1<=S)(h2:S<=n)(up:UpA R (arrOf au) lo (lo+S))
  (h:∀a,B κ a₀ a->Sm au a lo (lo+n)->UpA R (arrOf a) lo (lo+n)->Q true a):wpS (model prog w) A E s (binarySort' lo n S) Q au:=by
 rw[binarySort'_eq]
 refine xbo (xgl (xej (I:=λk c a=>c=(none,())/\B κ a₀ a/\Sm au a lo (lo+n)/\UpA R (arrOf a) lo (lo+min k n))
  (Q:=λc a=>c=(none,())/\B κ a₀ a/\Sm au a lo (lo+n)/\UpA R (arrOf a) lo (lo+n)) ?_ ?_ ?_) ?_)
 ·rintro k c a k1 H ⟨rfl,t,f,up1⟩;rw[xen (xcf H)] at up1;have hz:=t.size;have U:lo+k<a₀.size:=xbn (xex H lo) hn
  refine xbo (xgl (xej (I:=λx c d=>d=a/\∃l r,c=(none,l,r)/\l<=r/\r<=k/\r-l<=k-x/\(∀i,i<l->kA R (arrOf a) (lo+i)<=kA R (arrOf a) (lo+k))/\(∀i,r<=i->i<k->kA R (arrOf a) (lo+k)<=kA R (arrOf a) (lo+i)))
   (Q:=λc d=>d=a/\∃l r,c=(none,l,r)/\l<=k/\(∀i,i<l->kA R (arrOf a) (lo+i)<=kA R (arrOf a) (lo+k))/\(∀i,l<=i->i<k->kA R (arrOf a) (lo+k)<=kA R (arrOf a) (lo+i))) ?_ ?_ ?_) ?_)
  ·rintro x c d x1 x2 ⟨rfl,l,r,rfl,v,o,y,P,J⟩;dsimp only;by_cases hge:l ≥ r
   ·rw[if_pos hge];have e:l=r:=xem v hge;subst e;exact xbs ⟨rfl,l,l,rfl,o,P,J⟩
   ·have hm:lo+(l+r)/2<lo+k:=xex (xbn (zbri hge) o) lo;rw[if_neg hge];refine xbo (znr O t U (xjo hm U) ?_);by_cases c:kA R (arrOf d) (lo+k)<kA R (arrOf d) (lo+(l+r)/2)
    ·simp only[c,xjj,xfv];exact xbs ⟨rfl,l,(l+r)/2,rfl,zbuj hge,xbb (xcf (zbri hge)) o,hf_l hge y,P,λi m g=>xbb (xcf c) (up1 _ _ (xck _ _) (xct m lo) (xex g lo))⟩
    ·simp only[c,xir,xdo,xeu];exact xbs ⟨rfl,(l+r)/2+1,r,rfl,zbri hge,o,hf_r hge y,λi m=>xbb (up1 (lo+i) (lo+(l+r)/2) (xck _ _) (xct (xcw m) lo) hm) (xcp c),J⟩
  ·rintro c d ⟨rfl,l,r,rfl,v,o,y,P,J⟩;have e:=zlc v y;subst e;exact⟨rfl,_,_,rfl,o,P,J⟩
  ·exact⟨rfl,0,k,rfl,xep _,xbj _,xbj _,λi hi=>absurd hi (xop _),λi m g=>absurd g (xfi m)⟩
  ·rintro c d ⟨rfl,l,r,rfl,v,o,y⟩;dsimp only;have hd:lo+k-(lo+k-(lo+l))=lo+l:=Nat.sub_sub_self (xct v lo);have Y:lo+k<(arrOf d).size:=by rw[hz];exact U
   refine xbo (zbro (xbs ⟨rfl,t.set (bubble_perm _ _ _),⟨(Out.bubble Y (xhc _ _) (by rw[hd];exact xck _ _) (xex H lo)).trans f.out,f.pend⟩,λi j m g G=>?_⟩));show kA R (bubble (arrOf d) (lo+k) (lo+k-(lo+l))) i<=kA R (bubble (arrOf d) (lo+k) (lo+k-(lo+l))) j;rw[zqs Y (xhc _ _),zqs Y (xhc _ _),hd];rw[xen H] at G;have u:j<=lo+k:=xcw G;have a0:∀q,lo<=q->q<lo+l->kA R (arrOf d) q<=kA R (arrOf d) (lo+k):=λq C q2=>by
    have:=o (q-lo) (xek C q2);rw[xcr C] at this;exact this
   have X:∀q,lo+l<=q->q<lo+k->kA R (arrOf d) (lo+k)<=kA R (arrOf d) q:=λq C q2=>by
    have q0:=xbb (xck _ _) C;have:=y (q-lo) (xfo C) (xek q0 q2);rw[xcr q0] at this;exact this
   by_cases i1:i=lo+l
   ·rw[if_pos i1];by_cases j1:j=lo+l
    ·rw[if_pos j1];exact xbj _
    ·have p:=xdp (i1 ▸ g) (xfj j1);rw[if_neg j1,if_pos ⟨p,u⟩];exact X _ (xdv p) (zbfw p u)
   ·rw[if_neg i1];by_cases i2:lo+l<i/\i<=lo+k
    ·have p:=xbn i2.1 g;rw[if_pos i2,if_neg (xkq p),if_pos ⟨p,u⟩];exact up1 _ _ (xbb (xck lo l) (xdv i2.1)) (xgo g 1) (zbfw p u)
    ·have il:i<lo+l:=xdp (xcp λz=>i2 ⟨z,xbb g u⟩) i1;rw[if_neg i2];by_cases j1:j=lo+l
     ·rw[if_pos j1];exact a0 i m il
     ·rw[if_neg j1];by_cases j2:lo+l<j/\j<=lo+k
      ·rw[if_pos j2];exact up1 _ _ m (xdv (xjo il j2.1)) (zbfw j2.1 u)
      ·rw[if_neg j2];exact up1 _ _ m g (xbn (xdp (xcp λz=>j2 ⟨z,u⟩) j1) (xct v lo))
 ·rintro c a ⟨rfl,t,f,up1⟩;rw[xjx (Nat.le_max_right _ _)] at up1;exact⟨rfl,t,f,up1⟩
 ·refine⟨rfl,b,⟨Out.refl _ _ _,rfl⟩,λi j m g G=>up i j m g (xbn G (xct (xbb (xhz _ _) (xdt (Nat.max_eq_left h1))) lo))⟩
 ·rintro c a ⟨rfl,t,f,up1⟩;exact xbs (h a t f up1)
end
noncomputable def gallop':Bool->Keyed->Array Keyed->Nat->Nat->Nat->StateT SortSt Sem (Option Nat):=sortPriv% PySem.Builtin.gallop
def Cut(left:Bool) (R:Keyed->Nat) (b:Keyed) (c:Array Keyed) (a n h:Nat):Prop:=h<=n/\(∀i,i<h->if left then kA R c (a+i)<R b else kA R c (a+i)<=R b)/\(∀i,h<=i->i<n->if left then R b<=kA R c (a+i) else R b<kA R c (a+i))
def ahead(left:Bool) (R:Keyed->Nat) (b:Keyed) (c:Array Keyed) (a i:Nat):Bool:=if left then decide (kA R c (a+i)<R b) else decide (kA R c (a+i)<=R b)
section
variable {prog:Program}{w:World}{A:Around}{E:Value->Shared->Prop}{s:Shared}{κ:SortKind}{a₀:Array Keyed}{R:Keyed->Nat}
theorem zmd{left:Bool}{a:Keyed}{d:Array Keyed}{b i:Nat}{au:SortSt}{Q:Option Bool->SortSt->Prop}(O:Orc prog w A s κ a₀ R)(f:kindOf au=κ)(g:a∈a₀.toList)(j:∃x,d[b+i]?=some x/\x∈a₀.toList)(h:Q (some (ahead left R a d b i)) au):
  wpS (model prog w) A E s (do
   let x ←elem' d (b+i)
   if left=true then lt' x a else do
    let y ←lt' a x
    pure (Option.map (λx=>!x) y)) Q au:=by
 obtain⟨x,e,m⟩:=j;refine xbo (zmc e ?_);unfold ahead at h;rw[zdv e] at h;cases left with
 |true=>
  rw[if_pos rfl] at h ⊢;exact w_lt O f m g h
 |false=>
  rw[if_neg (by decide)] at h ⊢;refine xbo (w_lt O f g m (xbs ?_));have q:(!decide (R a<R x))=decide (R x<=R a):=by
   by_cases c:R a<R x
   ·rw[xbp c,xbv (Nat.not_le_of_lt c)];rfl
   ·rw[xbv c,xbp (xcp c)];rfl
  show Q (some (!decide (R a<R x))) au;rw[q];exact h
end
theorem zxz(up:UpA R arr base (base+n))(a:i<=j)(b:j<n)(h:ahead left R key arr base j=true):ahead left R key arr base i=true:=by
 have:=up (base+i) (base+j) (xck _ _) (xct a _) (xex b _);unfold ahead at h ⊢;cases left with
 |true=>rw[if_pos rfl] at h ⊢;exact xbp (xdg this (xdh h))
 |false=>rw[if_neg (by decide)] at h ⊢;exact xbp (xbb this (xdh h))
theorem zbpw(a:h<=n)(d:∀i,i<h->ahead left R key arr base i=true)(b:∀i,h<=i->i<n->ahead left R key arr base i=false):Cut left R key arr base n h:=by
 refine⟨a,λi c=>?_,λi e f=>?_⟩
 ·have:=d i c;unfold ahead at this;cases left with
  |true=>rw[if_pos rfl] at this ⊢;exact xdh this
  |false=>rw[if_neg (by decide)] at this ⊢;exact xdh this
 ·have:=b i e f;unfold ahead at this;cases left with
  |true=>rw[if_pos rfl] at this ⊢;exact xcp (xnj this)
  |false=>rw[if_neg (by decide)] at this ⊢;exact xgt (xnj this)
theorem zbdu(c:¬a ≥ b):(b-a)/2<b-a:=Nat.div_lt_self (xgq (xgt c)) (xbj 2)
theorem zbtv(c:¬a ≥ b):a+(b-a)/2<b:=xeo (zbdu c)
theorem zbkh(c:¬a ≥ b)(h:b<=n):a+(b-a)/2<n:=xbn (zbtv c) h
theorem zbnv(h:b-a<=n-x):b-(a+(b-a)/2+1)<=n-(x+1):=xbb (xhl (xgj (xck a _)) b) (xgo h 1)
theorem zbnu(c:¬a ≥ b)(h:b-a<=n-x):a+(b-a)/2-a<=n-(x+1):=by
 rw[xdj];exact xbb (xdv (zbdu c)) (xgo h 1)
theorem zbpj(o:Nat):o<2*o+1:=xnr (xls o xov)
theorem zbpk(h:x+1<=o):x+1+1<=2*o+1:=xgj (xbb h (xls o xov))
theorem zbld{a b n:Nat}(h:a+b<n):b<n-a:=Nat.lt_sub_of_add_lt (xof a b ▸ h)
inductive GI (f:Nat->Bool) (n:Nat) (au:SortSt) (x:Nat):Option (Option Nat)×Nat×Nat->SortSt->Prop where
 |mk {a b:Nat}(q1:a<=b) (q2:b<=n) (q3:b-a<=n-x) (q4:∀i,i<a->f i=true) (q5:∀i,b<=i->i<n->f i=false):GI f n au x (none,a,b) au
inductive GE (f:Nat->Bool) (n:Nat) (au:SortSt):Option (Option Nat)×Nat×Nat->SortSt->Prop where
 |mk {b:Nat}(q2:b<=n) (q4:∀i,i<b->f i=true) (q5:∀i,b<=i->i<n->f i=false):GE f n au (none,b,b) au
inductive GU (f:Nat->Bool) (n hint:Nat) (P:Nat->Prop) (au:SortSt):Option (Option Nat)×Nat×Nat->SortSt->Prop where
 |mk {l o:Nat}(g1:l<o) (g2:hint+l<n) (g3:f (hint+l)=true) (g4:P o):GU f n hint P au (none,l,o) au
inductive GD (f:Nat->Bool) (hint:Nat) (P:Nat->Prop) (au:SortSt):Option (Option Nat)×Nat×Nat->SortSt->Prop where
 |mk {l o:Nat}(g1:l<o) (g2:l<=hint) (g3:f (hint-l)=false) (g4:P o):GD f hint P au (none,l,o) au
section
variable {prog:Program}{w:World}{A:Around}{E:Value->Shared->Prop}{s:Shared}{κ:SortKind}{a₀:Array Keyed}{R:Keyed->Nat}
theorem zfz{left:Bool}{p:Keyed}{m:Array Keyed}{f n d:Nat}{au:SortSt}{Q:Option Nat->SortSt->Prop}(O:Orc prog w A s κ a₀ R)(hk:kindOf au=κ)(q:p∈a₀.toList)(ma:∀i,i<n->∃x,m[f+i]?=some x/\x∈a₀.toList)(hh:d<n)
  (up:UpA R m f (f+n))(h:∀k,Cut left R p m f n k->Q (some k) au):wpS (model prog w) A E s (gallop' left p m f n d) Q au:=by
 have u:∀i j,i<=j->j<n->ahead left R p m f j=true->ahead left R p m f i=true:=λi j v S=>zxz up v S
 have r:∀i j,i<=j->j<n->ahead left R p m f i=false->ahead left R p m f j=false:=λi j v S e=>by
  cases c:ahead left R p m f j with
  |false=>rfl
  |true=>rw[u i j v S c] at e;cases e
 refine xbo (zmd O hk q (ma d hh) ?_);dsimp only;cases hr:ahead left R p m f d with
 |true=>
  rw[if_pos rfl];refine xbo (xgl (xej (I:=λx=>GU (ahead left R p m f) n d (x+1<=·) au) (Q:=GU (ahead left R p m f) n d (λo=>n-d<=o\/(d+o<n/\ahead left R p m f (d+o)=false)) au) ?_ ?_ ?_) ?_)
  ·rintro x c U x1 x2 @⟨l,o,H,y,J,G⟩;dsimp only;by_cases c:o ≥ n-d
   ·rw[if_pos c];exact xbs (.mk H y J (.inl c))
   ·have c3:d+o<n:=xeo (xgt c);rw[if_neg c];refine xbo (zmd O hk q (ma (d+o) c3) ?_);dsimp only;cases c2:ahead left R p m f (d+o) with
    |true=>exact xbs (.mk (zbpj o) c3 c2 (zbpk G))
    |false=>exact xbs (.mk H y J (.inr ⟨c3,c2⟩))
  ·rintro c U @⟨l,o,H,y,J,G⟩;rw[Nat.zero_max] at G;exact .mk H y J (.inl (xbb (xhc _ _) (xdw G)))
  ·exact .mk Nat.one_pos hh hr (xbj _)
  ·rintro c U @⟨l,o,H,y,J,G⟩;dsimp only;have f1:∀i,i<d+l+1->ahead left R p m f i=true:=λi P=>u i (d+l) (xcw P) y J
   have f2:∀i,d+min o (n-d)<=i->i<n->ahead left R p m f i=false:=λi v S=>by
    rcases G with g|⟨ga,gb⟩
    ·rw[xjx g,xcr (xcf hh)] at v;exact absurd S (xfi v)
    ·rw[xen (xcf (zbld ga))] at v;exact r (d+o) i v S gb
   have f3:d+l+1<=d+min o (n-d):=xct (Nat.le_min.mpr ⟨H,zbld y⟩) d;have f4:d+min o (n-d)<=n:=xbb (xct (xii _ _) d) (xdt (xcr (xcf hh)));generalize d+l+1=lo at f1 f3 ⊢;generalize d+min o (n-d)=P at f2 f3 f4 ⊢;refine xbo (xgl (xej (I:=GI (ahead left R p m f) n au) (Q:=GE (ahead left R p m f) n au) ?_ ?_ (.mk f3 f4 (xbb (xhc _ _) f4) f1 f2)) ?_)
   ·rintro x c X x1 x2 @⟨a,b,q1,t,Y,z,C⟩;dsimp only;by_cases c:a ≥ b
    ·rw[if_pos c];have e:b=a:=xem c q1;subst e;exact xbs (.mk t z C)
    ·rw[if_neg c];refine xbo (zmd O hk q (ma (a+(b-a)/2) (zbkh c t)) ?_);dsimp only;cases c2:ahead left R p m f (a+(b-a)/2) with
     |true=>exact xbs (.mk (zbtv c) t (zbnv Y) (λi P=>u i (a+(b-a)/2) (xcw P) (zbkh c t) c2) C)
     |false=>exact xbs (.mk (xck _ _) (xcf (zbkh c t)) (zbnu c Y) z λi v S=>r (a+(b-a)/2) i v S c2)
   ·rintro c X @⟨a,b,q1,t,Y,z,C⟩;have e:=zlc q1 Y;subst e;exact .mk t z C
   ·rintro c X @⟨b,t,z,C⟩;exact xbs (h b (zbpw t z C))
 |false=>
  rw[if_neg (by decide)];refine xbo (xgl (xej (I:=λx=>GD (ahead left R p m f) d (x+1<=·) au) (Q:=GD (ahead left R p m f) d (λo=>d+1<=o\/(o<=d/\ahead left R p m f (d-o)=true)) au) ?_ ?_ ?_) ?_)
  ·rintro x c U x1 x2 @⟨l,o,H,y,J,G⟩;dsimp only;by_cases c:o ≥ d+1
   ·rw[if_pos c];exact xbs (.mk H y J (.inl c))
   ·rw[if_neg c];refine xbo (zmd O hk q (ma (d-o) (xdg (xhc _ _) hh)) ?_);dsimp only;cases c2:ahead left R p m f (d-o) with
    |true=>exact xbs (.mk H y J (.inr ⟨xcw (xgt c),c2⟩))
    |false=>exact xbs (.mk (zbpj o) (xcw (xgt c)) c2 (zbpk G))
  ·rintro c U @⟨l,o,H,y,J,G⟩;rw[Nat.zero_max] at G;exact .mk H y J (.inl (xbb hh (xdw G)))
  ·exact .mk Nat.one_pos (xep _) hr (xbj _)
  ·rintro c U @⟨l,o,H,y,J,G⟩;dsimp only;have f1:∀i,i<d+1-min o (d+1)->ahead left R p m f i=true:=λi P=>by
    rcases G with g|⟨ga,gb⟩
    ·rw[xjx g,xjq] at P;exact absurd P (xop _)
    ·rw[xen (xfw ga),Nat.succ_sub ga] at P;exact u i (d-o) (xcw P) (xdg (xhc _ _) hh) gb
   have f2:∀i,d-l<=i->i<n->ahead left R p m f i=false:=λi v S=>r (d-l) i v S J
   have f3:d+1-min o (d+1)<=d-l:=xbb (xhl (Nat.le_min.mpr ⟨H,xgj y⟩) _) (xdt (Nat.succ_sub_succ d l));have f4:d-l<=n:=xbb (xhc _ _) (xcf hh);generalize d+1-min o (d+1)=lo at f1 f3 ⊢;generalize d-l=P at f2 f3 f4 ⊢;refine xbo (xgl (xej (I:=GI (ahead left R p m f) n au) (Q:=GE (ahead left R p m f) n au) ?_ ?_ (.mk f3 f4 (xbb (xhc _ _) f4) f1 f2)) ?_)
   ·rintro x c X x1 x2 @⟨a,b,q1,t,Y,z,C⟩;dsimp only;by_cases c:a ≥ b
    ·rw[if_pos c];have e:b=a:=xem c q1;subst e;exact xbs (.mk t z C)
    ·rw[if_neg c];refine xbo (zmd O hk q (ma (a+(b-a)/2) (zbkh c t)) ?_);dsimp only;cases c2:ahead left R p m f (a+(b-a)/2) with
     |true=>exact xbs (.mk (zbtv c) t (zbnv Y) (λi P=>u i (a+(b-a)/2) (xcw P) (zbkh c t) c2) C)
     |false=>exact xbs (.mk (xck _ _) (xcf (zbkh c t)) (zbnu c Y) z λi v S=>r (a+(b-a)/2) i v S c2)
   ·rintro c X @⟨a,b,q1,t,Y,z,C⟩;have e:=zlc q1 Y;subst e;exact .mk t z C
   ·rintro c X @⟨b,t,z,C⟩;exact xbs (h b (zbpw t z C))
end
noncomputable abbrev Ord(R:Keyed->Nat) (l:List Keyed):Prop:=l.Pairwise λx y=>R x<=R y
structure SmG (au st':SortSt):Prop where
 arr:arrOf st'=arrOf au
 pend:pendingOf st'=pendingOf au
 kind:kindOf st'=kindOf au
 failed:failedOf st'=failedOf au
theorem SmG.refl(au:SortSt):SmG au au:=⟨rfl,rfl,rfl,rfl⟩
theorem SmG.trans(x:SmG a b)(y:SmG b c):SmG a c:=⟨y.arr.trans x.arr,y.pend.trans x.pend,y.kind.trans x.kind,y.failed.trans x.failed⟩
noncomputable def mergeLo':Array Keyed->Array Keyed->StateT SortSt Sem (Array Keyed):=sortPriv% PySem.Builtin.mergeLo
noncomputable def mergeHi':Array Keyed->Array Keyed->StateT SortSt Sem (Array Keyed):=sortPriv% PySem.Builtin.mergeHi
structure ML (R:Keyed->Nat) (all out rest:List Keyed):Prop where
 perm:(out++rest).Perm all
 ord:Ord R out
 le:∀x∈out,∀y∈rest,R x<=R y
theorem ML.grow{a:List Keyed}(m:ML R all out a)(p:a.Perm (c++rest'))(o:Ord R c)(h:∀x∈c,∀y∈rest',R x<=R y):ML R all (out++c) rest':=by
 refine⟨?_,xgp.mpr ⟨m.ord,o,λx hx y b=>m.le x hx y (p.mem_iff.mpr (xhb _ b))⟩,λx hx y b=>?_⟩
 ·rw[xcc];exact(xgw out p.symm).trans m.perm
 ·rcases xca.mp hx with hx|hx
  ·exact m.le x hx y (p.mem_iff.mpr (xdy _ b))
  ·exact h x hx y b
theorem ML.fin{b a:List Keyed}(m:ML R all out b)(p:a.Perm b)(o:Ord R a):(out++a).Perm all/\Ord R (out++a):=
 ⟨(xgw out p).trans m.perm,xgp.mpr ⟨m.ord,o,λx c y d=>m.le x c y (p.mem_iff.mp d)⟩⟩
theorem Ord.at(h:Ord R l){i j:Nat}(f:l[i]?=some x)(k:l[j]?=some y)(a:i<=j):R x<=R y:=by
 obtain⟨g,b⟩:=xbh.mp f;obtain⟨e,d⟩:=xbh.mp k;by_cases c:i=j
 ·subst c;rw[←b,←d];exact xbj _
 ·rw[←b,←d];exact xgb.mp h i j g e (xdp a c)
theorem Ord.drop(h:Ord R l)(n:Nat):Ord R (l.drop n):=xgx (xnt _ _) h
theorem Ord.take(h:Ord R l)(n:Nat):Ord R (l.take n):=xgx (xlj _ _) h
theorem zbk{l:List Keyed}(h:y∈l.drop n):∃j,n<=j/\l[j]?=some y:=by
 obtain⟨i,a,e⟩:=xev h;refine⟨n+i,xck _ _,?_⟩;rw[←e,xnu];exact xbd _
theorem zr{l:List Keyed}(h:y∈l.take n):∃j,j<n/\l[j]?=some y:=by
 obtain⟨i,b,e⟩:=xev h;have a:i<n/\i<l.length:=by rw[xcx] at b;exact Nat.lt_min.mp b
 refine⟨i,a.1,?_⟩;rw[←e,xnv];exact xbd _
theorem zit{l:List Keyed}{i:Nat}{x:Keyed}(h:l[i]?=some x):l.drop i=x::l.drop (i+1):=by
 obtain⟨a,rfl⟩:=xbh.mp h;exact xdc a
theorem znc(l:List Keyed)(i k:Nat):l.drop i=(l.drop i).take k++l.drop (i+k):=by
 rw[←xmv,xda]
structure Two (R:Keyed->Nat) (la lb:List Keyed):Prop where
 oa:Ord R la
 ob:Ord R lb
 last:∀x,la[la.length-1]?=some x->∀y∈lb,R y<=R x
def Fin(R:Keyed->Nat) (a b:List Keyed) (r:Array Keyed):Prop:=r.toList.Perm (a++b)/\Ord R r.toList
section
variable {la:List Keyed}{lb:List Keyed}{out:Array Keyed}{ia:Nat}{ib:Nat}
theorem ML.pushB{R:Keyed->Nat}{a:List Keyed}(T:Two R la lb)(m:ML R a out.toList (la.drop ia++lb.drop ib)){y:Keyed}(c:lb[ib]?=some y)(h:∀z∈la.drop ia,R y<=R z):ML R a (out.push y).toList (la.drop ia++lb.drop (ib+1)):=by
 rw[xfk];refine m.grow ?_ (xle _ _) λx b z hz=>?_
 ·rw[zit c];exact xog
 ·simp at b;subst b
  rcases xca.mp hz with hz|hz
  ·exact h z hz
  ·obtain⟨j,d,e⟩:=zbk hz;exact T.ob.at c e (xdw d)
end
section
variable {w:World}{la:List Keyed}{lb:List Keyed}{out:Array Keyed}{ia:Nat}{ib:Nat}
theorem ML.pushA{R:Keyed->Nat}{a:List Keyed}(T:Two R la lb)(m:ML R a out.toList (la.drop ia++lb.drop ib)){x:Keyed}(b:la[ia]?=some x)(h:∀z∈lb.drop ib,R x<=R z):ML R a (out.push x).toList (la.drop (ia+1)++lb.drop ib):=by
 rw[xfk];refine m.grow ?_ (xle _ _) λw c z hz=>?_
 ·rw[zit b];exact .refl _
 ·simp at c;subst c
  rcases xca.mp hz with hz|hz
  ·obtain⟨j,d,e⟩:=zbk hz;exact T.oa.at b e (xdw d)
  ·exact h z hz
end
theorem zca(a:Array Keyed)(i j:Nat):(a.extract i j).toList=(a.toList.drop i).take (j-i):=by
 rw[xme,List.extract_eq_take_drop]
theorem zrb(a:Array Keyed)(i:Nat):(a.extract i).toList=a.toList.drop i:=by
 rw[zca];exact xdu (by simp)
theorem zbt{a:Array Keyed}(h:a.toList[i]?=some x):kA R a i=R x:=zdv (by rw[←xcm];exact h)
section
variable {a:Array Keyed}{b:Array Keyed}{out:Array Keyed}{ia:Nat}{ib:Nat}{k:Nat}
theorem ML.galA(T:Two R a.toList b.toList)(m:ML R all out.toList (a.toList.drop ia++b.toList.drop ib))(n:b.toList[ib]?=some y)(c:Cut false R y a ia (a.size-ia) k):ML R all (out++a.extract ia (ia+k)).toList (a.toList.drop (ia+k)++b.toList.drop ib)/\∀z∈a.toList.drop (ia+k),R y<=R z:=by
 have up:∀z∈a.toList.drop (ia+k),R y<=R z:=λz d=>by
  obtain⟨j,f,e⟩:=zbk d;have i:j<a.size:=by have:=(xbh.mp e).1;simpa using this
  have l:=xbb (xck _ _) f;have:=c.2.2 (j-ia) (xfo f) (xfe l i);rw[xcr l,zbt e] at this;exact xcf this
 have h:∀z∈(a.toList.drop ia).take k,R z<=R y:=λz d=>by
  obtain⟨j,f,e⟩:=zr d;rw[xfs] at e;have:=c.2.1 j f;rw[zbt e] at this;exact this
 refine⟨?_,up⟩;rw[xeb,zca,xdj];refine m.grow ?_ ((T.oa.drop ia).take k) λz d v hv=>?_
 ·conv=>lhs;rw[znc a.toList ia k]
  rw[xcc]
 ·rcases xca.mp hv with hv|hv
  ·exact xbb (h z d) (up v hv)
  ·obtain⟨j,f,e⟩:=zbk hv;exact xbb (h z d) (T.ob.at n e f)
theorem ML.galB(T:Two R a.toList b.toList)(m:ML R all out.toList (a.toList.drop ia++b.toList.drop ib))(n:a.toList[ia]?=some x)(c:Cut true R x b ib (b.size-ib) k):ML R all (out++b.extract ib (ib+k)).toList (a.toList.drop ia++b.toList.drop (ib+k))/\∀z∈b.toList.drop (ib+k),R x<=R z:=by
 have up:∀z∈b.toList.drop (ib+k),R x<=R z:=λz d=>by
  obtain⟨j,f,e⟩:=zbk d;have i:j<b.size:=by have:=(xbh.mp e).1;simpa using this
  have l:=xbb (xck _ _) f;have:=c.2.2 (j-ib) (xfo f) (xfe l i);rw[xcr l,zbt e] at this;exact this
 have h:∀z∈(b.toList.drop ib).take k,R z<=R x:=λz d=>by
  obtain⟨j,f,e⟩:=zr d;rw[xfs] at e;have:=c.2.1 j f;rw[zbt e] at this;exact xcf this
 refine⟨?_,up⟩;rw[xeb,zca,xdj];refine m.grow ?_ ((T.ob.drop ib).take k) λz d v hv=>?_
 ·conv=>lhs;rw[znc b.toList ib k]
  rw[←xcc,←xcc];exact xjg _ xia
 ·rcases xca.mp hv with hv|hv
  ·obtain⟨j,f,e⟩:=zbk hv;exact xbb (h z d) (T.oa.at n e f)
  ·exact xbb (h z d) (up v hv)
end
theorem ML.done{a:Array Keyed}{b:Array Keyed}{c:Array Keyed}{d:Nat}{e:Nat}(T:Two R a.toList b.toList)(m:ML R (a.toList++b.toList) c.toList (a.toList.drop d++b.toList.drop e))(h:d=a.size\/e=b.size):Fin R a.toList b.toList (c++a.extract d++b.extract e):=by
 unfold Fin;rw[xeb,xeb,zrb,zrb,xcc];refine m.fin (.refl _) ?_;rcases h with rfl|rfl
 ·rw[xjh (by simp),xmf];exact T.ob.drop _
 ·rw[xjh (as:=b.toList) (by simp),xec];exact T.oa.drop _
theorem ML.lastA{a:Array Keyed}{b:Array Keyed}{c:Array Keyed}{d:Nat}{g:Nat}(T:Two R a.toList b.toList)(m:ML R (a.toList++b.toList) c.toList (a.toList.drop d++b.toList.drop g))(h:d+1=a.size):Fin R a.toList b.toList (c++b.extract g++a.extract d):=by
 unfold Fin;rw[xeb,xeb,zrb,zrb,xcc];refine m.fin xia (xgp.mpr ⟨T.ob.drop _,T.oa.drop _,λv l z i=>?_⟩);obtain⟨j,k,e⟩:=zbk i;have f:j<a.size:=by have:=(xbh.mp e).1;simpa using this
 have:j=a.toList.length-1:=xem (xdv (by rw[xch];exact f)) (by rw[xch,←h];exact k);subst this;exact T.last z e v (xff l)
noncomputable def setG':Nat->StateT SortSt Sem Unit:=sortPriv% PySem.Builtin.setMinGallop
section
variable {prog:Program}{w:World}{A:Around}{E:Value->Shared->Prop}{s:Shared}
theorem zym{g:Nat}{au:SortSt}{Q:Unit->SortSt->Prop}(h:∀a,SmG au a->Q () a):wpS (model prog w) A E s (setG' g) Q au:=
 xhr (h _ ⟨rfl,rfl,rfl,rfl⟩)
end
section
variable {prog:Program}{w:World}{A:Around}{E:Value->Shared->Prop}{s:Shared}{y:Keyed}{x:Keyed}
theorem zbwo{α:Type}{K:Nat->StateT SortSt Sem α}{Q:α->SortSt->Prop}{au:SortSt}(h:∀v,wpS (model prog w) A E s (K v) Q au):∀y x:Nat,wpS (model prog w) A E s (if y > 1 then K x else K y) Q au:=λy x=>by
 by_cases e:y > 1
 ·rw[if_pos e];exact h x
 ·rw[if_neg e];exact h y
end
section
variable {prog:Program}{w:World}{A:Around}{E:Value->Shared->Prop}{s:Shared}
theorem zbwq{α:Type}{c a:Prop}[Decidable c][Decidable a]{X Y b:StateT SortSt Sem α}{Q:α->SortSt->Prop}{au:SortSt}(f:¬c->b=Y)(g:c->a->wpS (model prog w) A E s X Q au)(d:(c->¬a)->wpS (model prog w) A E s Y Q au):wpS (model prog w) A E s (if c then(if a then X else Y) else b) Q au:=by
 by_cases e:c
 ·rw[if_pos e];by_cases e2:a
  ·rw[if_pos e2];exact g e e2
  ·rw[if_neg e2];exact d λ_=>e2
 ·rw[if_neg e,f e];exact d λz=>absurd z e
theorem zbks{α:Type}{c a b:Prop}[Decidable c][Decidable a][Decidable b]{X g Y d:StateT SortSt Sem α}{Q:α->SortSt->Prop}{au:SortSt}(h:¬c->d=Y)(i:c->a->wpS (model prog w) A E s X Q au)(j:c->b->wpS (model prog w) A E s g Q au)(f:(c->¬a/\¬b)->wpS (model prog w) A E s Y Q au):wpS (model prog w) A E s (if c then(if a then X else if b then g else Y) else d) Q au:=by
 by_cases e:c
 ·rw[if_pos e];by_cases e2:a
  ·rw[if_pos e2];exact i e e2
  ·rw[if_neg e2];by_cases e3:b
   ·rw[if_pos e3];exact j e e3
   ·rw[if_neg e3];exact f λ_=>⟨e2,e3⟩
 ·rw[if_neg e,h e];exact f λz=>absurd z e
theorem zbwp{α:Type}{c a:Prop}[Decidable c][Decidable a]{X b Y:StateT SortSt Sem α}{Q:α->SortSt->Prop}{au:SortSt}(g:c->wpS (model prog w) A E s X Q au)(d:a->wpS (model prog w) A E s b Q au)(f:¬c->¬a->wpS (model prog w) A E s Y Q au):wpS (model prog w) A E s (if c then X else if a then b else Y) Q au:=by
 by_cases e:c
 ·rw[if_pos e];exact g e
 ·rw[if_neg e];by_cases e2:a
  ·rw[if_pos e2];exact d e2
  ·rw[if_neg e2];exact f e e2
theorem w_if{α:Type}{c:Prop}[Decidable c]{X Y:StateT SortSt Sem α}{Q:α->SortSt->Prop}{au:SortSt}(a:c->wpS (model prog w) A E s X Q au)(b:¬c->wpS (model prog w) A E s Y Q au):wpS (model prog w) A E s (if c then X else Y) Q au:=by
 by_cases e:c
 ·rw[if_pos e];exact a e
 ·rw[if_neg e];exact b e
theorem w_el{α:Type}{a:Array Keyed}{i:Nat}{x:Keyed}{f:Keyed->StateT SortSt Sem α}{Q:α->SortSt->Prop}{au:SortSt}(e:a[i]?=some x)(h:wpS (model prog w) A E s (f x) Q au):wpS (model prog w) A E s (elem' a i >>= f) Q au:=xbo (zmc e h)
end
section
variable {prog:Program}{w:World}{A:Around}{E:Value->Shared->Prop}{s:Shared}{κ:SortKind}{a₀:Array Keyed}{R:Keyed->Nat}
theorem zbkr{α:Type}{x y:Keyed}{f:Option Bool->StateT SortSt Sem α}{Q:α->SortSt->Prop}{au:SortSt}(O:Orc prog w A s κ a₀ R)(g:kindOf au=κ)(a:x∈a₀.toList)(e:y∈a₀.toList)(d:R x<R y->wpS (model prog w) A E s (f (some true)) Q au)(b:R y<=R x->wpS (model prog w) A E s (f (some false)) Q au):wpS (model prog w) A E s (lt' x y >>= f) Q au:=by
 refine xbo (w_lt O g a e ?_);by_cases c:R x<R y
 ·rw[xbp c];exact d c
 ·rw[xbv c];exact b (xcp c)
end
inductive Dn {β:Type}(R:Keyed->Nat) (a b:Array Keyed) (au:SortSt):Option (Array Keyed)×β->SortSt->Prop where
 |mk {r:Array Keyed}{z:β}{st':SortSt}(sm:SmG au st') (f:Fin R a.toList b.toList r):Dn R a b au (some r,z) st'
section
variable {out:Array Keyed}{ia:Nat}{ib:Nat}
inductive L1 (R:Keyed->Nat) (a b:Array Keyed) (au:SortSt) (x:Nat):Option (Array Keyed)×Array Keyed×Nat×Nat×Nat->SortSt->Prop where
 |mk {out:Array Keyed}{ia ib g:Nat}{st':SortSt}(sm:SmG au st') (m:ML R (a.toList++b.toList) out.toList (a.toList.drop ia++b.toList.drop ib)) (ha:ia+1<a.size) (hb:ib<b.size) (hx:x<ia+ib):L1 R a b au x (none,out,ia,ib,g) st'
inductive L2' (R:Keyed->Nat) (a b:Array Keyed) (au:SortSt) (x:Nat):Option (Array Keyed)×Array Keyed×Nat×Nat×Nat×Nat->SortSt->Prop where
 |mk {out:Array Keyed}{ia ib ac bc:Nat}{st':SortSt}(sm:SmG au st') (m:ML R (a.toList++b.toList) out.toList (a.toList.drop ia++b.toList.drop ib)) (ha:ia+1<a.size) (hb:ib<b.size) (hx:x<=ia+ib):L2' R a b au x (none,out,ia,ib,ac,bc) st'
inductive L3 (R:Keyed->Nat) (a b:Array Keyed) (au:SortSt) (x:Nat):Option (Array Keyed)×Array Keyed×Nat×Nat×Nat×Nat×Nat->SortSt->Prop where
 |mk {out:Array Keyed}{ia ib g ac bc:Nat}{st':SortSt}(sm:SmG au st') (m:ML R (a.toList++b.toList) out.toList (a.toList.drop ia++b.toList.drop ib)) (ha:ia+1<a.size) (hb:ib<b.size) (hx:x<=ia+ib):L3 R a b au x (none,out,ia,ib,g,ac,bc) st'
end
section
variable {prog:Program}{w:World}{A:Around}{E:Value->Shared->Prop}{s:Shared}{κ:SortKind}{a₀:Array Keyed}{R:Keyed->Nat}{a:Array Keyed}{b:Array Keyed}{out:Array Keyed}{ia:Nat}{ib:Nat}{k:Nat}{y:Keyed}{x:Keyed}
theorem zyo{au:SortSt}{Q:Array Keyed->SortSt->Prop}(O:Orc prog w A s κ a₀ R)(hk:kindOf au=κ)(ma:∀x∈a.toList,x∈a₀.toList)(mb:∀x∈b.toList,x∈a₀.toList)(T:Two R a.toList b.toList)(ha:1<=a.size)(hb:1<=b.size)
  (b6:∀y,b.toList[0]?=some y->∀x∈a.toList,R y<=R x)(h:∀r C,SmG au C->Fin R a.toList b.toList r->Q r C):wpS (model prog w) A E s (mergeLo' a b) Q au:=by
 have u:∀(i:Nat) (H:i<a.size),a[i]?=some a[i]/\a.toList[i]?=some a[i]/\a[i]∈a₀.toList:=λi H=>⟨getElem?_pos a i H,by rw[xcm];exact getElem?_pos a i H,ma _ (by simp)⟩
 have o:∀(i:Nat) (H:i<b.size),b[i]?=some b[i]/\b.toList[i]?=some b[i]/\b[i]∈a₀.toList:=λi H=>⟨getElem?_pos b i H,by rw[xcm];exact getElem?_pos b i H,mb _ (by simp)⟩
 have c0:∀i,UpA R a i (i+(a.size-i)):=λi p q a1 a2 a3=>by
  have hq:q<a.size:=by lia
  have e1:=(u p (by lia)).2.1;have e2:=(u q hq).2.1;rw[zbt e1,zbt e2];exact T.oa.at e1 e2 a2
 have b9:∀i,UpA R b i (i+(b.size-i)):=λi p q a1 a2 a3=>by
  have hq:q<b.size:=by lia
  have e1:=(o p (by lia)).2.1;have e2:=(o q hq).2.1;rw[zbt e1,zbt e2];exact T.ob.at e1 e2 a2
 obtain⟨y0,f0,f1⟩:∃x,b[0]?=some x/\b.toList[0]?=some x:=⟨_,(o 0 hb).1,(o 0 hb).2.1⟩
 have start:ML R (a.toList++b.toList) (#[y0]:Array Keyed).toList (a.toList.drop 0++b.toList.drop 1):=by
  have z:ML R (a.toList++b.toList) (#[]:Array Keyed).toList (a.toList.drop 0++b.toList.drop 0):=⟨by simp,List.Pairwise.nil,by simp⟩
  exact z.pushB T f1 λx hx=>b6 y0 f1 x (xff hx)
 refine xbo (xly (xjf ⟨rfl,xbo (zmc f0 (zbwp (λc1=>?_) (λc2=>?_) λc1 c2=>?_))⟩))
 ·exact xbs (h _ _ (.refl _) (start.done T (.inr (by simpa using c1))))
 ·exact xbs (h _ _ (.refl _) (start.lastA T (by simpa using c2)))
 simp only[xhq] at c1 c2;refine xbo (xiy ?_);refine xbo (xgl (xej (I:=L1 R a b au) (Q:=Dn R a b au) ?_ ?_ (.mk (.refl _) start (by lia) (by lia) (by lia))) ?_)
 ·rintro x c a0 x1 x2 @⟨out,ia,ib,g,a0,a4,m,b2,b5,hx⟩;dsimp only;refine xbo (xgl (xej (I:=λ_=>L2' R a b au (ia+ib)) (Q:=λc C=>Dn R a b au c C\/L2' R a b au (ia+ib) c C) ?_ ?_ (.mk a4 m b2 b5 (xbj _))) ?_)
  ·rintro x' c a5 _ _ @⟨out,l,ib',ac,bc,a5,t,m,n,d,hp⟩;dsimp only;have ea:=(u l (xfx n)).1;have P:=(u l (xfx n)).2.1;have a6:=(u l (xfx n)).2.2;have eb:=(o ib' d).1;have J:=(o ib' d).2.1;have a8:=(o ib' d).2.2;refine w_el eb (w_el ea (zbkr O (t.kind.trans hk) a8 a6 (λcw=>w_el eb ?_) λcw=>w_el ea ?_))
   ·skip
    have m2:=m.pushB T J λz hz=>by
     obtain⟨j,hj,e⟩:=zbk hz;exact xbb (xcf cw) (T.oa.at P e hj)
    refine w_if (λc5=>xbs (.inl (.mk t (m2.done T (.inr (eq_of_beq c5)))))) λc5=>?_
    rw[xhq] at c5;have b1:ib'+1<b.size:=xdp d c5;have U:ia+ib<=l+(ib'+1):=xfw hp;exact w_if (λ_=>xbs (.inr (.mk t m2 n b1 U))) λ_=>xbs (.mk t m2 n b1 U)
   ·skip
    have m2:=m.pushA T P λz hz=>by
     obtain⟨j,hj,e⟩:=zbk hz;exact xbb cw (T.ob.at J e hj)
    refine w_if (λc5=>xbs (.inl (.mk t (m2.lastA T (eq_of_beq c5))))) λc5=>?_
    rw[xhq] at c5;have b3:l+1+1<a.size:=xdp n c5;have U:ia+ib<=l+1+ib':=Nat.succ_add l ib' ▸ xfw hp
    exact w_if (λ_=>xbs (.inr (.mk t m2 b3 d U))) λ_=>xbs (.mk t m2 b3 d U)
  ·exact λc a5 k=>.inr k
  ·rintro c a5 (⟨t,f⟩|@⟨out,l,ib',ac,bc,a5,t,m,n,d,hp⟩)
   ·exact xbs (.mk t f)
   ·dsimp only;refine xbo (xly (xjf ⟨rfl,?_⟩));refine xbo (xgl (xej (I:=λx'=>L3 R a b au (ia+ib+x')) (Q:=λc C=>Dn R a b au c C\/L3 R a b au (ia+ib+1) c C) ?_ ?_ (.mk t m n d hp)) ?_)
    ·rintro x' c a7 _ c4 @⟨out,l,ib',g',ac,bc,a7,G,m,n,d,hp⟩;dsimp only;have eb:=(o ib' d).1;have J:=(o ib' d).2.1;have a8:=(o ib' d).2.2;generalize g'-1=g1;generalize g'=y;revert g1;revert y
     refine zbwo ?_;intro gg;refine xbo (zym λb7 sg=>?_);have v:=G.trans sg;refine w_el eb (xbo (zfz O (v.kind.trans hk) a8 (λi H=>⟨_,(u (l+i) (xeo H)).1,(u (l+i) (xeo H)).2.2⟩) (xgq (xfx n)) (c0 l) λk1 S=>?_));have m5:=(m.galA T J S).1;have u5:=(m.galA T J S).2;have d1:=S.1;dsimp only;refine zbks (λc6=>?_) (λc6 c7=>?_) (λc6 c8=>?_) λhh=>?_
     ·have z:k1=0:=Nat.le_zero.mp (xcp c6);subst z;simp only[xkt,xjr (xhz _ _),xnf]
     ·exact xbs (.inl (.mk v (m5.lastA T (eq_of_beq c7))))
     ·exact xbs (.inl (.mk v (m5.done T (.inl (eq_of_beq c8)))))
     have X:l+k1+1<a.size:=by
      by_cases c6:k1 > 0
      ·have:=hh c6;simp at this;lia
      ·lia
     have b8:ia+ib+x'<=l+k1+ib':=xbb hp (Nat.add_le_add_right (xck _ _) _);clear hh;generalize l+k1=ia5 at m5 u5 X b8 ⊢;generalize out++a.extract l ia5=out5 at m5 ⊢;have m6:=m5.pushB T J u5;have ea:=(u _ (xfx X)).1;have P:=(u _ (xfx X)).2.1;have a6:=(u _ (xfx X)).2.2;refine w_el eb (w_if (λc9=>xbs (.inl (.mk v (m6.done T (.inr (eq_of_beq c9)))))) λc9=>w_el ea ?_);rw[xhq] at c9;refine xbo (zfz O (v.kind.trans hk) a6 (λi H=>⟨_,(o (ib'+1+i) (xeo H)).1,(o (ib'+1+i) (xeo H)).2.2⟩) (xgq (xdp d c9)) (b9 (ib'+1)) λk2 Y=>?_);have m7:=(m6.galB T P Y).1;have u7:=(m6.galB T P Y).2;have c3:=Y.1;dsimp only;refine zbwq (λd6=>?_) (λd6 d7=>?_) λhh=>?_
     ·have z2:k2=0:=Nat.le_zero.mp (xcp d6);subst z2;simp only[xkt,xjr (xhz _ _),xnf]
     ·exact xbs (.inl (.mk v (m7.done T (.inr (eq_of_beq d7)))))
     have d0:ib'+1+k2≠b.size:=by
      by_cases d6:k2 > 0
      ·have:=hh d6;simp at this;lia
      ·lia
     have m8:=m7.pushA T P u7;refine w_el ea (w_if (λd8=>xbs (.inl (.mk v (m8.lastA T (eq_of_beq d8))))) λd8=>?_);rw[xhq] at d8;have b4:ia5+1+1<a.size:=xdp X d8;have b0:ib'+1+k2<b.size:=by lia
     have a9:ia+ib+(x'+1)<=ia5+1+(ib'+1+k2):=by lia
     exact w_if (λ_=>xbs (.inr (.mk v m8 b4 b0 (xbb (xct (xoo 1 x') _) a9)))) λ_=>xbs (.mk v m8 b4 b0 a9)
    ·rintro c a7 ⟨G,m,n,d,hp⟩;exact .inr (.mk G m n d (by lia))
    ·rintro c a7 (⟨G,f⟩|⟨G,m,n,d,hp⟩)
     ·exact xbs (.mk G f)
     ·exact xbo (zym λb7 sg=>xbs (.mk (G.trans sg) m n d (xbn (Nat.succ_lt_succ hx) hp)))
 ·rintro c a0 ⟨a4,m,b2,b5,hx⟩;lia
 ·rintro c a0 ⟨a4,f⟩;exact xbs (h _ a0 a4 f)
end
structure MH (R:Keyed->Nat) (all out rest:List Keyed):Prop where
 perm:(rest++out.reverse).Perm all
 ord:Ord R out.reverse
 le:∀x∈rest,∀y∈out,R x<=R y
theorem MH.grow{a c:List Keyed}(m:MH R all out a)(p:a.Perm (rest'++c.reverse))(o:Ord R c.reverse)(h:∀x∈rest',∀y∈c,R x<=R y):MH R all (out++c) rest':=by
 refine⟨?_,?_,λx b y hy=>?_⟩
 ·rw[List.reverse_append,←xcc];exact(xjg _ p.symm).trans m.perm
 ·rw[List.reverse_append];exact xgp.mpr ⟨o,m.ord,λx b y hy=>m.le x (p.mem_iff.mpr (xdy _ b)) y (xlx.mp hy)⟩
 ·rcases xca.mp hy with hy|hy
  ·exact m.le x (p.mem_iff.mpr (xhb _ b)) y hy
  ·exact h x b y hy
theorem MH.fin{b a:List Keyed}(m:MH R all out b)(p:a.Perm b)(o:Ord R a):(a++out.reverse).Perm all/\Ord R (a++out.reverse):=
 ⟨(xjg _ p).trans m.perm,xgp.mpr ⟨o,m.ord,λx c y d=>m.le x (p.mem_iff.mp c) y (xlx.mp d)⟩⟩
theorem zhx{l:List Keyed}{i:Nat}{x:Keyed}(h:l[i]?=some x):l.take (i+1)=l.take i++[x]:=by
 obtain⟨a,rfl⟩:=xbh.mp h;exact xik a
structure TwoH (R:Keyed->Nat) (la lb:List Keyed):Prop where
 oa:Ord R la
 ob:Ord R lb
 first:∀y,lb[0]?=some y->∀x∈la,R y<=R x
section
variable {R:Keyed->Nat}{la:List Keyed}{lb:List Keyed}{all:List Keyed}{out:Array Keyed}{na:Nat}{nb:Nat}
theorem MH.pushB(T:TwoH R la lb)(m:MH R all out.toList (la.take na++lb.take (nb+1))){y:Keyed}(a:lb[nb]?=some y)(h:∀z∈la.take na,R z<=R y):MH R all (out.push y).toList (la.take na++lb.take nb):=by
 rw[xfk];refine m.grow ?_ (by simp) λz hz w b=>?_
 ·rw[zhx a];simp
 ·simp at b;subst b
  rcases xca.mp hz with hz|hz
  ·exact h z hz
  ·obtain⟨j,c,e⟩:=zr hz;exact T.ob.at e a (by lia)
theorem MH.pushA(T:TwoH R la lb)(m:MH R all out.toList (la.take (na+1)++lb.take nb)){x:Keyed}(a:la[na]?=some x)(h:∀z∈lb.take nb,R z<=R x):MH R all (out.push x).toList (la.take na++lb.take nb):=by
 rw[xfk];refine m.grow ?_ (by simp) λz hz w b=>?_
 ·rw[zhx a];simp only[List.reverse_singleton,xcc];exact xgw _ xia
 ·simp at b;subst b
  rcases xca.mp hz with hz|hz
  ·obtain⟨j,c,e⟩:=zr hz;exact T.oa.at e a (by lia)
  ·exact h z hz
end
theorem zwy(l:List Keyed) (h:k<=n):l.take n=l.take k++(l.drop k).take (n-k):=by
 conv=>lhs;rw[show n=k+(n-k) by lia,List.take_add]
section
variable {a:Array Keyed}{b:Array Keyed}{out:Array Keyed}{na:Nat}{nb:Nat}{k:Nat}
theorem MH.galA(T:TwoH R a.toList b.toList)(m:MH R all out.toList (a.toList.take na++b.toList.take (nb+1)))(i:b.toList[nb]?=some y)(l:na<=a.size)(c:Cut false R y a 0 na k):MH R all (out++(a.extract k na).reverse).toList (a.toList.take k++b.toList.take (nb+1))/\∀z∈a.toList.take k,R z<=R y:=by
 have g:∀z∈a.toList.take k,R z<=R y:=λz d=>by
  obtain⟨j,h,e⟩:=zr d;have:=c.2.1 j h;rw[xel,zbt e] at this;exact this
 have up:∀z∈(a.toList.drop k).take (na-k),R y<=R z:=λz d=>by
  obtain⟨j,h,e⟩:=zr d;rw[xfs] at e;have:=c.2.2 (k+j) (by lia) (by lia);rw[xel,zbt e] at this;exact xcf this
 refine⟨?_,g⟩;rw[xeb,xjy,zca];refine m.grow ?_ (by rw[xjz];exact(T.oa.drop k).take _) λv hv z d=>?_
 ·rw[xjz,zwy a.toList c.1,xcc,xcc];exact xgw _ xia
 ·have d:=up z (xlx.mp d);rcases xca.mp hv with hv|hv
  ·exact xbb (g v hv) d
  ·obtain⟨j,h,e⟩:=zr hv;exact xbb (T.ob.at e i (by lia)) d
theorem MH.galB(T:TwoH R a.toList b.toList)(m:MH R all out.toList (a.toList.take (na+1)++b.toList.take nb))(i:a.toList[na]?=some x)(l:nb<=b.size)(c:Cut true R x b 0 nb k):MH R all (out++(b.extract k nb).reverse).toList (a.toList.take (na+1)++b.toList.take k)/\∀z∈b.toList.take k,R z<=R x:=by
 have g:∀z∈b.toList.take k,R z<=R x:=λz d=>by
  obtain⟨j,h,e⟩:=zr d;have:=c.2.1 j h;rw[xel,zbt e] at this;exact xcf this
 have up:∀z∈(b.toList.drop k).take (nb-k),R x<=R z:=λz d=>by
  obtain⟨j,h,e⟩:=zr d;rw[xfs] at e;have:=c.2.2 (k+j) (by lia) (by lia);rw[xel,zbt e] at this;exact this
 refine⟨?_,g⟩;rw[xeb,xjy,zca];refine m.grow ?_ (by rw[xjz];exact(T.ob.drop k).take _) λv hv z d=>?_
 ·rw[xjz,zwy b.toList c.1,xcc]
 ·have d:=up z (xlx.mp d);rcases xca.mp hv with hv|hv
  ·obtain⟨j,h,e⟩:=zr hv;exact xbb (T.oa.at e i (by lia)) d
  ·exact xbb (g v hv) d
end
theorem zlm(a:Array Keyed)(n:Nat):(a.extract 0 n).toList=a.toList.take n:=by
 rw[zca,xox,xoh]
theorem MH.done{a:Array Keyed}{b:Array Keyed}{c:Array Keyed}{d:Nat}{nb:Nat}(T:TwoH R a.toList b.toList)(m:MH R (a.toList++b.toList) c.toList (a.toList.take d++b.toList.take nb))(h:d=0\/nb=0):Fin R a.toList b.toList (a.extract 0 d++b.extract 0 nb++c.reverse):=by
 unfold Fin;rw[xeb,xeb,zlm,zlm,xjy];refine m.fin (.refl _) ?_;rcases h with rfl|rfl
 ·rw[xmw,xmf];exact T.ob.take _
 ·rw[xmw,xec];exact T.oa.take _
theorem MH.firstB{a:Array Keyed}{b:Array Keyed}{c:Array Keyed}{d:Nat}{nb:Nat}(T:TwoH R a.toList b.toList)(m:MH R (a.toList++b.toList) c.toList (a.toList.take d++b.toList.take nb))(h:nb=1):Fin R a.toList b.toList (b.extract 0 nb++a.extract 0 d++c.reverse):=by
 unfold Fin;rw[xeb,xeb,zlm,zlm,xjy];refine m.fin xia (xgp.mpr ⟨T.ob.take _,T.oa.take _,λv g z f=>?_⟩);obtain⟨j,i,e⟩:=zr g;have:j=0:=by lia
 subst this;exact T.first v e z (xed f)
section
variable {out:Array Keyed}{na:Nat}{nb:Nat}
inductive H1 (R:Keyed->Nat) (a b:Array Keyed) (au:SortSt) (x:Nat):Option (Array Keyed)×Nat×Nat×Array Keyed×Nat->SortSt->Prop where
 |mk {na nb:Nat}{out:Array Keyed}{g:Nat}{st':SortSt}(sm:SmG au st') (m:MH R (a.toList++b.toList) out.toList (a.toList.take na++b.toList.take nb)) (a1:1<=na) (a2:na<=a.size) (b1:2<=nb) (b2:nb<=b.size) (hx:x+na+nb<a.size+b.size):H1 R a b au x (none,na,nb,out,g) st'
inductive H2 (R:Keyed->Nat) (a b:Array Keyed) (au:SortSt) (x:Nat):Option (Array Keyed)×Nat×Nat×Array Keyed×Nat×Nat->SortSt->Prop where
 |mk {na nb:Nat}{out:Array Keyed}{ac bc:Nat}{st':SortSt}(sm:SmG au st') (m:MH R (a.toList++b.toList) out.toList (a.toList.take na++b.toList.take nb)) (a1:1<=na) (a2:na<=a.size) (b1:2<=nb) (b2:nb<=b.size) (hx:na+nb<=x):H2 R a b au x (none,na,nb,out,ac,bc) st'
inductive H3 (R:Keyed->Nat) (a b:Array Keyed) (au:SortSt) (x y:Nat):Option (Array Keyed)×Nat×Nat×Array Keyed×Nat×Nat×Nat->SortSt->Prop where
 |mk {na nb:Nat}{out:Array Keyed}{g ac bc:Nat}{st':SortSt}(sm:SmG au st') (m:MH R (a.toList++b.toList) out.toList (a.toList.take na++b.toList.take nb)) (a1:1<=na) (a2:na<=a.size) (b1:2<=nb) (b2:nb<=b.size) (hx:y+na+nb<=x):H3 R a b au x y (none,na,nb,out,g,ac,bc) st'
end
section
variable {prog:Program}{w:World}{A:Around}{E:Value->Shared->Prop}{s:Shared}{κ:SortKind}{a₀:Array Keyed}{R:Keyed->Nat}{a:Array Keyed}{b:Array Keyed}{out:Array Keyed}{na:Nat}{nb:Nat}{k:Nat}{y:Keyed}{x:Keyed}
theorem zyp{au:SortSt}{Q:Array Keyed->SortSt->Prop}(O:Orc prog w A s κ a₀ R)(hk:kindOf au=κ)(ma:∀x∈a.toList,x∈a₀.toList)(mb:∀x∈b.toList,x∈a₀.toList)(T:TwoH R a.toList b.toList)(ha:1<=a.size)(hb:1<=b.size)
  (b9:∀x,a.toList[a.size-1]?=some x->∀y∈b.toList,R y<=R x)(h:∀r C,SmG au C->Fin R a.toList b.toList r->Q r C):wpS (model prog w) A E s (mergeHi' a b) Q au:=by
 have d:∀(i:Nat) (hi:i<a.size),a[i]?=some a[i]/\a.toList[i]?=some a[i]/\a[i]∈a₀.toList:=λi hi=>⟨getElem?_pos a i hi,by rw[xcm];exact getElem?_pos a i hi,ma _ (by simp)⟩
 have o:∀(i:Nat) (hi:i<b.size),b[i]?=some b[i]/\b.toList[i]?=some b[i]/\b[i]∈a₀.toList:=λi hi=>⟨getElem?_pos b i hi,by rw[xcm];exact getElem?_pos b i hi,mb _ (by simp)⟩
 have c3:∀n,n<=a.size->UpA R a 0 (0+n):=λn hn p q a1 a2 U=>by
  have hq:q<a.size:=xbn U (xbb (xdt (xel n)) hn);have e1:=(d p (xdg a2 hq)).2.1;have e2:=(d q hq).2.1;rw[zbt e1,zbt e2];exact T.oa.at e1 e2 a2
 have c0:∀n,n<=b.size->UpA R b 0 (0+n):=λn hn p q a1 a2 U=>by
  have hq:q<b.size:=xbn U (xbb (xdt (xel n)) hn);have e1:=(o p (xdg a2 hq)).2.1;have e2:=(o q hq).2.1;rw[zbt e1,zbt e2];exact T.ob.at e1 e2 a2
 obtain⟨x0,f0,f1⟩:∃x,a[a.size-1]?=some x/\a.toList[a.size-1]?=some x:=⟨_,(d (a.size-1) (xjb ha Nat.one_pos)).1,(d (a.size-1) (xjb ha Nat.one_pos)).2.1⟩
 have start:MH R (a.toList++b.toList) (#[x0]:Array Keyed).toList (a.toList.take (a.size-1)++b.toList.take b.size):=by
  have z:MH R (a.toList++b.toList) (#[]:Array Keyed).toList (a.toList.take (a.size-1+1)++b.toList.take b.size):=by
   refine⟨?_,List.Pairwise.nil,by simp⟩;rw[xhs ha,xdu (by simp),xdu (by simp)];simp
  exact z.pushA T f1 λy hy=>b9 x0 f1 y (xed hy)
 refine xbo (xly (xjf ⟨rfl,xbo (zmc f0 (zbwp (λc1=>?_) (λc2=>?_) λc1 c2=>?_))⟩))
 ·exact xbs (h _ _ (.refl _) (start.done T (.inl (by simpa using c1))))
 ·exact xbs (h _ _ (.refl _) (start.firstB T (by simpa using c2)))
 simp only[xhq] at c1 c2;refine xbo (xiy ?_);refine xbo (xgl (xej (I:=H1 R a b au) (Q:=Dn R a b au) ?_ ?_ (.mk (.refl _) start (by lia) (by lia) (by lia) (xbj _) (by lia))) ?_)
 ·rintro x c a7 x1 x2 @⟨na,nb,out,g,a7,a8,m,a1,a2,b1,b2,hx⟩;dsimp only;refine xbo (xgl (xej (I:=λ_=>H2 R a b au (na+nb)) (Q:=λc C=>Dn R a b au c C\/H2 R a b au (na+nb) c C) ?_ ?_ (.mk a8 m a1 a2 b1 b2 (xbj _))) ?_)
  ·rintro x' c b0 _ _ @⟨na',G,out,ac,bc,b0,l,m,X,v,Y,t,hp⟩;obtain⟨p,rfl⟩:∃p,na'=p+1:=⟨na'-1,(xhs X).symm⟩
   obtain⟨q,rfl⟩:∃q,G=q+1:=⟨G-1,(xhs (xdw Y)).symm⟩
   dsimp only;have ea:=(d p v).1;have S:=(d p v).2.1;have b3:=(d p v).2.2;have eb:=(o q t).1;have P:=(o q t).2.1;have b4:=(o q t).2.2;refine w_el eb (w_el ea (zbkr O (l.kind.trans hk) b4 b3 (λcw=>w_el ea ?_) λcw=>w_el eb ?_))
   ·skip
    have m2:=m.pushA T S λz hz=>by
     obtain⟨j,hj,e⟩:=zr hz;exact xbb (T.ob.at e P (xcw hj)) (xcf cw)
    refine w_if (λc5=>xbs (.inl (.mk l (m2.done T (.inl (eq_of_beq c5)))))) λc5=>?_
    rw[xhq] at c5;have U:1<=p:=xng c5;have a4:p<=a.size:=xdw v;have a5:p+(q+1)<=na+nb:=xbb (Nat.add_le_add_right (xlt p) _) hp;exact w_if (λ_=>xbs (.inr (.mk l m2 U a4 Y t a5))) λ_=>xbs (.mk l m2 U a4 Y t a5)
   ·skip
    have m2:=m.pushB T P λz hz=>by
     obtain⟨j,hj,e⟩:=zr hz;exact xbb (T.oa.at e S (xcw hj)) cw
    refine w_if (λc5=>xbs (.inl (.mk l (m2.firstB T (eq_of_beq c5))))) λc5=>?_
    rw[xhq] at c5;have U:2<=q:=xdp (Nat.le_of_succ_le_succ Y) (xfj c5);have a4:q<=b.size:=xdw t;have a5:p+1+q<=na+nb:=xdw hp;exact w_if (λ_=>xbs (.inr (.mk l m2 X v U a4 a5))) λ_=>xbs (.mk l m2 X v U a4 a5)
  ·exact λc b0 k=>.inr k
  ·rintro c b0 (⟨l,f⟩|@⟨na',G,out,ac,bc,b0,l,m,X,v,Y,t,hp⟩)
   ·exact xbs (.mk l f)
   ·dsimp only;refine xbo (xly (xjf ⟨rfl,?_⟩));refine xbo (xgl (xej (I:=H3 R a b au (na+nb)) (Q:=λc C=>Dn R a b au c C\/H3 R a b au (na+nb) 1 c C) ?_ ?_ (.mk l m X v Y t (by rw[xel];exact hp))) ?_)
    ·rintro x' c a9 _ c8 @⟨na',G,out,g',ac,bc,a9,H,m,X,v,Y,t,hp⟩;obtain⟨q,rfl⟩:∃q,G=q+1:=⟨G-1,(xhs (xdw Y)).symm⟩
     dsimp only;have eb:=(o q t).1;have P:=(o q t).2.1;have b4:=(o q t).2.2;generalize g'-1=X;generalize g'=y;revert X;revert y
     refine zbwo ?_;intro gg;refine xbo (zym λb7 sg=>?_);have u:=H.trans sg;refine w_el eb (xbo (zfz O (u.kind.trans hk) b4 (λi hi=>⟨_,(d (0+i) (by lia)).1,(d (0+i) (by lia)).2.2⟩) (by lia) (c3 na' v) λk1 J=>?_));have m5:=(m.galA T P v J).1;have u5:=(m.galA T P v J).2;have b6:=J.1;dsimp only;refine zbwq (λc6=>?_) (λc6 c7=>?_) λhh=>?_
     ·have z:k1=na':=by lia
      subst z;rw[show out++(a.extract k1 k1).reverse=out by simp[xhz]]
     ·exact xbs (.inl (.mk u (m5.done T (.inl (eq_of_beq c7)))))
     have g5:1<=k1:=by
      by_cases c6:na'-k1 > 0
      ·have:=hh c6;simp at this;lia
      ·lia
     have g6:k1<=a.size:=xbb b6 v;have c4:x'+k1+(q+1)<=na+nb:=by lia
     clear hh b6 J;generalize out++(a.extract k1 na').reverse=out5 at m5 ⊢;obtain⟨p,rfl⟩:∃p,k1=p+1:=⟨k1-1,(xhs g5).symm⟩
     simp only[Nat.add_sub_cancel];have m6:=m5.pushB T P u5;have ea:=(d p g6).1;have S:=(d p g6).2.1;have b3:=(d p g6).2.2;refine w_el eb (w_if (λc9=>xbs (.inl (.mk u (m6.firstB T (eq_of_beq c9))))) λc9=>w_el ea ?_);rw[xhq] at c9;refine xbo (zfz O (u.kind.trans hk) b3 (λi hi=>⟨_,(o (0+i) (by lia)).1,(o (0+i) (by lia)).2.2⟩) (by lia) (c0 q (xdw t)) λk2 a0=>?_);have m7:=(m6.galB T S (xdw t) a0).1;have u7:=(m6.galB T S (xdw t) a0).2;have b8:=a0.1;dsimp only;refine zbks (λd6=>?_) (λd6 d7=>?_) (λd6 d9=>?_) λhh=>?_
     ·have z2:k2=q:=by lia
      subst z2;simp only[xjr (xbb (xhz _ _) (xbj _)),Array.reverse_empty,xnf]
     ·exact xbs (.inl (.mk u (m7.firstB T (eq_of_beq d7))))
     ·exact xbs (.inl (.mk u (m7.done T (.inr (eq_of_beq d9)))))
     have b5:2<=k2:=by
      by_cases d6:q-k2 > 0
      ·have:=hh d6;simp at this;lia
      ·lia
     have m8:=m7.pushA T S u7;refine w_el ea (w_if (λd8=>xbs (.inl (.mk u (m8.done T (.inl (eq_of_beq d8)))))) λd8=>?_);rw[xhq] at d8;have U:1<=p:=xng d8;have a4:p<=a.size:=xdw g6;have a5:k2<=b.size:=xbb b8 (xdw t);have a6:x'+1+p+k2<=na+nb:=by lia
     exact w_if (λ_=>xbs (.inr (.mk u m8 U a4 b5 a5 (by lia)))) λ_=>xbs (.mk u m8 U a4 b5 a5 a6)
    ·rintro c a9 ⟨H,m,X,v,Y,t,hp⟩;exact .inr (.mk H m X v Y t (by lia))
    ·rintro c a9 (⟨H,f⟩|@⟨na',G,out,g',ac,bc,a9,H,m,X,v,Y,t,hp⟩)
     ·exact xbs (.mk H f)
     ·have h9:x+1+na'+G<a.size+b.size:=by lia
      exact xbo (zym λb7 sg=>xbs (.mk (H.trans sg) m X v Y t h9))
 ·rintro c a7 ⟨a8,m,a1,a2,b1,b2,hx⟩;lia
 ·rintro c a7 ⟨a8,f⟩;exact xbs (h _ a7 a8 f)
end
theorem zus:∀(l:List Keyed) (n b:Nat) (d:Array Keyed),b+n+l.length<=d.size->∀i,((l.zipIdx n).foldl (λa p=>a.setIfInBounds (b+p.2) p.1) d)[i]?=if b+n<=i/\i<b+n+l.length then l[i-(b+n)]? else d[i]?
 |[],n,b,d,h,i=>by
  rw[if_neg (by simp)]
  rfl
 |x::l,n,b,d,h,i=>by
  rw[List.zipIdx_cons,xgc];rw[xbw] at h;have e:b+(n+1)+l.length=b+n+(l.length+1):=Nat.succ_add_eq_add_succ (b+n) l.length;rw[zus l (n+1) b _ (by rw[Array.size_setIfInBounds];exact xbb (xdt e) h) i];rw[xbw];by_cases c:b+(n+1)<=i/\i<b+(n+1)+l.length
  ·rw[if_pos c,if_pos ⟨xdw c.1,xgy c.2 e⟩,show i-(b+n)=i-(b+(n+1))+1 from(xhs (xgq c.1)).symm,xhi]
  ·rw[if_neg c];by_cases c2:i=b+n
   ·rw[if_pos ⟨xdt c2.symm,xdg (xdt c2) (xiv (Nat.succ_pos _))⟩,c2,xjq,xlf];exact xkf (xbn (xiv (Nat.succ_pos l.length)) h)
   ·rw[if_neg λz=>c ⟨xdp z.1 (xfj c2),xgy z.2 e.symm⟩];exact xmb (λz=>c2 z.symm)
theorem zbfr{m b:Array Keyed}(h:off+m.size<=b.size):(m.toList.zipIdx.foldl (λa p=>a.setIfInBounds (off+p.2) p.1) b).toList=b.toList.take off++m.toList++b.toList.drop (off+m.size):=by
 apply xic;intro i;rw[xcm,zus m.toList 0 off b (by simpa using h) i];simp only[xkt,xch];have d:(b.toList.take off).length=off:=by rw[xcx,xch];exact xen (xbb (xck _ _) h)
 by_cases c:off<=i/\i<off+m.size
 ·rw[if_pos c,xcc,xdi (xbb (xdt d) c.1),d,xcg (by rw[xch];exact xek c.1 c.2)]
 ·rw[if_neg c];by_cases c2:i<off
  ·rw[xcc,xcg (xgy c2 d.symm),List.getElem?_take,if_pos c2,xcm]
  ·have e:off+m.size<=i:=xcp λz=>c ⟨xcp c2,z⟩
   rw[xdi (by rw[xbl,d,xch];exact e),xfs];simp only[xbl,d,xch];rw[xcr e,xcm]
theorem zbcw(up:UpA R xs i j)(d:j<=xs.size):Ord R (xs.extract i j).toList:=by
 rw[zca];refine xgb.mpr λp q c a b=>?_
 simp only[xcx,xgh,xch] at c a;simp only[xnv,xnu,Array.getElem_toList];have:=up (i+p) (i+q) (xck _ _) (xct (xcf b) i) (xeo (xbn a (xhz _ _)));rw[zdv (getElem?_pos xs (i+p) (xeo (xbn c (xii _ _)))),zdv (getElem?_pos xs (i+q) (xeo (xbn a (xii _ _))))] at this;exact this
theorem zjv{a:Array Keyed}(h:x∈(a.extract i j).toList):∃q,i<=q/\q<j/\a[q]?=some x:=by
 rw[zca] at h;obtain⟨q,b,e⟩:=zr h;rw[xfs,xcm] at e;exact⟨i+q,xck _ _,xeo b,e⟩
theorem zbor{a:Array Keyed}(h:q<j-i):(a.extract i j).toList[q]?=a[i+q]?:=by
 rw[zca,List.getElem?_take,if_pos h,xfs,xcm]
structure Mg (R:Keyed->Nat) (xs ys:Array Keyed) (lo hi:Nat):Prop where
 perm:ys.Perm xs
 out:Out ys xs lo hi
 up:UpA R ys lo hi
theorem zbak{d:Array Keyed}{b sb ea k nb':Nat}(S:sb<=ea)(t:ea<=d.size)(x:b+k<sb)(l:sb+nb'<=ea)(a5:1<=nb')(I:UpA R d b sb)(H:UpA R d sb ea)
  (e0:d[sb]?=some y0)(el:d[sb-1]?=some xl)(c1:Cut false R y0 d b (sb-b) k)(c2:Cut true R xl d sb (ea-sb) nb')
  (f:Fin R (d.extract (b+k) sb).toList (d.extract sb (sb+nb')).toList m):Mg R d (m.toList.zipIdx.foldl (λa p=>a.setIfInBounds (b+k+p.2) p.1) d) b ea:=by
 have lx:(d.extract (b+k) sb).toList.length=sb-(b+k):=by rw[zca,xcx,xgh,xch];exact xen (xgo (xbb S t) _)
 have ly:(d.extract sb (sb+nb')).toList.length=nb':=by rw[zca,xcx,xgh,xch,xdj];exact xen (xfo (xbb l t))
 have Q:m.size=sb+nb'-(b+k):=by
  have:=f.1.length_eq;rw[xbl,lx,ly,xch] at this;exact this.trans (Nat.sub_add_comm (xcf x)).symm
 have U:b+k+m.size=sb+nb':=by rw[Q];exact xcr (xbb (xcf x) (xck _ _))
 have A:b+k+m.size<=d.size:=by rw[U];exact xbb l t
 have y:=xdv x;have s1:sb-1<sb:=xjb (xll x) Nat.one_pos;have g:∀i,(m.toList.zipIdx.foldl (λa p=>a.setIfInBounds (b+k+p.2) p.1) d)[i]?=if b+k<=i/\i<sb+nb' then m.toList[i-(b+k)]? else d[i]?:=λi=>by
  have:=zus m.toList 0 (b+k) d (by simpa using A) i;simp only[xkt,xch] at this;rw[U] at this;exact this
 have E:∀v∈m.toList,R y0<=R v/\R v<=R xl:=λv hv=>by
  rcases xca.mp (f.1.mem_iff.mp hv) with hv|hv
  ·obtain⟨q,w,J,e⟩:=zjv hv;have q0:=xbb (xck _ _) w;have o:=c1.2.2 (q-b) (xfo w) (xfe q0 J);rw[xcr q0,zdv e] at o;have s:=I q (sb-1) q0 (xdv J) s1;rw[zdv e,zdv el] at s;have Y:R y0<R v:=o;exact⟨xcf Y,s⟩
  ·obtain⟨q,w,J,e⟩:=zjv hv;have o:=H sb q (xbj _) w (xbn J l);rw[zdv e,zdv e0] at o;have s:=c2.2.1 (q-sb) (xek w J);rw[xcr w,zdv e] at s;have a0:R v<R xl:=s;exact⟨o,xcf a0⟩
 have a4:∀i,b<=i->i<b+k->kA R d i<=R y0:=λi r n=>by
  have:=c1.2.1 (i-b) (xek r n);rw[xcr r] at this;exact this
 have C:∀i,sb+nb'<=i->i<ea->R xl<=kA R d i:=λi r n=>by
  have i0:=xbb (xck _ _) r;have:=c2.2.2 (i-sb) (xfo r) (xfe i0 n);rw[xcr i0] at this;exact this
 have kk:∀i,kA R (m.toList.zipIdx.foldl (λa p=>a.setIfInBounds (b+k+p.2) p.1) d) i=if b+k<=i/\i<sb+nb' then kA R m (i-(b+k)) else kA R d i:=λi=>by
  have:=g i;split
  ·rename_i c;rw[if_pos c,xcm] at this;exact zdm this
  ·rename_i c;rw[if_neg c] at this;exact zdm this
 have mm:∀i,i<m.size->∃v,m.toList[i]?=some v/\v∈m.toList:=λi X=>⟨m.toList[i]'(by simpa using X),xbd _,xcy _⟩
 refine⟨?_,λi X=>?_,λi j r n a3=>?_⟩
 ·refine xfu.mpr ?_;rw[zbfr A,U];have split:d.toList=d.toList.take (b+k)++((d.extract (b+k) sb).toList++(d.extract sb (sb+nb')).toList)++d.toList.drop (sb+nb'):=by
   rw[zca,zca];rw[xdj]
   conv=>lhs;rw[←xda (b+k) d.toList,←xda (sb-(b+k)) (d.toList.drop (b+k)),xmv,xcr (xcf x),←xda nb' (d.toList.drop sb),xmv]
   simp only[xcc]
  conv=>rhs;rw[split]
  exact xjg _ (xgw _ f.1)
 ·rw[g i,if_neg λz=>X.elim (λh=>xfi (xbb (xck b k) z.1) h) λh=>xfi h (xbn z.2 l)]
 ·rw[kk,kk];by_cases ci:b+k<=i/\i<sb+nb'
  ·rw[if_pos ci];obtain⟨v,ev,mv⟩:=mm (i-(b+k)) (by rw[Q];exact xfe ci.1 ci.2);rw[zbt ev];by_cases cj:b+k<=j/\j<sb+nb'
   ·rw[if_pos cj];obtain⟨u,P,mu⟩:=mm (j-(b+k)) (by rw[Q];exact xfe cj.1 cj.2);rw[zbt P];exact f.2.at ev P (xgo n _)
   ·rw[if_neg cj];exact xbb (E v mv).2 (C j (xcp λz=>cj ⟨xbb ci.1 n,z⟩) a3)
  ·rw[if_neg ci];by_cases ci2:i<b+k
   ·have o:=a4 i r ci2;by_cases cj:b+k<=j/\j<sb+nb'
    ·rw[if_pos cj];obtain⟨u,P,mu⟩:=mm (j-(b+k)) (by rw[Q];exact xfe cj.1 cj.2);rw[zbt P];exact xbb o (E u mu).1
    ·rw[if_neg cj];by_cases cj2:j<b+k
     ·exact I i j r n (xjo cj2 x)
     ·have s:=C j (xcp λz=>cj ⟨xcp cj2,z⟩) a3;have h3:R y0<=R xl:=by
       have s0:=xbb (xck _ _) y;have h4:=c1.2.2 (sb-1-b) (xfo y) (xfe s0 s1);rw[xcr s0,zdv el] at h4;exact xcf h4
      exact xbb o (xbb h3 s)
   ·have G:sb+nb'<=i:=xcp λz=>ci ⟨xcp ci2,z⟩
    rw[if_neg λz=>xfi (xbb G n) z.2];exact H i j (xbb (xck _ _) G) n a3
section
variable {prog:Program}{w:World}{A:Around}{E:Value->Shared->Prop}{s:Shared}
theorem zbxm{x au:SortSt}{Q:Unit->SortSt->Prop}(h:Q () x):wpS (model prog w) A E s (set x:StateT SortSt Sem PUnit) Q au:=by
 unfold wpS;rw[StateT.run_set];exact xbe ⟨rfl,h⟩
end
section
variable {prog:Program}{w:World}{A:Around}{E:Value->Shared->Prop}{s:Shared}{κ:SortKind}{a₀:Array Keyed}{R:Keyed->Nat}
theorem zyq{i d U pw sb nb a8:Nat}{au:SortSt}{Q:Bool->SortSt->Prop}(O:Orc prog w A s κ a₀ R)(b:B κ a₀ au)(p1:(pendingOf au)[i]?=some (d,U,pw))(p2:(pendingOf au)[i+1]?=some (sb,nb,a8))(j:sb=d+U)(b4:1<=U)(a0:1<=nb)(hz:sb+nb<=a₀.size)
  (t:UpA R (arrOf au) d sb)(r:UpA R (arrOf au) sb (sb+nb))
  (h:∀u,B κ a₀ u->pendingOf u=((pendingOf au).setIfInBounds i (d,U+nb,pw)).eraseIdxIfInBounds (i+1)->Out (arrOf u) (arrOf au) d (sb+nb)->UpA R (arrOf u) d (sb+nb)->Q true u):wpS (model prog w) A E s (mergeAt' i) Q au:=by
 have a5:=b.size;have bs:sb<a₀.size:=xbn (xiv a0) hz;refine xbo (xiy ?_);dsimp only;have H:(sortPriv% PySem.Builtin.SortState.pending) au=pendingOf au:=rfl;rw[H,p1,p2];dsimp only;refine xbo (zbxm ?_);obtain⟨y0,e0,b3⟩:=b.mem (i:=sb) bs;have C:∀q,q<a₀.size->∃x,(arrOf au)[q]?=some x/\x∈a₀.toList:=λq hq=>b.mem hq
 refine xbo (zmc e0 ?_);refine xbo (zfz O b.kind b3 (λq hq=>C (d+q) (xjo (xgy (xex hq d) j.symm) bs)) b4 (by rw[←j];exact t) λk c1=>?_);dsimp only;have hk:=c1.1;have b5:Cut false R y0 (arrOf au) d (sb-d) k:=by rw[show sb-d=U from by rw[j,xdj]];exact c1
 by_cases d1:U-k=0
 ·rw[if_pos (by simpa using d1)];refine xbs (h _ ⟨b.perm,b.kind,b.failed⟩ rfl (Out.refl _ _ _) λp q G o P=>?_);by_cases z1:q<sb
  ·exact t p q G o z1
  ·by_cases z2:p<sb
   ·have h1:=c1.2.1 (p-d) (xbn (xek G (xgy z2 j)) (Nat.le_of_sub_eq_zero d1));rw[xcr G] at h1;have h2:=r sb q (xbj _) (xcp z1) P;rw[zdv e0] at h2;exact xbb h1 h2
   ·exact r p q (xcp z2) o P
 ·rw[if_neg (by simpa using d1)];have l:d+k<sb:=xgy (xex (xgt λz=>d1 (Nat.sub_eq_zero_of_le z)) d) j.symm;have s1:sb-1<sb:=xjb (xll l) Nat.one_pos;obtain⟨xl,el,b2⟩:=C (sb-1) (xjo s1 bs);have b0:(arrOf au)[d+k+(U-k)-1]?=some xl:=by rw[xnl,xcr hk,←j];exact el
  refine xbo (zmc b0 ?_);refine xbo (zfz O b.kind b2 (λq hq=>C (sb+q) (xbn (xex hq sb) hz)) (xjb a0 Nat.one_pos) r λnb' c2=>?_);dsimp only;have b1:=c2.1;have a9:Cut true R xl (arrOf au) sb (sb+nb-sb) nb':=by rw[xdj];exact c2
  by_cases d2:nb'=0
  ·rw[if_pos (by simpa using d2)];refine xbs (h _ ⟨b.perm,b.kind,b.failed⟩ rfl (Out.refl _ _ _) λp q G o P=>?_);subst d2;by_cases z1:q<sb
   ·exact t p q G o z1
   ·by_cases z2:p<sb
    ·have h1:=t p (sb-1) G (xdv z2) s1;rw[zdv el] at h1;have h2:=c2.2.2 (q-sb) (xep _) (xek (xcp z1) P);rw[xcr (xcp z1)] at h2;exact xbb h1 h2
    ·exact r p q (xcp z2) o P
  ·rw[if_neg (by simpa using d2)];have J:1<=nb':=xng d2;have a6:sb<=(arrOf au).size:=by rw[a5];exact xcf bs
   have Y:sb+nb<=(arrOf au).size:=by rw[a5];exact hz
   have v:sb+nb'<=sb+nb:=xct b1 sb;have oa:Ord R ((arrOf au).extract (d+k) sb).toList:=zbcw (λp q G o P=>t p q (xbb (xck _ _) G) o P) a6;have ob:Ord R ((arrOf au).extract sb (sb+nb')).toList:=zbcw (λp q G o P=>r p q G o (xbn P v)) (xbb v Y);have ma:∀x∈((arrOf au).extract (d+k) sb).toList,x∈a₀.toList:=λx n=>by
    obtain⟨q,H,q2,e⟩:=zjv n;obtain⟨x',e',m'⟩:=C q (xjo q2 bs);rw[e] at e';cases e';exact m'
   have mb:∀x∈((arrOf au).extract sb (sb+nb')).toList,x∈a₀.toList:=λx n=>by
    obtain⟨q,H,q2,e⟩:=zjv n;obtain⟨x',e',m'⟩:=C q (xbn q2 (xbb v hz));rw[e] at e';cases e';exact m'
   have sx:((arrOf au).extract (d+k) sb).size=sb-(d+k):=by rw[Array.size_extract,xen a6]
   have sy:((arrOf au).extract sb (sb+nb')).size=nb':=by rw[Array.size_extract,xen (xbb v Y),xdj]
   have a7:∀y,((arrOf au).extract sb (sb+nb')).toList[0]?=some y->∀x∈((arrOf au).extract (d+k) sb).toList,R y<=R x:=λy hy x n=>by
    rw[zbor (by rw[xdj];exact J),xkt,e0] at hy;cases hy;obtain⟨q,H,q2,e⟩:=zjv n;have q0:=xbb (xck _ _) H;have:=c1.2.2 (q-d) (xfo H) (xek q0 (xgy q2 j));rw[xcr q0,zdv e] at this;exact xcf this
   have a4:∀x,((arrOf au).extract (d+k) sb).toList[sb-(d+k)-1]?=some x->∀y∈((arrOf au).extract sb (sb+nb')).toList,R y<=R x:=λx n y hy=>by
    rw[zbor (xjb (xgq l) Nat.one_pos),show d+k+(sb-(d+k)-1)=sb-1 from by rw[←Nat.add_sub_assoc (xgq l),xcr (xcf l)],el] at n;cases n;obtain⟨q,H,q2,e⟩:=zjv hy;have:=c2.2.1 (q-sb) (xek H q2);rw[xcr H,zdv e] at this;exact xcf this
   have S:∀m g,SmG au g\/True->Fin R ((arrOf au).extract (d+k) sb).toList ((arrOf au).extract sb (sb+nb')).toList m->Mg R (arrOf au) (m.toList.zipIdx.foldl (λa p=>a.setIfInBounds (d+k+p.2) p.1) (arrOf au)) d (sb+nb):=λm _ _ f=>
    zbak (xck _ _) Y l v J t r e0 el b5 a9 f
   by_cases d3:U-k<=nb'
   ·rw[if_pos d3];refine xbo (zyo O b.kind ma mb ⟨oa,ob,λx n=>a4 x (by rw[xch,sx] at n;exact n)⟩ (by show 1<=((arrOf au).extract (d+k) sb).size;rw[sx];exact xgq l) (by show 1<=((arrOf au).extract sb (sb+nb')).size;rw[sy];exact J) a7 λm g I f=>?_);have X:=S m g (.inr trivial) f;refine xbo (xhr (xbo (xiy ?_)));have o:arrOf g=arrOf au:=I.arr;have f2:failedOf g=none:=I.failed.trans b.failed;refine xbs (?_:Q ((failedOf g).isNone) (setArr g (m.toList.zipIdx.foldl (λa p=>a.setIfInBounds (d+k+p.2) p.1) (arrOf g))));rw[f2,o];exact h _ ⟨X.perm.trans b.perm,I.kind.trans b.kind,f2⟩ I.pend X.out X.up
   ·rw[if_neg d3];refine xbo (zyp O b.kind ma mb ⟨oa,ob,a7⟩ (by show 1<=((arrOf au).extract (d+k) sb).size;rw[sx];exact xgq l) (by show 1<=((arrOf au).extract sb (sb+nb')).size;rw[sy];exact J) (λx n=>a4 x (by rw[sx] at n;exact n)) λm g I f=>?_);have X:=S m g (.inr trivial) f;refine xbo (xhr (xbo (xiy ?_)));have o:arrOf g=arrOf au:=I.arr;have f2:failedOf g=none:=I.failed.trans b.failed;refine xbs (?_:Q ((failedOf g).isNone) (setArr g (m.toList.zipIdx.foldl (λa p=>a.setIfInBounds (d+k+p.2) p.1) (arrOf g))));rw[f2,o];exact h _ ⟨X.perm.trans b.perm,I.kind.trans b.kind,f2⟩ I.pend X.out X.up
end
def Segs(R:Keyed->Nat) (a:Array Keyed):Nat->List (Nat×Nat×Nat)->Nat->Prop
 |s,[],e=>s=e
 |s,p::r,e=>p.1=s/\1<=p.2.1/\UpA R a s (s+p.2.1)/\Segs R a (s+p.2.1) r e
theorem Segs.le:∀{l:List (Nat×Nat×Nat)}{s e:Nat},Segs R xs s l e->s+l.length<=e
 |[],s,e,h=>by cases h;simp
 |p::r,s,e,h=>by
  have:=Segs.le h.2.2.2;have:=h.2.1;simp;lia
theorem Segs.append:∀{l m:List (Nat×Nat×Nat)}{s e:Nat},Segs R xs s (l++m) e↔∃k,Segs R xs s l k/\Segs R xs k m e
 |[],m,s,e=>⟨λh=>⟨s,rfl,h⟩,λ⟨k,b,a⟩=>by cases b;exact a⟩
 |p::r,m,s,e=>by
  constructor
  ·rintro⟨b,a,f,d⟩;obtain⟨k,g,c⟩:=Segs.append.mp d;exact⟨k,⟨b,a,f,g⟩,c⟩
  ·rintro⟨k,⟨b,a,f,d⟩,c⟩;exact⟨b,a,f,Segs.append.mpr ⟨k,d,c⟩⟩
theorem UpA.same(h:UpA R xs a b)(e:∀i,a<=i->i<b->ys[i]?=xs[i]?):UpA R ys a b:=λi j d f c=>by
 rw[zdm (e i d (xdg f c)),zdm (e j (xbb d f) c)];exact h i j d f c
theorem Segs.same:∀{l:List (Nat×Nat×Nat)}{s e:Nat},Segs R xs s l e->(∀i,s<=i->i<e->ys[i]?=xs[i]?)->Segs R ys s l e
 |[],s,e,h,_=>h
 |p::r,s,e,h,k=>by
  have:=Segs.le h.2.2.2;exact⟨h.1,h.2.1,h.2.2.1.same λi a b=>k i a (xbn b (xbb (xck _ _) this)),Segs.same h.2.2.2 λi a b=>k i (xbb (xck _ _) a) b⟩
theorem Segs.power:∀{l m:List (Nat×Nat×Nat)},l.map (λp=>(p.1,p.2.1))=m.map (λp=>(p.1,p.2.1))->Segs R xs s l e->Segs R xs s m e:=by
 intro l
 induction l generalizing s with
 |nil=>intro m h k;cases m with
  |nil=>exact k
  |cons=>cases h
 |cons p r ih=>intro m h k;cases m with
  |nil=>cases h
  |cons q t=>
   rw[xbq,xbq] at h;obtain⟨g,d⟩:=List.cons.inj h;obtain⟨j,f⟩:=Prod.mk.inj g;obtain⟨i,b,a,c⟩:=k;rw[f] at b a c;exact⟨j.symm.trans i,b,a,ih d c⟩
theorem zbhi{l:List (Nat×Nat×Nat)}(h:i+1<l.length):∃b p q a,l=b++p::q::a/\b.length=i:=by
 refine⟨l.take i,l[i],l[i+1],l.drop (i+2),?_,by rw[xcx];exact xen (xcf (xfx h))⟩
 conv=>lhs;rw[←xda i l,xdc (xfx h),xdc h]
section
variable {prog:Program}{w:World}{A:Around}{E:Value->Shared->Prop}{s:Shared}{κ:SortKind}{a₀:Array Keyed}{R:Keyed->Nat}
theorem w_at{i e:Nat}{au:SortSt}{Q:Bool->SortSt->Prop}(O:Orc prog w A s κ a₀ R)(b:B κ a₀ au)(C:Segs R (arrOf au) 0 (pendingOf au).toList e)(he:e<=a₀.size)(U:i+1<(pendingOf au).size)
  (h:∀a,B κ a₀ a->Segs R (arrOf a) 0 (pendingOf a).toList e->(pendingOf a).size+1=(pendingOf au).size->(∀k,e<=k->(arrOf a)[k]?=(arrOf au)[k]?)->Q true a):wpS (model prog w) A E s (mergeAt' i) Q au:=by
 obtain⟨t,p,q,post,m,f⟩:=zbhi (l:=(pendingOf au).toList) (i:=i) (by simpa using U);obtain⟨d,g,I⟩:=p;obtain⟨sb,nb,o⟩:=q;rw[m] at C;obtain⟨k,J,g2⟩:=Segs.append.mp C;obtain⟨G,u,H,n,x,v,r⟩:=g2;dsimp only at G u H n x v r;subst G;have l7:=Segs.le r;have l1:=Segs.le J;have X:(pendingOf au)[i]?=some (d,g,I):=by rw[←xcm,m,xdi (xdt f),f,xjq];rfl
 have Y:(pendingOf au)[i+1]?=some (sb,nb,o):=by rw[←xcm,m,xdi (xbb (xdt f) (xck i 1)),f,xdj];rfl
 refine zyq O b X Y n u x (by lia) (by rw[n];exact H) (by rw[n];exact v) λa b' pe ou up=>?_
 have y:(pendingOf a).toList=t++(d,g+nb,I)::post:=by
  rw[pe];rw[Array.toList_eraseIdxIfInBounds,Array.toList_setIfInBounds,m];rw[List.set_append_right _ _ (xdt f),f,xjq,List.set_cons_zero,List.eraseIdx_append_of_length_le (xbb (xdt f) (xck i 1)),f,xdj]
  rfl
 have c:∀j,j<d\/sb+nb<=j->(arrOf a)[j]?=(arrOf au)[j]?:=ou
 refine h a b' ?_ ?_ λj hj=>c j (.inr (by lia))
 ·rw[y];refine Segs.append.mpr ⟨d,J.same λj a1 z=>c j (.inl z),rfl,by show 1<=g+nb;lia,?_,?_⟩
  ·show UpA R (arrOf a) d (d+(g+nb));rw[show d+(g+nb)=sb+nb by lia];exact up
  ·show Segs R (arrOf a) (d+(g+nb)) post e;rw[show d+(g+nb)=d+g+nb by lia];exact r.same λj a1 z=>c j (.inr (by lia))
 ·have P:(pendingOf a).size=(pendingOf a).toList.length:=by simp
  have S:(pendingOf au).size=(pendingOf au).toList.length:=by simp
  rw[P,S,y,m];simp only[xbl,xbw];lia
end
theorem zbtw [Decidable c] (d:a+1<n)(e:b+1<n):(if c then a else b)+1<n:=by split<;>assumption
theorem zbdk(h:∀x,g (f x)=g x):∀(l:List (Nat×Nat×Nat)) (i:Nat),(l.modify i f).map g=l.map g
 |[],i=>by simp
 |x::l,0=>by simp[h]
 |x::l,i+1=>by simp[zbdk h l i]
theorem Segs.mod(h:Segs R xs s l e)(i c:Nat):Segs R xs s (l.modify i λx=>(x.1,x.2.1,c)) e:=
 h.power (zbdk (g:=λp=>(p.1,p.2.1)) (f:=λx=>(x.1,x.2.1,c)) (λ_=>rfl) l i).symm
section
variable {prog:Program}{w:World}{A:Around}{E:Value->Shared->Prop}{s:Shared}{κ:SortKind}{a₀:Array Keyed}{R:Keyed->Nat}
theorem zbrn{au:SortSt}{Q:Unit->SortSt->Prop}(O:Orc prog w A s κ a₀ R)(b:B κ a₀ au)(pe:pendingOf au=#[])(h2:2<=a₀.size)
  (h:∀a,B κ a₀ a->UpA R (arrOf a) 0 a₀.size->Q () a):wpS (model prog w) A E s sortRuns' Q au:=by
 have hz:=b.size;rw[sortRuns'_eq];refine xbo (xiy ?_);dsimp only;rw[hz]
 refine xbo (xgl (xej (I:=λx c a=>∃lo,c=(none,lo)/\B κ a₀ a/\Segs R (arrOf a) 0 (pendingOf a).toList lo/\lo<=a₀.size/\x<=lo)
  (Q:=λc a=>c=(none,a₀.size)/\B κ a₀ a/\Segs R (arrOf a) 0 (pendingOf a).toList a₀.size) ?_ ?_ ⟨0,rfl,b,by rw[pe];rfl,by lia,by lia⟩) ?_)
 ·rintro x c P x1 x2 ⟨lo,rfl,J,u,C,hx⟩;dsimp only;by_cases c1:lo ≥ a₀.size
  ·rw[if_pos c1];have:lo=a₀.size:=by lia
   subst this;exact xbs ⟨rfl,J,u⟩
  rw[if_neg c1];refine xbo (zbkt O J (by lia) (by lia) λm g m1 m2 z X Y=>?_);dsimp only;have e:Segs R (arrOf g) 0 (pendingOf g).toList lo:=by
   rw[X.pend];exact u.same λi U S=>X.out i (.inl S)
  by_cases c2:m<minRun' a₀.size a₀.size 0
  ·rw[if_pos c2];refine xbo (xly (xjf ⟨rfl,?_⟩));refine xbo (zbxn O z (by lia) m1 (by lia) Y λk y G o=>?_);have l:Segs R (arrOf k) 0 (pendingOf k).toList lo:=by
    rw[G.pend];exact e.same λi U S=>G.out i (.inl S)
   have q:1<=min (a₀.size-lo) (minRun' a₀.size a₀.size 0):=by lia
   have t:lo+min (a₀.size-lo) (minRun' a₀.size a₀.size 0)<=a₀.size:=by lia
   simp only[Bool.not_true,xdo,xeu];generalize min (a₀.size-lo) (minRun' a₀.size a₀.size 0)=n at o q t G ⊢;refine xbo (xiy ?_);cases hb:(pendingOf k).back? with
   |none=>
    dsimp only;refine xbo (xhr (xbs ⟨lo+n,rfl,⟨y.perm,y.kind,y.failed⟩,?_,t,by lia⟩));show Segs R (arrOf k) 0 ((pendingOf k).push (lo,n,0)).toList (lo+n);rw[xfk];exact Segs.append.mpr ⟨lo,l,rfl,q,o,rfl⟩
   |some p=>
    obtain⟨s1,n1,p1⟩:=p;dsimp only;refine xbo (xgl (xej (I:=λ_ c a=>c=(none,())/\B κ a₀ a/\Segs R (arrOf a) 0 (pendingOf a).toList lo/\UpA R (arrOf a) lo (lo+n)) (Q:=λc a=>c=(none,())/\B κ a₀ a/\Segs R (arrOf a) 0 (pendingOf a).toList lo/\UpA R (arrOf a) lo (lo+n)) ?_ (λ_ _ hh=>hh) ⟨rfl,y,l,o⟩) ?_)
    ·rintro x' c d _ _ ⟨rfl,v,f,j⟩;refine xbo (xiy ?_);by_cases hs:(pendingOf d).size > 1
     ·rw[if_pos hs,getElem?_pos (pendingOf d) ((pendingOf d).size-2) (by lia)];obtain⟨s2,n2,p2⟩:=(pendingOf d)[(pendingOf d).size-2]'(by lia);dsimp only;split
      ·exact xbs ⟨rfl,v,f,j⟩
      ·refine xbo (w_at O v f C (by lia) λa0 b5 H _ k5=>?_);exact xbs ⟨rfl,b5,H,j.same λi U S=>k5 i U⟩
     ·rw[if_neg hs];exact xbs ⟨rfl,v,f,j⟩
    ·rintro c d ⟨rfl,v,f,j⟩;dsimp only;refine xbo (xhr (xbo (xhr (xbs ⟨lo+n,rfl,⟨v.perm,v.kind,v.failed⟩,?_,t,by lia⟩))));refine(?_:Segs R (arrOf d) 0 (((pendingOf d).modify ((pendingOf d).size-1) λx=>(x.1,x.2.1,_)).push (lo,n,0)).toList (lo+n));rw[xfk,Array.toList_modify];exact Segs.append.mpr ⟨lo,f.mod _ _,rfl,q,j,rfl⟩
  ·rw[if_neg c2];have y:=z;have l:=e;have o:=Y;have q:=m1;have t:lo+m<=a₀.size:=by lia
   generalize g=k at y l o ⊢;generalize m=n at o q t ⊢;refine xbo (xiy ?_);cases hb:(pendingOf k).back? with
   |none=>
    dsimp only;refine xbo (xhr (xbs ⟨lo+n,rfl,⟨y.perm,y.kind,y.failed⟩,?_,t,by lia⟩));show Segs R (arrOf k) 0 ((pendingOf k).push (lo,n,0)).toList (lo+n);rw[xfk];exact Segs.append.mpr ⟨lo,l,rfl,q,o,rfl⟩
   |some p=>
    obtain⟨s1,n1,p1⟩:=p;dsimp only;refine xbo (xgl (xej (I:=λ_ c a=>c=(none,())/\B κ a₀ a/\Segs R (arrOf a) 0 (pendingOf a).toList lo/\UpA R (arrOf a) lo (lo+n)) (Q:=λc a=>c=(none,())/\B κ a₀ a/\Segs R (arrOf a) 0 (pendingOf a).toList lo/\UpA R (arrOf a) lo (lo+n)) ?_ (λ_ _ hh=>hh) ⟨rfl,y,l,o⟩) ?_)
    ·rintro x' c d _ _ ⟨rfl,v,f,j⟩;refine xbo (xiy ?_);by_cases hs:(pendingOf d).size > 1
     ·rw[if_pos hs,getElem?_pos (pendingOf d) ((pendingOf d).size-2) (by lia)];obtain⟨s2,n2,p2⟩:=(pendingOf d)[(pendingOf d).size-2]'(by lia);dsimp only;split
      ·exact xbs ⟨rfl,v,f,j⟩
      ·refine xbo (w_at O v f C (by lia) λa0 b5 H _ k5=>?_);exact xbs ⟨rfl,b5,H,j.same λi U S=>k5 i U⟩
     ·rw[if_neg hs];exact xbs ⟨rfl,v,f,j⟩
    ·rintro c d ⟨rfl,v,f,j⟩;dsimp only;refine xbo (xhr (xbo (xhr (xbs ⟨lo+n,rfl,⟨v.perm,v.kind,v.failed⟩,?_,t,by lia⟩))));refine(?_:Segs R (arrOf d) 0 (((pendingOf d).modify ((pendingOf d).size-1) λx=>(x.1,x.2.1,_)).push (lo,n,0)).toList (lo+n));rw[xfk,Array.toList_modify];exact Segs.append.mpr ⟨lo,f.mod _ _,rfl,q,j,rfl⟩
 ·rintro c P ⟨lo,rfl,J,u,C,hx⟩;have:lo=a₀.size:=by lia
  subst this;exact⟨rfl,J,u⟩
 ·rintro c P ⟨rfl,J,u⟩;dsimp only
  refine xbo (xgl (xej (I:=λx c a=>c=(none,())/\B κ a₀ a/\Segs R (arrOf a) 0 (pendingOf a).toList a₀.size/\(pendingOf a).size+x<=a₀.size)
   (Q:=λc a=>c=(none,())/\B κ a₀ a/\Segs R (arrOf a) 0 (pendingOf a).toList a₀.size/\(pendingOf a).size<=1) ?_ ?_ ⟨rfl,J,u,by have:=u.le;simp at this;lia⟩) ?_)
  ·rintro x c g x1 x2 ⟨rfl,z,e,hp⟩;refine xbo (xiy ?_);by_cases c1:(pendingOf g).size<=1
   ·rw[if_pos c1];exact xbs ⟨rfl,z,e,c1⟩
   rw[if_neg c1];refine xbo (w_at O z e (xbj _) ?_ λk y l p3 _=>xbs ⟨rfl,y,l,by lia⟩);exact zbtw (by lia) (by lia)
  ·rintro c g ⟨rfl,z,e,hp⟩;exact⟨rfl,z,e,by lia⟩
  ·rintro c g ⟨rfl,z,e,hp⟩;refine xbs (h g z ?_);cases hl:(pendingOf g).toList with
   |nil=>rw[hl] at e;have:0=a₀.size:=e;lia
   |cons p r=>
    have:r=[]:=by
     have e2:(pendingOf g).size=(pendingOf g).toList.length:=by simp
     rw[e2,hl,xbw] at hp;exact xhj.mp (by lia)
    subst this;rw[hl] at e;obtain⟨_,_,g3,g4⟩:=e;have a3:0+p.2.1=a₀.size:=g4;rw[a3] at g3;exact g3
end
end TS
namespace Srt
open PySem.W PyProof.Rows
theorem zse{α β:Type}(f:α->β):∀{l g:List β},l.Perm g->∀m:List α,g=m.map f->∃p:List α,p.Perm m/\l=p.map f:=by
 intro l g h
 induction h with
 |nil=>exact λm e=>⟨[],by rw[List.map_eq_nil_iff.mp e.symm],rfl⟩
 |cons x _ ih=>
  intro m e;cases m with
  |nil=>cases e
  |cons y m=>
   rw[xbq] at e;injection e with d c
   obtain⟨p,i,j⟩:=ih m c;exact⟨y::p,i.cons y,by rw[xbq,←j,d]⟩
 |swap x y l=>
  intro m e
  match m,e with
  |a::b::m,e=>
   rw[xbq,xbq] at e;injection e with d c
   injection c with c o
   exact⟨b::a::m,.swap _ _ _,by rw[xbq,xbq,d,c,o]⟩
 |trans _ _ ih1 ih2=>
  intro m e;obtain⟨p,i,j⟩:=ih2 m e;obtain⟨q,k,n⟩:=ih1 p j;exact⟨q,k.trans i,n⟩
noncomputable def Coh(r:Nat->Nat) (a:List Value):Prop:=∀i j,i<a.length->j<a.length->a.getD i Value.none=a.getD j Value.none->r i=r j
open Classical in
noncomputable def rankV(r:Nat->Nat) (a:List Value) (x:Keyed):Nat:=if h:∃i,i<a.length/\a.getD i Value.none=x.1 then r h.choose else 0
theorem zoe(a:Coh r xs) (b:i<xs.length)(e:xs.getD i Value.none=x.1):rankV r xs x=r i:=by
 have h:∃i,i<xs.length/\xs.getD i Value.none=x.1:=⟨i,b,e⟩
 unfold rankV;rw[dif_pos h];exact a _ _ h.choose_spec.1 b (h.choose_spec.2.trans e.symm)
theorem ztf(a:List Value):(a.toArray.zip a.toArray).toList=(List.range a.length).map λi=>((a.getD i Value.none,a.getD i Value.none):Keyed):=by
 rw[Array.toList_zip];apply xjv
 ·simp
 ·intro i d b;have c:i<a.length:=by simpa using b
  simp[xbg,c]
theorem zbhh{xs:List Value}(I:2<=xs.length)(d:Coh r xs)
  (q:∀i j C,i<xs.length->j<xs.length->C (lt r i j) sg->kas_ask P w B κ xs i j C sg):
  wpAny (model P w) B ((sortRuns').run (SortSt.mk' κ (xs.toArray.zip xs.toArray) #[] 7 none)) (λy z=>∃p:Array Nat,(p.Perm (List.toArray (List.range xs.length))/\Up r p xs.length)/\(arrOf y.2).map (·.2)=outOf xs p/\failedOf y.2=none/\z=sg) E sg:=by
 have v:(xs.toArray.zip xs.toArray).size=xs.length:=by simp
 have O:TS.Orc P w B sg κ (xs.toArray.zip xs.toArray) (rankV r xs):=λx u y A C H=>by
  rw[ztf] at u A;obtain⟨i,o,rfl⟩:=xbt.mp u;obtain⟨j,g,rfl⟩:=xbt.mp A;rw[xbi] at o g;rw[zoe d o rfl,zoe d g rfl] at H;exact q i j C o g H
 have run:=TS.zbrn (E:=E) (Q:=λ_ y=>∃p:Array Nat,(p.Perm (List.toArray (List.range xs.length))/\Up r p xs.length)/\(arrOf y).map (·.2)=outOf xs p/\failedOf y=none) O (au:=SortSt.mk' κ (xs.toArray.zip xs.toArray) #[] 7 none) ⟨.refl _,rfl,rfl⟩ rfl (by rw[v];exact I) λy b up=>by
  obtain⟨l,s,G⟩:=zse (λi=>((xs.getD i Value.none,xs.getD i Value.none):Keyed)) (xfu.mp b.perm) _ (ztf xs);have S:l.length=xs.length:=by rw[s.length_eq,xgr]
  have m:∀k,(t:k<l.length)->l[k]<xs.length:=λk t=>xbi.mp (s.mem_iff.mp (xcy t))
  have h:∀k,k<xs.length->TS.kA (rankV r xs) (arrOf y) k=At r l.toArray k:=λk t=>by
   have f:k<l.length:=by lia
   have e:(arrOf y)[k]?=some (xs.getD l[k] Value.none,xs.getD l[k] Value.none):=by
    rw[←xcm,G,xco,xbd f]
    rfl
   rw[TS.zdv e,zoe d (m k f) rfl];unfold At;simp[f]
  refine⟨l.toArray,⟨?_,λi j n g=>?_⟩,?_,b.failed⟩
  ·exact xfu.mpr (by simpa using s)
  ·rw[←h i (by lia),←h j g];exact up i j (xep _) n (by rw[v];exact g)
  ·unfold outOf;apply Array.toList_inj.mp;rw[Array.toList_map,G,xcz]
   rfl
 exact xey run (λy z J=>by
  obtain⟨rfl,p,a,b,c⟩:=J
  exact⟨p,a,b,c,rfl⟩) λ_ _ x=>x
theorem zmi{au:Shared}(r:Nat->Nat) {a:List Value}{W:Fin->Shared->Prop}(o:au.heap.get? d=some (seqObj "list" a.toArray k))(b:a.length<=sizeLine)(s:Coh r a)
  (ask:2<=a.length->Answers P w B r a {au with heap:=midHeap au.heap d a})
  (f:∀p:Array Nat,p.Perm (List.toArray (List.range a.length))->Up r p a.length->W (.done (.ret .none)) {au with heap:=sortedHeap au.heap d a (outOf a p)}):
  wpAny (model P w) B (Builtin.«list.sort» ⟨[.ref d],[]⟩) W E au:=by
 obtain⟨c,t⟩:∃ c,(au.heap.update d (Obj.mapSeq λ_=>(#[]:Array Value))).get? d=some (seqObj "list" #[] c):=⟨_,get?_update_seq o λ_=>#[]⟩
 have g:(midHeap au.heap d a).get? d=some (seqObj "list" #[] c):=xbk _ (xbk _ t)
 have e:a.toArray.size=a.length:=xby;rw[list_sort_plain];refine xba (listItems_at o rfl (xba (listUpdate_at o rfl (xba (seqEpoch_at t rfl (xba (wpAny_newTuple (xba (wpAny_newList (xeq ?_) (xep _))) (b))))) (by rw[e];exact b) (xep _))));show wpAny (model P w) B _ W E {au with heap:=midHeap au.heap d a};dsimp only;by_cases two:a.toArray.size<2
 ·rw[if_pos two,if_pos two];rw[e] at two;have v:((arrOf (SortSt.mk' general' (a.toArray.zip a.toArray) #[] 7 none)).map (·.2))=outOf a (List.toArray (List.range a.length)):=zzc two
  refine xba (xbe (by
   rw[StateT.run_pure];refine xba (xbe (xba (seqEpoch_at g rfl (xba (listUpdate_at g rfl ?_ (xep _) ?_)))))
   ·rw[if_neg (by simp)];refine xbe ?_;rw[v];exact f _ (.refl _) λi j C H=>xdt (congrArg (At r _) (by lia))
   ·rw[v];refine xfw (xbb (xdt ?_) (b));unfold outOf
    simp))
 ·rw[if_neg two,if_neg two];rw[e] at two;obtain⟨κ,G,n⟩:=ask (by lia);refine xba (xey (G (λh z=>h=κ/\z={au with heap:=midHeap au.heap d a}) ⟨rfl,rfl⟩) (λh z l=>?_) λ_ _ x=>x.elim);obtain⟨rfl,rfl⟩:=l;have run:=zbhh (E:=E) (r:=r) (xs:=a) (κ:=h) (sg:={au with heap:=midHeap au.heap d a}) (by lia) s n;refine xba (xey run (λA z l=>?_) λ_ _ x=>x);obtain⟨⟨⟩,y⟩:=A;obtain⟨p,q,m,u,rfl⟩:=l;dsimp only at m u ⊢;refine xba (seqEpoch_at g rfl (xba (listUpdate_at g rfl ?_ (xep _) ?_)))
  ·rw[u,if_neg (by simp),m];exact xbe (f p q.1 q.2)
  ·rw[m];refine xfw (xbb (xdt ?_) (b));unfold outOf;rw[xby,xbc,xch,q.1.size_eq];simp
theorem znx{B:Around}{au:Shared}(r:Nat->Nat) {a:List Value}{W:Value->Shared->Prop}(i:au.heap.IsList d a.toArray)(c:a.length<=sizeLine)(k:Coh r a)
  (ask:2<=a.length->∀g:Heap,(∀b ob,au.heap.get? b=some ob->g.get? b=some ob)->Answers P w B.in1.in1 r a {au with heap:=g})
  (h:∀p:Array Nat,p.Perm (List.toArray (List.range a.length))->Up r p a.length->W (.ref (au.heap.objs.size+1)) {au with heap:=sortedAll au.heap a (outOf a p)}):
  wpAny (model P w) B (call (.builtin "sorted") [.ref d]) W E au:=by
 let g0:Heap:=(au.heap.push (seqObj "list" #[] 0)).update au.heap.objs.size (Obj.mapSeq (·++a.toArray))
 have j:g0.objs.size=au.heap.objs.size+1:=(Heap.size_update ..).trans (size_push' _ _);have f:(g0.push (seqObj "list" a.toArray 0)).get? (au.heap.objs.size + 1)=some (seqObj "list" a.toArray 0):=by
  have z:=xci g0 (o:=seqObj "list" a.toArray 0) rfl
  rw[j] at z;exact z
 have l:∀ b ob,au.heap.get? b=some ob->(g0.push (seqObj "list" a.toArray 0)).get? b=some ob:=λb ob e=>by
  have lt:=xcd e;exact xbk _ ((Heap.get?_update_ne _ _ _ _ (xcl lt)).trans (xbk _ e))
 have q:argsOk "sorted" ⟨[.ref d],[]⟩:=args_sorted1 _
 refine Calls.call_function_entry kind_sorted plain_sorted entry_sorted q ?_;unfold Builtin.«sorted»;refine xba (m:=checkCount "sorted" 1 1 _) (xbe (xba (collect_list i (xba (wpAny_newList ?_ (c))) (c))))
 show wpAny _ _ _ _ _ { au with heap:=g0.push (seqObj "list" a.toArray 0) }
 have n:(Value.ref g0.objs.size)=Value.ref (au.heap.objs.size+1):=by rw[j]
 rw[show((au.heap.push (seqObj "list" #[] 0)).update au.heap.objs.size (Obj.mapSeq (·++a.toArray))).objs.size=au.heap.objs.size + 1 from j]
 refine xba (xeq (xer slot_list_sort ⟨_,f,rfl⟩ entry_list_sort (zmi r (au:={ au with heap:=g0.push (seqObj "list" a.toArray 0) }) f c k (λtwo=>?_) λp s t=>⟨_,rfl,xbe ⟨_,rfl,h p s t⟩⟩) (args_list_sort _)))
 exact ask two _ λb ob e=>zju (xcl (xid (xcd e))) (l b ob e)
theorem zjl{B:Around}{au:Shared}{T:String}{It:Nat->Value->Prop}(S:KdlSrc P w T a d n It OK)(G:B.handled=none)(y:OK au.heap)(k:n<=sizeLine){W:Value->Shared->Prop}
  (ask:∀o:List Value,o.length=n->(∀(j:Nat) (v:Value),o[j]?=some v->It j v)->∃r:Nat->Nat,Coh r o/\(2<=n->∀(g:Heap) (i:Nat),(∀b ob,au.heap.get? b=some ob->g.get? b=some ob)->Answers P w B.in1.in1 r o {au with heap:=g,toks:=i}) /\
   ∀(p:Array Nat) (q:Addr) (g:Heap) (i c:Nat),p.Perm (List.toArray (List.range o.length))->Up r p o.length->(∀ b ob,au.heap.get? b=some ob->g.get? b=some ob)->(∀ b ob,au.heap.get? b=some ob->b≠q)->g.get? q=some (seqObj "list" (outOf o p) c)->W (.ref q) { au with heap:=g,toks:=i }):
  wpAny (model P w) B (call (.builtin "sorted") [.ref a]) W E au:=by
 have z:argsOk "sorted" ⟨[.ref a],[]⟩:=args_sorted1 _
 refine Calls.call_function_entry kind_sorted plain_sorted entry_sorted z ?_;unfold Builtin.«sorted»;refine xba (m:=checkCount "sorted" 1 1 _) (xbe (xba (kdu_collect (A:=B.in1) S G y (k) λg i acc h f=>?_)))
 have s:acc.toList.length=n:=by rw[xch];exact f.1
 obtain⟨r,x,C,u⟩:=ask acc.toList s (λj v e=>f.2 j v (by rw[←xcm];exact e));refine xba (wpAny_newList ?_ (by rw[s];exact k));have l:(g.push (seqObj "list" acc.toList.toArray 0)).get? g.objs.size=some (seqObj "list" acc.toList.toArray 0):=xci g rfl
 have t:∀ b ob,au.heap.get? b=some ob->(g.push (seqObj "list" acc.toList.toArray 0)).get? b=some ob:=λb ob e=>xbk _ (h b ob e)
 have lt:∀b ob,au.heap.get? b=some ob->b≠g.objs.size:=λb ob e=>xcl (xcd (h b ob e))
 show wpAny _ _ _ _ _ { au with heap:=g.push (seqObj "list" acc.toList.toArray 0),toks:=i }
 refine xba (xeq (xer slot_list_sort ⟨_,l,rfl⟩ entry_list_sort (zmi r (au:={ au with heap:=g.push (seqObj "list" acc.toList.toArray 0),toks:=i }) l (by rw[s]; exact k) x (λtwo=>?_) λp H I=>⟨_,rfl,xbe ⟨_,rfl,?_⟩⟩) (args_list_sort _)))
 ·exact C (by lia) _ i λb ob e=>zju (lt b ob e) (t b ob e)
 ·obtain⟨c,J⟩:=sortedHeap_at (n:=0) (vs:=acc.toList) (out:=outOf acc.toList p) l;refine u p g.objs.size _ i c H I (λb ob e=>?_) ?_ J
  ·rw[sortedHeap_old (lt b ob e) (xcd (t b ob e))];exact t b ob e
  ·exact lt
end Srt
namespace L2
open Spec PyProof.Rows PySem.W
theorem small10000(h:n<=1000000):n<=sizeLine:=xbb h (by rw[xha];lia)
theorem zjz:∀{c:List Value}{a b:List Int},IntsAre c a->IntsAre c b->a=b
 |_,_,_,.nil,.nil=>rfl
 |_,_,_,.cons x t r,.cons _ _ r'=>by rw[zjz r r']
theorem zxb(a:TupsG g ps):Srt.Coh (Srt.rank (ps.map (·.2))) (ps.map λp=>Value.ref p.1):=λi j f k e=>by
 rw[xbc] at f k;have m:ps[i]?=some ps[i]:=xbd f;have l:ps[j]?=some ps[j]:=xbd k;rw[zm (λp:Addr×List Int=>Value.ref p.1) _ m,zm (λp:Addr×List Int=>Value.ref p.1) _ l] at e;injection e with e
 obtain⟨us,o,n,u,c,x,b⟩:=a _ (xcy f);obtain⟨h,v,y,q,t,w,r⟩:=a _ (xcy k);rw[e,t] at c;injection c with c
 subst c;rw[r] at b;injection b with b _
 have s:h=us:=by simpa using b
 subst s;have d:=zjz u q;unfold Srt.rank;rw[zm (λp:Addr×List Int=>p.2) _ m,zm (λp:Addr×List Int=>p.2) _ l,d]
def rSortedAL(K:Fg):List V->Hp->VK->Prop:=λe H Q=>∃(l:Addr) (c:List (Addr×List Int)),e=[.ref l]/\SqL K H l (c.map λp=>V.ref p.1)/\c.length<=1000000/\TupsAt K H c /\
 ∀(q:Addr) (d:List (Addr×List Int)),H q=none->d.Perm c->(d.map (·.2)).Pairwise (λa b=>HT.lexLt b a=false)->Q (.ref q) (upd H q (.lst (d.map λp=>V.ref p.1)))
def rSortedDAL:List V->Hp->VK->Prop:=λf H Q=>∃(a:Addr) (b:List (List Key×V)) (d:List (List Int)),f=[.ref a]/\Rd H a (.dT b)/\b.map (·.1)=d.map (λe=>e.map Sum.inl)/\d.length<=1000000 /\
 ∀(q:Addr) (c:List (Addr×List Int)),H q=none->(c.map (·.2)).Perm d->(c.map (·.2)).Pairwise (λx y=>HT.lexLt y x=false)->(∀p∈c,H p.1=some (.tup (p.2.map V.int)))->Q (.ref q) (upd H q (.lst (c.map λp=>V.ref p.1)))
theorem znj{X:Cx}(hu:X.A.units + 64<cLine):CallR X (.builtin "sorted") (rSortedAL X.K):=by
 intro aU s σ H xs y Q I r h;obtain⟨l,ps,rfl,J,i,U,q⟩:=h;obtain⟨u,rfl,E⟩:=vals1 r;cases E;obtain⟨j,C,G,hz⟩:=I.list J;have d:j=ps.map λp=>Value.ref p.1:=by
  have e:(ps.map λp=>V.ref p.1)=(ps.map (·.1)).map V.ref:=by rw[xcz];rfl
  rw[e] at C;rw[zpp C,xcz]
  rfl
 subst d;have f:∀g:Heap,(∀b o,s.heap.get? b=some o->g.get? b=some o)->TupsG g ps:=λg c p Y=>by
  obtain⟨y,k,⟨o,b2,P,n,b4⟩,_⟩:=I.tuple (U p Y);exact⟨y,o,n,zee k,c _ _ b2,P,b4⟩
 refine Srt.znx (Srt.rank (ps.map (·.2))) G.isList (by rw[xbc];exact small10000 i) (zxb (f s.heap λ_ _ z=>z)) (λm g c=>zbej (by show X.A.units+1+1<cLine;lia) (by rw[xbc] at m;exact m) (f g c)) (λp w x=>?_);rw[xbc] at w x;obtain⟨A,t,q2,S⟩:=zuy w x;obtain⟨e,v⟩:=sortedAll_at s.heap (ps.map λp=>Value.ref p.1) (Srt.outOf (ps.map λp=>Value.ref p.1) p);rw[S] at v ⊢;refine⟨.ref (s.heap.objs.size+1),_,I.laid (a:=s.heap.objs.size+1) (o:=.lst (A.map λp=>V.ref p.1)) (t':=s.toks) (λ_ _ z=>sortedAll_old z) (xlt _) ⟨?_,_,e,zhu A,v⟩,rfl,q _ _ (I.hok.fresh (xlt _)) t q2⟩;rw[xbc,t.length_eq];exact small10000 (by lia)
theorem zlu{X:Cx}(hc:X.calm=true)(hu:X.A.units + 64<cLine):CallR X (.builtin "sorted") rSortedDAL:=by
 intro aU s σ H xs U Q I r h;obtain⟨a,x,ks,rfl,hd,ek,a5,q⟩:=h;obtain⟨u,rfl,ru⟩:=vals1 r;cases ru;obtain⟨z,ns,ys,l,ob,j,ep,e1,e2,e3,e4,e5⟩:=(show ObjOk X.prog X.w H s.heap a (.dT x) from hd.ok I.hok)
 obtain⟨ps,a1,S,a3⟩:=znf (P:=X.prog) (w:=X.w) l ek;have a0:ps.length=ks.length:=by rw[←a1,xbc]
 have e:j.toList.map (·.key)=ps.map λp=>Value.ref p.1:=by rw[e4,xcz];exact a3
 have a4:j.size=ps.length:=by
  have:=congrArg List.length e;rw[xbc,xbc,xch] at this;exact this
 have f:∀g:Heap,(∀b o,s.heap.get? b=some o->g.get? b=some o)->TupsG g ps:=λg d p A=>by
  obtain⟨U,rv,⟨o,b2,b3,n,b4⟩,_⟩:=I.tuple (SqT.of (S p A));exact⟨U,o,n,zee rv,d _ _ b2,b3,b4⟩
 refine Srt.zjl (Dct.zblp ns j ep) (I.ok.hd hc) ⟨ob,e1,e2,e3⟩ (small10000 (by lia)) λy hl hv=>?_
 have m:y=ps.map λp=>Value.ref p.1:=by
  rw[←e];apply xic;intro i;by_cases hi:i<j.size
  ·have Y:y[i]?=some y[i]:=xbd (by lia);obtain⟨en,C,h3⟩:=hv i _ Y;rw[Y,h3,xco,xcm,C]
   rfl
  ·rw[xez (by lia),xez (by rw[xbc,xch];lia)]
 subst m;refine⟨Srt.rank (ps.map (·.2)),zxb (f s.heap λ_ _ z=>z),λC g tk d=>zbej (by show X.A.units+1+1<cLine;lia) (by lia) (f g d),λp t g tk c G J d E eg=>?_⟩;rw[xbc] at G J;obtain⟨v,k,q2,q3⟩:=zuy G J;rw[q3] at eg;refine⟨.ref t,_,I.laidN (o:=.lst (v.map λp=>V.ref p.1)) d E ⟨?_,_,c,zhu v,eg⟩,rfl,q t v (I.away E) ((k.map _).trans (by rw[a1])) q2 λp A=>S p (k.mem_iff.mp A)⟩;rw[xbc,k.length_eq];exact small10000 (by lia)
end L2
namespace L2
open Spec PyProof.Rows
theorem zir{κ β:Type}[DecidableEq κ]{k:κ}:∀{a:List (κ×β)}{j:Nat}{p:β},(a.map (·.1)).Nodup->a[j]?=some (k,p)->a.eraseIdx j=a.filter λx=>decide (x.1≠k)
 |[],_,_,_,e=>by simp at e
 |x::r,0,p,nd,e=>by
  simp at e;subst e;rw[xbq,xdf] at nd;rw[List.eraseIdx_cons_zero,xcq (by simp)]
  symm
  rw[xmq];intro y d;refine xbp λz=>nd.1 ?_
  rw[←z];exact xbt.mpr ⟨y,d,rfl⟩
 |x::r,j+1,p,nd,e=>by
  rw[xbq,xdf] at nd;have b:r[j]?=some (k,p):=by simpa using e
  have c:x.1≠k:=λz=>nd.1 (by rw[z];exact xbt.mpr ⟨_,xbu b,rfl⟩)
  rw[xlg,xcn (by simpa using c),zir nd.2 b]
theorem zrc{α β:Type}(f:α->β):∀(l:List α) (j:Nat),(l.map f).eraseIdx j=(l.eraseIdx j).map f
 |[],_=>rfl
 |_::_,0=>rfl
 |x::l,j+1=>by rw[xbq,xlg,xlg,xbq,zrc f l j]
section
variable {κ:Type}[DecidableEq κ]
section
variable {prog:Program}{w:World}{knd:HeapKind prog w κ}{A:Around}{E:Value->Shared->Prop}{s:Shared}{d:Addr}{a:Addr}{k:κ}{xs:List (κ×Addr×Value)}{p:Addr×Value}
theorem zyw{W:Option DictEntry->Shared->Prop}(y:knd.room A)(b:knd.is s.heap k a)(P:s.heap.DictOfH knd d xs)(v:atKey xs k=some p)(J:xs.length<=sizeLine)
  (u:∀e r,e.val=p.2->r.DictOfH knd d (xs.filter λx=>decide (x.1≠k))->Heap.SameBut d s.heap r->W (some e) {s with heap:=r,toks:=s.toks+knd.draws k}):
  wpAny (model prog w) A (Builtin.Dict.takeOut d (.ref a)) W E s:=by
 obtain⟨o,C,G,f,Q,c,h,g,i⟩:=P;unfold Builtin.Dict.takeOut;refine xeq ?_;refine xba (knd.pyHash y b ?_);refine xba (wpAny_dictFind_heap (s:={s with toks:=s.toks+knd.draws k}) y b f c h g i (λz=>?_) λj q t=>?_)
 ·rw[atKey_none_of_get z] at v;cases v
 ·have I:q=p:=by
   have z:=atKey_of_get i t;rw[v] at z;exact(xde z).symm
  subst I;refine xba (xjm (s:={s with toks:=s.toks+knd.draws k}) f c ?_);rw[entry_at h j,t];have m:C.size<=sizeLine:=by have:=size_of_entries h;lia
  refine xba (wpAny_updateDictKeys (hz:=m) (s:={s with toks:=s.toks+knd.draws k}) f c (xbe (u _ _ rfl ⟨_,_,G+1,xfn _ f (Obj.isFreed_of_dict (Obj.data_mapDictKeys c _)),Q.mapDictKeys _,Obj.data_mapDictKeys c _,?_,λx H=>?_,?_⟩ (xew ..))))
  ·rw[←zir i t];obtain⟨l⟩:=C;have n:l=xs.map (entryOfKey knd):=h;subst n;simp[zrc]
  ·exact knd.keeps (g x (xcj.mp H).1) f c (xew ..)
  ·exact List.Sublist.nodup (List.Sublist.map (λx:κ×Addr×Value=>x.1) xis) i
end
theorem zbfx{b:HeapKind prog w κ}{A:Around}{s:Shared}{W:Value->Shared->Prop}(t:b.room A.in1)(f:b.is s.heap k a)(h:s.heap.DictOfH b d xs)(m:atKey xs k=some p)(i:xs.length<=sizeLine)
  (l:∀c,c.DictOfH b d (xs.filter λx=>decide (x.1≠k))->Heap.SameBut d s.heap c->W p.2 {s with heap:=c,toks:=s.toks+b.draws k}):
  wpAny (model prog w) A (call (.builtin "dict.pop") [.ref d,.ref a]) W E s:=by
 have M:MeetsIn prog w (Builtin.«dict.pop» ⟨[.ref d,.ref a],[]⟩) (λB R g=>B=A/\g=s/\∀c,c.DictOfH b d (xs.filter λx=>decide (x.1≠k))->Heap.SameBut d s.heap c->R (.ok (.ret p.2)) {s with heap:=c,toks:=s.toks+b.draws k}):=
  .of_wp λB R g j=>by
   obtain⟨y,J,q⟩:=j;subst y J;unfold Builtin.«dict.pop» Builtin.Dict.keyAndDefault;refine xba (xba (wpAny_notOrdered_dict h.typeIs (xbe ?_)));obtain⟨o,C,U,G,X,Q,u,H,S⟩:=id h;have n:C.isEmpty=false:=by
    have:=size_of_entries u;cases xs with
    |nil=>cases m
    |cons x r=>
     rw[xbw] at this;rw[Array.isEmpty_eq_false_iff];intro z;rw[z] at this;simp at this
   simp only[keyPart,Option.isSome_none,xdo,xeu];refine xba (xjm G Q (xba (xbe ?_)));rw[n];simp only[xdo,xeu];refine xba (zyw t f h m i λe c v I P=>?_);simp only[Option.isNone_some,xdo,xeu];exact xba (wpAny_letGo (xbe ⟨e.val,rfl,by rw[v];exact q c I P⟩))
 exact xmo xjp h.typeIs F.entry_dict_pop (F.args_dict_pop_2 _ _) M ⟨rfl,rfl,l⟩
end
theorem KT.drop(r:KT H kvs xs)(k:List Key):KT H (dropK kvs k) (xs.filter λx=>decide (x.1≠k)):=by
 unfold dropK
 induction r with
 |nil=>exact .nil
 |@cons p q ps qs h t ih=>
  by_cases e:p.1=k
  ·rw[xcq (by simp[e]),xcq (by simp[←h.1,e])];exact ih
  ·rw[xcn (by simp[e]),xcn (by simp[←h.1,e])];exact .cons h ih
theorem zbvg{X:Cx}{k:List Key}(w:X.A.units+1<cLine)(I:Inv X aU σ H s)(e:H a=some (.dT kvs))(x:H b=some (.tup (k.map kV)))(l:valV kvs k=some v)
  (h:∀ w' r,Inv X aU σ (upd H a (.dT (dropK kvs k))) r->RelV v w'->Q w' r):wpAny (model X.prog X.w) X.A (call (.builtin "dict.pop") [.ref a,.ref b]) Q E s:=by
 obtain⟨z,U,m,d,J⟩:=zbxd I.hok e;obtain⟨w',f,g⟩:=RelO.some_of (v:=v) (o:=(atKey m k).map (·.2)) (by rw[←l];exact d.val k);cases hp:atKey m k with
 |none=>rw[hp] at f;cases f
 |some p=>
  rw[hp] at f;have i:p.2=w':=xde f;subst i;refine zbfx (xje w) (zsx I.hok x) J hp (by rw[←xiw d];exact z) λY j P=>h _ _ ?_ g
  obtain⟨q,G,C,n,u,S,y,_,A⟩:=j;refine znd I (by rw[e];exact True.intro) P ⟨q,n⟩ ⟨xbb (xge _ _) z,U,_,(d.drop k).keeps λc ys t=>?_,q,G,C,n,u,S,y,A⟩;rw[zu (zbwx t e (λz=>nomatch z))];exact t
def tDPopT(e d:TE):TE:=λσ H Q=>e σ H λx H1=>∃a,x=.ref a/\IsD H1 a/\d σ H1 λy H2=>∃c k v b,H2 a=some (.dT c)/\y=.ref b/\H2 b=some (.tup (k.map kV))/\valV c k=some v/\Q v (upd H2 a (.dT (dropK c k)))
theorem zbgd{X:Cx}(p:X.A.units + 1<cLine)(A:PE X o td)(r:PE X e ty)(m:M1 X o "pop" apos e cpos):PE X (.Call (.Attribute o "pop" apos) [e] [] cpos) (tDPopT td ty):=by
 intro g s σ H Q I h;refine wpAny_Call_method m.base m.few m.line xit xjp F.type_dict_pop (thn (A g s σ H _ I h) λu G f=>?_);obtain⟨x,H1,i,U,a,P,d,n⟩:=f;subst P;obtain rfl:u=Value.ref a:=U;obtain⟨C,S,_⟩:=zboi i d;refine⟨C,S,?_⟩;rw[m.trees];refine xlr rfl (xmd (xiz (thn (r g G σ H1 _ i n) λz s2 ⟨y,H2,Y,w,J,k,v,b,E,t,q,l,q2⟩=>xli ?_)));subst t;cases(show z=Value.ref b from w);exact zbvg p Y E q l λw' s3 j c=>⟨v,_,j,c,q2⟩
def rCatA(K:Fg):R2:=λx y H Q=>∃a b c d,x=.ref a/\y=.ref b/\SqT K H a c/\SqT K H b d/\c.length+d.length<=sizeLine /\
 (c=[]->Q (.ref b) H)/\(c≠[]->d=[]->Q (.ref a) H)/\(c≠[]->d≠[]->∀p,H p=none->Q (.ref p) (upd H p (.tup (c++d))))
theorem zbmx:OpR X (binaryOp .Add) (rCatA X.K):=by
 intro S s σ H x y v u Q I t q h;obtain⟨a,b,m,ys,rfl,rfl,p,C,U,Y,E,q2⟩:=h;by_cases hx:m=[]
 ·cases t;cases q;obtain⟨d,r1,J,_⟩:=I.tuple p;obtain⟨f,r2,P,_⟩:=I.tuple C;obtain⟨⟨a0,dd,l,sl⟩,r,w,n,A⟩:=id J;obtain⟨⟨o,j,data2,k⟩,i,c,G,g⟩:=id P;simp only at w A c g;subst w A c g;have e:d=[]:=r1.nil_iff.mpr hx;exact concat_meets ⟨_,r,rfl⟩ ⟨_,i,rfl⟩ noFill_tuple_add seq_tuple_add xlq xlc (xkr _ _)
   (tuple_addW0 a b d.toArray f.toArray n G dd j sl k (by simp[e])) ⟨r,i,⟨.ref b,H,I,rfl,Y hx⟩⟩
 ·exact zbmw S s σ H _ _ v u Q I t q ⟨a,b,m,ys,rfl,rfl,p,C,hx,U,λz=>E hx z,λz=>q2 hx z⟩
theorem zbbn{s:Shared}{lo b:Option Int}{W:Value->Shared->Prop}(a:IsTup s.heap t its)(h:s.heap.IsSliceOf sl vl vu .none)(m:IsPart vl lo)(k:IsPart vu b)
  (i:HT.sIx its.size 0 lo=0)(l:HT.sIx its.size its.size b=its.size)(c:W (.ref t) s):wpAny (model prog w) A (getItem (.ref t) (.ref sl)) W E s:=by
 obtain⟨os,e,g,j⟩:=id h;unfold getItem
 try with_reducible refine xeq ?_
 first|refine xba (xbe ?_)|skip
 refine xba (xny a.typeIs (by decide) ?_);refine xba (wpAny_callSpecial?_slot (name:=Str.ofString "__getitem__") a.typeIs xla (xer xla a.typeIs entry_tuple_getitem ?_ (args_tuple_getitem _ _)))
 show wpAny _ _ (Builtin.Tuple.tupleItemsOf (.ref t) >>= _) _ _ s;refine xba (tupleItemsOf_ a ?_);have f:s.TypeIs (.ref sl) "slice":=⟨os,e,g⟩
 refine xba (xmn f ?_);rw[if_pos (by decide)];refine xba (HT.zdz h m k ?_);have d:(((HT.sIx its.size 0 lo:Nat):Int)==0&&(1:Int)==1&&(HT.sIx its.size its.size b-HT.sIx its.size 0 lo)==its.size)=true:=by
  rw[i,l];simp
 show wpAny _ _ (if(((HT.sIx its.size 0 lo:Nat):Int)==0&&(1:Int)==1&&(HT.sIx its.size its.size b-HT.sIx its.size 0 lo)==its.size)=true then _ else _) _ _ s;rw[if_pos d];refine xba (?_:wpAny _ _ (Builtin.Tuple.tupleIsExact (.ref t)) _ _ s);unfold Builtin.Tuple.tupleIsExact;refine xba (xmn a.typeIs (xbe ?_));rw[if_pos (by decide)];exact xba (xjf (xbe ⟨_,rfl,xbe c⟩))
def rSlA(K:Fg):V->Option Int->Option Int->Hp->VK->Prop:=λx lo c H Q=>∃a b,x=.ref a/\SqT K H a b/\(cutV b lo c=b->Q (.ref a) H)/\∀p,H p=none->Q (.ref p) (upd H p (.tup (cutV b lo c)))
theorem zblh:SlR X (rSlA X.K):=by
 intro o s σ H x v q m lo i n Q I l g k j h;obtain⟨a,c,rfl,e,p,t⟩:=h;by_cases hw:HT.sIx c.length 0 lo=0/\HT.sIx c.length c.length i=c.length
 ·cases l;obtain⟨d,r,f,u⟩:=I.tuple e;have b:d.toArray.size=c.length:=by rw[xby];exact r.length.symm
  refine⟨"tuple",_,xla.lookup,f.typeIs,?_⟩
  refine zbbn f g k j (by rw[b];exact hw.1) (by rw[b];exact hw.2) ⟨.ref a,H,I,rfl,p ?_⟩;unfold cutV;rw[hw.1,hw.2];simp
 ·exact zbry o s σ H _ v q m lo i n Q I l g k j ⟨a,c,rfl,e,hw,t⟩
theorem zjp(a:List Int):∀k,k<=a.length->preSum (λi=>a.getD i 0) k=(a.take k).sum
 |0,_=>rfl
 |k+1,h=>by
  show preSum (λi=>a.getD i 0) k+a.getD k 0=_;rw[zjp a k (by lia),xik (by lia),xdq,xbg,xbd (by lia)];simp
theorem zwh:∀{a:List Int}{b:List Value}{i:Nat}{v:Value},Vals (a.map V.int) b->b[i]?=some v->∃t,v=.int (a.getD i 0) t
 |[],_,_,_,.nil,e=>by simp at e
 |n::a,_,0,_,.cons r _,e=>by
  simp at e;subst e
  obtain⟨t,rfl⟩:=r;exact⟨t,rfl⟩
 |n::a,_,i+1,v,.cons _ t,e=>by
  have:=zwh (i:=i) t (by simpa using e)
  simpa using this
def rSum(K:Fg):List V->Hp->VK->Prop:=λc H Q=>∃(a:Addr) (b:List Int),c=[.ref a]/\(SqL K H a (b.map V.int)\/SqT K H a (b.map V.int))/\Q (.int b.sum) H
theorem zlt{X:Cx}(hc:X.calm=true):CallR X (.builtin "sum") (rSum X.K):=by
 intro aU s σ H xs us Q I r h;obtain⟨a,ns,rfl,hs,q⟩:=h;obtain⟨u,rfl,ru⟩:=vals1 r;cases ru;have key:∀{its:List Value}(h':Heap) (tk:Nat) (t':Tok) (nn:Nat),nn=ns.length->(∀b o,b≠s.heap.objs.size->s.heap.get? b=some o->h'.get? b=some o) ->
   EP X aU σ Q (.int (preSum (λi=>ns.getD i 0) nn) t') {s with heap:=h',toks:=tk}:=λh' tk t' nn hn hk=>by
  subst hn;rw[zjp ns _ (xbj _),xce];exact⟨.int ns.sum,H,I.kept (t':=tk) λb o e=>hk b o (xcl (xcd e)) e,⟨_,rfl⟩,q⟩
 refine call_sum_walkG ?_;rcases hs with hs|hs
 ·obtain⟨its,rv,pl,hz⟩:=I.list hs;have hlt:a<s.heap.objs.size:=by obtain⟨o,n,e,_⟩:=pl;exact xcd e
  have hl:=rv.length;rw[xbc] at hl;refine xlo pl.isList ?_;refine⟨s.heap.objs.size,_,[s.heap.objs.size],_,_,_,λi=>ns.getD i 0,rfl,Walks.list (A:=X.A.in1) (I.ok.hd hc) _ a (xcl hlt) its.toArray,⟨⟨_,xci _ rfl,rfl,rfl⟩,pl.isList.push _⟩,?_,λi v e=>zwh rv (by simpa using e),λh' tk t' hk=>?_⟩
  ·intro b hb;show b<(s.heap.push _).objs.size;rw[show ∀o:Obj,(s.heap.push o).objs.size=s.heap.objs.size+1 from λo=>by simp[Heap.push]];rcases xbm.mp hb with rfl|hb
   ·exact xka _
   ·rcases xbm.mp hb with rfl|hb
    ·exact xid hlt
    ·cases hb
  ·exact key (its:=its) h' tk t' _ (by simp[hl]) λb o hb e=>hk b o (by simpa using hb) (xbk _ e)
 ·obtain⟨its,rv,pl,hz⟩:=I.tuple hs;have hlt:a<s.heap.objs.size:=pl.lt;have hl:=rv.length;rw[xbc] at hl;have pt:s.heap.IsTuple a its.toArray:=pl;refine xky pt ?_;refine⟨s.heap.objs.size,_,[s.heap.objs.size],_,_,_,λi=>ns.getD i 0,rfl,Walks.tuple (A:=X.A.in1) (I.ok.hd hc) _ a (xcl hlt) its.toArray,⟨⟨_,xci _ rfl,rfl,rfl⟩,pt.push _⟩,?_,λi v e=>zwh rv (by simpa using e),λh' tk t' hk=>?_⟩
  ·intro b hb;show b<(s.heap.push _).objs.size;rw[show ∀o:Obj,(s.heap.push o).objs.size=s.heap.objs.size+1 from λo=>by simp[Heap.push]];rcases xbm.mp hb with rfl|hb
   ·exact xka _
   ·rcases xbm.mp hb with rfl|hb
    ·exact xid hlt
    ·cases hb
  ·exact key (its:=its) h' tk t' _ (by simp[hl]) λb o hb e=>hk b o (by simpa using hb) (xbk _ e)
theorem zod{A:Around}{s:Shared}(l:A.handled=none)(g:s.heap.IsTupleIter it t i)(h:s.heap.IsTuple t items)
  (j:∀x,items[i]?=some x->∀a,a.IsTupleIter it t (i+1)->Heap.SameBut it s.heap a->Q x {s with heap:=a})
  (r:items[i]?=none->∀ a e,Heap.ExtBut it s.heap a->(∃ o,a.get? e=some o/\o.cls=.type "StopIteration")->E (.ref e) { s with heap:=a }):wpAny (model prog w) A (Builtin.SmallTypes.nextOf (.ref it)) Q E s:=by
 rcases g with⟨o,b,d,c⟩
 rcases h with⟨u,k,_,n,m⟩
 refine xba (wpAny_callSpecial?_slot (name:=Str.ofString "__next__") ⟨o,b,d⟩ F.slot_tuple_iterator_next (xer F.slot_tuple_iterator_next ⟨o,b,d⟩ F.entry_tuple_iterator_next ?_ (F.args_tuple_iterator_next_1 _)))
 have p:(#[Value.ref t,.int i 0]:Array Value)[0]?=some (.ref t):=rfl;have q:(#[Value.ref t,.int i 0]:Array Value)[1]?=some (.int i 0):=rfl
 wp_walk using xji b c p,xji b c q,wpAny_seqItems k m
 rw[xeh];cases hx:items[i]? with
 |some x=>
  exact xba (xih b c (by simp) (xbe ⟨x,rfl,xbe (j x hx _ ⟨_,xfn _ b (xhy (xgv c _)),(xlk ..).trans d,by rw[xgv c];simp[rawInt]⟩ (.update ..))⟩))
 |none=>
  have f:A.in1.handled=none:=l
  wp_walk using xih b c (by simp)
  unfold raiseNew;refine xba (wpAny_handled ?_);rw[f];exact xba (xbe (wpAny_throw (r hx _ _ ((xew ..).extBut.push _ |>.push _) ⟨_,xci _ rfl,rfl⟩)))
theorem draws1{A:Around}(n:A.handled=none)(g t:Addr)(l:t≠g)(c:Array Value):
  Draws prog w A g [g,t] (c.size+1) (λj v=>∃i,j=i+1/\c[i]?=some v) (λj h=>∃i,j=i+1/\h.IsTupleIter g t i/\h.IsTuple t c) where
 live:=λ_ _ ⟨_,_,⟨o,u,_⟩,_⟩=>⟨o,u⟩
 frame:=λ_ _ _ ⟨i,e,a,b⟩ p=>⟨i,e,a.at λo e=>p g (by simp) o e,b.at λo e=>p t (by simp) o e⟩
 item:=λj s Q E C m q=>by
  obtain⟨i,e,a,b⟩:=m;have G:i<c.size:=by lia
  refine zod n a b (λx k r f d=>?_) λz=>absurd z (by simp;lia)
  exact q _ r s.toks ⟨i,e,k⟩ ⟨i+1,by lia,f,b.extBut d.extBut l⟩ d
 done:=λs Q E ⟨i,e,a,b⟩ y=>zod n a b (λx k=>absurd k (by rw[xhp (by lia)];simp)) λ_=>y
theorem draws0{A:Around}(k:A.handled=none)(d t:Addr)(c:Array Value)(i:Nat)(l:c.size<=i):
  Draws prog w A d [d,t] (i+1) (λ_ _=>False) (λj h=>j=i+1/\h.IsTupleIter d t i/\h.IsTuple t c) where
 live:=λ_ _ ⟨_,⟨o,m,_⟩,_⟩=>⟨o,m⟩
 frame:=λ_ _ _ ⟨e,a,b⟩ f=>⟨e,a.at λo e=>f d (by simp) o e,b.at λo e=>f t (by simp) o e⟩
 item:=λj s Q E p ⟨e,_⟩ _=>absurd e (by lia)
 done:=λs Q E ⟨_,a,b⟩ n=>zod k a b (λx g=>absurd g (by rw[xhp l];simp)) λ_=>n
theorem Inv.turned2{h':Heap}(I:Inv X g σ H s)(k:∀b o,b≠e->b≠it->s.heap.get? b=some o->h'.get? b=some o)(t:H it=none)(h:it≠X.env.locals)
  (C:it∈X.ex\/X.s₀.heap.objs.size<=it)(l:∀x c,X.env.cells.lookup x=some c->c≠it)(P:∀p∈X.pn++g,p.1≠it)(j:H e=none)(i:e≠X.env.locals)
  (Q:e∈X.ex\/X.s₀.heap.objs.size<=e)(G:∀x c,X.env.cells.lookup x=some c->c≠e)(S:∀p∈X.pn++g,p.1≠e):Inv X g σ H {s with heap:=h',toks:=t'}:=by
 have f:∀b u,H b=some u->b≠it:=λb u e z=>by rw[z,t] at e;cases e
 have d:∀b u,H b=some u->b≠e:=λb u q z=>by rw[z,j] at q;cases q
 refine I.step (g':=s.gens) (d':=s.drawn) (ch:=[e,it]) (λb U=>?_) (λb o _ _ a e _=>k b o (λz=>a (by simp[z])) (λz=>a (by simp[z])) e) (λb o _ _ a e _=>⟨o.slots,k b o (λz=>a (by simp[z])) (λz=>a (by simp[z])) e⟩) (λ_ _ _ _ n=>n)
  (λb o a e=>⟨o,k b o (λz=>a (by simp[z])) (λz=>a (by simp[z])) e⟩) (λ_ _ e=>e) (λ_ _ _ e=>e) (λb Y e=>⟨#[],by rw[e];simp⟩) (λm J=>?_) (λb u e=>?_) I.bare
 ·rcases xbm.mp U with z|z
  ·subst z;exact⟨Q,i,G,S⟩
  ·have E:b=it:=by simpa using z
   subst E;exact⟨C,h,l,P⟩
 ·obtain⟨o,y,w,A,r⟩:=J;exact⟨o,y,w,k _ o (xfj i) (xfj h) A,r⟩
 ·refine(I.hok b u e).stay (λc v a q=>k c v ?_ ?_ q) (λ_ q=>q) λ_ _ q=>q
  ·rcases a with z|z
   ·rw[z];exact d b u e
   ·exact d c _ z
  ·rcases a with z|z
   ·rw[z];exact f b u e
   ·exact f c _ z
def Ite(K:Fg) (a:Addr):It:=
 ⟨λi H=>∃b x,SqT K H a b/\b[i]?=some x,λi H y c=>∃p,H p=none/\y=.ref p/\∀b x,SqT K H a b->b[i]?=some x->c=upd H p (.tup [.int ((i+1:Nat):Int),x]),λi H=>∃b,SqT K H a b/\b.length<=i⟩
theorem ztq{P:Program}{w:World}{K:Fg}{a3:List Expr}{k:Nat}{Y:Pos}(e it a:Addr)(C:e≠it):
  Turn P w K (.Tuple a3 k Y) (Ite K a) [e,it] e (λi h=>(∃f,IsEnum h e it ((i+1:Nat):Int) f)/\h.IsTupleIter it a i) where
 mem:=by simp
 obj:=λi h m b hb=>by
  obtain⟨⟨f,j⟩,o,e',c,d⟩:=m;rcases xbm.mp hb with rfl|hb
  ·exact⟨_,j,λv z=>by
    have z':Data.fields _=Data.cell v:=z
    cases z'⟩
  ·have:b=it:=by simpa using hb
   subst this;exact⟨o,e',λv z=>by rw[d] at z;cases z⟩
 keep:=λi h h' m k=>⟨let ⟨f,j⟩:=m.1;⟨f,k e (by simp) _ j⟩,m.2.at λo z=>k it (by simp) o z⟩
 item:=by
  intro X hP hw hK hc i aU s σ H E I hf m hg;subst hP hw hK;obtain⟨xs,x,hq,hx⟩:=hg;obtain⟨⟨f,j⟩,l⟩:=m;obtain⟨g,rv,p,hz⟩:=I.tuple hq;have ht:s.heap.IsTuple a g.toArray:=p;obtain⟨u,hu,ru⟩:=rv.get hx;have a5:a≠e:=λz=>by
   obtain⟨o,G,n,_⟩:=ht;rw[z,j] at G;cases G;simp at n
  have a7:a≠it:=λz=>by
   obtain⟨o,G,n,_⟩:=ht;obtain⟨o',J,a1,_⟩:=l;rw[z,J] at G;cases G;rw[a1] at n;simp at n
  have hi:i<g.length:=(xbh.mp hu).1;have D:=draws1 (prog:=X.prog) (w:=X.w) (A:=X.A.in1) (I.ok.hd hc) it a a7 g.toArray;refine wpAny_pyNext_enum_itemD D (i:=i+1) j ⟨i,rfl,l,ht⟩ (by simp;lia) C (by simp;exact⟨C,λz=>a5 z.symm⟩) λt h' r hP G a6 hT b0 hk=>?_
  obtain⟨i',e1,e2⟩:=hP;cases(show i'=i by lia);have eu:t=u:=by
   rw[List.getElem?_toArray,hu] at e2;exact(xde e2).symm
  subst eu;refine⟨_,rfl,wpAny_letOwnedTupleGo_enum G λh2 a9 U=>?_⟩;obtain⟨f0,f1,f2,f3,f4,f5⟩:=hf e (by simp);obtain⟨g0,g1,g2,g3,g4,g5⟩:=hf it (by simp);have S:e<s.heap.objs.size:=xcd j;have a2:it<s.heap.objs.size:=by obtain⟨o',J,_⟩:=l;exact xcd J
  have I1:Inv X aU σ (upd H s.heap.objs.size (.tup [.int ((i + 1:Nat):Int),x])) { s with heap:=s.heap.push { cls:=.type "tuple",data:=.seq #[.int ((i + 1:Nat):Int) r,t] },toks:=s.toks }:=
   I.laid (λ_ _ q=>xbk _ q) (xbj _) ⟨by simp;decide,[.int ((i+1:Nat):Int) r,t],.cons ⟨r,rfl⟩ (.cons ru .nil),⟨_,xci _ rfl,rfl,_,rfl⟩⟩
  have T2:h2.get? s.heap.objs.size=some { cls:=.type "tuple",data:=.seq #[.int ((i + 1:Nat):Int) r,t] }:=(U.2 _ (xkq S)).trans hT
  have I2:Inv X aU σ (upd H s.heap.objs.size (.tup [.int ((i+1:Nat):Int),x])) {s with heap:=h2,toks:=r+1}:=by
   refine Inv.turned2 (s:={ s with heap:=s.heap.push { cls:=.type "tuple",data:=.seq #[.int ((i + 1:Nat):Int) r,t] },toks:=s.toks }) (h':=h2) (t':=r + 1) (e:=e) (it:=it) I1 (λb o a0 a8 q=>?_) (by rw[zu (xcl a2)]; exact g0) g1 g3 g4 g5 (by rw[zu (xcl S)]; exact f0) f1 f3 f4 f5
   have q':(s.heap.push { cls:=.type "tuple",data:=.seq #[.int ((i + 1:Nat):Int) r,t] }).get? b=some o:=q
   rcases Heap.get?_push_cases q' with⟨z,z2⟩|z
   ·rw[z,z2];exact T2
   ·exact(U.2 _ a0).trans (hk b o a0 a8 z)
  refine⟨.ref s.heap.objs.size,_,I2,rfl,⟨s.heap.objs.size,I.fresh,rfl,λys y hy e'=>?_⟩,⟨⟨t,?_⟩,?_⟩,λb hb=>?_⟩
  ·rw[I.tuple_inj hy hq,hx] at e';cases e'
   rfl
  ·have:(((i+1+1:Nat)):Int)=(((i+1:Nat)):Int)+1:=by push_cast;rfl
   rw[this];exact a9
  ·obtain⟨i',e3,e4,_⟩:=a6;cases(show i'=i+1 by lia);exact e4.at λo q=>(U.2 it (xfj C)).trans q
  ·rcases xbm.mp hb with rfl|hb
   ·rw[zu (xcl S)];exact f0
   ·have:b=it:=by simpa using hb
    subst this;rw[zu (xcl a2)];exact g0
 done:=by
  intro X hP hw hK hc i aU s σ H E I hf m hg;subst hP hw hK;obtain⟨xs,hq,hx⟩:=hg;obtain⟨⟨f,j⟩,l⟩:=m;obtain⟨g,rv,p,hz⟩:=I.tuple hq;have ht:s.heap.IsTuple a g.toArray:=p;have hl:=rv.length;obtain⟨g0,g1,g2,g3,g4,g5⟩:=hf it (by simp);have D:=draws0 (prog:=X.prog) (w:=X.w) (A:=X.A.in1) (I.ok.hd hc) it a g.toArray i (by simp;lia);exact wpAny_pyNext_enum_endD D j ⟨rfl,l,ht⟩ λh' a4=>⟨rfl,I.turned (t':=s.toks) (λb o hb e=>a4 b o hb e) g0 g1 g3 g4 g5⟩
 self:=λA i s Q E m h=>let ⟨f,j⟩:=m.1;wpAny_pyIter_enum j h
theorem zbbb(a:Addr)(e:Array Value)(n:Obj)(t:Tok):
  Meets (Builtin.«enumerate.__new__» ⟨[.type "enumerate",.ref a],[(Str.ofString "start",.int 1 t)]⟩) (λ_ R s=>s.heap.get? a=some n/\s.heap.IsTuple a e /\
   R (.ok (.ret (.ref (s.heap.objs.size+1))))
    { s with heap:=(s.heap.push { cls:=.type "tuple_iterator",data:=.fields #[.ref a,.int 0 0] }).push { cls:=.type "enumerate",data:=.fields #[.none,.bool false,.ref s.heap.objs.size,rawInt 1,.none,.none] } }):=by
 refine Meets.of_wp ?_;rintro l w A R ⟨m,g,d,o,os⟩ ⟨h,k,j⟩;have i:=sub_enumerate;have f:(m.push { cls:=.type "tuple_iterator",data:=.fields #[.ref a,.int 0 0] }).objs.size=m.objs.size + 1:=xmx ..
 rw[←f] at j
 wp_walk using xku h
 refine wpAny_stack_any λ_=>xbe ?_
 split
 ·rename_i c _ _ _ _ _;generalize (c==Value.type "enumerate")=b
  cases b<;>(wp_walk using xku h,xky k;exact⟨_,rfl,j⟩)
 ·wp_walk using xku h,xky k
  exact⟨_,rfl,j⟩
theorem zbok{T e:String}{b a:Value}{c:List Value}{k:Str×Value}{f:List (Str×Value)}(l:typeLookup (.type T) "__init__"=pure (some (.builtin "object.__init__")))(h:Bind.madeBy (.type T)=pure (some e))
  (j:(some e != some "object.__new__")=true):Meets (Builtin.«object.__init__» ⟨b::a::c,k::f⟩) (λ_ R s=>s.TypeIs b T/\R (.ok (.ret .none)) s):=
 .of_wp λ_ _ _ _ _ d=>by
  obtain⟨i,g⟩:=d
  repeat any_goals first|assumption|wp_step
  exact⟨_,rfl,g⟩
theorem zbhb(a:Value)(t:Tok):checkBuiltinCall "enumerate.__new__" ⟨[.type "enumerate",a],[(Str.ofString "start",.int 1 t)]⟩=pure ():=by kernel_rfl
theorem zbgt(o a:Value)(t:Tok):argsOk "object.__init__" ⟨[o,a],[(Str.ofString "start",.int 1 t)]⟩:=by kernel_rfl
theorem zxf{f:Program}{w:World}{A:Around}{E:Value->Shared->Prop}{s:Shared}{a:Addr}{d:Array Value}{t:Tok}{Q:Value->Shared->Prop}(n:s.heap.IsTuple a d)
  (h:∀l,IsEnum l (s.heap.objs.size+1) s.heap.objs.size 1 .none->l.IsTupleIter s.heap.objs.size a 0->(∀b o,s.heap.get? b=some o->l.get? b=some o)->Q (.ref (s.heap.objs.size+1)) {s with heap:=l}):
  wpAny (model f w) A (call (.type "enumerate") [.ref a] [(Str.ofString "start",.int 1 t)]) Q E s:=by
 rcases id n with⟨v,k,_⟩
 have g:=F.called_enumerate;rcases g.mro with⟨c,J,C⟩
 have u:=g.made;have H:=g.sub;have I:=g.notType;have G:=g.canCreate;have z:=g.init.lookup;have i:(s.heap.push { cls:=.type "tuple_iterator",data:=.fields #[.ref a,.int 0 0] }).objs.size=s.heap.objs.size + 1:=xmx ..
 have m:IsEnum ((s.heap.push { cls:=.type "tuple_iterator",data:=.fields #[.ref a,.int 0 0] }).push { cls:=.type "enumerate",data:=.fields #[.none,.bool false,.ref s.heap.objs.size,rawInt 1,.none,.none] }) (s.heap.objs.size + 1) s.heap.objs.size 1 .none:=by
  rw[←i];exact xci _ rfl
 have done:=h _ m ⟨_,xbk _ (xci _ rfl),rfl,rfl⟩ λb o x=>xbk _ (xbk _ x)
 refine wpAny_call (codeAny_of_tree (xbe ⟨Code.quiet_builtin _ (by decide +kernel),xko F.entry_type_call ?_⟩));rw[Around.under_plain (weight_type_call_type _ _ _) (units_type_call_type _ _ _)]
 repeat any_goals first|assumption|wp_step
 refine xju (xmp g.plain F.entry_enumerate_new (wpAny_of_eq (zbhb _ t) (zbbb a d v t f w A.in1 (wants (λx p=>p.TypeIs x "enumerate"/\Q x p) E) s ⟨k,n,⟨_,m,rfl⟩,done⟩))) ?_
 clear done m i h n k;rintro(e|_|_|_|x) p j
 case ok.ret=>
  obtain⟨T,q⟩:=j;have P:=g.init.bind x
  repeat any_goals first|assumption|wp_step
  refine xju (xmp g.init.plain F.entry_object_init (g.init.check _ _ _ _ _ _ _ _ T (zbgt _ _ t) (zbok z u (by decide) f w A.in1 (wants (λy r=>y=.none/\Q x r) E) _ ⟨T,rfl,q⟩))) ?_;rintro(e|_|_|_|y) r j
  case ok.ret=>
   obtain⟨rfl,q⟩:=j
   repeat any_goals first|assumption|wp_step
  all_goals first|exact j|exact j.elim
 all_goals first|exact j|exact j.elim
theorem cw_kw{M:Model}{T:String}{b:List (Bool×Sem Value)}{c:List (Option Str×Sem Value)}(f:b.any (·.1)=false)(e:c.any (·.1.isNone)=false)
  (h:wpAny M A (evalArgs (.type T) true b c) (λa d=>wpAny M A (call (.type T) (first++a.pos) a.kw) Q E d) E s):wpAny M A (callWith pos (.type T) first b c) Q E s:=by
 unfold callWith;refine xba (xeq (xey h ?_ λ_ _=>id));intro a d k;rw[f,e];exact xba (xnp (xba (xbe (xba (xey k (λ_ _ q=>xba (xeq (wpAny_point (xbe q)))) λ_ _=>id)))))
def iEnum1(K:Fg) (b:TE):TI:=λσ H R=>b σ H λx H1=>∃a,x=.ref a/\(∃c,SqT K H1 a c)/\R (Ite K a) H1
theorem zbfz(G:Gl X "enumerate")(P:X.mg "enumerate"=none)(w:PE X l tl)
  (n:starEach [l] X.env=[(false,eval l X.env)]:=by rfl):
  PI X (.Tuple elts k tpos) (.Call (.Name "enumerate" p) [l] [⟨some "start",.Constant (.int 1) j cpos,kpos⟩] pos) (iEnum1 X.K tl):=by
 intro A s σ H R I h;refine xkz (zvx I G P PyProof.Rows.boot_enumerate ?_);refine cw_kw (by rw[n];rfl) rfl ?_;rw[n];refine evalArgs_kwB rfl ?_;refine xiz (thn (w A s σ H _ I h) λv c g=>?_);obtain⟨x,H1,m,J,u⟩:=g;refine xli ?_;refine kws_cons ?_;refine wpAny_Constant_int (kws_nil ?_);obtain⟨a,rfl,⟨U,y⟩,q⟩:=u;cases J;have r:=m.tok (c.toks+1);obtain⟨E,rv,Q,Y⟩:=r.tuple y;refine zxf (show _ from Q) λo d i C=>?_
 refine wpAny_pyIter_enum d ?_;have t:=r.kept (h':=o) (t':=c.toks+1) C;refine⟨c.heap.objs.size+1,[c.heap.objs.size+1,c.heap.objs.size],_,_,H1,rfl,t,ztq _ c.heap.objs.size a (Nat.succ_ne_self _),⟨⟨_,d⟩,i⟩,λb S=>?_,q⟩;have e:c.heap.objs.size<=b:=by
  have f:b=c.heap.objs.size+1\/b=c.heap.objs.size:=by simpa using S
  cases f with
  |inl z=>exact z ▸ xlt _
  |inr z=>exact z ▸ xbj _
 exact m.fpOk e (m.hok.fresh e)
noncomputable def bestI(a:Bool) (n:Int) (b:List Int):Int:=b.foldl (λi j=>if(if a then decide (j > i) else decide (j<i))=true then j else i) n
theorem zpd:∀(ns:List Int) (n:Int),bestI true n ns∈n::ns/\∀a∈n::ns,a<=bestI true n ns
 |[],n=>⟨by simp[bestI],by simp[bestI]⟩
 |m::ns,n=>by
  have e:bestI true n (m::ns)=bestI true (if m > n then m else n) ns:=by simp[bestI]
  obtain⟨d,b⟩:=zpd ns (if m > n then m else n);rw[e];refine⟨?_,λa ha=>?_⟩
  ·rcases xbm.mp d with z|z
   ·rw[z];split<;>simp
   ·simp[z]
  ·have c:=b _ xbr;rcases xbm.mp ha with rfl|ha
   ·refine xmg ?_ c;split<;>lia
   ·rcases xbm.mp ha with rfl|ha
    ·refine xmg ?_ c;split<;>lia
    ·exact b a (xbf _ ha)
theorem zxm{ns:List Int}(l:k=ns.length):(n::ns).getD (argBest (λi j=>decide ((n::ns).getD i 0 >(n::ns).getD j 0)) k) 0=bestI true n ns:=by
 subst l;obtain⟨m,c⟩:=argBest_gt (λi=>(n::ns).getD i 0) ns.length;obtain⟨f,d⟩:=zpd ns n;have b:argBest (λi j=>decide ((n::ns).getD i 0 >(n::ns).getD j 0)) ns.length<(n::ns).length:=by rw[xbw];lia
 obtain⟨j,a,g⟩:=xev f;have h:=c j (by simp at a;lia);have o:=d ((n::ns).getD (argBest (λi j=>decide ((n::ns).getD i 0 >(n::ns).getD j 0)) ns.length) 0) (by rw[xbg,xbd b];exact xcy b);have e:(n::ns).getD j 0=bestI true n ns:=by rw[xbg,xbd a,g];rfl
 rw[e] at h;lia
end L2
namespace Dd
open L2
set_option genInjectivity true in
inductive D where
 |non|bl (b:Bool)|int (i:Int)|str (x:Str)|ty (n:String)|ref (n:Nat)|tup (ds:List D)|lst (ds:List D)|scr (ds:List D)|exn (c:Str) (l:List Int)
set_option genInjectivity true in
inductive O where
 /-- a list that may change;a dict by tuples of ints;one that is only read;gone -/
 |lst (xs:List D)|dT (kvs:List (List Int×D))|fT (kvs:List (List Int×D))|dead
 /-- a dict by ints -/
 |dI (kvs:List (Int×D))
 /-- a dict by tuples of tuples of ints,each True -/
 |dP (ks:List (List (List Int)))
 /-- the law's table of codes -/
 |tab
noncomputable abbrev Store:=List O
structure Exc where
 cls:Str
 at_:List Int
set_option genInjectivity true in
inductive Res (α:Type) where
 |ok (a:α) (au:Store)|exc (x:Exc) (au:Store)|stuck
def Res.bind{α β:Type}:Res α->(α->Store->Res β)->Res β
 |.ok a au,f=>f a au
 |.exc x au,_=>.exc x au
 |.stuck,_=>.stuck
@[simp] theorem zw {α β:Type}(a:α) (au:Store) (f:α->Store->Res β):(Res.ok a au).bind f=f a au:=rfl
@[simp] theorem zbvz {α β:Type}(x:Exc) (au:Store) (f:α->Store->Res β):(Res.exc x au:Res α).bind f=.exc x au:=rfl
@[simp] theorem zbql {α β:Type}(f:α->Store->Res β):(Res.stuck:Res α).bind f=.stuck:=rfl
theorem za{α β:Type}{r:Res α}{f:α->Store->Res β}{b:β}{st':Store}(h:r.bind f=.ok b st'):∃a c,r=.ok a c/\f a c=.ok b st':=by
 cases r with
 |ok a c=>exact⟨a,c,rfl,h⟩
 |exc x c=>cases h
 |stuck=>cases h
noncomputable abbrev DS:=List (Option D)
abbrev SE:=DS->Store->Res D
abbrev ST:=DS->Store->Res Bool
abbrev SA:=DS->Store->Res (List D)
set_option genInjectivity true in
inductive Fl where
 |nx (σ:DS)|ret (v:D)|brk (σ:DS)|ct (σ:DS)
abbrev SS:=DS->Store->Res Fl
abbrev DFn:=List D->Store->Res D
structure Loc where
 m:List (Option Addr)
 g:List Addr
def Out(ρ:Loc) (a:Addr):Prop:=some a∉ρ.m/\a∉ρ.g
def Ls(K:Fg) (ρ:Loc) (H:Hp) (a:Addr) (b:List V):Prop:=(Rd H a (.lst b)/\Out ρ a)\/∀c:Hp,SqL K c a b
def XAt(K:Fg) (ρ:Loc) (H:Hp) (c:Str) (l:List Int) (a:Addr):Prop:=∃C o,W.nsIn K mainGlobals c=some (some (.ref C))/\(H a=some (.frz o (.ext λ_=>True))/\Out ρ a)/\o.cls=.ref C/\(∃d,o.data=.fields d/\d[2]?=some .none) /\
 ((l=[]/\o.dict=none)\/∃ i b e,l=[i]/\o.dict=some b/\H b=some (.frz e (.xd [("at",.int i)]))/\Out ρ b)
theorem XAt.map{K:Fg}(h:XAt K ρ H c l a)(f:∀b j u,H b=some (.frz j u)->Out ρ b->H' b=some (.frz j u)/\Out ρ' b):XAt K ρ' H' c l a:=by
 obtain⟨C,o,t,e,s,p,d⟩:=h;refine⟨C,o,t,f _ _ _ e.1 e.2,s,p,?_⟩;rcases d with d|⟨i,n,r,m,q,k,g⟩
 ·exact .inl d
 ·exact .inr ⟨i,n,r,m,q,(f _ _ _ k g).1,(f _ _ _ k g).2⟩
mutual
inductive At (K:Fg) (ρ:Loc) (H:Hp):D->V->Prop
 |non:At K ρ H .non .non
 |bl (b:Bool):At K ρ H (.bl b) (.bl b)
 |int (i:Int):At K ρ H (.int i) (.int i)
 |str (x:Str):At K ρ H (.str x) (.str x)
 |ty (n:String):At K ρ H (.ty n) (.ty n)
 |ref {n:Nat}{v:V}:n < ρ.m.length->(∀a,ρ.m[n]?=some (some a)->v=.ref a)->At K ρ H (.ref n) v
 |tup {a:Addr}{ds:List D}{vs:List V}:H a=some (.tup vs)->Out ρ a->AtAll K ρ H ds vs->At K ρ H (.tup ds) (.ref a)
 |lst {a:Addr}{ds:List D}{vs:List V}:H a=some (.lst vs)->Out ρ a->AtAll K ρ H ds vs->At K ρ H (.lst ds) (.ref a)
 |scr {a:Addr}{ds:List D}{vs:List V}:Ls K ρ H a vs->AtAll K ρ H ds vs->At K ρ H (.scr ds) (.ref a)
 |exn {c:Str}{l:List Int}{a:Addr}:XAt K ρ H c l a->At K ρ H (.exn c l) (.ref a)
inductive AtAll (K:Fg) (ρ:Loc) (H:Hp):List D->List V->Prop
 |nil:AtAll K ρ H [] []
 |cons {d:D}{ds:List D}{v:V}{vs:List V}:At K ρ H d v->AtAll K ρ H ds vs->AtAll K ρ H (d::ds) (v::vs)
end
structure Mv (ρ:Loc) (H:Hp) (ρ':Loc) (H':Hp):Prop where
 out:∀{a:Addr}{o:HO},H a=some o->Out ρ a->H' a=some o/\Out ρ' a
 len:ρ.m.length<=ρ'.m.length
 old:∀(n:Nat) (a:Addr),n < ρ.m.length->ρ'.m[n]?=some (some a)->ρ.m[n]?=some (some a)
theorem Ls.mv{K:Fg}(x:Mv ρ H ρ' H')(h:Ls K ρ H a vs):Ls K ρ' H' a vs:=by
 rcases h with⟨h|⟨o,h⟩,n⟩|h
 ·exact .inl ⟨.inl (x.out h n).1,(x.out h n).2⟩
 ·exact .inl ⟨.inr ⟨o,(x.out h n).1⟩,(x.out h n).2⟩
 ·exact .inr h
theorem At.mv{K:Fg}(x:Mv ρ H ρ' H') (h:At K ρ H d v):At K ρ' H' d v:=
 At.rec (motive_1:=λd v _=>At K ρ' H' d v) (motive_2:=λd v _=>AtAll K ρ' H' d v) .non .bl .int .str .ty (λh e=>.ref (xbn h x.len) λa q=>e a (x.old _ a h q)) (λh n _ c=>.tup (x.out h n).1 (x.out h n).2 c) (λh n _ c=>.lst (x.out h n).1 (x.out h n).2 c) (λh _ c=>.scr (h.mv x) c) (λh=>.exn (h.map λ_ _ _ e n=>x.out e n)) .nil (λ_ _ a b=>.cons a b) h
theorem AtAll.mv{K:Fg}(x:Mv ρ H ρ' H') (h:AtAll K ρ H d v):AtAll K ρ' H' d v:=
 AtAll.rec (motive_1:=λ_ _ _=>True) (motive_2:=λd v _=>AtAll K ρ' H' d v) trivial (λ_=>trivial) (λ_=>trivial) (λ_=>trivial) (λ_=>trivial) (λ_ _=>trivial) (λ_ _ _ _=>trivial) (λ_ _ _ _=>trivial) (λ_ _ _=>trivial) (λ_=>trivial) .nil (λa _ _ b=>.cons (a.mv x) b) h
structure Ext (ρ:Loc) (H:Hp) (ρ':Loc) (H':Hp):Prop where
 len:ρ.m.length<=ρ'.m.length
 old:∀(n:Nat) (a:Addr),n < ρ.m.length->ρ'.m[n]?=some (some a)->ρ.m[n]?=some (some a)
 keep:∀a o,H a=some o->some a∉ρ.m->H' a=some o/\some a∉ρ'.m
 gho:ρ'.g=ρ.g
 frz:∀a ob u,H a=some (.frz ob u)->H' a=some (.frz ob u)
theorem Ext.out(x:Ext ρ H ρ' H') (h:H a=some o)(n:Out ρ a):H' a=some o/\Out ρ' a:=
 ⟨(x.keep a o h n.1).1,(x.keep a o h n.1).2,by rw[x.gho];exact n.2⟩
theorem Ext.mv(x:Ext ρ H ρ' H'):Mv ρ H ρ' H':=⟨λh n=>x.out h n,x.len,x.old⟩
theorem Ls.sq{K:Fg}(h:Ls K ρ H a vs):SqL K H a vs:=by
 rcases h with h|h
 ·exact .inl h.1
 ·exact h H
theorem Ext.refl(ρ:Loc)(H:Hp):Ext ρ H ρ H:=⟨xbj _,λ_ _ _ e=>e,λ_ _ e n=>⟨e,n⟩,rfl,λ_ _ _ e=>e⟩
theorem Ext.trans(a:Ext ρ H ρ1 H1)(b:Ext ρ1 H1 ρ2 H2):Ext ρ H ρ2 H2:=
 ⟨xbb a.len b.len,λn c h e=>a.old n c h (b.old n c (xbn h a.len) e),λc o e n=>by
  obtain⟨f,g⟩:=a.keep c o e n
  exact b.keep c o f g,b.gho.trans a.gho,λc d u e=>b.frz c d u (a.frz c d u e)⟩
theorem At.ext{K:Fg}(x:Ext ρ H ρ' H') (h:At K ρ H d v):At K ρ' H' d v:=h.mv x.mv
theorem AtAll.ext{K:Fg}(x:Ext ρ H ρ' H') (h:AtAll K ρ H d v):AtAll K ρ' H' d v:=h.mv x.mv
theorem AtAll.length{K:Fg}:∀{b:List D}{a:List V},AtAll K ρ H b a->a.length=b.length
 |_,_,.nil=>rfl
 |_,_,.cons _ t=>by rw[xbw,xbw,AtAll.length t]
theorem AtAll.get{K:Fg}:∀{c:List D}{b:List V}{i:Nat}{d:D},AtAll K ρ H c b->c[i]?=some d->∃v,b[i]?=some v/\At K ρ H d v
 |_,_,_,_,.nil,e=>by simp at e
 |_,_,0,_,.cons a _,e=>by simp at e;subst e;exact⟨_,rfl,a⟩
 |_,_,i+1,d,.cons _ t,e=>by
  obtain⟨u,f,g⟩:=AtAll.get (i:=i) (d:=d) t (by simpa using e);exact⟨u,by simpa using f,g⟩
theorem AtAll.append{K:Fg}:∀{f d:List D}{e c:List V},AtAll K ρ H f e->AtAll K ρ H d c->AtAll K ρ H (f++d) (e++c)
 |_,_,_,_,.nil,b=>b
 |_,_,_,_,.cons a t,b=>.cons a (AtAll.append t b)
theorem AtAll.take{K:Fg}:∀{c:List D}{b:List V}(n:Nat),AtAll K ρ H c b->AtAll K ρ H (c.take n) (b.take n)
 |_,_,0,_=>.nil
 |_,_,_+1,.nil=>.nil
 |_,_,n+1,.cons a t=>.cons a (AtAll.take n t)
theorem AtAll.drop{K:Fg}:∀{c:List D}{b:List V}(n:Nat),AtAll K ρ H c b->AtAll K ρ H (c.drop n) (b.drop n)
 |_,_,0,h=>h
 |_,_,_+1,.nil=>.nil
 |_,_,n+1,.cons a t=>AtAll.drop n t
theorem AtAll.set{K:Fg}(a:At K ρ H d v):∀{e:List D}{c:List V}(n:Nat),AtAll K ρ H e c->AtAll K ρ H (e.set n d) (c.set n v)
 |_,_,_,.nil=>.nil
 |_,_,0,.cons _ t=>.cons a t
 |_,_,n+1,.cons b t=>.cons b (AtAll.set a n t)
def KvAt(K:Fg) (ρ:Loc) (H:Hp):List (List Int×D)->List (List Key×V)->Prop:=Paired λp q=>q.1=p.1.map Sum.inl/\At K ρ H p.2 q.2
theorem KvAt.ext{K:Fg}(x:Ext ρ H ρ' H') (h:KvAt K ρ H a b):KvAt K ρ' H' a b:=Paired.mapP h λp q z=>⟨z.1,z.2.ext x⟩
noncomputable abbrev lamQ:Str:=(("law" : Str)++".<locals>.")++"<lambda>"
def TabOk(H:Hp) (e:Array Value):Prop:=TriplesOk e.toList/\∀a b,codeAmong a e.toList=some b->∃c d f t,b=.ref c/\H c=some (.frz d (.ext λ_=>True))/\d.data=.fields f/\f[1]?=some (.str lamQ t)
theorem TabOk.map(h:TabOk H ps)(f:∀b d u,H b=some (.frz d u)->H' b=some (.frz d u)):TabOk H' ps:=
 ⟨h.1,λa g e=>by obtain⟨c,j,m,t,i,k,l⟩:=h.2 a g e;exact⟨c,j,m,t,i,f _ _ _ k,l⟩⟩
def KiAt(K:Fg) (ρ:Loc) (H:Hp):List (Int×D)->List (Key×V)->Prop:=Paired λp q=>q.1=Sum.inl p.1/\At K ρ H p.2 q.2
theorem KiAt.ext{K:Fg}(x:Ext ρ H ρ' H') (h:KiAt K ρ H a b):KiAt K ρ' H' a b:=Paired.mapP h λp q z=>⟨z.1,z.2.ext x⟩
noncomputable def PDict(a:Addr) (d:List DictEntry):Heap->Prop:=λh=>∃o b c,h.get? a=some o/\o.ExactDict/\o.data=.dict b c/\b.toList=d
noncomputable def hashP(k:List (List Int)):Int:=reduceHash (Builtin.Tuple.tupleHashOf (k.map λr=>reduceHash (Builtin.Tuple.tupleHashOf (r.map hashInt))))
noncomputable def nestD(k:List (List Int)):D:=.tup (k.map λr=>.tup (r.map .int))
def KpAt(K:Fg) (ρ:Loc) (H:Hp):List (List (List Int))->List DictEntry->Prop:=Paired λk e=>e.hash=hashP k/\e.val=.bool true/\∃b,e.key=.ref b/\At K ρ H (nestD k) (.ref b)
theorem KpAt.map{K:Fg}(k:∀d v,At K ρ H d v->At K ρ' H' d v) (h:KpAt K ρ H a b):KpAt K ρ' H' a b:=Paired.mapP h λp q ⟨f,e,c,g,i⟩=>⟨f,e,c,g,k _ _ i⟩
def OAt(K:Fg) (ρ:Loc) (H:Hp):O->Addr->Prop
 |.lst xs,a=>∃b,H a=some (.lst b)/\AtAll K ρ H xs b
 |.dT kvs,a=>∃b,H a=some (.dT b)/\KvAt K ρ H kvs b
 |.fT kvs,a=>∃b f,H a=some (.frz f (.dT b))/\KvAt K ρ H kvs b
 |.dI kvs,a=>∃b,H a=some (.dK b)/\KiAt K ρ H kvs b
 |.dP ks,a=>∃e,H a=some (.ext (PDict a e))/\(a==sysModules)=false/\ks.length<=sizeLine/\ks.Nodup/\KpAt K ρ H ks e
 |.dead,_=>False
 |.tab,a=>(∃ c,W.tabIn K "law"=some (c,a))/\∃ d,H a=some (.tbl d)/\TabOk H d
structure Rep (K:Fg) (ρ:Loc) (au:Store) (H:Hp):Prop where
 len:ρ.m.length=au.length
 inj:∀(n m:Nat) (a:Addr),ρ.m[n]?=some (some a)->ρ.m[m]?=some (some a)->n=m
 obj:∀(n:Nat) (a:Addr) (o:O),ρ.m[n]?=some (some a)->au[n]?=some o->OAt K ρ H o a
 gh:∀a∈ρ.g,(∃vs,H a=some (.lst vs))/\some a∉ρ.m
 live:∀(n:Nat) (o:O),au[n]?=some o->o≠.dead->∃a,ρ.m[n]?=some (some a)
def AtO(K:Fg) (ρ:Loc) (H:Hp) (o:Option D) (v:Option V):Prop:=∀d,o=some d->∃u,v=some u/\At K ρ H d u
abbrev AtS(K:Fg) (ρ:Loc) (H:Hp):DS->St->Prop:=Paired (AtO K ρ H)
theorem AtS.ext{K:Fg}(x:Ext ρ H ρ' H') (h:AtS K ρ H σ τ):AtS K ρ' H' σ τ:=Paired.mapP h λo v z d e=>by
 obtain⟨u,b,a⟩:=z d e;exact⟨u,b,a.ext x⟩
theorem AtS.get{K:Fg}:∀{σ:DS}{τ:St}{i:Nat}{d:D},AtS K ρ H σ τ->σ[i]?=some (some d)->∃u,τ[i]?=some (some u)/\At K ρ H d u
 |_,_,_,_,.nil,e=>by simp at e
 |_,_,0,_,.cons a _,e=>by
  simp at e;subst e
  obtain⟨u,b,h⟩:=a _ rfl;exact⟨u,by simp[b],h⟩
 |_,_,i+1,d,.cons _ t,e=>by
  obtain⟨u,f,c⟩:=AtS.get (i:=i) (d:=d) t (by simpa using e);exact⟨u,by simpa using f,c⟩
theorem AtS.set{K:Fg}(a:At K ρ H d v):∀{σ:DS}{τ:St}(i:Nat),AtS K ρ H σ τ->AtS K ρ H (σ.set i (some d)) (τ.set i (some v))
 |_,_,_,.nil=>.nil
 |_,_,0,.cons _ t=>.cons (λb e=>by cases e;exact⟨v,rfl,a⟩) t
 |_,_,i+1,.cons q t=>.cons q (AtS.set a i t)
def tD(K:Fg) (f:SE):TE:=λτ H Q=>∃ρ σ d v a,AtS K ρ H σ τ/\Rep K ρ d H/\f σ d=.ok v a/\∀c b u,Ext ρ H c b->Rep K c a b->At K c b v u->Q u b
def tDT(K:Fg) (f:ST):TT:=λτ H Q=>∃ρ σ c v a,AtS K ρ H σ τ/\Rep K ρ c H/\f σ c=.ok v a/\∀d b,Ext ρ H d b->Rep K d a b->Q v b
def tDA(K:Fg) (f:SA):TA:=λτ H Q=>∃ρ σ d v a,AtS K ρ H σ τ/\Rep K ρ d H/\f σ d=.ok v a/\∀c b u,Ext ρ H c b->Rep K c a b->AtAll K c b v u->Q u b
def FlOk(K:Fg) (ρ:Loc) (H:Hp) (c:Store) (E:Ends):Fl->Prop
 |.nx σ=>∀b a τ,Ext ρ H b a->Rep K b c a->AtS K b a σ τ->E.nx τ a
 |.brk σ=>∀b a τ,Ext ρ H b a->Rep K b c a->AtS K b a σ τ->E.bk τ a
 |.ct σ=>∀b a τ,Ext ρ H b a->Rep K b c a->AtS K b a σ τ->E.ct τ a
 |.ret v=>∀b a u,Ext ρ H b a->Rep K b c a->At K b a v u->E.rt u a
theorem FlOk.ext{K:Fg}(x:Ext ρ H ρ1 H1)(h:FlOk K ρ H st' E fl):FlOk K ρ1 H1 st' E fl:=by
 cases fl with
 |nx σ=>exact λb a τ e=>h b a τ (x.trans e)
 |brk σ=>exact λb a τ e=>h b a τ (x.trans e)
 |ct σ=>exact λb a τ e=>h b a τ (x.trans e)
 |ret v=>exact λb a τ e=>h b a τ (x.trans e)
def tDS(K:Fg) (f:SS):TS:=λE τ H=>∃ρ σ b c a,AtS K ρ H σ τ/\Rep K ρ b H/\f σ b=.ok c a/\FlOk K ρ H a E c
abbrev DE(X:Cx) (e:Expr) (f:SE):Prop:=PE X e (tD X.K f)
abbrev DT(X:Cx) (e:Expr) (f:ST):Prop:=PT X e (tDT X.K f)
abbrev DW(X:Cx) (e:Expr) (f:ST):Prop:=PW X e (tDT X.K f)
abbrev DA(X:Cx) (a:List Expr) (f:SA):Prop:=PA X a (tDA X.K f)
abbrev DSt(X:Cx) (s:Stmt) (f:SS):Prop:=PS X s (tDS X.K f)
abbrev DSs(X:Cx) (s:List Stmt) (f:SS):Prop:=PSs X s (tDS X.K f)
theorem zfh(h:PE X e t)(k:∀σ H Q,t' σ H Q->t σ H Q):PE X e t':=λa s σ H Q I q=>h a s σ H Q I (k _ _ _ q)
theorem zbkg(h:PT X e t)(k:∀σ H Q,t' σ H Q->t σ H Q):PT X e t':=λa s σ H Q I q=>h a s σ H Q I (k _ _ _ q)
theorem pw_to(h:PW X e t)(k:∀σ H Q,t' σ H Q->t σ H Q):PW X e t':=λb a s σ H Q I q=>h b a s σ H Q I (k _ _ _ q)
theorem zbwv(h:PA X es t)(k:∀σ H Q,t' σ H Q->t σ H Q):PA X es t':=λa b s σ H Q I q=>h a b s σ H Q I (k _ _ _ q)
theorem zuu(h:PS X s t)(k:∀E σ H,t' E σ H->t E σ H):PS X s t':=λa z σ H E I q=>h a z σ H E I (k _ _ _ q)
theorem zbls(h:PSs X ss t)(k:∀E σ H,t' E σ H->t E σ H):PSs X ss t':=λa z σ H E I q=>h a z σ H E I (k _ _ _ q)
def aA(i:Nat):SE:=λσ a=>match σ[i]? with
 |some (some d)=>.ok d a
 |_=>.stuck
def eC(d:D):SE:=λ_ a=>.ok d a
theorem zbys(h:PE X e (tVar i)):DE X e (aA i):=zfh h λτ H Q b=>by
 obtain⟨ρ,σ,k,v,f,a,r,e,q⟩:=b;unfold aA at e;split at e
 ·rename_i d j;cases e;obtain⟨u,c,g⟩:=a.get j;exact⟨u,c,q ρ H u (.refl _ _) r g⟩
 ·cases e
theorem zbvm(h:PE X e (tC v))(k:∀ρ H,At X.K ρ H d v):DE X e (eC d):=zfh h λτ H Q b=>by
 obtain⟨ρ,σ,f,v,c,a,r,e,q⟩:=b;cases e;exact q ρ H _ (.refl _ _) r (k _ _)
theorem zbza{i j pos}:DE X (.Constant (.int i) j pos) (eC (.int i)):=zbvm zbsx λ_ _=>.int i
theorem d_bl{b j pos}:DE X (.Constant (.bool b) j pos) (eC (.bl b)):=zbvm zbxw λ_ _=>.bl b
def aS(g:D->D->Store->Res D) (f d:SE):SE:=λσ c=>(f σ c).bind λx b=>(d σ b).bind λy a=>g x y a
def eUn(g:D->Store->Res D) (f:SE):SE:=λσ b=>(f σ b).bind λx a=>g x a
def OpD(K:Fg) (g:D->D->Store->Res D) (r:R2):Prop:=
 ∀ρ H d x y u v z a (Q:VK),Rep K ρ d H->At K ρ H x u->At K ρ H y v->g x y d=.ok z a->(∀c b w,Ext ρ H c b->Rep K c a b->At K c b z w->Q w b)->r u v H Q
theorem zbre{K:Fg}(E:OpD K g r):∀τ H Q,tD K (aS g f f') τ H Q->tOp r (tD K f) (tD K f') τ H Q:=λτ H Q k=>by
 obtain⟨ρ,σ,A,v,i,a,I,e,q⟩:=k;obtain⟨x,b,n,e⟩:=za e;obtain⟨y,c,o,e⟩:=za e;refine⟨ρ,σ,A,x,b,a,I,n,λP H1 u m d C=>?_⟩;refine⟨P,σ,b,y,c,a.ext m,d,o,λt H2 w l j s=>?_⟩;exact E t H2 c x y u w v i Q j (C.ext l) s e λp J z S h G=>q p J z (m.trans (l.trans S)) h G
theorem d_op(e:OpR X (binaryOp op) r)(d:OpD X.K g r)(c:DE X a f)(h:DE X b f'):DE X (.BinOp a op b pos) (aS g f f'):=zfh (zbxu e c h) (zbre d)
theorem zbzc(e:OpR X (compareOp op) r)(i:OpD X.K g r)(h:DE X a f)(c:DE X b f')(d:behindInMarks op b=false):DE X (.Compare a [op] [b] pos) (aS g f f'):=zfh (zbmm e h c d) (zbre i)
def eB(f:SE):ST:=λσ c=>(f σ c).bind λv a=>match v with
 |.bl b=>.ok b a
 |_=>.stuck
theorem eB_t{K:Fg}:∀τ H Q,tDT K (eB f) τ H Q->tD K f τ H λx H1=>∃c,x=.bl c/\Q c H1:=λτ H Q d=>by
 obtain⟨ρ,σ,l,v,i,a,k,e,q⟩:=d;obtain⟨x,g,h,e⟩:=za e;refine⟨ρ,σ,l,x,g,a,k,h,λn H1 u j b m=>?_⟩;cases x<;>try (cases e;done)
 cases e;cases m;exact⟨_,rfl,q _ _ j b⟩
theorem zbuv(e:OpR X (compareOp op) r)(j:OpD X.K g r)(i:DE X a f)(c:DE X b f')(d:behindInMarks op b=false):DT X (.Compare a [op] [b] pos) (eB (aS g f f')):=
 zbkg (zblr e i c d) λτ H Q h=>zbre j _ _ _ (eB_t _ _ _ h)
def eChain(g h:D->D->Store->Res D) (f i c:SE):SE:=λσ j=>(f σ j).bind λx d=>(i σ d).bind λy e=>(g x y e).bind λz a=>match z with
 |.bl true=>(c σ a).bind λw b=>h y w b
 |.bl false=>.ok (.bl false) a
 |_=>.stuck
theorem zbeh{K:Fg}(hr:OpD K g r)(m:OpD K g' r'):∀τ H Q,tD K (eChain g g' f f' f'') τ H Q->tChain r r' (tD K f) (tD K f') (tD K f'') τ H Q:=λτ H Q p=>by
 obtain⟨ρ,σ,au,v,n,a,rp,e,q⟩:=p;obtain⟨x,d,U,e⟩:=za e;obtain⟨y,j,e2,e⟩:=za e;obtain⟨z,i,e3,e⟩:=za e;refine⟨ρ,σ,au,x,d,a,rp,U,λρ1 H1 u J k a1=>?_⟩;refine⟨ρ1,σ,d,y,j,a.ext J,k,e2,λρ2 H2 w I o G=>?_⟩;refine hr ρ2 H2 j x y u w z i _ o (a1.ext I) G e3 λE H3 C S h a3=>?_
 have l:=J.trans (I.trans S);cases z<;>try (cases e;done)
 rename_i b;cases a3;refine⟨b,rfl,?_⟩;cases b with
 |true=>
  obtain⟨t,c,e4,e⟩:=za e;rw[if_pos rfl];refine⟨E,σ,i,t,c,a.ext l,h,e4,λρ4 H4 Y P A X=>?_⟩;exact m ρ4 H4 c y t w Y v n Q A (G.ext (S.trans P)) X e λρ' H' C x5 s a5=>q ρ' H' C (l.trans (P.trans x5)) s a5
 |false=>
  cases e;rw[if_neg (by decide)];exact q E H3 _ l h (.bl false)
end Dd
namespace Dd
open L2
theorem Ext.new(a:H p=none)(o:HO):Ext ρ H ρ (upd H p o):=⟨xbj _,λ_ _ _ e=>e,λb u e m=>⟨by rw[zu (zn e a)];exact e,m⟩,rfl,λb c u e=>by rw[zu (zn e a)];exact e⟩
section
variable {H:Hp}{a:Addr}
theorem zgi{c:List V}(h:H a=some (.lst c)):∀b u,H a≠some (.frz b u):=λb u z=>by rw[h] at z;cases z
theorem zjt{c:List (List Key×V)}(h:H a=some (.dT c)):∀b u,H a≠some (.frz b u):=λb u z=>by rw[h] at z;cases z
end
theorem Ext.wr{ρ:Loc}{n:Nat}(h:ρ.m[n]?=some (some a))(d:∀c u,H a≠some (.frz c u))(o:HO):Ext ρ H ρ (upd H a o):=⟨xbj _,λ_ _ _ e=>e,λb u e m=>⟨by
 rw[zu]
 ·exact e
 ·rintro rfl
  exact m (xbu h),m⟩,rfl,λb c u e=>by
 rw[zu]
 ·exact e
 ·rintro rfl
  exact d _ _ e⟩
theorem OAt.has{K:Fg}(h:OAt K ρ H x a):∃u,H a=some u:=by
 cases x with
 |lst xs=>obtain⟨b,e,_⟩:=h;exact⟨_,e⟩
 |dT kvs=>obtain⟨b,e,_⟩:=h;exact⟨_,e⟩
 |fT kvs=>obtain⟨b,d,e,_⟩:=h;exact⟨_,e⟩
 |dI kvs=>obtain⟨b,e,_⟩:=h;exact⟨_,e⟩
 |dP ks=>obtain⟨b,e,_⟩:=h;exact⟨_,e⟩
 |dead=>exact h.elim
 |tab=>obtain⟨_,c,e,_⟩:=h;exact⟨_,e⟩
theorem OAt.ext{K:Fg}(e:Ext ρ H ρ' H')(same:H' a=H a)(h:OAt K ρ H x a):OAt K ρ' H' x a:=by
 cases x with
 |lst xs=>obtain⟨b,q,r⟩:=h;exact⟨b,by rw[same];exact q,r.ext e⟩
 |dT kvs=>obtain⟨b,q,r⟩:=h;exact⟨b,by rw[same];exact q,r.ext e⟩
 |fT kvs=>obtain⟨b,f,q,r⟩:=h;exact⟨b,f,by rw[same];exact q,r.ext e⟩
 |dI kvs=>obtain⟨b,q,r⟩:=h;exact⟨b,by rw[same];exact q,r.ext e⟩
 |dP ks=>obtain⟨b,q,n,l,u,r⟩:=h;exact⟨b,by rw[same];exact q,n,l,u,r.map λ_ _ z=>z.ext e⟩
 |dead=>exact h.elim
 |tab=>obtain⟨c,d,q,r⟩:=h;exact⟨c,d,by rw[same];exact q,r.map e.frz⟩
theorem Rep.has{K:Fg}{n:Nat}(r:Rep K ρ au H)(h:ρ.m[n]?=some (some a)):∃x,au[n]?=some x/\OAt K ρ H x a:=by
 have b:n<au.length:=by rw[←r.len];exact(xbh.mp h).1
 exact⟨au[n],xbd b,r.obj n a _ h (xbd b)⟩
theorem Rep.new{K:Fg}(r:Rep K ρ au H)(c:H p=none)(o:HO):Rep K ρ au (upd H p o):=⟨r.len,r.inj,λm b x d e=>by
 have q:=r.obj m b x d e;obtain⟨u,a⟩:=q.has;exact q.ext (Ext.new c o) (zu (zn a c)),λb f=>by
 obtain⟨⟨u,a⟩,n⟩:=r.gh b f
 exact⟨⟨u,by rw[zu (zn a c)];exact a⟩,n⟩,r.live⟩
theorem Rep.wr{K:Fg}(r:Rep K ρ au H)(h:ρ.m[n]?=some (some a))(k:∀l u,H a≠some (.frz l u)) (q:OAt K ρ (upd H a o) x a):Rep K ρ (au.set n x) (upd H a o):=⟨by rw[r.len,xdn],r.inj,λm b y c d=>by
 by_cases hm:m=n
 ·subst hm;have f:b=a:=by rw[h] at c;exact(xde (xde c)).symm
  subst f;have p:m<au.length:=by rw[←r.len];exact(xbh.mp h).1
  rw[xfh p] at d;cases d;exact q
 ·rw[xcb (xfj hm)] at d;refine(r.obj m b y c d).ext (Ext.wr h k o) (zu λz=>hm ?_);subst z;exact r.inj m n b c h,λb f=>by
 obtain⟨⟨u,j⟩,g⟩:=r.gh b f;refine⟨⟨u,?_⟩,g⟩;rw[zu]
 ·exact j
 ·rintro rfl;exact g (xbu h),λm y e i=>by
 by_cases hm:m=n
 ·subst hm;exact⟨a,h⟩
 ·rw[xcb (xfj hm)] at e
  exact r.live m y e i⟩
theorem Rep.alloc{K:Fg}(r:Rep K ρ au H)(d:H p=none) (q:Ext ρ H ⟨ρ.m++[some p],ρ.g⟩ (upd H p o)->OAt K ⟨ρ.m++[some p],ρ.g⟩ (upd H p o) x p):Ext ρ H ⟨ρ.m++[some p],ρ.g⟩ (upd H p o)/\Rep K ⟨ρ.m++[some p],ρ.g⟩ (au++[x]) (upd H p o):=by
 have i:∀(m:Nat) (b:Addr),(ρ.m++[some p])[m]?=some (some b)->(m < ρ.m.length/\ρ.m[m]?=some (some b))\/(m=ρ.m.length/\b=p):=λm b e=>by
  rcases xij m ρ.m.length with z|z
  ·rw[xcg z] at e;exact .inl ⟨z,e⟩
  ·rw[xdi z] at e;have s:m-ρ.m.length=0:=by
    have:=(xbh.mp e).1;simp at this;lia
   rw[s] at e;simp at e;exact .inr ⟨by lia,e.symm⟩
 have v:∀(m:Nat),ρ.m[m]?≠some (some p):=λm e=>by
  obtain⟨x,_,q⟩:=r.has e;obtain⟨u,a⟩:=q.has;rw[d] at a;cases a
 have E:Ext ρ H ⟨ρ.m++[some p],ρ.g⟩ (upd H p o):=⟨by rw[xbl];lia,λm b h e=>by
   rw[xcg h] at e;exact e,λb u e m=>⟨by rw[zu (zn e d)];exact e,λz=>by
   rcases xca.mp z with z|z
   ·exact m z
   ·simp at z;subst z;rw[d] at e;cases e⟩,rfl,λb G u e=>by rw[zu (zn e d)];exact e⟩
 refine⟨E,⟨by rw[xbl,xbl,r.len];rfl,λm k b j c=>?_,λm b y j c=>?_,λb l=>?_,λm y e C=>?_⟩⟩
 ·rcases i m b j with⟨f,g⟩|⟨f,rfl⟩
  ·rcases i k b c with⟨n,t⟩|⟨n,rfl⟩
   ·exact r.inj m k b g t
   ·exact absurd g (v m)
  ·rcases i k b c with⟨n,t⟩|⟨n,_⟩
   ·exact absurd t (v k)
   ·lia
 ·rcases i m b j with⟨f,g⟩|⟨f,rfl⟩
  ·rw[xcg (by rw[←r.len];exact f)] at c;have q:=r.obj m b y g c;obtain⟨u,a⟩:=q.has;exact q.ext E (zu (zn a d))
  ·rw[f,r.len,xdi (xbj _)] at c;simp at c;subst c;exact q E
 ·obtain⟨⟨u,a⟩,w⟩:=r.gh b l;refine⟨⟨u,by rw[zu (zn a d)];exact a⟩,λz=>?_⟩;rcases xca.mp z with z|z
  ·exact w z
  ·simp at z;subst z;rw[d] at a;cases a
 ·rcases xij m au.length with z|z
  ·rw[xcg z] at e;obtain⟨b,l⟩:=r.live m y e C;exact⟨b,by rw[xcg (by rw[r.len];exact z)];exact l⟩
  ·have s:=(xbh.mp e).1;simp at s;have A:m=ρ.m.length:=by rw[r.len];lia
   exact⟨p,by rw[A,xdi (xbj _)];simp⟩
theorem Rep.kill{K:Fg}(r:Rep K ρ au H)(h:n < ρ.m.length):Ext ρ H ⟨ρ.m.set n none,ρ.g⟩ H/\Rep K ⟨ρ.m.set n none,ρ.g⟩ (au.set n .dead) H:=by
 have c:∀(m:Nat) (b:Addr),(ρ.m.set n none)[m]?=some (some b)->m≠n/\ρ.m[m]?=some (some b):=λm b e=>by
  by_cases z:m=n
  ·subst z;rw[xfh h] at e;simp at e
  ·rw[xcb (xfj z)] at e;exact⟨z,e⟩
 have E:Ext ρ H ⟨ρ.m.set n none,ρ.g⟩ H:=⟨by rw[xdn];exact xbj _,λm b _ e=>(c m b e).2,λb o e m=>⟨e,λz=>by
  obtain⟨i,g,a⟩:=xev z;have:(ρ.m.set n none)[i]?=some (some b):=by rw[xbd g,a]
  exact m (xbu (c i b this).2)⟩,rfl,λ_ _ _ e=>e⟩
 refine⟨E,⟨by rw[xdn,xdn,r.len],λm k b f a=>r.inj m k b (c m b f).2 (c k b a).2,λm b y f a=>?_,λb d=>⟨(r.gh b d).1,λz=>?_⟩,λm y e j=>?_⟩⟩
 rotate_left
 ·obtain⟨i,g,a⟩:=xev z;have:(ρ.m.set n none)[i]?=some (some b):=by rw[xbd g,a]
  exact(r.gh b d).2 (xbu (c i b this).2)
 ·have z:m≠n:=by
   rintro rfl;rw[xfh (by rw[←r.len];exact h)] at e;cases e;exact j rfl
  rw[xcb (xfj z)] at e;obtain⟨b,d⟩:=r.live m y e j;exact⟨b,by rw[xcb (xfj z)];exact d⟩
 obtain⟨z,q⟩:=c m b f;rw[xcb (xfj z)] at a;exact(r.obj m b y q a).ext E rfl
theorem zlb{K:Fg}(r:Rep K ρ au H)(c:H p=none):Out ρ p:=by
 refine⟨λz=>?_,λz=>?_⟩
 ·obtain⟨i,d,e⟩:=xev z;obtain⟨x,_,q⟩:=r.has (n:=i) (a:=p) (by rw[xbd d,e]);obtain⟨u,b⟩:=q.has;rw[c] at b;cases b
 ·obtain⟨⟨u,b⟩,_⟩:=r.gh p z;rw[c] at b;cases b
theorem At.newT{K:Fg}(r:Rep K ρ au H)(a:H p=none) (h:AtAll K ρ H ds vs):At K ρ (upd H p (.tup vs)) (.tup ds) (.ref p):=.tup zt (zlb r a) (h.ext (Ext.new a _))
theorem At.newL{K:Fg}(r:Rep K ρ au H)(a:H p=none) (h:AtAll K ρ H ds vs):At K ρ (upd H p (.lst vs)) (.lst ds) (.ref p):=.lst zt (zlb r a) (h.ext (Ext.new a _))
def eAnd(f c:SE):SE:=λσ b=>(f σ b).bind λv a=>match v with
 |.bl true=>c σ a
 |.bl false=>.ok (.bl false) a
 |_=>.stuck
def eOr(f c:SE):SE:=λσ b=>(f σ b).bind λv a=>match v with
 |.bl true=>.ok (.bl true) a
 |.bl false=>c σ a
 |_=>.stuck
def eNot(f:SE):SE:=λσ c=>(f σ c).bind λv a=>match v with
 |.bl b=>.ok (.bl (!b)) a
 |_=>.stuck
def bAnd(f d:ST):ST:=λσ c=>(f σ c).bind λb a=>if b=true then d σ a else .ok false a
def bOr(f d:ST):ST:=λσ c=>(f σ c).bind λb a=>if b=true then .ok true a else d σ a
def bNot(f:ST):ST:=λσ c=>(f σ c).bind λb a=>.ok (!b) a
def eIf(c:ST) (f e:SE):SE:=λσ d=>(c σ d).bind λb a=>if b=true then f σ a else e σ a
theorem zbyw{op}(h:DE X a f):DE X (.BoolOp op [a] pos) f:=zbsv h
section
variable {X:Cx}{a:Expr}{b:Expr}{rest:List Expr}{f:SE}{f':SE}{pos:Pos}
theorem zbzd(t:DE X a f)(o:DE X (.BoolOp .And (b::rest) pos) f'):DE X (.BoolOp .And (a::b::rest) pos) (eAnd f f'):=zfh (zbsz t o) λτ H Q j=>by
 obtain⟨ρ,σ,w,v,h,d,r,e,q⟩:=j;obtain⟨x,g,l,e⟩:=za e;refine⟨ρ,σ,w,x,g,d,r,l,λn H1 u i c p=>?_⟩;cases x<;>try (cases e;done)
 rename_i k;cases p;refine⟨k,rfl,?_⟩;cases k with
 |true=>
  rw[if_pos rfl];exact⟨n,σ,g,v,h,d.ext i,c,e,λy s u m=>q y s u (i.trans m)⟩
 |false=>
  rw[if_neg (by decide)];cases e;exact q _ _ _ i c (.bl false)
end
theorem zbyx(m:DE X a f):DE X (.UnaryOp .Not a pos) (eNot f):=zfh (zbsw m) λτ H Q d=>by
 obtain⟨ρ,σ,n,v,i,c,l,e,q⟩:=d;obtain⟨x,g,h,e⟩:=za e;refine⟨ρ,σ,n,x,g,c,l,h,λp H1 u j b o=>?_⟩;cases x<;>try (cases e;done)
 rename_i k;cases o;cases e;exact⟨k,rfl,q _ _ _ j b (.bl _)⟩
theorem zbuq{op}(h:DT X a t)(b:op=.And\/op=.Or):DW X (.BoolOp op [a] pos) t:=by
 rcases b with rfl|rfl
 ·exact pw_and1 h
 ·exact pw_or1 h
section
variable {X:Cx}{a:Expr}{b:Expr}{rest:List Expr}{t:ST}{t':ST}{pos:Pos}
theorem zbur(p:DT X a t)(m:DW X (.BoolOp .And (b::rest) pos) t'):DW X (.BoolOp .And (a::b::rest) pos) (bAnd t t'):=pw_to (pw_and p m) λτ H Q i=>by
 obtain⟨ρ,σ,r,v,g,d,n,e,q⟩:=i;obtain⟨x,f,j,e⟩:=za e;refine⟨ρ,σ,r,x,f,d,n,j,λl H1 h c=>?_⟩;cases x with
 |true=>exact iteT ⟨l,σ,f,v,g,d.ext h,c,e,λs o k=>q s o (h.trans k)⟩
 |false=>cases e;exact iteF (q _ _ h c)
theorem zbyp(p:DT X a t)(m:DW X (.BoolOp .Or (b::rest) pos) t'):DW X (.BoolOp .Or (a::b::rest) pos) (bOr t t'):=pw_to (pw_or p m) λτ H Q i=>by
 obtain⟨ρ,σ,r,v,g,d,n,e,q⟩:=i;obtain⟨x,f,j,e⟩:=za e;refine⟨ρ,σ,r,x,f,d,n,j,λl H1 h c=>?_⟩;cases x with
 |false=>exact iteF ⟨l,σ,f,v,g,d.ext h,c,e,λs o k=>q s o (h.trans k)⟩
 |true=>cases e;exact iteT (q _ _ h c)
end
theorem zbut(k:DT X a t):DT X (.UnaryOp .Not a pos) (bNot t):=zbkg (zbsj k) λτ H Q d=>by
 obtain⟨ρ,σ,l,v,g,c,j,e,q⟩:=d;obtain⟨x,i,f,e⟩:=za e;cases e;exact⟨ρ,σ,l,x,_,c,j,f,λm H1 h b=>q _ _ h b⟩
theorem d_if(r:DT X c t)(y:DE X a f)(s:DE X b f'):DE X (.IfExp c a b pos) (eIf t f f'):=zfh (zbgc r y s) λτ H Q l=>by
 obtain⟨ρ,σ,z,v,h,d,w,e,q⟩:=l;obtain⟨x,g,p,e⟩:=za e;refine⟨ρ,σ,z,x,g,d,w,p,λo H1 j i=>?_⟩;cases x with
 |true=>exact iteT ⟨o,σ,g,v,h,d.ext j,i,e,λn m u k=>q n m u (j.trans k)⟩
 |false=>exact iteF ⟨o,σ,g,v,h,d.ext j,i,e,λn m u k=>q n m u (j.trans k)⟩
def aC:SA:=λ_ a=>.ok [] a
def aB(f:SE) (g:SA):SA:=λσ c=>(f σ c).bind λx b=>(g σ b).bind λd a=>.ok (x::d) a
def aR(g:SA):SE:=λσ c=>(g σ c).bind λb a=>if b.length<=sizeLine then .ok (.tup b) a else .stuck
def eLst(g:SA):SE:=λσ c=>(g σ c).bind λb a=>if b.length<=sizeLine then .ok (.lst b) a else .stuck
def eLstM(g:SA):SE:=λσ c=>(g σ c).bind λb a=>if b.length<=sizeLine then .ok (.ref a.length) (a++[.lst b]) else .stuck
theorem zbvf:DA X [] aC:=zbwv zbmq λτ H Q b=>by
 obtain⟨ρ,σ,f,v,d,a,c,e,q⟩:=b;cases e;exact q _ _ _ (.refl _ _) c .nil
theorem zbpl(m:DE X e f)(r:DA X es g)(z:starEach (e::es) X.env=(false,eval e X.env)::starEach es X.env:=by rfl):DA X (e::es) (aB f g):=zbwv (zbcv m r z) λτ H Q h=>by
 obtain⟨ρ,σ,s,v,o,a,A,e,q⟩:=h;obtain⟨x,b,k,e⟩:=za e;obtain⟨y,p,l,e⟩:=za e;cases e;refine⟨ρ,σ,s,x,b,a,A,k,λC H1 u j c t=>?_⟩;exact⟨C,σ,b,y,_,a.ext j,c,l,λE H2 w i d n=>q _ _ _ (j.trans i) d (.cons (t.ext i) n)⟩
theorem zbyt{c}(h:DA X es g):DE X (.Tuple es c pos) (aR g):=zfh (zbsu h) λτ H Q f=>by
 obtain⟨ρ,σ,o,v,l,a,n,e,q⟩:=f;obtain⟨x,m,j,e⟩:=za e;split at e
 ·rename_i r;cases e;refine⟨ρ,σ,o,x,_,a,n,j,λk H1 u c b i=>⟨by rw[i.length];exact r,λp d=>?_⟩⟩;exact q k _ _ (c.trans (Ext.new d _)) (b.new d _) (.newT b d i)
 ·cases e
theorem zbyz(h:DA X es g):DE X (.List es pos) (eLst g):=zfh (zbmi h) λτ H Q d=>by
 obtain⟨ρ,σ,o,v,k,a,n,e,q⟩:=d;obtain⟨x,m,i,e⟩:=za e;split at e
 ·rename_i r;cases e;refine⟨ρ,σ,o,x,_,a,n,i,λj H1 u l b f=>⟨by rw[f.length];exact r,λp c=>?_⟩⟩;exact q j _ _ (l.trans (Ext.new c _)) (b.new c _) (.newL b c f)
 ·cases e
theorem At.last{K:Fg}{ρ:Loc}(h:n=ρ.m.length):At K ⟨ρ.m++[some p],ρ.g⟩ H (.ref n) (.ref p):=by
 subst h;refine .ref (by simp) λa e=>?_
 simp at e;rw[e]
theorem zbvh(h:DA X es g):DE X (.List es pos) (eLstM g):=zfh (zbmi h) λτ H Q c=>by
 obtain⟨ρ,σ,n,v,i,a,m,e,q⟩:=c;obtain⟨x,l,f,e⟩:=za e;split at e
 ·rename_i r;cases e;refine⟨ρ,σ,n,x,_,a,m,f,λs H1 u j b d=>⟨by rw[d.length];exact r,λp k=>?_⟩⟩;obtain⟨E,R⟩:=b.alloc k (x:=.lst x) (o:=.lst u) λE=>⟨u,zt,d.ext E⟩
  exact q _ _ _ (j.trans E) R (.last b.len.symm)
 ·cases e
def asL(a:Store):D->Option (List D)
 |.lst xs=>some xs
 |.ref n=>match a[n]? with
  |some (.lst xs)=>some xs
  |_=>none
 |_=>none
theorem zdu{K:Fg}(c:Rep K ρ au H) (a:At K ρ H (.ref n) u)(e:au[n]?=some o)(d:o≠.dead):∃p,u=.ref p/\ρ.m[n]?=some (some p)/\OAt K ρ H o p:=by
 cases a with
 |ref h1 h2=>
  obtain⟨p,b⟩:=c.live n o e d;exact⟨p,h2 p b,b,c.obj n p o b e⟩
theorem zfs{K:Fg}(g:Rep K ρ au H)(a:At K ρ H d u)(e:asL au d=some xs):∃p vs,u=.ref p/\H p=some (.lst vs)/\AtAll K ρ H xs vs:=by
 cases d<;>try (cases e;done)
 ·rename_i n;unfold asL at e;dsimp only at e;split at e
  ·rename_i i b;cases e;obtain⟨p,rfl,h,vs,c,f⟩:=zdu g a b (by intro z;cases z);exact⟨p,vs,rfl,c,f⟩
  ·cases e
 ·cases e;cases a with
  |lst h1 h2 h3=>exact⟨_,_,rfl,h1,h3⟩
def oI(C:Int->Int->Prop) [DecidableRel C] (h:Int->Int->D) (x y:D) (a:Store):Res D:=match x,y with
 |.int i,.int j=>if C i j then .ok (h i j) a else .stuck
 |_,_=>.stuck
theorem oI_D{K:Fg} [DecidableRel C] (k:∀i j ρ H,At K ρ H (h i j) (g i j)):OpD K (oI C h) (rI C g):=λρ H l x y u v z d Q c a b e q=>by
 unfold oI at e;split at e
 ·cases a;cases b;split at e
  ·rename_i f;cases e;exact⟨_,_,rfl,rfl,f,q _ _ _ (.refl _ _) c (k _ _ _ _)⟩
  ·cases e
 ·cases e
theorem zss{K:Fg}(k:∀i j ρ H,At K ρ H (h i j) (g i j)):OpD K (oI (λ_ _=>True) h) (rI0 g):=λρ H n x y u v z c Q l a b e q=>by
 obtain⟨i,j,d,f,_,m⟩:=oI_D (C:=λ_ _=>True) k ρ H n x y u v z c Q l a b e q;exact⟨i,j,d,f,m⟩
instance:DecidableRel CMul:=λi j=>by unfold CMul;infer_instance
instance:DecidableRel CDivP:=λi j=>by unfold CDivP;infer_instance
instance:DecidableRel CPow:=λi j=>by unfold CPow;infer_instance
abbrev oSub:=oI (λ_ _=>True) λi j=>.int (i-j)
abbrev oFdiv:=oI CDivP λi j=>.int (i/j)
abbrev oMod:=oI (λ_ j=>0<j) λi j=>.int (i%j)
abbrev oAndI:=oI (λ_ _=>True) λi j=>.int (Builtin.bitAnd i j)
abbrev oPow:=oI CPow λi j=>.int (i^j.toNat)
abbrev oMulI:=oI CMul λi j=>.int (i*j)
def aM(x y:D) (c:Store):Res D:=match x,y with
 |.int i,.int j=>.ok (.int (i+j)) c
 |.tup a,.tup b=>if a.length+b.length<=sizeLine then .ok (.tup (a++b)) c else .stuck
 |.str a,.str b=>if a.length+b.length<=sizeLine then .ok (.str (a++b)) c else .stuck
 |x,y=>match asL c x,asL c y with
  |some a,some b=>if a.length+b.length<=sizeLine then .ok (.lst (a++b)) c else .stuck
  |_,_=>.stuck
abbrev rAddA(K:Fg):R2:=λx y H Q=>rI0 (λi j=>.int (i+j)) x y H Q\/rCatA K x y H Q\/(∃i j,x=.str i/\y=.str j/\i.length+j.length<=sizeLine/\Q (.str (i++j)) H)\/rCat x y H Q
theorem zbmy:OpR X (binaryOp .Add) (rAddA X.K):=zbti.or (zbmx.or (zva.or zbth))
theorem zbtm{K:Fg}:OpD K aM (rAddA K):=λρ H C x y u v z o Q c a b e q=>by
 unfold aM at e;split at e
 ·cases a;cases b;cases e;exact .inl ⟨_,_,rfl,rfl,q _ _ _ (.refl _ _) c (.int _)⟩
 ·rename_i s w;split at e
  ·rename_i d;cases e;refine .inr (.inl ?_);cases a with
   |tup f i h3=>
    cases b with
    |tup g h k3=>
     refine⟨_,_,_,_,rfl,rfl,SqT.of f,SqT.of g,by rw[h3.length,k3.length];exact d,λz=>?_,λn m=>?_,λn m p k=>?_⟩
     ·subst z;cases h3;exact q _ _ _ (.refl _ _) c (.tup g h k3)
     ·subst m;cases k3;rw[xec] at q;exact q _ _ _ (.refl _ _) c (.tup f i h3)
     ·exact q _ _ _ (Ext.new k _) (c.new k _) (.newT c k (h3.append k3))
  ·cases e
 ·split at e
  ·rename_i d;cases a;cases b;cases e;exact .inr (.inr (.inl ⟨_,_,rfl,rfl,d,q _ _ _ (.refl _ _) c (.str _)⟩))
  ·cases e
 ·split at e
  ·rename_i f i;split at e
   ·rename_i d;cases e;obtain⟨p,E,rfl,r,l⟩:=zfs c a f;obtain⟨A,G,rfl,g,h⟩:=zfs c b i;exact .inr (.inr (.inr ⟨_,_,_,_,rfl,rfl,r,g,by rw[l.length,h.length];exact d,λt j=>q _ _ _ (Ext.new j _) (c.new j _) (.newL c j (l.append h))⟩))
   ·cases e
  ·cases e
abbrev oLe:=oI (λ_ _=>True) λi j=>.bl (decide (i<=j))
abbrev oGt:=oI (λ_ _=>True) λi j=>.bl (decide (j<i))
abbrev oGe:=oI (λ_ _=>True) λi j=>.bl (decide (j<=i))
mutual
noncomputable def toData:D->Option PyData
 |.non=>some .none
 |.bl b=>some (.bool b)
 |.int i=>some (.int i)
 |.str x=>some (.str x)
 |.tup ds=>(toDatas ds).map .tuple
 |.lst ds=>(toDatas ds).map .list
 |_=>none
noncomputable def toDatas:List D->Option (List PyData)
 |[]=>some []
 |d::ds=>(toData d).bind λx=>(toDatas ds).map λa=>x::a
end
mutual
theorem zbee{K:Fg}{ρ:Loc}{H:Hp}:∀{d:D}{v:V}{p:PyData},At K ρ H d v->toData d=some p->DAt K H v p
 |_,_,_,.non,e=>by cases e;exact .non
 |_,_,_,.bl b,e=>by cases e;exact .bl b
 |_,_,_,.int i,e=>by cases e;exact .int i
 |_,_,_,.str x,e=>by cases e;exact .str x
 |_,_,_,.ty n,e=>by cases e
 |_,_,_,.exn _,e=>by cases e
 |_,_,_,.ref _ _,e=>by cases e
 |_,_,_,.tup h _ al,e=>by
  rw[toData] at e;obtain⟨c,a,rfl⟩:=xdb.mp e;exact .tup (SqT.of h) (zlq al a)
 |_,_,_,.lst h _ al,e=>by
  rw[toData] at e;obtain⟨c,a,rfl⟩:=xdb.mp e;exact .lst (SqL.of h) (zlq al a)
 |_,_,_,.scr _ _,e=>by cases e
theorem zlq{K:Fg}{ρ:Loc}{H:Hp}:∀{d:List D}{v:List V}{p:List PyData},AtAll K ρ H d v->toDatas d=some p->DAll K H v p
 |_,_,_,.nil,e=>by cases e;exact .nil
 |_,_,_,.cons a b,e=>by
  rw[toDatas] at e;obtain⟨x,c,e⟩:=xft.mp e;obtain⟨g,f,rfl⟩:=xdb.mp e;exact .cons (zbee a c) (zlq b f)
end
def now(a:Store) (d:D):D:=match asL a d with
 |some xs=>.lst xs
 |none=>d
def dataOf(a:Store) (d:D):Option PyData:=toData (now a d)
theorem zeq{K:Fg}(g:Rep K ρ au H) (a:At K ρ H d u)(e:dataOf au d=some p):DAt K H u p:=by
 unfold dataOf now at e;split at e
 ·rename_i j c;obtain⟨q,k,rfl,h,f⟩:=zfs g a c;rw[toData] at e;obtain⟨i,b,rfl⟩:=xdb.mp e;exact .lst (SqL.of h) (zlq f b)
 ·exact zbee a e
def oEqG(d:Bool) (x y:D) (c:Store):Res D:=match dataOf c x,dataOf c y with
 |some a,some b=>if PySem.SeqAt.shaped a=true/\PySem.SeqAt.shaped b=true then .ok (.bl (if d then !PyData.eqv a b else PyData.eqv a b)) c else .stuck
 |_,_=>.stuck
theorem zst{K:Fg}:OpD K (oEqG neg) (rEqX K neg):=λρ H i x y u v z f Q c a b e q=>by
 unfold oEqG at e;split at e
 ·rename_i j k h g;split at e
  ·rename_i d;cases e;exact⟨_,_,zeq c a h,zeq c b g,d.1,d.2,q _ _ _ (.refl _ _) c (.bl _)⟩
  ·cases e
 ·cases e
abbrev oEq:=oEqG false
abbrev oNe:=oEqG true
noncomputable def asInts:List D->Option (List Int)
 |[]=>some []
 |.int i::r=>(asInts r).map (i::·)
 |_::_=>none
theorem zdq{K:Fg}:∀{c:List D}{g:List V}{f:List Int},AtAll K ρ H c g->asInts c=some f->g=f.map V.int
 |_,_,_,.nil,e=>by cases e;rfl
 |_,_,_,.cons (d:=d) a b,e=>by
  cases d<;>try (cases e;done)
  rw[asInts] at e;obtain⟨i,h,rfl⟩:=xdb.mp e;cases a;rw[zdq b h]
  rfl
def oLtT(x y:D) (c:Store):Res D:=match x,y with
 |.int i,.int j=>.ok (.bl (decide (i<j))) c
 |.tup a,.tup b=>match asInts a,asInts b with
  |some ns,some ms=>.ok (.bl (HT.lexLt ns ms)) c
  |_,_=>.stuck
 |_,_=>.stuck
abbrev rLtA(K:Fg):R2:=λx y H Q=>rI0 (λi j=>.bl (decide (i<j))) x y H Q\/rLtT K x y H Q
theorem zsg{X:Cx}(a:X.A.units<cLine):OpR X (compareOp .Lt) (rLtA X.K):=zbxy.or (zbte a)
theorem zsr{K:Fg}:OpD K oLtT (rLtA K):=λρ H j x y u v z f Q c a b e q=>by
 unfold oLtT at e;split at e
 ·cases a;cases b;cases e
  exact .inl ⟨_,_,rfl,rfl,q _ _ _ (.refl _ _) c (.bl _)⟩
 ·split at e
  ·rename_i i g;cases e;cases a with
   |tup g1 g2 g3=>
    cases b with
    |tup k1 k2 k3=>
     have d:=zdq g3 i;have h:=zdq k3 g;subst d h;exact .inr ⟨_,_,_,_,rfl,rfl,SqT.of g1,SqT.of k1,q _ _ _ (.refl _ _) c (.bl _)⟩
  ·cases e
 ·cases e
def seqOf(a:Store):D->Option (List D)
 |.tup xs=>some xs
 |.scr xs=>some xs
 |d=>asL a d
theorem zkr{K:Fg}(f:Rep K ρ au H) (a:At K ρ H d u)(e:seqOf au d=some xs):
  ∃p vs,u=.ref p/\(SqL K H p vs\/SqT K H p vs)/\AtAll K ρ H xs vs:=by
 unfold seqOf at e;split at e
 ·cases e;cases a with
  |tup b c h3=>exact⟨_,_,rfl,.inr (SqT.of b),h3⟩
 ·cases e;cases a with
  |scr b h3=>exact⟨_,_,rfl,.inl b.sq,h3⟩
 ·obtain⟨p,vs,rfl,b,c⟩:=zfs f a e;exact⟨p,vs,rfl,.inl (SqL.of b),c⟩
theorem AtAll.atI{K:Fg}(h:AtAll K ρ H ds vs)(e:L2.atI ds i=some d):∃v,L2.atI vs i=some v/\At K ρ H d v:=by
 unfold L2.atI at e ⊢;rw[h.length];cases hi:ixN ds.length i with
 |none=>rw[hi] at e;cases e
 |some j=>
  rw[hi] at e;obtain⟨v,a,b⟩:=h.get (i:=j) e;exact⟨v,a,b⟩
def oIx(x y:D) (a:Store):Res D:=match seqOf a x,y with
 |some xs,.int i=>match L2.atI xs i with
  |some v=>.ok v a
  |none=>.stuck
 |_,_=>.stuck
theorem zbyd{K:Fg}:OpD K oIx (rIx K):=λρ H m x y u v z g Q c a b e q=>by
 unfold oIx at e;split at e
 ·rename_i i;split at e
  ·rename_i w h;cases e;cases b;obtain⟨p,l,rfl,h2,j⟩:=zkr c a i;obtain⟨k,d,f⟩:=j.atI h;rcases h2 with h2|h2
   ·exact .inl ⟨_,_,_,_,rfl,rfl,h2,d,q _ _ _ (.refl _ _) c f⟩
   ·exact .inr (.inl ⟨_,_,_,_,rfl,rfl,h2,d,q _ _ _ (.refl _ _) c f⟩)
  ·cases e
 ·cases e
def cutD(a:List D) (lo b:Option Int):List D:=(a.drop (HT.sIx a.length 0 lo)).take (HT.sIx a.length a.length b-HT.sIx a.length 0 lo)
theorem AtAll.cut{K:Fg}(h:AtAll K ρ H ds vs)(lo a:Option Int):AtAll K ρ H (cutD ds lo a) (cutV vs lo a):=by
 unfold cutD cutV;rw[h.length];exact(h.drop _).take _
def pNone:DS->Store->Res (Option Int):=λ_ a=>.ok none a
def pSome(f:SE):DS->Store->Res (Option Int):=λσ b=>(f σ b).bind λv a=>match v with
 |.int i=>.ok (some i) a
 |_=>.stuck
def eSl(f:SE) (lo d:DS->Store->Res (Option Int)):SE:=λσ e=>(f σ e).bind λx b=>(lo σ b).bind λl c=>(d σ c).bind λh a=>match x with
 |.tup xs=>.ok (.tup (cutD xs l h)) a
 |x=>match asL a x with
  |some xs=>.ok (.lst (cutD xs l h)) a
  |none=>.stuck
def tDO(K:Fg) (f:DS->Store->Res (Option Int)):TO:=λτ H Q=>∃ρ σ c v a,AtS K ρ H σ τ/\Rep K ρ c H/\f σ c=.ok v a/\∀d b,Ext ρ H d b->Rep K d a b->Q v b
abbrev DO(X:Cx) (e:Option Expr) (f:DS->Store->Res (Option Int)):Prop:=PO X e (tDO X.K f)
theorem zbwt(h:PO X e t)(k:∀σ H Q,t' σ H Q->t σ H Q):PO X e t':=λa s σ H Q I q=>h a s σ H Q I (k _ _ _ q)
theorem zbpd:DO X none pNone:=zbwt zbma λτ H Q b=>by
 obtain⟨ρ,σ,f,v,d,a,c,e,q⟩:=b;cases e;exact q _ _ (.refl _ _) c
theorem zbpc(j:DE X e f):DO X (some e) (pSome f):=zbwt (zblz j) λτ H Q c=>by
 obtain⟨ρ,σ,l,v,h,a,k,e,q⟩:=c;obtain⟨x,d,g,e⟩:=za e;refine⟨ρ,σ,l,x,d,a,k,g,λn H1 u i b m=>?_⟩;cases x<;>try (cases e;done)
 cases e;cases m;exact⟨_,rfl,q _ _ i b⟩
theorem d_ix(c:DE X a f)(d:DE X b f')(e:PlainIx b):DE X (.Subscript a b pos) (aS oIx f f'):=zfh (zbxv zbuf c d e) (zbre zbyd)
section
variable {X:Cx}{a:Expr}{e:Expr}{f:SE}{pos:Pos}{lo:Option Expr}{hi:Option Expr}{l:DS->Store->Res (Option Int)}{h:DS->Store->Res (Option Int)}
theorem d_sl{G:Pos}(E:DE X e f)(I:DO X lo l)(A:DO X hi h):DE X (.Subscript e (.Slice lo hi none G) pos) (eSl f l h):=zfh (zbgb (zblh.or zbli) E I A) λτ H Q r=>by
 obtain⟨ρ,σ,U,v,P,a,rp,e,q⟩:=r;obtain⟨x,d,w,e⟩:=za e;obtain⟨y,g,C,e⟩:=za e;obtain⟨z,m,e3,e⟩:=za e;refine⟨ρ,σ,U,x,d,a,rp,w,λρ1 H1 u o i Y=>?_⟩;refine⟨ρ1,σ,d,y,g,a.ext o,i,C,λJ H2 n k=>?_⟩;refine⟨J,σ,g,z,m,a.ext (o.trans n),k,e3,λρ3 H3 t b=>?_⟩;have s:=Y.ext (n.trans t);have j:=o.trans (n.trans t);split at e
 ·cases e;refine .inl ?_;cases s with
  |tup h1 h2 h3=>
   refine⟨_,_,rfl,SqT.of h1,λec=>?_,λp c=>?_⟩
   ·refine q _ _ _ j b (.tup h1 h2 ?_);have:=h3.cut y z;rw[ec] at this;exact this
   ·exact q _ _ _ (j.trans (Ext.new c _)) (b.new c _) (.newT b c (h3.cut y z))
 ·split at e
  ·rename_i xs S;cases e;obtain⟨p,vs,rfl,g1,g2⟩:=zfs b s S;exact .inr ⟨_,_,rfl,SqL.of g1,λp c=>q _ _ _ (j.trans (Ext.new c _)) (b.new c _) (.newL b c (g2.cut y z))⟩
  ·cases e
end
end Dd
namespace Dd
open L2
def aE(g:List D->Store->Res D) (f:SA):SE:=λσ b=>(f σ b).bind λc a=>g c a
def CaD(K:Fg) (g:List D->Store->Res D) (r:List V->Hp->VK->Prop):Prop:=
 ∀ρ H f e d z a (Q:VK),Rep K ρ f H->AtAll K ρ H e d->g e f=.ok z a->(∀c b w,Ext ρ H c b->Rep K c a b->At K c b z w->Q w b)->r d H Q
theorem zbvt{K:Fg}(s:CaD K g r):∀τ H Q,tD K (aE g f) τ H Q->tCB r (tDA K f) τ H Q:=λτ H Q h=>by
 obtain⟨ρ,σ,p,v,c,a,o,e,q⟩:=h;obtain⟨x,b,i,e⟩:=za e;exact⟨ρ,σ,p,x,b,a,o,i,λk H1 u m d l=>s k H1 b x u v c Q d l e λt n w j=>q t n w (m.trans j)⟩
theorem zbpt{x:Str}{id:String}(d:CallR X (.builtin id) r)(l:CaD X.K g r)(c:Gl X x)(h:X.mg x=none)(m:bootBuiltins x=some (.builtin id))(k:DA X (e::es) f)(j:x≠"__name__":=by decide)(a:(x==("__debug__" : Str))=false:=by decide)
 (i:starEach (e::es) X.env=(false,eval e X.env)::starEach es X.env:=by rfl)(b:(backTo pos (starEach es X.env)).any (·.1)=false:=by rfl):DE X (.Call (.Name x p) (e::es) [] pos) (aE g f):=zfh (zuw d c h m k j a i b) (zbvt l)
theorem zbjf{T:String}(d:CallR X (.type T) r)(l:CaD X.K g r)(c:Gl X x)(h:X.mg x=none)(m:bootBuiltins x=some (.type T))(k:DA X (e::es) f)(j:x≠"__name__":=by decide)(a:(x==("__debug__" : Str))=false:=by decide)
 (i:starEach (e::es) X.env=(false,eval e X.env)::starEach es X.env:=by rfl)(b:(backTo pos (starEach es X.env)).any (·.1)=false:=by rfl):DE X (.Call (.Name x p) (e::es) [] pos) (aE g f):=zfh (zqi d c h m k j a i b) (zbvt l)
theorem AtAll.one{K:Fg}(h:AtAll K ρ H [d] us):∃u,us=[u]/\At K ρ H d u:=by
 cases h with
 |cons a b=>cases b;exact⟨_,rfl,a⟩
theorem AtAll.two{K:Fg}(h:AtAll K ρ H [d,e] us):∃u v,us=[u,v]/\At K ρ H d u/\At K ρ H e v:=by
 cases h with
 |cons a b=>
  obtain⟨v,rfl,c⟩:=b.one;exact⟨_,_,rfl,a,c⟩
def bLen:List D->Store->Res D:=λb a=>match b with
 |[x]=>match seqOf a x with
  |some ys=>.ok (.int ys.length) a
  |none=>.stuck
 |_=>.stuck
theorem zxt{K:Fg}:CaD K bLen (λd H Q=>∃p b,d=[.ref p]/\(SqL K H p b\/SqT K H p b)/\Q (.int b.length) H):=λρ H m d l z f Q c i e q=>by
 unfold bLen at e;split at e
 ·split at e
  ·rename_i h;cases e;obtain⟨u,rfl,a⟩:=i.one;obtain⟨p,j,rfl,k,g⟩:=zkr c a h;refine⟨p,j,rfl,k,?_⟩;rw[g.length];exact q _ _ _ (.refl _ _) c (.int _)
  ·cases e
 ·cases e
def bAbs:List D->Store->Res D:=λb a=>match b with
 |[.int i]=>.ok (.int (if i<0 then -i else i)) a
 |_=>.stuck
theorem zbwi{K:Fg}:CaD K bAbs (λb H Q=>∃i,b=[.int i]/\Q (.int (if i<0 then -i else i)) H):=λρ H h b g z c Q f d e q=>by
 unfold bAbs at e;split at e
 ·cases e;obtain⟨u,rfl,a⟩:=d.one;cases a;exact⟨_,rfl,q _ _ _ (.refl _ _) f (.int _)⟩
 ·cases e
def b2I(g:Int->Int->Int):List D->Store->Res D:=λb a=>match b with
 |[.int i,.int j]=>.ok (.int (g i j)) a
 |_=>.stuck
theorem zbjs{K:Fg}:CaD K (b2I g) (λc H Q=>∃i j,c=[.int i,.int j]/\Q (.int (g i j)) H):=λρ H l c k z d Q h f e q=>by
 unfold b2I at e;split at e
 ·cases e;obtain⟨u,v,rfl,a,b⟩:=f.two;cases a;cases b;exact⟨_,_,rfl,q _ _ _ (.refl _ _) h (.int _)⟩
 ·cases e
abbrev bMin2:=b2I λi j=>if j<i then j else i
abbrev bMax2:=b2I λi j=>if j > i then j else i
def bSum:List D->Store->Res D:=λb a=>match b with
 |[x]=>match (seqOf a x).bind asInts with
  |some ns=>.ok (.int ns.sum) a
  |none=>.stuck
 |_=>.stuck
theorem zbjr{K:Fg}:CaD K bSum (rSum K):=λρ H n m k z c Q b g e q=>by
 unfold bSum at e;split at e
 ·split at e
  ·rename_i i h;cases e;obtain⟨o,f,h⟩:=xft.mp h;obtain⟨u,rfl,a⟩:=g.one;obtain⟨p,l,rfl,j,d⟩:=zkr b a f;have e:=zdq d h;subst e;exact⟨p,i,rfl,j,q _ _ _ (.refl _ _) b (.int _)⟩
  ·cases e
 ·cases e
noncomputable def asBools:List D->Option (List Bool)
 |[]=>some []
 |.bl i::r=>(asBools r).map (i::·)
 |_::_=>none
theorem znn{K:Fg}:∀{c:List D}{g:List V}{f:List Bool},AtAll K ρ H c g->asBools c=some f->g=f.map V.bl
 |_,_,_,.nil,e=>by cases e;rfl
 |_,_,_,.cons (d:=d) a b,e=>by
  cases d<;>try (cases e;done)
  rw[asBools] at e;obtain⟨i,h,rfl⟩:=xdb.mp e;cases a;rw[znn b h]
  rfl
def bAny(b:Bool):List D->Store->Res D:=λc a=>match c with
 |[x]=>match (asL a x).bind asBools with
  |some bs=>.ok (.bl (if b then bs.all id else bs.any id)) a
  |none=>.stuck
 |_=>.stuck
theorem zbwg{K:Fg}:CaD K (bAny al) (rAny K al):=λρ H n m k z c Q b g e q=>by
 unfold bAny at e;split at e
 ·split at e
  ·rename_i i h;cases e;obtain⟨o,f,h⟩:=xft.mp h;obtain⟨u,rfl,a⟩:=g.one;obtain⟨p,l,rfl,j,d⟩:=zfs b a f;have e:=znn d h;subst e;exact⟨p,i,rfl,SqL.of j,q _ _ _ (.refl _ _) b (.bl _)⟩
  ·cases e
 ·cases e
def tyName(a:Store):D->Option String
 |.non=>some "NoneType"
 |.bl _=>some "bool"
 |.int _=>some "int"
 |.str _=>some "str"
 |.tup _=>some "tuple"
 |.lst _=>some "list"
 |.ref n=>match a[n]? with
  |some (.lst _)=>some "list"
  |some (.dT _)=>some "dict"
  |_=>none
 |_=>none
noncomputable def isTy(t T:String):Bool:=t==T||(t=="bool"&&T=="int")
def bIsinst:List D->Store->Res D:=λb a=>match b with
 |[x,.ty T]=>match tyName a x with
  |some t=>if["int","bool","str","tuple","list","dict"].contains T=true then .ok (.bl (isTy t T)) a else .stuck
  |none=>.stuck
 |_=>.stuck
theorem zyr{K:Fg}(c:Rep K ρ au H) (a:At K ρ H d u)(e:tyName au d=some t):TyOf K H u (.type t)/\t∈["NoneType","bool","int","str","tuple","list","dict"]:=by
 cases d<;>try (cases e;done)
 ·cases e;cases a;exact⟨.non,by simp⟩
 ·cases e;cases a;exact⟨.bl _,by simp⟩
 ·cases e;cases a;exact⟨.int _,by simp⟩
 ·cases e;cases a;exact⟨.str _,by simp⟩
 ·unfold tyName at e;dsimp only at e;split at e
  ·rename_i h;cases e;obtain⟨p,rfl,f,i,b,g⟩:=zdu c a h (by intro z;cases z);exact⟨.lst b,by simp⟩
  ·rename_i h;cases e;obtain⟨p,rfl,f,i,b,g⟩:=zdu c a h (by intro z;cases z);exact⟨.dT b,by simp⟩
  ·cases e
 ·cases e;cases a with
  |tup h1 h2 h3=>exact⟨.tup h1,by simp⟩
 ·cases e;cases a with
  |lst h1 h2 h3=>exact⟨.lst h1,by simp⟩
theorem zbty{K:Fg}{T:String}(a:t∈["NoneType","bool","int","str","tuple","list","dict"])(b:T∈["int","bool","str","tuple","list","dict"]):W.kitOne K (.type t) (.type T)=some (isTy t T):=by
 simp only[xbm,xhm,xna] at a b;rcases a with rfl|rfl|rfl|rfl|rfl|rfl|rfl<;>rcases b with rfl|rfl|rfl|rfl|rfl|rfl<;>rfl
theorem zlv{K:Fg}:CaD K bIsinst (λd H Q=>∃x T t b,d=[x,.ty T]/\TyOf K H x t/\W.kitOne K t (.type T)=some b/\Q (.bl b) H):=λρ H m d l z f Q c i e q=>by
 unfold bIsinst at e;split at e
 ·split at e
  ·rename_i h;split at e
   ·rename_i k;cases e;obtain⟨u,v,rfl,a,b⟩:=i.two;cases b;obtain⟨j,g⟩:=zyr c a h;exact⟨_,_,_,_,rfl,j,zbty g (by simpa using k),q _ _ _ (.refl _ _) c (.bl _)⟩
   ·cases e
  ·cases e
 ·cases e
def bTuple:List D->Store->Res D:=λb a=>match b with
 |[.tup ys]=>.ok (.tup ys) a
 |[x]=>match asL a x with
  |some ys=>.ok (.tup ys) a
  |none=>.stuck
 |_=>.stuck
theorem zfe{K:Fg}:CaD K bTuple (λj H Q=>∃p f,j=[.ref p]/\((SqL K H p f/\∀l,H l=none->Q (.ref l) (upd H l (.tup f)))\/(SqT K H p f/\Q (.ref p) H))):=λρ H o j m z k Q b i e q=>by
 unfold bTuple at e;split at e
 ·cases e;obtain⟨u,rfl,a⟩:=i.one;cases a with
  |tup c d h3=>exact⟨_,_,rfl,.inr ⟨SqT.of c,q _ _ _ (.refl _ _) b (.tup c d h3)⟩⟩
 ·split at e
  ·rename_i h;cases e;obtain⟨u,rfl,a⟩:=i.one;obtain⟨p,n,rfl,c,d⟩:=zfs b a h;exact⟨_,_,rfl,.inl ⟨SqL.of c,λl g=>q _ _ _ (Ext.new g _) (b.new g _) (.newT b g d)⟩⟩
  ·cases e
 ·cases e
def bList:List D->Store->Res D:=λb a=>match b with
 |[x]=>match seqOf a x with
  |some ys=>.ok (.lst ys) a
  |none=>.stuck
 |_=>.stuck
theorem zbqp{K:Fg}:CaD K bList (λf H Q=>∃p b,f=[.ref p]/\(SqL K H p b\/SqT K H p b)/\∀l,H l=none->Q (.ref l) (upd H l (.lst b))):=λρ H o f m z g Q c j e q=>by
 unfold bList at e;split at e
 ·split at e
  ·rename_i h;cases e;obtain⟨u,rfl,a⟩:=j.one;obtain⟨p,n,rfl,k,i⟩:=zkr c a h;exact⟨_,_,rfl,k,λl d=>q _ _ _ (Ext.new d _) (c.new d _) (.newL c d i)⟩
  ·cases e
 ·cases e
noncomputable abbrev aL(a:List Int):D:=.tup (a.map .int)
abbrev aJ(l:List (List Int)):List D:=l.map aL
def insR(a:List Int):List (List Int)->List (List Int)
 |[]=>[a]
 |b::r=>if HT.lexLt b a=true then b::insR a r else a::b::r
def sortR:List (List Int)->List (List Int)
 |[]=>[]
 |a::r=>insR a (sortR r)
abbrev UpR(l:List (List Int)):Prop:=l.Pairwise λa b=>HT.lexLt b a=false
theorem zlj(a:List Int):∀l,(insR a l).Perm (a::l)
 |[]=>.refl _
 |b::r=>by
  unfold insR;split
  ·exact(List.Perm.cons b (zlj a r)).trans (.swap a b r)
  ·exact .refl _
theorem zl:∀l,(sortR l).Perm l
 |[]=>.refl _
 |a::r=>(zlj a _).trans (.cons a (zl r))
theorem zor(e:HT.lexLt b a=false)(d:HT.lexLt c b=false):HT.lexLt c a=false:=by
 cases h:HT.lexLt c a with
 |false=>rfl
 |true=>
  rcases Srt.zmv a b with z|z|z
  ·have:=Srt.zhn h z;rw[d] at this;cases this
  ·subst z;rw[d] at h;cases h
  ·rw[e] at z;cases z
theorem zbdr(a:List Int):∀l,UpR l->UpR (insR a l)
 |[],_=>xle _ _
 |b::r,h=>by
  obtain⟨d,f⟩:=xgz.mp h;unfold insR;split
  ·rename_i c;refine xgz.mpr ⟨λx hx=>?_,zbdr a r f⟩;rcases xbm.mp ((zlj a r).mem_iff.mp hx) with rfl|hx
   ·exact Srt.zqr c
   ·exact d x hx
  ·rename_i c;have e:HT.lexLt b a=false:=by simpa using c
   refine xgz.mpr ⟨λx hx=>?_,h⟩;rcases xbm.mp hx with rfl|hx
   ·exact e
   ·exact zor e (d x hx)
theorem zhz:∀l,UpR (sortR l)
 |[]=>.nil
 |a::r=>zbdr a _ (zhz r)
theorem zpr:∀{l m:List (List Int)},l.Perm m->UpR l->UpR m->l=m
 |[],m,p,_,_=>by rw[List.nil_perm.mp p]
 |a::l,[],p,_,_=>by cases List.perm_nil.mp p
 |a::l,b::m,p,h1,h2=>by
  obtain⟨h,i⟩:=xgz.mp h1;obtain⟨d,g⟩:=xgz.mp h2;have e:a=b:=by
   rcases xbm.mp (p.mem_iff.mp xbr) with z|z
   ·exact z
   ·rcases xbm.mp (p.mem_iff.mpr (xbr (a:=b) (l:=m))) with y|y
    ·exact y.symm
    ·have c:=d a z;have f:=h b y;rcases Srt.zmv a b with w|w|w
     ·rw[c] at w;cases w
     ·exact w
     ·rw[f] at w;cases w
  subst e;rw[zpr (List.Perm.cons_inv p) i g]
theorem zkp{m:List (List Int)}(p:m.Perm l)(h:UpR m):m=sortR l:=zpr (p.trans (zl l).symm) h (zhz l)
theorem zdk(l:List (List Int)):(sortR l).length=l.length:=(zl l).length_eq
def asRows:List D->Option (List (List Int))
 |[]=>some []
 |.tup ds::r=>(asInts ds).bind λa=>(asRows r).map (a::·)
 |_::_=>none
theorem zru{K:Fg}:∀{g:List D}{f:List V}{l:List (List Int)},AtAll K ρ H g f->asRows g=some l ->
  ∃c:List (Addr×List Int),f=c.map (λp=>V.ref p.1)/\c.map (·.2)=l/\∀p∈c,H p.1=some (.tup (p.2.map V.int))/\Out ρ p.1
 |_,_,_,.nil,e=>by cases e;exact⟨[],rfl,rfl,λ_ h=>nomatch h⟩
 |_,_,_,.cons (d:=d) a b,e=>by
  cases d<;>try (cases e;done)
  rw[asRows] at e;obtain⟨n,i,e⟩:=xft.mp e;obtain⟨l,k,rfl⟩:=xdb.mp e;obtain⟨c,q,j,o⟩:=zru b k;cases a with
  |tup g1 g2 g3=>
   rename_i ad r;have m:=zdq g3 i;subst m;refine⟨(ad,n)::c,by rw[q];rfl,by rw[←j];rfl,λp hp=>?_⟩;rcases xbm.mp hp with rfl|hp
   ·exact⟨g1,g2⟩
   ·exact o p hp
theorem zin{K:Fg}:∀a:List Int,AtAll K ρ H (a.map .int) (a.map V.int)
 |[]=>.nil
 |n::a=>.cons (.int n) (zin a)
theorem zoc{K:Fg}:∀a:List (Addr×List Int),(∀p∈a,H p.1=some (.tup (p.2.map V.int))/\Out ρ p.1)->AtAll K ρ H (aJ (a.map (·.2))) (a.map λp=>V.ref p.1)
 |[],_=>.nil
 |p::a,h=>.cons (.tup (h p xbr).1 (h p xbr).2 (zin _)) (zoc a λq b=>h q (xbf _ b))
theorem zqo{K:Fg}(r:Rep K ρ au H) (b:H p=some (.tup vs)):Out ρ p:=by
 refine⟨λz=>?_,λz=>?_⟩
 ·obtain⟨i,d,e⟩:=xev z;obtain⟨x,_,q⟩:=r.has (n:=i) (a:=p) (by rw[xbd d,e]);cases x with
  |lst xs=>obtain⟨_,e,_⟩:=q;rw[b] at e;cases e
  |dT kvs=>obtain⟨_,e,_⟩:=q;rw[b] at e;cases e
  |fT kvs=>obtain⟨_,_,e,_⟩:=q;rw[b] at e;cases e
  |dI kvs=>obtain⟨_,e,_⟩:=q;rw[b] at e;cases e
  |dP ks=>obtain⟨_,e,_⟩:=q;rw[b] at e;cases e
  |dead=>exact q
  |tab=>obtain⟨_,_,e,_⟩:=q;rw[b] at e;cases e
 ·obtain⟨⟨u,c⟩,_⟩:=r.gh p z;rw[b] at c;cases c
noncomputable def valD(a:List (List Int×D)) (k:List Int):Option D:=(a.find? λb=>decide (b.1=k)).map (·.2)
noncomputable def putD(a:List (List Int×D)) (k:List Int) (v:D):List (List Int×D):=
 if(a.any λb=>decide (b.1=k))=true then a.map (λb=>if b.1=k then(b.1,v) else b) else a++[(k,v)]
noncomputable def dropD(a:List (List Int×D)) (k:List Int):List (List Int×D):=a.filter λb=>decide (b.1≠k)
theorem zqv{a b:List Int}:a.map (Sum.inl:Int->Key)=b.map Sum.inl↔a=b:=by
 constructor
 ·intro h;exact(List.map_inj_right (f:=(Sum.inl:Int->Key)) λx y e=>Sum.inl.inj e).mp h
 ·rintro rfl;rfl
theorem KvAt.val{K:Fg}(h:KvAt K ρ H kvs vs)(k:List Int):match valD kvs k with
  |some d=>∃v,valV vs (k.map Sum.inl)=some v/\At K ρ H d v
  |none=>valV vs (k.map Sum.inl)=none:=by
 induction h with
 |nil=>rfl
 |@cons p q ps qs h t ih=>
  obtain⟨b,f⟩:=h;by_cases e:p.1=k
  ·have a:valD (p::ps) k=some p.2:=by simp[valD,xfd,e]
   rw[a];exact⟨q.2,zhv (by rw[b,e]),f⟩
  ·have a:valD (p::ps) k=valD ps k:=by simp[valD,xfd,e]
   have c:valV (q::qs) (k.map Sum.inl)=valV qs (k.map Sum.inl):=zhw (by rw[b,zqv];exact e);rw[a,c];exact ih
theorem KvAt.keys{K:Fg}(h:KvAt K ρ H kvs vs):vs.map (·.1)=(kvs.map (·.1)).map λa=>a.map Sum.inl:=by
 induction h with
 |nil=>rfl
 |@cons p q ps qs h t ih=>rw[xbq,xbq,xbq,ih,h.1]
theorem KvAt.put{K:Fg}(h:KvAt K ρ H b c)(k:List Int) (a:At K ρ H d v):KvAt K ρ H (putD b k d) (putK c (k.map Sum.inl) v):=by
 have f:∀{b:List (List Int×D)}{c:List (List Key×V)},KvAt K ρ H b c->(b.any λi=>decide (i.1=k))=(c.any λi=>decide (i.1=k.map Sum.inl)):=λh=>by
  induction h with
  |nil=>rfl
  |@cons p q ps qs h t ih=>
   rw[xix,xix,ih,h.1]
   congr 1
   simp only[zqv]
 unfold putD putK;rw[f h];split
 ·rename_i m;clear m f
  induction h with
  |nil=>exact .nil
  |@cons p q ps qs h t ih=>
   refine .cons ?_ ih;obtain⟨g,l⟩:=h;dsimp only;by_cases e:p.1=k
   ·rw[if_pos e,if_pos (by rw[g,e])];exact⟨g,a⟩
   ·rw[if_neg e,if_neg (by rw[g,zqv];exact e)];exact⟨g,l⟩
 ·have j:∀{b:List (List Int×D)}{c:List (List Key×V)},KvAt K ρ H b c->KvAt K ρ H (b++[(k,d)]) (c++[(k.map Sum.inl,v)]):=λh=>by
   induction h with
   |nil=>exact .cons ⟨rfl,a⟩ .nil
   |cons h t ih=>exact .cons h ih
  exact j h
theorem KvAt.drop{K:Fg}(h:KvAt K ρ H kvs vs)(k:List Int):KvAt K ρ H (dropD kvs k) (dropK vs (k.map Sum.inl)):=by
 unfold dropD dropK
 induction h with
 |nil=>exact .nil
 |@cons p q ps qs h t ih=>
  by_cases e:p.1=k
  ·rw[xcq (by simp[e]),xcq (by simp[h.1,e])];exact ih
  ·rw[xcn (by simp[e]),xcn (by simp[h.1,zqv,e])];exact .cons h ih
theorem KvAt.length{K:Fg}(h:KvAt K ρ H kvs vs):kvs.length=vs.length:=xiw h
def pairsOf(a:Store):D->Option (List (List Int×D))
 |.ref n=>match a[n]? with
  |some (.dT kvs)=>some kvs
  |some (.fT kvs)=>some kvs
  |_=>none
 |_=>none
theorem zof{K:Fg}(f:Rep K ρ au H) (a:At K ρ H d u)(e:pairsOf au d=some kvs):∃p vs,u=.ref p/\Rd H p (.dT vs)/\KvAt K ρ H kvs vs:=by
 unfold pairsOf at e;split at e
 ·split at e
  ·rename_i h;cases e;obtain⟨p,rfl,g,vs,b,c⟩:=zdu f a h (by intro z;cases z);exact⟨p,vs,rfl,.inl b,c⟩
  ·rename_i h;cases e;obtain⟨p,rfl,g,vs,i,b,c⟩:=zdu f a h (by intro z;cases z);exact⟨p,vs,rfl,.inr ⟨i,b⟩,c⟩
  ·cases e
 ·cases e
def keyOf:D->Option (List Int)
 |.tup ds=>asInts ds
 |_=>none
theorem zbht{K:Fg}(a:At K ρ H d u)(e:keyOf d=some k):∃p,u=.ref p/\H p=some (.tup ((k.map (Sum.inl:Int->Key)).map kV)):=by
 unfold keyOf at e;split at e
 ·cases a with
  |tup h1 h2 h3=>
   have:=zdq h3 e;subst this;exact⟨_,rfl,by rw[zbdp];exact h1⟩
 ·cases e
theorem zww{K:Fg}(h:Rep K ρ au H) (a:At K ρ H d u)(b:At K ρ H y w)(e:pairsOf au d=some kvs)(g:keyOf y=some k):
  ∃p o,u=.ref p/\DGet H p w o/\match valD kvs k with
   |some z=>∃v,o=some v/\At K ρ H z v
   |none=>o=none:=by
 obtain⟨p,c,rfl,j,f⟩:=zof h a e;obtain⟨q,rfl,i⟩:=zbht b g;refine⟨p,valV c (k.map Sum.inl),rfl,.inr ⟨c,_,q,j,rfl,i,rfl⟩,?_⟩;have:=f.val k;cases hv:valD kvs k with
 |none=>rw[hv] at this;exact this
 |some z=>rw[hv] at this;exact this
def oDIn(a:Bool) (y x:D) (b:Store):Res D:=match keyOf y,pairsOf b x with
 |some k,some kvs=>.ok (.bl (if a then !(valD kvs k).isSome else(valD kvs k).isSome)) b
 |_,_=>.stuck
def oDGet(x y:D) (a:Store):Res D:=match pairsOf a x,keyOf y with
 |some kvs,some k=>match valD kvs k with
  |some v=>.ok v a
  |none=>.stuck
 |_,_=>.stuck
def eDGet2(f g h:SE):SE:=λσ d=>(f σ d).bind λx a=>match pairsOf a x with
 |some _=>(g σ a).bind λy c=>(h σ c).bind λz b=>match pairsOf b x,keyOf y with
  |some kvs,some k=>.ok ((valD kvs k).getD z) b
  |_,_=>.stuck
 |none=>.stuck
def eDPop(f g:SE):SE:=λσ c=>(f σ c).bind λx b=>match pairsOf b x with
 |some _=>(g σ b).bind λy a=>match x,keyOf y with
  |.ref n,some k=>match a[n]? with
   |some (.dT kvs)=>match valD kvs k with
    |some v=>.ok v (a.set n (.dT (dropD kvs k)))
    |none=>.stuck
   |_=>.stuck
  |_,_=>.stuck
 |none=>.stuck
def sDPut(f g h:SE):SS:=λσ d=>(h σ d).bind λv c=>(f σ c).bind λx b=>(g σ b).bind λy a=>match x,keyOf y with
 |.ref n,some k=>match a[n]? with
  |some (.dT kvs)=>if kvs.length<sizeLine then .ok (.nx σ) (a.set n (.dT (putD kvs k v))) else .stuck
  |_=>.stuck
 |_,_=>.stuck
def eDNew:SE:=λ_ a=>.ok (.ref a.length) (a++[.dT []])
theorem zboh{K:Fg}(f:Rep K ρ au H) (a:At K ρ H d u)(e:pairsOf au d=some kvs):∃p,u=.ref p/\IsD H p:=by
 obtain⟨p,c,rfl,b,_⟩:=zof f a e;exact⟨p,rfl,.inr ⟨c,b⟩⟩
theorem zbvk:DE X (.Dict [] [] pos) eDNew:=zfh zbge λτ H Q b p f=>by
 obtain⟨ρ,σ,g,v,d,a,c,e,q⟩:=b;cases e;obtain⟨E,R⟩:=c.alloc f (x:=.dT []) (o:=.dT []) λE=>⟨[],zt,.nil⟩
 exact q _ _ _ E R (.last c.len.symm)
theorem zbxx{X:Cx}(A:X.A.units+1<cLine)(E:DE X i g)(Y:DE X o f):PC X .In i o (tD X.K (aS (oDIn false) g f)):=λU s σ H Q I P=>by
 refine zbta A E Y U s σ H Q I ?_;obtain⟨ρ,l,au,v,S,a,rp,e,q⟩:=P;obtain⟨x,b,r,e⟩:=za e;obtain⟨y,j,C,e⟩:=za e;refine⟨ρ,l,au,x,b,a,rp,r,λρ1 H1 u n d a1=>?_⟩;refine⟨ρ1,l,b,y,j,a.ext n,d,C,λρ2 H2 w m c J=>?_⟩;unfold oDIn at e;split at e
 ·rename_i z G h1 t;cases e;obtain⟨p,k,rfl,g1,g2⟩:=zww c J (a1.ext m) t h1;refine⟨p,k,rfl,g1,?_⟩;have:k.isSome=(valD G z).isSome:=by
   revert g2;split
   ·rename_i h;rintro⟨v,rfl,_⟩;rw[h];rfl
   ·rename_i h;rintro rfl;rw[h];rfl
  rw[this];exact q _ _ _ (n.trans m) c (.bl _)
 ·cases e
theorem d_in(h:PC X op a b (tD X.K t))(c:behindInMarks op b=false:=by first|exact nobehind _ (by decide) (by decide)|rfl):DE X (.Compare a [op] [b] pos) t:=zbsy h c
theorem zbyq(h:PC X op a b (tD X.K t))(c:behindInMarks op b=false:=by first|exact nobehind _ (by decide) (by decide)|rfl):DT X (.Compare a [op] [b] pos) (eB t):=zbkg (zbsk h c) λτ H Q d=>eB_t _ _ _ d
theorem zbvl{X:Cx}(s:X.A.units+1<cLine)(J:DE X o f)(A:DE X i g)(Y:NoSl i):DE X (.Subscript o i pos) (aS oDGet f g):=zfh (zbmk s J A Y) λτ H Q j=>by
 obtain⟨ρ,σ,S,v,I,a,rp,e,q⟩:=j;obtain⟨x,b,n,e⟩:=za e;obtain⟨y,h,t,e⟩:=za e;refine⟨ρ,σ,S,x,b,a,rp,n,λρ1 H1 u m d U=>?_⟩;refine⟨ρ1,σ,b,y,h,a.ext m,d,t,λρ2 H2 w k c G=>?_⟩;unfold oDGet at e;split at e
 ·rename_i P r;split at e
  ·rename_i z E;cases e;obtain⟨p,oo,rfl,g1,l⟩:=zww c (U.ext k) G P r;rw[E] at l;obtain⟨C,rfl,g3⟩:=l;exact⟨p,C,rfl,g1,q _ _ _ (m.trans k) c g3⟩
  ·cases e
 ·cases e
theorem zbpr{X:Cx}(I:X.A.units + 1<cLine)(ho:DE X o f)(P:DE X e g)(hf:DE X f' h)(m:M2 X o "get" apos e f' cpos):DE X (.Call (.Attribute o "get" apos) [e,f'] [] cpos) (eDGet2 f g h):=zfh (zbgg I ho P hf m) λτ H Q s=>by
 obtain⟨ρ,σ,au,v,a0,a,rp,e,q⟩:=s;obtain⟨x,c,E,e⟩:=za e;refine⟨ρ,σ,au,x,c,a,rp,E,λρ1 H1 u r b C=>?_⟩;split at e
 ·rename_i h0;obtain⟨p,rfl,hd⟩:=zboh b C h0;obtain⟨y,i,J,e⟩:=za e;obtain⟨z,l,e3,e⟩:=za e;refine⟨p,rfl,hd,?_⟩;refine⟨ρ1,σ,c,y,i,a.ext r,b,J,λY H2 w n k U=>?_⟩;refine⟨Y,σ,i,z,l,a.ext (r.trans n),k,e3,λρ3 H3 t A d a3=>?_⟩;split at e
  ·rename_i h1 G;cases e;obtain⟨p',oo,S,g1,g2⟩:=zww d (C.ext (n.trans A)) (U.ext A) h1 G;cases S;refine⟨oo,g1,q _ _ _ (r.trans (n.trans A)) d ?_⟩;revert g2;split
   ·rename_i j;rintro⟨vv,rfl,g3⟩;rw[j];exact g3
   ·rename_i j;rintro rfl;rw[j];exact a3
  ·cases e
 ·cases e
theorem zbvj{X:Cx}(S:X.A.units + 1<cLine)(ho:DE X o f)(Y:DE X e g)(m:M1 X o "pop" apos e cpos):DE X (.Call (.Attribute o "pop" apos) [e] [] cpos) (eDPop f g):=zfh (zbgd S ho Y m) λτ H Q j=>by
 obtain⟨ρ,σ,au,v,a0,a,rp,e,q⟩:=j;obtain⟨x,d,P,e⟩:=za e;refine⟨ρ,σ,au,x,d,a,rp,P,λρ1 H1 u C c s=>?_⟩;split at e
 ·rename_i h0;obtain⟨p,rfl,hd⟩:=zboh c s h0;obtain⟨y,i,U,e⟩:=za e;refine⟨p,rfl,hd,?_⟩;refine⟨ρ1,σ,d,y,i,a.ext C,c,U,λr H2 w t h a2=>?_⟩;split at e
  ·rename_i n k hk _;split at e
   ·rename_i a3 hn;split at e
    ·rename_i z hv;cases e;obtain⟨p',ep,J,G,l,A⟩:=zdu h (s.ext t) hn (by intro z;cases z);cases ep;obtain⟨b,rfl,g3⟩:=zbht a2 hk;have I:=A.val k;rw[hv] at I;obtain⟨vv,g5,g6⟩:=I;have E:Ext r H2 r (upd H2 p (.dT (dropK G (k.map Sum.inl)))):=Ext.wr J (zjt l) _;exact⟨G,_,vv,b,l,rfl,g3,g5,q _ _ _ ((C.trans t).trans E) (h.wr J (zjt l) ⟨_,zt,(A.drop k).ext E⟩) (g6.ext E)⟩
    ·cases e
   ·cases e
  ·cases e
 ·cases e
theorem zboy{X:Cx}{c:Pos}(Y:X.A.units+1<cLine)(ho:DE X o f)(hi:DE X i g)(hv:DE X value h)(hs:swapsWith value (some (.Subscript o i pos')) c.line X.env=pure false):
  DSt X (.Assign [.Subscript o i pos'] value c) (sDPut f g h):=zuu (zblx Y ho hi hv hs) λE τ H I=>by
 obtain⟨ρ,σ,au,fl,a0,a,rp,e,q⟩:=I;obtain⟨v,d,U,e⟩:=za e;obtain⟨x,l,e2,e⟩:=za e;obtain⟨y,G,e3,e⟩:=za e;refine⟨ρ,σ,au,v,d,a,rp,U,λρ1 H1 u r A a1=>?_⟩;refine⟨ρ1,σ,d,x,l,a.ext r,A,e2,λρ2 H2 w m C a2=>?_⟩;refine⟨ρ2,σ,l,y,G,a.ext (r.trans m),C,e3,λP H3 t s j a3=>?_⟩;split at e
 ·rename_i n k hk _;split at e
  ·rename_i a4 hn;split at e
   ·rename_i hl;cases e;obtain⟨p,rfl,S,vs,J,Q⟩:=zdu j (a2.ext s) hn (by intro z;cases z);obtain⟨b,rfl,g3⟩:=zbht a3 hk;have E:Ext P H3 P (upd H3 p (.dT (putK vs (k.map Sum.inl) u))):=Ext.wr S (zjt J) _;refine⟨p,_,rfl,DPut.t J g3 (by rw[←Q.length];exact hl),?_⟩;exact q _ _ _ ((r.trans (m.trans s)).trans E) (j.wr S (zjt J) ⟨_,zt,(Q.put k (a1.ext (m.trans s))).ext E⟩) (a.ext ((r.trans (m.trans s)).trans E))
   ·cases e
  ·cases e
 ·cases e
def bSorted:List D->Store->Res D:=λb a=>match b with
 |[x]=>match (asL a x).bind asRows with
  |some l=>if l.length<=1000000 then .ok (.lst (aJ (sortR l))) a else .stuck
  |none=>match pairsOf a x with
   |some kvs=>if kvs.length<=1000000 then .ok (.lst (aJ (sortR (kvs.map (·.1))))) a else .stuck
   |none=>.stuck
 |_=>.stuck
theorem zes{K:Fg}:CaD K bSorted (λm H Q=>rSortedAL K m H Q\/rSortedDAL m H Q):=λρ H J m I z A Q d C e q=>by
 unfold bSorted at e;split at e
 ·obtain⟨u,rfl,a⟩:=C.one;split at e
  ·rename_i l n;obtain⟨P,G,n⟩:=xft.mp n;split at e
   ·rename_i b;cases e;obtain⟨p,y,rfl,o,j⟩:=zfs d a G;obtain⟨w,rfl,rfl,v⟩:=zru j n;rw[xbc] at b;refine .inl ⟨p,w,rfl,SqL.of o,b,λx f=>SqT.of (v x f).1,λt g c i r=>?_⟩;have k:g.map (·.2)=sortR (w.map (·.2)):=zkp (i.map _) r;refine q _ _ _ (Ext.new c _) (d.new c _) (.newL d c ?_);rw[←k];exact zoc g λx f=>v x (i.mem_iff.mp f)
   ·cases e
  ·split at e
   ·rename_i h E;split at e
    ·rename_i b;cases e;obtain⟨p,y,rfl,o,j⟩:=zof d a E;refine .inr ⟨p,y,h.map (·.1),rfl,o,j.keys,by rw[xbc];exact b,λt g c i r s=>?_⟩;have k:g.map (·.2)=sortR (h.map (·.1)):=zkp i r;refine q _ _ _ (Ext.new c _) (d.new c _) (.newL d c ?_);rw[←k];exact zoc g λx f=>⟨s x f,zqo d (s x f)⟩
    ·cases e
   ·cases e
 ·cases e
theorem zcc{X:Cx}(c:X.calm=true)(a:X.A.units + 64<cLine):CallR X (.builtin "sorted") (λb H Q=>rSortedAL X.K b H Q\/rSortedDAL b H Q):=(znj a).or (zlu c a)
def eAppend(f:SE) (g:SA):SE:=λσ c=>(f σ c).bind λx b=>match x,asL b x with
 |.ref n,some _=>(g σ b).bind λd a=>match d,a[n]? with
  |[y],some (.lst xs)=>if xs.length<sizeLine then .ok .non (a.set n (.lst (xs++[y]))) else .stuck
  |_,_=>.stuck
 |_,_=>.stuck
def eExtend(f:SE) (g:SA):SE:=λσ c=>(f σ c).bind λx b=>match x,asL b x with
 |.ref n,some _=>(g σ b).bind λd a=>match d,a[n]? with
  |[y],some (.lst xs)=>match asL a y with
   |some zs=>if xs.length+zs.length<=sizeLine then .ok .non (a.set n (.lst (xs++zs))) else .stuck
   |none=>.stuck
  |_,_=>.stuck
 |_,_=>.stuck
theorem zbjg{c:Pos}(ho:DE X o f)(ha:DA X (e::es) ga)(d:attributeBase o "append" X.env (eval o X.env)=eval o X.env:=by rfl)
  (l:((backTo cpos (starEach (e::es) X.env)).all (λx=>!x.1)&&(backToKw cpos (keywordEach [] X.env)).all (λx=>x.1.isSome)
   && decide ((e::es).length+([]:List Keyword).length+(if([]:List Keyword).isEmpty then 0 else 1)<30))=true:=by rfl)
  (g:(c.endLine==cpos.line)=true:=by rfl)(hs:starEach (e::es) X.env=(false,eval e X.env)::starEach es X.env:=by rfl)(b:(backTo cpos (starEach es X.env)).any (·.1)=false:=by rfl):
  DE X (.Call (.Attribute o "append" c) (e::es) [] cpos) (eAppend f ga):=zfh (zbrd F.plainAttrs_list F.slot_list_append F.type_list_append zqq ho ha d l g hs b) λτ H Q s=>by
 obtain⟨ρ,σ,au,v,a0,a,rp,e,q⟩:=s;obtain⟨x,i,P,e⟩:=za e;refine⟨ρ,σ,au,x,i,a,rp,P,λρ1 H1 u G h A=>?_⟩;split at e
 ·rename_i n _ hL;obtain⟨ys,m,S,e⟩:=za e;obtain⟨p,vs,rfl,g1,g2⟩:=zfs h A hL;refine⟨.inl ⟨rfl,_,SqL.of g1⟩,ρ1,σ,i,ys,m,a.ext G,h,S,λt H2 ws C j a2=>?_⟩;split at e
  ·rename_i y xs U;split at e
   ·rename_i hl;cases e;obtain⟨w,rfl,a3⟩:=a2.one;obtain⟨p',Y,J,k,r,I⟩:=zdu j (A.ext C) U (by intro z;cases z);cases Y;have E:Ext t H2 t (upd H2 p (.lst (k++[w]))):=Ext.wr J (zgi r) _;exact⟨p,k,w,rfl,rfl,r,by rw[I.length];exact hl,q _ _ _ ((G.trans C).trans E) (j.wr J (zgi r) ⟨_,zt,(I.append (.cons a3 .nil)).ext E⟩) .non⟩
   ·cases e
  ·cases e
 ·cases e
theorem zbja{d:Pos}(ho:DE X o f)(ha:DA X (e::es) ga)(g:attributeBase o "extend" X.env (eval o X.env)=eval o X.env:=by rfl)
  (r:((backTo cpos (starEach (e::es) X.env)).all (λx=>!x.1)&&(backToKw cpos (keywordEach [] X.env)).all (λx=>x.1.isSome)
   && decide ((e::es).length+([]:List Keyword).length+(if([]:List Keyword).isEmpty then 0 else 1)<30))=true:=by rfl)
  (i:(d.endLine==cpos.line)=true:=by rfl)(hs:starEach (e::es) X.env=(false,eval e X.env)::starEach es X.env:=by rfl)(c:(backTo cpos (starEach es X.env)).any (·.1)=false:=by rfl):
  DE X (.Call (.Attribute o "extend" d) (e::es) [] cpos) (eExtend f ga):=zfh (zbrd F.plainAttrs_list F.slot_list_extend F.type_list_extend zbai ho ha g r i hs c) λτ H Q A=>by
 obtain⟨ρ,σ,au,v,a0,a,rp,e,q⟩:=A;obtain⟨x,k,Y,e⟩:=za e;refine⟨ρ,σ,au,x,k,a,rp,Y,λρ1 H1 u P j I=>?_⟩;split at e
 ·rename_i n _ hL;obtain⟨ys,s,e2,e⟩:=za e;obtain⟨p,vs,rfl,g1,g2⟩:=zfs j I hL;refine⟨.inl ⟨rfl,_,SqL.of g1⟩,ρ1,σ,k,ys,s,a.ext P,j,e2,λG H2 ws J h a2=>?_⟩;split at e
  ·rename_i y xs hn;split at e
   ·rename_i zs hz;split at e
    ·rename_i hl;cases e;obtain⟨w,rfl,a3⟩:=a2.one;obtain⟨p',ep,U,m,t,S⟩:=zdu h (I.ext J) hn (by intro z;cases z);cases ep;obtain⟨b,l,rfl,m1,C⟩:=zfs h a3 hz;have E:Ext G H2 G (upd H2 p (.lst (m++l))):=Ext.wr U (zgi t) _;exact⟨p,b,m,l,rfl,rfl,t,m1,by rw[S.length,C.length];exact hl,q _ _ _ ((P.trans J).trans E) (h.wr U (zgi t) ⟨_,zt,(S.append C).ext E⟩) .non⟩
    ·cases e
   ·cases e
  ·cases e
 ·cases e
def eFz(f:SE):SE:=λσ b=>(f σ b).bind λx a=>match x with
 |.ref n=>match a[n]? with
  |some (.lst xs)=>.ok (.lst xs) (a.set n .dead)
  |_=>.stuck
 |_=>.stuck
theorem d_fz(t:DE X o f):DE X o (eFz f):=zfh t λτ H Q h=>by
 obtain⟨ρ,σ,w,v,s,a,J,e,q⟩:=h;obtain⟨x,g,k,e⟩:=za e;refine⟨ρ,σ,w,x,g,a,J,k,λP H1 u C b y=>?_⟩;split at e
 ·rename_i n;split at e
  ·rename_i S r;cases e;obtain⟨p,rfl,j,A,G,I⟩:=zdu b y r (by intro z;cases z);have c:=(xbh.mp j).1;obtain⟨E,R⟩:=b.kill c;refine q _ _ _ (C.trans E) R (.lst G ⟨λz=>?_,λz=>(b.gh p z).2 (xbu j)⟩ (I.ext E));obtain⟨i,m,l⟩:=xev z;have d:(P.m.set n none)[i]?=some (some p):=by rw[xbd m,l]
   by_cases hin:i=n
   ·subst hin;rw[xfh c] at d;simp at d
   ·rw[xcb (xfj hin)] at d;exact hin (b.inj i n p d j)
  ·cases e
 ·cases e
def sNx:SS:=λσ a=>.ok (.nx σ) a
def sBrk:SS:=λσ a=>.ok (.brk σ) a
def sCt:SS:=λσ a=>.ok (.ct σ) a
def sRet(f:SE):SS:=λσ b=>(f σ b).bind λv a=>.ok (.ret v) a
def sRetN:SS:=λ_ a=>.ok (.ret .non) a
def sDrop(f:SE):SS:=λσ b=>(f σ b).bind λ_ a=>.ok (.nx σ) a
def aF(i:Nat) (f:SE):SS:=λσ b=>(f σ b).bind λv a=>.ok (.nx (σ.set i (some v))) a
def aD(s t:SS):SS:=λσ a=>match s σ a with
 |.ok (.nx σ1) st1=>t σ1 st1
 |r=>r
def sIf(c:ST) (s t:SS):SS:=λσ d=>(c σ d).bind λb a=>if b=true then s σ a else t σ a
def sAug(i:Nat) (g:D->D->Store->Res D) (f:SE):SS:=λσ c=>match σ[i]? with
 |some (some x)=>(f σ c).bind λy b=>(g x y b).bind λz a=>.ok (.nx (σ.set i (some z))) a
 |_=>.stuck
def sSetIx(f g h:SE):SS:=λσ d=>(h σ d).bind λv c=>(f σ c).bind λx b=>(g σ b).bind λy a=>match x,y with
 |.ref n,.int k=>match a[n]? with
  |some (.lst xs)=>match ixN xs.length k with
   |some j=>.ok (.nx σ) (a.set n (.lst (xs.set j v)))
   |none=>.stuck
  |_=>.stuck
 |_,_=>.stuck
theorem zbuz:DSs X [] sNx:=zbls zblu λE τ H b=>by
 obtain⟨ρ,σ,g,f,c,a,d,e,q⟩:=b;cases e;exact q _ _ _ (.refl _ _) d a
theorem zbip:DSt X (.Break pos) sBrk:=zuu zbfv λE τ H b=>by
 obtain⟨ρ,σ,g,f,c,a,d,e,q⟩:=b;cases e;exact q _ _ _ (.refl _ _) d a
theorem zbux(i:DE X e f):DSt X (.Return (some e) pos) (sRet f):=zuu (zbsm i) λE τ H c=>by
 obtain⟨ρ,σ,l,o,g,a,k,e,q⟩:=c;obtain⟨x,j,d,e⟩:=za e;cases e;exact⟨ρ,σ,l,x,_,a,k,d,λn H1 u h b m=>q _ _ _ h b m⟩
theorem zbox{b:Pos}(k:DE X e f)(j:swapsWith e none b.line X.env=pure false:=by rfl):DSt X (.Expr e b) (sDrop f):=zuu (zblw k j) λE τ H d=>by
 obtain⟨ρ,σ,n,p,i,a,m,e,q⟩:=d;obtain⟨x,l,h,e⟩:=za e;cases e;exact⟨ρ,σ,n,x,_,a,m,h,λo H1 u g c r=>q _ _ _ g c (a.ext g)⟩
theorem zbxo{K:Fg}:∀E τ H,tDS K (aF i f) E τ H->tAsg (tD K f) (gName i) E τ H:=λE τ H c=>by
 obtain⟨ρ,σ,l,o,h,a,k,e,q⟩:=c;obtain⟨x,j,g,e⟩:=za e;cases e;exact⟨ρ,σ,l,x,_,a,k,g,λn H1 u d b m=>q _ _ _ d b ((a.ext d).set m i)⟩
theorem zbuw{X:Cx}{a:Pos}(j:X.N.Nodup)(h:X.N[i]?=some x)(b:L2.Loc X.env.scope x)(g:DE X e f)(d:swapsWith e (some (.Name x pos')) a.line X.env=pure false:=by rfl)(c:X.fn x=true\/X.env.scope.names.lookup x=some .local:=by first|exact .inl rfl|exact .inr rfl|assumption):
 DSt X (.Assign [.Name x pos'] e a) (aF i f):=zuu (zbsl j h b g d c) zbxo
theorem zbuy(a:DSt X sm s):DSs X [sm] s:=zblt a
section
variable {X:Cx}{e:Expr}{sm:Stmt}{rest:List Stmt}{s:SS}{t:SS}
theorem zboz(p:DSt X sm s)(m:DSs X rest t):DSs X (sm::rest) (aD s t):=zbls (zbft p m) λE τ H h=>by
 obtain⟨ρ,σ,j,g,b,a,i,e,q⟩:=h;unfold aD at e;split at e
 ·rename_i n c k;exact⟨ρ,σ,j,_,c,a,i,k,λl H1 u o d r=>⟨l,n,c,g,b,r,d,e,q.ext o⟩⟩
 ·rename_i f;refine⟨ρ,σ,j,g,b,a,i,e,?_⟩;cases g with
  |nx σ'=>exact absurd e (f σ' b)
  |brk σ'=>exact q
  |ct σ'=>exact q
  |ret v=>exact q
end
theorem zbyr(m:DT X c b)(p:DSs X a' s)(n:DSs X b' t):DSt X (.If c a' b' pos) (sIf b s t):=zuu (zbxr m p n) λE τ H i=>by
 obtain⟨ρ,σ,r,k,f,a,o,e,q⟩:=i;obtain⟨x,d,l,e⟩:=za e;refine⟨ρ,σ,r,x,d,a,o,l,λj H1 h g=>?_⟩;cases x with
 |true=>exact iteT ⟨j,σ,d,k,f,a.ext h,g,e,q.ext h⟩
 |false=>exact iteF ⟨j,σ,d,k,f,a.ext h,g,e,q.ext h⟩
def IpD(K:Fg) (g:D->D->Store->Res D) (r:TIp):Prop:=
 ∀ρ H d x y u v z a (Q:VK),Rep K ρ d H->At K ρ H x u->At K ρ H y v->g x y d=.ok z a->(∀c b w,Ext ρ H c b->Rep K c a b->At K c b z w->Q w b)->r u v H Q
theorem zbvb{X:Cx}(A:X.N.Nodup)(s:X.N[i]?=some x)(v:L2.Loc X.env.scope x)(r:DE X e f)(C:PIp X op ti)(I:IpD X.K g ti)(Q:X.fn x=true\/X.env.scope.names.lookup x=some .local:=by first|exact .inl rfl|exact .inr rfl|assumption):
  DSt X (.AugAssign (.Name x pos') op e pos) (sAug i g f):=zuu (zbso A s v r C Q) λE τ H l=>by
 obtain⟨ρ,σ,J,fl,h,a,S,e,q⟩:=l;unfold sAug at e;split at e
 ·rename_i d Y;obtain⟨y,b,n,e⟩:=za e;obtain⟨z,G,p,e⟩:=za e;cases e;obtain⟨u,o,a0⟩:=a.get Y;refine⟨u,o,ρ,σ,J,y,b,a,S,n,λU H1 w k c P=>?_⟩;exact I U H1 b d y u w z h _ c (a0.ext k) P p λρ2 H2 zz m j t=>q _ _ _ (k.trans m) j ((a.ext (k.trans m)).set t i)
 ·cases e
theorem ip_D{K:Fg}:IpD K (oI (λ_ _=>True) λi j=>.int (p i j)) (ipI p):=λρ H f x y u v z d Q c a b e q=>by
 unfold oI at e;split at e
 ·cases a;cases b;rw[if_pos True.intro] at e;cases e;exact⟨_,_,rfl,rfl,q _ _ _ (.refl _ _) c (.int _)⟩
 ·cases e
theorem zbim{b:Pos}(he:DE X value h)(ho:DE X o f)(hi:DE X i g)(ha:∀v,assign (.Subscript o i pos') X.env v=(do
   let ov ←holding [v] (eval o X.env)
   let iv ←holding [v,ov] (eval i X.env)
   standAt pos'
   holding [v,ov,iv] (setItem ov iv v)
   release [v,ov,iv] []):=by intro _;rfl)
  (hs:swapsWithSole [.Subscript o i pos'] value b.line X.env=pure false:=by rfl)(hw:swappedStores [.Subscript o i pos'] value X.env=pure none:=by rfl)
  (h1:(assignEach [.Subscript o i pos'] X.env).map (·.2)=[assign (.Subscript o i pos') X.env]:=by rfl):DSt X (.Assign [.Subscript o i pos'] value b) (sSetIx f g h):=
 zuu (zbsp he (zbss ho hi zbfh ha) hs hw h1) λE τ H I=>by
 obtain⟨ρ,σ,au,fl,a0,a,rp,e,q⟩:=I;obtain⟨v,c,Y,e⟩:=za e;obtain⟨x,l,e2,e⟩:=za e;obtain⟨y,G,e3,e⟩:=za e;refine⟨ρ,σ,au,v,c,a,rp,Y,λρ1 H1 u r A a1=>?_⟩;refine⟨ρ1,σ,c,x,l,a.ext r,A,e2,λρ2 H2 w m C a2=>?_⟩;refine⟨ρ2,σ,l,y,G,a.ext (r.trans m),C,e3,λP H3 t s d a3=>?_⟩;split at e
 ·rename_i n k _;split at e
  ·rename_i xs hn;split at e
   ·rename_i j hj;cases e;cases a3;obtain⟨p,rfl,U,S,J,Q⟩:=zdu d (a2.ext s) hn (by intro z;cases z);have E:Ext P H3 P (upd H3 p (.lst (S.set j u))):=Ext.wr U (zgi J) _;refine⟨p,S,k,j,rfl,rfl,J,by rw[Q.length];exact hj,?_⟩;exact q _ _ _ ((r.trans (m.trans s)).trans E) (d.wr U (zgi J) ⟨_,zt,(Q.set (a1.ext (m.trans s)) j).ext E⟩) (a.ext ((r.trans (m.trans s)).trans E))
   ·cases e
  ·cases e
 ·cases e
abbrev SG:=D->DS->Option DS
def gN(i:Nat):SG:=λd σ=>some (σ.set i (some d))
def gsNil:List D->DS->Option DS:=λa σ=>match a with
 |[]=>some σ
 |_=>none
def gsCons(t:SG) (u:List D->DS->Option DS):List D->DS->Option DS:=λa σ=>match a with
 |d::r=>(t d σ).bind λb=>u r b
 |_=>none
def gT(n:Nat) (u:List D->DS->Option DS):SG:=λd σ=>match d with
 |.tup ds=>if ds.length=n then u ds σ else none
 |_=>none
def gD(K:Fg) (b:SG):TG:=λv τ H Q=>∃ρ σ d a,AtS K ρ H σ τ/\At K ρ H d v/\b d σ=some a/\∀c,AtS K ρ H a c->Q c H
def gDs(K:Fg) (b:List D->DS->Option DS):TGs:=λe τ H Q=>∃ρ σ c a,AtS K ρ H σ τ/\AtAll K ρ H c e/\b c σ=some a/\∀d,AtS K ρ H a d->Q d H
abbrev DG(X:Cx) (a:Expr) (b:SG):Prop:=PG X a (gD X.K b)
abbrev DGs(X:Cx) (a:List Expr) (b:List D->DS->Option DS):Prop:=PGs X a (gDs X.K b)
theorem zbwu(h:PG X e g)(k:∀v τ H Q,g' v τ H Q->g v τ H Q):PG X e g':=λa s σ H v u Q I r q=>h a s σ H v u Q I r (k _ _ _ _ q)
theorem zbmf(h:PGs X es g)(k:∀v τ H Q,g' v τ H Q->g v τ H Q):PGs X es g':=λa s σ H v u Q I r q=>h a s σ H v u Q I r (k _ _ _ _ q)
theorem zbpi{X:Cx}(j:X.N.Nodup)(h:X.N[i]?=some x)(f:L2.Loc X.env.scope x)(g:X.fn x=true\/X.env.scope.names.lookup x=some .local:=by first|exact .inl rfl|exact .inr rfl|assumption):DG X (.Name x pos) (gN i):=
 zbwu (zbmh j h f g) λv τ H Q c=>by
 obtain⟨ρ,σ,d,k,a,b,e,q⟩:=c;cases e;exact q _ (a.set b i)
theorem zbph:DGs X [] gsNil:=zbmf zbmg λv τ H Q c=>by
 obtain⟨ρ,σ,d,f,a,b,e,q⟩:=c;unfold gsNil at e;split at e
 ·cases e;cases b;exact⟨rfl,q _ a⟩
 ·cases e
theorem zbiw(l:DG X e t)(h:DGs X es u)(j:(assignEach (e::es) X.env).map (·.2)=assign e X.env::(assignEach es X.env).map (·.2):=by rfl):DGs X (e::es) (gsCons t u):=
 zbmf (zbga l h j) λv τ H Q c=>by
 obtain⟨ρ,σ,d,k,a,b,e,q⟩:=c;unfold gsCons at e;split at e
 ·obtain⟨f,g,i⟩:=xft.mp e;cases b with
  |cons b1 b2=>exact⟨_,_,rfl,ρ,σ,_,f,a,b1,g,λn m=>⟨ρ,f,_,k,m,b2,i,q⟩⟩
 ·cases e
theorem zbve{X:Cx}(g:X.calm=true)(h:DGs X es u)(j:(assignEach es X.env).length=n:=by rfl)(f:(assignEach es X.env).findIdx? (·.1)=none:=by rfl):DG X (.Tuple es k pos) (gT n u):=
 zbwu (zbsr g h j f) λv τ H Q c=>by
 obtain⟨ρ,σ,d,i,a,b,e,q⟩:=c;unfold gT at e;split at e
 ·split at e
  ·rename_i l;cases b with
   |tup h1 h2 h3=>exact⟨_,_,rfl,SqT.of h1,by rw[h3.length];exact l,ρ,σ,_,i,a,h3,e,q⟩
  ·cases e
 ·cases e
structure ExtG (ρ:Loc) (H:Hp) (ρ':Loc) (H':Hp):Prop where
 len:ρ.m.length<=ρ'.m.length
 old:∀(n:Nat) (a:Addr),n < ρ.m.length->ρ'.m[n]?=some (some a)->ρ.m[n]?=some (some a)
 keep:∀a o,H a=some o->some a∉ρ.m->H' a=some o/\some a∉ρ'.m
 gho:∀a∈ρ'.g,a∈ρ.g\/H a=none
 frz:∀a ob u,H a=some (.frz ob u)->H' a=some (.frz ob u)
theorem Ext.toG(x:Ext ρ H ρ' H'):ExtG ρ H ρ' H':=⟨x.len,x.old,x.keep,λa h=>.inl (by rw[←x.gho];exact h),x.frz⟩
theorem ExtG.then(a:ExtG ρ H ρ1 H1)(b:Ext ρ1 H1 ρ2 H2):ExtG ρ H ρ2 H2:=
 ⟨xbb a.len b.len,λn c h e=>a.old n c h (b.old n c (xbn h a.len) e),λc o e n=>by
  obtain⟨f,g⟩:=a.keep c o e n
  exact b.keep c o f g,λc h=>a.gho c (by rw[←b.gho];exact h),λc d u e=>b.frz c d u (a.frz c d u e)⟩
theorem ExtG.out(x:ExtG ρ H ρ' H') (h:H a=some o)(n:Out ρ a):H' a=some o/\Out ρ' a:=
 ⟨(x.keep a o h n.1).1,(x.keep a o h n.1).2,λz=>by
  rcases x.gho a z with q|q
  ·exact n.2 q
  ·rw[h] at q;cases q⟩
theorem ExtG.mv(x:ExtG ρ H ρ' H'):Mv ρ H ρ' H':=⟨λh n=>x.out h n,x.len,x.old⟩
theorem At.extG{K:Fg}(x:ExtG ρ H ρ' H') (h:At K ρ H d v):At K ρ' H' d v:=h.mv x.mv
theorem Ls.extG{K:Fg}(x:ExtG ρ H ρ' H')(h:Ls K ρ H a vs):Ls K ρ' H' a vs:=h.mv x.mv
structure ItOk (K:Fg) (ρ:Loc) (H:Hp) (J:It) (xs:List D):Prop where
 item:∀ρ2 H2,ExtG ρ H ρ2 H2->∀(i:Nat) (x:D),xs[i]?=some x->J.go i H2/\∀y H3,J.yld i H2 y H3->Ext ρ2 H2 ρ2 H3/\∀au,Rep K ρ2 au H2->Rep K ρ2 au H3/\At K ρ2 H3 x y
 done:∀ρ2 H2,ExtG ρ H ρ2 H2->∀i:Nat,xs.length<=i->J.stop i H2
def iD(K:Fg) (f:SA):TI:=λτ H R=>∃ρ σ e d a,AtS K ρ H σ τ/\Rep K ρ e H/\f σ e=.ok d a/\∀c b J,Ext ρ H c b->Rep K c a b->ItOk K c b J d->R J b
abbrev DI(X:Cx) (b a:Expr) (f:SA):Prop:=PI X b a (iD X.K f)
noncomputable def seqV:D->Option (List D)
 |.tup xs=>some xs
 |.lst xs=>some xs
 |.scr xs=>some xs
 |_=>none
def aH(f:SE):SA:=λσ b=>(f σ b).bind λx a=>match seqV x with
 |some xs=>.ok xs a
 |none=>.stuck
noncomputable def rng(lo:Int) (n:Nat):List D:=(List.range n).map λ(i:Nat)=>D.int (lo+i)
def iR1(g:SA):SA:=λσ b=>(g σ b).bind λc a=>match c with
 |[.int j]=>if -(2^62)<=j/\j<2^62 then .ok (rng 0 j.toNat) a else .stuck
 |_=>.stuck
def iR2(g:SA):SA:=λσ b=>(g σ b).bind λc a=>match c with
 |[.int i,.int j]=>if -(2^62)<=i/\i<2^62/\-(2^62)<=j/\j<2^62 then .ok (rng i (j-i).toNat) a else .stuck
 |_=>.stuck
theorem zml{lo:Int}(h:(rng lo n)[i]?=some x):i<n/\x=.int (lo+i):=by
 unfold rng at h;rw[xco] at h;rcases xij i n with z|z
 ·rw[xmr z] at h;exact⟨z,(xde h).symm⟩
 ·rw[xez (by rw[xgr];exact z)] at h;cases h
theorem zbug{K:Fg}{lo:Int}:ItOk K ρ H (Itr lo n) (rng lo n) where
 item:=λb H2 x i d e=>by
  obtain⟨a,rfl⟩:=zml e;refine⟨a,λy H3 c=>?_⟩;obtain⟨rfl,rfl⟩:=c;exact⟨.refl _ _,λ_ r=>⟨r,.int _⟩⟩
 done:=λb H2 x i h=>by
  unfold rng at h;rw[xbc,xgr] at h;exact h
theorem zbrc(h:PI X tg l t)(k:∀τ H R,t' τ H R->t τ H R):PI X tg l t':=λa s σ H R I q=>h a s σ H R I (k _ _ _ q)
theorem zbxs(h:PI X tg l t)(b:PI X tg l t'):PI X tg l (λτ H R=>t τ H R\/t' τ H R):=λa s σ H R I q=>by
 rcases q with q|q
 ·exact h a s σ H R I q
 ·exact b a s σ H R I q
theorem zbep{K:Fg}(c:∀b H2,ExtG ρ H b H2->SqL K H2 p vs)(f:AtAll K ρ H xs vs):ItOk K ρ H (Itl K p) xs where
 item:=λb H2 x i d e=>by
  obtain⟨v,g,a⟩:=f.get e;refine⟨⟨vs,v,c _ _ x,g⟩,λy H3 k=>?_⟩;obtain⟨rfl,j⟩:=k;have:=j vs (c _ _ x);rw[g] at this;cases this;exact⟨.refl _ _,λ_ r=>⟨r,a.extG x⟩⟩
 done:=λb H2 x i h=>⟨vs,c _ _ x,by rw[f.length];exact h⟩
theorem zbwl{K:Fg}(c:∀b H2,ExtG ρ H b H2->SqT K H2 p vs)(f:AtAll K ρ H xs vs):ItOk K ρ H (Itt K p) xs where
 item:=λb H2 x i d e=>by
  obtain⟨v,g,a⟩:=f.get e;refine⟨⟨vs,v,c _ _ x,g⟩,λy H3 k=>?_⟩;obtain⟨rfl,j⟩:=k;have:=j vs (c _ _ x);rw[g] at this;cases this;exact⟨.refl _ _,λ_ r=>⟨r,a.extG x⟩⟩
 done:=λb H2 x i h=>⟨vs,c _ _ x,by rw[f.length];exact h⟩
theorem zbvd(o:DE X l f):DI X tg l (aH f):=zbrc (zbxs (zbmd o) (zbsq o)) λτ H R i=>by
 obtain⟨ρ,σ,k,s,p,a,j,e,q⟩:=i;obtain⟨x,r,h,e⟩:=za e;cases x with
 |tup ys=>
  cases e;refine .inr ⟨ρ,σ,k,_,_,a,j,h,λn H1 u d b g=>?_⟩;cases g with
  |tup h1 h2 h3=>exact⟨_,rfl,⟨_,SqT.of h1⟩,q _ _ _ d b (zbwl (λm H2 c=>SqT.of (c.out h1 h2).1) h3)⟩
 |lst ys=>
  cases e;refine .inl ⟨ρ,σ,k,_,_,a,j,h,λn H1 u d b g=>?_⟩;cases g with
  |lst h1 h2 h3=>exact⟨_,rfl,⟨_,SqL.of h1⟩,q _ _ _ d b (zbep (λm H2 c=>SqL.of (c.out h1 h2).1) h3)⟩
 |scr ys=>
  cases e;refine .inl ⟨ρ,σ,k,_,_,a,j,h,λn H1 u d b g=>?_⟩;cases g with
  |scr h1 h3=>exact⟨_,rfl,⟨_,h1.sq⟩,q _ _ _ d b (zbep (λm H2 c=>(h1.extG c).sq) h3)⟩
 |_=>cases e
theorem zbbh(h:Gl X "range")(k:X.mg "range"=none)(o:DA X [a] g)(l:starEach [a] X.env=[(false,eval a X.env)]:=by rfl):DI X tg (.Call (.Name "range" p) [a] [] pos) (iR1 g):=
 zbrc (zzq h k o l) λτ H R c=>by
 obtain⟨ρ,σ,r,y,i,a,n,e,q⟩:=c;obtain⟨x,m,f,e⟩:=za e;split at e
 ·split at e
  ·rename_i d;cases e;refine⟨ρ,σ,r,_,_,a,n,f,λv H1 u j b s=>?_⟩;obtain⟨w,rfl,t⟩:=s.one;cases t;exact⟨_,rfl,d.1,d.2,q _ _ _ j b zbug⟩
  ·cases e
 ·cases e
def iDict(f:SE):SA:=λσ b=>(f σ b).bind λx a=>match x with
 |.ref n=>match a[n]? with
  |some (.dT kvs)=>.ok (aJ (kvs.map (·.1))) (a.set n (.fT kvs))
  |_=>.stuck
 |_=>.stuck
theorem zbpg(U:DE X l f):DI X tg l (iDict f):=zbrc (zbme U) λτ H R v=>by
 obtain⟨ρ,σ,au,xs,a0,a,rp,e,q⟩:=v;obtain⟨x,g,P,e⟩:=za e;refine⟨ρ,σ,au,x,g,a,rp,P,λs H1 u x1 b a1=>?_⟩;split at e
 ·rename_i n;split at e
  ·rename_i c S;cases e;obtain⟨p,rfl,J,o,w,G⟩:=zdu b a1 S (by intro z;cases z);refine⟨p,o,c.map (·.1),rfl,w,G.keys,λt I A Q=>?_⟩;have E:Ext s H1 s (upd H1 p (.frz t (.dT o))):=Ext.wr J (zjt w) _;have R:Rep X.K s (g.set n (.fT c)) (upd H1 p (.frz t (.dT o))):=b.wr J (zjt w) ⟨o,t,zt,G.ext E⟩;refine q _ _ _ (x1.trans E) R ⟨λY H2 m i d e=>?_,λY H2 m i h=>?_⟩
   ·have k:(I.map (·.2))[i]?=(c.map (·.1))[i]?:=by rw[A]
    unfold aJ at e;rw[xco,←k,xco] at e;cases hi:I[i]? with
    |none=>rw[hi] at e;cases e
    |some x=>
     rw[hi] at e;cases e;refine⟨⟨(xbh.mp hi).1,m.frz _ _ _ zt⟩,λy H3 hy=>?_⟩;obtain⟨rfl,x',j,rfl⟩:=hy;rw[hi] at j;cases j;have C:=Q x (xbu hi);have a3:At X.K s H1 (aL x.2) (.ref x.1):=.tup C (zqo b C) (zin _);exact⟨.refl _ _,λ_ r=>⟨r,(a3.ext E).extG m⟩⟩
   ·have k:=congrArg List.length A;rw[xbc] at k;unfold aJ at h;rw[xbc,←k] at h;exact⟨h,m.frz _ _ _ zt⟩
  ·cases e
 ·cases e
def forF(b:SG) (a:SS):List D->SS
 |[],σ,au=>.ok (.nx σ) au
 |x::xs,σ,au=>match b x σ with
  |none=>.stuck
  |some σ1=>match a σ1 au with
   |.ok (.nx σ2) st2=>forF b a xs σ2 st2
   |.ok (.ct σ2) st2=>forF b a xs σ2 st2
   |.ok (.brk σ2) st2=>.ok (.nx σ2) st2
   |r=>r
def sFor(c:SA) (f:SG) (a:SS):SS:=λσ e=>(c σ e).bind λd b=>forF f a d σ b
def whileF(c:ST) (a:SS):Nat->SS
 |0,_,_=>.stuck
 |n+1,σ,au=>(c σ au).bind λb d=>if b=true then(match a σ d with
  |.ok (.nx σ2) st2=>whileF c a n σ2 st2
  |.ok (.ct σ2) st2=>whileF c a n σ2 st2
  |.ok (.brk σ2) st2=>.ok (.nx σ2) st2
  |r=>r) else .ok (.nx σ) d
noncomputable def wCap:Nat:=1000000
def sWhile(c:ST) (a:SS):SS:=whileF c a wCap
theorem zbed{α:Type}{a:List α}(h:i<a.length):∃x,a[i]?=some x/\a.drop i=x::a.drop (i+1):=⟨a[i],xbd h,xdc h⟩
theorem zbva{X:Cx}(hp:PassesOwn (model X.prog X.w) X.A X.env X.xe)(hc:X.calm=true)(hi:DI X tg iter it)(hg:DG X tg bd)(hb:DSs X body b)(hs:∀x,foldedSetIterable iter X.env x=pure x:=by intro _;rfl):
  DSt X (.For tg iter body [] pos) (sFor it bd b):=zuu (zbsn hp hc hi hg hb hs) λE τ H U=>by
 obtain⟨ρ,σ,au,fl,A,a,rp,e,q⟩:=U;obtain⟨o,r,e1,e⟩:=za e;refine⟨ρ,σ,au,o,r,a,rp,e1,λρ1 H1 J x1 Q ok=>?_⟩;have S:=q.ext x1;refine⟨λi m τ' p=>i+m=o.length/\∃j G g,Ext ρ1 H1 j p/\AtS X.K j p G τ'/\Rep X.K j g p/\forF bd b (o.drop i) G g=.ok fl A,⟨o.length,by lia,ρ1,σ,r,.refl _ _,a.ext x1,Q,e⟩,?_⟩;rintro i m τ' p ⟨a0,j,G,g,P,a2,C,c⟩;rcases xij i o.length with Y|hge
 ·obtain⟨x,hx,hd⟩:=zbed Y;rw[hd] at c;obtain⟨go,yl⟩:=ok.item j p P.toG i x hx;refine .inr ⟨go,λτ3 H3=>∃s h d,Ext ρ1 H1 s H3/\AtS X.K s H3 h τ3/\Rep X.K s d H3/\forF bd b (o.drop (i+1)) h d=.ok fl A,λτ3 H3 ⟨s,h,d,n1,n2,n3,n4⟩=>⟨m-1,by lia,by lia,s,h,d,n1,n2,n3,n4⟩,λy H3 hy=>?_⟩;obtain⟨y1,y4⟩:=yl y H3 hy;obtain⟨y2,y3⟩:=y4 _ C;unfold forF at c;cases hbd:bd x G with
  |none=>rw[hbd] at c;cases c
  |some σ1=>
   rw[hbd] at c;dsimp only at c;have I:=P.trans y1;refine⟨j,G,x,σ1,a2.ext y1,y3,hbd,λτ4 a4=>?_⟩;cases hr:b σ1 g with
   |stuck=>rw[hr] at c;cases c
   |exc z w=>rw[hr] at c;cases c
   |ok fb d=>
    rw[hr] at c;refine⟨j,σ1,g,fb,d,a4,y2,hr,?_⟩;cases fb with
    |nx h=>exact λt l τ5 n f k=>⟨t,h,d,I.trans n,k,f,c⟩
    |ct h=>exact λt l τ5 n f k=>⟨t,h,d,I.trans n,k,f,c⟩
    |brk h=>
     dsimp only at c;cases c;exact λt l τ5 n f k=>S _ _ _ (I.trans n) f k
    |ret v=>
     dsimp only at c;cases c;exact λt l u n f k=>S _ _ _ (I.trans n) f k
 ·rw[xjh hge] at c;unfold forF at c;cases c;exact .inl ⟨ok.done j p P.toG i hge,S _ _ _ P C a2⟩
theorem zbil{X:Cx}(hp:PassesOwn (model X.prog X.w) X.A X.env X.xe)(hc:DT X c t)(hb:DSs X body b):DSt X (.While c body [] pos) (sWhile t b):=zuu (zbfu hp hc hb) λE τ H Q=>by
 obtain⟨ρ,σ,au,fl,A,a,rp,e,q⟩:=Q;unfold sWhile at e;generalize wCap=n at e;refine⟨λm τ' I=>∃s l g,Ext ρ H s I/\AtS X.K s I l τ'/\Rep X.K s g I/\whileF t b m l g=.ok fl A,⟨n,ρ,σ,au,.refl _ _,a,rp,e⟩,?_⟩;rintro m τ' I ⟨s,l,g,x2,J,P,C⟩;cases m with
 |zero=>unfold whileF at C;cases C
 |succ m=>
  unfold whileF at C;obtain⟨x,h,e3,f⟩:=za C;refine⟨s,l,g,x,h,J,P,e3,λρ3 H3 S y=>?_⟩;have o:=x2.trans S;cases x with
  |false=>
   rw[if_neg (by decide)] at f;cases f;exact iteF (q _ _ _ o y (J.ext S))
  |true=>
   rw[if_pos rfl] at f;refine iteT ⟨λτ4 G=>∃U Y p,Ext ρ H U G/\AtS X.K U G Y τ4/\Rep X.K U p G/\whileF t b m Y p=.ok fl A,λτ4 G hh=>⟨m,xka m,hh⟩,?_⟩;cases hr:b l h with
   |stuck=>rw[hr] at f;cases f
   |exc z w=>rw[hr] at f;cases f
   |ok fb st5=>
    rw[hr] at f;refine⟨ρ3,l,h,fb,st5,J.ext S,y,hr,?_⟩;cases fb with
    |nx σ3=>exact λr j τ5 k d i=>⟨r,σ3,st5,o.trans k,i,d,f⟩
    |ct σ3=>exact λr j τ5 k d i=>⟨r,σ3,st5,o.trans k,i,d,f⟩
    |brk σ3=>
     dsimp only at f;cases f;exact λr j τ5 k d i=>q _ _ _ (o.trans k) d i
    |ret v=>
     dsimp only at f;cases f;exact λr j u k d i=>q _ _ _ (o.trans k) d i
def compF(d:SG) (c:ST) (f:SE):List D->DS->Store->Res (List D)
 |[],_,au=>.ok [] au
 |x::xs,σ,au=>match d x σ with
  |none=>.stuck
  |some σ1=>(c σ1 au).bind λb a=>if b=true then(f σ1 a).bind λy g=>(compF d c f xs σ1 g).bind λh e=>.ok (y::h) e else compF d c f xs σ1 a
def aT(k:Nat) (is:List Nat) (σ:DS):DS:=List.replicate k none++is.map λi=>(σ[i]?).getD none
def aG(e:SA) (k:Nat) (is:List Nat) (g:SG) (c:ST) (f:SE):SE:=λσ h=>(e σ h).bind λd a=>if d.length<=sizeLine then(compF g c f d (aT k is σ) a).bind λi b=>.ok (.lst i) b else .stuck
def aI:ST:=λ_ a=>.ok true a
theorem AtS.start{K:Fg}(h:AtS K ρ H σ τ)(k:Nat)(is:List Nat):AtS K ρ H (aT k is σ) (startC k is τ):=by
 have f:∀{a c:DS}{b d:St},AtS K ρ H a b->AtS K ρ H c d->AtS K ρ H (a++c) (b++d):=λm g=>by
  induction m with
  |nil=>exact g
  |cons r t ih=>exact .cons r ih
 refine f ?_ ?_
 ·induction k with
  |zero=>exact .nil
  |succ k ih=>exact .cons (λd e=>nomatch e) ih
 ·induction is with
  |nil=>exact .nil
  |cons i is ih=>
   refine .cons (λd e=>?_) ih;have e:(σ[i]?).getD none=some d:=e;have j:σ[i]?=some (some d):=by
    cases q:σ[i]? with
    |none=>rw[q] at e;cases e
    |some o=>rw[q] at e;exact congrArg some e
   obtain⟨u,l,a⟩:=h.get j;exact⟨u,by show(τ[i]?).getD none=some u;rw[l];rfl,a⟩
def Loc.with(ρ:Loc) (p:Addr):Loc:=⟨ρ.m,p::ρ.g⟩
theorem zbkp(a:H p=none):Mv ρ H (ρ.with p) (upd H p o):=⟨λe n=>⟨by rw[zu (zn e a)];exact e,n.1,λz=>by
 rcases xbm.mp z with z|z
 ·exact zn e a z
 ·exact n.2 z⟩,xbj _,λ_ _ _ e=>e⟩
theorem At.with{K:Fg}(a:H p=none) (h:At K ρ H d v):At K (ρ.with p) (upd H p o) d v:=h.mv (zbkp a)
theorem zbdv{ρ c:Loc}(b:c.m=ρ.m)(d:p∈ρ.g)(f:∀a,a∈c.g->a∈ρ.g):Mv ρ H c (upd H p o):=⟨λe n=>⟨by rw[zu (by rintro rfl;exact n.2 d)];exact e,by rw[b];exact n.1,λz=>n.2 (f _ z)⟩,by rw[b];exact xbj _,λ_ _ _ e=>by rw[b] at e;exact e⟩
theorem At.grow{K:Fg}{ρ ρ':Loc}(c:ρ'.m=ρ.m)(b:p∈ρ.g)(e:∀a,a∈ρ'.g->a∈ρ.g) (h:At K ρ H d v):At K ρ' (upd H p o) d v:=h.mv (zbdv c b e)
theorem AtAll.grow{K:Fg}{ρ ρ':Loc}(c:ρ'.m=ρ.m)(b:p∈ρ.g)(e:∀a,a∈ρ'.g->a∈ρ.g) (h:AtAll K ρ H d v):AtAll K ρ' (upd H p o) d v:=h.mv (zbdv c b e)
theorem OAt.map{K:Fg}(k:∀d v,At K ρ H d v->At K ρ' H' d v)(g:∀b f u,H b=some (.frz f u)->H' b=some (.frz f u))(same:H' a=H a)(h:OAt K ρ H x a):OAt K ρ' H' x a:=by
 have i:∀{d:List D}{v:List V},AtAll K ρ H d v->AtAll K ρ' H' d v:=λ{d v} h=>by
  induction d generalizing v with
  |nil=>cases h;exact .nil
  |cons x xs ih=>cases h with|cons a b=>exact .cons (k _ _ a) (ih b)
 cases x with
 |lst xs=>obtain⟨e,q,r⟩:=h;exact⟨e,by rw[same];exact q,i r⟩
 |dT kvs=>obtain⟨e,q,r⟩:=h;exact⟨e,by rw[same];exact q,Paired.mapP r λp q z=>⟨z.1,k _ _ z.2⟩⟩
 |fT kvs=>obtain⟨e,f,q,r⟩:=h;exact⟨e,f,by rw[same];exact q,Paired.mapP r λp q z=>⟨z.1,k _ _ z.2⟩⟩
 |dI kvs=>obtain⟨e,q,r⟩:=h;exact⟨e,by rw[same];exact q,Paired.mapP r λp q z=>⟨z.1,k _ _ z.2⟩⟩
 |dP ks=>obtain⟨e,q,n,l,u,r⟩:=h;exact⟨e,by rw[same];exact q,n,l,u,r.map k⟩
 |dead=>exact h.elim
 |tab=>obtain⟨c,j,q,r⟩:=h;exact⟨c,j,by rw[same];exact q,r.map g⟩
theorem Rep.with{K:Fg}(r:Rep K ρ au H)(c:H p=none)(f:List V):Rep K (ρ.with p) au (upd H p (.lst f)):=
 ⟨r.len,r.inj,λm b y i n=>by
  have q:=r.obj m b y i n;obtain⟨u,l⟩:=q.has;exact q.map (λd v h=>h.with c) (λb o u e=>by rw[zu (zn e c)];exact e) (zu (zn l c)),λa ha=>by
  rcases xbm.mp ha with rfl|ha
  ·exact⟨⟨f,zt⟩,(zlb r c).1⟩
  ·obtain⟨⟨k,g⟩,j⟩:=r.gh a ha
   exact⟨⟨k,by rw[zu (zn g c)];exact g⟩,j⟩,r.live⟩
theorem Rep.grow{K:Fg}{ρ':Loc}(r:Rep K ρ au H)(c:ρ'.m=ρ.m)(g:p∈ρ.g)(i:∀a,a∈ρ'.g->a∈ρ.g)(j:List V):Rep K ρ' au (upd H p (.lst j)):=
 ⟨by rw[c];exact r.len,by rw[c];exact r.inj,λm b y f n=>by
  rw[c] at f;refine(r.obj m b y f n).map (λd v h=>h.grow c g i) (λb s u e=>by rw[zu (by rintro rfl;obtain⟨⟨_,z⟩,_⟩:=r.gh _ g;rw[e] at z;cases z)];exact e) (zu ?_);rintro rfl;exact(r.gh b g).2 (xbu f),λa q=>by
  obtain⟨⟨l,o⟩,k⟩:=r.gh a (i a q);refine⟨?_,by rw[c];exact k⟩;by_cases e:a=p
  ·subst e;exact⟨j,zt⟩
  ·exact⟨l,by rw[zu e];exact o⟩,by rw[c];exact r.live⟩
theorem AtS.map{K:Fg}(k:∀d v,At K ρ H d v->At K ρ' H' d v)(h:AtS K ρ H σ τ):AtS K ρ' H' σ τ:=Paired.mapP h λo v z d e=>by
 obtain⟨u,b,a⟩:=z d e;exact⟨u,b,k _ _ a⟩
inductive CI (K:Fg) (bd:SG) (c:ST) (f:SE) (xs ys:List D) (st2:Store) (ρ1:Loc) (H1:Hp) (p:Addr) (i:Nat) (τ:St) (H':Hp):Prop where
 |mk {ρ2:Loc}{σ2:DS}{st3:Store}{acc:List D}{accV:List V}{zs:List D}(x2:ExtG ρ1 H1 ρ2 H') (hg:ρ2.g=p::ρ1.g) (hpp:H' p=some (.lst accV)) (hal:AtAll K ρ2 H' acc accV) (hli:acc.length<=i) (a2:AtS K ρ2 H' σ2 τ) (rp2:Rep K ρ2 st3 H') (e3:compF bd c f (xs.drop i) σ2 st3=.ok zs st2) (hac:acc++zs=ys):CI K bd c f xs ys st2 ρ1 H1 p i τ H'
theorem zbvq{k:Nat}{is:List Nat}{K:Fg}(a:AtS K ρ H σ τ)(rp:Rep K ρ au H)(e1:it σ au=.ok xs st1)(a8:xs.length<=sizeLine)(e2:compF bd c f xs (aT k is σ) st1=.ok ys st2)
 (b5:∀j H1 p l s g,Ext ρ H j H1->Rep K j st1 H1->H1 p=none->ExtG j H1 l s->l.g=p::j.g->s p=some (.lst g)->AtAll K l s ys g->Rep K l st2 s->Q (.ref p) s):tComp (iD K it) k is (gD K bd) (tDT K c) (tD K f) τ H Q:=by
 refine⟨ρ,σ,au,xs,st1,a,rp,e1,λj H1 J x1 a0 ok p X=>?_⟩
 refine⟨λi m τ' s=>i+m=xs.length/\CI K bd c f xs ys st2 j H1 p i τ' s,
  ⟨xs.length,by lia,.mk ?_ rfl zt .nil (xep _) (((a.ext x1).start k is).map λd v h=>h.with X) (a0.with X []) e2 rfl⟩,?_⟩
 ·have E:Ext j H1 j (upd H1 p (.lst [])):=Ext.new X _
  exact⟨E.len,E.old,E.keep,λa h=>by
   rcases xbm.mp h with rfl|h
   ·exact .inr X
   ·exact .inl h,E.frz⟩
 rintro i m τ' s ⟨b7,@⟨l,σ2,b2,acc,g,zs,x2,hg,a5,I,Y,a2,P,q,t⟩⟩;have b3:p∈l.g:=by rw[hg];exact xbr
 rcases xij i xs.length with a7|hge
 ·obtain⟨x,hx,hd⟩:=zbed a7;rw[hd] at q;obtain⟨go,yl⟩:=ok.item l s x2 i x hx
  refine .inr ⟨go,CI K bd c f xs ys st2 j H1 p (i+1),
   λτ4 H4 hh=>⟨m-1,by lia,by lia,hh⟩,λy H3 hy=>?_⟩
  obtain⟨y1,y4⟩:=yl y H3 hy;obtain⟨y2,y3⟩:=y4 _ P;unfold compF at q;cases hbd:bd x σ2 with
  |none=>rw[hbd] at q;cases q
  |some σ1=>
   rw[hbd] at q;dsimp only at q;obtain⟨bb,a1,e4,e5⟩:=za q;refine⟨l,σ2,x,σ1,a2.ext y1,y3,hbd,λτ4 a4=>?_⟩;have S:some p∉l.m:=(P.gh p b3).2;have z:=(y1.keep p _ a5 S).1;refine⟨l,σ1,b2,bb,a1,a4,y2,e4,λρ5 H5 r a9=>?_⟩;have A:=(r.keep p _ z S).1;have C:=(I.ext y1).ext r;have g5:ρ5.g=p::j.g:=r.gho.trans hg;cases bb with
   |false=>
    rw[if_neg (by decide)] at e5;exact iteF (.mk ((x2.then y1).then r) g5 A C (xfw Y) (a4.ext r) a9 e5 t)
   |true=>
    rw[if_pos rfl] at e5;obtain⟨w,b6,e6,e7⟩:=za e5;obtain⟨b9,b8,e8,e9⟩:=za e7;cases e9;refine iteT ⟨ρ5,σ1,a1,w,b6,a4.ext r,a9,e6,λρ6 H6 u x6 b4 a6=>?_⟩;have b0:some p∉ρ5.m:=(r.keep p _ z S).2;have a3:=(x6.keep p _ A b0).1;have g6:ρ6.g=p::j.g:=x6.gho.trans g5;have U:p∈ρ6.g:=by rw[g6];exact xbr
    have b1:g.length<=i:=by rw[I.length];exact Y
    refine⟨g,a3,xdg b1 (xbn a7 a8),.mk (acc:=acc++[w]) (accV:=g++[u]) ?_ g6 zt ?_ (by rw[xbl];exact xgj Y) ?_ (b4.grow rfl U (λ_ h=>h) _) e8 (by rw[←t,xcc];rfl)⟩
    ·have G:=((x2.then y1).then r).then x6;refine⟨G.len,G.old,λb o e n=>?_,G.gho,λb ob uu e=>?_⟩
     ·rw[zu (zn e X)];exact G.keep b o e n
     ·rw[zu (zn e X)];exact G.frz b ob uu e
    ·exact((C.ext x6).append (.cons a6 .nil)).grow rfl U (λ_ h=>h)
    ·exact(a4.ext (r.trans x6)).map λd v h=>h.grow rfl U (λ_ h=>h)
 ·rw[xjh hge] at q;unfold compF at q;cases q;rw[xec] at t;subst t;exact .inl ⟨ok.done _ _ x2 i hge,b5 _ _ _ _ _ _ x1 a0 X x2 hg a5 I P⟩
theorem zbpz{K:Fg}:∀τ H Q,tD K (aG it k is bd c f) τ H Q->tComp (iD K it) k is (gD K bd) (tDT K c) (tD K f) τ H Q:=λτ H Q x=>by
 obtain⟨ρ,σ,au,v,J,a,U,e,q⟩:=x;obtain⟨xs,I,C,e⟩:=za e;split at e
 ·rename_i n;obtain⟨ys,P,G,e⟩:=za e;cases e;refine zbvq a U C n G λr H1 p h H' d S t X s A m u l=>?_
  have i:p∈h.g:=by rw[A];exact xbr
  have w:some p∉h.m:=(l.gh p i).2;have j:upd H' p (.lst d)=H':=zbex m;have sub:∀a,a∈(⟨h.m,r.g⟩:Loc).g->a∈h.g:=λb Y=>by rw[A];exact xbf _ Y
  have E:Ext r H1 ⟨h.m,r.g⟩ H':=⟨s.len,s.old,s.keep,rfl,s.frz⟩
  have R:=l.grow (ρ':=⟨h.m,r.g⟩) rfl i sub d;have L:=AtAll.grow (ρ:=h) (ρ':=⟨h.m,r.g⟩) (o:=.lst d) rfl i sub u;rw[j] at R L;refine q _ _ _ (S.trans E) R (.lst m ⟨w,λz=>?_⟩ L);obtain⟨⟨ws,y⟩,_⟩:=t.gh p z;rw[X] at y;cases y
 ·cases e
theorem zbvn{X:Cx}{N:List Str}(a:X.calm=true)(j:DI X tg iter it)(e:∀d C b s H,DG (cxC X N scope d C b s H) tg bd)(g:∀d C b s H,PIf (cxC X N scope d C b s H) ifs (tDT X.K c))(i:∀d C b s H,DE (cxC X N scope d C b s H) elt f)
 (S:CompScope X N k is scope)(h:∀x,foldedSetIterable iter X.env x=pure x:=by intro _;rfl):DE X (.ListComp elt [⟨tg,iter,ifs,0⟩] scope pos) (aG it k is bd c f):=zfh (zbml a j e g i S h) zbpz
theorem zbow{X:Cx}{N:List Str}{b:Pos}(d:X.calm=true)(A:X.N.Nodup)(l:X.N[i]?=some x)(y:L2.Loc X.env.scope x)(p:DI X tg iter it)(I:∀g C j s H,DG (cxC X N scope g C j s H) tg bd)
  (U:∀g C j s H,PIf (cxC X N scope g C j s H) ifs (tDT X.K c))(o:∀g C j s H,DE (cxC X N scope g C j s H) elt f)(S:CompScope X N k is scope)
  (m:swapsWith (.ListComp elt [⟨tg,iter,ifs,0⟩] scope pos) (some (.Name x pos')) b.line X.env=pure true:=by rfl)
  (J:X.fn x=true\/X.env.scope.names.lookup x=some .local:=by first|exact .inl rfl|exact .inr rfl|assumption)
  (P:∀x,foldedSetIterable iter X.env x=pure x:=by intro _;rfl):DSt X (.Assign [.Name x pos'] (.ListComp elt [⟨tg,iter,ifs,0⟩] scope pos) b) (aF i (aG it k is bd c f)):=
 zuu (zblv d A l y p I U o S m J P) λE τ H h=>by
  obtain⟨ρ,σ,G,fl,z,a,Q,e,q⟩:=h;obtain⟨v,w,n,e⟩:=za e;cases e;exact zbpz τ H _ ⟨ρ,σ,G,v,_,a,Q,n,λY H' u x r t=>q _ _ _ x r ((a.ext x).set t i)⟩
theorem zbpf:PIf X [] (tDT X.K aI):=λd s σ H Q I b=>by
 obtain⟨ρ,g,h,v,c,a,f,e,q⟩:=b;cases e;exact zbmc d s σ H Q I (q _ _ (.refl _ _) f)
theorem zbpe(h:DT X c t):PIf X [c] (tDT X.K t):=zbmb h
end Dd
namespace Dd
open L2 PyProof.Rows
def spD(K:Fg) (g:Nat) (F:DFn):Sp:=λe H Q _=>∃ρ f d v a,AtAll K ρ H f e/\Rep K ρ d H/\F f d=.ok v a/\e.length=g/\∀c b u,Ext ρ H c b->Rep K c a b->At K c b v u->Q u b
def CalD(P:Program) (w:World) (K:Fg) (c:Str->Option Value) (a:Heap) (x:Str) (k:Nat) (b:List Str) (F:DFn):Prop:=Callee P w K c a x k b (spD K b.length F)
def fnD(n b:Nat) (a:SS):DFn:=λc d=>if c.length=b then(match a (c.map some++List.replicate (n-b) none) d with
 |.ok (.ret v) st'=>.ok v st'
 |.ok (.nx _) st'=>.ok .non st'
 |.exc x st'=>.exc x st'
 |_=>.stuck) else .stuck
section
variable {x:Str}{F:DFn}{e:Expr}
theorem zbvs{K:Fg}{h:Nat}{f:SA}(s:∀k i v b,F k i=.ok v b->k.length=h):∀τ H Q,tD K (aE F f) τ H Q->tCall (spD K h F) [] E0 (tDA K f) τ H Q:=λτ H Q g=>by
 obtain⟨ρ,σ,i,v,b,a,r,e,q⟩:=g;obtain⟨x,c,l,e⟩:=za e;refine⟨ρ,σ,i,x,c,a,r,l,λn H1 u o d j=>?_⟩;show spD K h F (u++[]) H1 Q E0;rw[xec];exact⟨n,x,c,v,b,j,d,e,by rw[j.length];exact s _ _ _ _ e,λt p w m=>q t p w (o.trans m)⟩
end
theorem zbvo{X:Cx}(c:CalD X.prog X.w X.K X.mg X.base x k ps F)(j:∀ f l v a,F f l=.ok v a->f.length=ps.length)(n:Room k X.A)(h:Gl X x)(m:DA X (e::es) g)(b:(x==("__debug__" : Str))=false:=by decide)
 (i:starEach (e::es) X.env=(false,eval e X.env)::starEach es X.env:=by rfl)(d:(backTo pos (starEach es X.env)).any (·.1)=false:=by rfl):
 DE X (.Call (.Name x p) (e::es) [] pos) (aE F g):=zfh (zbgi c n h m b i d) (zbvs j)
theorem zqx{n np:Nat}{b:SS}{c:List D}{d a:Store}{v:D}(h:fnD n np b c d=.ok v a):c.length=np:=by
 unfold fnD at h;split at h
 ·assumption
 ·cases h
theorem AtAll.some{K:Fg}{ρ:Loc}{H:Hp}:∀{f:List D}{c:List V},AtAll K ρ H f c->AtS K ρ H (f.map Option.some) (c.map Option.some)
 |_,_,.nil=>.nil
 |_,_,.cons a b=>.cons (λd e=>by cases e;exact⟨_,rfl,a⟩) (AtAll.some b)
theorem AtS.append{K:Fg}{ρ:Loc}{H:Hp}:∀{a c:DS}{b d:L2.St},AtS K ρ H a b->AtS K ρ H c d->AtS K ρ H (a++c) (b++d)
 |_,_,_,_,.nil,h=>h
 |_,_,_,_,.cons r t,h=>.cons r (AtS.append t h)
theorem AtS.nones{K:Fg}{ρ:Loc}{H:Hp}:∀n,AtS K ρ H (List.replicate n none) (List.replicate n none)
 |0=>.nil
 |n+1=>.cons (λd e=>nomatch e) (AtS.nones n)
theorem zbqk{K:Fg}{N:List Str}{np:Nat}{b:SS}{g:List V}{H:Hp}{Q:VK}{E:XK}(h:spD K np (fnD N.length np b) g H Q E):tDS K b {nx:=λ_ d=>Q .non d,rt:=Q} (L2.start N g) H:=by
 obtain⟨ρ,f,l,v,c,a,k,e,m,q⟩:=h;have n:f.length=np:=by rw[←a.length];exact m
 unfold fnD at e;rw[if_pos n] at e;have j:AtS K ρ H (f.map Option.some++List.replicate (N.length-np) none) (L2.start N g):=by
  unfold L2.start;rw[m];exact a.some.append (.nones _)
 refine⟨ρ,f.map Option.some++List.replicate (N.length-np) none,l,?_⟩;cases hr:b (f.map Option.some++List.replicate (N.length-np) none) l with
 |stuck=>rw[hr] at e;cases e
 |exc z w=>rw[hr] at e;cases e
 |ok fl st1=>
  rw[hr] at e;cases fl with
  |ret w=>
   dsimp only at e;cases e;exact⟨.ret v,c,j,k,rfl,λi d u x r t=>q i d u x r t⟩
  |nx σ=>
   dsimp only at e;cases e;exact⟨.nx σ,c,j,k,rfl,λi d τ x r t=>q i d .non x r .non⟩
  |brk σ=>cases e
  |ct σ=>cases e
theorem zbqe{P:Program}{w:World}{K:Fg}{m:Str->Option Value}{i h:Heap}{x:Str}{g:Stmt}{N l:List Str}{k:Nat}{b:SS}(T:TopF K x g)(X:K.In h)(G:h.Ns mainGlobals m)(S:FnScope N l (defScope g))
  (r:∀(kV p J:Value) (I:Option Addr) (d y:Value) (n:List Value),n.length=l.length->bindArgs (W.fnOf x x (defArgs g) (defBody g) (defScope g) .none kV p J I d y) ⟨n,[]⟩=pure (l.zip n))
  (j:∀(f:Addr) (d:Value) (A:Around) (c:List Env) (s:Shared) (H:Hp) (E:XK),Room k (A.deeper (envOfC x (defScope g) s.heap.objs.size f d)) ->
   DSs (cxOf CX0 P w K m i N x (defScope g) f d A c s H E).nox (defBody g) b):CalD P w K m i x (k+1) l (fnD N.length l.length b):=
 zro T X G S r (λC H Q E o=>by obtain⟨ρ,U,g,v,u,a,Y,e,t,q⟩:=o;exact t) λf d A c s H C Q E z o=>⟨_,j f d A c s H E z,zbqk o⟩
def spLaw(K:Fg):Sp:=λd H Q _=>∃(a:Addr) (b:List Int),d=[.ref a]/\SqL K H a (b.map V.int)/\b.length<=63/\∀c,Q (.bl true) c
theorem zbtx{P:Program}{w:World}{K:Fg}{C:Str->Option Value}{g:Heap}{p:Stmt}{N v:List Str}{k:Nat}{b:SS}{f:Addr}{z:FuncData}(F:Fun K "law" "law" p f z)(S:FnScope N v (defScope p))(U:v.length=1)
  (j:∀(d:Value) (A:Around) (c:List Env) (s:Shared) (H:Hp) (E:XK),Room k (A.deeper (envOfC "law" (defScope p) s.heap.objs.size f d)) ->
   DSs (cxOf CX0 P w K C g N "law" (defScope p) f d A c s H E).nox (defBody p) b)
  (holds:∀l:List Int,l.length<=63->∃i,fnD N.length 1 b [.scr (l.map .int)] []=.ok (.bl true) i):FnOk P w K C g CX0 (k+1) f z v (spLaw K):=by
 refine F.ok S (λX H Q E y=>?_) (λd A c s H X Q E I y=>⟨_,j d A c s H E I,?_⟩)
 ·obtain⟨a,l,rfl,_⟩:=y;exact U.symm
 ·obtain⟨a,l,rfl,J,Y,q⟩:=y;obtain⟨i,e⟩:=holds l Y;refine zbqk (np:=1) (E:=E) ⟨⟨[],[]⟩,[.scr (l.map .int)],[],_,i,.cons (.scr ?_ (zin l)) .nil,⟨rfl,λn m a e _=>by simp at e,λn a o e _=>by simp at e,λa h=>(by cases h),λn o e _=>by simp at e⟩,e,rfl,λρ' G u x r t=>?_⟩
  ·rcases J with h|h
   ·exact .inl ⟨h,by simp[Out]⟩
   ·exact .inr λG=>.inr h
  ·cases t;exact q G
end Dd
namespace Dd
open L2
def oNeg:D->Store->Res D:=λx a=>match x with
 |.int i=>.ok (.int (-i)) a
 |_=>.stuck
def sStuck:SS:=λ_ _=>.stuck
def tru(c:Store):D->Option Bool
 |.non=>some false
 |.bl b=>some b
 |.int i=>some (i != 0)
 |.tup a=>some !a.isEmpty
 |d=>(asL c d).map λa=>!a.isEmpty
def eTru(f:SE):ST:=λσ c=>(f σ c).bind λv a=>match tru a v with
 |some b=>.ok b a
 |none=>.stuck
theorem zmx{K:Fg}(h:AtAll K ρ H ds vs):ds.isEmpty=vs.isEmpty:=by
 cases h<;>rfl
theorem zbrt{K:Fg}(h:Rep K ρ au H) (a:At K ρ H d u)(e:tru au d=some b):TruV K u H b:=by
 unfold tru at e;split at e
 ·cases a;cases e;exact rfl
 ·cases a;cases e;exact rfl
 ·cases a;cases e;exact rfl
 ·cases e;cases a with
  |tup c f h3=>exact .inr (.inl ⟨_,SqT.of c,by rw[zmx h3]⟩)
 ·obtain⟨i,g,rfl⟩:=xdb.mp e;obtain⟨p,j,rfl,c,f⟩:=zfs h a g;exact .inl ⟨_,SqL.of c,by rw[zmx f]⟩
theorem zbyy(h:DE X a f):DE X (.UnaryOp .USub a pos) (eUn oNeg f):=zfh (zbxt zbrp h) λτ H Q d=>by
 obtain⟨ρ,σ,m,v,j,c,l,e,q⟩:=d;obtain⟨x,g,i,e⟩:=za e;refine⟨ρ,σ,m,x,g,c,l,i,λo H1 u k b n=>?_⟩;cases x<;>try (cases e;done)
 cases e;cases n;exact⟨_,rfl,q _ _ _ k b (.int _)⟩
theorem zbps(k:OpR X (compareOp op) r)(e:OpR X (compareOp op') r')(i:OpD X.K g r)(d:OpD X.K g' r')(l:DE X a f)(m:DE X b f')(h:DE X c f'')
 (j:lastMarks [op,op'] [b,c]=false:=by with_unfolding_all rfl):DE X (.Compare a [op,op'] [b,c] pos) (eChain g g' f f' f''):=zfh (zbgh k e l m h j) (zbeh i d)
theorem zbik(l:OpR X (compareOp op) r)(e:OpR X (compareOp op') r')(j:OpD X.K g r)(d:OpD X.K g' r')(m:DE X a f)(n:DE X b f')(i:DE X c f'')
 (k:lastMarks [op,op'] [b,c]=false:=by with_unfolding_all rfl):DT X (.Compare a [op,op'] [b,c] pos) (eB (eChain g g' f f' f'')):=zbkg (zbfs l e m n i k) λτ H Q h=>zbeh j d _ _ _ (eB_t _ _ _ h)
theorem zbio:DSt X sm sStuck:=λc s σ H E I ⟨ρ,f,h,d,b,a,g,e,q⟩=>by cases e
theorem zbus(h:DE X a f)(n:∀b,isTrue a X.env b=(do let v ←b;standAt a.pos;holding [v] (truthy v)):=by intro _;rfl):DT X a (eTru f):=zbkg (zut h n) λτ H Q g=>by
 obtain⟨ρ,σ,p,v,k,d,o,e,q⟩:=g;obtain⟨x,i,j,e⟩:=za e;refine⟨ρ,σ,p,x,i,d,o,j,λs H1 u m c r=>?_⟩;split at e
 ·rename_i t l;cases e;exact⟨_,zbrt c r l,q _ _ m c⟩
 ·cases e
end Dd
namespace Dd
open Spec PyProof.Rows L2
noncomputable def numF:Int->List D->List D
 |_,[]=>[]
 |n,x::xs=>.tup [.int n,x]::numF (n+1) xs
def iEnum(f:SE):SA:=λσ b=>(f σ b).bind λx a=>match x with
 |.tup xs=>.ok (numF 1 xs) a
 |_=>.stuck
theorem zon:∀{a:List D}{n:Int}{i:Nat}{d:D},(numF n a)[i]?=some d->∃x,a[i]?=some x/\d=.tup [.int (n+i),x]
 |[],_,_,_,h=>by simp[numF] at h
 |x::a,n,0,d,h=>by
  simp[numF] at h;exact⟨x,rfl,by rw[←h];simp⟩
 |x::a,n,i+1,d,h=>by
  simp only[numF,xhi] at h;obtain⟨y,b,c⟩:=zon h;exact⟨y,by simpa using b,by rw[c];congr 3;push_cast;lia⟩
theorem zem:∀{xs:List D}{n:Int},(numF n xs).length=xs.length
 |[],_=>rfl
 |_::xs,n=>by simp[numF,zem (xs:=xs)]
theorem zbiu(P:Gl X "enumerate")(S:X.mg "enumerate"=none)(C:DE X l f)(w:starEach [l] X.env=[(false,eval l X.env)]:=by rfl):
  DI X (.Tuple elts k tpos) (.Call (.Name "enumerate" p) [l] [⟨some "start",.Constant (.int 1) j cpos,kpos⟩] pos) (iEnum f):=zbrc (zbfz P S C w) λτ H R n=>by
 obtain⟨ρ,σ,s,xs,G,a,U,e,q⟩:=n;obtain⟨x,m,t,e⟩:=za e;refine⟨ρ,σ,s,x,m,a,U,t,λρ1 H1 u Q g J=>?_⟩;split at e
 ·rename_i ys;cases e;cases J with
  |tup h1 h2 h3=>
   refine⟨_,rfl,⟨_,SqT.of h1⟩,q _ _ _ Q g ⟨λE H2 c i d e=>?_,λE H2 c i h=>?_⟩⟩
   ·obtain⟨z,I,rfl⟩:=zon e;obtain⟨v,r,av⟩:=h3.get I;refine⟨⟨_,v,SqT.of (c.out h1 h2).1,r⟩,λy H3 Y=>?_⟩;obtain⟨p,o,rfl,A⟩:=Y;rw[A _ _ (SqT.of (c.out h1 h2).1) r];refine⟨Ext.new o _,λs b=>⟨b.new o _,?_⟩⟩;have e3:(1:Int)+(i:Int)=((i+1:Nat):Int):=by push_cast;lia
    rw[e3];exact At.newT b o (.cons (.int _) (.cons (av.extG c) .nil))
   ·rw[zem] at h;exact⟨_,SqT.of (c.out h1 h2).1,by rw[h3.length];exact h⟩
 ·cases e
end Dd
namespace Dd
open L2
def bInt:List D->Store->Res D:=λb a=>match b with
 |[.int i]=>.ok (.int i) a
 |[.bl k]=>.ok (.int (if k then 1 else 0)) a
 |_=>.stuck
def eCompM(e:SA) (k:Nat) (is:List Nat) (g:SG) (c:ST) (f:SE):SE:=λσ h=>(e σ h).bind λd b=>if d.length<=sizeLine then(compF g c f d (aT k is σ) b).bind λi a=>.ok (.ref a.length) (a++[.lst i]) else .stuck
noncomputable def plainE:Expr->Bool
 |.Starred _ _=>false
 |_=>true
theorem zmh(h:plainE e=true):starEach (e::es) env=(false,eval e env)::starEach es env:=by
 cases e<;>first|rfl|cases h
theorem zbix(b:DE X e f)(c:DA X es g)(a:plainE e=true:=by rfl):DA X (e::es) (aB f g):=zbpl b c (zmh a)
def bBest(b:Bool):List D->Store->Res D:=λc a=>match c with
 |[x]=>match (seqOf a x).bind asInts with
  |some (n::ns)=>.ok (.int (bestI b n ns)) a
  |_=>.stuck
 |_=>.stuck
noncomputable def pairsF:List D->List D->List D
 |x::xs,y::ys=>.tup [x,y]::pairsF xs ys
 |_,_=>[]
def iZipT(g:SA):SA:=λσ d=>(g σ d).bind λe c=>match e with
 |[.tup a,.tup b]=>.ok (pairsF a b) c
 |_=>.stuck
def sSetG(c:SG) (f:SE):SS:=λσ b=>(f σ b).bind λv a=>match c v σ with
 |some σ1=>.ok (.nx σ1) a
 |none=>.stuck
end Dd
namespace Dd
open L2 PyProof.Rows
structure JE (X:Cx) (e:Expr) (f:SE):Prop where out:DE X e f
structure JT (X:Cx) (e:Expr) (f:ST):Prop where out:DT X e f
structure JW (X:Cx) (e:Expr) (f:ST):Prop where out:DW X e f
structure JA (X:Cx) (e:List Expr) (f:SA):Prop where out:DA X e f
structure JS (X:Cx) (s:Stmt) (f:SS):Prop where out:DSt X s f
structure JB (X:Cx) (s:List Stmt) (f:SS):Prop where out:DSs X s f
structure JO (X:Cx) (e:Option Expr) (f:DS->Store->Res (Option Int)):Prop where out:DO X e f
structure JG (X:Cx) (e:Expr) (b:SG):Prop where out:DG X e b
structure JGs (X:Cx) (e:List Expr) (b:List D->DS->Option DS):Prop where out:DGs X e b
structure JI (X:Cx) (tg iter:Expr) (f:SA):Prop where out:DI X tg iter f
structure JIf (X:Cx) (ifs:List Expr) (c:ST):Prop where out:PIf X ifs (tDT X.K c)
structure JC (X:Cx) (op:CmpOp) (a b:Expr) (f:SE):Prop where out:PC X op a b (tD X.K f)
theorem JW.pt(h:JW X e t):JT X e t:=⟨PW.pt h.out⟩
theorem zdw(h:PE X e (tVar i)):JE X e (aA i):=⟨zbys h⟩
theorem zbbl(h:PE X e (tC v))(k:∀ρ H,At X.K ρ H d v):JE X e (eC d):=⟨zbvm h k⟩
theorem ze{i j pos}:JE X (.Constant (.int i) j pos) (eC (.int i)):=⟨zbza⟩
theorem zyf{b j pos}:JE X (.Constant (.bool b) j pos) (eC (.bl b)):=⟨d_bl⟩
theorem zgo(e:OpR X (binaryOp op) r)(d:OpD X.K g r)(c:JE X a f)(h:JE X b f'):JE X (.BinOp a op b pos) (aS g f f'):=⟨d_op e d c.out h.out⟩
theorem zbjd(e:OpR X (compareOp op) r)(i:OpD X.K g r)(h:JE X a f)(c:JE X b f')(d:behindInMarks op b=false):JE X (.Compare a [op] [b] pos) (aS g f f'):=⟨zbzc e i h.out c.out d⟩
theorem zbn(e:OpR X (compareOp op) r)(i:OpD X.K g r)(h:JE X a f)(c:JE X b f')(d:behindInMarks op b=false):JT X (.Compare a [op] [b] pos) (eB (aS g f f')):=⟨zbuv e i h.out c.out d⟩
theorem zbiz{op}(h:JE X a f):JE X (.BoolOp op [a] pos) f:=⟨zbyw h.out⟩
section
variable {X:Cx}{a:Expr}{b:Expr}{rest:List Expr}{f:SE}{f':SE}{pos:Pos}
theorem zbbm(c:JE X a f)(d:JE X (.BoolOp .And (b::rest) pos) f'):JE X (.BoolOp .And (a::b::rest) pos) (eAnd f f'):=⟨zbzd c.out d.out⟩
end
theorem zbpo(b:JE X a f):JE X (.UnaryOp .Not a pos) (eNot f):=⟨zbyx b.out⟩
theorem znb{op}(h:JT X a t)(b:op=.And\/op=.Or):JW X (.BoolOp op [a] pos) t:=⟨zbuq h.out b⟩
section
variable {X:Cx}{a:Expr}{b:Expr}{rest:List Expr}{t:ST}{t':ST}{pos:Pos}
theorem zbov(c:JT X a t)(d:JW X (.BoolOp .And (b::rest) pos) t'):JW X (.BoolOp .And (a::b::rest) pos) (bAnd t t'):=⟨zbur c.out d.out⟩
end
section
variable {X:Cx}{a:Expr}{b:Expr}{rest:List Expr}{t:ST}{t':ST}{pos:Pos}
theorem zsz(c:JT X a t)(d:JW X (.BoolOp .Or (b::rest) pos) t'):JW X (.BoolOp .Or (a::b::rest) pos) (bOr t t'):=⟨zbyp c.out d.out⟩
end
theorem zha(b:JT X a t):JT X (.UnaryOp .Not a pos) (bNot t):=⟨zbut b.out⟩
theorem zbxe(g:JT X c t)(d:JE X a f)(e:JE X b f'):JE X (.IfExp c a b pos) (eIf t f f'):=⟨d_if g.out d.out e.out⟩
theorem zby:JA X [] aC:=⟨zbvf⟩
theorem zdx{x1}(h:JA X es g):JE X (.Tuple es x1 pos) (aR g):=⟨zbyt h.out⟩
theorem ztc(h:JA X es g):JE X (.List es pos) (eLst g):=⟨zbyz h.out⟩
theorem zez(h:JA X es g):JE X (.List es pos) (eLstM g):=⟨zbvh h.out⟩
theorem ziv:JO X none pNone:=⟨zbpd⟩
theorem ziu(a:JE X e f):JO X (some e) (pSome f):=⟨zbpc a.out⟩
theorem zjh(c:JE X a f)(d:JE X b f')(e:PlainIx b):JE X (.Subscript a b pos) (aS oIx f f'):=⟨d_ix c.out d.out e⟩
section
variable {X:Cx}{e:Expr}{f:SE}{pos:Pos}{lo:Option Expr}{hi:Option Expr}{l:DS->Store->Res (Option Int)}{h:DS->Store->Res (Option Int)}
theorem zbpm{b:Pos}(d:JE X e f)(c:JO X lo l)(a:JO X hi h):JE X (.Subscript e (.Slice lo hi none b) pos) (eSl f l h):=⟨d_sl d.out c.out a.out⟩
end
theorem zq{x:Str}{id:String}(d:CallR X (.builtin id) r)(l:CaD X.K g r)(c:Gl X x)(h:X.mg x=none)(m:bootBuiltins x=some (.builtin id))(k:JA X (e::es) f)(j:x≠"__name__":=by decide)(a:(x==("__debug__" : Str))=false:=by decide)(i:starEach (e::es) X.env=(false,eval e X.env)::starEach es X.env:=by rfl)(b:(backTo pos (starEach es X.env)).any (·.1)=false:=by rfl):JE X (.Call (.Name x p) (e::es) [] pos) (aE g f):=⟨zbpt d l c h m k.out j a i b⟩
theorem zcs{T:String}(d:CallR X (.type T) r)(l:CaD X.K g r)(c:Gl X x)(h:X.mg x=none)(m:bootBuiltins x=some (.type T))(k:JA X (e::es) f)(j:x≠"__name__":=by decide)(a:(x==("__debug__" : Str))=false:=by decide)(i:starEach (e::es) X.env=(false,eval e X.env)::starEach es X.env:=by rfl)(b:(backTo pos (starEach es X.env)).any (·.1)=false:=by rfl):JE X (.Call (.Name x p) (e::es) [] pos) (aE g f):=⟨zbjf d l c h m k.out j a i b⟩
theorem zne:JE X (.Dict [] [] pos) eDNew:=⟨zbvk⟩
theorem zbmp{X:Cx}(a:X.A.units+1<cLine)(c:JE X i g)(b:JE X o f):JC X .In i o (aS (oDIn false) g f):=⟨zbxx a c.out b.out⟩
theorem zbzb(h:JC X op a b t)(c:behindInMarks op b=false:=by first|exact nobehind _ (by decide) (by decide)|rfl):JE X (.Compare a [op] [b] pos) t:=⟨d_in h.out c⟩
theorem zbuu(h:JC X op a b t)(c:behindInMarks op b=false:=by first|exact nobehind _ (by decide) (by decide)|rfl):JT X (.Compare a [op] [b] pos) (eB t):=⟨zbyq h.out c⟩
theorem zbpq{X:Cx}(b:X.A.units+1<cLine)(a:JE X o f)(d:JE X i g)(c:NoSl i):JE X (.Subscript o i pos) (aS oDGet f g):=⟨zbvl b a.out d.out c⟩
theorem zbjc{X:Cx}(a:X.A.units + 1<cLine)(b:JE X o f)(c:JE X e g)(d:JE X f' h)(m:M2 X o "get" apos e f' cpos):JE X (.Call (.Attribute o "get" apos) [e,f'] [] cpos) (eDGet2 f g h):=⟨zbpr a b.out c.out d.out m⟩
theorem zbpp{X:Cx}(a:X.A.units + 1<cLine)(b:JE X o f)(c:JE X e g)(m:M1 X o "pop" apos e cpos):JE X (.Call (.Attribute o "pop" apos) [e] [] cpos) (eDPop f g):=⟨zbvj a b.out c.out m⟩
theorem zow{X:Cx}{a:Pos}(b:X.A.units+1<cLine)(e:JE X o f)(d:JE X i g)(j:JE X value h)(c:swapsWith value (some (.Subscript o i pos')) a.line X.env=pure false):JS X (.Assign [.Subscript o i pos'] value a) (sDPut f g h):=⟨zboy b e.out d.out j.out c⟩
theorem zdn{b:Pos}(i:JE X o f)(j:JA X (e::es) ga)(d:attributeBase o "append" X.env (eval o X.env)=eval o X.env:=by rfl)(g:((backTo cpos (starEach (e::es) X.env)).all (λx=>!x.1)&&(backToKw cpos (keywordEach [] X.env)).all (λx=>x.1.isSome)
 && decide ((e::es).length + ([]:List Keyword).length + (if([]:List Keyword).isEmpty then 0 else 1)<30))=true:=by rfl) (c:(b.endLine==cpos.line)=true:=by rfl) (h:starEach (e::es) X.env=(false,eval e X.env)::starEach es X.env:=by rfl) (a:(backTo cpos (starEach es X.env)).any (·.1)=false:=by rfl):JE X (.Call (.Attribute o "append" b) (e::es) [] cpos) (eAppend f ga):=⟨zbjg i.out j.out d g c h a⟩
theorem zls{b:Pos}(i:JE X o f)(j:JA X (e::es) ga)(d:attributeBase o "extend" X.env (eval o X.env)=eval o X.env:=by rfl)(g:((backTo cpos (starEach (e::es) X.env)).all (λx=>!x.1)&&(backToKw cpos (keywordEach [] X.env)).all (λx=>x.1.isSome)
 && decide ((e::es).length + ([]:List Keyword).length + (if([]:List Keyword).isEmpty then 0 else 1)<30))=true:=by rfl) (c:(b.endLine==cpos.line)=true:=by rfl) (h:starEach (e::es) X.env=(false,eval e X.env)::starEach es X.env:=by rfl) (a:(backTo cpos (starEach es X.env)).any (·.1)=false:=by rfl):JE X (.Call (.Attribute o "extend" b) (e::es) [] cpos) (eExtend f ga):=⟨zbja i.out j.out d g c h a⟩
theorem zbkj(a:JE X o f):JE X o (eFz f):=⟨d_fz a.out⟩
theorem zbr:JB X [] sNx:=⟨zbuz⟩
theorem zbbe:JS X (.Break pos) sBrk:=⟨zbip⟩
theorem zp(a:JE X e f):JS X (.Return (some e) pos) (sRet f):=⟨zbux a.out⟩
theorem zy{a:Pos}(c:JE X e f)(b:swapsWith e none a.line X.env=pure false:=by rfl):JS X (.Expr e a) (sDrop f):=⟨zbox c.out b⟩
theorem zrf{X:Cx}{a:Pos}(j:X.N.Nodup)(h:X.N[i]?=some x)(b:L2.Loc X.env.scope x)(g:JE X e f)(d:swapsWith e (some (.Name x pos')) a.line X.env=pure false:=by rfl)(c:X.fn x=true\/X.env.scope.names.lookup x=some .local:=by first|exact .inl rfl|exact .inr rfl|assumption):JS X (.Assign [.Name x pos'] e a) (aF i f):=⟨zbuw j h b g.out d c⟩
theorem zc(a:JS X sm s):JB X [sm] s:=⟨zbuy a.out⟩
section
variable {X:Cx}{sm:Stmt}{rest:List Stmt}{s:SS}{t:SS}
theorem zb(a:JS X sm s)(b:JB X rest t):JB X (sm::rest) (aD s t):=⟨zboz a.out b.out⟩
end
theorem zcw(e:JT X c b)(a:JB X a' s)(d:JB X b' t):JS X (.If c a' b' pos) (sIf b s t):=⟨zbyr e.out a.out d.out⟩
theorem zbpa{X:Cx}(h:X.N.Nodup)(d:X.N[i]?=some x)(a:L2.Loc X.env.scope x)(c:JE X e f)(j:PIp X op ti)(k:IpD X.K g ti)(b:X.fn x=true\/X.env.scope.names.lookup x=some .local:=by first|exact .inl rfl|exact .inr rfl|assumption):JS X (.AugAssign (.Name x pos') op e pos) (sAug i g f):=⟨zbvb h d a c.out j k b⟩
theorem zre{a:Pos}(c:JE X value h)(e:JE X o f)(d:JE X i g)(l:∀v,assign (.Subscript o i pos') X.env v=(do
 let ov ←holding [v] (eval o X.env)
 let iv ←holding [v,ov] (eval i X.env)
 standAt pos'
 holding [v,ov,iv] (setItem ov iv v)
 release [v,ov,iv] []):=by intro _;rfl) (b:swapsWithSole [.Subscript o i pos'] value a.line X.env=pure false:=by rfl) (j:swappedStores [.Subscript o i pos'] value X.env=pure none:=by rfl) (k:(assignEach [.Subscript o i pos'] X.env).map (·.2)=[assign (.Subscript o i pos') X.env]:=by rfl):JS X (.Assign [.Subscript o i pos'] value a) (sSetIx f g h):=⟨zbim c.out e.out d.out l b j k⟩
theorem zcb{X:Cx}(c:X.N.Nodup)(a:X.N[i]?=some x)(b:L2.Loc X.env.scope x)(d:X.fn x=true\/X.env.scope.names.lookup x=some .local:=by first|exact .inl rfl|exact .inr rfl|assumption):JG X (.Name x pos) (gN i):=⟨zbpi c a b d⟩
theorem zgn:JGs X [] gsNil:=⟨zbph⟩
theorem zbq(a:JG X e t)(b:JGs X es u)(c:(assignEach (e::es) X.env).map (·.2)=assign e X.env::(assignEach es X.env).map (·.2):=by rfl):JGs X (e::es) (gsCons t u):=⟨zbiw a.out b.out c⟩
theorem zkc{X:Cx}(c:X.calm=true)(h:JGs X es u)(b:(assignEach es X.env).length=n:=by rfl)(a:(assignEach es X.env).findIdx? (·.1)=none:=by rfl):JG X (.Tuple es k pos) (gT n u):=⟨zbve c h.out b a⟩
theorem zbc(a:JE X l f):JI X tg l (aH f):=⟨zbvd a.out⟩
theorem zbo(b:Gl X "range")(c:X.mg "range"=none)(e:JA X [a] g)(d:starEach [a] X.env=[(false,eval a X.env)]:=by rfl):JI X tg (.Call (.Name "range" p) [a] [] pos) (iR1 g):=⟨zbbh b c e.out d⟩
theorem zbiv(a:JE X l f):JI X tg l (iDict f):=⟨zbpg a.out⟩
theorem zbec{X:Cx}(d:PassesOwn (model X.prog X.w) X.A X.env X.xe)(c:X.calm=true)(f:JI X tg iter it)(a:JG X tg bd)(g:JB X body b)(e:∀x,foldedSetIterable iter X.env x=pure x:=by intro _;rfl):JS X (.For tg iter body [] pos) (sFor it bd b):=⟨zbva d c f.out a.out g.out e⟩
theorem zlp{X:Cx}(a:PassesOwn (model X.prog X.w) X.A X.env X.xe)(e:JT X c t)(d:JB X body b):JS X (.While c body [] pos) (sWhile t b):=⟨zbil a e.out d.out⟩
theorem zhb{X:Cx}{N:List Str}(d:X.calm=true)(j:JI X tg iter it)(e:∀b C a s H,JG (cxC X N scope b C a s H) tg bd)(g:∀b C a s H,JIf (cxC X N scope b C a s H) ifs c)(i:∀b C a s H,JE (cxC X N scope b C a s H) elt f)(S:CompScope X N k is scope)(h:∀x,foldedSetIterable iter X.env x=pure x:=by intro _;rfl):JE X (.ListComp elt [⟨tg,iter,ifs,0⟩] scope pos) (aG it k is bd c f):=⟨zbvn d j.out (λb C a s H=>(e b C a s H).out) (λb C a s H=>(g b C a s H).out) (λb C a s H=>(i b C a s H).out) S h⟩
theorem zbin{X:Cx}{N:List Str}{d:Pos}(e:X.calm=true)(r:X.N.Nodup)(h:X.N[i]?=some x)(j:L2.Loc X.env.scope x)(q:JI X tg iter it)(l:∀b C a s H,JG (cxC X N scope b C a s H) tg bd)(m:∀b C a s H,JIf (cxC X N scope b C a s H) ifs c)(p:∀b C a s H,JE (cxC X N scope b C a s H) elt f)(S:CompScope X N k is scope)(g:swapsWith (.ListComp elt [⟨tg,iter,ifs,0⟩] scope pos) (some (.Name x pos')) d.line X.env=pure true:=by rfl)(n:X.fn x=true\/X.env.scope.names.lookup x=some .local:=by first|exact .inl rfl|exact .inr rfl|assumption)(o:∀x,foldedSetIterable iter X.env x=pure x:=by intro _;rfl):JS X (.Assign [.Name x pos'] (.ListComp elt [⟨tg,iter,ifs,0⟩] scope pos) d) (aF i (aG it k is bd c f)):=⟨zbow e r h j q.out (λb C a s H=>(l b C a s H).out) (λb C a s H=>(m b C a s H).out) (λb C a s H=>(p b C a s H).out) S g n o⟩
theorem zox:JIf X [] aI:=⟨zbpf⟩
theorem zgm(h:JT X c t):JIf X [c] t:=⟨zbpe h.out⟩
theorem zrk{X:Cx}(c:CalD X.prog X.w X.K X.mg X.base x k ps F)(j:∀ f l v a,F f l=.ok v a->f.length=ps.length)(n:Room k X.A)(h:Gl X x)(m:JA X (e::es) g)(b:(x==("__debug__" : Str))=false:=by decide)(i:starEach (e::es) X.env=(false,eval e X.env)::starEach es X.env:=by rfl)(d:(backTo pos (starEach es X.env)).any (·.1)=false:=by rfl):JE X (.Call (.Name x p) (e::es) [] pos) (aE F g):=⟨zbvo c j n h m.out b i d⟩
theorem zxh{P:Program}{w:World}{K:Fg}{l:Str->Option Value}{d h:Heap}{x:Str}{e:Stmt}{N i:List Str}{k:Nat}{b:SS}(T:TopF K x e)(X:K.In h)(G:h.Ns mainGlobals l)(S:FnScope N i (defScope e))(r:∀(kV m n:Value) (p:Option Addr) (c q:Value) (j:List Value),j.length=i.length->bindArgs (W.fnOf x x (defArgs e) (defBody e) (defScope e) .none kV m n p c q) ⟨j,[]⟩=pure (i.zip j))(g:∀(f:Addr) (c:Value) (A:Around) (a:List Env) (s:Shared) (H:Hp) (E:XK),Room k (A.deeper (envOfC x (defScope e) s.heap.objs.size f c)) ->
 JB (cxOf CX0 P w K l d N x (defScope e) f c A a s H E).nox (defBody e) b):CalD P w K l d x (k+1) i (fnD N.length i.length b):=zbqe T X G S r (λf c A a s H E o=>(g f c A a s H E o).out)
theorem zboc{P:Program}{w:World}{K:Fg}{l:Str->Option Value}{d:Heap}{g:Stmt}{N i:List Str}{k:Nat}{b:SS}{f:Addr}{j:FuncData}(F:Fun K "law" "law" g f j)(S:FnScope N i (defScope g))(n:i.length=1)(e:∀(c:Value) (A:Around) (a:List Env) (s:Shared) (H:Hp) (E:XK),Room k (A.deeper (envOfC "law" (defScope g) s.heap.objs.size f c)) ->
 JB (cxOf CX0 P w K l d N "law" (defScope g) f c A a s H E).nox (defBody g) b) (holds:∀ m:List Int,m.length<=63->∃ h,fnD N.length 1 b [.scr (m.map .int)] []=.ok (.bl true) h):FnOk P w K l d CX0 (k + 1) f j i (spLaw K):=zbtx F S n (λc A a s H E o=>(e c A a s H E o).out) holds
theorem ztb(h:JE X a f):JE X (.UnaryOp .USub a pos) (eUn oNeg f):=⟨zbyy h.out⟩
theorem zbje(k:OpR X (compareOp op) r)(e:OpR X (compareOp op') r')(i:OpD X.K g r)(d:OpD X.K g' r')(l:JE X a f)(m:JE X b f')(h:JE X c f'')(j:lastMarks [op,op'] [b,c]=false:=by with_unfolding_all rfl):JE X (.Compare a [op,op'] [b,c] pos) (eChain g g' f f' f''):=⟨zbps k e i d l.out m.out h.out j⟩
theorem zbbd(k:OpR X (compareOp op) r)(e:OpR X (compareOp op') r')(i:OpD X.K g r)(d:OpD X.K g' r')(l:JE X a f)(m:JE X b f')(h:JE X c f'')(j:lastMarks [op,op'] [b,c]=false:=by with_unfolding_all rfl):JT X (.Compare a [op,op'] [b,c] pos) (eB (eChain g g' f f' f'')):=⟨zbik k e i d l.out m.out h.out j⟩
theorem zhp:JS X sm sStuck:=⟨zbio⟩
theorem zcr(h:JE X a f)(c:∀b,isTrue a X.env b=(do let v ←b;standAt a.pos;holding [v] (truthy v)):=by intro _;rfl):JT X a (eTru f):=⟨zbus h.out c⟩
theorem zbbi(a:Gl X "enumerate")(b:X.mg "enumerate"=none)(c:JE X l f)(d:starEach [l] X.env=[(false,eval l X.env)]:=by rfl):JI X (.Tuple elts k tpos) (.Call (.Name "enumerate" p) [l] [⟨some "start",.Constant (.int 1) j cpos,kpos⟩] pos) (iEnum f):=⟨zbiu a b c.out d⟩
theorem zj(b:JE X e f)(c:JA X es g)(a:plainE e=true:=by rfl):JA X (e::es) (aB f g):=⟨zbix b.out c.out a⟩
end Dd
namespace L2
open Spec PyProof.Rows
section
open AutoSeq1
end
end L2
namespace Dd
open L2
end Dd
namespace L2
open Spec PyProof.Rows
end L2
namespace Dd
open L2 PyProof.Rows
end Dd
namespace L2
open Spec PyProof.Rows
def rInX(K:Fg) (b:Bool):R2:=λx c H Q=>∃d p a,DAt K H x d/\DAt K H c p/\(p=.tuple a\/p=.list a)/\PySem.SeqAt.shaped d=true/\PySem.SeqAt.shaped p=true/\Q (.bl (if b then !a.any λy=>PyData.eqv y d else a.any λy=>PyData.eqv y d)) H
theorem zbrz(h:p=.tuple xs\/p=.list xs)(s:PySem.SeqAt.shaped p=true):PyData.canLayAll0 xs=true/\PyData.depthAll xs<=63:=by
 have:(PyData.canLayAll0 xs&&decide (PyData.depthAll xs+1<=64))=true:=by rcases h with rfl|rfl<;>exact s
 rw[xdm] at this;exact⟨this.1,by have:=xdh this.2;lia⟩
theorem zbcq(s:PySem.SeqAt.shaped d=true):d.canLay0=true:=by
 unfold PySem.SeqAt.shaped at s;rw[xdm] at s;exact s.1
theorem zbtf{X:Cx}(t:X.A.units+64<cLine):OpR X (compareOp .In) (rInX X.K false):=by
 intro r s σ H x y v u Q I k j h;obtain⟨d,p,i,m,n,c,b,l,q⟩:=h;obtain⟨z,f⟩:=zfd I m k;obtain⟨o,e⟩:=zfd I n j;obtain⟨g,w⟩:=zbrz c l;have a:X.A.units+1+min (PyData.depthAll i) d.depth<cLine:=by have:=xhz (PyData.depthAll i) d.depth;lia
 rcases c with rfl|rfl
 ·exact SeqAt.in_tuple_reads e f g (zbcq b) a ⟨.bl _,H,I,rfl,q⟩
 ·exact SeqAt.in_list_reads e f g (zbcq b) a ⟨.bl _,H,I,rfl,q⟩
theorem zms:fillsNumberSlot (.type "tuple") "mul"=pure false:=
 PySem.fillsNumberSlot_seq (id:="tuple.__mul__") (r:=some (.builtin "tuple.__rmul__")) xkb.lookup (by decide +kernel) F.slot_tuple_rmul.lookup (by decide +kernel)
theorem zblo:seqRepeat? (.type "tuple")=pure (some (.builtin "tuple.__mul__")):=by
 unfold seqRepeat?;rw[PySem.seqSlot_of (T:="tuple") (name:="__mul__") (id:="tuple.__mul__") xkb.lookup (by decide +kernel),PySem.seqSlot_of (T:="tuple") (name:="__rmul__") (id:="tuple.__rmul__") F.slot_tuple_rmul.lookup (by decide +kernel)]
 rfl
theorem zbfo(a:Int)(t:Tok)(l:Addr)(b:Array Value)(n:Nat)(e:Option Addr)(f:Array (Option Value)):
  Meets (Builtin.«int.__rmul__» ⟨[.int a t,.ref l],[]⟩) (λ_ R s=>s.heap.get? l=some { cls:=.type "tuple",dict:=e,data:=.seq b n,slots:=f }/\R (.ok (.ret Value.notImplemented)) s):=
 .of_wp λc w A R s h=>by
  obtain⟨i,g,d,j,os⟩:=s;obtain⟨k,h⟩:=h
  wp_walk
  exact⟨_,rfl,h⟩
theorem nb(h:b=false):decide (b=true)=false:=by rw[h];rfl
section
open AutoSeq1
variable (l:Addr)(items:Array Value)(n:Nat)(dd:Option Addr)(sl:Array (Option Value))(x:Int)(u:Tok)
theorem zbag(lo:-1000000<=x)(b:x<=0)(c:items.isEmpty=false):
  Meets (Builtin.«tuple.__mul__» ⟨[.ref l,.int x u],[]⟩) (λ_ R s=>s.heap.get? l=some { cls:=.type "tuple",dict:=dd,data:=.seq items n,slots:=sl }/\R (.ok (.ret (.ref s.heap.objs.size))) { s with heap:=s.heap.push { cls:=.type "tuple",data:=.seq #[] } }):=
 .of_wp λa w A R s h=>by
  obtain⟨e,g,d,f,os⟩:=s;obtain⟨i,h⟩:=h
  wp_walk
  try
   refine xgs ?c1 ?_
   case c1=>exact nb (by rw[xhd];exact⟨xbv (by lia),xbv (by lia)⟩)
   wp_walk
  try
   refine xgs ?c1 ?_
   case c1=>exact nb (by rw[xhd];exact⟨c,beq_false_of_ne (by lia)⟩)
   wp_walk
  try
   refine wpAny_ite_true ?c1 ?_
   case c1=>exact yb (by rw[xoq];exact .inl (xbp b))
   wp_walk
  exact⟨_,rfl,h⟩
theorem zbhc(b:x=1):
  Meets (Builtin.«tuple.__mul__» ⟨[.ref l,.int x u],[]⟩) (λ_ R s=>s.heap.get? l=some { cls:=.type "tuple",dict:=dd,data:=.seq items n,slots:=sl }/\R (.ok (.ret (.ref l))) s):=
 .of_wp λa w A R s h=>by
  obtain⟨c,g,d,e,os⟩:=s;obtain⟨f,h⟩:=h
  wp_walk
  try
   refine xgs ?c1 ?_
   case c1=>exact nb (by rw[xhd];exact⟨xbv (by lia),xbv (by lia)⟩)
   wp_walk
  try
   refine wpAny_ite_true ?c1 ?_
   case c1=>exact yb (by rw[xoq];exact .inr (by rw[b];rfl))
   wp_walk
  exact⟨_,rfl,h⟩
theorem zbah(j:2<=x)(o:x<=1000000)(f:items.isEmpty=false)(m:((items.size:Nat):Int)*x<=1000000)(i:Builtin.Tuple.tupleTooMany (((items.size:Nat):Int)*x)=false)
  (a:(List.foldl (λc b=>c++b) #[] (List.replicate x.toNat items)).size<=sizeLine):
  Meets (Builtin.«tuple.__mul__» ⟨[.ref l,.int x u],[]⟩) (λ_ R s=>s.heap.get? l=some { cls:=.type "tuple",dict:=dd,data:=.seq items n,slots:=sl }/\R (.ok (.ret (.ref s.heap.objs.size))) { s with heap:=s.heap.push { cls:=.type "tuple",data:=.seq (List.foldl (λc b=>c++b) #[] (List.replicate x.toNat items)) } }):=
 .of_wp λe w A R s h=>by
  obtain⟨k,g,d,p,os⟩:=s;obtain⟨q,h⟩:=h
  wp_walk
  try
   refine xgs ?c1 ?_
   case c1=>exact nb (by rw[xhd];exact⟨xbv (by lia),xbv (by lia)⟩)
   wp_walk
  try
   refine xgs ?c1 ?_
   case c1=>exact nb (by rw[xhd];exact⟨f,beq_false_of_ne (by lia)⟩)
   wp_walk
  try
   refine xgs ?c1 ?_
   case c1=>exact nb (by rw[xhd];exact⟨xbv (by lia),f⟩)
   wp_walk
  try
   refine xgs ?c1 ?_
   case c1=>exact xbv (by lia)
   wp_walk
  try
   refine xgs ?c1 ?_
   case c1=>exact nb i
   wp_walk
  try (refine xgs (xbv (Nat.not_lt.mpr a)) ?_;wp_walk)
  exact⟨_,rfl,h⟩
end
noncomputable def timesL{α:Type}(a:List α) (n:Int):List α:=(List.replicate n.toNat a).flatten
theorem zmz{α:Type}(a:List α):∀(n:Nat) (acc:List α),(List.foldl (λ(c b:Array α)=>c++b) acc.toArray (List.replicate n a.toArray))=(acc++(List.replicate n a).flatten).toArray
 |0,acc=>by simp
 |n+1,acc=>by
  rw[xfz,xgc,xfz,xie,←xcc,←zmz a n (acc++a)]
  congr 1
  simp
theorem Vals.times(r:Vals xs us):∀n:Nat,Vals (List.replicate n xs).flatten (List.replicate n us).flatten
 |0=>.nil
 |n+1=>by
  rw[xfz,xie,xfz,xie];exact r.append (Vals.times r n)
def rMulT(K:Fg):R2:=λx y H Q=>∃t a n,x=.ref t/\y=.int n/\SqT K H t a/\a≠[]/\-1000000<=n/\n<=1000000/\(a.length:Int)*n<=1000000/\(n=1->Q (.ref t) H)/\(n≠1->∀p,H p=none->Q (.ref p) (upd H p (.tup (timesL a n))))
theorem zkn{α:Type}(a:List α):∀n:Nat,(List.replicate n a).flatten.length=n*a.length
 |0=>by simp
 |n+1=>by rw[xfz,xie,xbl,zkn a n,xjs];lia
theorem zbcx:OpR X (binaryOp .Mult) (rMulT X.K):=by
 intro aU s σ H x y v u Q I r1 r2 h;obtain⟨t,f,n,rfl,rfl,ht,Y,lo,hi,hz,q1,q2⟩:=h;cases r1;obtain⟨g,rfl⟩:=r2;obtain⟨d,r,⟨o,e,P,m,G⟩,z⟩:=I.tuple ht;obtain⟨cls,w,data,C⟩:=o;dsimp only at P G;subst P G;have k:=r.length;have q:d.toArray.isEmpty=false:=by
  cases d with
  |nil=>cases r;exact absurd rfl Y
  |cons a l=>rfl
 have p:∀{E:Value->Shared->Prop},wpAny (model X.prog X.w) X.A (call (.builtin "tuple.__mul__") [.ref t,.int n g]) E X.xe s->wpAny (model X.prog X.w) X.A (binaryOp .Mult (.ref t) (.int n g)) E X.xe s:=λ{E} hq=>
  wpAny_binaryOp_repeat_ref (T:="tuple") (U:="int") (by decide) ⟨_,e,rfl⟩ (λs'=>typeIs_int s' n g) zms F.fills_int_mul F.slot_int_rmul zblo F.slot_int_index.lookup
   (xlb F.slot_int_rmul (typeIs_int s n g) F.entry_int_rmul (F.args_int_rmul_2 _ _) (zbfo n g t d.toArray m w C) ⟨e,rfl,⟨_,e,rfl⟩,hq⟩)
 refine p ?_;by_cases c:n=1
 ·exact xlb xkb ⟨_,e,rfl⟩ xnw (xnh _ _) (zbhc t d.toArray m w C n g c) ⟨e,.ref t,H,I,rfl,q1 c⟩
 have done:∀ A:List Value,Vals (timesL f n) A->(timesL f n).length<=sizeLine->EP X aU σ Q (.ref s.heap.objs.size) { s with heap:=s.heap.push { cls:=.type "tuple",data:=.seq A.toArray } }:=λA rt hl=>
  ⟨.ref s.heap.objs.size,_,I.laid (t':=s.toks) (o:=.tup (timesL f n)) (λb ob hb=>xbk _ hb) (xbj _) ⟨hl,A,rt,IsTup.new s.heap _⟩,rfl,q2 c _ (I.hok.fresh (xbj _))⟩
 have i:(timesL f n).length=n.toNat*f.length:=zkn f n.toNat;by_cases c2:n<=0
 ·refine xlb xkb ⟨_,e,rfl⟩ xnw (xnh _ _) (zbag t d.toArray m w C n g lo c2 q) ⟨e,?_⟩;have S:timesL f n=[]:=by unfold timesL;rw[show n.toNat=0 by lia];rfl
  exact done [] (by rw[S];exact .nil) (by rw[S];exact xep _)
 ·have a0:n.toNat*f.length<=1000000:=by
   have:((n.toNat*f.length:Nat):Int)=(f.length:Int)*n:=by rw[Int.natCast_mul,xms (by lia),Int.mul_comm]
   lia
  have j:n.toNat*f.length<=sizeLine:=by rw[xha];lia
  have J:List.foldl (λ(x1 x2:Array Value)=>x1++x2) #[] (List.replicate n.toNat d.toArray)=((List.replicate n.toNat d).flatten).toArray:=by
   have:=zmz d n.toNat []
   simpa using this
  have zi:((d.toArray.size:Nat):Int)*n<=1000000:=by rw[xby,←k];exact hz
  refine xlb xkb ⟨_,e,rfl⟩ xnw (xnh _ _) (zbah t d.toArray m w C n g (by lia) hi q zi (xbv (by rw[xha];lia)) (by rw[J,xby,zkn,←k];exact j)) ⟨e,?_⟩;rw[J];exact done _ (r.times n.toNat) (by rw[i];exact j)
end L2
namespace Dd
open L2 PyProof.Rows
def oInG(a:Bool) (x c:D) (b:Store):Res D:=match dataOf b x,dataOf b c with
 |some d,some (.tuple xs)=>if PySem.SeqAt.shaped d=true/\PySem.SeqAt.shaped (.tuple xs)=true then .ok (.bl (if a then !xs.any λy=>PyData.eqv y d else xs.any λy=>PyData.eqv y d)) b else .stuck
 |some d,some (.list xs)=>if PySem.SeqAt.shaped d=true/\PySem.SeqAt.shaped (.list xs)=true then .ok (.bl (if a then !xs.any λy=>PyData.eqv y d else xs.any λy=>PyData.eqv y d)) b else .stuck
 |_,_=>.stuck
theorem zbye{K:Fg}{g:Bool}:OpD K (oInG g) (rInX K g):=λρ H l x y u v z k Q c a b e q=>by
 unfold oInG at e;split at e
 ·rename_i d i j h;split at e
  ·rename_i f;cases e;exact⟨_,_,i,zeq c a j,zeq c b h,.inl rfl,f.1,f.2,q _ _ _ (.refl _ _) c (.bl _)⟩
  ·cases e
 ·rename_i d i j h;split at e
  ·rename_i f;cases e;exact⟨_,_,i,zeq c a j,zeq c b h,.inr rfl,f.1,f.2,q _ _ _ (.refl _ _) c (.bl _)⟩
  ·cases e
 ·cases e
def oMulT(x y:D) (a:Store):Res D:=match x,y with
 |.tup xs,.int n=>if xs≠[]/\-1000000<=n/\n<=1000000/\(xs.length:Int)*n<=1000000 then .ok (.tup (timesL xs n)) a else .stuck
 |_,_=>.stuck
theorem AtAll.times{K:Fg}{ρ:Loc}{H:Hp}{b:List D}{a:List V}(h:AtAll K ρ H b a):∀n:Nat,AtAll K ρ H (List.replicate n b).flatten (List.replicate n a).flatten
 |0=>.nil
 |n+1=>by
  rw[xfz,xie,xfz,xie];exact h.append (AtAll.times h n)
theorem zbcy{K:Fg}:OpD K oMulT (rMulT K):=λρ H j x y u v z h Q f a b e q=>by
 unfold oMulT at e;split at e
 ·rename_i xs n;split at e
  ·rename_i c;cases e;cases b;cases a with
   |tup h1 h2 h3=>
    have i:=h3.length;refine⟨_,_,n,rfl,rfl,SqT.of h1,λz=>?_,c.2.1,c.2.2.1,by rw[i];exact c.2.2.2,λz=>?_,λz p d=>?_⟩
    ·subst z;cases h3;exact c.1 rfl
    ·subst z;refine q _ _ _ (.refl _ _) f ?_;have g:timesL xs 1=xs:=by simp[timesL]
     rw[g];exact .tup h1 h2 h3
    ·exact q _ _ _ (Ext.new d _) (f.new d _) (.newT f d (h3.times n.toNat))
  ·cases e
 ·cases e
end Dd
namespace L2
open Spec PyProof.Rows PySem.W
theorem zry{a:List Int}(r:Vals (a.map V.int) us) (b:i<a.length):∃t,us.getD i Value.none=Value.int (a.getD i 0) t:=by
 have e:(a.map V.int)[i]?=some (V.int a[i]):=by rw[xco,xbd b];rfl
 obtain⟨u,c,t,d⟩:=r.get e;refine⟨t,?_⟩;rw[xbg,c,xbg,xbd b];exact d
theorem zbkv{c:List Int}(r:Vals (c.map V.int) a):∀v∈a,∃i t,v=Value.int i t:=λv f=>by
 obtain⟨i,d,rfl⟩:=xev f;have b:=r.length;rw[xbc] at b;obtain⟨t,e⟩:=zry r (i:=i) (by lia);rw[xbg,xbd d] at e;exact⟨_,t,e⟩
theorem zpy(a b:Int):HT.lexLt [a] [b]=decide (a<b):=by
 by_cases h:a=b
 ·subst h;simp[HT.lexLt]
 ·simp[HT.lexLt,h]
noncomputable abbrev ones(a:List Int):List (List Int):=a.map λn=>[n]
theorem zge{a:List Int}(b:i<a.length):(ones a).getD i []=[a.getD i 0]:=by
 rw[xbg,xco,xbd b,xbg,xbd b]
 rfl
theorem zbjz{a:List Int}(h:2<=a.length)(r:Vals (a.map V.int) us):Srt.Answers P w B (Srt.rank (ones a)) us sg:=by
 have d:=r.length;rw[xbc] at d;refine⟨oneType',λR g=>?_,λi j C k l b=>?_⟩
 ·exact kas_kind (T:=.type "int") (by lia) (λv f=>by
   obtain⟨i,t,rfl⟩:=zbkv r v f
   exact Looks.now) (by decide) (by decide) g
 ·obtain⟨t,c⟩:=zry r (i:=i) (by lia);obtain⟨m,e⟩:=zry r (i:=j) (by lia);unfold kas_ask;rw[c,e];rw[Srt.zmm (by rw[xbc];lia) (by rw[xbc];lia),zge (by lia),zge (by lia),zpy] at b;rw[keyLt'_oneType];exact oneLt_int b
theorem zbjk{a:List Int}(r:Vals (a.map V.int) us):Srt.Coh (Srt.rank (ones a)) us:=λi j f g e=>by
 have d:=r.length;rw[xbc] at d;obtain⟨t,b⟩:=zry r (i:=i) (by lia);obtain⟨h,c⟩:=zry r (i:=j) (by lia);rw[b,c] at e;have:a.getD i 0=a.getD j 0:=by injection e
 unfold Srt.rank;rw[zge (by lia),zge (by lia),this]
theorem znt{α:Type}{f:α->V}{g:α->Value}:∀{l:List α},(∀a∈l,RelV (f a) (g a))->Vals (l.map f) (l.map g)
 |[],_=>.nil
 |a::l,h=>.cons (h a xbr) (znt λb c=>h b (xbf _ c))
theorem zbgo{ns:List Int}{m:List Value}(r:Vals (ns.map V.int) m){p:Array Nat}(h:p.Perm (List.toArray (List.range ns.length)))(C:Srt.Up (Srt.rank (ones ns)) p ns.length):
  ∃o:List Int,o.Perm ns/\o.Pairwise (·<=·)/\Vals (o.map V.int) (Srt.outOf m p).toList:=by
 have E:=r.length;rw[xbc] at E;have J:p.size=ns.length:=by rw[h.size_eq];simp
 have l:∀i∈p.toList,i<ns.length:=λi b=>by
  have I:=(h.mem_iff (a:=i)).mp (by rw[←xmc];exact b);exact xbi.mp (List.mem_toArray.mp I)
 refine⟨p.toList.map λi=>ns.getD i 0,?_,?_,?_⟩
 ·have y:p.toList.Perm (List.range ns.length):=by
   have:=xfu.mp h
   simpa using this
  have s:=y.map λi=>ns.getD i 0
  have P:((List.range ns.length).map λi=>ns.getD i 0)=ns:=by
   apply xjv
   ·simp
   ·intro i Q A;simp[xbg,A]
  rw[P] at s;exact s
 ·rw[xgb];intro i j b c d;rw[xjw,xjw];rw[xbc] at b c;have G:i<p.size:=by simpa using b
  have H:j<p.size:=by simpa using c
  have q:=C i j (xcf d) (by lia);have g:∀k,(v:k<p.toList.length)->p.getD k 0=p.toList[k]:=λk v=>by
   have f:k<p.size:=by simpa using v
   rw[xdd,xdk f];simp
  have w:=l _ (xcy b);have u:=l _ (xcy c);have x:=Srt.zmm (ks:=ones ns) (i:=p.toList[j]) (j:=p.toList[i]) (by rw[xbc];exact u) (by rw[xbc];exact w);have n:Srt.lt (Srt.rank (ones ns)) p.toList[j] p.toList[i]=false:=by
   refine xbv λz=>?_
   unfold Srt.At at q;rw[g i b,g j c] at q;lia
  rw[n,zge u,zge w,zpy] at x;have:=xnj x.symm;lia
 ·unfold Srt.outOf;rw[xcz];show Vals _ (p.toList.map λi=>m.getD i Value.none);refine znt λi b=>?_
  obtain⟨t,e⟩:=zry r (l i b);exact⟨t,e⟩
end L2
namespace Dd
open L2 PyProof.Rows
noncomputable def sortI(l:List Int):List Int:=l.mergeSort λa b=>decide (a<=b)
theorem zia(l:List Int):(sortI l).Perm l:=List.mergeSort_perm _ _
theorem zbfd(l:List Int):(sortI l).Pairwise (·<=·):=by
 have:=List.pairwise_mergeSort (le:=λa b:Int=>decide (a<=b)) (λa b c d e=>by simp at *;lia) (λa b=>by simp;lia) l;exact this.imp λh=>by simpa using h
theorem zbfe{a:List Int}(p:a.Perm b)(h:a.Pairwise (·<=·)):a=sortI b:=
 (p.trans (zia b).symm).eq_of_pairwise (λx y _ _ c d=>by lia) h (zbfd b)
end Dd
namespace L2
open Spec PyProof.Rows
end L2
namespace Dd
open L2 PyProof.Rows
end Dd
namespace Dd
variable {α:Type}
section
variable {motive:List α->Prop}
@[elab_as_elim] theorem len0 (us:List α) (a:us.length=0) (h:motive []):motive us:=by rw[List.eq_nil_of_length_eq_zero a];exact h
@[elab_as_elim] theorem lenS {n:Nat}(us:List α) (b:us.length=n+1) (h:∀a us,us.length=n->motive (a::us)):motive us:=by
 cases us with
 |nil=>cases b
 |cons a us=>exact h a us (Nat.succ.inj b)
@[elab_as_elim] theorem len1 (us:List α) (b:us.length=1) (h:∀a,motive [a]):motive us:=lenS us b λa us b=>len0 us b (h a)
@[elab_as_elim] theorem len2 (us:List α) (c:us.length=2) (h:∀a b,motive [a,b]):motive us:=lenS us c λa us c=>len1 us c (h a)
@[elab_as_elim] theorem len3 (us:List α) (d:us.length=3) (h:∀a b c,motive [a,b,c]):motive us:=lenS us d λa us d=>len2 us d (h a)
@[elab_as_elim] theorem len4 (us:List α) (e:us.length=4) (h:∀a b c d,motive [a,b,c,d]):motive us:=lenS us e λa us e=>len3 us e (h a)
end
end Dd
namespace Dd
open L2
def iterF(s:DFn->DFn):Nat->DFn
 |0=>λ_ _=>.stuck
 |n+1=>s (iterF s n)
theorem zxg{K:Fg}{N:List Str}(T:TopF K x b)(X:K.In h)(G:h.Ns mainGlobals mg)(S:FnScope N ps (defScope b))
  (o:∀(kV l n:Value) (r:Option Addr) (c t:Value) (d:List Value),d.length=ps.length->bindArgs (W.fnOf x x (defArgs b) (defBody b) (defScope b) .none kV l n r c t) ⟨d,[]⟩=pure (ps.zip d)):CalD P w K mg base x (k+1) ps (λ_ _=>.stuck):=
 zro T X G S o (λp H Q E i=>by obtain⟨ρ,y,b,v,g,a,u,e,m,q⟩:=i;exact m) λf c A j s H p Q E z i=>by obtain⟨ρ,y,b,v,g,a,u,e,m,q⟩:=i;cases e
theorem CalD.iter{K:Fg}{L:Nat}(e:CalD P w K mg base x L ps (λ_ _=>.stuck))(g:∀F b c v a,s F b c=.ok v a->b.length=ps.length)
  (f:∀F j,L<=j->(∀b c v a,F b c=.ok v a->b.length=ps.length)->CalD P w K mg base x j ps F->CalD P w K mg base x (j+1) ps (s F)):∀n,CalD P w K mg base x (L+n) ps (iterF s n):=λn=>by
 have d:∀n,(∀b c v a,iterF s n b c=.ok v a->b.length=ps.length)/\CalD P w K mg base x (L+n) ps (iterF s n):=λn=>by
  induction n with
  |zero=>exact⟨λ_ _ _ _ h=>(by cases h),e⟩
  |succ n ih=>exact⟨g _,f _ _ (xck _ _) ih.1 ih.2⟩
 exact(d n).2
end Dd
namespace L2
open Spec PyProof.Rows
end L2
namespace Dd
open L2 PyProof.Rows
end Dd
namespace L2
open Spec PyProof.Rows
end L2
namespace Dd
open L2
end Dd
namespace Dd
open L2 PyProof.Rows
end Dd
namespace L2
open Spec PyProof.Rows
theorem zgz{α β:Type}{f:α->Option β}{g:α->β}:∀{l:List α},(∀x∈l,f x=some (g x))->l.filterMap f=l.map g
 |[],_=>rfl
 |x::l,h=>by
  rw[xkh,h x xbr,xbq,zgz λy a=>h y (xbf _ a)]
theorem zqh(a:Array Value):slicePick a none none (some (-1))=a.toList.reverse.toArray:=by
 have e:sliceRange (sliceBounds none none (some (-1)) a.size).1 (sliceBounds none none (some (-1)) a.size).2.1 (sliceBounds none none (some (-1)) a.size).2.2=(List.range a.size).map λk=>a.size-1-k:=by
  unfold sliceRange sliceBounds;simp only[xkc,show ¬ ((-1:Int) > 0) by decide,xeu];have c:(if(a.size:Int)-1 > -1 then((a.size:Int)-1 - -1 - -1-1) / - -1 else 0).toNat=a.size:=by
   rw[Int.neg_neg,xoc];split<;>lia
  rw[c];refine xea λk d=>?_
  have:=xbi.mp d;lia
 unfold slicePick;rw[e,xks]
 congr 1
 cases hz:a.size with
 |zero=>
  have:a.toList=[]:=xhj.mp (by rw[xch];exact hz);rw[this]
  rfl
 |succ n=>
  have b:∀k,a.size-1-k<a.size:=λk=>by lia
  rw[zgz (g:=λk=>a[a.size-1-k]'(b k)) λk _=>by
   show a[n+1-1-k]?=_;rw[←hz]
   exact getElem?_pos a _ (b k)]
  refine xjv (by simp[hz]) λi h f=>?_
  rw[xjw,List.getElem_range,List.getElem_reverse];simp
def tBack(K:Fg) (d c:TE):TE:=λσ H Q=>d σ H λx H1=>c σ H1 λy H2=>∃a b,x=.ref a/\y=.int (-1)/\SqL K H2 a b/\∀p,H2 p=none->Q (.ref p) (upd H2 p (.lst b.reverse))
theorem zns:∀{c:List V}{d:List Value},Vals c d->Vals c.reverse d.reverse
 |[],_,h=>by cases h;exact .nil
 |x::c,_,h=>by
  cases h with
  |cons a b=>rw[xlm,xlm];exact(zns b).append (.cons a .nil)
theorem zbmo(n:PE X e te)(C:PE X es ts):PE X (.Subscript e (.Slice none none (some es) p2) pos) (tBack X.K te ts):=by
 intro g s σ H Q I h;refine Subscript_ (thn (n g s σ H _ I h) λv E f=>?_);obtain⟨x,H1,J,A,m⟩:=f;refine wpAny_Slice ?_;rw[xnq,evalPart_some];refine xbe (xbe (thn (C g E σ H1 _ J m) λP c f=>?_));obtain⟨y,H3,l,G,a,p,rfl,rfl,t,q⟩:=f;obtain⟨j,rfl⟩:=G;cases A;have d:Inv X g σ H3 { c with heap:=c.heap.push { cls:=.type "slice",data:=.fields #[.none,.none,.int (-1) j] } }:=l.kept (t':=c.toks) λb w q=>xbk _ q
 obtain⟨z,r,i,u⟩:=d.list t;have k:=r.length;refine tail_any (ops:=[.ref a,.ref c.heap.objs.size]) i.isList.typeIs xnz.lookup ?_ (by with_unfolding_all rfl);refine wpAny_getItem_list_slice i.isList (xne ..) .none .none (.int (-1) j) (by simp) ?_ (by rw[xby]<;>lia);rw[zqh];refine⟨.ref _,_,d.laid (t':=c.toks) (o:=.lst p.reverse) (λb w q=>xbk _ q) (xbj _) ?_,rfl,q _ (d.hok.fresh (xbj _))⟩;exact⟨by rw[xki];exact u,_,0,zns r,xci _ rfl⟩
end L2
namespace Dd
open L2
theorem AtAll.rev{K:Fg}:∀{c:List D}{e:List V},AtAll K ρ H c e->AtAll K ρ H c.reverse e.reverse
 |[],_,h=>by cases h;exact .nil
 |d::c,_,h=>by
  cases h with
  |cons a b=>rw[xlm,xlm];exact(AtAll.rev b).append (.cons a .nil)
end Dd
namespace L2
open Spec PyProof.Rows
theorem zpi{s:Shared}{n:Nat}(e:s.heap.IsSliceOf sl .none .none (.int (-1) tk))(h:Q ((n:Int)-1,-1,n) s):wpAny (model prog w) A (Builtin.Slice.sliceApplied (.ref sl) (pure (n:Int))) Q E s:=by
 obtain⟨os,a,g,b⟩:=id e;unfold Builtin.Slice.sliceApplied Builtin.Slice.sliceFields;refine xba (xba (xji a b (x:=.none) rfl (xba (xji a b (x:=.none) rfl (xba (xji a b (x:=.int (-1) tk) rfl (xbe ?_)))))));refine xba (HT.zdy (.int (-1) tk) ?_);show wpAny _ _ (if((-1:Int)==0)=true then _ else _) _ _ s;rw[if_neg (by decide)];refine xba (HT.zdy .none (xba (HT.zdy .none (xba (xbe ?_)))));show wpAny _ _ (match Builtin.Slice.sliceAdjust none none (-1) (n:Int) with|(lo,f)=>pure (lo,(-1:Int),Builtin.Slice.slicePlaces lo f (-1))) _ _ s;have c:Builtin.Slice.sliceAdjust none none (-1) (n:Int)=((n:Int)-1,-1):=by
  unfold Builtin.Slice.sliceAdjust;simp
 have d:Builtin.Slice.slicePlaces ((n:Int)-1) (-1) (-1)=n:=by
  unfold Builtin.Slice.slicePlaces;simp only[show ¬ ((-1:Int) > 0) by decide,xeu,Int.neg_neg,xoc];split<;>lia
 rw[c];show wpAny _ _ (pure ((n:Int)-1,(-1:Int),Builtin.Slice.slicePlaces ((n:Int)-1) (-1) (-1))) _ _ s;rw[d];exact xbe h
theorem zbfl(a:Array Value):((List.range a.size).filterMap λ(m:Nat)=>a[((a.size:Int)-1+(m:Int)*(-1)).toNat]?).toArray=a.toList.reverse.toArray:=by
 rw[←zqh];unfold slicePick;have e:sliceRange (sliceBounds none none (some (-1)) a.size).1 (sliceBounds none none (some (-1)) a.size).2.1 (sliceBounds none none (some (-1)) a.size).2.2=(List.range a.size).map λk:Nat=>((a.size:Int)-1+(k:Int)*(-1)).toNat:=by
  unfold sliceRange sliceBounds;simp only[xkc,show ¬ ((-1:Int) > 0) by decide,xeu];have b:(if(a.size:Int)-1 > -1 then((a.size:Int)-1 - -1 - -1-1) / - -1 else 0).toNat=a.size:=by
   rw[Int.neg_neg,xoc];split<;>lia
  rw[b];refine xea λk c=>?_
  lia
 rw[e,xks]
 rfl
theorem zgl{s:Shared}(b:IsTup s.heap t items)(i:s.heap.IsSliceOf sl .none .none (.int (-1) tk))
  (h:Q (.ref s.heap.objs.size) { s with heap:=s.heap.push { cls:=.type "tuple",data:=.seq items.toList.reverse.toArray } })
  (c:items.size<=sizeLine):wpAny (model prog w) A (getItem (.ref t) (.ref sl)) Q E s:=by
 have a:sizeOk (.seq items.toList.reverse.toArray):=by
  show items.toList.reverse.toArray.size<=sizeLine;rw[xby,xki,xch];exact c
 obtain⟨os,d,g,j⟩:=id i;have f:s.TypeIs (.ref sl) "slice":=⟨os,d,g⟩
 unfold getItem
 try with_reducible refine xeq ?_
 first|refine xba (xbe ?_)|skip
 refine xba (xny b.typeIs (by decide) ?_)
 refine xba (wpAny_callSpecial?_slot (name:=Str.ofString "__getitem__") b.typeIs xfb
  (xer xfb b.typeIs PyProof.Rows.entry_tuple_getitem ?_ (PyProof.Rows.args_tuple_getitem _ _)))
 show wpAny _ _ (Builtin.Tuple.tupleItemsOf (.ref t) >>= _) _ _ s;refine xba (PyProof.Rows.tupleItemsOf_ b ?_);refine xba (xmn f ?_);rw[if_pos (by decide)];refine xba (zpi i ?_);have e:¬ ((((items.size:Int)-1)==0&&(-1:Int)==1&&items.size==items.size)=true):=by
  intro q;rw[xdm,xdm] at q;exact absurd (eq_of_beq q.1.2) (by decide)
 show wpAny _ _ (if(((items.size:Int)-1)==0&&(-1:Int)==1&&items.size==items.size)=true then _ else _) _ _ s;rw[if_neg e,zbfl]
 first
  |exact xba (m:=Builtin.Tuple.tupleExact _) (xdx (xbe ⟨_,rfl,xbe h⟩) a)
  |exact xba (m:=Builtin.Tuple.tupleExact _) (xdx (xba (xbe (xbe ⟨_,rfl,xbe h⟩))) a)
  |exact xba (xba (m:=Builtin.Tuple.tupleExact _) (xdx (xbe (xbe ⟨_,rfl,xbe h⟩)) a))
  |exact xba (xba (m:=Builtin.Tuple.tupleExact _) (xdx (xbe ⟨_,rfl,xbe h⟩) a))
def tBackT(K:Fg) (d c:TE):TE:=λσ H Q=>d σ H λx H1=>c σ H1 λy H2=>∃a b,x=.ref a/\y=.int (-1)/\SqT K H2 a b/\∀p,H2 p=none->Q (.ref p) (upd H2 p (.tup b.reverse))
theorem zbgj(m:PE X e te)(A:PE X es ts):PE X (.Subscript e (.Slice none none (some es) p2) pos) (tBackT X.K te ts):=by
 intro g s σ H Q I h;refine Subscript_ (thn (m g s σ H _ I h) λv E f=>?_);obtain⟨x,H1,J,z,l⟩:=f;refine wpAny_Slice ?_;rw[xnq,evalPart_some];refine xbe (xbe (thn (A g E σ H1 _ J l) λP c f=>?_));obtain⟨y,H3,k,G,a,n,rfl,rfl,p,q⟩:=f;obtain⟨C,rfl⟩:=G;cases z;have d:Inv X g σ H3 { c with heap:=c.heap.push { cls:=.type "slice",data:=.fields #[.none,.none,.int (-1) C] } }:=k.kept (t':=c.toks) λb u q=>xbk _ q
 obtain⟨w,r,i,t⟩:=d.tuple p;have j:=r.length;refine tail_any (ops:=[.ref a,.ref c.heap.objs.size]) i.typeIs xfb.lookup ?_ (by with_unfolding_all rfl);refine zgl i (xne ..) ?_ (by rw[xby]<;>lia);refine⟨.ref _,_,d.laid (t':=c.toks) (o:=.tup n.reverse) (λb u q=>xbk _ q) (xbj _) ?_,rfl,q _ (d.hok.fresh (xbj _))⟩;exact⟨by rw[xki];exact t,_,zns r,⟨_,xci _ rfl,rfl,_,rfl⟩⟩
theorem zzr(h:PE X e t)(b:PE X e t'):PE X e (λσ H Q=>t σ H Q\/t' σ H Q):=λa s σ H Q I q=>by
 rcases q with q|q
 ·exact h a s σ H Q I q
 ·exact b a s σ H Q I q
end L2
namespace Dd
open L2
def eBack(f g:SE):SE:=λσ c=>(f σ c).bind λx b=>(g σ b).bind λy a=>match y with
 |.int (-1)=>match x with
  |.tup xs=>.ok (.tup xs.reverse) a
  |x=>match asL a x with
   |some xs=>.ok (.lst xs.reverse) a
   |none=>.stuck
 |_=>.stuck
theorem zbpu(r:JE X e f)(t:JE X es g):JE X (.Subscript e (.Slice none none (some es) p2) pos) (eBack f g):=⟨zfh (zzr (zbmo r.out t.out) (zbgj r.out t.out)) λτ H Q C=>by
 obtain⟨ρ,σ,s,v,E,a,z,e,q⟩:=C;obtain⟨x,c,n,e⟩:=za e;obtain⟨y,I,o,e⟩:=za e;split at e
 ·split at e
  ·cases e;refine .inr ⟨ρ,σ,s,_,c,a,z,n,λm H1 u j d l=>?_⟩;refine⟨m,σ,c,_,_,a.ext j,d,o,λA H2 w i b k=>?_⟩;cases k;cases l.ext i with
   |tup h1 h2 h3=>exact⟨_,_,rfl,rfl,SqT.of h1,λp h=>q _ _ _ ((j.trans i).trans (Ext.new h _)) (b.new h _) (.newT b h h3.rev)⟩
  ·split at e
   ·rename_i S G;cases e;refine .inl ⟨ρ,σ,s,x,c,a,z,n,λm H1 u j d l=>?_⟩;refine⟨m,σ,c,_,_,a.ext j,d,o,λA H2 w i b k=>?_⟩;cases k;obtain⟨p,U,rfl,P,J⟩:=zfs b (l.ext i) G;exact⟨_,_,rfl,rfl,SqL.of P,λp h=>q _ _ _ ((j.trans i).trans (Ext.new h _)) (b.new h _) (.newL b h J.rev)⟩
   ·cases e
 ·cases e⟩
end Dd
namespace L2
open Spec PyProof.Rows
end L2
namespace Dd
open L2
end Dd
namespace L2
open Spec PyProof.Rows
end L2
namespace L2
namespace St
noncomputable abbrev lt(a b:Nat):Prop:=a<b
theorem zwj(e:Array Nat)(j:Nat)(f:∀a b,a<=b->b<e.size->e.getD a j<=e.getD b j):∀(fuel lo hi:Nat),lo<=hi->hi<=e.size->hi-lo<=fuel->(∀i,i<lo->e.getD i j<j)->(∀i,hi<=i->i<e.size->j<=e.getD i j) ->
  SetTable.below.go e j fuel lo hi<=e.size/\(∀i,i<SetTable.below.go e j fuel lo hi->e.getD i j<j)/\(∀i,SetTable.below.go e j fuel lo hi<=i->i<e.size->j<=e.getD i j)
 |0,lo,hi,h1,h2,h3,a,b=>by
  have:lo=hi:=by lia
  subst this;unfold SetTable.below.go;exact⟨h2,a,b⟩
 |fuel+1,lo,hi,h1,h2,h3,a,b=>by
  unfold SetTable.below.go;by_cases c:lo<hi
  ·rw[if_pos c];dsimp only;by_cases d:e.getD ((lo+hi)/2) j<j
   ·rw[if_pos d]
    exact zwj e j f fuel _ hi (by lia) h2 (by lia) (λi g=>by
     have:=f i ((lo+hi)/2) (by lia) (by lia)
     lia) b
   ·rw[if_neg d]
    exact zwj e j f fuel lo _ (by lia) (by lia) (by lia) a (λi g h=>by
     have:=f ((lo+hi)/2) i g h
     lia)
  ·rw[if_neg c];have:lo=hi:=by lia
   subst this;exact⟨h2,a,b⟩
def Up(a:Array Nat):Prop:=a.toList.Pairwise lt
theorem zep(a:Array Nat)(i d:Nat):a.getD i d=a.toList.getD i d:=by
 rw[xdd,xbg,xcm]
theorem Up.mono(h:Up xs)(d a b:Nat)(g:a<=b)(i:b<xs.size):xs.getD a d<=xs.getD b d:=by
 rcases xij a b with c|c
 ·have f:b<xs.toList.length:=by simpa using i
  have e:a<xs.toList.length:=by lia
  rw[zep,zep,xbg,xbg,xbd e,xbd f];exact xcf (xgb.mp h a b e f c)
 ·have:a=b:=by lia
  subst this;exact xbj _
theorem zej(h:Up xs)(j:Nat):SetTable.below xs j<=xs.size/\(∀i,i<SetTable.below xs j->xs.getD i j<j)/\(∀i,SetTable.below xs j<=i->i<xs.size->j<=xs.getD i j):=
 zwj xs j (h.mono j) xs.size 0 xs.size (by lia) (by lia) (by lia) (λi b=>absurd b (by lia)) (λi c a=>absurd a (by lia))
theorem znl(h:Up b)(j:Nat):∀y∈b.toList.take (SetTable.below b j),y<j:=λy e=>by
 obtain⟨f,c,g⟩:=zej h j;obtain⟨i,d,rfl⟩:=List.mem_iff_getElem.mp e;rw[xcx] at d;have a:i<b.toList.length:=by lia
 have:=c i (by lia);rw[zep,xbg,xbd a] at this;rw[xnv];exact this
theorem ziz(h:Up a)(j:Nat):∀y∈a.toList.drop (SetTable.below a j),j<=y:=λy d=>by
 obtain⟨g,f,e⟩:=zej h j;obtain⟨i,c,rfl⟩:=List.mem_iff_getElem.mp d;rw[xgh] at c;have k:a.toList.length=a.size:=by simp
 have b:SetTable.below a j+i<a.toList.length:=by lia
 have:=e (SetTable.below a j+i) (by lia) (by lia);rw[zep,xbg,xbd b] at this;rw[xnu];exact this
theorem zbby(h:Up xs) (hj:j∈xs.toList):xs[SetTable.below xs j]?=some j:=by
 have c:=znl h j;have b:=ziz h j;rw[←xda (SetTable.below xs j) xs.toList] at hj;rcases xca.mp hj with hj|hj
 ·exact absurd (c j hj) (xhg _)
 ·have a:(xs.toList.drop (SetTable.below xs j)).Pairwise lt:=xgx (xnt _ _) h;have:(xs.toList.drop (SetTable.below xs j))[0]?=some j:=by
   cases e:xs.toList.drop (SetTable.below xs j) with
   |nil=>rw[e] at hj;cases hj
   |cons y l=>
    rw[e] at hj b a;rcases xbm.mp hj with rfl|hj
    ·rfl
    ·have f:=b y (by simp);have d:y<j:=(xgz.mp a).1 j hj;lia
  rw[xfs] at this;rw[←xcm]
  simpa using this
theorem zeo{α:Type}(a:Array α)(p:Nat)(x:α):(SetTable.insertAt a p x).toList=a.toList.take p++x::a.toList.drop p:=by
 unfold SetTable.insertAt;rw[xeb,xfk,xme,xme];simp[List.extract];exact xdu (by simp)
theorem Up.insert(h:Up xs) (f:j∉xs.toList):Up (SetTable.insertAt xs (SetTable.below xs j) j):=by
 unfold Up;rw[zeo,xgp];refine⟨xgx (xlj _ _) h,xgz.mpr ⟨λy c=>?_,xgx (xnt _ _) h⟩,λa g b hb=>?_⟩
 ·have d:=ziz h j y c;have i:y≠j:=λe=>f (e ▸ xff c)
  show j<y;lia
 ·have d:=znl h j a g;rcases xbm.mp hb with rfl|hb
  ·exact d
  ·have:=ziz h j b hb;show a<b;lia
end St
namespace St
structure Tb (t:SetTable):Prop where
 up:Up t.place
 nd:t.dummies=#[]
 inm:∀y∈t.place.toList,y<=t.mask
 pl:t.plain=true
theorem zwi(j:Nat):SetTable.has #[] j=false:=by
 unfold SetTable.has;simp
theorem Tb.slot(h:Tb t)(j:Nat):(t.slot j=.empty/\j∉t.place.toList)\/(∃i,t.slot j=.live i)/\j∈t.place.toList:=by
 unfold SetTable.slot;dsimp only;by_cases c:t.place[SetTable.below t.place j]?=some j
 ·right
  rw[if_pos (by rw[c];exact xhn _)];rw[←xcm] at c;exact⟨⟨_,rfl⟩,xbu c⟩
 ·left
  rw[if_neg (by simpa using c),h.nd,zwi];exact⟨rfl,λa=>c (zbby h.up a)⟩
noncomputable def iAt(a:Nat):Nat->Nat->Nat->Nat
 |0,i,_=>i
 |k+1,i,per=>iAt a k ((i*5+1+per/32)%(a+1)) (per/32)
noncomputable def nextP(a:Nat) (p:SetTable.Probe):SetTable.Probe:={j:=(p.i*5+1+p.perturb/32)%(a+1),more:=SetTable.runEnd a ((p.i*5+1+p.perturb/32)%(a+1))-(p.i*5+1+p.perturb/32)%(a+1),i:=(p.i*5+1+p.perturb/32)%(a+1),perturb:=p.perturb/32,dummy:=p.dummy}
theorem zbkc{t:SetTable}{p:SetTable.Probe}(h:p.more=m+1):t.advance p={p with j:=p.j+1,more:=m}:=by
 unfold SetTable.advance;rw[if_pos (by lia),h]
 rfl
theorem zbkd{t:SetTable}{p:SetTable.Probe}(h:p.more=0):t.advance p=nextP t.mask p:=by
 unfold SetTable.advance;rw[if_neg (by lia)]
 rfl
theorem window(g:Tb t)(h:Int):∀(m d:Nat) (p:SetTable.Probe),p.more=m->p.dummy=none ->
  (∃j,SetTable.probe.go t (λ_=>h+1) h (d+m+1) p=some (.empty j none)/\j∉t.place.toList/\j<=p.j+m) \/
  (p.j∈t.place.toList/\∃l,l.i=p.i/\l.perturb=p.perturb/\l.dummy=none/\SetTable.probe.go t (λ_=>h+1) h (d+m+1) p=SetTable.probe.go t (λ_=>h+1) h d (nextP t.mask l))
 |0,d,p,hm,hd=>by
  have e:SetTable.probe.go t (λ_=>h+1) h (d+0+1) p=match t.slot p.j with
   |.empty=>some (.empty p.j p.dummy)
   |.dummy=>SetTable.probe.go t (λ_=>h+1) h d (t.advance {p with dummy:=some p.j})
   |.live i=>if h+1==h then some (.candidate p.j i (t.advance p)) else SetTable.probe.go t (λ_=>h+1) h d (t.advance p):=rfl
  rw[e];rcases g.slot p.j with⟨k,f⟩|⟨⟨i,k⟩,f⟩
  ·rw[k,hd];exact .inl ⟨p.j,rfl,f,by lia⟩
  ·rw[k];dsimp only;rw[if_neg (by simp;lia)];exact .inr ⟨f,p,rfl,rfl,hd,by rw[zbkd hm]⟩
 |m+1,d,p,hm,hd=>by
  have e:SetTable.probe.go t (λ_=>h+1) h (d+(m+1)+1) p=match t.slot p.j with
   |.empty=>some (.empty p.j p.dummy)
   |.dummy=>SetTable.probe.go t (λ_=>h+1) h (d+(m+1)) (t.advance {p with dummy:=some p.j})
   |.live i=>if h+1==h then some (.candidate p.j i (t.advance p)) else SetTable.probe.go t (λ_=>h+1) h (d+(m+1)) (t.advance p):=rfl
  rw[e];rcases g.slot p.j with⟨k,f⟩|⟨⟨i,k⟩,f⟩
  ·rw[k,hd];exact .inl ⟨p.j,rfl,f,by lia⟩
  ·rw[k];dsimp only;rw[if_neg (by simp;lia),zbkc hm,←xnl];rcases window g h m d {p with j:=p.j+1,more:=m} rfl hd with⟨j,a,b,c⟩|⟨a,l,b⟩
   ·exact .inl ⟨j,a,b,by dsimp only at c;lia⟩
   ·exact .inr ⟨f,l,b⟩
theorem zpz(h:i<=mask):i<=SetTable.runEnd mask i/\SetTable.runEnd mask i<=mask/\SetTable.runEnd mask i<=i+9:=by
 unfold SetTable.runEnd;split<;>lia
theorem search(g:Tb t)(h:Int):∀(L d:Nat) (p:SetTable.Probe),10*L<=d->p.j=p.i->p.i<=t.mask->p.more=SetTable.runEnd t.mask p.i-p.i->p.dummy=none->(∃k,k<L/\iAt t.mask k p.i p.perturb∉t.place.toList) ->
  ∃j,SetTable.probe.go t (λ_=>h+1) h d p=some (.empty j none)/\j∉t.place.toList/\j<=t.mask
 |0,_,_,_,_,_,_,_,⟨k,hk,_⟩=>absurd hk (by lia)
 |L+1,d,p,hf,hj,hi,hm,hd,⟨k,hk,hk2⟩=>by
  obtain⟨o,r,q⟩:=zpz hi;have n:d=(d-p.more-1)+p.more+1:=by lia
  have w:=window g h p.more (d-p.more-1) p rfl hd;rw[←n] at w;rcases w with⟨j,a,b,c⟩|⟨a,l,f,m,e,i⟩
  ·exact⟨j,a,b,by lia⟩
  ·rw[i];cases k with
   |zero=>exact absurd a (by rw[hj];exact hk2)
   |succ k=>
    refine search g h L _ (nextP t.mask l) (by lia) rfl (by unfold nextP;exact xcw (xmh _ (by lia))) rfl e ⟨k,by lia,?_⟩;unfold nextP;dsimp only;rw[f,m];exact hk2
/- the leaps meet all places -/
noncomputable def accI(a:Nat):Nat->Nat->Nat->Nat->Nat
 |0,acc,_,_=>acc
 |L+1,acc,i,per=>accI a L (acc ||| 2^i) ((i*5+1+per/32)%(a+1)) (per/32)
theorem zben(a j:Nat):∀(L acc i b:Nat),(accI a L acc i b).testBit j=true->acc.testBit j=true\/∃k,k<L/\iAt a k i b=j
 |0,acc,i,b,h=>.inl h
 |L+1,acc,i,b,h=>by
  rcases zben a j L _ _ _ h with h|⟨k,d,c⟩
  ·rw[Nat.testBit_or,xkj,xoq,xhw] at h;rcases h with h|h
   ·exact .inl h
   ·exact .inr ⟨0,by lia,h⟩
  ·exact .inr ⟨k+1,by lia,c⟩
def covB(a h:Nat):Bool:=Nat.beq (accI a (a+3) 0 (h%(a+1)) h) (2^(a+1)-1)
theorem cov7:(List.range 64).all (covB 7)=true:=by decide +kernel
theorem cov31:(List.range 64).all (covB 31)=true:=by decide +kernel
theorem cov127:(List.range 64).all (covB 127)=true:=by decide +kernel
noncomputable def MaskOk(m:Nat):Prop:=m=7\/m=31\/m=127
theorem cov(b:MaskOk mask)(a:h<64)(d:j<=mask):∃k,k<mask+3/\iAt mask k (h%(mask+1)) h=j:=by
 have c:covB mask h=true:=by
  rcases b with rfl|rfl|rfl
  ·exact xbx.mp cov7 h (xbi.mpr a)
  ·exact xbx.mp cov31 h (xbi.mpr a)
  ·exact xbx.mp cov127 h (xbi.mpr a)
 have e:=xfa c;have t:(accI mask (mask+3) 0 (h%(mask+1)) h).testBit j=true:=by
  rw[e,Nat.testBit_two_pow_sub_one];exact xbp (by lia)
 rcases zben mask j _ _ _ _ t with z|z
 ·simp at z
 ·exact z
theorem room(g:Tb t)(h:t.place.size<=t.mask):∃j,j<=t.mask/\j∉t.place.toList:=by
 by_cases c:∃j,j<=t.mask/\j∉t.place.toList
 ·exact c
 ·exfalso
  have b:List.range (t.mask+1) ⊆ t.place.toList:=λj a=>by
   by_cases z:j∈t.place.toList
   ·exact z
   ·exact absurd ⟨j,by have:=xbi.mp a;lia,z⟩ c
  have:=xee (xil) b;simp at this;lia
theorem zbay(g:Tb t)(e:MaskOk t.mask){h:Nat}(l:h<64)(a:t.place.size<=t.mask):∃j,t.freeSlot (h:Int)=some (j,false)/\j∉t.place.toList/\j<=t.mask:=by
 obtain⟨p,n,o⟩:=room g a;obtain⟨k,b,f⟩:=cov e l n;have m:SetTable.bits (h:Int)=h:=by
  unfold SetTable.bits;lia
 have s:=search g (h:Int) (t.mask+3) (10*SetTable.turns t.mask) (t.probeStart (h:Int)) (by unfold SetTable.turns;lia) rfl (by unfold SetTable.probeStart;exact xcw (xmh _ (by lia))) rfl rfl ⟨k,b,by
  show iAt t.mask k (SetTable.bits (h:Int)%(t.mask+1)) (SetTable.bits (h:Int))∉_;rw[m,f]
  exact o⟩
 obtain⟨j,d,i,c⟩:=s;refine⟨j,?_,i,c⟩;unfold SetTable.freeSlot SetTable.probe;rw[d]
 rfl
end St
namespace St
theorem zdc{α:Type}(a:Array α)(p:Nat)(x:α)(h:p<=a.size):(SetTable.insertAt a p x).size=a.size+1:=by
 have:=congrArg List.length (zeo a p x);simp at this;lia
theorem zbob{b:Array (Int×Value)}{h:Nat}(g:Tb t)(k:MaskOk t.mask)(m:h<64)(e:t.place.size=b.size)(p:t.place.size<t.mask):
  ∃a c,layNew t b (h:Int) x=(a,c,false,false)/\Tb c/\c.mask=t.mask/\c.led=t.led/\c.place.size=a.size/\a.size=b.size+1/\a.toList.Perm (((h:Int),x)::b.toList):=by
 obtain⟨j,l,n,o⟩:=zbay g k m (by lia);have d:=(zej g.up j).1;refine⟨SetTable.insertAt b (SetTable.below t.place j) ((h:Int),x),{t with place:=SetTable.insertAt t.place (SetTable.below t.place j) j},?_,?_,rfl,rfl,?_,?_,?_⟩
 ·have f:t.put j=({t with place:=SetTable.insertAt t.place (SetTable.below t.place j) j},SetTable.below t.place j):=by
   unfold SetTable.put;dsimp only;rw[g.nd,zwi]
   rfl
  have i:({t with place:=SetTable.insertAt t.place (SetTable.below t.place j) j}:SetTable).fits (SetTable.insertAt b (SetTable.below t.place j) ((h:Int),x)).size=true:=by
   unfold SetTable.fits SetTable.fill;dsimp only;rw[zdc _ _ _ d,zdc _ _ _ (by lia),g.nd,e];simp;lia
  unfold layNew;rw[l];dsimp only;rw[f];dsimp only;unfold SetTable.orStandIn;rw[i]
  rfl
 ·refine⟨g.up.insert n,g.nd,λy hy=>?_,g.pl⟩;dsimp only at hy ⊢;rw[zeo] at hy;rcases xca.mp hy with hy|hy
  ·exact g.inm y (xed hy)
  ·rcases xbm.mp hy with rfl|hy
   ·exact o
   ·exact g.inm y (xff hy)
 ·dsimp only;rw[zdc _ _ _ d,zdc _ _ _ (by lia),e]
 ·rw[zdc _ _ _ (by lia)]
 ·rw[zeo];refine(xog).trans ?_;rw[xda]
/- laid anew -/
noncomputable def ownL(a:Array (Option Nat)) (b:Nat):List Nat:=(List.range (b+1)).filterMap λj=>a.getD j none
structure Ow (mask n:Nat) (owner:Array (Option Nat)):Prop where
 size:owner.size=mask+1
 perm:(ownL owner mask).Perm (List.range n)
theorem zbmt(h:Ow b n owner)(o:n<=b):∃j,j<=b/\owner.getD j (some 0)=none:=by
 by_cases c:∃j,j<=b/\owner.getD j (some 0)=none
 ·exact c
 ·exfalso
  have i:∀j∈List.range (b+1),(owner.getD j none).isSome=true:=λj d=>by
   have d:=xbi.mp d;have k:j<owner.size:=by rw[h.size];exact d
   cases e:owner.getD j none with
   |some x=>rfl
   |none=>
    refine absurd ⟨j,by lia,?_⟩ c;rw[xdd,xdk k] at e ⊢;exact e
  have g:(ownL owner b).length=b+1:=by
   unfold ownL;have:∀l:List Nat,(∀j∈l,(owner.getD j none).isSome=true)->(l.filterMap λj=>owner.getD j none).length=l.length:=λl=>by
    induction l with
    |nil=>intro _;rfl
    |cons a l ih=>
     intro g;obtain⟨x,m⟩:=Option.isSome_iff_exists.mp (g a (by simp));rw[xef (f:=λj=>owner.getD j none) m,xbw,xbw,ih λj d=>g j (xbf _ d)]
   rw[this _ i,xgr]
  have:=h.perm.length_eq;rw[g,xgr] at this;lia
theorem zbdw{owner:Array (Option Nat)}:∀(fuel i b:Nat),i<=mask->(∃k,k<fuel/\owner.getD (iAt mask k i b) (some 0)=none)->∃j,SetTable.layClean.free mask owner fuel i b=some j/\j<=mask/\owner.getD j (some 0)=none
 |0,_,_,_,⟨k,hk,_⟩=>absurd hk (by lia)
 |fuel+1,i,b,hi,⟨k,hk,a⟩=>by
  obtain⟨g,l,h⟩:=zpz hi;unfold SetTable.layClean.free;cases e:(List.range (SetTable.runEnd mask i+1-i)).find? λk=>(owner.getD (i+k) (some 0)).isNone with
  |some z=>
   have d:=xos e;have f:=xbi.mp (xkk e);exact⟨i+z,rfl,by lia,by simpa using d⟩
  |none=>
   dsimp only;have c:=xni.mp e 0 (xbi.mpr (by lia));cases k with
   |zero=>
    exfalso
    rw[xkt] at c;have a:owner.getD i (some 0)=none:=a;rw[a] at c;exact c rfl
   |succ k=>
    exact zbdw fuel _ _ (xcw (xmh _ (by lia))) ⟨k,by lia,a⟩
theorem zll{α β:Type}{f g:α->Option β}:∀{l:List α},(∀x∈l,f x=g x)->l.filterMap f=l.filterMap g
 |[],_=>rfl
 |a::l,h=>by
  have c:=zll (l:=l) λx d=>h x (xbf _ d)
  have b:=h a (by simp);cases e:g a with
  |none=>rw[xet (b.trans e),xet e,c]
  |some z=>rw[xef (b.trans e),xef e,c]
theorem zgy(b:Array (Option Nat)){j n:Nat}(m:b.getD j (some 0)=none)(g:j<b.size):∀l:List Nat,l.Nodup->j∈l ->
  (l.filterMap λi=>(b.setIfInBounds j (some n)).getD i none).Perm (n::l.filterMap λi=>b.getD i none)
 |[],_,h=>by cases h
 |a::l,nd,h=>by
  have o:∀i,i≠j->(b.setIfInBounds j (some n)).getD i none=b.getD i none:=λi k=>by
   rw[xdd,xdd,xmb (xfj k)]
  have r:(b.setIfInBounds j (some n)).getD j none=some n:=by
   rw[xdd,xkf g]
   rfl
  have q:b.getD j none=none:=by
   rw[xdd,xdk g] at m ⊢;exact m
  have d:=xdf.mp nd;by_cases c:a=j
  ·subst c;rw[xef (f:=λi=>(b.setIfInBounds a (some n)).getD i none) r,xet (f:=λi=>b.getD i none) q];have:(l.filterMap λi=>(b.setIfInBounds a (some n)).getD i none)=l.filterMap λi=>b.getD i none:=zll λi k=>o i λe=>d.1 (e ▸ k)
   rw[this]
  ·have s:j∈l:=by
    rcases xbm.mp h with h|h
    ·exact absurd h.symm c
    ·exact h
   have p:=zgy b (n:=n) m g l d.2 s;cases e:b.getD a none with
   |none=>rw[xet (f:=λi=>(b.setIfInBounds j (some n)).getD i none) (by rw[o a c];exact e),xet (f:=λi=>b.getD i none) e];exact p
   |some z=>
    rw[xef (f:=λi=>(b.setIfInBounds j (some n)).getD i none) (by rw[o a c];exact e),xef (f:=λi=>b.getD i none) e];exact(List.Perm.cons z p).trans (List.Perm.swap n z _)
theorem Ow.step{a n:Nat}{b:Array (Option Nat)}(h:Ow a n b)(d:MaskOk a){hv:Nat}(i:hv<64)(g:n<=a):
  ∃j,SetTable.layClean.free a b (SetTable.turns a) (SetTable.bits (hv:Int)%(a+1)) (SetTable.bits (hv:Int))=some j/\Ow a (n+1) (b.setIfInBounds j (some n)):=by
 have c:SetTable.bits (hv:Int)=hv:=by
  unfold SetTable.bits;lia
 obtain⟨q,l,o⟩:=zbmt h g;obtain⟨k,r,f⟩:=cov d i l;rw[c];obtain⟨j,e,s,m⟩:=zbdw (owner:=b) (mask:=a) (SetTable.turns a) (hv%(a+1)) hv (xcw (xmh _ (by lia))) ⟨k,by unfold SetTable.turns;lia,by rw[f];exact o⟩;refine⟨j,e,⟨by rw[Array.size_setIfInBounds];exact h.size,?_⟩⟩;have p:=zgy b (n:=n) m (by rw[h.size];lia) (List.range (a+1)) xil (xbi.mpr (by lia));refine p.trans ((List.Perm.cons n h.perm).trans ?_);rw[xhx];exact(List.perm_append_singleton n _).symm
noncomputable def SmallH(h:Int):Prop:=∃n:Nat,n<64/\h=n
theorem zvy{b:Nat}(f:MaskOk b):∀(l:List Int) (n:Nat) (a:Array (Option Nat)),Ow b n a->(∀h∈l,SmallH h)->n+l.length<=b ->
  ∃c,l.foldl (λacc h=>do
   let (a,k) ←acc
   let j ←SetTable.layClean.free b a (SetTable.turns b) (SetTable.bits h%(b+1)) (SetTable.bits h)
   pure (a.setIfInBounds j (some k),k+1)) (some (a,n))=some (c,n+l.length)/\Ow b (n+l.length) c
 |[],n,a,o,_,_=>⟨a,rfl,o⟩
 |h::l,n,a,o,hs,hl=>by
  rw[xbw] at hl ⊢;obtain⟨d,r,rfl⟩:=hs h (by simp);obtain⟨j,p,s⟩:=o.step f r (by lia);obtain⟨q,m,i⟩:=zvy f l (n+1) _ s (λx g=>hs x (xbf _ g)) (by lia);refine⟨q,?_,by rw[show n+(l.length+1)=n+1+l.length by lia];exact i⟩;rw[xgc]
  have e:(do
   let (a,k) ←some (a,n)
   let j ←SetTable.layClean.free b a (SetTable.turns b) (SetTable.bits (d:Int)%(b+1)) (SetTable.bits (d:Int))
   pure (a.setIfInBounds j (some k),k+1):Option (Array (Option Nat)×Nat))=some (a.setIfInBounds j (some n),n+1):=by
   show(SetTable.layClean.free b a (SetTable.turns b) (SetTable.bits (d:Int)%(b+1)) (SetTable.bits (d:Int))).bind _=_;rw[p]
   rfl
  rw[e,m,show n+(l.length+1)=n+1+l.length by lia]
theorem ow0(a:Nat):Ow a 0 (Array.replicate (a+1) none):=by
 refine⟨by simp,?_⟩;unfold ownL;have:(List.range (a+1)).filterMap (λj=>(Array.replicate (a+1) (none:Option Nat)).getD j none)=(List.range (a+1)).filterMap λ_=>(none:Option Nat):=zll λj _=>by
  rw[xdd,Array.getElem?_replicate];split<;>rfl
 rw[this];have:∀l:List Nat,l.filterMap (λ_=>(none:Option Nat))=[]:=λl=>by induction l<;>simp_all
 rw[this];exact xoy _
theorem zbap(b:MaskOk mask){hs:Array Int}(h:∀x∈hs.toList,SmallH x)(a:hs.size<=mask):∃owner,SetTable.layClean mask hs=some owner/\Ow mask hs.size owner:=by
 obtain⟨o,e,w⟩:=zvy b hs.toList 0 _ (ow0 mask) h (by simpa using a);rw[xel] at e w;refine⟨o,?_,by simpa using w⟩;unfold SetTable.layClean;rw[←Array.foldl_toList,e]
 rfl
theorem zvu(b:Array (Option Nat)):∀l:List Nat,(l.filterMap λj=>(b.getD j none).map λk=>(j,k)).map (·.1)=l.filter λj=>(b.getD j none).isSome
 |[]=>rfl
 |a::l=>by
  have c:=zvu b l;cases e:b.getD a none with
  |none=>rw[xet (f:=λj=>(b.getD j none).map λk=>(j,k)) (by rw[e];rfl),xcq (by rw[e];decide),c]
  |some z=>rw[xef (f:=λj=>(b.getD j none).map λk=>(j,k)) (by rw[e];rfl),xcn (by rw[e];rfl),xbq,c]
theorem zvt(b:Array (Option Nat)):∀l:List Nat,(l.filterMap λj=>(b.getD j none).map λk=>(j,k)).map (·.2)=l.filterMap λj=>b.getD j none
 |[]=>rfl
 |a::l=>by
  have c:=zvt b l;cases e:b.getD a none with
  |none=>rw[xet (f:=λj=>(b.getD j none).map λk=>(j,k)) (by rw[e];rfl),xet (f:=λj=>b.getD j none) e,c]
  |some z=>rw[xef (f:=λj=>(b.getD j none).map λk=>(j,k)) (by rw[e];rfl),xef (f:=λj=>b.getD j none) e,xbq,c]
theorem zzi{α:Type}(es:List α):(List.range es.length).filterMap (λi=>es[i]?)=es:=by
 induction es with
 |nil=>rfl
 |cons a l ih=>
  rw[xbw,List.range_succ_eq_map,xef (f:=λi=>(a::l)[i]?) rfl,xks]
  congr 1
theorem relay{t:SetTable}{b:Array (Int×Value)}{wanted:Nat}(g:Tb t)(E:∀e∈b.toList,SmallH e.1)(s:MaskOk (SetTable.sizeAbove wanted-1))(q:b.size<=SetTable.sizeAbove wanted-1):
  ∃f l,relayAll t b wanted=(f,l,false)/\Tb l/\l.mask=SetTable.sizeAbove wanted-1/\l.led=t.led/\l.place.size=f.size/\f.size=b.size/\f.toList.Perm b.toList:=by
 obtain⟨a,o,w⟩:=zbap s (hs:=b.map (·.1)) (λx r=>by
  rw[Array.toList_map] at r;obtain⟨e,v,rfl⟩:=xbt.mp r
  exact E e v) (by simpa using q)
 rw[Array.size_map] at w;generalize hmk:SetTable.sizeAbove wanted-1=mask at o w s q
 let live:=(List.range (mask+1)).filterMap λj=>(a.getD j none).map λk=>(j,k)
 have p:live.map (·.1)=(List.range (mask+1)).filter λj=>(a.getD j none).isSome:=zvu a _
 have z:live.map (·.2)=ownL a mask:=zvt a _;have m:=w.perm;rw[←z] at m;have d:((live.map (·.2)).filterMap λi=>b[i]?).Perm b.toList:=by
  refine(m.filterMap _).trans ?_;have:=zzi b.toList;rw[xch] at this;rw[show(List.range b.size).filterMap (λi=>b[i]?)=b.toList from(zll λi _=>(xcm (xs:=b)).symm).trans this]
 have c:((live.map (·.2)).filterMap λi=>b[i]?).length=b.size:=by rw[d.length_eq,xch]
 have h:live.length=b.size:=by
  have:=m.length_eq;rw[xbc,xgr] at this;exact this
 have C:t.relaid (b.map (·.1)) wanted=some ({mask,place:=(live.map (·.1)).toArray,dummies:=#[],finger:=t.finger,led:=t.led,moves:=t.movedTo mask,plain:=t.plain},(live.map (·.2)).toArray):=by
  unfold SetTable.relaid SetTable.laid;rw[hmk,o]
  rfl
 refine⟨((live.map (·.2)).filterMap λi=>b[i]?).toArray,{mask,place:=(live.map (·.1)).toArray,dummies:=#[],finger:=t.finger,led:=t.led,moves:=t.movedTo mask,plain:=t.plain},?_,⟨?_,rfl,λy n=>?_,g.pl⟩,rfl,rfl,?_,?_,?_⟩
 ·unfold relayAll;rw[C];dsimp only;have A:coversAll (live.map (·.2)).toArray b.size=true:=by
   unfold coversAll;exact List.isPerm_iff.mpr m
  have u:(live.map (·.2)).toArray.filterMap (λx=>b[x]?)=((live.map (·.2)).filterMap λi=>b[i]?).toArray:=by simp
  rw[u,A];have G:({mask,place:=(live.map (·.1)).toArray,dummies:=#[],finger:=t.finger,led:=t.led,moves:=t.movedTo mask,plain:=t.plain}:SetTable).fits ((live.map (·.2)).filterMap λi=>b[i]?).toArray.size=true:=by
   unfold SetTable.fits SetTable.fill;dsimp only;rw[xby,xby,c,xbc,h];simp;lia
  rw[G]
  rfl
 ·show(live.map (·.1)).toArray.toList.Pairwise lt;rw[List.toList_toArray,p];exact xgx xis List.pairwise_lt_range
 ·dsimp only at n ⊢;rw[p] at n;have:=xbi.mp (xcj.mp n).1;lia
 ·dsimp only;rw[xby,xby,c,xbc,h]
 ·rw[xby,c]
 ·rw[List.toList_toArray];exact d
end St
namespace St
theorem zbgm{α:Type}{l:List α}(h:i<l.length):(l[i]::l.eraseIdx i).Perm l:=by
 rw[List.eraseIdx_eq_take_drop_succ];refine xog.symm.trans ?_;rw[←xdc h,xda]
theorem zbcu{α:Type}(next:Nat->Nat):∀(fuel k:Nat) (left:List α) (b:Array α),left.length<=fuel->(pickOrder.go next fuel k left b).toList.Perm (b.toList++left)
 |0,k,left,b,h=>by
  have:left=[]:=xhj.mp (by lia);subst this;unfold pickOrder.go;rw[xec]
 |fuel+1,k,left,b,h=>by
  unfold pickOrder.go;cases e:left[next k%left.length]? with
  |none=>
   have:left=[]:=by
    cases left with
    |nil=>rfl
    |cons a l=>
     have:=List.getElem?_eq_none_iff.mp e;have:=xmh (next k) (show(a::l).length > 0 by simp);lia
   subst this;dsimp only;rw[xec]
  |some x=>
   dsimp only;obtain⟨c,rfl⟩:=xbh.mp e;have d:=zbcu next fuel (k+1) (left.eraseIdx (next k%left.length)) (b.push left[next k%left.length]) (by rw[List.length_eraseIdx_of_lt c];lia);refine d.trans ?_;rw[xfk,xcc];exact xgw _ (zbgm c)
theorem zzp{α:Type}(next:Nat->Nat)(a:Array α):(pickOrder next a).toList.Perm a.toList:=by
 unfold pickOrder;exact zbcu next a.size 0 a.toList #[] (by simp)
theorem zxo(h:Up xs) (m:i<xs.size):SetTable.below xs (xs.getD i 0+1)=i+1:=by
 obtain⟨p,l,n⟩:=zej h (xs.getD i 0+1);have up:∀a b,a<b->b<xs.size->xs.getD a 0<xs.getD b 0:=λa b k o=>by
  have f:b<xs.toList.length:=by simpa using o
  have g:a<xs.toList.length:=by lia
  rw[zep,zep,xbg,xbg,xbd g,xbd f];exact xgb.mp h a b g f k
 have dflt:∀a d,a<xs.size->xs.getD a d=xs.getD a 0:=λa d q=>by
  rw[xdd,xdd,xdk q]
  rfl
 generalize SetTable.below xs (xs.getD i 0+1)=b at p l n;rcases Nat.lt_trichotomy b (i+1) with c|c|c
 ·have:=n i (by lia) m;have e:=dflt i (xs.getD i 0+1) m;lia
 ·exact c
 ·have:=l (i+1) c;have j:i+1<xs.size:=by lia
  have e:=dflt (i+1) (xs.getD i 0+1) j;have:=up i (i+1) (by lia) j;lia
theorem zxn(h:Up xs):SetTable.below xs 0=0:=by
 obtain⟨b,a,d⟩:=zej h 0;rcases xjc (SetTable.below xs 0) with c|c
 ·exact c
 ·exact absurd (a 0 c) (by lia)
end St
end L2
namespace L2
open PySem.W PyProof.Rows Spec
namespace St
structure Es (l:List (Int×Value)) (ks:List Nat):Prop where
 all:∀e∈l,∃(n:Nat) (t:Tok),n<64/\e=((n:Int),Value.int (n:Int) t)
 perm:(l.map (·.1)).Perm (ks.map λ(n:Nat)=>(n:Int))
 nd:ks.Nodup
theorem Es.small(h:Es l d):∀k∈d,k<64:=λk f=>by
 have b:(k:Int)∈l.map (·.1):=h.perm.mem_iff.mpr (xbt.mpr ⟨k,f,rfl⟩);obtain⟨e,c,a⟩:=xbt.mp b;obtain⟨n,t,g,rfl⟩:=h.all e c;dsimp only at a;lia
theorem Es.len(h:Es l ks):l.length=ks.length:=by
 have:=h.perm.length_eq
 simpa using this
theorem Es.few(h:Es l ks):l.length<=64:=by
 rw[h.len];have:=xee h.nd (l₂:=List.range 64) λk a=>xbi.mpr (h.small k a)
 simpa using this
theorem Es.of_perm{a:List (Int×Value)}(h:Es l ks)(p:a.Perm l):Es a ks:=
 ⟨λe b=>h.all e (p.mem_iff.mp b),(p.map _).trans h.perm,h.nd⟩
theorem Es.add(h:Es l ks) (b:n<64)(a:n∉ks):Es (((n:Int),Value.int (n:Int) t)::l) (n::ks):=
 ⟨λe he=>by
  rcases xbm.mp he with rfl|he
  ·exact⟨n,t,b,rfl⟩
  ·exact h.all e he,h.perm.cons _,xdf.mpr ⟨a,h.nd⟩⟩
theorem zmy{n:Nat}(h:n<64):hashInt (n:Int)=n:=by
 have e:rawHash (n:Int)=n:=by
  unfold rawHash;have b:(((n:Int).natAbs:Int)%((2^61-1:Nat):Int))=n:=by
   rw[Int.natAbs_natCast];exact Int.emod_eq_of_lt (by lia) (by lia)
  rw[b];dsimp only;have c:¬ ((n:Int)<0):=by lia
  rw[if_neg c];have a:((n:Int)==-1)=false:=by
   rw[xga];lia
  rw[a]
  rfl
 unfold hashInt;rw[e];have a:((n:Int)==-1)=false:=by
  rw[xga];lia
 rw[a]
 rfl
structure Tt (w:World) (es:Array (Int×Value)) (t:SetTable) (ks:List Nat):Prop where
 tb:Tb t
 mo:MaskOk t.mask
 ld:t.led=!w.params.followText "set-order"
 sz:t.place.size=es.size
 room:t.place.size*5<t.mask*3
 el:Es es.toList ks
theorem Tt.fits(h:Tt w es t ks):t.fits es.size=true:=by
 have:=h.room;have a:=h.sz;unfold SetTable.fits SetTable.fill;rw[h.tb.nd];simp;lia
theorem Tt.few(h:Tt w es t ks):es.size<=64:=by
 have:=h.el.few
 simpa using this
theorem Tt.elems{b:List Nat}(h:Tt w es t b):ElemsOf (intKind P w) es.toList:=λe c=>by
 obtain⟨m,t,a,rfl⟩:=h.el.all e c;exact⟨⟨(m:Int),intKind_is _ _ _ _,(zmy a).symm⟩,rfl⟩
noncomputable def Sn(w:World) (h:Heap) (a:Addr) (e:List Nat):Prop:=∃b c d t,h.get? a=some b/\b.ExactSet/\b.data=.set c d t/\Tt w c t e
theorem Sn.kept{h':Heap}(x:Sn w h a ks)(k:∀o,h.get? a=some o->h'.get? a=some o):Sn w h' a ks:=
 let ⟨ob,es,ep,t,e,r⟩:=x;⟨ob,es,ep,t,k _ e,r⟩
theorem zboq{t:SetTable}(f:t.dummies=#[])(g:MaskOk t.mask)(d:t.place.size=m+1)(room:m*5<t.mask*3)(b:m+1<=64):
  (t.tooFull=false/\(m+1)*5<t.mask*3)\/(t.tooFull=true/\MaskOk (SetTable.sizeAbove (SetTable.grown (m+1))-1)/\m+1<=SetTable.sizeAbove (SetTable.grown (m+1))-1/\(m+1)*5<(SetTable.sizeAbove (SetTable.grown (m+1))-1)*3):=by
 have a:t.fill=m+1:=by
  unfold SetTable.fill;rw[f,d]
  rfl
 rcases g with e|e|e
 ·by_cases c:m=4
  ·subst c
   right
   refine⟨by unfold SetTable.tooFull;rw[a,e];decide,?_,by decide,by decide⟩;exact .inr (.inl (by decide))
  ·left
   refine⟨?_,by lia⟩;unfold SetTable.tooFull;rw[a,e];simp;lia
 ·by_cases c:m=18
  ·subst c
   right
   refine⟨by unfold SetTable.tooFull;rw[a,e];decide,?_,by decide,by decide⟩;exact .inr (.inr (by decide))
  ·left
   refine⟨?_,by lia⟩;unfold SetTable.tooFull;rw[a,e];simp;lia
 ·left
  refine⟨?_,by lia⟩;unfold SetTable.tooFull;rw[a,e];simp;lia
theorem zblq{h:Heap}(d:h.get? a=some o)(f:o.data=.set es ep t)(b:Array (Int×Value))(c:SetTable):
  (h.update a (Obj.putSet b c)).get? a=some {o with data:=.set b (ep+1) c}:=by
 have e:=putSet_of b c f;have g:=xfn (Obj.putSet b c) d (by rw[e];rfl)
 rwa [e] at g
theorem zbwj{s:Shared}{ks:List Nat}{n:Nat}(X:n<64)(S:Sn w s.heap a ks)
  (y:∀u b,Heap.SameBut a s.heap u->Sn w u a (if n∈ks then ks else n::ks)->Q b {s with heap:=u}):
  wpAny (model P w) B (setAddHashed a (.int (n:Int) tok) (hashInt (n:Int))) Q E s:=by
 obtain⟨ob,p,ep,t,H,o,J,T⟩:=id S;have a9:=T.few;have hb:p.size<scanBound:=by unfold scanBound;lia
 unfold setAddHashed setAddHashedIn;refine xeq (xba (xlp H J T.fits ?_));dsimp only;rw[byScan_of (knd:=intKind P w) (x:=.int (n:Int) tok) rfl hb T.elems,if_pos rfl];unfold setAddByScan;refine xba (xba (xjf (xba (wpAny_setScan_of (knd:=intKind P w) (k:=(n:Int)) (intKind_is _ _ _ _) H J T.fits T.elems ?_))));cases hr:List.findIdx? (λe=>(intKind P w).is (n:Int) e.2) p.toList with
 |some j=>
  dsimp only;obtain⟨hj,hp,_⟩:=List.findIdx?_eq_some_iff_getElem.mp hr;obtain⟨m,v,hm,e⟩:=T.el.all _ (xcy hj);rw[e] at hp;have a2:(n:Int)=(m:Int):=(intKind P w).inj _ _ _ hp (intKind_is P w (m:Int) v);have h1:(n:Int)∈p.toList.map (·.1):=xbt.mpr ⟨_,xcy hj,by rw[e];exact a2.symm⟩;obtain⟨k,hk,ek⟩:=xbt.mp (T.el.perm.mem_iff.mp h1);have a5:n∈ks:=by
   have:k=n:=by lia
   exact this ▸ hk
  have f:=y s.heap false (Heap.SameBut.refl a s.heap);rw[if_pos a5] at f;exact xbe (xbe (f S))
 |none=>
  dsimp only;have no:n∉ks:=λhk=>by
   have h1:(n:Int)∈p.toList.map (·.1):=T.el.perm.mem_iff.mpr (xbt.mpr ⟨n,hk,rfl⟩);obtain⟨e,G,C⟩:=xbt.mp h1;obtain⟨m,v,hm,rfl⟩:=T.el.all e G;have z:=List.findIdx?_eq_none_iff.mp hr _ G;dsimp only at C z;rw[C,intKind_is] at z;cases z
  rw[zmy X];obtain⟨c,I,C,d,i,q,a4,g,a1⟩:=zbob (x:=Value.int (n:Int) tok) T.tb T.mo X T.sz (by have:=T.room;lia);have h:Es c.toList (n::ks):=(T.el.add (t:=tok) X no).of_perm a1;rw[C];dsimp only;refine xba (xbe ?_);rw[d.pl,if_pos rfl,hashByValue_scannable 8 (x:=Value.int (n:Int) tok) rfl];refine xba (xbe ?_);rw[show plainKind (Value.int (n:Int) tok)=true from rfl,if_pos rfl];have a7:c.size<=64:=by have:=h.few;simpa using this
  refine xba (wpAny_storeSet_of H J ?_ (by rw[xha];lia));have g1:=zblq H J c I;have A:=xew s.heap a (Obj.putSet c I);have f:=λu b=>y u b
  rw[if_neg no] at f;rcases zboq (t:=I) (m:=p.size) d.nd (by rw[i];exact T.mo) (by lia) (by have:=T.room;have:=T.sz;rw[i];lia) (by lia) with⟨c1,U⟩|⟨c1,U,c3,c4⟩
  ·rw[c1];refine xbe (xbe (f _ _ A ⟨_,c,ep+1,I,g1,o,rfl,d,by rw[i];exact T.mo,q.trans T.ld,a4,?_,h⟩));lia
  ·rw[c1]
   obtain⟨l,v,e2,a6,r,Y,a3,a8,a0⟩:=relay (wanted:=SetTable.grown c.size) d (λe G=>by
    obtain⟨m,tt,hm,rfl⟩:=h.all e G
    exact⟨m,hm,rfl⟩) (by rw[g];exact U) (by rw[g];exact c3)
   rw[e2];refine xba (xbe ?_);refine xba (wpAny_storeSet_of g1 rfl ?_ (by show l.size<=_;rw[xha];lia));refine xbe (xbe (f _ _ (A.trans (xew _ a _)) ⟨_,l,ep+1+1,v,zblq g1 rfl l v,o,rfl,a6,by rw[r,g];exact U,Y.trans (q.trans T.ld),a3,?_,h.of_perm a0⟩));rw[r,g];lia
end St
namespace St
noncomputable def met:List Nat->List Nat->List Nat
 |[],ks=>ks
 |n::l,ks=>met l (if n∈ks then ks else n::ks)
theorem zmu:entryFor table "set.update.loop"=some Builtin.«set.update.loop»:=entryFor_of_tree (by kernel_rfl)
theorem zik:plainId "set.update.loop"=true:=by decide +kernel
section
variable {P:Program}{w:World}{B:Around}{R:Result->Shared->Prop}{it:Addr}{fp:List Addr}{wr:List Addr}{G:Array GenState->Array GenState->Prop}{N:Nat}{It:Nat->Value->Prop}{St:Nat->Shared->Prop}
theorem zbdm(W:WalksS P w B.in1 it fp wr G N It St)(a:Addr)(k:a∉fp)(c:List Nat)(E:c.length=N)(small:∀n∈c,n<64)
  (g:∀i v,It i v->∃t,v=Value.int ((c.getD i 0:Nat):Int) t):∀(r:List Nat) (i:Nat) (p:List Nat) (s:Shared),c.drop i=r->i<=N->St i s->Sn w s.heap a p ->
   (∀ d,Moved (a::wr) G s d->Sn w d.heap a (met r p)->R (.ok (.ret .none)) d)->codeAny (model P w) B (.builtin "set.update.loop" ⟨[.ref a,.ref it],[]⟩) R s
 |[],i,p,s,hr,hi,au,S,fin=>by
  have e:i=N:=by
   have:=congrArg List.length hr;simp at this;lia
  subst e;refine xko zmu ?_;rw[xmi zik _];refine xba (m:=pyNext (.ref it)) (W.done s _ _ au λd h=>?_);have x:a∉wr:=λz=>k (W.sub _ z)
  exact xbe (fin d (h.mono λb f=>xbf _ f) (S.kept λo e=>h.heap a o x e))
 |n::r,i,p,s,hr,hi,au,S,fin=>by
  have j:i<N:=by
   have:=congrArg List.length hr;simp at this;lia
  have q:c.getD i 0=n/\n∈c/\c.drop (i+1)=r:=by
   have A:c[i]?=some n:=by
    have:=congrArg (λl:List Nat=>l[0]?) hr
    simpa using this
   refine⟨by rw[xbg,A];rfl,xbu A,?_⟩;rw[←xmv,hr]
   rfl
  have x:a∉wr:=λz=>k (W.sub _ z)
  refine xko zmu ?_;rw[xmi zik _];refine xba (m:=pyNext (.ref it)) (W.item i s _ _ j au λv d pv u h=>?_);obtain⟨t,rfl⟩:=g i v pv;rw[q.1];refine xba (m:=holding [Value.int (n:Int) t] (setAdd a (.int (n:Int) t))) (xeq ?_);unfold setAdd;refine xeq (xba (wpAny_pyHash_int ?_));refine zbwj (s:={d with toks:=d.toks+1}) (small n q.2.1) (S.kept λo e=>h.heap a o x e) λJ b sb I=>?_
  refine xbe ⟨plainId_quiet zik _,zbdm W a k c E small g r (i+1) _ _ q.2.2 j (W.frame _ d _ _ u (xlt _) λb f o e=>?_) I λH y C=>?_⟩
  ·rw[sb.2 b (λz:b=a=>k (z ▸ f))];exact e
  ·refine fin H (Moved.trans W.gtrans ((h.mono λb f=>xbf _ f).then_heap (xlt _) λb o f e=>?_) y) C;rw[sb.2 b (λz:b=a=>f (z ▸ xbr))];exact e
end
noncomputable def newO(w:World):Obj:={ cls:=.type "set",dict:=none,data:=.set #[] 0 (.fresh 0 0 (!w.params.followText "set-order")) }
theorem zbtu{s:Shared}(x:Value){W:Value->Shared->Prop}(a:W (.ref s.heap.objs.size) {s with heap:=s.heap.push (newO w)}):
  codeAny (model P w) B (.call (.builtin "set.__new__") ⟨[.type "set",x],[]⟩) (wants W E) s:=by
 refine codeAny_call_builtin_code (plainId_quiet F.plain_set_new _) (wpAny_of_eq (F.newCall_set_1 x) (xko F.entry_set_new ?_));rw[xmi F.plain_set_new _];have sub:=sub_set_self;unfold Builtin.«set.__new__» Builtin.Frozenset.newClass;obtain⟨b,g,d,c,os⟩:=s
 wp_walk
 refine xke (xbe ?_);simp only[newObj];exact xba (wpAny_alloc (xbe (xbe a)))
theorem zbtt{h:Heap}(e:h.get? a=some (newO w)):Sn w h a []:=
 ⟨_,#[],0,_,e,⟨rfl,rfl,rfl⟩,rfl,⟨List.Pairwise.nil,rfl,λy b=>(by cases b),rfl⟩,.inl rfl,rfl,rfl,(by show 0*5<7*3;decide),⟨λe c=>(by cases c),xoy _,xgm⟩⟩
section
variable {P:Program}{w:World}{B:Around}{E:Value->Shared->Prop}{s:Shared}
theorem zbqd{l:Addr}{a:List Value}{f:List Nat}{W:Value->Shared->Prop}(hh:B.handled=none)(I:s.heap.IsList l a.toArray)(Y:IntsAre a (f.map λ(n:Nat)=>(n:Int)))(small:∀n∈f,n<64)
  (H:∀(g:Heap) (y:Nat),Sn w g s.heap.objs.size (met f [])->(∀b o,s.heap.get? b=some o->g.get? b=some o)->W (.ref s.heap.objs.size) {s with heap:=g,toks:=y}):
  wpAny (model P w) B (call (.type "set") [.ref l]) W E s:=by
 have G:a.length=f.length:=by simpa using Y.length
 obtain⟨c,tl,S⟩:=xim.mro;have A:=xim.made;have U:=xim.sub;have h1:=xim.notType;have h2:=xim.canCreate;have a0:=F.typeCall_set_1 (.ref l);refine wpAny_call (codeAny_of_tree (show wpAny _ _ (callAny (.type "set") _) _ _ _ from xbe ⟨Code.quiet_builtin _ (by decide +kernel),xko F.entry_type_call ?_⟩))
 rw[Around.under_plain (weight_type_call_type "set" [.ref l] []) rfl]
 repeat (any_goals (first|assumption|wp_step))
 refine xju (zbtu (w:=w) (.ref l) (E:=E) (W:=λv s1=>v=.ref s.heap.objs.size/\s1={s with heap:=s.heap.push (newO w)}) ⟨rfl,rfl⟩) λr s1 m=>?_
 match r,m with
 |.error e,m=>exact m
 |.ok (.ret v),m=>
  obtain⟨rfl,rfl⟩:=m;have en:(s.heap.push (newO w)).get? s.heap.objs.size=some (newO w):=xci _ rfl;have ty:Shared.TypeIs { s with heap:=s.heap.push (newO w) } (.ref s.heap.objs.size) "set":=⟨_,en,rfl⟩
  have a5:=xim.init.lookup;have a2:=xim.init.bind (.ref s.heap.objs.size)
  repeat (any_goals (first|assumption|wp_step))
  refine xju (xmp (R:=wants (λv u=>v=.none/\∃g y,u={s with heap:=g,toks:=y}/\Sn w g s.heap.objs.size (met f [])/\∀b o,s.heap.get? b=some o->g.get? b=some o) E) xim.init.plain F.entry_set_init (check_set_init_1 ty ?body)) λr2 u d=>?_
  case body=>
   obtain⟨ol,j,q,Q,p⟩:=id I;obtain⟨oc,od,a3,J⟩:=ol;simp only at q p;subst q p;have x:(s.heap.push (newO w)).get? l=some { cls:=.type "list",dict:=od,data:=.seq a.toArray Q,slots:=J }:=xbk _ j
   have h:(s.heap.push (newO w)).IsList l a.toArray:=⟨_,x,rfl,Q,rfl⟩
   have a1:=F.sub_list_set;have a4:=F.sub_list_frozenset;have ne:(Value.type "list"==Value.type "dict")=false:=by decide
   unfold Builtin.«set.__init__» noKeywords Builtin.Frozenset.updateFrom;generalize hPI:pyIter=PI
   wp_walk
   subst hPI;have X:l<s.heap.objs.size:=xcd j;have C:(s.heap.push (newO w)).objs.size=s.heap.objs.size+1:=xmx ..
   refine xlo h (xba (wpAny_runValue ?_))
   refine zbdm ((Walks.list (by simp[hh]) _ l (xcl (by rw[C];exact xid X)) a.toArray).toS) s.heap.objs.size (λz=>by
    rw[C] at z;rcases xbm.mp z with z|z
    ·exact xcl (xka _) z
    ·exact xkq X (xbz.mp z)) f (by simp[G]) small (λi v hv=>?_) f 0 [] _ rfl (xep _) ⟨⟨_,xci _ rfl,rfl,rfl⟩,h.push _⟩ (zbtt (xbk _ en)) λu mv S2=>?_
   ·obtain⟨t,e⟩:=IntsAre.int_at Y i v (by simpa using hv);refine⟨t,e.trans ?_⟩
    congr 1
    rw[xbg,xco,xbg];cases f[i]?<;>rfl
   ·rw[Moved.eq_with mv];refine xbe (xbe ⟨rfl,u.heap,u.toks,rfl,S2,λb o e=>?_⟩);have lt:=xcd e
    exact mv.heap b o (λz=>by
     rw[C] at z;rcases xbm.mp z with z|z
     ·exact xcl lt z
     ·exact xcl (xid lt) (xbz.mp z)) (xbk _ (xbk _ e))
  match r2,d with
  |.error e,d=>exact d
  |.ok (.ret v),d=>
   obtain⟨rfl,g,y,rfl,S',k⟩:=d
   repeat (any_goals (first|assumption|wp_step))
   exact H _ _ S' k
end
end St
namespace St
theorem zbms:Manifest.owners.lookup (String.ofList ("rotareti_tes".toList).reverse)=some Manifest.sig_set_iterator:=by kernel_rfl
theorem zjs:Slot "set_iterator" "__next__" "set_iterator.__next__":=by
 refine Slot.of (owner:="set_iterator") (n:="__next__") ?_ (by decide +kernel) (by decide +kernel) (by decide +kernel) ?_ ?_
 ·rw[typeLookup_type,builtinLookup_eq_fast]
  kernel_rfl
 ·first
   |exact .inl (by decide +kernel)
   |exact .inr (by decide +kernel)
 ·rw[isSubtype_type]
  kernel_rfl
theorem zvg:entryFor table "set_iterator.__next__"=some Builtin.«set_iterator.__next__»:=entryFor_of_tree (by kernel_rfl)
theorem zbda(a:Value):argsOk "set_iterator.__next__" ⟨[a],[]⟩:=by
 unfold argsOk;rw[signature?_of (id:="set_iterator.__next__") (n:="__txen__".toList) (o:="rotareti_tes".toList) (by kernel_rfl) zbms]
 kernel_rfl
theorem zbcp:Slot "set_iterator" "__iter__" "set_iterator.__iter__":=by
 refine Slot.of (owner:="set_iterator") (n:="__iter__") ?_ (by decide +kernel) (by decide +kernel) (by decide +kernel) ?_ ?_
 ·rw[typeLookup_type,builtinLookup_eq_fast]
  kernel_rfl
 ·first
   |exact .inl (by decide +kernel)
   |exact .inr (by decide +kernel)
 ·rw[isSubtype_type]
  kernel_rfl
theorem zbff:entryFor table "set_iterator.__iter__"=some Builtin.«dict_keyiterator.__iter__» :=
 entryFor_alias (id':="dict_keyiterator.__iter__") (by kernel_rfl) rfl (by decide +kernel) (by kernel_rfl)
theorem zblj(a:Value):argsOk "set_iterator.__iter__" ⟨[a],[]⟩:=by
 unfold argsOk;rw[signature?_of (id:="set_iterator.__iter__") (n:="__reti__".toList) (o:="rotareti_tes".toList) (by kernel_rfl) zbms]
 kernel_rfl
theorem zbhv:entryFor table "set.__iter__"=some Builtin.«frozenset.__iter__» :=
 entryFor_alias (id':="frozenset.__iter__") (by kernel_rfl) rfl (by decide +kernel) (by kernel_rfl)
noncomputable def At(h:Heap) (a:Addr) (d:Array (Int×Value)) (c:Nat) (t:SetTable):Prop:=∃b,h.get? a=some b/\b.ExactSet/\b.data=.set d c t
theorem At.kept{h':Heap}(x:At h a es ep t)(k:∀o,h.get? a=some o->h'.get? a=some o):At h' a es ep t:=
 let ⟨ob,e,r⟩:=x;⟨ob,k _ e,r⟩
theorem At.is{s:Shared}(x:At s.heap a es ep t):s.TypeIs (.ref a) "set":=let ⟨ob,e,c,_⟩:=x; ⟨ob,e,c.1⟩
theorem At.lt(x:At h a es ep t):a<h.objs.size:=let ⟨_,e,_⟩:=x;xcd e
noncomputable def ord(w:World) (a:Addr) (b:Array (Int×Value)) (c:Nat):Array (Int×Value):=if w.params.followText "set-order"=true then pickOrder (w.params.setOrder a c) b else b
theorem zuz(w:World)(a:Addr)(b:Array (Int×Value))(c:Nat):(ord w a b c).toList.Perm b.toList:=by
 unfold ord;split
 ·exact zzp _ _
 ·exact xoy _
theorem zkv(w:World)(a:Addr)(b:Array (Int×Value))(c:Nat):(ord w a b c).size=b.size:=by
 have:=(zuz w a b c).length_eq
 simpa using this
noncomputable def slotAt(w:World) (t:SetTable):Nat->Nat
 |0=>0
 |i + 1=>if w.params.followText "set-order"=true then 0 else t.place.getD i 0 + 1
theorem zpx{w:World}(h:w.params.followText "set-order"=true)(t:SetTable):∀ i,slotAt w t i=0
 |0=>rfl
 |i+1=>if_pos h
theorem zua{w:World}(h:¬ w.params.followText "set-order"=true)(t:SetTable)(i:Nat):slotAt w t (i + 1)=t.place.getD i 0 + 1:=if_neg h
theorem zub{w:World}(h:¬ w.params.followText "set-order"=true){t:SetTable}(up:Up t.place):∀ i,i<=t.place.size->SetTable.below t.place (slotAt w t i)=i
 |0,_=>zxn up
 |i+1,hi=>by rw[zua h];exact zxo up (by lia)
theorem zbdi{s:Shared}(x:At s.heap a es ep t)(T:Tt w es t ks)(m:i<=es.size)(b:Q (((ord w a es ep)[i]?).map λe=>(e.2,slotAt w t (i+1))) s):
  wpAny (model P w) B (setNext a (slotAt w t i) i ep) Q E s:=by
 obtain⟨n,f,h,g⟩:=x;unfold setNext setsByText;refine xba (xlp f g T.fits ?_);dsimp only;refine xba (xba (xke (xbe ?_)));show wpAny _ _ (if w.params.followText "set-order"=true then _ else _) _ _ _
 by_cases hb:w.params.followText "set-order"=true
 ·rw[zpx hb] at b;rw[if_pos hb,if_neg (by simp),zpx hb];unfold setWalk setsByText;refine xba (xba (xlp f g T.fits ?_));dsimp only;refine xba (xba (xke (xbe ?_)));show wpAny _ _ (if w.params.followText "set-order"=true then _ else _) _ _ _
  rw[if_pos hb];refine xba (xke (xbe (xbe ?_)));unfold ord at b;rw[if_pos hb] at b;exact b
 ·rw[if_neg hb];have k:t.led=true:=by rw[T.ld];simpa using hb
  have l:=T.sz;refine xkp (λz=>?_) (λ_=>?_)
  ·change (!t.plain&&_)=true at z
   rw[T.tb.pl] at z;cases z
  refine xba (xkp (λz=>?_) (λ_=>xbe ?_))
  ·change (!t.led&&_)=true at z
   rw[k] at z;cases z
  rw[zub hb T.tb.up i (by lia)];unfold ord at b;rw[if_neg hb,zua hb] at b;by_cases c:i<es.size
  ·rw[xdk c] at b ⊢;have d:i<t.place.size:=by lia
   rw[xdk d];have j:t.place.getD i 0=t.place[i]:=by
    rw[xdd,xdk d]
    rfl
   rw[j] at b;exact xbe b
  ·rw[xhp (by lia)] at b ⊢;exact xbe b
def ItAt(w:World) (h:Heap) (c a:Addr) (i n b:Nat) (t:SetTable):Prop:=∃ o,h.get? c=some o/\o.cls=.type "set_iterator"/\o.data=.fields #[.int (slotAt w t i:Nat) 0,.int i 0,.ref a,.int n 0,.int b 0]
theorem ItAt.kept{h':Heap}(x:ItAt w h it a i n ep t)(k:∀o,h.get? it=some o->h'.get? it=some o):ItAt w h' it a i n ep t:=
 let ⟨o,e,r⟩:=x;⟨o,k _ e,r⟩
theorem ItAt.is{s:Shared}(x:ItAt w s.heap it a i n ep t):s.TypeIs (.ref it) "set_iterator":=let ⟨o,e,c,_⟩:=x; ⟨o,e,c⟩
noncomputable def itO(a:Addr) (n b:Nat):Obj:={ cls:=.type "set_iterator",data:=.fields #[.int 0 0,.int 0 0,.ref a,.int n 0,.int b 0] }
theorem zbof{s:Shared}{W:Value->Shared->Prop}(x:At s.heap a es ep t)(T:Tt w es t ks)(b:W (.ref s.heap.objs.size) {s with heap:=s.heap.push (itO a es.size ep)}):wpAny (model P w) B (pyIter (.ref a)) W E s:=by
 obtain⟨f,c,e,d⟩:=id x;refine xoa x.is F.slot_set_iter (xer F.slot_set_iter x.is zbhv ?body (F.args_set_iter_1 _))
 case body=>
  unfold Builtin.«frozenset.__iter__» Builtin.Frozenset.sizeOf;refine xba (m:=Builtin.Frozenset.slot0 "__iter__" _) (xbe (xba (xba (xmu c d T.fits (xbe ?_)))))
  unfold setDrawn setsByText;refine xba (xba (xlp c d T.fits ?_));dsimp only;refine xba (xba (xke (xbe (xbe ?_))));refine xkp (λz=>?_) (λ_=>xba (xbe ?_))
  ·change (_&&(!t.plain&&_))=true at z
   rw[T.tb.pl] at z;simp at z
  refine xba (wpAny_setEpoch_of c d T.fits ?_);unfold newFields;exact xba (xdx (xbe ⟨_,rfl, "set_iterator",_,⟨_,xci _ rfl,rfl⟩,zjs.lookup,b⟩))
theorem zbsi{h:Heap}{o:Obj}{i n c:Nat}(g:h.get? it=some o)(e:o.cls=.type "set_iterator")(j:o.data=.fields #[.int (slotAt w t i:Nat) 0,.int i 0,.ref a,.int n 0,.int c 0]):
  ItAt w ((h.update it (Obj.mapFields (·.setIfInBounds 0 (rawInt (slotAt w t (i+1):Nat))))).update it (Obj.mapFields (·.setIfInBounds 1 (rawInt ((i:Int)+1))))) it a (i+1) n c t:=by
 have d:=xgv j (·.setIfInBounds 0 (rawInt (slotAt w t (i+1):Nat)));have f:=xfn _ g (xhy d);have b:=xgv d (·.setIfInBounds 1 (rawInt ((i:Int)+1)));refine⟨_,xfn _ f (xhy b),(xlk ..).trans ((xlk ..).trans e),?_⟩;rw[b];simp[rawInt]
theorem zbog{s:Shared}{W:Option Value->Shared->Prop}(x:At s.heap a es ep t)(T:Tt w es t ks)(f:ItAt w s.heap it a i es.size ep t)(h:(ord w a es ep)[i]?=some e)
  (d:∀g:Heap,ItAt w g it a (i+1) es.size ep t->Heap.SameBut it s.heap g->W (some e.2) {s with heap:=g}):wpAny (model P w) B (pyNext (.ref it)) W E s:=by
 obtain⟨r,c,o,b⟩:=id f;obtain⟨q,n,k,p⟩:=id x;have lt:i<es.size:=by
  have:=(xnk.mp h).1
  rwa [zkv] at this
 unfold pyNext;refine xba (xlu (wpAny_callSpecial?_slot (name:=Str.ofString "__next__") f.is zjs (xer zjs f.is zvg ?body (zbda _))))
 case body=>
  refine xba (m:=slotArgs "__next__" 0 _) (xbe (xba (xmz c b ?_)))
  refine xba (xmu n p T.fits ?_);rw[if_neg (by simp)];refine xba (m:=setNext a (slotAt w t i) i ep) (zbdi x T (xcf lt) ?_);rw[h];dsimp only[Option.map];refine xba (xih c b (by simp) ?_);have j:=xgv b (·.setIfInBounds 0 (rawInt (slotAt w t (i+1):Nat)));have l:=xfn _ c (xhy j);refine xba (xih l j (by simp) ?_);exact xbe ⟨_,rfl,xbe (d _ (zbsi c o b) ((xew ..).trans (xew ..)))⟩
theorem zbum{B:Around}{s:Shared}{W:Option Value->Shared->Prop}(n:B.handled=none)(x:At s.heap a es ep t)(T:Tt w es t ks)(d:ItAt w s.heap it a i es.size ep t)(j:i=es.size)
  (c:∀g:Heap,Heap.ExtBut it s.heap g->W none {s with heap:=g}):wpAny (model P w) B (pyNext (.ref it)) W E s:=by
 obtain⟨q,f,o,e⟩:=id d;obtain⟨p,k,h,l⟩:=id x;unfold pyNext;refine xba (xlu (wpAny_callSpecial?_slot (name:=Str.ofString "__next__") d.is zjs (xer zjs d.is zvg ?body (zbda _))))
 case body=>
  refine xba (m:=slotArgs "__next__" 0 _) (xbe (xba (xmz f e ?_)))
  refine xba (xmu k l T.fits ?_);rw[if_neg (by simp)];refine xba (m:=setNext a (slotAt w t i) i ep) (zbdi x T (xdt j) ?_);rw[xhp (by rw[zkv];lia)];dsimp only[Option.map];refine xba (xih f e (by simp) (xba ?_));simp only[newExc,newTuple];refine xba (xdx (xba (m:=firstArgMember _ _) (wpAny_of_eq (a:=Value.none) (by first|rfl|(simp only[firstArgMember];rfl)) (xdx ?_ (by size_fits)))) (by size_fits));simp only[raiseNew];refine xba (wpAny_handled ?_);rw[show B.in1.handled=none from n];refine xba (xbe (wpAny_throw ?_));refine xba (wpAny_isInstance (T:="StopIteration") (b:=true) ?ty isSubtype_stop (xbe (c _ (((xew ..).extBut.push _).push _))))
  exact⟨_,xci _ rfl,rfl⟩
theorem zbev{B:Around}(x:B.handled=none)(s:a≠it)(T:Tt w es t ks):
  Walks P w B it [it,a] [it] es.size (λi v=>∃e,(ord w a es ep)[i]?=some e/\v=e.2) (λi h=>ItAt w h it a i es.size ep t/\At h a es ep t) where
 sub:=λb y=>xbm.mpr (.inl (xbz.mp y))
 frame:=λ_ _ _ z n=>⟨z.1.kept λo e=>n it xbr o e,z.2.kept λo e=>n a (xbf _ (xbz.mpr rfl)) o e⟩
 item:=λi f l m u z d=>by
  have k:(ord w a es ep)[i]?=some ((ord w a es ep)[i]'(by rw[zkv];exact u)):=xdk _;exact zbog z.2 T z.1 k λg p q=>d _ g f.toks ⟨_,k,rfl⟩ ⟨p,z.2.kept λo e=>q.extBut a o s e⟩ λc o j e=>q.extBut c o (λr=>j (xbz.mpr r)) e
 done:=λf l m z d=>zbum x z.2 T z.1 rfl λg b=>d g f.toks λc o j e=>b c o (λq=>j (xbz.mpr q)) e
 self:=λi f l m z d=>by
  refine xoa z.1.is zbcp (xer zbcp z.1.is zbff ?_ (zblj _));exact xbe ⟨_,rfl, "set_iterator",_,z.1.is,zjs.lookup,d⟩
theorem zbop{s:Shared}(d:s.TypeIs (.ref a) "set")(c:Q false s):wpAny (model P w) B (Builtin.List.listLengthHint (.ref a)) Q E s:=by
 unfold Builtin.List.listLengthHint;refine xba (wpAny_specialOf d F.slot_set_len.lookup ?_);generalize hid:("set.__len__" : String)=id0
 wp_delta
 rw[show splitId id0=some ("set","__len__") from by subst hid; decide +kernel]
 subst hid;refine xba (wpAny_isInstance (b:=true) d sub_set_self (xkp (λz=>absurd z (by decide)) (λ_=>xkp (λ_=>xba (xmn d (xbe c))) (λz=>absurd (by decide +kernel) z))))
theorem zbrx(T:Tt w es t ks):KdlSrc P w "set" a a es.size (λi v=>∃ e,(ord w a es ep)[i]?=some e/\v=e.2) (λh=>At h a es ep t) where
 type:=λ_ x=>x.is
 there:=λ_ x=>⟨x.lt,x.lt⟩
 keep:=λ_ _ x d=>x.kept λo e=>d a (.inl rfl) o e
 notList:=by decide
 notTuple:=by decide
 hint:=λ_ _ _ _ x b=>zbop x.is b
 iter:=λ_ f c x=>⟨_,_,λ_ _ b=>zbof x T b,zbev c (xcl x.lt) T,⟨⟨_,xci _ rfl,rfl,rfl⟩,x.kept λo e=>xbk _ e⟩⟩
end St
end L2
namespace L2
open Spec PyProof.Rows PySem.W
noncomputable def nats(a:List Nat):List Int:=a.map λ(n:Nat)=>(n:Int)
def setO(w:World) (q:Addr) (a:List Nat):HO:=.ext λh=>St.Sn w h q a
def rSetI(w:World) (K:Fg):List V->Hp->VK->Prop:=λb H Q=>∃(l:Addr) (a:List Nat),b=[.ref l]/\SqL K H l ((nats a).map V.int)/\(∀n∈a,n<64)/\∀q,H q=none->Q (.ref q) (upd H q (setO w q (St.met a [])))
theorem zbbu{X:Cx}(g:X.calm=true):CallR X (.type "set") (rSetI X.w X.K):=by
 intro w s σ H A t Q I r h;obtain⟨l,j,rfl,p,small,q⟩:=h;obtain⟨u,rfl,c⟩:=vals1 r;cases c;obtain⟨d,f,i,x⟩:=I.list p;refine St.zbqd (I.ok.hd g) i.isList (zee f) small λy m S b=>?_
 refine⟨.ref s.heap.objs.size,_,I.laid (a:=s.heap.objs.size) (o:=setO X.w s.heap.objs.size (St.met j [])) (t':=m) b (xbj _) ⟨S,?_,λC v z k=>z.kept k⟩,rfl,q _ (I.hok.fresh (xbj _))⟩;obtain⟨n,_,_,_,e,_⟩:=S;exact⟨n,e⟩
def rSortedS(w:World):List V->Hp->VK->Prop:=λd H Q=>∃(a:Addr) (c:List Nat),d=[.ref a]/\H a=some (setO w a c) /\
 ∀(q:Addr) (b:List Int),H q=none->b.Perm (nats c)->b.Pairwise (·<=·)->Q (.ref q) (upd H q (.lst (b.map V.int)))
theorem zpb{X:Cx}(hc:X.calm=true):CallR X (.builtin "sorted") (rSortedS X.w):=by
 intro aU s σ H xs us Q I r h;obtain⟨a,ks,rfl,ha,q⟩:=h;obtain⟨u,rfl,J⟩:=vals1 r;cases J;obtain⟨S,_,_⟩:=(show ObjOk X.prog X.w H s.heap a (setO X.w a ks) from I.hok a _ ha)
 obtain⟨ob,k,f,t,ho,l,hd,T⟩:=S;have a0:=T.few;refine Srt.zjl (St.zbrx (P:=X.prog) (ep:=f) T) (I.ok.hd hc) ⟨ob,ho,l,hd⟩ (small10000 (by lia)) λvs hl hv=>?_
 have v:=St.zuz X.w a k f;have j:vs=(St.ord X.w a k f).toList.map (·.2):=by
  apply xic;intro i;by_cases hi:i<k.size
  ·have C:vs[i]?=some vs[i]:=xbd (by lia);obtain⟨e,w,h3⟩:=hv i _ C;rw[C,h3,xco,xcm,w]
   rfl
  ·rw[xez (by lia),xez (by rw[xbc,xch,St.zkv];lia)]
 generalize hL:(St.ord X.w a k f).toList=L at v j;have E:=T.el.of_perm v;have m:Vals ((L.map (·.1)).map V.int) vs:=by
  rw[j,xcz];refine znt λe U=>?_
  obtain⟨n,t2,hn,rfl⟩:=E.all e U;exact⟨t2,rfl⟩
 have Y:(L.map (·.1)).length=k.size:=by
  rw[xbc,v.length_eq,xch]
 refine⟨Srt.rank (ones (L.map (·.1))),zbjk m,λw g tk d=>zbjz (by lia) m,λp b g tk c z A d x eg=>?_⟩;have lv:vs.length=(L.map (·.1)).length:=by lia
 rw[lv] at z A;obtain⟨G,y,q2,q3⟩:=zbgo m z A;refine⟨.ref b,_,I.laidN (o:=.lst (G.map V.int)) d x ⟨?_,_,c,q3,by simpa using eg⟩,rfl,q b G (I.away x) (y.trans E.perm) q2⟩;rw[xbc,y.length_eq,Y];exact small10000 (by lia)
end L2
namespace Dd
open L2 PyProof.Rows
noncomputable def once:List Int->List Int
 |[]=>[]
 |n::l=>if n∈l then once l else n::once l
theorem zif:∀{l:List Int},k∈once l↔k∈l
 |[]=>Iff.rfl
 |n::l=>by
  unfold once;split
  ·rename_i h;rw[zif (l:=l),xbm];exact⟨.inr,λz=>z.elim (λe=>e ▸ h) id⟩
  ·rw[xbm,xbm,zif (l:=l)]
theorem zqj:∀l:List Int,(once l).Nodup
 |[]=>xgm
 |n::l=>by
  unfold once;split
  ·exact zqj l
  ·rename_i h;exact xdf.mpr ⟨λz=>h (zif.mp z),zqj l⟩
theorem zvp:∀{l b:List Nat},k∈St.met l b↔k∈l\/k∈b
 |[],b=>by simp[St.met]
 |n::l,b=>by
  unfold St.met;rw[zvp (l:=l),xbm];split
  ·rename_i h;exact⟨λz=>z.elim (λa=>.inl (.inr a)) .inr,λz=>z.elim (λa=>a.elim (λe=>.inr (e ▸ h)) .inl) .inr⟩
  ·rw[xbm];exact⟨λz=>z.elim (λa=>.inl (.inr a)) (λa=>a.elim (λe=>.inl (.inl e)) .inr),λz=>z.elim (λa=>a.elim (λe=>.inr (.inl e)) .inl) (λa=>.inr (.inr a))⟩
theorem zbhf:∀{l a:List Nat},a.Nodup->(St.met l a).Nodup
 |[],a,h=>h
 |n::l,a,h=>by
  unfold St.met;split
  ·exact zbhf h
  ·rename_i c;exact zbhf (xdf.mpr ⟨c,h⟩)
theorem zbnk{l:List Nat}(h:l.Nodup):(nats l).Nodup:=by
 unfold nats;rw[xfc] at h ⊢;exact xln.mpr (h.imp λa e=>a (by lia))
theorem zbhe:(nats (St.met ns [])).Perm (once (nats ns)):=by
 refine(xnm (zbnk (zbhf xgm)) (zqj _)).mpr λk=>?_
 rw[zif];unfold nats;rw[xbt,xbt];constructor
 ·rintro⟨n,h,rfl⟩;exact⟨n,(zvp.mp h).elim id (λz=>by cases z),rfl⟩
 ·rintro⟨n,h,rfl⟩;exact⟨n,zvp.mpr (.inl h),rfl⟩
noncomputable def smallI(n:Int):Bool:=decide (0<=n)&&decide (n<64)
theorem ztz{l:List Int}(h:l.all smallI=true):∃b:List Nat,l=nats b/\∀n∈b,n<64:=by
 refine⟨l.map Int.toNat,?_,λn a=>?_⟩
 ·unfold nats;rw[xcz];refine(xow l).symm.trans (xea λn a=>?_);have:=xbx.mp h n a;simp[smallI] at this;show n=((n.toNat:Nat):Int)
  lia
 ·obtain⟨m,c,rfl⟩:=xbt.mp a;have:=xbx.mp h m c;simp[smallI] at this;lia
def bSortSet:List D->Store->Res D:=λb a=>match b with
 |[x]=>match (asL a x).bind asInts with
  |some l=>if l.all smallI=true then .ok (.lst ((sortI (once l)).map .int)) a else .stuck
  |none=>.stuck
 |_=>.stuck
def rSS(w:World) (K:Fg):List V->Hp->VK->Prop:=λa H Q=>rSetI w K a H λu H1=>rSortedS w [u] H1 Q
theorem zxr{w:World}{K:Fg}:CaD K bSortSet (rSS w K):=λρ H C y A z m Q f n e q=>by
 unfold bSortSet at e;split at e
 ·obtain⟨u,rfl,a⟩:=n.one;split at e
  ·rename_i l c;obtain⟨G,r,c⟩:=xft.mp c;split at e
   ·rename_i k;cases e;obtain⟨p,E,rfl,o,i⟩:=zfs f a r;have e:=zdq i c;subst e;obtain⟨h,rfl,small⟩:=ztz k;refine⟨p,h,rfl,SqL.of o,small,λb g=>⟨b,_,rfl,zt,λt s d x v=>?_⟩⟩;have j:s=sortI (once (nats h)):=zbfe (x.trans zbhe) v;subst j;exact q _ _ _ ((Ext.new g _).trans (Ext.new d _)) ((f.new g _).new d _) (.newL (f.new g _) d (zin _))
   ·cases e
  ·cases e
 ·cases e
theorem zbyu{X:Cx}(o:X.calm=true)(s:CaD X.K g (rSS X.w X.K))(a:Gl X x)(i:X.mg x=none)(d:bootBuiltins x=some (.builtin "sorted"))(k:Gl X y)(l:X.mg y=none)(n:bootBuiltins y=some (.type "set"))(r:JA X [e] f)
  (m:x≠"__name__":=by decide)(j:(x==("__debug__" : Str))=false:=by decide)(c:y≠"__name__":=by decide)(b:(y==("__debug__" : Str))=false:=by decide)(q:plainE e=true:=by rfl):
  JE X (.Call (.Name x p) [.Call (.Name y p2) [e] [] pos2] [] pos) (aE g f):=
 ⟨zfh (zuw (zpb o) a i d (zbcv (zqi (zbbu o) k l n r.out c b (zmh q)) zbmq) m j) λτ H Q h=>zbvt s τ H Q h⟩
end Dd
namespace L2
open Spec PyProof.Rows PySem.W
end L2
namespace Dd
open L2 PyProof.Rows
end Dd
namespace L2
open Spec PyProof.Rows
end L2
namespace Dd
open L2 PyProof.Rows
end Dd
namespace L2
open Spec PyProof.Rows
end L2
namespace Dd
open L2 PyProof.Rows
end Dd
namespace L2
open Spec PyProof.Rows
end L2
namespace Dd
open L2 PyProof.Rows
end Dd
namespace L2
open Spec PyProof.Rows
end L2
namespace L2
open Spec PyProof.Rows Builtin Builtin.ObjectAttr
end L2
namespace L2
open Spec PyProof.Rows
end L2
namespace Dd
open L2 PyProof.Rows
end Dd
namespace L2
open Spec PyProof.Rows
end L2
namespace Dd
open L2 PyProof.Rows
end Dd
namespace L2
open Spec PyProof.Rows
end L2
namespace Dd
open L2 PyProof.Rows
end Dd
namespace L2
open Spec PyProof.Rows
end L2
namespace Dd
open L2 PyProof.Rows
end Dd
namespace L2
open Spec PyProof.Rows
def rSetD(_K:Fg):V->List V->Hp->VK->Prop:=λx c H Q=>∃(a:Addr) (k:Key) (v:V) (b:List (Key×V)),x=.ref a/\c=[kV k,v]/\H a=some (.dK b)/\b.length<sizeLine /\
 (∀u,valV b k=some u->Q u H)/\(valV b k=none->Q v (upd H a (.dK (putK b k v))))
theorem zbnl: MtR X "dict.setdefault" (rSetD X.K):=by
 intro aU s σ H x xs v us Q I S U h;obtain⟨a,k,d,b,rfl,rfl,e,hl,p,Y⟩:=h;cases S;obtain⟨u,r,rfl,E,l⟩:=vals2 U;obtain⟨z,o,n,c,m⟩:=zbvc I.hok e;have G:n.length<=sizeLine:=by rw[←c.length];exact z
 have j:(putK b k d).length<=sizeLine:=by have:=zgj b k d;lia
 refine xmo xmy m.typeIs F.entry_dict_setdefault (F.args_dict_setdefault_3 _ _ _) (kt_meets_setdefault (mixKind X.prog X.w) a (zbhu E) o r) ⟨n,m,G,λw A=>?_,λC P i J=>?_⟩
 ·have f:=c.val k;rw[A] at f;cases g:valV b k with
  |none=>rw[g] at f;exact f.elim
  |some y=>rw[g] at f;exact⟨y,H,I.tok _,f,p y g⟩
 ·have g:valV b k=none:=by
   have f:=c.val k;rw[C] at f;cases g:valV b k with
   |none=>rfl
   |some y=>rw[g] at f;exact f.elim
  have t:∃q,P.get? a=some q:=let ⟨q,_,_,hq,_⟩:=i;⟨q,hq⟩
  exact⟨d,_,znd I (by rw[e];exact True.intro) J t (zbis j o (c.put k l) i),l,Y g⟩
def rMaxDI(d:List V) (H:Hp) (Q:VK):Prop:=∃(a:Addr) (n:Int) (c:List Int) (b:List (Key×V)),d=[.ref a]/\Rd H a (.dK b)/\b.map (·.1)=(n::c).map Sum.inl/\Q (.int (bestI true n c)) H
theorem zxe{X:Cx}(hc:X.calm=true):CallR X (.builtin "max") rMaxDI:=by
 intro aU s σ H xs us Q I r h;obtain⟨a,n,f,C,rfl,e,Y,q⟩:=h;obtain⟨u,rfl,U⟩:=vals1 r;cases U;obtain⟨z,hd,c,l,dd⟩:=zbir I.hok e;obtain⟨ep,P⟩:∃ep,s.heap.DictAt (mixKind X.prog X.w) a c ep:=by
  obtain⟨o,es,ep,h⟩:=dd;exact⟨ep,o,es,h⟩
 obtain⟨oI,St,E,W,au⟩:=(W.kdl_dict (prog:=X.prog) (w:=X.w) (knd:=mixKind X.prog X.w) (kvs:=c) (ep:=ep) hd).iter X.A.in1 s (I.ok.hd hc) P;have J:c.map (·.1)=(n::f).map Sum.inl:=l.keys.symm.trans Y;have d:c.length=(n::f).length:=by have:=congrArg List.length J;simpa using this
 have g:∀i v,(∃k x,c[i]?=some (k,x)/\(mixKind X.prog X.w).is k v=true)->∃t,v=.int ((n::f).getD i 0) t:=λi v A=>by
  obtain⟨k,x,hi,p⟩:=A;have S:(c.map (·.1))[i]?=some k:=by rw[xco,hi];rfl
  rw[J,xco] at S;obtain⟨y,hy,rfl⟩:=xdb.mp S;rw[xbg,hy];rcases zbe (show keyIs (Sum.inl y) v=true from p) with⟨i,t,j,rfl⟩|⟨x,t,j,rfl⟩
  ·cases j;exact⟨t,rfl⟩
  ·cases j
 have G:a<s.heap.objs.size:=P.lt_size;refine call_max_walk (E _ _ ⟨s.heap.objs.size,_,_,_,_,St,_,rfl,W,au,λb hb=>?_,by rw[d];simp,CmpOf.ints_gt (λi=>(n::f).getD i 0) g,λv h' tk hP p=>?_⟩)
 ·rw[xmx];have m:b=s.heap.objs.size\/b=a:=by simpa using hb
  rcases m with z|z
  ·rw[z];exact xka _
  ·rw[z];exact xid G
 ·obtain⟨t,rfl⟩:=g _ _ hP;rw[d,zxm (by simp)];exact⟨.int (bestI true n f),H,I.kept (t':=tk) λb u e=>p b u (by simp;exact xcl (xcd e)) (xbk _ e),⟨_,rfl⟩,q⟩
def rPopI(_K:Fg):V->List V->Hp->VK->Prop:=λx c H Q=>∃(a:Addr) (k:Key) (v:V) (b:List (Key×V)),x=.ref a/\c=[kV k]/\H a=some (.dK b)/\valV b k=some v/\Q v (upd H a (.dK (dropK b k)))
theorem zbnm: MtR X "dict.pop" (rPopI X.K):=by
 intro n s σ H x p v j Q I i b h;obtain⟨a,k,d,g,rfl,rfl,e,l,q⟩:=h;cases i;obtain⟨u,rfl,f⟩:=b.one;exact zbyv I e f l (.inl rfl) λm o c r=>⟨d,_,c,r,q⟩
end L2
namespace Dd
open L2 PyProof.Rows
noncomputable def valI(a:List (Int×D)) (k:Int):Option D:=(a.find? λb=>decide (b.1=k)).map (·.2)
noncomputable def putI(a:List (Int×D)) (k:Int) (v:D):List (Int×D):=
 if(a.any λb=>decide (b.1=k))=true then a.map (λb=>if b.1=k then(b.1,v) else b) else a++[(k,v)]
noncomputable def dropI(a:List (Int×D)) (k:Int):List (Int×D):=a.filter λb=>decide (b.1≠k)
theorem inlI:(Sum.inl a:Key)=Sum.inl b↔a=b:=⟨λe=>Sum.inl.inj e,λe=>by rw[e]⟩
section
variable {K:Fg}{ρ:Loc}{H:Hp}{kvs:List (Int×D)}{vs:List (Key×V)}
theorem KiAt.val(h:KiAt K ρ H kvs vs)(k:Int):match valI kvs k with
  |some d=>∃v,valV vs (Sum.inl k)=some v/\At K ρ H d v
  |none=>valV vs (Sum.inl k)=none:=by
 induction h with
 |nil=>rfl
 |@cons p q ps qs h t ih=>
  obtain⟨b,f⟩:=h;by_cases e:p.1=k
  ·have a:valI (p::ps) k=some p.2:=by simp[valI,xfd,e]
   rw[a];exact⟨q.2,zhv (by rw[b,e]),f⟩
  ·have a:valI (p::ps) k=valI ps k:=by simp[valI,xfd,e]
   have c:valV (q::qs) (Sum.inl k)=valV qs (Sum.inl k):=zhw (by rw[b,inlI];exact e);rw[a,c];exact ih
theorem KiAt.keys(h:KiAt K ρ H kvs vs):vs.map (·.1)=(kvs.map (·.1)).map Sum.inl:=by
 induction h with
 |nil=>rfl
 |@cons p q ps qs h t ih=>rw[xbq,xbq,xbq,ih,h.1]
theorem KiAt.put(h:KiAt K ρ H kvs vs)(k:Int){d:D}{v:V}(a:At K ρ H d v):KiAt K ρ H (putI kvs k d) (putK vs (Sum.inl k) v):=by
 have b:∀{kvs:List (Int×D)}{vs:List (Key×V)},KiAt K ρ H kvs vs->(kvs.any λf=>decide (f.1=k))=(vs.any λf=>decide (f.1=Sum.inl k)):=λh=>by
  induction h with
  |nil=>rfl
  |@cons p q ps qs h t ih=>
   rw[xix,xix,ih,h.1]
   congr 1
   simp only[inlI]
 unfold putI putK;rw[b h];split
 ·rename_i j;clear j b
  induction h with
  |nil=>exact .nil
  |@cons p q ps qs h t ih=>
   refine .cons ?_ ih;obtain⟨c,i⟩:=h;dsimp only;by_cases e:p.1=k
   ·rw[if_pos e,if_pos (by rw[c,e])];exact⟨c,a⟩
   ·rw[if_neg e,if_neg (by rw[c,inlI];exact e)];exact⟨c,i⟩
 ·have g:∀{kvs:List (Int×D)}{vs:List (Key×V)},KiAt K ρ H kvs vs->KiAt K ρ H (kvs++[(k,d)]) (vs++[(Sum.inl k,v)]):=λh=>by
   induction h with
   |nil=>exact .cons ⟨rfl,a⟩ .nil
   |cons h t ih=>exact .cons h ih
  exact g h
theorem KiAt.drop(h:KiAt K ρ H kvs vs)(k:Int):KiAt K ρ H (dropI kvs k) (dropK vs (Sum.inl k)):=by
 unfold dropI dropK
 induction h with
 |nil=>exact .nil
 |@cons p q ps qs h t ih=>
  by_cases e:p.1=k
  ·rw[xcq (by simp[e]),xcq (by simp[h.1,e])];exact ih
  ·rw[xcn (by simp[e]),xcn (by simp[h.1,e])];exact .cons h ih
theorem KiAt.length(h:KiAt K ρ H kvs vs):kvs.length=vs.length:=xiw h
end
section
variable {H:Hp}{vs:List (Key×V)}
theorem zqp{p:Addr}(g:H p=some (.dK vs)):∀a u,H p≠some (.frz a u):=λa u z=>by rw[g] at z;cases z
end
def eDNewI:SE:=λ_ a=>.ok (.ref a.length) (a++[.dI []])
def ePopI(f:SE) (g:SA):SE:=λσ c=>(f σ c).bind λx b=>match x with
 |.ref n=>match b[n]? with
  |some (.dI _)=>(g σ b).bind λd a=>match d,a[n]? with
   |[.int k],some (.dI kvs)=>match valI kvs k with
    |some v=>.ok v (a.set n (.dI (dropI kvs k)))
    |none=>.stuck
   |_,_=>.stuck
  |_=>.stuck
 |_=>.stuck
def eSetDI(f:SE) (g:SA):SE:=λσ c=>(f σ c).bind λx b=>match x with
 |.ref n=>match b[n]? with
  |some (.dI _)=>(g σ b).bind λe a=>match e,a[n]? with
   |[.int k,d],some (.dI kvs)=>if kvs.length<sizeLine then(match valI kvs k with
    |some v=>.ok v a
    |none=>.ok d (a.set n (.dI (putI kvs k d)))) else .stuck
   |_,_=>.stuck
  |_=>.stuck
 |_=>.stuck
def bMaxI:List D->Store->Res D:=λb a=>match b with
 |[.ref n]=>match a[n]? with
  |some (.dI kvs)=>match kvs.map (·.1) with
   |k::ks=>.ok (.int (bestI true k ks)) a
   |[]=>.stuck
  |_=>.stuck
 |_=>.stuck
def bTruI(f:SE):ST:=λσ b=>(f σ b).bind λv a=>match v with
 |.ref n=>match a[n]? with
  |some (.dI kvs)=>.ok (!kvs.isEmpty) a
  |_=>.stuck
 |_=>.stuck
theorem zbjb:JE X (.Dict [] [] pos) eDNewI:=⟨zfh zbgf λτ H Q b p f=>by
 obtain⟨ρ,σ,g,v,d,a,c,e,q⟩:=b;cases e;obtain⟨E,R⟩:=c.alloc f (x:=.dI []) (o:=.dK []) λE=>⟨[],zt,.nil⟩
 exact q _ _ _ E R (.last c.len.symm)⟩
section
variable {X:Cx}{o:Expr}{e:Expr}{a:Expr}{es:List Expr}{f:SE}{ga:SA}{apos:Pos}{cpos:Pos}
theorem zbpn(ho:JE X o f)(ha:JA X (e::es) ga)(c:attributeBase o "pop" X.env (eval o X.env)=eval o X.env:=by rfl)
  (l:((backTo cpos (starEach (e::es) X.env)).all (λx=>!x.1)&&(backToKw cpos (keywordEach [] X.env)).all (λx=>x.1.isSome)
   && decide ((e::es).length+([]:List Keyword).length+(if([]:List Keyword).isEmpty then 0 else 1)<30))=true:=by rfl)
  (d:(apos.endLine==cpos.line)=true:=by rfl)(hs:starEach (e::es) X.env=(false,eval e X.env)::starEach es X.env:=by rfl)(b:(backTo cpos (starEach es X.env)).any (·.1)=false:=by rfl):
  JE X (.Call (.Attribute o "pop" apos) (e::es) [] cpos) (ePopI f ga):=⟨zfh (zbrd xit xjp F.type_dict_pop zbnm ho.out ha.out c l d hs b) λτ H Q r=>by
 obtain⟨ρ,σ,au,v,a0,a,rp,e,q⟩:=r;obtain⟨x,i,P,e⟩:=za e;refine⟨ρ,σ,au,x,i,a,rp,P,λρ1 H1 u G g y=>?_⟩;split at e
 ·rename_i n;split at e
  ·rename_i a4 h0;obtain⟨p,rfl,hp,a5,g0,_⟩:=zdu g y h0 (by intro z;cases z);obtain⟨ys,m,S,e⟩:=za e;refine⟨.inr (.inr (.inl ⟨rfl,.inl ⟨_,g0⟩⟩)),ρ1,σ,i,ys,m,a.ext G,g,S,λt H2 ws A j a2=>?_⟩;split at e
   ·rename_i k a6 U;split at e
    ·rename_i z hv;cases e;obtain⟨w,rfl,a3⟩:=a2.one;cases a3;obtain⟨p',Y,h,I,s,C⟩:=zdu j (y.ext A) U (by intro z;cases z);cases Y;have J:=C.val k;rw[hv] at J;obtain⟨vv,g5,g6⟩:=J;have E:Ext t H2 t (upd H2 p (.dK (dropK I (Sum.inl k)))):=Ext.wr h (zqp s) _;exact⟨p,Sum.inl k,vv,I,rfl,rfl,s,g5,q _ _ _ ((G.trans A).trans E) (j.wr h (zqp s) ⟨_,zt,(C.drop k).ext E⟩) (g6.ext E)⟩
    ·cases e
   ·cases e
  ·cases e
 ·cases e⟩
theorem zbiy(ho:JE X o f)(ha:JA X (e::es) ga)(c:attributeBase o "setdefault" X.env (eval o X.env)=eval o X.env:=by rfl)
  (A:((backTo cpos (starEach (e::es) X.env)).all (λx=>!x.1)&&(backToKw cpos (keywordEach [] X.env)).all (λx=>x.1.isSome)
   && decide ((e::es).length+([]:List Keyword).length+(if([]:List Keyword).isEmpty then 0 else 1)<30))=true:=by rfl)
  (i:(apos.endLine==cpos.line)=true:=by rfl)(hs:starEach (e::es) X.env=(false,eval e X.env)::starEach es X.env:=by rfl)(b:(backTo cpos (starEach es X.env)).any (·.1)=false:=by rfl):
  JE X (.Call (.Attribute o "setdefault" apos) (e::es) [] cpos) (eSetDI f ga):=⟨zfh (zbrd xit xmy F.type_dict_setdefault zbnl ho.out ha.out c A i hs b) λτ H Q P=>by
 obtain⟨ρ,σ,au,v,a0,a,rp,e,q⟩:=P;obtain⟨x,s,e1,e⟩:=za e;refine⟨ρ,σ,au,x,s,a,rp,e1,λρ1 H1 u J m a1=>?_⟩;split at e
 ·rename_i n;split at e
  ·rename_i a5 h0;obtain⟨p,rfl,hp,a6,g0,_⟩:=zdu m a1 h0 (by intro z;cases z);obtain⟨ys,C,e2,e⟩:=za e;refine⟨.inr (.inr (.inl ⟨rfl,.inl ⟨_,g0⟩⟩)),ρ1,σ,s,ys,C,a.ext J,m,e2,λρ2 H2 ws G g a2=>?_⟩;split at e
   ·rename_i k d a7 hn;split at e
    ·rename_i t;obtain⟨w,w2,rfl,a3,a4⟩:=a2.two;cases a3;obtain⟨p',ep,r,S,Y,I⟩:=zdu g (a1.ext G) hn (by intro z;cases z);cases ep;have l:=I.val k;refine⟨p,Sum.inl k,w2,S,rfl,rfl,Y,by rw[←I.length];exact t,λy h=>?_,λh=>?_⟩
     ·split at e
      ·rename_i z j;cases e;rw[j] at l;obtain⟨vv,U,g6⟩:=l;rw[U] at h;cases h;exact q _ _ _ (J.trans G) g g6
      ·rename_i j;rw[j] at l;rw[show valV S (Sum.inl k)=none from l] at h;cases h
     ·split at e
      ·rename_i z j;rw[j] at l;obtain⟨vv,U,g6⟩:=l;rw[U] at h;cases h
      ·rename_i j;cases e;have E:Ext ρ2 H2 ρ2 (upd H2 p (.dK (putK S (Sum.inl k) w2))):=Ext.wr r (zqp Y) _;exact q _ _ _ ((J.trans G).trans E) (g.wr r (zqp Y) ⟨_,zt,(I.put k a4).ext E⟩) (a4.ext E)
    ·cases e
   ·cases e
  ·cases e
 ·cases e⟩
end
section
variable {e:Expr}{a:Expr}
theorem zbqo{K:Fg}:CaD K bMaxI rMaxDI:=λρ H t s o z c Q b g e q=>by
 unfold bMaxI at e;split at e
 ·split at e
  ·rename_i n d l;split at e
   ·rename_i k j m;cases e;obtain⟨u,rfl,a⟩:=g.one;obtain⟨p,rfl,r,i,h,f⟩:=zdu b a l (by intro z;cases z);exact⟨p,k,j,i,rfl,.inl h,by rw[f.keys,m],q _ _ _ (.refl _ _) b (.int _)⟩
   ·cases e
  ·cases e
 ·cases e
end
section
variable {X:Cx}{e:Expr}{a:Expr}{f:SE}
theorem zbii(h:JE X a f)(m:∀b,isTrue a X.env b=(do let v ←b;standAt a.pos;holding [v] (truthy v)):=by intro _;rfl):JT X a (bTruI f):=⟨zbkg (zut h.out m) λτ H Q i=>by
 obtain⟨ρ,σ,s,v,r,k,A,e,q⟩:=i;obtain⟨x,g,l,e⟩:=za e;refine⟨ρ,σ,s,x,g,k,A,l,λG H1 u y c t=>?_⟩;split at e
 ·rename_i n;split at e
  ·rename_i d o;cases e;obtain⟨p,rfl,I,j,C,w⟩:=zdu c t o (by intro z;cases z);have E:d.isEmpty=j.isEmpty:=by
    have:=w.length;cases d<;>cases j<;>simp at this ⊢
   exact⟨_,.inr (.inr ⟨j,C,by rw[E]⟩),q _ _ y c⟩
  ·cases e
 ·cases e⟩
end
end Dd
namespace L2
open Spec PyProof.Rows
end L2
namespace Dd
open L2 PyProof.Rows
end Dd
namespace L2
open Spec PyProof.Rows
end L2
namespace Dd
open Spec PyProof.Rows L2
end Dd
namespace L2
open Spec PyProof.Rows PySem.W
end L2
namespace Dd
open Spec PyProof.Rows L2
end Dd
namespace Dd
open L2 PyProof.Rows
theorem sv{X:Cx}(d:X.N[i]?=some x:=by rfl)(b:Vis X.env.scope x:=by first|exact Or.inl rfl|exact Or.inr (Or.inl rfl)|exact Or.inr (Or.inr rfl))(c:(x==("__debug__" : Str))=false:=by decide)
 (a:(x==("__classdict__" : Str))=false:=by decide):JE X (.Name x pos) (aA i):=zdw (pv i d b c a)
theorem scl{X:Cx}(c:CalD X.prog X.w X.K X.mg X.base x k ps F)(l:Room j X.A)(q:JA X (e::es) g)(n:∀f o v a,F f o=.ok v a->f.length=ps.length:=by exact λ_ _ _ _ h=>zqx h)(r:k<=j:=by first|decide|lia)(i:Gl X x:=by rfl)
 (b:(x==("__debug__" : Str))=false:=by decide)(m:starEach (e::es) X.env=(false,eval e X.env)::starEach es X.env:=by rfl)(d:(backTo pos (starEach es X.env)).any (·.1)=false:=by rfl):JE X (.Call (.Name x p) (e::es) [] pos) (aE F g):=zrk c n (l.mono r) i q b m d
theorem sst{X:Cx}{a:Pos}(j:X.N.Nodup)(g:JE X e f)(h:X.N[i]?=some x:=by rfl)(b:L2.Loc X.env.scope x:=by first|exact Or.inl rfl|exact Or.inr rfl)(d:swapsWith e (some (.Name x pos')) a.line X.env=pure false:=by rfl)(c:X.fn x=true\/X.env.scope.names.lookup x=some .local:=by first|exact .inl rfl|exact .inr rfl|assumption):
 JS X (.Assign [.Name x pos'] e a) (aF i f):=zrf j h b g d c
theorem sgn{X:Cx}(c:X.N.Nodup)(a:X.N[i]?=some x:=by rfl)(b:L2.Loc X.env.scope x:=by first|exact Or.inl rfl|exact Or.inr rfl)(d:X.fn x=true\/X.env.scope.names.lookup x=some .local:=by first|exact .inl rfl|exact .inr rfl|assumption):JG X (.Name x pos) (gN i):=zcb c a b d
theorem sfr(f:JI X tg iter it)(a:JG X tg bd)(g:JB X body b)(d:PassesOwn (model X.prog X.w) X.A X.env X.xe:=by exact xkl)(c:X.calm=true:=by rfl)(e:∀x,foldedSetIterable iter X.env x=pure x:=by intro _;rfl):
 JS X (.For tg iter body [] pos) (sFor it bd b):=zbec d c f a g e
theorem scp(N:List Str) (i:JI X (.Name x p) iter it)(h:∀d C c s H,JE (cxC X N scope d C c s H) elt f)(b:N.Nodup:=by decide +kernel)(S:CompScope X N k is scope:=by exact zfq (by rfl))(a:X.calm=true:=by rfl)
  (e:N.Nodup->∀d C c s H,JG (cxC X N scope d C c s H) (.Name x p) (gN 0):=by exact λb _ _ _ _ _=>sgn b)(g:∀x,foldedSetIterable iter X.env x=pure x:=by intro _;rfl):JE X (.ListComp elt [⟨.Name x p,iter,[],0⟩] scope pos) (aG it k is (gN 0) aI f):=
 zhb a i (e b) (λ_ _ _ _ _=>zox) h S g
theorem sa1(c:JE X a f)(b:plainE a=true:=by rfl):JA X [a] (aB f aC):=zj c zby b
theorem sa2(d:JE X a f)(e:JE X b g)(c:plainE a=true:=by rfl)(h:plainE b=true:=by rfl):JA X [a,b] (aB f (aB g aC)):=zj d (sa1 e h) c
theorem sad(c:JE X a f)(d:JE X b g):JE X (.BinOp a .Add b pos) (aS aM f g):=zgo zbmy zbtm c d
theorem ssb(c:JE X a f)(d:JE X b g):JE X (.BinOp a .Sub b pos) (aS oSub f g):=zgo zbtc (zss λ_ _ _ _=>.int _) c d
structure En where
 P:Program
 w:World
 K:Fg
 mg:Str->Option Value
 base:Heap
 h:Heap
 X:K.In h
 G:h.Ns mainGlobals mg
abbrev Cl(Y:En) (x:Str) (k:Nat) (a:List Str) (F:DFn):Prop:=CalD Y.P Y.w Y.K Y.mg Y.base x k a F
section
variable {Y:En}{x:Str}{au:Stmt}{ps:List Str}{k:Nat}{b:SS}
theorem cmk(N:List Str)(T:TopF Y.K x au)(e:N.Nodup->∀(f:Addr) (c:Value) (A:Around) (g:List Env) (s:Shared) (H:Hp) (E:XK),Room k (A.deeper (envOfC x (defScope au) s.heap.objs.size f c))->JB (cxOf CX0 Y.P Y.w Y.K Y.mg Y.base N x (defScope au) f c A g s H E).nox (defBody au) b)
 (S:FnScope N ps (defScope au):=by exact⟨rfl,rfl,rfl,by decide +kernel,rfl,by decide +kernel,by decide +kernel⟩)
 (j:∀(kV h i:Value) (l:Option Addr) (c m:Value) (a:List Value),a.length=ps.length->bindArgs (W.fnOf x x (defArgs au) (defBody au) (defScope au) .none kV h i l c m) ⟨a,[]⟩=pure (ps.zip a):=by
  first|exact λ_ _ _ _ _ _ a d=>len1 a d λ_=>rfl|exact λ_ _ _ _ _ _ a d=>len2 a d λ_ _=>rfl|exact λ_ _ _ _ _ _ a d=>len3 a d λ_ _ _=>rfl|exact λ_ _ _ _ _ _ a d=>len4 a d λ_ _ _ _=>rfl|exact λ_ _ _ _ _ _ a d=>len0 a d rfl):
 Cl Y x (k+1) ps (fnD N.length ps.length b):=zxh T Y.X Y.G S j (e S.nd)
end
end Dd
namespace L2
open Spec PyProof.Rows PySem.W
end L2
namespace Dd
open L2 PyProof.Rows
end Dd
namespace L2
open Spec PyProof.Rows
end L2
namespace Dd
open L2 PyProof.Rows
end Dd
namespace L2
open Spec PyProof.Rows
end L2
namespace Dd
open L2 PyProof.Rows
end Dd
namespace L2
open Spec PyProof.Rows PySem.W
section
variable {K:Type}[DecidableEq K](knd:PySem.KeyKind prog w K)
variable {knd}
end
end L2
namespace Dd
open Spec PyProof.Rows PySem.W L2
end Dd
namespace Dd
open L2
def zfw:DFn:=fnD 5 2 (aD (aF 2 (eC (.int 0)))
 (aD (sIf (eB (aS oLtT (aA 1) (aE bLen (aB (aA 0) aC)))) (aF 2 (aE bAbs (aB (aS oIx (aA 0) (aA 1)) aC))) sNx)
 (aD (aF 3 (aS aM (aS oMulI (eC (.int 7919)) (aA 1)) (eC (.int 17))))
 (aD (sFor (iR1 (aB (aE bMin2 (aB (aE bLen (aB (aA 0) aC)) (aB (eC (.int 60)) aC))) aC)) (gN 4) (aF 3 (aS oMod (aS aM (aS aM (aS oMulI (aA 3) (eC (.int 48271))) (aS oMod (aS oIx (aA 0) (aA 4)) (eC (.int 2147483647)))) (aA 4)) (eC (.int 2147483629)))))
 (aD (sIf (eB (aS oLtT (aA 2) (aS oPow (eC (.int 10)) (eC (.int 18))))) (aF 2 (eC (.int 0))) sNx)
 (sRet (eLstM (aB (aA 2) (aB (aA 3) aC)))))))))
def zh:DFn:=fnD 5 2 (aD (sIf (eB (aS oGt (aS oIx (aA 0) (eC (.int 0))) (eC (.int 0)))) (aD (aF 2 (aS oMod (aS oIx (aA 0) (eC (.int 0))) (aA 1)))
 (aD (sSetIx (aA 0) (eC (.int 0)) (aS oFdiv (aS oIx (aA 0) (eC (.int 0))) (aA 1)))
 (sRet (aA 2)))) sNx)
 (aD (aF 3 (eC (.int 0)))
 (aD (aF 4 (eC (.int 1)))
 (aD (sWhile (eB (aS oLtT (aA 4) (aA 1))) (aD (sSetIx (aA 0) (eC (.int 1)) (aS oMod (aS aM (aS oMulI (aS oIx (aA 0) (eC (.int 1))) (eC (.int 48271))) (eC (.int 7919))) (eC (.int 2147483647))))
 (aD (aF 3 (aS aM (aS oMulI (aA 3) (eC (.int 1073741789))) (aS oMod (aS oMulI (aS oFdiv (aS oIx (aA 0) (eC (.int 1))) (eC (.int 8))) (eC (.int 69621))) (eC (.int 1073741789)))))
 (aF 4 (aS oMulI (aA 4) (eC (.int 1073741789)))))))
 (sRet (aS oMod (aA 3) (aA 1)))))))
def zfy:DFn:=fnD 2 2 (sIf (eB (aS (oDIn false) (aA 1) (aA 0))) (sDrop (eDPop (aA 0) (aA 1))) (sDPut (aA 0) (aA 1) (eC (.bl true))))
def zfg:SS:=(sDPut (aA 1) (aA 2) (eNot (eDGet2 (aA 1) (aA 2) (eC (.bl false)))))
def zbd:DFn:=fnD 3 1 (aD (aF 1 eDNew)
 (aD (sFor (aH (aA 0)) (gN 2) zfg)
 (sRet (aE bTuple (aB (aE bSorted (aB (aG (iDict (aA 1)) 1 [1] (gN 0) (eTru (aS oDGet (aA 1) (aA 0))) (aA 0)) aC)) aC)))))
def zff:SS:=(sIf (eB (aS oGt (aA 4) (eC (.int 0)))) (aD (sDrop (eAppend (aA 3) (aB (aS aM (eC (.int 1)) (aE zh (aB (aA 0) (aB (aS oIx (eLst (aB (aA 4) (aB (aE bMin2 (aB (aA 4) (aB (eC (.int 5)) aC))) (aB (aE bMin2 (aB (aA 4) (aB (eC (.int 2)) aC))) aC)))) (aE zh (aB (aA 0) (aB (eC (.int 3)) aC)))) aC)))) aC)))
 (aF 4 (aS oSub (aA 4) (aS oIx (aA 3) (eUn oNeg (eC (.int 1))))))) sNx)
def zfv:DFn:=fnD 6 3 (aD (aF 3 (eLstM aC))
 (aD (aF 4 (aA 1))
 (aD (sFor (iR1 (aB (aE zh (aB (aA 0) (aB (aS aM (aA 2) (eC (.int 1))) aC))) aC)) (gN 5) zff)
 (sRet (aE bTuple (aB (aA 3) aC))))))
def zcm:DFn:=fnD 4 4 (sRet (aE zbd (aB (aG (iR1 (aB (aE zh (aB (aA 0) (aB (aS aM (aA 1) (eC (.int 1))) aC))) aC)) 1 [0,2,3] (gN 0) aI (aE zfv (aB (aA 1) (aB (aA 2) (aB (aA 3) aC))))) aC)))
def zdr:SS:=(sDPut (aA 1) (aA 2) (eC (.bl true)))
def zeu:DFn:=fnD 3 1 (aD (aF 1 eDNew)
 (aD (sFor (aH (aA 0)) (gN 2) zdr)
 (sRet (aA 1))))
def zft:DFn:=fnD 2 2 (sRet (aS oEq (aS oAndI (aA 0) (aA 1)) (aA 1)))
def zch:SS:=(sIf (eTru (aE zft (aB (aS oSub (aS oSub (aA 1) (aA 3)) (eC (.int 1))) (aB (aS oSub (aA 0) (aS oMulI (eC (.int 2)) (aA 3))) aC)))) (sDrop (eAppend (aA 2) (aB (eIf (eB (aS oGt (aA 3) (eC (.int 0)))) (aR (aB (aS oSub (aS aM (aA 0) (aA 1)) (aA 3)) (aB (aA 3) aC))) (aR (aB (aS aM (aA 0) (aA 1)) aC))) aC))) sNx)
def zba:DFn:=fnD 4 2 (aD (aF 2 (eLstM aC))
 (aD (sFor (iR1 (aB (aS aM (aS oFdiv (aA 0) (eC (.int 2))) (eC (.int 1))) aC)) (gN 3) zch)
 (sRet (aE bSorted (aB (aA 2) aC)))))
def zbb:DFn:=fnD 4 2 (aD (aF 2 (eSl (aA 0) pNone (pSome (aA 1))))
 (aD (aF 3 (eSl (aA 0) (pSome (aS aM (aA 1) (eC (.int 2)))) pNone))
 (sRet (aG (aH (aE zba (aB (aS oIx (aA 0) (aA 1)) (aB (aS oIx (aA 0) (aS aM (aA 1) (eC (.int 1)))) aC)))) 1 [3,2] (gN 0) aI (aS aM (aS aM (aA 2) (aA 0)) (aA 1))))))
def zx:DFn:=fnD 1 1 (sRet (eAnd (aE bIsinst (aB (aA 0) (aB (eC (.ty "int")) aC))) (eNot (aE bIsinst (aB (aA 0) (aB (eC (.ty "bool")) aC))))))
def zdg:DFn:=fnD 2 2 (sRet (eAnd (aE bIsinst (aB (aA 1) (aB (eC (.ty "tuple")) aC))) (eAnd (aE (bAny true) (aB (aG (aH (aA 1)) 1 [] (gN 0) aI (aE zx (aB (aA 0) aC))) aC)) (aS (oDIn false) (aA 1) (aA 0)))))
def zbm:DFn:=fnD 2 2 (sRet (aS oLtT (aA 0) (aS oMulI (eC (.int 2)) (aA 1))))
def zbw:DFn:=fnD 2 2 (aD (sIf (bOr (bNot (eTru (aE zx (aB (aA 1) aC)))) (bNot (eB (eChain oLe oLtT (eC (.int 0)) (aA 1) (aS oSub (aE bLen (aB (aA 0) aC)) (eC (.int 1))))))) (sRet (eC (.bl false))) sNx)
 (sRet (aE zbm (aB (aS oIx (aA 0) (aA 1)) (aB (aS oIx (aA 0) (aS aM (aA 1) (eC (.int 1)))) aC)))))
def zcq:SS:=(sDrop (aE zfy (aB (aA 0) (aB (aA 3) aC))))
def zcv:DFn:=fnD 4 3 (aD (sIf (bNot (eTru (aE zdg (aB (aA 0) (aB (aA 1) aC))))) sStuck sNx)
 (aD (sIf (bNot (eTru (aE zbw (aB (aA 1) (aB (aA 2) aC))))) sStuck sNx)
 (aD (sDrop (aE zfy (aB (aA 0) (aB (aA 1) aC))))
 (sFor (aH (aE zbb (aB (aA 1) (aB (aA 2) aC)))) (gN 3) zcq))))
def zlz:DFn:=fnD 1 1 (sRet (aG (iR1 (aB (aS oSub (aE bLen (aB (aA 0) aC)) (eC (.int 1))) aC)) 1 [0] (gN 0) (eTru (aE zbw (aB (aA 1) (aB (aA 0) aC)))) (aA 0)))
def zgt:DFn:=fnD 1 1 (sRet (aE bSum (aB (aG (iEnum (aA 0)) 2 [] (gT 2 (gsCons (gN 0) (gsCons (gN 1) gsNil))) aI (aS oMulI (aA 0) (aA 1))) aC)))
def zew:DFn:=fnD 1 1 (sRet (eAnd (aE zx (aB (aA 0) aC)) (eChain oLe oLe (eC (.int 1)) (aA 0) (eC (.int 40)))))
def zbce:DFn:=fnD 2 2 (aD (sIf (bOr (bNot (eTru (aE zew (aB (aA 0) aC)))) (bOr (bNot (eTru (aE zew (aB (aA 1) aC)))) (bNot (eTru (aE zbm (aB (aA 0) (aB (aA 1) aC))))))) sStuck sNx)
 (sRet (aE bTuple (aB (aE zba (aB (aA 0) (aB (aA 1) aC))) aC))))
def zco:SS:=(aD (sDrop (eAppend (aA 4) (aB (aE zh (aB (aA 0) (aB (aS aM (aA 3) (eC (.int 1))) aC))) aC)))
 (aF 3 (aS oSub (aA 3) (aS oIx (aA 4) (eUn oNeg (eC (.int 1)))))))
def zcu:DFn:=fnD 7 3 (aD (aF 3 (aE zh (aB (aA 0) (aB (aS aM (aA 2) (eC (.int 1))) aC))))
 (aD (sIf (eB (aS oEq (aE zh (aB (aA 0) (aB (eC (.int 2)) aC))) (eC (.int 0)))) (aF 3 (aA 2)) sNx)
 (aD (aF 4 (eLstM aC))
 (aD (sFor (iR1 (aB (aS oSub (aA 1) (eC (.int 1))) aC)) (gN 5) zco)
 (aD (sDrop (eAppend (aA 4) (aB (aA 3) aC)))
 (aD (aF 6 (aE zh (aB (aA 0) (aB (aA 1) aC))))
 (sRet (aE bTuple (aB (aS aM (eSl (aA 4) (pSome (aA 6)) pNone) (eSl (aA 4) pNone (pSome (aA 6)))) aC)))))))))
def zhr:DFn:=fnD 4 4 (sRet (aE zbd (aB (aG (iR1 (aB (aE zh (aB (aA 0) (aB (aS aM (aA 2) (eC (.int 1))) aC))) aC)) 1 [0,1,3] (gN 0) aI (aE zcu (aB (aA 1) (aB (aA 2) (aB (aA 3) aC))))) aC)))
def zkg:SS:=(aD (sIf (eB (aS oGe (aA 4) (aA 1))) (sDrop (eAppend (aA 3) (aB (aA 4) aC))) sNx)
 (aD (sIf (eB (aS oEq (aA 4) (aA 0))) sBrk sNx)
 (aF 4 (aS oAndI (aS oSub (aA 4) (aA 0)) (aA 0)))))
def zly:DFn:=fnD 5 3 (aD (aF 3 (eLstM aC))
 (aD (aF 4 (eC (.int 0)))
 (aD (sWhile (eB (aS oLe (aA 4) (aA 2))) zkg)
 (sRet (eFz (aA 3))))))
def zdi:SS:=(sDrop (eAppend (aA 3) (aB (aR (aB (aS aM (aA 4) (aR (aB (aS aM (aA 1) (aA 6)) aC))) (aB (aS oSub (aA 5) (aA 6)) aC))) aC)))
def zdh:SS:=(sFor (aH (aE zly (aB (aA 1) (aB (aS oSub (aA 5) (aA 2)) (aB (aA 5) aC))))) (gN 6) zdi)
def zcd:DFn:=fnD 7 3 (aD (aF 3 (eLstM aC))
 (aD (sFor (aH (aA 0)) (gT 2 (gsCons (gN 4) (gsCons (gN 5) gsNil))) zdh)
 (sRet (eFz (aA 3)))))
def zct:SS:=(aD (sAug 3 (oI (λ_ _=>True) λi j=>.int (i-j)) (aA 4))
 (aF 2 (aE zcd (aB (aA 2) (aB (aA 4) (aB (aA 3) aC))))))
def zbv:DFn:=fnD 5 2 (aD (aF 2 (eLst (aB (aR (aB (aR aC) (aB (aA 1) aC))) aC)))
 (aD (aF 3 (aE bSum (aB (aA 0) aC)))
 (aD (sFor (aH (aA 0)) (gN 4) zct)
 (sRet (aG (aH (aA 2)) 2 [] (gT 2 (gsCons (gN 0) (gsCons (gN 1) gsNil))) aI (aA 0))))))
def zki:SS:=(sDrop (aE zfy (aB (aA 2) (aB (aA 4) aC))))
def zkh:SS:=(sIf (eB (aS oLe (aA 1) (aE bSum (aB (aA 3) aC)))) (sFor (aH (aE zbv (aB (aA 3) (aB (aA 1) aC)))) (gN 4) zki) sNx)
def zgs:DFn:=fnD 5 2 (aD (sIf (bOr (bNot (eTru (aE zx (aB (aA 1) aC)))) (eB (aS oLtT (aA 1) (eC (.int 0))))) sStuck sNx)
 (aD (aF 2 eDNew)
 (aD (sFor (aH (aA 0)) (gN 3) zkh)
 (sRet (aE bTuple (aB (aE bSorted (aB (aA 2) aC)) aC))))))
def zhe:SS:=(sDrop (aE zfy (aB (aA 1) (aB (aA 2) aC))))
def zfu:DFn:=fnD 3 1 (aD (aF 1 eDNew)
 (aD (sFor (aH (aA 0)) (gN 2) zhe)
 (sRet (aE bTuple (aB (aE bSorted (aB (aA 1) aC)) aC)))))
def zno:DFn:=fnD 2 2 (sRet (aE zfu (aB (aS aM (aA 0) (aA 1)) aC)))
def zfb:SS:=(sDrop (eExtend (aA 6) (aB (aG (iR1 (aB (aS aM (aE bMin2 (aB (aA 5) (aB (aA 8) aC))) (eC (.int 1))) aC)) 1 [7,8,5] (gN 0) (eB (aS oEq (aS oAndI (aA 3) (aA 0)) (aA 0))) (aR (aB (aS aM (aA 1) (aR (aB (aS aM (aA 3) (aA 0)) aC))) (aB (aS oSub (aA 2) (aA 0)) aC)))) aC)))
def zcx:SS:=(aD (aF 6 (eLstM aC))
 (aD (sFor (aH (aA 4)) (gT 2 (gsCons (gN 7) (gsCons (gN 8) gsNil))) zfb)
 (aF 4 (eFz (aA 6)))))
def zfa:SS:=(aD (aF 4 (eLst (aB (aR (aB (aR aC) (aB (aA 1) aC))) aC)))
 (aD (sFor (aH (aA 3)) (gN 5) zcx)
 (sDrop (eExtend (aA 2) (aB (aG (aH (aA 4)) 2 [] (gT 2 (gsCons (gN 0) (gsCons (gN 1) gsNil))) (eB (aS oEq (aA 1) (eC (.int 0)))) (aA 0)) aC)))))
def zcn:DFn:=fnD 9 2 (aD (aF 2 (eLstM aC))
 (aD (sFor (aH (aA 0)) (gN 3) zfa)
 (sRet (aE zbd (aB (eFz (aA 2)) aC)))))
def zrw:DFn->SS:=λa=>(aD (aF 4 (aE zgs (aB (aA 1) (aB (aA 3) aC))))
 (sIf (eTru (aA 4)) (aD (aF 5 (aG (aH (aA 0)) 1 [3] (gN 0) (bAnd (eTru (aA 0)) (eB (aS oEq (aS oIx (aA 0) (eUn oNeg (eC (.int 1)))) (aA 1)))) (eSl (aA 0) pNone (pSome (eUn oNeg (eC (.int 1)))))))
 (aF 2 (aE zno (aB (aA 2) (aB (aE a (aB (aA 5) (aB (aA 4) aC))) aC))))) sNx))
def zjj:DFn->DFn:=λa=>fnD 6 2 (aD (aF 2 (eIf (eB (aS (oInG false) (aR aC) (aA 0))) (aA 1) (aR aC)))
 (aD (sFor (aH (aE bSortSet (aB (aG (aH (aA 0)) 1 [] (gN 0) (eTru (aA 0)) (aS oIx (aA 0) (eUn oNeg (eC (.int 1))))) aC))) (gN 3) (zrw a))
 (sRet (aA 2))))
def zhd:SS:=(sDrop (aE zcv (aB (aA 2) (aB (aA 3) (aB (aA 4) aC)))))
def zhq:DFn:=fnD 5 2 (aD (aF 2 (aE zeu (aB (aA 0) aC)))
 (aD (sFor (aH (aA 1)) (gT 2 (gsCons (gN 3) (gsCons (gN 4) gsNil))) zhd)
 (sRet (aE bTuple (aB (aE bSorted (aB (aA 2) aC)) aC)))))
def zcp:DFn:=fnD 2 2 (sDrop (aE zfy (aB (eSetDI (aA 0) (aB (aE zgt (aB (aA 1) aC)) (aB eDNew aC))) (aB (aA 1) aC))))
def zlx:SS:=(sDrop (aE zcp (aB (aA 1) (aB (aA 2) aC))))
def zpl:SS:=(sDrop (aE zcp (aB (aA 1) (aB (aA 6) aC))))
def zpk:SS:=(aD (aF 5 (aE zlz (aB (aA 2) aC)))
 (sIf (eTru (aA 5)) (aD (sDrop (eAppend (aA 3) (aB (aR (aB (aA 2) (aB (aS oIx (aA 5) (eC (.int 0))) aC))) aC)))
 (sFor (aH (aE zbb (aB (aA 2) (aB (aS oIx (aA 5) (eC (.int 0))) aC)))) (gN 6) zpl)) sNx))
def zpj:SS:=(aD (aF 4 (ePopI (aA 1) (aB (aE bMaxI (aB (aA 1) aC)) aC)))
 (sFor (aH (aE bSorted (aB (aA 4) aC))) (gN 2) zpk))
def zbrl:DFn:=fnD 7 1 (aD (aF 1 eDNewI)
 (aD (sFor (aH (aA 0)) (gN 2) zlx)
 (aD (aF 3 (eLstM aC))
 (aD (sWhile (bTruI (aA 1)) zpj)
 (sRet (eFz (aA 3)))))))
def zet:DFn:=fnD 1 1 (sRet (aE zhq (aB (aA 0) (aB (aE zbrl (aB (aA 0) aC)) aC))))
def zek:SS:=(aF 4 (aE zcn (aB (aA 4) (aB (aA 5) aC))))
def zhf:SS:=(aD (aF 4 (aA 1))
 (aD (sFor (aH (eBack (aA 3) (eUn oNeg (eC (.int 1))))) (gN 5) zek)
 (sDrop (eExtend (aA 2) (aB (aE bList (aB (aA 4) aC)) aC)))))
def zbp:DFn:=fnD 6 2 (aD (aF 2 (eLstM aC))
 (aD (sFor (aH (aA 0)) (gN 3) zhf)
 (sRet (aE zbd (aB (eFz (aA 2)) aC)))))
end Dd
namespace L2
namespace St
end St
namespace St
end St
end L2
namespace L2
open PySem.W PyProof.Rows Spec
namespace St
section
variable (P:Program)(w:World)
end
end St
namespace St
end St
namespace St
end St
end L2
namespace L2
open Spec PyProof.Rows PySem.W
end L2
namespace Dd
open L2 PyProof.Rows
end Dd
namespace L2
open Spec PyProof.Rows PySem.W
end L2
namespace Dd
open L2 PyProof.Rows
end Dd
namespace Dd
open L2
def zfx:SS:=(aD (aF 3 (aR (aB (aS aM (aS oMulT (aR (aB (eC (.int 1)) aC)) (aA 2)) (aS oMulT (aR (aB (eC (.int 0)) aC)) (aS oSub (eC (.int 5)) (aA 2)))) aC)))
 (sIf (eB (aS oNe (aE zbp (aB (aA 0) (aB (aA 3) aC))) (aE zbp (aB (aA 1) (aB (aA 3) aC))))) (sRet (eC (.bl true))) sNx))
def zev:DFn:=fnD 4 2 (aD (sFor (iR1 (aB (eC (.int 6)) aC)) (gN 2) zfx)
 (sRet (eC (.bl false))))
def zye:SS:=(aD (aF 2 (aE zfw (aB (aA 0) (aB (aA 1) aC))))
 (aD (aF 3 (aS aM (eC (.int 1)) (aE zh (aB (aA 2) (aB (eC (.int 6)) aC)))))
 (aD (aF 4 (aS aM (eC (.int 1)) (aE zh (aB (aA 2) (aB (aE bMin2 (aB (aS oSub (aS oMulI (eC (.int 2)) (aA 3)) (eC (.int 1))) (aB (eC (.int 8)) aC))) aC)))))
 (aD (aF 5 (aS aM (eC (.int 1)) (aE zh (aB (aA 2) (aB (eC (.int 4)) aC)))))
 (aD (aF 6 (aE zhr (aB (aA 2) (aB (aA 5) (aB (aS oIx (eLst (aB (eC (.int 4)) (aB (eC (.int 4)) (aB (eC (.int 4)) (aB (eC (.int 2)) aC))))) (aS oSub (aA 5) (eC (.int 1)))) (aB (aS oIx (eLst (aB (eC (.int 12)) (aB (eC (.int 12)) (aB (eC (.int 12)) (aB (eC (.int 6)) aC))))) (aS oSub (aA 5) (eC (.int 1)))) aC))))))
 (aD (sIf (eB (aS oNe (aE zbp (aB (aR (aB (aR (aB (aA 4) (aB (aA 3) aC))) aC)) (aB (aA 6) aC))) (aE zbp (aB (aE zbce (aB (aA 4) (aB (aA 3) aC))) (aB (aA 6) aC))))) (sRet (eC (.bl false))) sNx)
 (aD (aF 7 (aE zcm (aB (aA 2) (aB (eC (.int 4)) (aB (aS oIx (eLst (aB (eC (.int 9)) (aB (eC (.int 9)) (aB (eC (.int 9)) (aB (eC (.int 8)) aC))))) (aS oSub (aA 5) (eC (.int 1)))) (aB (eC (.int 6)) aC))))))
 (aD (aF 8 (aE zbp (aB (aA 7) (aB (aA 6) aC))))
 (aD (aF 9 (aE zet (aB (aA 7) aC)))
 (aD (sIf (bOr (eB (aS oNe (aE zbp (aB (aA 9) (aB (aA 6) aC))) (aA 8))) (bOr (eB (aS oNe (aE (iterF zjj 8) (aB (aA 9) (aB (aA 6) aC))) (aA 8))) (eB (aS oNe (aE (iterF zjj 8) (aB (aA 7) (aB (aA 6) aC))) (aA 8))))) (sRet (eC (.bl false))) sNx)
 (aD (aF 10 (aE zcm (aB (aA 2) (aB (eC (.int 3)) (aB (eC (.int 5)) (aB (eC (.int 5)) aC))))))
 (aD (aF 11 (aE zcm (aB (aA 2) (aB (eC (.int 3)) (aB (eC (.int 5)) (aB (eC (.int 5)) aC))))))
 (sIf (eB (aS oNe (aS oNe (aE zet (aB (aA 10) aC)) (aE zet (aB (aA 11) aC))) (aE zev (aB (aA 10) (aB (aA 11) aC))))) (sRet (eC (.bl false))) sNx)))))))))))))
def zbwm:DFn:=fnD 12 1 (aD (sFor (iR1 (aB (aS aM (aE bMax2 (aB (eC (.int 1)) (aB (aE bMin2 (aB (aE bLen (aB (aA 0) aC)) (aB (eC (.int 3)) aC))) aC))) (eC (.int 1))) aC)) (gN 1) zye)
 (sRet (eC (.bl true))))
noncomputable def RngOk(j:Int):Prop:=-(2^62)<=j/\j<2^62
instance (j:Int):Decidable (RngOk j):=by unfold RngOk;infer_instance
theorem rngOk(a:-1000000000000<=j)(b:j<=1000000000000):RngOk j:=⟨by lia,by lia⟩
@[simp] theorem eC_v:eC d σ au=.ok d au:=rfl
@[simp] theorem zbos:aA i σ au=(match σ[i]? with
 |some (some d)=>.ok d au
 |_=>.stuck):=rfl
@[simp] theorem zbym:aS g f f' σ au=(f σ au).bind λx a=>(f' σ a).bind λy st2=>g x y st2:=rfl
@[simp] theorem zbzk:eUn g f σ au=(f σ au).bind λx st1=>g x st1:=rfl
@[simp] theorem zdt:aE g f σ au=(f σ au).bind λa st1=>g a st1:=rfl
@[simp] theorem zbqu:aC σ au=.ok [] au:=rfl
@[simp] theorem zhc:aB f g σ au=(f σ au).bind λx a=>(g σ a).bind λb st2=>.ok (x::b) st2:=rfl
@[simp] theorem eB_v:eB f σ au=(f σ au).bind λv a=>(match v with
 |.bl b=>.ok b a
 |_=>.stuck):=rfl
@[simp] theorem zwr:eTru f σ au=(f σ au).bind λv a=>(match tru a v with
 |some b=>.ok b a
 |none=>.stuck):=rfl
@[simp] theorem zbih:eAnd f f' σ au=(f σ au).bind λv a=>(match v with
 |.bl true=>f' σ a
 |.bl false=>.ok (.bl false) a
 |_=>.stuck):=rfl
@[simp] theorem zbyl:eOr f f' σ au=(f σ au).bind λv a=>(match v with
 |.bl true=>.ok (.bl true) a
 |.bl false=>f' σ a
 |_=>.stuck):=rfl
@[simp] theorem zbot:eNot f σ au=(f σ au).bind λv a=>(match v with
 |.bl b=>.ok (.bl (!b)) a
 |_=>.stuck):=rfl
@[simp] theorem zbwh:bAnd f f' σ au=(f σ au).bind λb st1=>if b=true then f' σ st1 else .ok false st1:=rfl
@[simp] theorem zbzf:bOr f f' σ au=(f σ au).bind λb st1=>if b=true then .ok true st1 else f' σ st1:=rfl
@[simp] theorem zbqn:bNot f σ au=(f σ au).bind λb st1=>.ok (!b) st1:=rfl
@[simp] theorem zbze:aI σ au=.ok true au:=rfl
@[simp] theorem zbyn:eIf c f f' σ au=(c σ au).bind λb st1=>if b=true then f σ st1 else f' σ st1:=rfl
@[simp] theorem zbun:aR g σ au=(g σ au).bind λb a=>if b.length<=sizeLine then .ok (.tup b) a else .stuck:=rfl
@[simp] theorem zbuo:eLst g σ au=(g σ au).bind λb a=>if b.length<=sizeLine then .ok (.lst b) a else .stuck:=rfl
@[simp] theorem zbou:eLstM g σ au=(g σ au).bind λb a=>if b.length<=sizeLine then .ok (.ref a.length) (a++[.lst b]) else .stuck:=rfl
@[simp] theorem zbup:eChain g g' f f' f'' σ au=(f σ au).bind λx d=>(f' σ d).bind λy b=>(g x y b).bind λz a=>(match z with
 |.bl true=>(f'' σ a).bind λw c=>g' y w c
 |.bl false=>.ok (.bl false) a
 |_=>.stuck):=rfl
@[simp] theorem zbxc:eDNew σ au=.ok (.ref au.length) (au++[.dT []]):=rfl
@[simp] theorem zbzj:sNx σ au=.ok (.nx σ) au:=rfl
@[simp] theorem zbxq:sBrk σ au=.ok (.brk σ) au:=rfl
@[simp] theorem zoa:sRet f σ au=(f σ au).bind λv st1=>.ok (.ret v) st1:=rfl
@[simp] theorem zbwr:sRetN σ au=.ok (.ret .non) au:=rfl
@[simp] theorem zuj:sDrop f σ au=(f σ au).bind λ_ st1=>.ok (.nx σ) st1:=rfl
@[simp] theorem zbxp:aF i f σ au=(f σ au).bind λv st1=>.ok (.nx (σ.set i (some v))) st1:=rfl
@[simp] theorem zbse:aD s t σ au=(match s σ au with
 |.ok (.nx σ1) st1=>t σ1 st1
 |r=>r):=rfl
@[simp] theorem zblk:sIf c s t σ au=(c σ au).bind λb st1=>if b=true then s σ st1 else t σ st1:=rfl
@[simp] theorem zbsg:sAug i g f σ au=(match σ[i]? with
 |some (some x)=>(f σ au).bind λy b=>(g x y b).bind λz a=>.ok (.nx (σ.set i (some z))) a
 |_=>.stuck):=rfl
@[simp] theorem zbfj:sFor it bd body σ au=(it σ au).bind λa st1=>forF bd body a σ st1:=rfl
@[simp] theorem zboo:aH f σ au=(f σ au).bind λx a=>(match seqV x with
 |some xs=>.ok xs a
 |none=>.stuck):=rfl
@[simp] theorem zbyi:iR1 g σ au=(g σ au).bind λb a=>(match b with
 |[.int j]=>if RngOk j then .ok (rng 0 j.toNat) a else .stuck
 |_=>.stuck):=rfl
@[simp] theorem zbyh: iR2 g σ au=(g σ au).bind λb a=>(match b with
  |[.int i,.int j]=>if RngOk i/\RngOk j then .ok (rng i (j-i).toNat) a else .stuck
  |_=>.stuck):=by
  show(g σ au).bind _=_
  congr 1
  funext b a
  split
  · unfold RngOk
    simp only[and_assoc]
  · rename_i h
    first
      |rfl
      | (split
         · rename_i i j
           exact absurd rfl (h i j)
         · rfl)
@[simp] theorem zbwz:iDict f σ au=(f σ au).bind λx a=>(match x with
 |.ref n=>(match a[n]? with
  |some (.dT kvs)=>.ok (aJ (kvs.map (·.1))) (a.set n (.fT kvs))
  |_=>.stuck)
 |_=>.stuck):=rfl
@[simp] theorem zis:aG it k is bd c f σ au=(it σ au).bind λd b=>if d.length<=sizeLine then(compF bd c f d (aT k is σ) b).bind λe a=>.ok (.lst e) a else .stuck:=rfl
@[simp] theorem zbyo:eFz f σ au=(f σ au).bind λx a=>(match x with
 |.ref n=>(match a[n]? with
  |some (.lst xs)=>.ok (.lst xs) (a.set n .dead)
  |_=>.stuck)
 |_=>.stuck):=rfl
@[simp] theorem zbww:pNone σ au=.ok none au:=rfl
@[simp] theorem zbmr:pSome f σ au=(f σ au).bind λv a=>(match v with
 |.int i=>.ok (some i) a
 |_=>.stuck):=rfl
@[simp] theorem zbyk {lo:DS->Store->Res (Option Int)}:eSl f lo hi σ au=(f σ au).bind λx c=>(lo σ c).bind λl b=>(hi σ b).bind λh a=>(match x with
 |.tup xs=>.ok (.tup (cutD xs l h)) a
 |x=>match asL a x with
  |some xs=>.ok (.lst (cutD xs l h)) a
  |none=>.stuck):=rfl
@[simp] theorem zrd:eAppend f g σ au=(f σ au).bind λx b=>(match x,asL b x with
 |.ref n,some _=>(g σ b).bind λc a=>(match c,a[n]? with
  |[y],some (.lst xs)=>if xs.length<sizeLine then .ok .non (a.set n (.lst (xs++[y]))) else .stuck
  |_,_=>.stuck)
 |_,_=>.stuck):=rfl
@[simp] theorem zbbc:eExtend f g σ au=(f σ au).bind λx b=>(match x,asL b x with
 |.ref n,some _=>(g σ b).bind λc a=>(match c,a[n]? with
  |[y],some (.lst xs)=>(match asL a y with
   |some zs=>if xs.length+zs.length<=sizeLine then .ok .non (a.set n (.lst (xs++zs))) else .stuck
   |none=>.stuck)
  |_,_=>.stuck)
 |_,_=>.stuck):=rfl
@[simp] theorem zbfi:sSetIx f g h σ au=(h σ au).bind λv c=>(f σ c).bind λx b=>(g σ b).bind λy a=>(match x,y with
 |.ref n,.int k=>(match a[n]? with
  |some (.lst xs)=>(match ixN xs.length k with
   |some j=>.ok (.nx σ) (a.set n (.lst (xs.set j v)))
   |none=>.stuck)
  |_=>.stuck)
 |_,_=>.stuck):=rfl
@[simp] theorem zbig:eDGet2 f g h σ au=(f σ au).bind λx a=>(match pairsOf a x with
 |some _=>(g σ a).bind λy c=>(h σ c).bind λz b=>(match pairsOf b x,keyOf y with
  |some kvs,some k=>.ok ((valD kvs k).getD z) b
  |_,_=>.stuck)
 |none=>.stuck):=rfl
@[simp] theorem zbxb:eDPop f g σ au=(f σ au).bind λx b=>(match pairsOf b x with
 |some _=>(g σ b).bind λy a=>(match x,keyOf y with
  |.ref n,some k=>(match a[n]? with
   |some (.dT kvs)=>(match valD kvs k with
    |some v=>.ok v (a.set n (.dT (dropD kvs k)))
    |none=>.stuck)
   |_=>.stuck)
  |_,_=>.stuck)
 |none=>.stuck):=rfl
@[simp] theorem zbcs:sDPut f g h σ au=(h σ au).bind λv c=>(f σ c).bind λx b=>(g σ b).bind λy a=>(match x,keyOf y with
 |.ref n,some k=>(match a[n]? with
  |some (.dT kvs)=>if kvs.length<sizeLine then .ok (.nx σ) (a.set n (.dT (putD kvs k v))) else .stuck
  |_=>.stuck)
 |_,_=>.stuck):=rfl
theorem zbxa:fnD n np b ds au=if ds.length=np then(match b (ds.map some++List.replicate (n-np) none) au with
 |.ok (.ret v) st'=>.ok v st'
 |.ok (.nx _) st'=>.ok .non st'
 |.exc x st'=>.exc x st'
 |_=>.stuck) else .stuck:=rfl
@[simp] theorem oI_v [DecidableRel C]:oI C h (.int i) (.int j) au=if C i j then .ok (h i j) au else .stuck:=rfl
@[simp] theorem zbyg:aM (.int i) (.int j) au=.ok (.int (i+j)) au:=rfl
@[simp] theorem zbnd:aM (.tup a) (.tup b) au=if a.length+b.length<=sizeLine then .ok (.tup (a++b)) au else .stuck:=rfl
@[simp] theorem zbyc:oLtT (.int i) (.int j) au=.ok (.bl (decide (i<j))) au:=rfl
@[simp] theorem zbya:oNeg (.int i) au=.ok (.int (-i)) au:=rfl
@[simp] theorem zdf (ns:List Int):asInts (ns.map .int)=some ns:=by
 induction ns with
 |nil=>rfl
 |cons n ns ih=>rw[xbq,asInts,ih];rfl
@[simp] theorem zbqq (l:List (List Int)):asRows (aJ l)=some l:=by
 induction l with
 |nil=>rfl
 |cons n ns ih=>
  unfold aJ at ih ⊢;rw[xbq,asRows,zdf,ih];rfl
@[simp] theorem zen (ns:List Int):keyOf (aL ns)=some ns:=zdf ns
theorem zlr:dataOf au (.int i)=some (.int i):=rfl
@[simp] theorem zbyf:oEq (.int i) (.int j) au=.ok (.bl (decide (i=j))) au:=by
 show oEqG false (.int i) (.int j) au=_;unfold oEqG;rw[zlr,zlr];dsimp only;rw[if_pos ⟨rfl,rfl⟩];show Res.ok (D.bl (i==j)) au=_;rw[show(i==j)=decide (i=j) from by rw[xfr];simp]
@[simp] theorem zbyb:oNe (.int i) (.int j) au=.ok (.bl (!decide (i=j))) au:=by
 show oEqG true (.int i) (.int j) au=_;unfold oEqG;rw[zlr,zlr];dsimp only;rw[if_pos ⟨rfl,rfl⟩];show Res.ok (D.bl (!(i==j))) au=_;rw[show(i==j)=decide (i=j) from by rw[xfr];simp]
theorem zrj(a:List Int):toDatas (a.map .int)=some (dI a):=by
 induction a with
 |nil=>rfl
 |cons n a ih=>rw[xbq,toDatas,ih];rfl
theorem zri(l:List (List Int)):toDatas (aJ l)=some (l.map dRow):=by
 induction l with
 |nil=>rfl
 |cons n ns ih=>
  unfold aJ at ih ⊢;rw[xbq,toDatas,ih,toData,zrj];rfl
abbrev aK(l:List (List Int)):D:=.tup (aJ l)
theorem zoy(l:List (List Int)):dataOf au (aK l)=some (.tuple (l.map dRow)):=by
 show(toDatas (aJ l)).map PyData.tuple=_;rw[zri];rfl
theorem zwx(l:List Int):dataOf au (aL l)=some (dRow l):=by
 show(toDatas (l.map .int)).map PyData.tuple=_;rw[zrj];rfl
theorem zvf(a b:List (List Int)):oEqG neg (aK a) (aK b) au=.ok (.bl (if neg then !decide (a=b) else decide (a=b))) au:=by
 unfold oEqG;rw[zoy,zoy];dsimp only;rw[if_pos ⟨zdo a,zdo b⟩];have e:PyData.eqv (.tuple (a.map dRow)) (.tuple (b.map dRow))=decide (a=b):=zrm a b;rw[e]
theorem small(n:Nat)(h:n<=1000000):n<=sizeLine:=by rw[xha];lia
theorem smallT(n:Nat)(h:n<=1000000):n<sizeLine:=by rw[xha];lia
theorem zbdx(I:Nat->DS->Store->Prop):∀(d:List D) (k:Nat) (σ:DS) (a:Store),I k σ a ->
  (∀i x σ a,d[i]?=some x->I (k+i) σ a->∃g f c,bd x σ=some g/\body g a=.ok (.nx f) c/\I (k+i+1) f c)->∃e b,forF bd body d σ a=.ok (.nx e) b/\I (k+d.length) e b
 |[],k,σ,a,h,_=>⟨σ,a,rfl,h⟩
 |x::d,k,σ,a,h,s=>by
  obtain⟨g,f,c,j,m,l⟩:=s 0 x σ a rfl h;obtain⟨e,b,o,q⟩:=zbdx I d (k+1) f c l λi y σ a p n=>by
   have:=s (i+1) y σ a (by simpa using p) (by rw[show k+(i+1)=k+1+i by lia];exact n);rw[show k+(i+1)+1=k+1+i+1 by lia] at this;exact this
  refine⟨e,b,?_,by rw[xbw,show k+(d.length+1)=k+1+d.length by lia];exact q⟩;unfold forF;rw[j];dsimp only;rw[m];exact o
theorem zsy(I:Nat->DS->Store->Prop) (g:I 0 σ au)
  (s:∀i x σ au,xs[i]?=some x->I i σ au->∃b e a,bd x σ=some b/\body b au=.ok (.nx e) a/\I (i+1) e a):∃d st',forF bd body xs σ au=.ok (.nx d) st'/\I xs.length d st':=by
 have:=zbdx I xs 0 σ au g λi x σ au f c=>by
  rw[xel] at c ⊢;exact s i x σ au f c
 rw[xel] at this;exact this
theorem zzg{lo:Int}(h:(rng lo n)[i]?=some x):i<n/\x=.int (lo+i):=zml h
theorem zbh(lo:Int)(n:Nat):(rng lo n).length=n:=by simp[rng]
theorem zoz(I:Nat->List D->DS->Store->Prop):∀(l:List D) (k:Nat) (acc:List D) (σ:DS) (g:Store),I k acc σ g ->
  (∀i x acc σ g,l[i]?=some x->I (k+i) acc σ g->∃e b a,bd x σ=some e/\c e g=.ok b a/\((b=false/\I (k+i+1) acc e a)\/(b=true/\∃y d,f e a=.ok y d/\I (k+i+1) (acc++[y]) e d))) ->
  ∃m o j,compF bd c f l σ g=.ok m j/\I (k+l.length) (acc++m) o j
 |[],k,acc,σ,g,h,_=>⟨[],σ,g,rfl,by rw[xec];exact h⟩
 |x::l,k,acc,σ,g,h,s=>by
  have u:∀i y acc σ g,l[i]?=some y->I (k+1+i) acc σ g->∃e b a,bd y σ=some e/\c e g=.ok b a/\((b=false/\I (k+1+i+1) acc e a)\/(b=true/\∃z d,f e a=.ok z d/\I (k+1+i+1) (acc++[z]) e d)):=λi y acc σ g A v=>by
   have:=s (i+1) y acc σ g (by simpa using A) (by rw[show k+(i+1)=k+1+i by lia];exact v);rw[show k+(i+1)+1=k+1+i+1 by lia] at this;exact this
  obtain⟨e,b,a,r,t,n⟩:=s 0 x acc σ g rfl h;rcases n with⟨rfl,n⟩|⟨rfl,y,d,w,n⟩
  ·obtain⟨m,o,j,q,p⟩:=zoz I l (k+1) acc e a n u;refine⟨m,o,j,?_,by rw[xbw,show k+(l.length+1)=k+1+l.length by lia];exact p⟩;unfold compF;rw[r];dsimp only;rw[t];exact q
  ·obtain⟨m,o,j,q,p⟩:=zoz I l (k+1) (acc++[y]) e d n u;refine⟨y::m,o,j,?_,by rw[xbw,show k+(l.length+1)=k+1+l.length by lia];rw[xcc] at p;exact p⟩;unfold compF;rw[r];dsimp only;rw[t];dsimp only[zw];rw[if_pos rfl,w];dsimp only[zw];rw[q]
   rfl
theorem zkf(I:Nat->List D->DS->Store->Prop) (k:I 0 [] σ au)
  (s:∀i x acc σ au,xs[i]?=some x->I i acc σ au->∃d b a,bd x σ=some d/\c d au=.ok b a/\((b=false/\I (i+1) acc d a)\/(b=true/\∃y e,f d a=.ok y e/\I (i+1) (acc++[y]) d e))):
  ∃h l st',compF bd c f xs σ au=.ok h st'/\I xs.length h l st':=by
 have:=zoz I xs 0 [] σ au k λi x acc σ au j g=>by
  rw[xel] at g ⊢;exact s i x acc σ au j g
 rw[xel] at this
 simpa using this
theorem zyl(I:Nat->DS->Store->Prop)(d:DS->Store->Prop) (o:I k σ au)(r:k<wCap)
  (s:∀j σ au,I j σ au->∃b a,c σ au=.ok b a/\((b=false/\d σ a)\/(b=true/\∃i l e,body σ a=.ok (.nx l) e/\I i l e/\i<j))):∃f st',sWhile c body σ au=.ok (.nx f) st'/\d f st':=by
 have g:∀n j σ au,I j σ au->j<n->∃f st',whileF c body n σ au=.ok (.nx f) st'/\d f st':=by
  intro n
  induction n with
  |zero=>intro j σ au _ h;lia
  |succ n ih=>
   intro j σ au v w;obtain⟨b,a,m,h⟩:=s j σ au v;unfold whileF;rw[m];dsimp only[zw];rcases h with⟨rfl,h⟩|⟨rfl,i,l,e,q,p,x⟩
   ·exact⟨σ,a,by rw[if_neg (by decide)],h⟩
   ·obtain⟨f,st',u,t⟩:=ih i l e p (by lia);refine⟨f,st',?_,t⟩;rw[if_pos rfl,q];exact u
 exact g wCap k σ au o r
@[simp] theorem zbqz:seqOf au (.tup xs)=some xs:=rfl
@[simp] theorem zbra:seqOf au (.scr xs)=some xs:=rfl
@[simp] theorem zbrb:seqOf au (.lst xs)=some xs:=rfl
@[simp] theorem zbsb:seqV (.tup xs)=some xs:=rfl
@[simp] theorem zbsd:seqV (.lst xs)=some xs:=rfl
@[simp] theorem zbsc:seqV (.scr xs)=some xs:=rfl
@[simp] theorem zbxf:asL au (.lst xs)=some xs:=rfl
theorem zfr(h:au[n]?=some (.lst xs)):asL au (.ref n)=some xs:=by
 unfold asL;dsimp only;rw[h]
theorem zhl(h:au[n]?=some (.lst xs)):seqOf au (.ref n)=some xs:=zfr h
theorem zkz(h:seqOf au x=some xs)(a:L2.atI xs i=some d):oIx x (.int i) au=.ok d au:=by
 unfold oIx;rw[h];dsimp only;rw[a]
@[simp] theorem zbwd:bLen [.tup xs] au=.ok (.int xs.length) au:=rfl
@[simp] theorem zbwf:bLen [.lst xs] au=.ok (.int xs.length) au:=rfl
@[simp] theorem zbwe:bLen [.scr xs] au=.ok (.int xs.length) au:=rfl
@[simp] theorem zbzg:bAbs [.int i] au=.ok (.int (if i<0 then -i else i)) au:=rfl
@[simp] theorem zbzl:b2I g [.int i,.int j] au=.ok (.int (g i j)) au:=rfl
@[simp] theorem zbwc:bSum [aL ns] au=.ok (.int ns.sum) au:=by
 unfold bSum;simp
@[simp] theorem zbqm:bTuple [.tup xs] au=.ok (.tup xs) au:=rfl
@[simp] theorem zxq:bTuple [.lst xs] au=.ok (.tup xs) au:=rfl
theorem zxp(h:au[n]?=some (.lst xs)):bTuple [.ref n] au=.ok (.tup xs) au:=by
 unfold bTuple;dsimp only;rw[zfr h]
theorem zpe{l:List (List Int)}(h:l.length<=1000000):bSorted [.lst (aJ l)] au=.ok (.lst (aJ (sortR l))) au:=by
 unfold bSorted;simp[h]
theorem zpf(h:au[n]?=some (.dT kvs))(a:kvs.length<=1000000):bSorted [.ref n] au=.ok (.lst (aJ (sortR (kvs.map (·.1))))) au:=by
 unfold bSorted asL pairsOf;simp[h,a]
theorem zbjt{j:Nat}(h:xs[j]?=some d):L2.atI xs (j:Int)=some d:=zxu h
theorem zds{a:Store}(h:n<a.length):(a.set n o)[n]?=some o:=xfh h
section
variable {au:Store}{n:Nat}
theorem zo{o:O}(h:au[n]?=some o):n<au.length:=(xbh.mp h).1
end
theorem zbfg{a:Store}:(a.set n o).set n p=a.set n p:=List.set_set _
section
variable {au:Store}{n:Nat}{i:Int}
theorem zbsa{o:O}(h:au[n]?=some o):au.set n o=au:=by
 apply xic;intro i;by_cases e:i=n
 ·subst e;rw[xfh (zo h),h]
 ·rw[xcb (xfj e)]
end
theorem zef{a:List D}(h:a.length=np)(e:b (a.map some++List.replicate (n-np) none) au=.ok (.ret v) st'):fnD n np b a au=.ok v st':=by
 rw[zbxa,if_pos h,e]
theorem zbul{a:List D}(h:a.length=np)(e:b (a.map some++List.replicate (n-np) none) au=.ok (.nx σ) st'):fnD n np b a au=.ok .non st':=by
 rw[zbxa,if_pos h,e]
noncomputable abbrev bagO(c x:Int):O:=.lst [.int c,.int x]
def BagAt(a:Store) (n:Nat):Prop:=∃c x:Int,a[n]?=some (bagO c x)/\0<=c/\0<=x
structure Drew (au st':Store) (n:Nat):Prop where
 len:au.length<=st'.length
 keep:∀ i,i<au.length->i≠n->st'[i]?=au[i]?
 bag:BagAt st' n
theorem Drew.trans(a:Drew au st1 n)(b:Drew st1 st2 n):Drew au st2 n:=
 ⟨xbb a.len b.len,λi c d=>(b.keep i (xbn c a.len) d).trans (a.keep i c d),b.bag⟩
theorem Drew.set{a:Store}{n:Nat}{c x:Int}(h:BagAt a n)(d:0<=c)(b:0<=x):Drew a (a.set n (bagO c x)) n:=by
 obtain⟨_,_,e,_⟩:=h;exact⟨by rw[xdn];exact xbj _,λi _ f=>xcb (xfj f),c,x,zds (zo e),d,b⟩
theorem Drew.more{a:Store}{n:Nat}(h:BagAt a n)(g:Store):Drew a (a++g) n:=by
 obtain⟨c,x,e,b,d⟩:=h;exact⟨by rw[xbl];lia,λi h _=>xcg h,c,x,by rw[xcg (zo e)];exact e,b,d⟩
theorem zmg{au:Store}{n:Nat}{m:Int}(p:BagAt au n)(h1:1<=m)(G:m<2^1000):
  ∃r f,zh [.ref n,.int m] au=.ok (.int r) f/\0<=r/\r<m/\Drew au f n/\f.length=au.length:=by
 obtain⟨c,x,i,A,u⟩:=id p;have q:∀{c x:Int}{au:Store},au[n]?=some (bagO c x)->oIx (.ref n) (.int 0) au=.ok (.int c) au:=λh=>zkz (zhl h) rfl
 have w:∀{c x:Int}{au:Store},au[n]?=some (bagO c x)->oIx (.ref n) (.int 1) au=.ok (.int x) au:=λh=>zkz (zhl h) rfl
 by_cases h0:0<c
 ·have d1:CDivP c m:=⟨by lia,G⟩
  have e0:ixN 2 0=some 0:=rfl;refine⟨c%m,au.set n (bagO (c/m) x),zef rfl ?_,xkm _ (by lia),Int.emod_lt_of_pos _ (by lia),Drew.set p (Int.ediv_nonneg A (by lia)) u,xdn⟩;simp[q i,h0,i,e0,show(0:Int)<m by lia,d1]
 ·have g:=zo i
  have W:=zyl (c:=eB (aS oLtT (aA 4) (aA 1))) (body:=aD (sSetIx (aA 0) (eC (.int 1)) (aS oMod (aS aM (aS oMulI (aS oIx (aA 0) (eC (.int 1))) (eC (.int 48271))) (eC (.int 7919))) (eC (.int 2147483647))))
   (aD (aF 3 (aS aM (aS oMulI (aA 3) (eC (.int 1073741789))) (aS oMod (aS oMulI (aS oFdiv (aS oIx (aA 0) (eC (.int 1))) (eC (.int 8))) (eC (.int 69621))) (eC (.int 1073741789)))))
   (aF 4 (aS oMulI (aA 4) (eC (.int 1073741789)))))) (k:=1000) (σ:=[some (.ref n),some (.int m),none,some (.int 0),some (.int 1)]) (au:=au)
   (λj σ s=>∃b a d rr:Int,σ=[some (.ref n),some (.int m),none,some (.int d),some (.int rr)]/\s=au.set n (bagO b a)/\0<=b/\0<=a/\0<=d/\j<=1000/\2^(1000-j)<=rr)
   (λσ s=>∃b a d:Int,(∃rr,σ=[some (.ref n),some (.int m),none,some (.int d),some (.int rr)])/\s=au.set n (bagO b a)/\0<=b/\0<=a/\0<=d)
   ⟨c,x,0,1,rfl,(zbsa i).symm,A,u,by lia,by lia,by decide⟩ (by decide) (by
    rintro j σ s ⟨b,a,d,rr,rfl,rfl,o,t,v,a4,P⟩;have C:(au.set n (bagO b a))[n]?=some (bagO b a):=zds g;by_cases hlt:rr<m
    ·have hj:1<=j:=by
      rcases xjc j with z|z
      ·subst z;have a0:(2:Int)^1000<=rr:=P;lia
      ·exact z
     have E:ixN 2 1=some 1:=rfl;have H:CMul a 48271:=.inr ⟨by decide,by decide⟩;have I:CMul d 1073741789:=.inr ⟨by decide,by decide⟩;have Q:CMul rr 1073741789:=.inr ⟨by decide,by decide⟩;have U:∀y:Int,(au.set n (bagO b y))[n]?=some (bagO b y):=λy=>zds g
     have S:∀y:Int,CMul y 69621:=λy=>.inr ⟨by decide,by decide⟩
     have J:∀y:Int,CDivP y 8:=λy=>⟨by decide,by decide +kernel⟩
     refine⟨true,au.set n (bagO b a),by simp[hlt],.inr ⟨rfl,j-1,_,au.set n (bagO b ((a*48271+7919)%2147483647)),?_,⟨b,(a*48271+7919)%2147483647,d*1073741789+(a*48271+7919)%2147483647/8*69621%1073741789,rr*1073741789,rfl,rfl,o,?_,?_,by lia,?_⟩,by lia⟩⟩
     ·simp[w C,C,E,H,I,Q,S,J,w (U _)]
     ·exact xkm _ (by lia)
     ·have o:0<=d*1073741789:=xoz v (by lia);have t:=xkm ((a*48271+7919)%2147483647/8*69621) (show(1073741789:Int)≠0 by lia);lia
     ·have e:(2:Int)^(1000-(j-1))=2^(1000-j)*2:=by
       rw[←Int.pow_succ];congr 1;lia
      rw[e];have hp:(0:Int)<=2^(1000-j):=Int.pow_nonneg (by decide);lia
    ·exact⟨false,_,by simp[hlt],.inl ⟨rfl,b,a,d,⟨rr,rfl⟩,rfl,o,t,v⟩⟩)
  obtain⟨σ',f,e,b,a,d,hσ,l,X,Y,k3⟩:=W;obtain⟨rr,rfl⟩:=hσ;subst l;refine⟨d%m,au.set n (bagO b a),zef rfl ?_,xkm _ (by lia),Int.emod_lt_of_pos _ (by lia),Drew.set p X Y,xdn⟩;simp[q i,h0,e,show(0:Int)<m by lia]
theorem znm{a:List Int}(h:j<a.length):L2.atI (a.map D.int) (j:Int)=some (.int a[j]):=zxu (by rw[xco,xbd h];rfl)
theorem zbwb{a:List Int}{i:Nat}(y:a.length<=63)(w:i<=100000):∃c x:Int,0<=c/\0<=x/\zfw [.scr (a.map .int),.int i] au=.ok (.ref au.length) (au++[bagO c x]):=by
 have d:∃c:Int,0<=c/\sIf (eB (aS oLtT (aA 1) (aE bLen (aB (aA 0) aC)))) (aF 2 (aE bAbs (aB (aS oIx (aA 0) (aA 1)) aC))) sNx [some (.scr (a.map .int)),some (.int i),some (.int 0),none,none] au
   = .ok (.nx [some (.scr (a.map .int)),some (.int i),some (.int c),none,none]) au:=by
  by_cases h:i<a.length
  ·have e:oIx (.scr (a.map .int)) (.int i) au=.ok (.int a[i]) au:=zkz rfl (znm h);refine⟨if a[i]<0 then -a[i] else a[i],by split<;>lia,?_⟩;simp[h,e]
  ·exact⟨0,by lia,by simp[h]⟩
 obtain⟨c,u,f⟩:=d;have m:(if(60:Int)<(a.length:Int) then(60:Int) else a.length).toNat<=a.length:=by split<;>lia
 have W:=zsy (bd:=gN 4) (body:=aF 3 (aS oMod (aS aM (aS aM (aS oMulI (aA 3) (eC (.int 48271))) (aS oMod (aS oIx (aA 0) (aA 4)) (eC (.int 2147483647)))) (aA 4)) (eC (.int 2147483629))))
  (xs:=rng 0 (if(60:Int)<(a.length:Int) then(60:Int) else a.length).toNat) (σ:=[some (.scr (a.map .int)),some (.int i),some (.int c),some (.int (7919*i+17)),none]) (au:=au)
  (λj σ s=>s=au/\∃(b:Int) (v:Option D),σ=[some (.scr (a.map .int)),some (.int i),some (.int c),some (.int b),v]/\0<=b) ⟨rfl,_,none,rfl,by lia⟩ (by
   rintro j x σ s r ⟨rfl,b,v,rfl,k⟩;obtain⟨A,rfl⟩:=zzg r;have g:j<a.length:=by lia
   have e:oIx (.scr (a.map .int)) (.int (0+j)) s=.ok (.int a[j]) s:=zkz rfl (by rw[xht];exact znm g);rw[xht] at e;have q:CMul b 48271:=.inr ⟨by decide,by decide⟩;refine⟨_,[some (.scr (a.map .int)),some (.int i),some (.int c),some (.int ((b*48271+a[j]%2147483647+j)%2147483629)),some (.int (0+j))],s,rfl,?_,rfl,_,_,rfl,xkm _ (by lia)⟩
   simp[e,q])
 obtain⟨z,t,e,rfl,b,v,rfl,k⟩:=W;have n:CMul 7919 (i:Int):=.inl ⟨by decide,by decide⟩;have p:CPow 10 18:=⟨by decide,by decide,by decide⟩
 have o:RngOk (if(60:Int)<(a.length:Int) then(60:Int) else a.length):=by
  split<;>exact rngOk (by lia) (by lia)
 by_cases hlt:c<1000000000000000000
 ·refine⟨0,b,by lia,k,zef rfl ?_⟩;have l:=small 2 (by lia);simp at f;simp[f,n,o,e,p,hlt,l]
 ·refine⟨c,b,u,k,zef rfl ?_⟩;have l:=small 2 (by lia);simp at f;simp[f,n,o,e,p,hlt,l]
theorem seqN(h:s σ au=.ok (.nx σ1) st1)(k:t σ1 st1=r):aD s t σ au=r:=by
 rw[zbse,h];exact k
noncomputable def aP(a:List (List Int)) (k:List Int):List (List Int):=if k∈a then a.filter (λx=>decide (x≠k)) else a++[k]
def aN(l:List (List Int)):List (List Int):=l.foldl aP []
theorem zbu:x∈aP ks k↔(x∈ks/\x≠k)\/(x=k/\k∉ks):=by
 unfold aP;split
 ·rename_i h;simp[xcj,h]
 ·rename_i h;simp only[xca,xbz];constructor
  ·rintro(z|rfl)
   ·exact .inl ⟨z,λe=>h (e ▸ z)⟩
   ·exact .inr ⟨rfl,h⟩
  ·rintro(⟨z,_⟩|⟨z,_⟩)
   ·exact .inl z
   ·exact .inr z
theorem zck{d:List (List Int)}(h:d.Nodup):(aP d k).Nodup:=by
 unfold aP;split
 ·exact h.filter _
 ·rename_i g;rw[xjk];exact⟨h,by simp,λa f b c=>by simp at c;subst c;exact λe=>g (e ▸ f)⟩
theorem zio(a:List (List Int))(k:List Int):(aP a k).length<=a.length+1:=by
 unfold aP;split
 ·exact xfw (xge _ _)
 ·simp
theorem zjq:∀(l b:List (List Int)),b.Nodup->(l.foldl aP b).Nodup/\(l.foldl aP b).length<=b.length+l.length/\∀x,x∈l.foldl aP b↔(l.count x+if x∈b then 1 else 0)%2=1
 |[],b,h=>⟨h,by simp,λx=>by by_cases e:x∈b<;>simp[e]⟩
 |a::l,b,h=>by
  obtain⟨f,g,d⟩:=zjq l (aP b a) (zck h);refine⟨f,?_,λx=>?_⟩
  ·have:=zio b a;rw[xgc,xbw];lia
  ·rw[xgc,d x,xhe];by_cases e:x=a
   ·subst e;by_cases k:x∈b
    ·have q:x∉aP b x:=by rw[zbu];simp[k]
     simp only[q,k,xfv,xeu,xhn]<;>lia
    ·have q:x∈aP b x:=by rw[zbu];simp[k]
     simp only[q,k,xfv,xeu,xhn]<;>lia
   ·have c:(a==x)=false:=by simpa using λz:a=x=>e z.symm
    by_cases k:x∈b
    ·have q:x∈aP b a:=by rw[zbu];simp[k,e]
     simp[q,k,c]
    ·have q:x∉aP b a:=by rw[zbu];simp[k,e]
     simp[q,k,c]
theorem zeb(l:List (List Int)):(aN l).Nodup:=(zjq l [] xgm).1
theorem zgh(l:List (List Int)):(aN l).length<=l.length:=by have:=(zjq l [] xgm).2.1;simpa [aN] using this
theorem zgg:x∈aN l↔l.count x%2=1:=by have:=(zjq l [] xgm).2.2 x;simpa [aN] using this
theorem zgd{a b:List (List Int)}(c:a.Nodup)(d:b.Nodup)(h:∀x,x∈a↔x∈b):a.Perm b:=(xnm c d).mpr h
theorem zjm{a:List (List Int)}(h:a.Perm b):sortR a=sortR b:=zkp ((zl a).trans h) (zhz a)
def aO(l:List (List Int)):List (List Int):=sortR (aN l)
theorem zvd{l m:List (List Int)}(a:m.Nodup)(h:∀x,x∈m↔l.count x%2=1):sortR m=aO l:=zjm (zgd a (zeb l) λx=>by rw[h,zgg])
theorem zbgv:x∈aO l↔l.count x%2=1:=by unfold aO;rw[(zl _).mem_iff,zgg]
theorem zgf(h:x∈aO l):x∈l:=by
 rw[zbgv] at h;rcases xjc (l.count x) with z|z
 ·rw[z] at h;cases h
 ·exact xhu.mp z
theorem zjr(l:List (List Int)):(aO l).length<=l.length:=by unfold aO;rw[zdk];exact zgh l
theorem zcz(l:List (List Int)):(aO l).Nodup:=(zl _).nodup_iff.mpr (zeb l)
noncomputable abbrev aQ(a:List (List Int)):List (List Int×D):=a.map λk=>(k,.bl true)
theorem zkl:valD (aQ ks) k=if k∈ks then some (.bl true) else none:=by
 induction ks with
 |nil=>rfl
 |cons a ks ih=>
  unfold valD aQ at ih ⊢;rw[xbq,xfd];by_cases e:a=k
  ·simp[e]
  ·simp only[xbv e];rw[ih];simp[xbm,show ¬ k=a from λz=>e z.symm]
theorem zws:dropD (aQ ks) k=aQ (ks.filter λx=>decide (x≠k)):=by
 unfold dropD aQ;rw[xjd]
 rfl
theorem zqd(h:k∉ks):putD (aQ ks) k (.bl true)=aQ (ks++[k]):=by
 unfold putD;rw[if_neg]
 ·simp[aQ]
 ·simp only[List.any_map,xin,not_exists,not_and];intro x a e;have:x=k:=by simpa using e
  exact h (this ▸ a)
theorem zku(h:au[n]?=some (.dT kvs)):pairsOf au (.ref n)=some kvs:=by
 unfold pairsOf;dsimp only;rw[h]
theorem zbgk(h:au[n]?=some (.fT kvs)):pairsOf au (.ref n)=some kvs:=by
 unfold pairsOf;dsimp only;rw[h]
theorem zbcz(h:pairsOf au (.ref n)=some kvs):oDIn false (aL k) (.ref n) au=.ok (.bl (valD kvs k).isSome) au:=by
 unfold oDIn;rw[zen,h]
 rfl
theorem zbgw(h:pairsOf au (.ref n)=some kvs)(a:valD kvs k=some v):oDGet (.ref n) (aL k) au=.ok v au:=by
 unfold oDGet;rw[zen,h];dsimp only;rw[a]
theorem zna(h:au[n]?=some (.dT (aQ ks)))(g:ks.length<=1000000):zfy [.ref n,aL k] au=.ok .non (au.set n (.dT (aQ (aP ks k)))):=by
 have a:=zbcz (k:=k) (zku h);rw[zkl] at a;by_cases hk:k∈ks
 ·refine zbul (σ:=[some (.ref n),some (aL k)]) rfl ?_;rw[if_pos hk] at a;have f:valD (aQ ks) k=some (.bl true):=by rw[zkl,if_pos hk]
  have c:aP ks k=ks.filter λx=>decide (x≠k):=by unfold aP;rw[if_pos hk]
  rw[c,←zws];have e:=zku h;have d:=zen k;simp only[aL,aQ] at *
  simp[a,e,d,h,f]
 ·refine zbul (σ:=[some (.ref n),some (aL k)]) rfl ?_;rw[if_neg hk] at a;have c:aP ks k=ks++[k]:=by unfold aP;rw[if_neg hk]
  rw[c,←zqd hk];have d:=zen k;have b:(aQ ks).length<sizeLine:=by rw[xbc];exact smallT _ g
  simp only[aL,aQ] at *
  simp[a,d,h,b];rw[xbc] at b;exact b
theorem zbj{l:List (List Int)}{i:Nat}(h:(aJ l)[i]?=some x):∃k,l[i]?=some k/\x=aL k:=by
 unfold aJ at h;rw[xco] at h;cases e:l[i]? with
 |none=>rw[e] at h;cases h
 |some k=>rw[e] at h;exact⟨k,rfl,(xde h).symm⟩
theorem zd(l:List (List Int)):(aJ l).length=l.length:=xbc _
theorem zf{α:Type}{l:List α}{i:Nat}{k:α}(h:l[i]?=some k):l.take (i+1)=l.take i++[k]:=by
 obtain⟨a,e⟩:=xbh.mp h;rw[xik a,e]
theorem zbvp(a:List D)(k:Nat):cutD a none (some (k:Int))=a.take k:=by
 unfold cutD;rw[HT.zui,HT.zbcr,xox,xoh];rcases Nat.le_total k a.length with h|h
 ·rw[xen h]
 ·rw[xjx h,xce,xdu h]
theorem zbjj(a:List D)(k:Nat):cutD a (some (k:Int)) none=a.drop k:=by
 unfold cutD;rw[HT.zui,HT.zbcr];rcases Nat.le_total k a.length with h|h
 ·rw[xen h,xdu (by rw[xgh];exact xbj _)]
 ·rw[xjx h,xoi,List.drop_of_length_le h];simp
theorem zlk(l a:List (List Int))(h:a.Nodup):(l.foldl aP a).length<=a.length+l.length:=(zjq l a h).2.1
theorem zblm{a b:List Int}:(a.map D.int)++(b.map D.int)=(a++b).map D.int:=xdr.symm
theorem zga(h:au[n]?=some (.dT (aQ ks)))(a:ks.length<=1000000):bSorted [.ref n] au=.ok (.lst (aJ (sortR ks))) au:=by
 rw[zpf h (by rw[xbc];exact a),xcz]
 congr 2
 exact congrArg (λl=>aJ (sortR l)) (xow ks)
end Dd
namespace K07
open L2
noncomputable def oddW(e k:Int):Bool:=decide (V.int (Builtin.bitAnd e k)=V.int k)
theorem znk(a b:Nat):Builtin.bitAnd (a:Int) (b:Int)=((a&&&b:Nat):Int):=rfl
theorem zbgu(a b:Nat):oddW a b=decide (a&&&b=b):=by
 unfold oddW;rw[znk];by_cases h:a&&&b=b
 ·rw[h];simp
 ·rw[xbv h];refine xbv λe=>h ?_
  injection e with e
  exact_mod_cast e
theorem zbar(a b:Nat):(a&&&b=b)↔((a/2&&&b/2=b/2)/\¬ (b%2=1/\a%2=0)):=by
 have e:(a&&&b)/2=a/2&&&b/2:=xot;have f:(a&&&b)%2=(a%2)*(b%2):=by
  have q:=@Nat.and_mod_two_eq_one a b;rcases xei a with h|h<;>rcases xei b with h'|h'<;>rw[h,h'] at q ⊢<;>lia
 constructor
 ·intro h;refine⟨by rw[←e,h],?_⟩;rintro⟨d,c⟩;rw[h,d,c] at f;lia
 ·rintro⟨d,c⟩;rw[←e] at d;have g:(a&&&b)%2=b%2:=by
   rw[f];rcases xei a with h|h<;>rcases xei b with h'|h'<;>simp[h,h']
   exact c ⟨h',h⟩
  lia
end K07
namespace K23
open L2 K07
noncomputable def rowC(a b c:Int):List Int:=if 0<c then[a+b-c,c] else[a+b]
def rowsL(a b:Int) (n:Nat):List (List Int):=((List.range n).filter λ(c:Nat)=>oddW (b-c-1) (a-2*c)).map λ(c:Nat)=>rowC a b c
theorem zzf{a b:Int}{n:Nat}(h:oddW (b-n-1) (a-2*n)=true):rowsL a b (n+1)=rowsL a b n++[rowC a b n]:=by
 unfold rowsL;rw[xhx,xfg,xdr];simp[xlw,h]
theorem zbfm{a b:Int}{n:Nat}(h:¬ oddW (b-n-1) (a-2*n)=true):rowsL a b (n+1)=rowsL a b n:=by
 unfold rowsL;rw[xhx,xfg];simp[xlw,h]
theorem zhm(a b:Int)(n:Nat):(rowsL a b n).length<=n:=by
 unfold rowsL;rw[xbc];exact xbb (xge _ _) (by simp)
end K23
namespace Dd
open L2 K07 K23
theorem zsq:zft [.int e,.int k] au=.ok (.bl (oddW e k)) au:=by
 refine zef rfl ?_;have:decide (Builtin.bitAnd e k=k)=oddW e k:=by
  unfold oddW;rw[xfr];simp
 simp[this]
theorem zgk:zx [.int i] au=.ok (.bl true) au:=rfl
theorem zwn:zbm [.int a,.int b] au=.ok (.bl (decide (a<2*b))) au:=by
 refine zef rfl ?_;have m:CMul 2 b:=.inl ⟨by decide,by decide⟩;simp[m]
theorem zid(r:List Int):(r.map D.int).length=r.length:=xbc _
theorem zqk{r:List Int}{i:Nat}{x:Int}(h:r[i]?=some x):oIx (aL r) (.int i) au=.ok (.int x) au:=zkz rfl (zxu (by rw[xco,h];rfl))
theorem zxs:bLen [aL r] au=.ok (.int r.length) au:=by show Res.ok (D.int ((r.map D.int).length:Nat)) au=_;rw[xbc]
theorem zex(I:1<=a)(w:a<=60)(Q:-1000<=b)(q:b<=1000):∃g,zba [.int a,.int b] au=.ok (.lst (aJ (sortR (rowsL a b (a/2+1).toNat)))) (au++g):=by
 have W:=zsy (bd:=gN 3) (body:=zch) (xs:=rng 0 (a/2+1).toNat) (σ:=[some (.int a),some (.int b),some (.ref au.length),none]) (au:=au++[.lst []])
  (λi σ s=>(∃v,σ=[some (.int a),some (.int b),some (.ref au.length),v])/\s=au++[.lst (aJ (rowsL a b i))]) ⟨⟨none,rfl⟩,rfl⟩ (by
   rintro i y σ s C ⟨⟨v,rfl⟩,rfl⟩;obtain⟨H,rfl⟩:=zzg C;have A:i<=60:=by lia
   have J:=zhm a b i;have m:CMul 2 (0+(i:Int)):=.inl ⟨by decide,by decide⟩;have h:=zsq (au:=au++[.lst (aJ (rowsL a b i))]) (e:=b-(0+(i:Int))-1) (k:=a-2*(0+(i:Int)));have j:(au++[O.lst (aJ (rowsL a b i))])[au.length]?=some (.lst (aJ (rowsL a b i))):=by simp
   have o:=zfr j;have f:(aJ (rowsL a b i)).length<sizeLine:=by rw[zd];exact smallT _ (by lia)
   have z:=small 1 (by lia);have x:=small 2 (by lia);refine⟨[some (.int a),some (.int b),some (.ref au.length),some (.int (0+i))],[some (.int a),some (.int b),some (.ref au.length),some (.int (0+i))],au++[.lst (aJ (rowsL a b (i+1)))],rfl,?_,⟨_,rfl⟩,rfl⟩;unfold zch;rw[xht] at *
   by_cases c:oddW (b-i-1) (a-2*i)=true
   ·rw[zzf c];rw[c] at h;by_cases c2:0<i
    ·have n:rowC a b i=[a+b-i,(i:Int)]:=by unfold rowC;rw[if_pos (by lia)]
     have d:(rowsL a b i).length<sizeLine:=by rw[zd] at f;exact f
     simp[h,m,o,d,c2,x,n,tru,aJ]
    ·have E:i=0:=by lia
     subst E;have n:rowC a b 0=[a+b]:=by unfold rowC;rw[if_neg (by lia)]
     have d:(rowsL a b 0).length<sizeLine:=by rw[zd] at f;exact f
     simp at h m;simp[h,m,o,d,z,n,tru,aJ]
   ·have G:oddW (b-i-1) (a-2*i)=false:=by simpa using c
    rw[zbfm c];rw[G] at h
    simp[h,m,tru])
 obtain⟨P,p,e,⟨v,rfl⟩,rfl⟩:=W;rw[zbh] at e;refine⟨[.lst (aJ (rowsL a b (a/2+1).toNat))],zef rfl ?_⟩;have r:CDivP a 2:=⟨by decide,by decide +kernel⟩
 have u:RngOk (a/2+1):=rngOk (by lia) (by lia);have l:(rowsL a b (a/2+1).toNat).length<=1000000:=by have:=zhm a b (a/2+1).toNat;lia
 have j:(au++[O.lst (aJ (rowsL a b (a/2+1).toNat))])[au.length]?=some (.lst (aJ (rowsL a b (a/2+1).toNat))):=by simp
 have t:bSorted [.ref au.length] (au++[.lst (aJ (rowsL a b (a/2+1).toNat))])=.ok (.lst (aJ (sortR (rowsL a b (a/2+1).toNat)))) (au++[.lst (aJ (rowsL a b (a/2+1).toNat))]):=by
  unfold bSorted;simp[zfr j,l]
 simp[r,u,e,t]
noncomputable def slowAt(r:List Int) (p:Nat):Prop:=∃a b:Int,r[p]?=some a/\r[p+1]?=some b/\a<2*b
instance (r:List Int) (p:Nat):Decidable (slowAt r p):=
 match h1:r[p]?,h2:r[p+1]? with
 |some a,some b=>if h:a<2*b then .isTrue ⟨a,b,h1,h2,h⟩ else .isFalse λ⟨x,y,e1,e2,e3⟩=>by rw[h1] at e1;rw[h2] at e2;cases e1;cases e2;exact h e3
 |none,_=>.isFalse λ⟨x,y,e1,_⟩=>by rw[h1] at e1;cases e1
 |some _,none=>.isFalse λ⟨x,y,_,e2,_⟩=>by rw[h2] at e2;cases e2
theorem zjy{r:List Int}{p:Int}:zbw [aL r,.int p] au=.ok (.bl (decide (0<=p/\slowAt r p.toNat))) au:=by
 have d:=zgk (au:=au) (i:=p);have j:=zxs (au:=au) (r:=r);by_cases h:0<=p/\p<r.length-1
 ·obtain⟨k,rfl⟩:∃k:Nat,p=k:=⟨p.toNat,by lia⟩
  have o:k<r.length:=by lia
  have n:k+1<r.length:=by lia
  have g:r[k]?=some r[k]:=xbd o;have f:r[k+1]?=some r[k+1]:=xbd n;have s:=zqk (au:=au) g;have e:=zqk (au:=au) f;rw[xou] at e;have v:=zwn (au:=au) (a:=r[k]) (b:=r[k+1]);have u:(r[k]<2*r[k+1])↔slowAt r k:=⟨λz=>⟨_,_,g,f,z⟩,λ⟨a,b,m,c,z⟩=>by rw[g] at m;rw[f] at c;cases m;cases c;exact z⟩
  refine zef rfl ?_;have t:(k:Int)<r.length-1:=h.2;simp only[aL] at *
  generalize D.tup (r.map D.int)=R at *
  simp[d,j,s,t,tru];simp at e;simp[e,v,u]
 ·have q:¬ (0<=p/\slowAt r p.toNat):=λl=>by
   obtain⟨z,a,b,m,c,_⟩:=l;have:=(xbh.mp c).1;exact h ⟨z,by lia⟩
  refine zef rfl ?_;rw[xbv q];simp only[aL] at *
  generalize D.tup (r.map D.int)=R at *
  by_cases z:0<=p
  ·have c:¬ p<(r.length:Int)-1:=λy=>h ⟨z,y⟩
   simp[d,j,z,c,tru]
  ·simp[d,j,z,tru]
def exRow(r:List Int) (p:Nat):List (List Int):=(sortR (rowsL (r.getD p 0) (r.getD (p+1) 0) (r.getD p 0/2+1).toNat)).map λtwo=>r.take p++two++r.drop (p+2)
theorem ziq(r:List Int)(p:Nat):(exRow r p).length<=(r.getD p 0/2+1).toNat:=by
 unfold exRow;rw[xbc,zdk];exact zhm _ _ _
theorem zsc:∀r∈rowsL a b n,r.length<=2:=λr d=>by
 unfold rowsL at d;obtain⟨c,_,rfl⟩:=xbt.mp d;show(rowC a b c).length<=2;unfold rowC;split<;>simp
theorem zql{a b:List Int}(h:a.length+b.length<=1000000):aM (aL a) (aL b) au=.ok (aL (a++b)) au:=by
 rw[zbnd,if_pos (by rw[xbc,xbc];exact small _ h),zblm]
theorem zbef(r:List Int)(k:Nat):cutD (r.map .int) none (some (k:Int))=(r.take k).map .int:=by rw[zbvp,List.map_take]
theorem zrn(r:List Int)(k:Nat):cutD (r.map .int) (some (k:Int)) none=(r.drop k).map .int:=by rw[zbjj,List.map_drop]
theorem zey{r:List Int}{p:Nat}(U:p+1<r.length)(I:r.length<=100)(q:1<=r.getD p 0)(m:r.getD p 0<=60)(E:-1000<=r.getD (p+1) 0)(k:r.getD (p+1) 0<=1000):
  ∃g,zbb [aL r,.int p] au=.ok (.lst (aJ (exRow r p))) (au++g):=by
 have z:r[p]?=some (r.getD p 0):=by rw[xbg,xbd (by lia)];rfl
 have w:r[p+1]?=some (r.getD (p+1) 0):=by rw[xbg,xbd (by lia)];rfl
 generalize hA:r.getD p 0=a at *
 generalize hB:r.getD (p+1) 0=b at *
 obtain⟨g,e⟩:=zex (au:=au) q m E k;have J:(sortR (rowsL a b (a/2+1).toNat)).length<=100:=by
  rw[zdk];have:=zhm a b (a/2+1).toNat;lia
 have W:=zkf (bd:=gN 0) (c:=aI) (f:=aS aM (aS aM (aA 2) (aA 0)) (aA 1)) (xs:=aJ (sortR (rowsL a b (a/2+1).toNat))) (σ:=[none,some (aL (r.drop (p+2))),some (aL (r.take p))]) (au:=au++g)
  (λi acc σ s=>s=au++g/\(∃v,σ=[v,some (aL (r.drop (p+2))),some (aL (r.take p))])/\acc=aJ (((sortR (rowsL a b (a/2+1).toNat)).take i).map λtwo=>r.take p++two++r.drop (p+2))) ⟨rfl,⟨none,rfl⟩,rfl⟩ (by
   rintro i y acc σ s x ⟨rfl,⟨v,rfl⟩,rfl⟩;obtain⟨two,n,rfl⟩:=zbj x;have G:two.length<=2:=zsc two ((zl _).mem_iff.mp (xbu n));have H:(r.take p).length<=100:=by rw[xcx];lia
   have Q:(r.drop (p+2)).length<=100:=by rw[xgh];lia
   have o:=zql (au:=au++g) (a:=r.take p) (b:=two) (by lia);have h:=zql (au:=au++g) (a:=r.take p++two) (b:=r.drop (p+2)) (by rw[xbl];lia);refine⟨[some (aL two),some (aL (r.drop (p+2))),some (aL (r.take p))],true,au++g,rfl,rfl,.inr ⟨rfl,aL (r.take p++two++r.drop (p+2)),au++g,?_,rfl,⟨_,rfl⟩,?_⟩⟩
   ·show(aM (aL (r.take p)) (aL two) (au++g)).bind _=_;rw[o];exact h
   ·rw[zf n,xdr]
    simp[aJ])
 obtain⟨S,P,t,h,rfl,_,rfl⟩:=W;rw[zd,xce] at h;refine⟨g,zef rfl ?_⟩;have d:(aJ (sortR (rowsL a b (a/2+1).toNat))).length<=sizeLine:=by rw[zd];exact small _ (by lia)
 have C:=zqk (au:=au) z;have l:=zqk (au:=au) w;rw[xou] at l;have u:=zbef r p;have j:=zrn r (p+2);rw[xou] at j;refine seqN (σ1:=[some (aL r),some (.int p),some (aL (r.take p)),none]) (st1:=au) (by simp[u]) ?_;refine seqN (σ1:=[some (aL r),some (.int p),some (aL (r.take p)),some (aL (r.drop (p+2)))]) (st1:=au) ?_ ?_
 ·simp at j;simp[j]
 ·have A:aH (aE zba (aB (aS oIx (aA 0) (aA 1)) (aB (aS oIx (aA 0) (aS aM (aA 1) (eC (.int 1)))) aC))) [some (aL r),some (.int p),some (aL (r.take p)),some (aL (r.drop (p+2)))] au=.ok (aJ (sortR (rowsL a b (a/2+1).toNat))) (au++g):=by
   simp only[aL] at *
   generalize D.tup (r.map D.int)=R at *
   simp at l;simp[C,l,e]
  rw[zoa,zis,A,zw,if_pos d];show((compF _ _ _ _ [none,some (aL (r.drop (p+2))),some (aL (r.take p))] _).bind _).bind _=_;rw[h];unfold exRow;rw[hA,hB]
  rfl
theorem zob{l:List (List Int)}(f:l.Nodup)(p:l.length<=1000000):zeu [aK l] au=.ok (.ref au.length) (au++[.dT (aQ l)]):=by
 have W:=zsy (bd:=gN 2) (body:=zdr) (xs:=aJ l) (σ:=[some (aK l),some (.ref au.length),none]) (au:=au++[.dT []])
  (λi σ s=>(∃v,σ=[some (aK l),some (.ref au.length),v])/\s=au++[.dT (aQ (l.take i))]) ⟨⟨none,rfl⟩,rfl⟩ (by
   rintro i y σ s j ⟨⟨v,rfl⟩,rfl⟩;obtain⟨k,b,rfl⟩:=zbj j;have h:(au++[O.dT (aQ (l.take i))])[au.length]?=some (.dT (aQ (l.take i))):=by simp
   have n:=(xbh.mp b).1;have g:k∉l.take i:=λz=>by
    have e:(l.take (i+1)).Nodup:=(xlj (i+1) l).nodup f;rw[zf b,xjk] at e;exact e.2.2 k z k (by simp) rfl
   have a:(aQ (l.take i)).length<sizeLine:=by
    rw[xbc,xcx];exact smallT _ (by lia)
   have m:=zen k;have d:=zqd g;refine⟨[some (aK l),some (.ref au.length),some (aL k)],[some (aK l),some (.ref au.length),some (aL k)],au++[.dT (aQ (l.take (i+1)))],rfl,?_,⟨_,rfl⟩,rfl⟩;rw[zf b,←d];unfold zdr;simp only[aL] at *
   rw[zbcs];simp only[eC_v,zw,zbos,xhi,xlf,m,h,a,xfv]
   simp)
 obtain⟨o,c,e,⟨v,rfl⟩,rfl⟩:=W;rw[zd,xce] at e;refine zef rfl ?_;refine seqN (σ1:=[some (aK l),some (.ref au.length),none]) (st1:=au++[.dT []]) (by simp) ?_;refine seqN (σ1:=[some (aK l),some (.ref au.length),v]) (st1:=au++[.dT (aQ l)]) (by rw[zbfj];exact e) rfl
theorem zbcb{r:List Int}(d:r.length<=1000000)(τ:DS):aG (aH (aA 1)) 1 [] (gN 0) aI (aE zx (aB (aA 0) aC)) [some τ0,some (aL r)] au=.ok (.lst (r.map λ_=>D.bl true)) au:=by
 have W:=zkf (bd:=gN 0) (c:=aI) (f:=aE zx (aB (aA 0) aC)) (xs:=r.map D.int) (σ:=[none]) (au:=au)
  (λi acc σ s=>s=au/\(∃v,σ=[v])/\acc=(r.take i).map λ_=>D.bl true) ⟨rfl,⟨none,rfl⟩,rfl⟩ (by
   rintro i y acc σ s a ⟨rfl,⟨v,rfl⟩,rfl⟩;rw[xco] at a;cases hx:r[i]? with
   |none=>rw[hx] at a;cases a
   |some x=>
    rw[hx] at a;cases a;refine⟨[some (.int x)],true,s,rfl,rfl,.inr ⟨rfl,.bl true,s,rfl,rfl,⟨_,rfl⟩,?_⟩⟩;rw[zf hx]
    simp)
 obtain⟨g,h,b,e,rfl,_,rfl⟩:=W;rw[zid,xce] at e;rw[zis];show(if(r.map D.int).length<=sizeLine then _ else _)=_;rw[if_pos (by rw[zid];exact small _ d)];show((compF _ _ _ _ [none] _).bind _)=_;rw[e]
 rfl
theorem zph(r:List Int):asBools (r.map λ_=>D.bl true)=some (r.map λ_=>true):=by
 induction r with
 |nil=>rfl
 |cons a r ih=>rw[xbq,asBools,ih];rfl
theorem znw(h:au[n]?=some (.dT (aQ ks)))(d:r∈ks)(g:r.length<=1000000):zdg [.ref n,aL r] au=.ok (.bl true) au:=by
 refine zef rfl ?_;have b:=zbcb (au:=au) (τ0:=.ref n) g [];have a:=zbcz (k:=r) (zku h);rw[zkl,if_pos d] at a;have e:bAny true [.lst (r.map λ_=>D.bl true)] au=.ok (.bl true) au:=by
  unfold bAny;simp[zph]
 have f:aE bIsinst (aB (aA 1) (aB (eC (.ty "tuple")) aC)) [some (.ref n),some (aL r)] au=.ok (.bl true) au:=rfl
 have c:aE (bAny true) (aB (aG (aH (aA 1)) 1 [] (gN 0) aI (aE zx (aB (aA 0) aC))) aC) [some (.ref n),some (aL r)] au=.ok (.bl true) au:=by
  rw[zdt,zhc,b];exact e
 have i:aS (oDIn false) (aA 1) (aA 0) [some (.ref n),some (aL r)] au=.ok (.bl true) au:=a;show sRet _ [some (.ref n),some (aL r)] au=_;rw[zoa,zbih,f,zw];show(eAnd _ _ [some (.ref n),some (aL r)] au).bind _=_;rw[zbih,c,zw];show(aS (oDIn false) (aA 1) (aA 0) [some (.ref n),some (aL r)] au).bind _=_;rw[i]
 rfl
theorem zln(h:au[n]?=some (.dT (aQ ks)))(x:ks.Nodup)(hk:ks.length<=500000)(I:r∈ks)(C:r.length<=100)(u:slowAt r p)
  (A:1<=r.getD p 0)(o:r.getD p 0<=60)(U:-1000<=r.getD (p+1) 0)(l:r.getD (p+1) 0<=1000):
  ∃g,zcv [.ref n,aL r,.int p] au=.ok .non ((au.set n (.dT (aQ ((r::exRow r p).foldl aP ks))))++g):=by
 have P:p+1<r.length:=by
  obtain⟨a,b,_,z,_⟩:=u;exact(xbh.mp z).1
 have f:=zo h;have w:=znw h I (by lia);have q:=zjy (au:=au) (r:=r) (p:=p);rw[xbp (p:=0<=(p:Int)/\slowAt r (p:Int).toNat) ⟨by lia,by rw[xeh];exact u⟩] at q;have S:=zna (k:=r) h (by lia);obtain⟨g,G⟩:=zey (au:=au.set n (.dT (aQ (aP ks r)))) P C A o U l;have X:=ziq r p;have m:=zck (k:=r) x;have Q:=zio ks r;have W:=zsy (bd:=gN 3) (body:=zcq) (xs:=aJ (exRow r p)) (σ:=[some (.ref n),some (aL r),some (.int p),none]) (au:=au.set n (.dT (aQ (aP ks r)))++g)
  (λi σ s=>(∃v,σ=[some (.ref n),some (aL r),some (.int p),v])/\s=au.set n (.dT (aQ (((exRow r p).take i).foldl aP (aP ks r))))++g) ⟨⟨none,rfl⟩,rfl⟩ (by
   rintro i y σ s J ⟨⟨v,rfl⟩,rfl⟩;obtain⟨k,j,rfl⟩:=zbj J;have d:(au.set n (.dT (aQ (((exRow r p).take i).foldl aP (aP ks r))))++g)[n]?=some (.dT (aQ (((exRow r p).take i).foldl aP (aP ks r)))):=by
    rw[xcg (by rw[xdn];exact f),zds f]
   have c:(((exRow r p).take i).foldl aP (aP ks r)).length<=1000000:=by
    have:=zlk ((exRow r p).take i) (aP ks r) m;rw[xcx] at this;lia
   have t:=zna (k:=k) d c;have H:(au.set n (.dT (aQ (((exRow r p).take i).foldl aP (aP ks r))))++g).set n (.dT (aQ (aP (((exRow r p).take i).foldl aP (aP ks r)) k)))=au.set n (.dT (aQ (((exRow r p).take (i+1)).foldl aP (aP ks r))))++g:=by
    rw[zf j,xfl,List.set_append_left _ _ (by rw[xdn];exact f),zbfg]
    rfl
   rw[H] at t;refine⟨[some (.ref n),some (aL r),some (.int p),some (aL k)],[some (.ref n),some (aL r),some (.int p),some (aL k)],_,rfl,?_,⟨_,rfl⟩,rfl⟩;unfold zcq;rw[zuj,zdt];show((zfy [.ref n,aL k] _).bind _)=_;rw[t]
   rfl)
 obtain⟨Y,E,e,⟨v,rfl⟩,rfl⟩:=W;rw[zd,xce] at e;refine⟨g,zbul (σ:=[some (.ref n),some (aL r),some (.int p),v]) rfl ?_⟩;refine seqN (σ1:=[some (.ref n),some (aL r),some (.int p),none]) (st1:=au) ?_ ?_
 ·rw[zblk,zbqn,zwr,zdt];show((((zdg [.ref n,aL r] au).bind _).bind _).bind _)=_;rw[w]
  rfl
 refine seqN (σ1:=[some (.ref n),some (aL r),some (.int p),none]) (st1:=au) ?_ ?_
 ·rw[zblk,zbqn,zwr,zdt];show((((zbw [aL r,.int p] au).bind _).bind _).bind _)=_;rw[q]
  rfl
 refine seqN (σ1:=[some (.ref n),some (aL r),some (.int p),none]) (st1:=au.set n (.dT (aQ (aP ks r)))) ?_ ?_
 ·rw[zuj,zdt];show((zfy [.ref n,aL r] au).bind _)=_;rw[S]
  rfl
 ·rw[zbfj,zboo,zdt];show((((zbb [aL r,.int p] _).bind _)).bind _)=_;rw[G];exact e
structure CntG (f:Nat->D) (kvs:List (List Int×D)) (l:List (List Int)):Prop where
 nd:(kvs.map (·.1)).Nodup
 mem:∀k,k∈kvs.map (·.1)↔k∈l
 val:∀p∈kvs,p.2=f (l.count p.1)
 len:kvs.length<=l.length
theorem CntG.nil(f:Nat->D):CntG f [] []:=⟨xgm,λk=>by simp,λp h=>(by cases h),by simp⟩
theorem CntG.at(h:CntG f b l)(k:List Int):valD b k=if k∈l then some (f (l.count k)) else none:=by
 have d:∀b:List (List Int×D),(∀p∈b,p.2=f (l.count p.1))->valD b k=if k∈b.map (·.1) then some (f (l.count k)) else none:=by
  intro b
  induction b with
  |nil=>intro _;rfl
  |cons a b c=>
   intro g;have c:=c λp i=>g p (xbf _ i)
   unfold valD at c ⊢;rw[xfd];by_cases e:a.1=k
   ·have:=g a xbr;simp only[e,xjj,Option.map_some,xbq,xbm,true_or,xfv];rw[this,e]
   ·simp only[xbv e];rw[c];simp only[xbq,xbm,show ¬ k=a.1 from λz=>e z.symm,false_or]
 rw[d b h.val];simp only[h.mem]
theorem CntG.put(h:CntG f kvs l)(k:List Int):CntG f (putD kvs k (f (l.count k+1))) (l++[k]):=by
 have g:(kvs.any λd=>decide (d.1=k))=decide (k∈l):=by
  rw[xfr,xjn,←h.mem,xin,xbt];constructor
  ·rintro⟨x,m,e⟩;exact⟨x,m,by simpa using e⟩
  ·rintro⟨p,hp,e⟩;exact⟨p,hp,by simpa using e⟩
 unfold putD;rw[g];by_cases hk:k∈l
 ·rw[if_pos (by simpa using hk)];have c:(kvs.map λd=>if d.1=k then(d.1,f (l.count k+1)) else d).map (·.1)=kvs.map (·.1):=by
   rw[xcz]
   congr 1
   funext p
   dsimp only[Function.comp];split<;>rfl
  refine⟨by rw[c];exact h.nd,λx=>?_,λp hp=>?_,?_⟩
  ·rw[c,h.mem,xca,xbz];exact⟨.inl,λz=>z.elim id λe=>e ▸ hk⟩
  ·obtain⟨q,n,rfl⟩:=xbt.mp hp;have:=h.val q n;by_cases e:q.1=k
   ·rw[if_pos e];dsimp only;rw[e,xes];simp
   ·rw[if_neg e,this,xes];have:List.count q.1 [k]=0:=by rw[xgk];simpa using e
    rw[this];rfl
  ·rw[xbc,xbl];have:=h.len;lia
 ·rw[if_neg (by simpa using hk)];refine⟨?_,λx=>?_,λp hp=>?_,?_⟩
  ·rw[xdr,xjk];refine⟨h.nd,by simp,λa r b i=>?_⟩;simp at i;subst i;exact λe=>hk ((h.mem _).mp (e ▸ r))
  ·rw[xdr,xca,h.mem,xca];simp
  ·rcases xca.mp hp with hp|hp
   ·have j:=h.val p hp;have o:p.1≠k:=λe=>hk ((h.mem _).mp (e ▸ xbt.mpr ⟨p,hp,rfl⟩))
    rw[j,xes];have:List.count p.1 [k]=0:=by rw[xgk];simpa using o
    rw[this];rfl
   ·simp at hp;subst hp;rw[xes,xgk.mpr hk];simp
  ·rw[xbl,xbl];have:=h.len;simp;exact this
noncomputable def oddB(n:Nat):D:=.bl (decide (n%2=1))
theorem zbac(n:Nat):oddB (n+1)=.bl (!decide (n%2=1)):=by
 unfold oddB
 congr 1
 by_cases h:n%2=1
 ·rw[xbp h,xbv (by lia)];rfl
 ·rw[xbv h,xbp (by lia)];rfl
theorem zjx(I:seqV x=some (aJ l))(Y:l.length<=1000000)(j:(aN l).length<=1000000):∃g,zbd [x] au=.ok (aK (aO l)) (au++g):=by
 have W:=zsy (bd:=gN 2) (body:=zfg) (xs:=aJ l) (σ:=[some x,some (.ref au.length),none]) (au:=au++[.dT []])
  (λi σ s=>∃(v:Option D) (a:List (List Int×D)),σ=[some x,some (.ref au.length),v]/\s=au++[.dT a]/\CntG oddB a (l.take i)) ⟨none,[],rfl,rfl,CntG.nil _⟩ (by
   rintro i y σ s t ⟨v,a,rfl,rfl,b⟩;obtain⟨k,m,rfl⟩:=zbj t;have q:=b.put k;have o:(au++[O.dT a])[au.length]?=some (.dT a):=by simp
   have d:(valD a k).getD (.bl false)=.bl (decide ((l.take i).count k%2=1)):=by
    rw[b.at];split
    ·rfl
    ·rename_i z;rw[xgk.mpr z];rfl
   have C:=zen k;have P:=zku o;have r:a.length<sizeLine:=by
    have h1:=b.len;have X:(l.take i).length<=l.length:=by rw[xcx];exact xii _ _
    exact smallT _ (by lia)
   refine⟨[some x,some (.ref au.length),some (aL k)],[some x,some (.ref au.length),some (aL k)],au++[.dT (putD a k (oddB ((l.take i).count k+1)))],rfl,?_,some (aL k),_,rfl,rfl,by rw[zf m];exact q⟩;rw[zbac];unfold zfg;simp only[aL] at *
   simp only[zbcs,zbot,zbig,zbos,eC_v,xhi,xlf,zw,P,C,d,o,r,xfv]
   simp)
 obtain⟨σ',J,e,v,a,rfl,rfl,b⟩:=W;rw[zd,xce] at b;have V:=zkf (bd:=gN 0) (c:=eTru (aS oDGet (aA 1) (aA 0))) (f:=aA 0) (xs:=aJ (a.map (·.1))) (σ:=[none,some (.ref au.length)]) (au:=au++[.fT a])
  (λi acc σ s=>s=au++[.fT a]/\(∃w:Option D,σ=[w,some (.ref au.length)])/\acc=aJ (((a.map (·.1)).take i).filter λk=>decide (l.count k%2=1))) ⟨rfl,⟨none,rfl⟩,rfl⟩ (by
   rintro i y acc σ s t ⟨rfl,⟨w,rfl⟩,rfl⟩;obtain⟨k,m,rfl⟩:=zbj t;have o:(au++[O.fT a])[au.length]?=some (.fT a):=by simp
   have A:k∈l:=(b.mem k).mp (xbu m);have d:valD a k=some (oddB (l.count k)):=by rw[b.at,if_pos A]
   have C:oDGet (.ref au.length) (aL k) (au++[O.fT a])=.ok (oddB (l.count k)) _:=zbgw (zbgk o) d;refine⟨[some (aL k),some (.ref au.length)],decide (l.count k%2=1),au++[.fT a],rfl,?_,?_⟩
   ·rw[zwr];show((oDGet (.ref au.length) (aL k) (au++[O.fT a])).bind _)=_;rw[C]
    rfl
   ·by_cases j:l.count k%2=1
    ·refine .inr ⟨xbp j,aL k,_,rfl,rfl,⟨_,rfl⟩,?_⟩;rw[zf m,xfg];simp[j,aJ]
    ·refine .inl ⟨xbv j,rfl,⟨_,rfl⟩,?_⟩;rw[zf m,xfg]
     simp[j,aJ])
 obtain⟨ys,σ2,S,d,rfl,⟨w,rfl⟩,rfl⟩:=V;rw[zd,xce] at d;refine⟨[.fT a],zef rfl ?_⟩;have E:((a.map (·.1)).filter λk=>decide (l.count k%2=1)).Nodup:=b.nd.filter _;have H:∀k,k∈((a.map (·.1)).filter λk=>decide (l.count k%2=1))↔l.count k%2=1:=λk=>by
  rw[xcj,b.mem,xjn];refine⟨λh=>h.2,λh=>⟨?_,h⟩⟩;rcases xjc (l.count k) with z|z
  ·rw[z] at h;cases h
  ·exact xhu.mp z
 have r:sortR ((a.map (·.1)).filter λk=>decide (l.count k%2=1))=aO l:=zvd E H;have u:((a.map (·.1)).filter λk=>decide (l.count k%2=1)).length<=1000000:=by
  have p:=zgd E (zeb l) λk=>by rw[H,zgg]
  rw[p.length_eq];exact j
 have G:=zpe (au:=au++[.fT a]) u;rw[r] at G;have n:(aJ (a.map (·.1))).length<=sizeLine:=by
  rw[zd,xbc];exact small _ (by have:=b.len;lia)
 refine seqN (σ1:=[some x,some (.ref au.length),none]) (st1:=au++[.dT []]) (by simp) ?_;refine seqN (σ1:=[some x,some (.ref au.length),v]) (st1:=au++[.dT a]) (by simp[I,e]) ?_;have Q:aG (iDict (aA 1)) 1 [1] (gN 0) (eTru (aS oDGet (aA 1) (aA 0))) (aA 0) [some x,some (.ref au.length),v] (au++[.dT a])=.ok (.lst (aJ ((a.map (·.1)).filter λk=>decide (l.count k%2=1)))) (au++[.fT a]):=by
  rw[zis];have U:iDict (aA 1) [some x,some (.ref au.length),v] (au++[.dT a])=.ok (aJ (a.map (·.1))) (au++[.fT a]):=by
   simp
  rw[U,zw,if_pos n];show(compF _ _ _ _ [none,some (.ref au.length)] _).bind _=_;rw[d]
  rfl
 rw[zoa,zdt,zhc,zdt,zhc,Q];simp only[zw,zbqu,G,zxq]
theorem zqg{m:Int}(h:m<=1000):m<2^1000:=Int.lt_of_le_of_lt h (by decide +kernel)
theorem mulR(a:-10000<=j)(b:j<=10000):CMul i j:=.inr ⟨by lia,by lia⟩
theorem rngN(a:-10000<=j)(b:j<=10000):RngOk j:=rngOk (by lia) (by lia)
theorem zbbz(c:f σ au=.ok (.ref n) st1)(d:st1[n]?=some (.lst xs0))(a:g σ st1=.ok [y] st2)(b:st2[n]?=some (.lst xs))(e:xs.length<sizeLine):
  eAppend f g σ au=.ok .non (st2.set n (.lst (xs++[y]))):=by
 rw[zrd,c,zw,zfr d];dsimp only;rw[a,zw,b];dsimp only;rw[if_pos e]
structure RowOk (r:List Int) (most:Int) (long:Nat):Prop where
 pos:∀p∈r,1<=p
 sum:r.sum<=most
 len:r.length<=long
theorem zce{r:List Int}(h:∀p∈r,1<=p):0<=r.sum:=by
 induction r with
 |nil=>simp
 |cons a r ih=>
  rw[xcs];have:=h a xbr;have:=ih λp b=>h p (xbf _ b)
  lia
theorem Drew.over(d:Drew au s n)(h:n<au.length)(j:au.length<=k):Drew au (s.set k o) n:=by
 obtain⟨c,x,f,e,b⟩:=d.bag;exact⟨by rw[xdn];exact d.len,λi g a=>by rw[xcb (by lia)];exact d.keep i g a,c,x,by rw[xcb (by lia)];exact f,e,b⟩
theorem zpg(a:List D)(y:D):L2.atI (a++[y]) (-1)=some y:=by
 unfold L2.atI ixN;rw[xbl];have e:((-1:Int)+((a.length+[y].length:Nat):Int)).toNat=a.length:=by simp;lia
 rw[if_neg (by lia),if_pos (by simp;lia),e];simp
theorem zvz{n:Nat}{m L:Int}{G:Nat}(eL:L=G)(a3:G<=100)(Y:BagAt au n)(h0:0<=m)(h1:m<=900):∃r b,zfv [.ref n,.int m,.int L] au=.ok (aL r) b/\RowOk r m G/\Drew au b n:=by
 have U:n<au.length:=by obtain⟨_,_,e,_⟩:=Y;exact zo e
 have B0:BagAt (au++[.lst []]) n:=(Drew.more Y [.lst []]).bag;obtain⟨t,st1,e1,t0,t1,D1,H⟩:=zmg B0 (m:=L+1) (by lia) (zqg (by lia));have k1:st1[au.length]?=some (.lst []):=by rw[D1.keep au.length (by simp) (by lia)];simp
 have W:=zsy (bd:=gN 5) (body:=zff) (xs:=rng 0 t.toNat) (σ:=[some (.ref n),some (.int m),some (.int L),some (.ref au.length),some (.int m),none]) (au:=st1)
  (λi σ s=>Drew au s n/\au.length<s.length/\∃(r:List Int) (left:Int) (v:Option D),σ=[some (.ref n),some (.int m),some (.int L),some (.ref au.length),some (.int left),v]/\left=m-r.sum/\s[au.length]?=some (.lst (r.map .int))/\RowOk r m i)
  ⟨(Drew.more Y _).trans D1,by rw[H];simp,[],m,none,rfl,by simp,k1,⟨λp h=>(by cases h),by simpa using h0,by simp⟩⟩ (by
   rintro i x σ s hx ⟨w,g,r,left,v,rfl,a,l,c⟩;obtain⟨hi,rfl⟩:=zzg hx;generalize hI:(0:Int)+(i:Int)=I;unfold zff;have rs:=zce c.pos;have a2:i<200:=by lia
   by_cases hpos:0<left
   ·obtain⟨A,s2,e2,a0,a1,P,l2⟩:=zmg w.bag (m:=3) (by lia) (zqg (by lia));have o:∃q:Int,1<=q/\q<=left/\oIx (.lst [.int left,.int (if 5<left then 5 else left),.int (if 2<left then 2 else left)]) (.int A) s2=.ok (.int q) s2:=by
     rcases(show A=0\/A=1\/A=2 by lia) with rfl|rfl|rfl
     ·exact⟨left,by lia,by lia,rfl⟩
     ·exact⟨if 5<left then 5 else left,by split<;>lia,by split<;>lia,rfl⟩
     ·exact⟨if 2<left then 2 else left,by split<;>lia,by split<;>lia,rfl⟩
    obtain⟨q,q1,q2,e3⟩:=o;obtain⟨p,s3,J,b0,b1,D3,l3⟩:=zmg P.bag (m:=q) q1 (zqg (by lia));have Q:s2[au.length]?=some (.lst (r.map .int)):=by rw[P.keep au.length g (by lia)];exact l
    have C:s3[au.length]?=some (.lst (r.map .int)):=by rw[D3.keep au.length (by lia) (by lia)];exact Q
    have X:=small 3 (by lia);have S:(r.map D.int).length<sizeLine:=by rw[zid];exact smallT _ (by have:=c.len;lia)
    have d:au.length<s3.length:=by lia
    have k:aB (aS aM (eC (.int 1)) (aE zh (aB (aA 0) (aB (aS oIx (eLst (aB (aA 4) (aB (aE bMin2 (aB (aA 4) (aB (eC (.int 5)) aC))) (aB (aE bMin2 (aB (aA 4) (aB (eC (.int 2)) aC))) aC)))) (aE zh (aB (aA 0) (aB (eC (.int 3)) aC)))) aC)))) aC
      [some (.ref n),some (.int m),some (.int L),some (.ref au.length),some (.int left),some (.int I)] s=.ok [.int (1+p)] s3:=by
     simp[e2,e3,J,X]
    have y:=zbbz (f:=aA 3) (σ:=[some (.ref n),some (.int m),some (.int L),some (.ref au.length),some (.int left),some (.int I)]) rfl l k C S;have u:(s3.set au.length (.lst (r.map D.int++[D.int (1+p)])))[au.length]?=some (.lst ((r++[1+p]).map .int)):=by
     rw[zds d,xdr];rfl
    have j:oIx (.ref au.length) (.int (-1)) (s3.set au.length (.lst (r.map D.int++[D.int (1+p)])))=.ok (.int (1+p)) (s3.set au.length (.lst (r.map D.int++[D.int (1+p)]))):=by
     refine zkz (zhl u) ?_;rw[xdr];exact zpg _ _
    refine⟨[some (.ref n),some (.int m),some (.int L),some (.ref au.length),some (.int left),some (.int I)],[some (.ref n),some (.int m),some (.int L),some (.ref au.length),some (.int (left-(1+p))),some (.int I)],s3.set au.length (.lst (r.map D.int++[D.int (1+p)])),rfl,?_,?_,by rw[xdn];exact d,r++[1+p],_,_,rfl,?_,u,?_⟩
    ·rw[zblk];show(if decide (0<left)=true then _ else _)=_;rw[if_pos (xbp hpos)];refine seqN (σ1:=[some (.ref n),some (.int m),some (.int L),some (.ref au.length),some (.int left),some (.int I)]) (st1:=s3.set au.length (.lst (r.map D.int++[D.int (1+p)]))) ?_ ?_
     ·rw[zuj,y]
      rfl
     ·simp[j]
    ·exact((w.trans P).trans D3).over U (xbj _)
    ·rw[a,xdq];simp;lia
    ·refine⟨λz hz=>?_,?_,?_⟩
     ·rcases xca.mp hz with hz|hz
      ·exact c.pos z hz
      ·simp at hz;lia
     ·rw[xdq];simp;lia
     ·rw[xbl];have:=c.len;simp;lia
   ·refine⟨[some (.ref n),some (.int m),some (.int L),some (.ref au.length),some (.int left),some (.int I)],[some (.ref n),some (.int m),some (.int L),some (.ref au.length),some (.int left),some (.int I)],s,rfl,?_,w,g,r,left,_,rfl,a,l,⟨c.pos,c.sum,xfw c.len⟩⟩;rw[zblk];show(if decide (0<left)=true then _ else _)=_;rw[if_neg (by rw[xbv hpos];decide)]
    rfl)
 obtain⟨σ',b,e,w,g,r,left,v,rfl,a,l,c⟩:=W;rw[zbh] at c;refine⟨r,b,zef rfl ?_,⟨c.pos,c.sum,by have:=c.len;lia⟩,w⟩;have a4:=small 0 (by lia);have E:RngOk t:=rngN (by lia) (by lia);refine seqN (σ1:=[some (.ref n),some (.int m),some (.int L),some (.ref au.length),none,none]) (st1:=au++[.lst []]) (by simp) ?_;refine seqN (σ1:=[some (.ref n),some (.int m),some (.int L),some (.ref au.length),some (.int m),none]) (st1:=au++[.lst []]) (by simp) ?_;refine seqN (σ1:=[some (.ref n),some (.int m),some (.int L),some (.ref au.length),some (.int left),v]) (st1:=b) ?_ ?_
 ·have J:iR1 (aB (aE zh (aB (aA 0) (aB (aS aM (aA 2) (eC (.int 1))) aC))) aC) [some (.ref n),some (.int m),some (.int L),some (.ref au.length),some (.int m),none] (au++[.lst []])=.ok (rng 0 t.toNat) st1:=by
   simp[e1,E]
  rw[zbfj,J];exact e
 ·rw[zoa,zdt];show((bTuple [.ref au.length] b).bind _)=_;rw[zxp l]
  rfl
theorem zsw{n:Nat}{A m L:Int}{e:Nat}(C:L=e)(u:e<=100)(Y:0<=A)(Q:A<=60)(X:BagAt au n)(J:0<=m)(I:m<=900):
  ∃l b,zcm [.ref n,.int A,.int m,.int L] au=.ok (aK l) b/\(∀r∈l,RowOk r m e)/\l.Nodup/\(l.length:Int)<=A/\UpR l/\Drew au b n:=by
 obtain⟨t,st1,v,t0,t1,G,_⟩:=zmg X (m:=A+1) (by lia) (zqg (by lia));have W:=zkf (bd:=gN 0) (c:=aI) (f:=aE zfv (aB (aA 1) (aB (aA 2) (aB (aA 3) aC)))) (xs:=rng 0 t.toNat) (σ:=[none,some (.ref n),some (.int m),some (.int L)]) (au:=st1)
  (λi acc σ s=>Drew au s n/\(∃w:Option D,σ=[w,some (.ref n),some (.int m),some (.int L)])/\∃l:List (List Int),acc=aJ l/\(∀r∈l,RowOk r m e)/\l.length=i) ⟨G,⟨none,rfl⟩,[],rfl,λr h=>(by cases h),rfl⟩ (by
   rintro i y acc σ s hy ⟨d,⟨w,rfl⟩,l,rfl,q,o⟩;obtain⟨r,S,j,P,H⟩:=zvz C u d.bag J I;refine⟨[some y,some (.ref n),some (.int m),some (.int L)],true,s,rfl,rfl,.inr ⟨rfl,aL r,S,?_,d.trans H,⟨_,rfl⟩,l++[r],by simp[aJ],λz hz=>?_,by simp[o]⟩⟩
   ·simp[j]
   ·rcases xca.mp hz with hz|hz
    ·exact q z hz
    ·simp at hz;subst hz
     exact P)
 obtain⟨ys,σ',a,j,d,_,l,rfl,q,o⟩:=W;rw[zbh] at o;obtain⟨g,U⟩:=zjx (au:=a) (x:=.lst (aJ l)) (l:=l) rfl (by lia) (by have:=zgh l;lia);refine⟨aO l,a++g,zef rfl ?_,λr h=>q r (zgf h),zcz l,by have:=zjr l;lia,zhz _,d.trans (.more d.bag g)⟩;have k:RngOk t:=rngN (by lia) (by lia);have p:(rng 0 t.toNat).length<=sizeLine:=by rw[zbh];exact small _ (by lia)
 have E:iR1 (aB (aE zh (aB (aA 0) (aB (aS aM (aA 1) (eC (.int 1))) aC))) aC) [some (.ref n),some (.int A),some (.int m),some (.int L)] au=.ok (rng 0 t.toNat) st1:=by
  simp[v,k]
 show sRet _ [some (.ref n),some (.int A),some (.int m),some (.int L)] au=_;rw[zoa,zdt,zhc,zis,E,zw,if_pos p];show(((((compF _ _ _ _ [none,some (.ref n),some (.int m),some (.int L)] st1).bind _).bind _).bind _).bind _)=_;rw[j];show((zbd [.lst (aJ l)] a).bind _)=_;rw[U]
 rfl
end Dd
namespace Dd
open L2
def WP{α:Type}(r:Res α) (Q:α->Store->Prop):Prop:=match r with
 |.ok a au=>Q a au
 |_=>False
theorem WP.get{α:Type}{r:Res α}{Q:α->Store->Prop}(h:WP r Q):∃a au,r=.ok a au/\Q a au:=by
 cases r with
 |ok a au=>exact⟨a,au,rfl,h⟩
 |exc x au=>exact h.elim
 |stuck=>exact h.elim
theorem WP.of{α:Type}{r:Res α}{Q:α->Store->Prop}{a:α}(e:r=.ok a au)(h:Q a au):WP r Q:=by rw[e];exact h
theorem WP.mono{α:Type}{r:Res α}{Q Q':α->Store->Prop}(h:WP r Q)(k:∀a b,Q a b->Q' a b):WP r Q':=by
 obtain⟨a,b,rfl,q⟩:=h.get;exact k a b q
theorem zg{α β:Type}{r:Res α}{f:α->Store->Res β}{Q:β->Store->Prop}:WP (r.bind f) Q=WP r (λa b=>WP (f a b) Q):=by
 cases r<;>rfl
def seqK(t:SS) (Q:Fl->Store->Prop):Fl->Store->Prop:=λfl a=>match fl with
 |.nx σ=>WP (t σ a) Q
 |fl=>Q fl a
theorem zyi:WP (aD s t σ au) Q=WP (s σ au) (seqK t Q):=by
 unfold aD;cases s σ au with
 |ok fl st1=>cases fl<;>rfl
 |exc x au=>rfl
 |stuck=>rfl
theorem zyj{α:Type} [Decidable c]{a b:Res α}{Q:α->Store->Prop}:WP (if c then a else b) Q=if c then WP a Q else WP b Q:=by
 split<;>rfl
theorem znp{α:Type} [Decidable c]{a:Res α}{Q:α->Store->Prop}:WP (if c then a else .stuck) Q=(c/\WP a Q):=by
 by_cases h:c
 ·rw[if_pos h];simp[h]
 ·rw[if_neg h];simp[h,WP]
def retK(Q:D->Store->Prop):Fl->Store->Prop:=λb a=>match b with
 |.ret v=>Q v a
 |.nx _=>Q .non a
 |_=>False
theorem zkj{n c:Nat}{b:SS}{a:List D}{d:Store}{Q:D->Store->Prop}(h:a.length=c)(k:WP (b (a.map some++List.replicate (n-c) none) d) (retK Q)):WP (fnD n c b a d) Q:=by
 obtain⟨g,f,e,q⟩:=k.get;unfold fnD;rw[if_pos h,e];cases g<;>first|exact q|exact q.elim
def bK(Q:Bool->Store->Prop):D->Store->Prop:=λv a=>match v with
 |.bl b=>Q b a
 |_=>False
def gK(b:SG) (Q:Fl->Store->Prop) (σ:DS):D->Store->Prop:=λv a=>match b v σ with
 |some σ1=>Q (.nx σ1) a
 |none=>False
theorem W:(∀{α:Type}{a:α}{e:Store}{Q:α->Store->Prop},WP (.ok a e) Q=Q a e)
 /\ (∀{s t:SS}{σ:DS}{e:Store}{Q:Fl->Store->Prop},WP (aD s t σ e) Q=WP (s σ e) (seqK t Q))
 /\ (∀{t:SS}{σ:DS}{e:Store}{Q:Fl->Store->Prop},seqK t Q (.nx σ) e=WP (t σ e) Q)
 /\ (∀{t:SS}{v:D}{e:Store}{Q:Fl->Store->Prop},seqK t Q (.ret v) e=Q (.ret v) e)
 /\ (∀{t:SS}{σ:DS}{e:Store}{Q:Fl->Store->Prop},seqK t Q (.brk σ) e=Q (.brk σ) e)
 /\ (∀{t:SS}{σ:DS}{e:Store}{Q:Fl->Store->Prop},seqK t Q (.ct σ) e=Q (.ct σ) e)
 /\ (∀{v:D}{e:Store}{Q:D->Store->Prop},retK Q (.ret v) e=Q v e)
 /\ (∀{σ:DS}{e:Store}{Q:D->Store->Prop},retK Q (.nx σ) e=Q .non e)
 /\ (∀{b:Bool}{e:Store}{Q:Bool->Store->Prop},bK Q (.bl b) e=Q b e)
 /\ (∀{d:D}{σ:DS}{e:Store}{Q:D->Store->Prop},WP (eC d σ e) Q=Q d e)
 /\ (∀{g:D->D->Store->Res D}{f n:SE}{σ:DS}{e:Store}{Q:D->Store->Prop},WP (aS g f n σ e) Q=WP (f σ e) (λx l=>WP (n σ l) (λy p=>WP (g x y p) Q)))
 /\ (∀{g:D->Store->Res D}{f:SE}{σ:DS}{e:Store}{Q:D->Store->Prop},WP (eUn g f σ e) Q=WP (f σ e) (λx l=>WP (g x l) Q))
 /\ (∀{g:List D->Store->Res D}{f:SA}{σ:DS}{e:Store}{Q:D->Store->Prop},WP (aE g f σ e) Q=WP (f σ e) (λx l=>WP (g x l) Q))
 /\ (∀{σ:DS}{e:Store}{Q:List D->Store->Prop},WP (aC σ e) Q=Q [] e)
 /\ (∀{f:SE}{g:SA}{σ:DS}{e:Store}{Q:List D->Store->Prop},WP (aB f g σ e) Q=WP (f σ e) (λx l=>WP (g σ l) (λm p=>Q (x::m) p)))
 /\ (∀{f:SE}{σ:DS}{e:Store}{Q:Bool->Store->Prop},WP (eB f σ e) Q=WP (f σ e) (bK Q))
 /\ (∀{f n:ST}{σ:DS}{e:Store}{Q:Bool->Store->Prop},WP (bAnd f n σ e) Q=WP (f σ e) (λb l=>if b=true then WP (n σ l) Q else Q false l))
 /\ (∀{f n:ST}{σ:DS}{e:Store}{Q:Bool->Store->Prop},WP (bOr f n σ e) Q=WP (f σ e) (λb l=>if b=true then Q true l else WP (n σ l) Q))
 /\ (∀{f:ST}{σ:DS}{e:Store}{Q:Bool->Store->Prop},WP (bNot f σ e) Q=WP (f σ e) (λb l=>Q (!b) l))
 /\ (∀{σ:DS}{e:Store}{Q:Bool->Store->Prop},WP (aI σ e) Q=Q true e)
 /\ (∀{f n:SE}{σ:DS}{e:Store}{Q:D->Store->Prop},WP (eAnd f n σ e) Q=WP (f σ e) (bK λb l=>if b=true then WP (n σ l) Q else Q (.bl false) l))
 /\ (∀{f n:SE}{σ:DS}{e:Store}{Q:D->Store->Prop},WP (eOr f n σ e) Q=WP (f σ e) (bK λb l=>if b=true then Q (.bl true) l else WP (n σ l) Q))
 /\ (∀{f:SE}{σ:DS}{e:Store}{Q:D->Store->Prop},WP (eNot f σ e) Q=WP (f σ e) (bK λb l=>Q (.bl (!b)) l))
 /\ (∀{c:ST}{f n:SE}{σ:DS}{e:Store}{Q:D->Store->Prop},WP (eIf c f n σ e) Q=WP (c σ e) (λb l=>if b=true then WP (f σ l) Q else WP (n σ l) Q))
 /\ (∀{g:SA}{σ:DS}{e:Store}{Q:D->Store->Prop},WP (aR g σ e) Q=WP (g σ e) (λm l=>m.length<=sizeLine/\Q (.tup m) l))
 /\ (∀{g:SA}{σ:DS}{e:Store}{Q:D->Store->Prop},WP (eLst g σ e) Q=WP (g σ e) (λm l=>m.length<=sizeLine/\Q (.lst m) l))
 /\ (∀{g:SA}{σ:DS}{e:Store}{Q:D->Store->Prop},WP (eLstM g σ e) Q=WP (g σ e) (λm l=>m.length<=sizeLine/\Q (.ref l.length) (l++[.lst m])))
 /\ (∀{σ:DS}{e:Store}{Q:D->Store->Prop},WP (eDNew σ e) Q=Q (.ref e.length) (e++[.dT []]))
 /\ (∀{σ:DS}{e:Store}{Q:Fl->Store->Prop},WP (sNx σ e) Q=Q (.nx σ) e)
 /\ (∀{σ:DS}{e:Store}{Q:Fl->Store->Prop},WP (sBrk σ e) Q=Q (.brk σ) e)
 /\ (∀{σ:DS}{e:Store}{Q:Fl->Store->Prop},WP (sCt σ e) Q=Q (.ct σ) e)
 /\ (∀{σ:DS}{e:Store}{Q:Fl->Store->Prop},WP (sRetN σ e) Q=Q (.ret .non) e)
 /\ (∀{f:SE}{σ:DS}{e:Store}{Q:Fl->Store->Prop},WP (sRet f σ e) Q=WP (f σ e) (λv l=>Q (.ret v) l))
 /\ (∀{f:SE}{σ:DS}{e:Store}{Q:Fl->Store->Prop},WP (sDrop f σ e) Q=WP (f σ e) (λ_ l=>Q (.nx σ) l))
 /\ (∀{i:Nat}{f:SE}{σ:DS}{e:Store}{Q:Fl->Store->Prop},WP (aF i f σ e) Q=WP (f σ e) (λv l=>Q (.nx (σ.set i (some v))) l))
 /\ (∀{r:SG}{f:SE}{σ:DS}{e:Store}{Q:Fl->Store->Prop},WP (sSetG r f σ e) Q=WP (f σ e) (gK r Q σ))
 /\ (∀{c:ST}{s t:SS}{σ:DS}{e:Store}{Q:Fl->Store->Prop},WP (sIf c s t σ e) Q=WP (c σ e) (λb l=>if b=true then WP (s σ l) Q else WP (t σ l) Q))
 /\ (∀{u:SA}{r:SG}{w:SS}{σ:DS}{e:Store}{Q:Fl->Store->Prop},WP (sFor u r w σ e) Q=WP (u σ e) (λm l=>WP (forF r w m σ l) Q))
 /\ (∀{u:SA}{k:Nat}{is:List Nat}{r:SG}{c:ST}{f:SE}{σ:DS}{e:Store}{Q:D->Store->Prop},WP (aG u k is r c f σ e) Q=WP (u σ e) (λm l=>m.length<=sizeLine/\WP (compF r c f m (aT k is σ) l) (λE p=>Q (.lst E) p)))
 /\ (∀{u:SA}{k:Nat}{is:List Nat}{r:SG}{c:ST}{f:SE}{σ:DS}{e:Store}{Q:D->Store->Prop},WP (eCompM u k is r c f σ e) Q=WP (u σ e) (λm l=>m.length<=sizeLine/\WP (compF r c f m (aT k is σ) l) (λE p=>Q (.ref p.length) (p++[.lst E]))))
 /\ (∀{C:Int->Int->Prop} [DecidableRel C] {h:Int->Int->D}{i j:Int}{e:Store}{Q:D->Store->Prop},WP (oI C h (.int i) (.int j) e) Q=(C i j/\Q (h i j) e))
 /\ (∀{i j:Int}{e:Store}{Q:D->Store->Prop},WP (aM (.int i) (.int j) e) Q=Q (.int (i+j)) e)
 /\ (∀{a b:List D}{e:Store}{Q:D->Store->Prop},WP (aM (.tup a) (.tup b) e) Q=(a.length+b.length<=sizeLine/\Q (.tup (a++b)) e))
 /\ (∀{i j:Int}{e:Store}{Q:D->Store->Prop},WP (oLtT (.int i) (.int j) e) Q=Q (.bl (decide (i<j))) e)
 /\ (∀{i j:Int}{e:Store}{Q:D->Store->Prop},WP (oEqG false (.int i) (.int j) e) Q=Q (.bl (decide (i=j))) e)
 /\ (∀{i j:Int}{e:Store}{Q:D->Store->Prop},WP (oEqG true (.int i) (.int j) e) Q=Q (.bl (!decide (i=j))) e)
 /\ (∀{i:Int}{e:Store}{Q:D->Store->Prop},WP (oNeg (.int i) e) Q=Q (.int (-i)) e)
 /\ (∀{i j:Int}{g:Int->Int->Int}{e:Store}{Q:D->Store->Prop},WP (b2I g [.int i,.int j] e) Q=Q (.int (g i j)) e)
 /\ (∀{i:Int}{e:Store}{Q:D->Store->Prop},WP (bAbs [.int i] e) Q=Q (.int (if i<0 then -i else i)) e)
 /\ (∀{b:Bool}{e:Store}{Q:D->Store->Prop},WP (bInt [.bl b] e) Q=Q (.int (if b=true then 1 else 0)) e)
 /\ (∀{m:List D}{e:Store}{Q:D->Store->Prop},WP (bLen [.tup m] e) Q=Q (.int m.length) e)
 /\ (∀{m:List D}{e:Store}{Q:D->Store->Prop},WP (bLen [.lst m] e) Q=Q (.int m.length) e)
 /\ (∀{m:List D}{e:Store}{Q:D->Store->Prop},WP (bLen [.scr m] e) Q=Q (.int m.length) e)
 /\ (∀{m:List D}{e:Store}{Q:D->Store->Prop},WP (bTuple [.tup m] e) Q=Q (.tup m) e)
 /\ (∀{m:List D}{e:Store}{Q:D->Store->Prop},WP (bTuple [.lst m] e) Q=Q (.tup m) e)
 /\ (∀{m:List D}{e:Store}{Q:D->Store->Prop},WP (bList [.tup m] e) Q=Q (.lst m) e)
 /\ (∀{m:List D}{e:Store}{Q:D->Store->Prop},WP (bList [.lst m] e) Q=Q (.lst m) e)
 /\ (∀{d:D}{σ:DS}{e:Store}{Q:D->Store->Prop},WP (aA 0 (some d::σ) e) Q=Q d e)
 /\ (∀{i:Nat}{σ:DS}{e:Store}{Q:D->Store->Prop}{o:Option D},WP (aA (i+1) (o::σ) e) Q=WP (aA i σ e) Q)
 /\ (∀{f:SE}{σ:DS}{e:Store}{Q:List D->Store->Prop},WP (aH f σ e) Q=WP (f σ e) (λx l=>∃m,seqV x=some m/\Q m l))
 /\ (∀{f:SE}{σ:DS}{e:Store}{Q:Bool->Store->Prop},WP (eTru f σ e) Q=WP (f σ e) (λx l=>∃b,tru l x=some b/\Q b l))
 /\ (∀{g:SA}{σ:DS}{e:Store}{Q:List D->Store->Prop},WP (iR1 g σ e) Q=WP (g σ e) (λm l=>∃j,m=[.int j]/\RngOk j/\Q (rng 0 j.toNat) l))
 /\ (∀{g:SA}{σ:DS}{e:Store}{Q:List D->Store->Prop},WP (iR2 g σ e) Q=WP (g σ e) (λm l=>∃i j,m=[.int i,.int j]/\RngOk i/\RngOk j/\Q (rng i (j-i).toNat) l)):=by
 have z:∀{α:Type}{c:Prop} [Decidable c] {a:α}{e:Store}{Q:α->Store->Prop},WP (if c then .ok a e else .stuck) Q=(c/\Q a e):=λ{α c _ a e Q}=>znp
 refine⟨rfl,zyi,rfl,rfl,rfl,rfl,rfl,rfl,rfl,rfl,?_⟩;refine⟨?_,?_⟩
 ·intros;rw[zbym,zg];congr;funext x l;rw[zg]
 refine⟨zg,zg,rfl,?_⟩;refine⟨?_,?_⟩
 ·intros;rw[zhc,zg];congr;funext x l;rw[zg];rfl
 refine⟨?_,?_⟩
 ·intros;rw[eB_v,zg];congr;funext x l;cases x<;>rfl
 refine⟨?_,?_⟩
 ·intros;rw[zbwh,zg];congr;funext x l;rw[zyj];rfl
 refine⟨?_,?_⟩
 ·intros;rw[zbzf,zg];congr;funext x l;rw[zyj];rfl
 refine⟨zg,rfl,?_⟩;refine⟨?_,?_⟩
 ·intros;rw[zbih,zg];congr;funext x l;cases x<;>try rfl
  rename_i b;cases b<;>rfl
 refine⟨?_,?_⟩
 ·intros;rw[zbyl,zg];congr;funext x l;cases x<;>try rfl
  rename_i b;cases b<;>rfl
 refine⟨?_,?_⟩
 ·intros;rw[zbot,zg];congr;funext x l;cases x<;>rfl
 refine⟨?_,?_⟩
 ·intros;rw[zbyn,zg];congr;funext x l;rw[zyj]
 refine⟨?_,?_⟩
 ·intros;rw[zbun,zg];congr;funext x l;rw[z]
 refine⟨?_,?_⟩
 ·intros;rw[zbuo,zg];congr;funext x l;rw[z]
 refine⟨?_,?_⟩
 ·intros;rw[zbou,zg];congr;funext x l;rw[z]
 refine⟨rfl,rfl,rfl,rfl,rfl,zg,zg,zg,?_⟩;refine⟨?_,?_⟩
 ·intro r f σ e Q;unfold sSetG;rw[zg];congr;funext x l;unfold gK;cases r x σ<;>rfl
 refine⟨?_,?_⟩
 ·intros;rw[zblk,zg];congr;funext x l;rw[zyj]
 refine⟨zg,?_⟩;refine⟨?_,?_⟩
 ·intros;rw[zis,zg];congr;funext x l;rw[znp,zg];rfl
 refine⟨?_,?_⟩
 ·intros;unfold eCompM;rw[zg];congr;funext x l;rw[znp,zg];rfl
 refine⟨?_,?_⟩
 ·intros;rw[oI_v,z]
 refine⟨rfl,?_⟩;refine⟨?_,?_⟩
 ·intros;rw[zbnd,z]
 refine⟨rfl,?_⟩;refine⟨?_,?_⟩
 ·intros;rw[show ∀i j e,oEqG false (.int i) (.int j) e=_ from λi j e=>zbyf];rfl
 refine⟨?_,?_⟩
 ·intros;rw[show ∀i j e,oEqG true (.int i) (.int j) e=_ from λi j e=>zbyb];rfl
 refine⟨rfl,rfl,rfl,rfl,rfl,rfl,rfl,rfl,rfl,rfl,rfl,λ{d σ e Q}=>rfl,λ{i σ e Q o}=>rfl,?_⟩;refine⟨?_,?_⟩
 ·intros;rw[zboo,zg];congr;funext x l
  cases h:seqV x with
  |none=>simp[WP]
  |some m=>simp[WP]
 refine⟨?_,?_⟩
 ·intros;rw[zwr,zg];congr;funext x l
  cases h:tru l x with
  |none=>simp[WP]
  |some m=>simp[WP]
 refine⟨?_,?_⟩
 ·intros;rw[zbyi,zg];congr;funext x l
  split
  ·rw[z];simp[RngOk]
  ·rename_i A;have:∀j,x≠[D.int j]:=λj h=>A j h
   simp[WP,this]
 ·intros;rw[zbyh,zg];congr;funext x l
  split
  ·rw[z];simp only[RngOk,List.cons.injEq,D.int.injEq,and_true];apply propext;constructor
   ·rintro⟨h,q⟩;exact⟨_,_,⟨rfl,rfl⟩,h.1,h.2,q⟩
   ·rintro⟨I,J,⟨rfl,rfl⟩,H,G,q⟩;exact⟨⟨H,G⟩,q⟩
  ·rename_i A;have:∀i j,x≠[D.int i,D.int j]:=λi j h=>A i j h
   simp[WP,this]
def loopK(I:DS->Store->Prop) (Q:Fl->Store->Prop):Fl->Store->Prop:=λb a=>match b with
 |.nx σ=>I σ a
 |.ct σ=>I σ a
 |.brk σ=>Q (.nx σ) a
 |.ret v=>Q (.ret v) a
theorem zjk{g:SG}{b:SS}{Q:Fl->Store->Prop}(I:Nat->DS->Store->Prop):∀(d:List D) (k:Nat) (σ:DS) (a:Store),I k σ a ->
  (∀i x σ a,d[i]?=some x->I (k+i) σ a->∃f,g x σ=some f/\WP (b f a) (loopK (I (k+i+1)) Q))->(∀σ a,I (k+d.length) σ a->Q (.nx σ) a)->WP (forF g b d σ a) Q
 |[],k,σ,a,h,_,q=>q σ a h
 |x::d,k,σ,a,h,s,q=>by
  obtain⟨f,l,w⟩:=s 0 x σ a rfl h;obtain⟨o,e,n,w⟩:=w.get;unfold forF;rw[l];dsimp only;rw[n]
  have j:∀c,I (k+0+1) c e->WP (forF g b d c e) Q:=λc m=>zjk I d (k+1) c e m (λi y σ a r p=>by
   have:=s (i+1) y σ a (by simpa using r) (by rw[show k+(i+1)=k+1+i by lia];exact p);rw[show k+(i+1)+1=k+1+i+1 by lia] at this
   exact this) (λσ a h=>q σ a (by rw[xbw,show k+(d.length+1)=k+1+d.length by lia];exact h))
  cases o with
  |nx c=>exact j c w
  |ct c=>exact j c w
  |brk c=>exact w
  |ret v=>exact w
theorem zdj(I:Nat->DS->Store->Prop) (e:I 0 σ a)
  (s:∀i x σ a,xs[i]?=some x->I i σ a->∃b,bd x σ=some b/\WP (body b a) (loopK (I (i+1)) Q))(q:∀σ a,I xs.length σ a->Q (.nx σ) a):WP (forF bd body xs σ a) Q:=
 zjk I xs 0 σ a e (λi x σ a d c=>by rw[xel] at c ⊢;exact s i x σ a d c) λσ a h=>q σ a (by rw[xel] at h;exact h)
theorem L:(∀{I:DS->Store->Prop}{Q:Fl->Store->Prop}{σ:DS}{a:Store},loopK I Q (.nx σ) a=I σ a)
 /\ (∀{I:DS->Store->Prop}{Q:Fl->Store->Prop}{σ:DS}{a:Store},loopK I Q (.ct σ) a=I σ a)
 /\ (∀{I:DS->Store->Prop}{Q:Fl->Store->Prop}{σ:DS}{a:Store},loopK I Q (.brk σ) a=Q (.nx σ) a)
 /\ (∀{I:DS->Store->Prop}{Q:Fl->Store->Prop}{v:D}{a:Store},loopK I Q (.ret v) a=Q (.ret v) a):=⟨rfl,rfl,rfl,rfl⟩
theorem zfc{m:SG}{c:ST}{f:SE}(I:Nat->List D->DS->Store->Prop):∀(e:List D) (k:Nat) (acc:List D) (σ:DS) (au:Store) (Q:List D->Store->Prop),I k acc σ au ->
  (∀i x acc σ au,e[i]?=some x->I (k+i) acc σ au->∃d,m x σ=some d/\WP (c d au) (λb a=>if b=true then WP (f d a) (λy g=>I (k+i+1) (acc++[y]) d g) else I (k+i+1) acc d a)) ->
  (∀j σ au,I (k+e.length) (acc++j) σ au->Q j au)->WP (compF m c f e σ au) Q
 |[],k,acc,σ,au,Q,h,_,q=>q [] σ au (by rw[xec];exact h)
 |x::e,k,acc,σ,au,Q,h,s,q=>by
  obtain⟨d,p,w⟩:=s 0 x acc σ au rfl h;obtain⟨b,a,r,w⟩:=w.get;have n:∀i y acc σ au,e[i]?=some y->I (k+1+i) acc σ au->∃d,m y σ=some d/\WP (c d au) (λb a=>if b=true then WP (f d a) (λy g=>I (k+1+i+1) (acc++[y]) d g) else I (k+1+i+1) acc d a):=λi y acc σ au v t=>by
   have:=s (i+1) y acc σ au (by simpa using v) (by rw[show k+(i+1)=k+1+i by lia];exact t);rw[show k+(i+1)+1=k+1+i+1 by lia] at this;exact this
  have o:∀(l:List D) σ au,I (k+1+e.length) l σ au->I (k+(x::e).length) l σ au:=λl σ au h=>by rw[xbw,show k+(e.length+1)=k+1+e.length by lia];exact h
  unfold compF;rw[p];dsimp only;rw[r];dsimp only[zw];cases b with
  |false=>
   rw[if_neg (by decide)] at w ⊢;exact zfc I e (k+1) acc d a Q w n λj σ au h=>q j σ au (o _ _ _ h)
  |true=>
   rw[if_pos rfl] at w ⊢;obtain⟨y,g,u,w⟩:=w.get;rw[u];dsimp only[zw];rw[zg];exact zfc I e (k+1) (acc++[y]) d g _ w n λj σ au h=>q (y::j) σ au (o _ _ _ (by rw[xcc] at h;exact h))
theorem zbcg(I:Nat->List D->DS->Store->Prop) (m:I 0 [] σ a)
  (s:∀i x acc σ a,xs[i]?=some x->I i acc σ a->∃d,bd x σ=some d/\WP (c d a) (λb e=>if b=true then WP (f d e) (λy j=>I (i+1) (acc++[y]) d j) else I (i+1) acc d e))
  (q:∀g σ a,I xs.length g σ a->Q g a):WP (compF bd c f xs σ a) Q:=
 zfc I xs 0 [] σ a Q m (λi x acc σ a l k=>by rw[xel] at k ⊢;exact s i x acc σ a l k) λg σ a h=>q g σ a (by rw[xel] at h;simpa using h)
theorem zth{m:SG}{c:ST}{f:SE}{α:Type}(S:DS->Prop)(P:α->Bool)(G:α->D)(E:α->D){as:List α}{σ:DS}{d:Store}{Q:List D->Store->Prop}(o:S σ)
  (s:∀x∈as,∀σ,S σ->∃e,m (E x) σ=some e/\S e/\WP (c e d) (λb a=>a=d/\b=P x)/\(P x=true->WP (f e d) (λy a=>a=d/\y=G x)))
  (q:Q ((as.filter P).map G) d):WP (compF m c f (as.map E) σ d) Q:=by
 refine zbcg (λi acc σ h=>S σ/\h=d/\acc=((as.take i).filter P).map G) ⟨o,rfl,rfl⟩ (λi x acc σ h l k=>?_) λA σ h k=>?_
 ·obtain⟨p,rfl,rfl⟩:=k;rw[xco] at l;obtain⟨z,j,rfl⟩:=xdb.mp l;obtain⟨e,n,g,r,v⟩:=s z (xbu j) σ p;refine⟨e,n,r.mono λb a u=>?_⟩;obtain⟨rfl,rfl⟩:=u;cases hP:P z with
  |false=>
   rw[if_neg (by decide)];refine⟨g,rfl,?_⟩;rw[zf j,xfg,xcq (by rw[hP];decide)];simp
  |true=>
   rw[if_pos rfl];refine(v hP).mono λy w t=>?_
   obtain⟨rfl,rfl⟩:=t;refine⟨g,rfl,?_⟩;rw[zf j,xfg,xcn hP,xdr];simp
 ·obtain⟨_,rfl,rfl⟩:=k;rw[xbc,xce];exact q
theorem V:(∀{α:Type}{a b:α}{l:List α},(a::l).set 0 b=b::l)
 /\ (∀{α:Type}{a b:α}{l:List α}{i:Nat},(a::l).set (i+1) b=a::l.set i b)
 /\ (∀{σ:DS}{k:Nat}{is:List Nat},aT k is σ=List.replicate k none++is.map λi=>(σ[i]?).getD none)
 /\ (∀{α:Type}{a:α}{k:Nat},List.replicate (k+1) a=a::List.replicate k a)
 /\ (∀{α:Type}{a:α},List.replicate 0 a=[])
 /\ (∀{α β:Type}{f:α->β}{a:α}{l:List α},(a::l).map f=f a::l.map f)
 /\ (∀{α β:Type}{f:α->β},([]:List α).map f=[])
 /\ (∀{α:Type}{a:α}{l m:List α},(a::l)++m=a::(l++m))
 /\ (∀{α:Type}{l:List α},[]++l=l)
 /\ (∀{α:Type}{a:α}{l:List α},(a::l)[0]?=some a)
 /\ (∀{α:Type}{a:α}{l:List α}{i:Nat},(a::l)[i+1]?=l[i]?)
 /\ (∀{α:Type}{a:α}{d:α},(some a).getD d=a)
 /\ (∀{i:Nat}{d:D}{σ:DS},gN i d σ=some (σ.set i (some d)))
 /\ (∀{p:Prop} [Decidable p],(decide p=true)=p)
 /\ (∀{p:Prop} [Decidable p],((!decide p)=true)=¬ p)
 /\ (∀{b:Bool},((!b)=true)=(b=false))
 /\ (∀{a b:Prop},(if True then a else b)=a)
 /\ (∀{a b:Prop},(if False then a else b)=b)
 /\ (∀{a b:Prop},(if true=true then a else b)=a)
 /\ (∀{a b:Prop},(if false=true then a else b)=b)
 /\ (∀{α:Type}{a b:α},(if True then a else b)=a)
 /\ (∀{α:Type}{a b:α},(if False then a else b)=b)
 /\ ((true=false)=False)/\((false=true)=False)/\((true=true)=True)/\((false=false)=True)/\((¬ True)=False)/\((¬ False)=True):=by
 refine⟨rfl,rfl,rfl,rfl,rfl,rfl,rfl,rfl,rfl,rfl,?_,rfl,rfl,?_,?_,?_,rfl,rfl,rfl,rfl,rfl,rfl,by simp,by simp,by simp,by simp,by simp,by simp⟩
 ·intros;rfl
 ·intro p _;simp
 ·intro p _;simp
 ·intro b;simp
theorem M:(∀{f:SE}{σ:DS}{d:Store}{Q:Option Int->Store->Prop},WP (pSome f σ d) Q=WP (f σ d) (λv c=>∃i,v=.int i/\Q (some i) c))
 /\ (∀{σ:DS}{d:Store}{Q:Option Int->Store->Prop},WP (pNone σ d) Q=Q none d)
 /\ (∀{f:SE}{lo G:DS->Store->Res (Option Int)}{σ:DS}{d:Store}{Q:D->Store->Prop},WP (eSl f lo G σ d) Q=WP (f σ d) (λx c=>WP (lo σ c) (λl o=>WP (G σ o) (λh p=>(∃m,x=.tup m/\Q (.tup (cutD m l h)) p)\/(∃m,asL p x=some m/\Q (.lst (cutD m l h)) p)))))
 /\ (∀{f:SE}{σ:DS}{d:Store}{Q:D->Store->Prop},WP (eFz f σ d) Q=WP (f σ d) (λx c=>∃n m,x=.ref n/\c[n]?=some (.lst m)/\Q (.lst m) (c.set n .dead)))
 /\ (∀{f g h:SE}{σ:DS}{d:Store}{Q:Fl->Store->Prop},WP (sSetIx f g h σ d) Q=WP (h σ d) (λv c=>WP (f σ c) (λx o=>WP (g σ o) (λy p=>∃n k m j,x=.ref n/\y=.int k/\p[n]?=some (.lst m)/\ixN m.length k=some j/\Q (.nx σ) (p.set n (.lst (m.set j v)))))))
 /\ (∀{f:SE}{g:SA}{σ:DS}{d:Store}{Q:D->Store->Prop},WP (eAppend f g σ d) Q=WP (f σ d) (λx c=>∃n r,x=.ref n/\c[n]?=some (.lst r)/\WP (g σ c) (λu o=>∃y m,u=[y]/\o[n]?=some (.lst m)/\m.length<sizeLine/\Q .non (o.set n (.lst (m++[y]))))))
 /\ (∀{x:D}{d:Store}{Q:D->Store->Prop},WP (bSum [x] d) Q=∃s,(seqOf d x).bind asInts=some s/\Q (.int s.sum) d)
 /\ (∀{x:D}{w:Bool}{d:Store}{Q:D->Store->Prop},WP (bAny w [x] d) Q=∃t,(asL d x).bind asBools=some t/\Q (.bl (if w then t.all id else t.any id)) d)
 /\ (∀{x:D}{E:Bool}{d:Store}{Q:D->Store->Prop},WP (bBest E [x] d) Q=∃n s,(seqOf d x).bind asInts=some (n::s)/\Q (.int (bestI E n s)) d)
 /\ (∀{g:SA}{σ:DS}{d:Store}{Q:List D->Store->Prop},WP (iZipT g σ d) Q=WP (g σ d) (λm c=>∃a b,m=[.tup a,.tup b]/\Q (pairsF a b) c))
 /\ (∀{i:Nat}{g:D->D->Store->Res D}{f:SE}{σ:DS}{d:Store}{Q:Fl->Store->Prop},WP (sAug i g f σ d) Q=∃x,σ[i]?=some (some x)/\WP (f σ d) (λy c=>WP (g x y c) (λz o=>Q (.nx (σ.set i (some z))) o))):=by
 refine⟨?_,rfl,?_,?_,?_,?_,?_,?_,?_,?_,?_⟩
 ·intros;rw[zbmr,zg];congr;funext x c
  cases x<;>simp[WP]
 ·intros;rw[zbyk,zg];congr;funext x c;rw[zg];congr;funext l o;rw[zg];congr;funext h p
  apply propext;split
  ·constructor
   ·intro q;exact .inl ⟨_,rfl,q⟩
   ·rintro(⟨m,e,q⟩|⟨m,e,q⟩)
    ·cases e;exact q
    ·cases e
  ·rename_i A;constructor
   ·intro q;split at q
    ·rename_i m e;exact .inr ⟨m,e,q⟩
    ·exact q.elim
   ·rintro(⟨m,e,q⟩|⟨m,e,q⟩)
    ·exact absurd e (A m)
    ·rw[e];exact q
 ·intros;rw[zbyo,zg];congr;funext x c
  apply propext;constructor
  ·intro q;split at q
   ·split at q
    ·rename_i m e;exact⟨_,m,rfl,e,q⟩
    ·exact q.elim
   ·exact q.elim
  ·rintro⟨n,m,rfl,e,q⟩;dsimp only;rw[e];exact q
 ·intros;rw[zbfi,zg];congr;funext v c;rw[zg];congr;funext x o;rw[zg];congr;funext y p
  apply propext;constructor
  ·intro q;split at q
   ·split at q
    ·split at q
     ·exact⟨_,_,_,_,rfl,rfl,by assumption,by assumption,q⟩
     ·exact q.elim
    ·exact q.elim
   ·exact q.elim
  ·rintro⟨n,k,m,j,rfl,rfl,H,C,q⟩;dsimp only;rw[H];dsimp only;rw[C];exact q
 ·intros;rw[zrd,zg];congr;funext x c
  apply propext;constructor
  ·intro q;split at q
   ·rename_i n r e;rw[zg] at q;have I:c[n]?=some (.lst r):=by
     unfold asL at e;dsimp only at e;split at e
     ·cases e;assumption
     ·cases e
    refine⟨n,r,rfl,I,q.mono λu o h=>?_⟩;split at h
    ·split at h
     ·exact⟨_,_,rfl,by assumption,by assumption,h⟩
     ·exact h.elim
    ·exact h.elim
   ·exact q.elim
  ·rintro⟨n,r,rfl,e,q⟩;rw[zfr e];dsimp only;rw[zg];refine q.mono λu o h=>?_
   obtain⟨y,m,rfl,C,J,h⟩:=h;rw[C];dsimp only;rw[if_pos J];exact h
 ·intro x d Q;unfold bSum;dsimp only;cases h:(seqOf d x).bind asInts with
  |none=>simp[WP]
  |some s=>simp[WP]
 ·intro x w d Q;unfold bAny;dsimp only;cases h:(asL d x).bind asBools with
  |none=>simp[WP]
  |some s=>simp[WP]
 ·intro x E d Q;unfold bBest;dsimp only;cases h:(seqOf d x).bind asInts with
  |none=>simp[WP]
  |some s=>
   cases s with
   |nil=>simp[WP]
   |cons n s=>
    apply propext;constructor
    ·intro q;exact⟨_,_,rfl,q⟩
    ·rintro⟨a,b,e,q⟩;cases e;exact q
 ·intro g σ d Q;unfold iZipT;rw[zg];congr;funext x c
  apply propext;constructor
  ·intro q;split at q
   ·exact⟨_,_,rfl,q⟩
   ·exact q.elim
  ·rintro⟨a,b,rfl,q⟩;exact q
 ·intro i g f σ d Q;rw[zbsg];apply propext;constructor
  ·intro q;split at q
   ·rename_i x e;rw[zg] at q;exact⟨x,e,q.mono λy c h=>by rw[zg] at h;exact h⟩
   ·exact q.elim
  ·rintro⟨x,e,q⟩;rw[e];dsimp only;rw[zg];exact q.mono λy c h=>by rw[zg];exact h
theorem N:(∀{g:List D}{P:List D->Prop},(∃f,D.tup g=D.tup f/\P f)=P g)
 /\ (∀{i:Int}{P:Int->Prop},(∃j,D.int i=D.int j/\P j)=P i)
 /\ (∀{g:List D}{h:Store}{P:List D->Prop},(∃f,asL h (.tup g)=some f/\P f)=False)
 /\ (∀{g:List D}{h:Store}{P:List D->Prop},(∃f,asL h (.lst g)=some f/\P f)=P g)
 /\ (∀{g:List D}{P:List D->Prop},(∃f,seqV (.tup g)=some f/\P f)=P g)
 /\ (∀{g:List D}{P:List D->Prop},(∃f,seqV (.lst g)=some f/\P f)=P g)
 /\ (∀{b:Bool}{h:Store}{P:Bool->Prop},(∃c,tru h (.bl b)=some c/\P c)=P b)
 /\ (∀{i:Int}{P:Int->Prop},(∃j,[D.int i]=[D.int j]/\P j)=P i)
 /\ (∀{i j:Int}{P:Int->Int->Prop},(∃k l,[D.int i,D.int j]=[D.int k,D.int l]/\P k l)=P i j)
 /\ (∀{x:D}{P:D->Prop},(∃y,[x]=[y]/\P y)=P x)
 /\ (∀{a b:List D}{P:List D->List D->Prop},(∃c d,[D.tup a,D.tup b]=[.tup c,.tup d]/\P c d)=P a b)
 /\ (∀{p:Prop},(p\/False)=p)/\(∀{p:Prop},(True/\p)=p):=by
 refine⟨?_,?_,?_,?_,?_,?_,?_,?_,?_,?_,?_,by simp,by simp⟩
 ·intros;apply propext;exact⟨λ⟨_,e,p⟩=>by cases e;exact p,λp=>⟨_,rfl,p⟩⟩
 ·intros;apply propext;exact⟨λ⟨_,e,p⟩=>by cases e;exact p,λp=>⟨_,rfl,p⟩⟩
 ·intros;apply propext;exact⟨λ⟨_,e,p⟩=>(by cases e),λp=>p.elim⟩
 ·intros;apply propext;exact⟨λ⟨_,e,p⟩=>by cases e;exact p,λp=>⟨_,rfl,p⟩⟩
 ·intros;apply propext;exact⟨λ⟨_,e,p⟩=>by cases e;exact p,λp=>⟨_,rfl,p⟩⟩
 ·intros;apply propext;exact⟨λ⟨_,e,p⟩=>by cases e;exact p,λp=>⟨_,rfl,p⟩⟩
 ·intros;apply propext;exact⟨λ⟨_,e,p⟩=>by cases e;exact p,λp=>⟨_,rfl,p⟩⟩
 ·intros;apply propext;exact⟨λ⟨_,e,p⟩=>by cases e;exact p,λp=>⟨_,rfl,p⟩⟩
 ·intros;apply propext;exact⟨λ⟨_,_,e,p⟩=>by cases e;exact p,λp=>⟨_,_,rfl,p⟩⟩
 ·intros;apply propext;exact⟨λ⟨_,e,p⟩=>by cases e;exact p,λp=>⟨_,rfl,p⟩⟩
 ·intros;apply propext;exact⟨λ⟨_,_,e,p⟩=>by cases e;exact p,λp=>⟨_,_,rfl,p⟩⟩
theorem zgw(f:BagAt au n)(d:1<=m)(b:m<=1000000)(k:∀r a,0<=r->r<m->Drew au a n->Q (.int r) a):WP (zh [.ref n,.int m] au) Q:=by
 obtain⟨r,a,e,g,h,c,_⟩:=zmg f d (Int.lt_of_le_of_lt b (by decide +kernel));exact WP.of e (k r a g h c)
theorem zbod(h:seqOf au x=some xs)(a:L2.atI xs i=some d)(q:Q d au):WP (oIx x (.int i) au) Q:=WP.of (zkz h a) q
theorem zbwa{a:List Int}{i:Nat}(h:a.length<=63)(f:i<=100000)(k:∀g,BagAt (au++g) au.length->Q (.ref au.length) (au++g)):WP (zfw [.scr (a.map .int),.int i] au) Q:=by
 obtain⟨c,x,d,b,e⟩:=zbwb (au:=au) h f;exact WP.of e (k _ ⟨c,x,by simp,d,b⟩)
abbrev Rise(l:List (List Int)):Prop:=l.Pairwise λa b=>HT.lexLt a b=true
theorem Rise.nodup(h:Rise l):l.Nodup:=xnx (λ{a b} q e=>by subst e;rw[Srt.zfn] at q;cases q) h
theorem Rise.up(h:Rise l):UpR l:=xnx (λ{a b} q=>Srt.zqr q) h
theorem Rise.sort(h:Rise l):sortR l=l:=(zkp (.refl l) h.up).symm
theorem Rise.odd(h:Rise l):aO l=l:=by
 rw[←zvd (m:=l) h.nodup λx=>?_,h.sort];by_cases c:x∈l
 ·have b:l.count x<=1:=xig.mp h.nodup x;have d:0<l.count x:=xhu.mpr c;have a:l.count x=1:=by lia
  simp[c,a]
 ·simp[c,List.count_eq_zero_of_not_mem c]
theorem zbln(h:UpR l)(c:l.Nodup):Rise l:=xnx (λ{a b} q=>by
 obtain⟨d,e⟩:=q;rcases Srt.zmv a b with z|z|z
 ·exact z
 ·exact absurd z e
 ·rw[d] at z;cases z) (h.and c)
theorem zky(l:List (List Int)):Rise (aO l):=zbln (zhz _) (zcz l)
structure SumOk (n:Nat) (l:List (List Int)):Prop where
 rise:Rise l
 len:∀r∈l,r.length=n
 pos:∀r∈l,∀x∈r,0<=x
theorem zyx(h:∀r∈l,r.length=n/\∀x∈r,0<=x):SumOk n (aO l):=⟨zky l,λr a=>(h r (zgf a)).1,λr a=>(h r (zgf a)).2⟩
theorem Drew.lt(d:Drew au st' n)(h:n<au.length):n<st'.length:=xbn h d.len
theorem BagAt.lt(h:BagAt au n):n<au.length:=by obtain⟨c,x,e,_⟩:=h;exact zo e
theorem zoq{r:List Int}{P:Int->Prop}(h:∀x∈r,P x){y:Int}(a:P y):∀x∈r++[y],P x:=λx hx=>by
 rcases xca.mp hx with hx|hx
 ·exact h x hx
 ·simp at hx;subst hx;exact a
theorem zbba{α:Type}(l:List α):(l.filter λ_=>true)=l:=xmq.mpr (by simp)
theorem ztp(l:List Int)(j:Nat):(l.drop j++l.take j).length=l.length:=by rw[xbl,xof,←xbl,xda]
theorem zbey{l:List Int}(h:l.length<=sizeLine):aM (.lst ((l.drop j).map .int)) (.lst ((l.take j).map .int)) s=.ok (.lst ((l.drop j++l.take j).map .int)) s:=by
 show(if _<=sizeLine then Res.ok (D.lst _) s else .stuck)=_;rw[if_pos,xdr];rw[xbc,xbc,←xbl,ztp];exact h
theorem zve{l:List (List Int)}(a:seqV x=some (aJ l))(c:l.length<=1000000)(k:∀g,Q (aK (aO l)) (au++g)):WP (zbd [x] au) Q:=by
 have b:=zgh l;obtain⟨g,e⟩:=zjx (au:=au) a (by lia) (by lia);exact WP.of e (k g)
theorem zbx(h:WP (s σ au) R)(k:∀a b,R a b->seqK t Q a b):WP (aD s t σ au) Q:=by
 rw[zyi];exact h.mono k
noncomputable def FewU(l:List (List Int)):Prop:=∀a:List (List Int),a.Nodup->(∀x∈a,x∈l)->a.length<=1000000
theorem FewU.of{l U:List (List Int)}(h:∀x∈l,x∈U)(c:U.length<=1000000):FewU l:=λe b d=>xbb (xee b λx a=>h x (d x a)) c
theorem zbtl(h:x∈aN l):x∈l:=by
 rw[zgg] at h;rcases xjc (l.count x) with z|z
 ·rw[z] at h;cases h
 ·exact xhu.mp z
theorem FewU.odd(h:FewU l):(aN l).length<=1000000:=h _ (zeb l) λx a=>zbtl a
theorem FewU.sub(h:FewU l)(s:∀x∈m,x∈l):FewU m:=λc a d=>h c a λx b=>s x (d x b)
theorem zbdy(h:au[n]?=some (.dT (aQ ks)))(a:ks.length<=1000000)(q:Q .non (au.set n (.dT (aQ (aP ks k))))):WP (zfy [.ref n,aL k] au) Q:=WP.of (zna h a) q
theorem zpw(h:au[n]?=some (.dT (aQ ks)))(a:ks.length<=1000000)(q:Q (.lst (aJ (sortR ks))) au):WP (bSorted [.ref n] au) Q:=WP.of (zga h a) q
theorem zbji(a:List Int)(b:Int):cutD ((a++[b]).map D.int) none (some (-1))=a.map D.int:=by
 unfold cutD;have e:((a++[b]).map D.int).length=a.length+1:=by simp
 have c:HT.sIx (a.length+1) 0 none=0:=rfl;have d:HT.sIx (a.length+1) (a.length+1) (some (-1))=a.length:=by
  show(if(-1:Int)<0 then((-1:Int)+((a.length+1:Nat):Int)).toNat else min (-1:Int).toNat (a.length+1))=_;rw[if_pos (by decide)];lia
 rw[e,c,d];simp
end Dd
namespace K03
end K03
namespace K13
open PyProof.Rows
theorem zbhs(a b:Nat):(a&&&b)/2=a/2&&&b/2:=xot
theorem zbhr(a b:Nat):(a&&&b)%2=(a%2)*(b%2):=by
 have q:=@Nat.and_mod_two_eq_one a b;rcases xei a with h|h<;>rcases xei b with h'|h'<;>rw[h,h'] at q ⊢<;>lia
noncomputable abbrev In(e y:Nat):Prop:=e&&&y=y
theorem zqw:In a b↔(In (a/2) (b/2)/\¬ (b%2=1/\a%2=0)):=K07.zbar a b
theorem In.le(h:In e y):y<=e:=by rw[←h];exact Nat.and_le_left
theorem zbds(e:Nat):In e 0:=Nat.and_zero e
theorem zbol(e:Nat):In e e:=Nat.and_self e
theorem zbon(e x:Nat):In e (e&&&x):=by unfold In;rw[←Nat.and_assoc,Nat.and_self]
theorem zbhy:∀(e y:Nat),In e y->In e (e-y):=λe=>by
 induction e using Nat.strongRecOn with
 |ind e ih=>
  intro y h;by_cases z:e=0
  ·subst z;rw[Nat.zero_sub];exact zbds 0
  obtain⟨c,d⟩:=zqw.mp h;have i:=ih (e/2) (by lia) (y/2) c;have f:=c.le;refine zqw.mpr ⟨?_,?_⟩
  ·rw[show(e-y)/2=e/2-y/2 by lia];exact i
  ·rintro⟨a,b⟩;lia
theorem zbom:∀(e d q:Nat),In e d->In e q->q<d->q<=e&&&(d-1):=λe=>by
 induction e using Nat.strongRecOn with
 |ind e ih=>
  intro d q b g lt;by_cases z:e=0
  ·subst z;have:=b.le;lia
  obtain⟨f,k⟩:=zqw.mp b;obtain⟨h,l⟩:=zqw.mp g;have a:=zbhs e (d-1);have j:=zbhr e (d-1);rcases xei d with c|c
  ·rw[show(d-1)/2=d/2-1 by lia] at a;rw[show(d-1)%2=1 by lia,Nat.mul_one] at j;have i:=ih (e/2) (by lia) (d/2) (q/2) f h (by lia);have:q%2<=e%2:=by lia
   lia
  ·rw[show(d-1)/2=d/2 by lia,f] at a;lia
noncomputable def nxt(e j:Nat):Nat:=e-(e&&&(e-j-1))
theorem zbng(h:j<e):j<nxt e j:=by
 have:=xhl (@Nat.and_le_right e (e-(j+1))) e;rw[Nat.sub_sub_self h] at this;exact this
theorem zbto(e j:Nat):nxt e j<=e:=xhc _ _
theorem zbtp(e j:Nat):In e (nxt e j):=zbhy e _ (zbon e _)
theorem zbad(b:In e j)(a:In e m)(lt:j<m):nxt e j<=m:=by
 have c:=a.le;have:=zbom e (e-j) (e-m) (zbhy e j b) (zbhy e m a) (Nat.sub_lt_sub_left (xbn lt c) lt);exact Nat.sub_le_of_le_add (xof _ m ▸ Nat.sub_le_iff_le_add.mp this)
theorem zbnf{e j:Nat}(h:j<e):Builtin.bitAnd ((j:Int)-(e:Int)) (e:Int)=(nxt e j:Nat):=by
 rw[bitAnd_np (by lia) (by lia)];have a:(Builtin.bitNot ((j:Int)-(e:Int))).toNat=e-j-1:=by
  unfold Builtin.bitNot;lia
 rw[a,xeh];have:=@Nat.and_le_left e (e-j-1);unfold nxt;lia
noncomputable def subL(e:Nat) (lo a:Int) (n:Nat):List Nat:=(List.range n).filter λx=>decide (e&&&x=x/\lo<=x/\(x:Int)<=a)
theorem zko(e:Nat)(lo a:Int)(n:Nat):subL e lo a (n+1)=subL e lo a n++(if e&&&n=n/\lo<=n/\(n:Int)<=a then[n] else[]):=by
 unfold subL;rw[xhx,xfg]
 congr 1
 by_cases c:e&&&n=n/\lo<=n/\(n:Int)<=a
 ·rw[if_pos c];exact xcn (p:=λx:Nat=>decide (e&&&x=x/\lo<=x/\(x:Int)<=a)) (xbp c)
 ·rw[if_neg c];exact xcq (p:=λx:Nat=>decide (e&&&x=x/\lo<=x/\(x:Int)<=a)) (by rw[xbv c];decide)
theorem zhk{e:Nat}{lo a:Int}{n:Nat}:∀(k:Nat),(∀x,n<=x->x<n+k->¬ (e&&&x=x/\lo<=x/\(x:Int)<=a))->subL e lo a (n+k)=subL e lo a n
 |0,_=>rfl
 |k+1,h=>by
  rw[←xnl,zko,if_neg (h _ (by lia) (by lia)),xec];exact zhk k λx b c=>h x b (by lia)
theorem zhy(e:Nat)(lo a:Int)(n:Nat):(subL e lo a n).length<=n:=by
 have:=xge (λx=>decide (e&&&x=x/\lo<=x/\(x:Int)<=a)) (List.range n);rw[xgr] at this;exact this
def sharesL(e:Nat) (lo a:Int):List Nat:=subL e lo a (e+1)
theorem zcj{e j:Nat}{lo a:Int}:j∈sharesL e lo a↔(In e j/\lo<=j/\(j:Int)<=a):=by
 unfold sharesL subL;rw[xcj,xbi,xjn];exact⟨λh=>h.2,λh=>⟨xnr h.1.le,h⟩⟩
theorem zyy{e j:Nat}{lo a:Int}(b:In e j)(lt:j<e)(d:(j:Int)<=a):subL e lo a (nxt e j)=subL e lo a j++(if lo<=j then[j] else[]):=by
 have g:=zbng lt;obtain⟨k,f⟩:∃k,nxt e j=(j+1)+k:=⟨nxt e j-(j+1),(xcr g).symm⟩
 rw[f,zhk k λx i h c=>?_,zko]
 ·congr 1
  by_cases c:lo<=j
  ·rw[if_pos ⟨b,c,d⟩,if_pos c]
  ·rw[if_neg λz=>c z.2.1,if_neg c]
 ·have:=zbad b c.1 (by lia);lia
theorem znz{e j:Nat}{lo a:Int}(b:In e j)(h:a<j):sharesL e lo a=subL e lo a j:=by
 have:=b.le;obtain⟨k,d⟩:∃k,e+1=j+k:=⟨e+1-j,(xcr (xfw this)).symm⟩
 unfold sharesL;rw[d];exact zhk k λx g f c=>by lia
theorem zsb{e:Nat}{lo a:Int}(b:(e:Int)<=a):sharesL e lo a=subL e lo a e++(if lo<=e then[e] else[]):=by
 unfold sharesL;rw[zko]
 congr 1
 by_cases c:lo<=e
 ·rw[if_pos ⟨zbol e,c,b⟩,if_pos c]
 ·rw[if_neg λz=>c z.2.1,if_neg c]
end K13
namespace Dd
open L2 K13
theorem ztg(I:Nat->DS->Store->Prop) (m:I k σ a)(p:k<1000000)
  (s:∀j σ a,I j σ a->WP (c σ a) (λb e=>if b=true then WP (body σ e) (loopK (λf d=>∃i,i<j/\I i f d) Q) else Q (.nx σ) e)):WP (sWhile c body σ a) Q:=by
 have g:∀n j σ a,I j σ a->j<n->WP (whileF c body n σ a) Q:=by
  intro n
  induction n with
  |zero=>intro j σ a _ h;lia
  |succ n ih=>
   intro j σ a t u;obtain⟨b,e,l,w⟩:=(s j σ a t).get;unfold whileF;rw[l];dsimp only[zw];cases b with
   |false=>exact w
   |true=>
    rw[if_pos rfl] at w ⊢;obtain⟨q,d,o,w⟩:=w.get;rw[o];cases q with
    |nx f=>obtain⟨i,r,h⟩:=w;exact ih i f d h (by lia)
    |ct f=>obtain⟨i,r,h⟩:=w;exact ih i f d h (by lia)
    |brk f=>exact w
    |ret v=>exact w
 exact g wCap k σ a m p
noncomputable def dN(j:Nat):D:=.int (j:Int)
theorem zzd{e:Nat}{lo a:Int}(r:e<=100000)(k:∀g,Q (.lst ((sharesL e lo a).map dN)) (au++g)):WP (zly [.int e,.int lo,.int a] au) Q:=by
 refine zkj rfl ?_;simp only[W,V];refine⟨small _ (by simp),?_⟩;have b:∀(f:List Nat) (v:Option D),f=sharesL e lo a->WP (sRet (eFz (aA 3)) [some (.int e),some (.int lo),some (.int a),some (.ref au.length),v] (au++[.lst (f.map dN)])) (retK Q):=λf v h=>by
  subst h;simp only[W,V,M];refine⟨_,_,rfl,by simp;rfl,?_⟩;have:=k [.dead]
  simpa using this
 refine ztg (λm σ s=>∃j:Nat,m=e-j/\σ=[some (.int e),some (.int lo),some (.int a),some (.ref au.length),some (.int j)]/\In e j/\s=au++[.lst ((subL e lo a j).map dN)]) (k:=e) ⟨0,rfl,rfl,zbds e,rfl⟩ (by lia) ?_;rintro m σ s ⟨j,rfl,rfl,d,rfl⟩;simp only[W,V,Dd.N];have o:=d.le;split
 ·rename_i i;unfold zkg;refine zbx (R:=λn s=>n=.nx [some (.int e),some (.int lo),some (.int a),some (.ref au.length),some (.int j)]/\s=au++[.lst ((subL e lo a j++(if lo<=j then[j] else[])).map dN)]) ?_ ?_
  ·simp only[W,V,M,Dd.N];split
   ·rename_i c;have l:=zhy e lo a j;refine⟨_,_,rfl,by simp;rfl,_,_,rfl,by simp;rfl,by rw[xbc];exact smallT _ (by lia),?_⟩;simp[dN,c]
   ·rename_i c;simp[c]
  ·rintro n s ⟨rfl,rfl⟩;simp only[W,V,L];split
   ·rename_i c;have p:j=e:=by lia
    subst p;have:=b (subL j lo a j++(if lo<=j then[j] else[])) (some (.int j)) (zsb i).symm;simp only[W,V] at this;exact this
   ·rename_i c;have lt:j<e:=by lia
    have g:=zbng lt;have q:=zbto e j;refine⟨trivial,trivial,e-nxt e j,by lia,nxt e j,rfl,?_,zbtp e j,?_⟩
    ·rw[zbnf lt]
    ·rw[zyy d lt i]
 ·rename_i i;have:=b (subL e lo a j) (some (.int j)) (znz d (by lia)).symm;simp only[W,V] at this;exact this
noncomputable abbrev Pt:=List Int×Int
def ptD(p:Pt):D:=.tup [aL p.1,.int p.2]
def letJ(e:Nat) (a:Int) (p:Pt):List Pt:=(sharesL e (p.2-a) p.2).map λj:Nat=>(p.1++[(e:Int)+(j:Int)],p.2-(j:Int))
def letL(e:Nat) (a:Int) (b:List Pt):List Pt:=b.flatMap (letJ e a)
theorem zbhk(e:Nat)(a:Int)(p:Pt):(letJ e a p).length<=e+1:=by
 unfold letJ;rw[xbc];exact zhy _ _ _ _
theorem zos(e:Nat)(a:Int):∀ps:List Pt,(letL e a ps).length<=ps.length*(e+1)
 |[]=>by simp[letL]
 |p::ps=>by
  have b:letL e a (p::ps)=letJ e a p++letL e a ps:=by simp[letL]
  have:=zos e a ps;have:=zbhk e a p;rw[b,xbl,xbw,xjs];lia
theorem zbam(e:Nat)(a:Int)(b:List Pt)(p:Pt):letL e a (b++[p])=letL e a b++letJ e a p:=by simp[letL]
theorem zbhg{e:Nat}{a:Int}:q∈letL e a d↔∃p∈d,∃j:Nat,j∈sharesL e (p.2-a) p.2/\q=(p.1++[(e:Int)+(j:Int)],p.2-(j:Int)):=by
 unfold letL letJ;simp only[xcu,xbt];constructor
 ·rintro⟨p,b,j,c,rfl⟩;exact⟨p,b,j,c,rfl⟩
 ·rintro⟨p,b,j,c,rfl⟩;exact⟨p,b,j,c,rfl⟩
theorem zjn(o a:O)(g:Store):(au++o::g).set au.length a=au++a::g:=by simp
theorem zfp(o:O)(g:Store):(au++o::g)[au.length]?=some o:=by simp
theorem zjw{α:Type}{f:α->D}{l:List α}{i:Nat}{x:D}(h:(l.map f)[i]?=some x):∃a,l[i]?=some a/\x=f a:=by
 rw[xco] at h;obtain⟨a,b,c⟩:=xdb.mp h;exact⟨a,b,c.symm⟩
section
variable {au:Store}{Q:D->Store->Prop}
theorem zil{e:Nat}{b:Int}{c:List Pt}(x:e<=1000)(A:c.length*(e+1)<=100000)(u:∀p∈c,p.1.length<=1000)(k:∀g,Q (.lst ((letL e b c).map ptD)) (au++g)):WP (zcd [.lst (c.map ptD),.int e,.int b] au) Q:=by
 refine zkj rfl ?_;simp only[W,V,Dd.N];refine⟨small _ (by simp),?_⟩;refine zdj (λi σ s=>(∃v w z,σ=[some (.lst (c.map ptD)),some (.int e),some (.int b),some (.ref au.length),v,w,z])/\∃g,s=au++(.lst ((letL e b (c.take i)).map ptD)::g)) ⟨⟨_,_,_,rfl⟩,[],rfl⟩ ?_ ?_
 ·rintro i y σ s f ⟨⟨v,w,z,rfl⟩,g,rfl⟩;obtain⟨p,d,rfl⟩:=zjw f;have o:i<c.length:=(xbh.mp d).1;refine⟨_,rfl,?_⟩;unfold zdh;simp only[W,V,Dd.N];have h:(letL e b (c.take i)).length+(e+1)<=100000:=by
   have r:=zos e b (c.take i);have l:(c.take i).length=i:=by rw[xcx];lia
   rw[l] at r;have m:(i+1)*(e+1)<=c.length*(e+1):=xeg _ o;rw[xjs] at m;lia
  refine zzd (by lia) λn=>?_
  simp only[W,V,Dd.N];rw[xcc,xio];generalize g++n=g3;have q:(sharesL e (p.2-b) p.2).length<=e+1:=zhy _ _ _ _;refine zdj (λj σ s=>(∃z,σ=[some (.lst (c.map ptD)),some (.int e),some (.int b),some (.ref au.length),some (aL p.1),some (.int p.2),z])/\s=au++(.lst ((letL e b (c.take i)++((sharesL e (p.2-b) p.2).take j).map λj:Nat=>(p.1++[(e:Int)+j],p.2-(j:Int))).map ptD)::g3)) ⟨⟨_,rfl⟩,by simp⟩ ?_ ?_
  ·rintro j y σ s f ⟨⟨z,rfl⟩,rfl⟩;obtain⟨a,t,rfl⟩:=zjw f;refine⟨_,rfl,?_⟩;unfold zdi dN;simp only[W,V,M,Dd.N,L];have l:((sharesL e (p.2-b) p.2).take j).length<=(sharesL e (p.2-b) p.2).length:=by rw[xcx];exact xii _ _
   have m:=u p (xbu d);refine⟨_,_,rfl,zfp _ _,small _ (by simp),by rw[xbc];exact small _ (by simp;lia),small _ (by simp),_,_,rfl,zfp _ _,by rw[xbc,xbl,xbc];exact smallT _ (by lia),⟨_,rfl⟩,?_⟩;rw[zjn,zf t];simp[ptD,aL]
  ·rintro σ s ⟨⟨z,rfl⟩,rfl⟩;simp only[L];refine⟨⟨_,_,_,rfl⟩,g3,?_⟩;rw[xbc,xce,zf d,zbam]
   rfl
 ·rintro σ s ⟨⟨v,w,z,rfl⟩,g,rfl⟩;rw[xbc,xce];simp only[W,V,M,Dd.N];refine⟨_,_,rfl,zfp _ _,?_⟩;rw[zjn];exact k _
end
def stepP(s:Int×List Pt) (e:Int):Int×List Pt:=(s.1-e,letL e.toNat (s.1-e) s.2)
def prodS(r:List Int) (k:Int) (m:List Int):Int×List Pt:=m.foldl stepP (r.sum,[([],k)])
def prodP(r:List Int) (k:Int):List (List Int):=(prodS r k r).2.map (·.1)
noncomputable def box:List Int->Nat
 |[]=>1
 |e::r=>(e.toNat+1)*box r
theorem zde:∀a b:List Int,box (a++b)=box a*box b
 |[],b=>by simp[box]
 |e::a,b=>by rw[xio,box,box,zde a b,xkg]
theorem zbei:∀a:List Int,1<=box a
 |[]=>xbj _
 |e::a=>by have:=zbei a;unfold box;exact xbb this (xls _ (by lia))
theorem zxj(r:List Int)(i:Nat):box (r.take i)<=box r:=by
 have e:=zde (r.take i) (r.drop i);rw[xda] at e;rw[e];exact Nat.le_mul_of_pos_right _ (zbei _)
theorem zmn(r:List Int)(k:Int)(m:List Int)(e:Int):prodS r k (m++[e])=stepP (prodS r k m) e:=by unfold prodS;rw[xfl];rfl
theorem zqe{r:List Int}{k:Int}{P:List Int->Int×List Pt->Prop}(a:P [] (r.sum,[([],k)]))(h:∀m e s,P m s->P (m++[e]) (stepP s e)):∀(i:Nat),P (r.take i) (prodS r k (r.take i)):=λi=>by
 induction i with
 |zero=>exact a
 |succ i ih=>
  by_cases c:i<r.length
  ·have g:r[i]?=some r[i]:=xbd c;rw[zf g,zmn];exact h _ _ _ ih
  ·rw[xdu (by lia)] at ih ⊢;exact ih
theorem zkt(r:List Int)(k:Int)(i:Nat):(prodS r k (r.take i)).2.length<=box (r.take i):=by
 refine zqe (P:=λm s=>s.2.length<=box m) (by simp[box]) (λm e s a=>?_) i;have:=zos e.toNat (s.1-e) s.2;rw[zde];show(letL e.toNat (s.1-e) s.2).length<=box m*((e.toNat+1)*1)
 rw[Nat.mul_one];exact xbb this (xeg _ a)
theorem zzl(r:List Int)(k:Int)(i:Nat):∀p∈(prodS r k (r.take i)).2,p.1.length=(r.take i).length:=by
 refine zqe (P:=λm s=>∀p∈s.2,p.1.length=m.length) (by simp) (λm e s c=>?_) i;intro q b;obtain⟨p,a,j,d,rfl⟩:=zbhg.mp b;rw[xbl,xbl,c p a]
 rfl
section
variable {au:Store}{Q:D->Store->Prop}
theorem zhg{r:List Int}{t:Int}(f:∀x∈r,0<=x/\x<=1000)(u:r.length<=1000)(o:box r<=20000)(k:∀g,Q (.lst (aJ (prodP r t))) (au++g)):WP (zbv [aL r,.int t] au) Q:=by
 refine zkj rfl ?_;simp only[W,V,M,Dd.N];refine⟨small _ (by simp),small _ (by simp),small _ (by simp),r,zdf r,?_⟩;refine zdj (λi σ s=>(∃v,σ=[some (aL r),some (.int t),some (.lst ((prodS r t (r.take i)).2.map ptD)),some (.int (prodS r t (r.take i)).1),v])/\∃g,s=au++g) ⟨⟨_,rfl⟩,[],by simp⟩ ?_ ?_
 ·rintro i y σ s n ⟨⟨v,rfl⟩,g,rfl⟩;obtain⟨e,h,rfl⟩:=zjw n;refine⟨_,rfl,?_⟩;unfold zct;obtain⟨m,q⟩:=f e (xbu h);simp only[W,V,M,Dd.N,L];refine⟨_,rfl,?_⟩;have b:=zkt r t i;have d:=zxj r (i+1);rw[zf h,zde,show box [e]=e.toNat+1 by simp[box]] at d;have j:(prodS r t (r.take i)).2.length*(e.toNat+1)<=20000:=xbb (xeg _ b) (xbb d o);have c:=zzl r t i;rw[zf h,zmn];generalize prodS r t (r.take i)=s at j c ⊢;obtain⟨a,rfl⟩:=xcv m;refine zil (e:=a) (by lia) (by rw[xeh] at j;lia) (λp f=>?_) λl=>?_
  ·rw[c p f,xcx];lia
  ·simp only[W,V,L];exact⟨⟨_,rfl⟩,g++l,by simp⟩
 ·rintro σ s ⟨⟨v,rfl⟩,g,rfl⟩;rw[xbc,xce];simp only[W,V,M,Dd.N];have b:=zkt r t r.length;rw[xce] at b;refine⟨by rw[xbc];exact small _ (by lia),?_⟩;refine zth (as:=(prodS r t r).2) (λσ=>∃v w,σ=[v,w]) (λ_=>true) (λp=>aL p.1) ptD ⟨_,_,rfl⟩ ?_ ?_
  ·rintro p f σ ⟨v,w,rfl⟩;exact⟨_,rfl,⟨_,_,rfl⟩,by simp only[W,and_self],λ_=>by simp only[W,V,and_self]⟩
  ·rw[zbba];have:=k g;unfold prodP aJ at this;rw[xcz] at this;exact this
end
theorem zzm(r:List Int)(k:Int):(prodP r k).length<=box r:=by
 have:=zkt r k r.length;rw[xce] at this;unfold prodP;rw[xbc];exact this
def raiseR(k:Int) (r:List Int):List (List Int):=if k<=r.sum then prodP r k else[]
def raiseL(k:Int) (l:List (List Int)):List (List Int):=l.flatMap (raiseR k)
theorem zur(h:box r<=B):(raiseR k r).length<=B:=by
 unfold raiseR;split
 ·exact xbb (zzm r k) h
 ·simp
theorem zjo(k:Int)(l:List (List Int))(r:List Int):raiseL k (l++[r])=raiseL k l++raiseR k r:=by simp[raiseL]
theorem zii:∀{r:List Int},(∀x∈r,0<=x)->0<=r.sum
 |[],_=>by simp
 |x::r,h=>by
  have:=zii (r:=r) λy a=>h y (xbf _ a)
  have:=h x xbr;rw[xcs];lia
theorem zbrg:∀{r:List Int},(∀x∈r,0<=x)->∀x∈r,x<=r.sum
 |[],_,_,h=>nomatch h
 |y::r,h,x,hx=>by
  have a:=λz b=>h z (xbf y b)
  have c:=zii a;have d:=h y xbr;rw[xcs];rcases xbm.mp hx with rfl|hx
  ·lia
  ·have:=zbrg a x hx;lia
theorem zza(e:Int)(a:List Int)(b:List Pt):(e::a).foldl stepP ((e::a).sum,b)=a.foldl stepP (a.sum,letL e.toNat a.sum b):=by
 rw[xgc,xcs];unfold stepP;dsimp only;rw[show e+a.sum-e=a.sum by lia]
end Dd
namespace K13
end K13
namespace Dd
open L2 K13
theorem zkk:WP (eExtend f g σ au) Q=WP (f σ au) (λx c=>∃n a,x=.ref n/\c[n]?=some (.lst a)/\WP (g σ c) (λj b=>∃y i d,j=[y]/\b[n]?=some (.lst i)/\asL b y=some d/\i.length+d.length<=sizeLine/\Q .non (b.set n (.lst (i++d))))):=by
 rw[zbbc,zg]
 congr
 funext x c
 apply propext;constructor
 ·intro q;split at q
  ·rename_i n a e;rw[zg] at q;have k:c[n]?=some (.lst a):=by
    unfold asL at e;dsimp only at e;split at e
    ·cases e;assumption
    ·cases e
   refine⟨n,a,rfl,k,q.mono λj b h=>?_⟩;split at h
   ·split at h
    ·split at h
     ·exact⟨_,_,_,rfl,by assumption,by assumption,by assumption,h⟩
     ·exact h.elim
    ·exact h.elim
   ·exact h.elim
  ·exact q.elim
 ·rintro⟨n,a,rfl,e,q⟩;rw[zfr e];dsimp only;rw[zg];refine q.mono λj b h=>?_
  obtain⟨y,i,d,rfl,l,m,o,h⟩:=h;rw[l];dsimp only;rw[m];dsimp only;rw[if_pos o];exact h
def lawJ(e:Nat) (p:Pt):List Pt:=(sharesL e 0 p.2).map λj:Nat=>(p.1++[(e:Int)+(j:Int)],p.2-(j:Int))
def lawL(e:Nat) (a:List Pt):List Pt:=a.flatMap (lawJ e)
theorem zwd(e:Nat)(p:Pt):(lawJ e p).length<=e+1:=by
 unfold lawJ;rw[xbc];exact zhy _ _ _ _
theorem zbaq(e:Nat)(a:List Pt)(p:Pt):lawL e (a++[p])=lawL e a++lawJ e p:=by simp[lawL]
theorem zot(e:Nat):∀ps:List Pt,(lawL e ps).length<=ps.length*(e+1)
 |[]=>by simp[lawL]
 |p::ps=>by
  have a:lawL e (p::ps)=lawJ e p++lawL e ps:=by simp[lawL]
  have:=zot e ps;have:=zwd e p;rw[a,xbl,xbw,xjs];lia
theorem zvq:q∈lawL e c↔∃p∈c,∃j:Nat,j∈sharesL e 0 p.2/\q=(p.1++[(e:Int)+(j:Int)],p.2-(j:Int)):=by
 unfold lawL lawJ;simp only[xcu,xbt];constructor
 ·rintro⟨p,a,j,b,rfl⟩;exact⟨p,a,j,b,rfl⟩
 ·rintro⟨p,a,j,b,rfl⟩;exact⟨p,a,j,b,rfl⟩
theorem zmk{e:Nat}{left:Int}(h:0<=left):(List.range ((if left<(e:Int) then left else(e:Int))+1).toNat).filter (λx=>decide (e&&&x=x))=sharesL e 0 left:=by
 have a:∀n:Nat,(n:Int)<=left+1->subL e 0 left n=(List.range n).filter (λx=>decide (e&&&x=x)):=λn i=>by
  unfold subL;refine xfy λx f=>?_
  have:=xbi.mp f;have d:(0:Int)<=(x:Int):=by lia
  have b:(x:Int)<=left:=by lia
  simp[d,b]
 rw[←a _ (by split<;>lia)];unfold sharesL;split
 ·rename_i c;obtain⟨k,g⟩:∃k,e+1=(left+1).toNat+k:=⟨e+1-(left+1).toNat,by lia⟩
  rw[g];exact(zhk k λx d b z=>by lia).symm
 ·rw[show((e:Int)+1).toNat=e+1 by lia]
def lawStep(a:List Pt) (e:Int):List Pt:=lawL e.toNat a
def lawS(k:Int) (m:List Int):List Pt:=m.foldl lawStep [([],k)]
def lawP(k:Int) (r:List Int):List (List Int):=((lawS k r).filter λp=>decide (p.2=0)).map (·.1)
theorem zuc(h:0<=left):(sharesL e 0 left).filter (λj:Nat=>decide (left-(j:Int)<=S))=sharesL e (left-S) left:=by
 unfold sharesL subL;rw[xkv];refine xfy λx _=>?_
 rw[←xmj];exact xho.mpr ⟨λh=>⟨h.2.1,by lia,h.2.2.2⟩,λh=>⟨by lia,h.1,by lia,h.2.2⟩⟩
theorem zban{e:Nat}{S:Int}(h:¬ p.2<=e+S):letJ e S p=[]:=by
 unfold letJ;have:sharesL e (p.2-S) p.2=[]:=by
  refine xmk.mpr λj b=>?_
  obtain⟨a,c,d⟩:=zcj.mp b;have:=a.le;lia
 rw[this]
 rfl
theorem zbho(h:0<=p.2):(lawJ e p).filter (λq=>decide (q.2<=S))=letJ e S p:=by
 unfold lawJ letJ;rw[xjd,←zuc h]
 rfl
theorem zwc{e:Nat}{S:Int}:∀{ps:List Pt},(∀p∈ps,0<=p.2)->(lawL e ps).filter (λq=>decide (q.2<=S))=letL e S (ps.filter λp=>decide (p.2<=e+S))
 |[],_=>rfl
 |p::ps,h=>by
  have d:=zwc (e:=e) (S:=S) (ps:=ps) λq b=>h q (xbf _ b)
  have a:lawL e (p::ps)=lawJ e p++lawL e ps:=by simp[lawL]
  rw[a,xfg,d,zbho (h p xbr)];by_cases c:p.2<=e+S
  ·rw[xcn (by simpa using c)];simp[letL]
  ·rw[xcq (by simpa using c),zban c]
   rfl
theorem zrp:∀(a:List Int) (b:List Pt),(∀x∈a,0<=x)->(∀p∈b,0<=p.2)->(a.foldl lawStep b).filter (λp=>decide (p.2=0))=(a.foldl stepP (a.sum,b.filter λp=>decide (p.2<=a.sum))).2
 |[],b,_,h=>by
  show b.filter _=b.filter _;refine xfy λp c=>?_
  have:=h p c;exact xho.mpr ⟨λz=>by simp;lia,λz=>by simp at z;lia⟩
 |e::a,b,hs,h=>by
  have g:=λz f=>hs z (xbf e f)
  have m:=hs e xbr;rw[zza,xgc,zrp a (lawStep b e) g (λq d=>?_)]
  ·unfold lawStep;rw[zwc h,xcs,show((e.toNat:Nat):Int)=e by lia]
  ·obtain⟨p,c,j,i,rfl⟩:=zvq.mp d;obtain⟨l,n,k⟩:=zcj.mp i;dsimp only;lia
theorem zpv:∀(a:List Int) (t:Int),(a.foldl stepP (t,[])).2=[]
 |[],_=>rfl
 |e::a,t=>by
  rw[xgc];exact zpv a (t-e)
theorem zbdo(h:∀x∈r,0<=x)(b:0<=k):lawP k r=raiseR k r:=by
 unfold lawP lawS;rw[zrp r [([],k)] h (λp a=>by rw[xbz.mp a];exact b)];unfold raiseR;by_cases c:k<=r.sum
 ·rw[if_pos c,xcn (by simpa using c)]
  rfl
 ·rw[if_neg c,xcq (by simpa using c)];show(r.foldl stepP (r.sum,[])).2.map _=[]
  rw[zpv]
  rfl
theorem zlh(k:Int)(m:List Int)(e:Int):lawS k (m++[e])=lawStep (lawS k m) e:=by unfold lawS;rw[xfl];rfl
theorem zwb{k:Int}{P:List Int->List Pt->Prop}(a:P [] [([],k)])(h:∀m e s,P m s->P (m++[e]) (lawStep s e))(r:List Int):∀(i:Nat),P (r.take i) (lawS k (r.take i)):=λi=>by
 induction i with
 |zero=>exact a
 |succ i ih=>
  by_cases c:i<r.length
  ·have g:r[i]?=some r[i]:=xbd c;rw[zf g,zlh];exact h _ _ _ ih
  ·rw[xdu (by lia)] at ih ⊢;exact ih
theorem zwa(r:List Int)(k:Int)(i:Nat):(lawS k (r.take i)).length<=box (r.take i):=by
 refine zwb (P:=λm s=>s.length<=box m) (by simp[box]) (λm e s a=>?_) r i;have:=zot e.toNat s;rw[zde];show(lawL e.toNat s).length<=box m*((e.toNat+1)*1)
 rw[Nat.mul_one];exact xbb this (xeg _ a)
theorem zbhm(r:List Int){k:Int}(g:0<=k)(i:Nat):∀p∈lawS k (r.take i),p.1.length=(r.take i).length/\0<=p.2:=by
 refine zwb (P:=λm s=>∀p∈s,p.1.length=m.length/\0<=p.2) (by simpa using g) (λm e s c=>?_) r i;intro q a;obtain⟨p,b,j,f,rfl⟩:=zvq.mp a;obtain⟨n,o,l⟩:=zcj.mp f;obtain⟨d,h⟩:=c p b;dsimp only;rw[xbl,xbl,d];exact⟨rfl,by lia⟩
end Dd
namespace K08
end K08
namespace Dd
open L2 K13
def outL(e:Nat):List Int:=(sharesL e 0 e).map λj:Nat=>(e:Int)+(j:Int)
noncomputable def longL(a:List (List Int)) (c:List Int):List (List Int):=a.flatMap λb=>c.map λx=>b++[x]
def wholeStep(a:List (List Int)) (e:Int):List (List Int):=longL a (outL e.toNat)
def wholeS(m:List Int):List (List Int):=m.foldl wholeStep [[]]
theorem zcy(m:List Int)(e:Int):wholeS (m++[e])=wholeStep (wholeS m) e:=by unfold wholeS;rw[xfl];rfl
theorem zsa:(sharesL e 0 e).filter (λj:Nat=>decide ((j:Int)<=left))=sharesL e 0 left:=by
 unfold sharesL subL;rw[xkv];refine xfy λx a=>?_
 have:=xbi.mp a;rw[←xmj];exact xho.mpr ⟨λh=>⟨h.2.1,h.2.2.1,h.1⟩,λh=>⟨h.2.2,h.1,h.2.1,by lia⟩⟩
def fitP(k M:Int) (b:List (List Int)):List Pt:=(b.filter λa=>decide (a.sum-M<=k)).map λa=>(a,k-(a.sum-M))
theorem zwm{k M:Int}{e:Nat}:∀rows:List (List Int),fitP k (M+e) (longL rows (outL e))=lawL e (fitP k M rows)
 |[]=>rfl
 |row::rows=>by
  have i:=zwm (k:=k) (M:=M) (e:=e) rows;have d:longL (row::rows) (outL e)=((outL e).map λx=>row++[x])++longL rows (outL e):=by simp[longL]
  have g:fitP k (M+e) (longL (row::rows) (outL e))=fitP k (M+e) ((outL e).map λx=>row++[x])++fitP k (M+e) (longL rows (outL e)):=by
   rw[d];unfold fitP;rw[xfg,xdr]
  have m:fitP k (M+e) ((outL e).map λx=>row++[x])=(sharesL e 0 (k-(row.sum-M))).map λj:Nat=>(row++[(e:Int)+(j:Int)],k-(row.sum-M)-(j:Int)):=by
   unfold fitP outL;rw[xcz,xjd,xcz,show sharesL e 0 (k-(row.sum-M))=_ from zsa.symm];have b:∀j:Nat,(row++[(e:Int)+(j:Int)]).sum-(M+e)=row.sum-M+j:=λj=>by rw[xdq];simp;lia
   have n:(sharesL e 0 e).filter ((λr:List Int=>decide (r.sum-(M+e)<=k)) ∘ ((λx=>row++[x]) ∘ λj:Nat=>(e:Int)+(j:Int)))=(sharesL e 0 e).filter λj:Nat=>decide ((j:Int)<=k-(row.sum-M)):=
    xfy λj _=>by
     show decide ((row++[(e:Int)+(j:Int)]).sum-(M+e)<=k)=_;rw[b];exact xho.mpr ⟨λh=>by lia,λh=>by lia⟩
   rw[n];refine xea λj _=>?_
   show(row++[(e:Int)+(j:Int)],k-((row++[(e:Int)+(j:Int)]).sum-(M+e)))=_;rw[b]
   congr 1
   lia
  rw[g,i,m];by_cases c:row.sum-M<=k
  ·have a:fitP k M (row::rows)=(row,k-(row.sum-M))::fitP k M rows:=by
    unfold fitP;rw[xcn (by simpa using c)]
    rfl
   rw[a];simp[lawL,lawJ]
  ·have a:fitP k M (row::rows)=fitP k M rows:=by
    unfold fitP;rw[xcq (by simpa using c)]
   have f:sharesL e 0 (k-(row.sum-M))=[]:=xmk.mpr λj l=>by
    obtain⟨_,o,p⟩:=zcj.mp l;lia
   rw[a,f]
   rfl
theorem zbhn{r:List Int}{k:Int}(h:∀x∈r,0<=x)(a:0<=k):∀i:Nat,lawS k (r.take i)=fitP k (r.take i).sum (wholeS (r.take i)):=λi=>by
 induction i with
 |zero=>
  show[([],k)]=fitP k 0 [[]];unfold fitP;rw[xcn (by simpa using a)];simp
 |succ i ih=>
  by_cases c:i<r.length
  ·have g:r[i]?=some r[i]:=xbd c;have b:=h r[i] (xcy c);rw[zf g,zlh,zcy,ih];unfold lawStep wholeStep;rw[←zwm,xdq,show(r.take i).sum+[r[i]].sum=(r.take i).sum+(r[i].toNat:Int) by simp;lia]
  ·rw[xdu (by lia)] at ih ⊢;exact ih
theorem zfj{r:List Int}{k:Int}(h:∀x∈r,0<=x)(b:0<=k):raiseR k r=(wholeS r).filter λm=>decide (m.sum=r.sum+k):=by
 have e:=zbhn h b r.length;rw[xce] at e;rw[←zbdo h b];unfold lawP;rw[e];unfold fitP;rw[xjd,xcz,xkv];have:∀l:List (List Int),l.map ((λp:Pt=>p.1) ∘ λa=>(a,k-(a.sum-r.sum)))=l:=λl=>by
  show l.map (λa=>a)=l;exact xow l
 rw[this];refine xfy λm _=>?_
 show(decide (k-(m.sum-r.sum)=0)&&decide (m.sum-r.sum<=k))=_;rw[←xmj];exact xho.mpr ⟨λh=>by lia,λh=>by lia⟩
theorem zti{r:List Int}(h:∀x∈r,0<=x):∀(i:Nat),∀m∈wholeS (r.take i),(r.take i).sum<=m.sum/\m.sum<=2*(r.take i).sum:=λi=>by
 induction i with
 |zero=>intro m d;rw[xbz.mp (show m∈[[]] from d)];simp
 |succ i ih=>
  by_cases c:i<r.length
  ·have g:r[i]?=some r[i]:=xbd c;have l:=h r[i] (xcy c);intro m d;rw[zf g,zcy] at d;unfold wholeStep longL outL at d;obtain⟨f,e,d⟩:=xcu.mp d;rw[xcz] at d;obtain⟨j,k,rfl⟩:=xbt.mp d;obtain⟨o,p,n⟩:=zcj.mp k;obtain⟨a,b⟩:=ih f e;rw[zf g];simp only[Function.comp,xdq,xcs,xkw];lia
  ·rw[xdu (by lia)] at ih ⊢;exact ih
theorem zea{a b:List (List Int)}(h:∀x,a.count x%2=b.count x%2):aO a=aO b:=zvd (zeb a) λx=>by rw[zgg,h x]
theorem zeg(a:List (List Int))(x:List Int):(aO a).count x%2=a.count x%2:=by
 have d:=zcz a;have b:x∈aO a↔a.count x%2=1:=by unfold aO;rw[(zl _).mem_iff,zgg]
 by_cases c:x∈aO a
 ·have e:(aO a).count x<=1:=xig.mp d x;have f:0<(aO a).count x:=xhu.mpr c;have:=b.mp c;lia
 ·have e:(aO a).count x=0:=xgk.mpr c;have:¬ a.count x%2=1:=λz=>c (b.mpr z)
  lia
theorem zpo{P:List Int->List (List Int)->Prop}(a:P [] [[]])(h:∀m e s,P m s->P (m++[e]) (wholeStep s e))(r:List Int):∀(i:Nat),P (r.take i) (wholeS (r.take i)):=λi=>by
 induction i with
 |zero=>exact a
 |succ i ih=>
  by_cases c:i<r.length
  ·have g:r[i]?=some r[i]:=xbd c;rw[zf g,zcy];exact h _ _ _ ih
  ·rw[xdu (by lia)] at ih ⊢;exact ih
theorem zbgp(h:y∈outL e):(e:Int)<=y/\y<=2*e:=by
 unfold outL at h;obtain⟨j,b,rfl⟩:=xbt.mp h;obtain⟨a,_,_⟩:=zcj.mp b;have:=a.le;lia
theorem znh(r x:List Int)(y:Int):∀a:List Int,(a.map λz=>r++[z]).count (x++[y])=if r=x then a.count y else 0
 |[]=>by split<;>rfl
 |z::a=>by
  rw[xbq,xhe,znh r x y a];by_cases c:r=x
  ·subst c;rw[if_pos rfl,if_pos rfl,xhe]
   congr 1
   by_cases d:z=y
   ·subst d;simp
   ·simp[d]
  ·rw[if_neg c,if_neg c]
   have:¬ (r++[z]=x++[y]):=λh=>c (by
    have:=congrArg List.dropLast h
    simpa using this)
   simp[c]
theorem zng(x:List Int)(y:Int)(xs:List Int):∀a:List (List Int),(longL a xs).count (x++[y])=a.count x*xs.count y
 |[]=>by simp[longL]
 |r::a=>by
  have e:longL (r::a) xs=(xs.map λz=>r++[z])++longL a xs:=by simp[longL]
  rw[e,xes,znh,zng x y xs a,xhe];by_cases c:r=x
  ·subst c;simp[Nat.add_mul];lia
  ·simp[c]
noncomputable abbrev Row:=List Int
noncomputable def tot{α:Type}(l:List α) (c:α->Nat):Nat:=(l.map c).sum
theorem zbkx{α:Type}(c:α->Nat):tot [] c=0:=rfl
theorem zbg{α:Type}(a:α)(l:List α)(c:α->Nat):tot (a::l) c=c a+tot l c:=by simp[tot]
theorem ztv{α:Type}(a b:List α)(c:α->Nat):tot (a++b) c=tot a c+tot b c:=by simp[tot]
theorem ztr{α:Type}{a b:List α}(h:a.Perm b)(c:α->Nat):tot a c=tot b c:=(h.map c).sum_nat
theorem ztu(c:Row->Nat):∀(n:Nat) (l:List Row),l.length<=n->(∀x,l.count x%2=0)->tot l c%2=0
 |_,[],_,_=>rfl
 |0,_::_,h,_=>by simp at h
 |n+1,y::l,hn,h=>by
  have d:=h y;rw[List.count_cons_self] at d;have a:y∈l:=xhu.mp (by lia);have p:=List.perm_cons_erase a;have e:=ztu c n (l.erase y) (by rw[List.length_erase_of_mem a];simp at hn;lia) λx=>by
   have b:=h x;rw[xhe,p.count_eq,xhe] at b;split at b<;>lia
  rw[zbg,ztr p,zbg];lia
theorem zbch{a b:List Row}(c:Row->Nat)(h:∀x,a.count x%2=b.count x%2):tot a c%2=tot b c%2:=by
 have:=ztu c _ (a++b) (xbj _) λx=>by rw[xes];have:=h x;lia
 rw[ztv] at this;lia
theorem zts{α:Type}{c d:α->Nat}:∀{l:List α},(∀a∈l,c a%2=d a%2)->tot l c%2=tot l d%2
 |[],_=>rfl
 |a::l,h=>by
  have f:=h a xbr;have g:=zts (c:=c) (d:=d) (l:=l) λb e=>h b (xbf _ e)
  rw[zbg,zbg];lia
theorem zyv{α:Type}{c d:α->Nat}{l:List α}(h:∀a∈l,c a=d a):tot l c=tot l d:=by
 unfold tot;rw[xea h]
theorem zbcj{α:Type}(c d:α->Nat):∀l:List α,tot l (λa=>c a+d a)=tot l c+tot l d
 |[]=>rfl
 |a::l=>by rw[zbg,zbg,zbg,zbcj c d l];lia
theorem zcf{α:Type}(x:Row)(f:α->List Row):∀l:List α,(l.flatMap f).count x=tot l λa=>(f a).count x
 |[]=>rfl
 |a::l=>by rw[xjl,xes,zcf x f l,zbg]
theorem zbky{α β:Type}(g:α->β)(c:β->Nat)(l:List α):tot (l.map g) c=tot l λa=>c (g a):=by unfold tot;rw[xcz];rfl
theorem zqb{a b:List Row}(k:Int)(h:∀x,a.count x%2=b.count x%2)(x:Row):(raiseL k a).count x%2=(raiseL k b).count x%2:=by
 unfold raiseL;rw[zcf,zcf];exact zbch _ h
noncomputable def xr{α:Type}(l:List α) (f:α->Nat):Nat:=l.foldr (λx b=>f x^^^b) 0
section
variable {α β:Type}
theorem zbs(x:α):xr (x::l) f=f x^^^xr l f:=rfl
theorem zhj:∀(l m:List α),xr (l++m) f=xr l f^^^xr m f
 |[],m=>(xip _).symm
 |x::l,m=>by rw[xio,zbs,zbs,zhj l m,xdl]
theorem zma(h:β->α):∀l:List β,xr (l.map h) f=xr l λx=>f (h x)
 |[]=>rfl
 |x::l=>by rw[xbq,zbs,zbs,zma h l]
theorem zmb(h:β->List α):∀l:List β,xr (l.flatMap h) f=xr l λx=>xr (h x) f
 |[]=>rfl
 |x::l=>by rw[xjl,zhj,zbs,zmb h l]
theorem zk:∀{l:List α},(∀x∈l,f x=g x)->xr l f=xr l g
 |[],_=>rfl
 |x::l,h=>by rw[zbs,zbs,h x (xbr ..),zk λy a=>h y (xbf _ a)]
theorem zfi:∀l:List α,xr l (λ_=>0)=0
 |[]=>rfl
 |x::l=>by rw[zbs,zfi l];rfl
theorem xor4'(a b c d:Nat):(a^^^b)^^^(c^^^d)=(a^^^c)^^^(b^^^d):=by
 rw[xdl,xdl,←xdl b,←xdl c,xoj b c]
theorem zhs:∀l:List α,xr l (λx=>f x^^^g x)=xr l f^^^xr l g
 |[]=>by show 0=0^^^0;rw[xhv]
 |x::l=>by rw[zbs,zbs,zbs,zhs l,xor4']
theorem zel(p:α->Bool):∀l:List α,xr (l.filter p) f=xr l λx=>if p x=true then f x else 0
 |[]=>rfl
 |x::l=>by
  rw[zbs,←zel p l];by_cases c:p x=true
  ·rw[xcn c,zbs,if_pos c]
  ·rw[xcq c,if_neg c,xip]
theorem xif(p q:Bool)(z:Nat):(if p=true then z else 0)^^^(if q=true then z else 0)=if Bool.xor p q=true then z else 0:=by
 cases p<;>cases q<;>simp
theorem zyg(f:Nat->Nat)(N:Nat):xr (List.range (N+1)) f=f 0^^^xr (List.range N) λc=>f (c+1):=by
 rw[List.range_succ_eq_map,zbs,zma]
theorem zbeq(f:Nat->Nat)(N:Nat):xr (List.range (N+1)) f=xr (List.range N) f^^^f N:=by
 rw[xhx,zhj];show _^^^(f N^^^0)=_;rw[xfp]
end
noncomputable def sb(e j:Nat):Bool:=decide (e&&&j=j)
theorem zug(e j:Nat):sb e j=(sb (e/2) (j/2)&&decide (j%2<=e%2)):=by
 unfold sb;rw[←xmj];refine xho.mpr ?_;have c:(e&&&j)/2=e/2&&&j/2:=xot;have d:(e&&&j)%2=1↔e%2=1/\j%2=1:=Nat.and_mod_two_eq_one;constructor
 ·intro h;rw[h] at c d;exact⟨c.symm,by lia⟩
 ·intro⟨a,b⟩;lia
theorem zic(e:Nat):sb e 0=true:=by simp[sb]
theorem zuh(h:e<j):sb e j=false:=by
 refine xbv λz=>?_
 have:e&&&j<=e:=Nat.and_le_left;lia
theorem pas:∀e j:Nat,sb (e+1) (j+1)=Bool.xor (sb e (j+1)) (sb e j)
 |0,j=>by
  by_cases c:j=0
  ·subst c;decide
  ·rw[zuh (e:=0+1) (by lia),zuh (e:=0) (by lia),zuh (e:=0) (j:=j) (by lia)];rfl
 |e+1,j=>by
  rw[zug (e+1+1),zug (e+1),zug (e+1)];have b:(e+1)/2<e+1:=by lia
  by_cases c:(e+1)%2=0
  ·rw[show(e+1+1)/2=(e+1)/2 by lia];by_cases d:j%2=0
   ·rw[show(j+1)/2=j/2 by lia,xbp (show(j+1)%2<=(e+1+1)%2 by lia),xbv (show ¬ (j+1)%2<=(e+1)%2 by lia),xbp (show j%2<=(e+1)%2 by lia)];simp
   ·rw[xbp (show(j+1)%2<=(e+1+1)%2 by lia),xbp (show(j+1)%2<=(e+1)%2 by lia),xbv (show ¬ j%2<=(e+1)%2 by lia)];simp
  ·obtain⟨p,a⟩:∃p,(e+1)/2=p:=⟨_,rfl⟩
   rw[show(e+1+1)/2=(e+1)/2+1 by lia,a];have:=pas p;by_cases d:j%2=0
   ·rw[show(j+1)/2=j/2 by lia,xbv (show ¬ (j+1)%2<=(e+1+1)%2 by lia),xbp (show(j+1)%2<=(e+1)%2 by lia),xbp (show j%2<=(e+1)%2 by lia)];simp
   ·rw[show(j+1)/2=j/2+1 by lia,xbp (show(j+1)%2<=(e+1+1)%2 by lia),xbp (show(j+1)%2<=(e+1)%2 by lia),xbp (show j%2<=(e+1)%2 by lia)];rw[xnn,xnn,xnn];exact this (j/2)
 termination_by e _=>e
theorem zyh(e:Nat)(g:Int->Nat):xr (outL e) g=xr (List.range (e+1)) λj=>if sb e j=true then g ((e:Int)+(j:Int)) else 0:=by
 have h:=zmk (e:=e) (left:=(e:Int)) (by lia);unfold outL;rw[zma,←h,zel,show((if(e:Int)<(e:Int) then(e:Int) else(e:Int))+1).toNat=e+1 by split<;>lia]
 rfl
theorem zbgn(e:Nat)(g:Int->Nat):xr (outL (e+1)) g=xr (outL e) (λy=>g (y+1))^^^xr (outL e) (λy=>g (y+1+1)):=by
 rw[zyh,zyh,zyh,zyg,zyg (λj=>if sb e j=true then g ((e:Int)+(j:Int)+1) else 0) e];have a:(xr (List.range (e+1)) λc=>if sb (e+1) (c+1)=true then g (((e+1:Nat):Int)+((c+1:Nat):Int)) else 0)
   =(xr (List.range (e+1)) λc=>if sb e (c+1)=true then g ((e:Int)+((c+1:Nat):Int)+1) else 0)^^^(xr (List.range (e+1)) λc=>if sb e c=true then g ((e:Int)+(c:Int)+1+1) else 0):=by
  rw[←zhs];refine zk λc _=>?_
  rw[pas,←xif];rw[show((e+1:Nat):Int)+((c+1:Nat):Int)=(e:Int)+((c+1:Nat):Int)+1 by lia];rw[show(e:Int)+((c+1:Nat):Int)+1=(e:Int)+(c:Int)+1+1 by lia]
 rw[a,zbeq (N:=e) (f:=λc=>if sb e (c+1)=true then g ((e:Int)+((c+1:Nat):Int)+1) else 0),zuh (e:=e) (j:=e+1) (by lia),zic,zic];simp only[xfv,xdo,xeu,xfp];rw[show((e+1:Nat):Int)+((0:Nat):Int)=(e:Int)+((0:Nat):Int)+1 by lia,xdl]
def T(k:Int) (φ:Row->Nat) (m:Row):Nat:=xr (wholeS m) λx=>if x.sum=m.sum+k then φ x else 0
theorem zyd(h:∀x∈wholeS m,φ x=ψ x):T k φ m=T k ψ m:=zk λx a=>by rw[h x a]
theorem zbxg(k:Int)(φ ψ:Row->Nat)(m:Row):T k (λx=>φ x^^^ψ x) m=T k φ m^^^T k ψ m:=by
 unfold T;rw[←zhs];refine zk λx _=>?_
 by_cases c:x.sum=m.sum+k
 ·rw[if_pos c,if_pos c,if_pos c]
 ·rw[if_neg c,if_neg c,if_neg c,xhv]
theorem zbqv(k:Int)(m:Row):T k (λ_=>0) m=0:=by
 unfold T;rw[zk (g:=λ_=>0) λx _=>by split<;>rfl,zfi]
theorem zbcd(k:Int)(φ:Row->Nat)(r:Row)(e:Nat):T k φ (r++[(e:Int)])=xr (wholeS r) λu=>xr (outL e) λy=>if u.sum+y=r.sum+e+k then φ (u++[y]) else 0:=by
 unfold T;rw[zcy];unfold wholeStep longL;rw[zmb];refine zk λu _=>?_
 rw[zma,xeh];refine zk λy _=>?_
 rw[xdq,xdq,xcs,xkw,xcs,xkw,Int.add_zero,Int.add_zero]
def bump(x:Row):Row:=x.dropLast++[x.getLastD 0+1]
theorem zbbw(u:Row)(y:Int):bump (u++[y])=u++[y+1]:=by
 unfold bump;rw[List.dropLast_concat];simp
def up(φ:Row->Nat):Row->Nat:=λx=>φ (bump x)
theorem zgu(φ:Row->Nat)(u:Row)(y:Int):up φ (u++[y])=φ (u++[y+1]):=by unfold up;rw[zbbw]
theorem zbkf(k:Int)(φ:Row->Nat)(r:Row)(e:Nat):T k φ (r++[(e:Int)+1])=T k (up φ) (r++[(e:Int)])^^^T (k-1) (up (up φ)) (r++[(e:Int)]):=by
 rw[show(e:Int)+1=((e+1:Nat):Int) by lia,zbcd,zbcd,zbcd,←zhs];refine zk λu _=>?_
 rw[zbgn]
 congr 1
 ·refine zk λy _=>?_
  rw[zgu];by_cases c:u.sum+y=r.sum+e+k
  ·rw[if_pos c,if_pos (by lia)]
  ·rw[if_neg c,if_neg (by lia)]
 ·refine zk λy _=>?_
  rw[zgu,zgu];by_cases c:u.sum+y=r.sum+e+(k-1)
  ·rw[if_pos c,if_pos (by lia)]
  ·rw[if_neg c,if_neg (by lia)]
def Nn(m:Row):Prop:=∀x∈m,0<=x
theorem zyk(h:Nn m)(a:x∈wholeS m):m.sum<=x.sum/\x.sum<=2*m.sum:=by
 have:=zti h m.length;rw[xce] at this;exact this x a
theorem zbtb(h:y∈outL e):(e:Int)<=y:=by
 unfold outL at h;obtain⟨j,_,rfl⟩:=xbt.mp h;lia
theorem zht{e:Nat}(h:x∈wholeS (r++[(e:Int)])):∃u y,x=u++[((y:Nat):Int)]/\u∈wholeS r:=by
 rw[zcy] at h;unfold wholeStep longL at h;obtain⟨u,b,h⟩:=xcu.mp h;obtain⟨y,a,rfl⟩:=xbt.mp h;rw[xeh] at a;have:=zbtb a;exact⟨u,y.toNat,by rw[xms (by lia)],b⟩
theorem zty{P:Row->Prop}(f:P [])(l:∀r,Nn r->P r->P (r++[0]))(j:∀r (e:Nat),Nn r->P (r++[(e:Int)])->P (r++[(e:Int)+1])):∀m:Row,Nn m->P m:=λm b=>by
 suffices h:∀i,i<=m.length->P (m.take i) by have:=h m.length (xbj _);rw[xce] at this;exact this
 intro i
 induction i with
 |zero=>intro _;exact f
 |succ i ih=>
  intro n;have g:m[i]?=some m[i]:=xbd (by lia);rw[zf g];have a:Nn (m.take i):=λx d=>b x (xed d)
  have k:0<=m[i]:=b _ (xcy _);obtain⟨e,c⟩:∃e:Nat,m[i]=(e:Int):=⟨m[i].toNat,by lia⟩
  rw[c];clear g k c
  induction e with
  |zero=>exact l _ a (ih (by lia))
  |succ e ie=>rw[show((e+1:Nat):Int)=(e:Int)+1 by lia];exact j _ e a ie
theorem znq:∀m:Row,Nn m->∀x∈wholeS m,Nn x:=λm d x b=>by
 have h:∀i,∀x∈wholeS (m.take i),Nn x:=λi=>by
  induction i with
  |zero=>intro x b;rw[xbz.mp (show x∈[[]] from b)];intro y l;cases l
  |succ i ih=>
   by_cases c:i<m.length
   ·have g:m[i]?=some m[i]:=xbd c;have n:0<=m[i]:=d _ (xcy c);obtain⟨e,j⟩:∃e:Nat,m[i]=(e:Int):=⟨m[i].toNat,by lia⟩
    intro x b;rw[zf g,j] at b;obtain⟨u,y,rfl,f⟩:=zht b;intro z k;rcases xca.mp k with a|a
    ·exact ih u f z a
    ·rw[xbz.mp a];lia
   ·rw[xdu (by lia)] at ih ⊢;exact ih
 have:=h m.length;rw[xce] at this;exact this x b
theorem zbrk(h:Nn m)(b:k<0):T k φ m=0:=by
 unfold T;rw[zk (g:=λ_=>0) λx a=>if_neg (by have:=zyk h a;lia),zfi]
theorem zbkm(k:Int)(φ:Row->Nat):T k φ []=if k=0 then φ [] else 0:=by
 show(if([]:Row).sum=([]:Row).sum+k then φ [] else 0)^^^0=_;rw[xfp];by_cases c:k=0
 ·rw[if_pos c,if_pos (by rw[c];rfl)]
 ·rw[if_neg c,if_neg (by simp;lia)]
theorem zja(k:Int)(φ:Row->Nat)(r:Row):T k φ (r++[0])=T k (λu=>φ (u++[0])) r:=by
 rw[show(0:Int)=((0:Nat):Int) from rfl,zbcd];refine zk λu _=>?_
 rw[zyh];show(if sb 0 0=true then(if u.sum+(((0:Nat):Int)+((0:Nat):Int))=r.sum+((0:Nat):Int)+k then φ (u++[((0:Nat):Int)+((0:Nat):Int)]) else 0) else 0)^^^0=_;rw[xfp,if_pos (zic 0)];simp
theorem zbxh(a b:Int)(φ:Row->Nat)(r:Row)(e:Nat):T b (T a φ) (r++[(e:Int)+1])
  =(T b (T a (up φ)) (r++[(e:Int)])^^^T b (T (a-1) (up (up φ))) (r++[(e:Int)]))^^^(T (b-1) (T a (up (up φ))) (r++[(e:Int)])^^^T (b-1) (T (a-2) (up (up (up (up φ))))) (r++[(e:Int)])):=by
 rw[zbkf,←zbxg,←zbxg];have d:∀(c:Int) (ψ:Row->Nat) (u:Row) (y:Nat),up (T c ψ) (u++[(y:Int)])=T c (up ψ) (u++[(y:Int)])^^^T (c-1) (up (up ψ)) (u++[(y:Int)]):=λc ψ u y=>by rw[zgu,zbkf]
 congr 1
 ·refine zyd λx f=>?_
  obtain⟨u,y,rfl,_⟩:=zht f;exact d _ _ _ _
 ·refine zyd λx f=>?_
  obtain⟨u,y,rfl,_⟩:=zht f;have h:up (up (T a φ)) (u++[(y:Int)])=up (T a (up φ)) (u++[(y:Int)])^^^up (T (a-1) (up (up φ))) (u++[(y:Int)]):=by
   rw[zgu,show((y:Int)+1)=((y+1:Nat):Int) by lia,d,zgu,zgu]
   rfl
  rw[h,d,d,show a-1-1=a-2 by lia,xdl,←xdl (T (a-1) (up (up (up φ))) _),xhv,xip]
def co(b a:Int) (c:Nat):Bool:=decide (2*(c:Int)<=a)&&(if(c:Int)<b then sb (b-1-c).toNat (a-2*c).toNat else decide ((c:Int)=b))
theorem zji{b a:Int}{c:Nat}(h:a<2*(c:Int)):co b a c=false:=by unfold co;rw[xbv (by lia)];rfl
theorem zbbr{b a:Int}{c:Nat}(h:b<(c:Int)):co b a c=false:=by
 unfold co;rw[if_neg (by lia),xbv (p:=(c:Int)=b) (by lia),Bool.and_false]
theorem zbbq{b a:Int}{c:Nat}(d:2*(c:Int)<=a)(e:(c:Int)<b):co b a c=sb (b-1-c).toNat (a-2*c).toNat:=by
 unfold co;rw[xbp d,if_pos e,Bool.true_and]
theorem ztd{b a:Int}{c:Nat}(d:2*(c:Int)<=a)(e:(c:Int)=b):co b a c=true:=by
 unfold co;rw[xbp d,if_neg (by lia),xbp e];rfl
theorem zbqa{b a:Int}{c:Nat}(h:2*b<=a)(d:(c:Int)<b):co b a c=false:=by
 rw[zbbq (by lia) d,zuh (by lia)]
theorem zbqb(b a:Int)(c:Nat):co (b-1) (a-2) c=co b a (c+1):=by
 by_cases h:2*(c:Int)<=a-2
 ·by_cases g:(c:Int)<b-1
  ·rw[zbbq h g,zbbq (by lia) (by lia),show(b-1-((c+1:Nat):Int)).toNat=(b-1-1-(c:Int)).toNat by lia,show(a-2*((c+1:Nat):Int)).toNat=(a-2-2*(c:Int)).toNat by lia]
  ·by_cases g2:(c:Int)=b-1
   ·rw[ztd h g2,ztd (by lia) (by lia)]
   ·rw[zbbr (by lia),zbbr (by lia)]
 ·rw[zji (by lia),zji (by lia)]
theorem zbvr(h:a<=2*b-1)(c:Nat):Bool.xor (co b a c) (co b a (c+1))=Bool.xor (co b (a-1) c) (co (b-1) a c):=by
 by_cases h0:a<2*(c:Int)
 ·rw[zji h0,zji (by lia),zji (by lia),zji h0]
 have d:(c:Int)<b:=by lia
 rw[zbbq (by lia) d];by_cases h1:a=2*(c:Int)
 ·rw[zji (a:=a) (c:=c+1) (by lia),zji (a:=a-1) (by lia),show(a-2*(c:Int)).toNat=0 by lia,zic];by_cases g:(c:Int)<b-1
  ·rw[zbbq (by lia) g,show(a-2*(c:Int)).toNat=0 by lia,zic];rfl
  ·rw[ztd (by lia) (by lia)];rfl
 rw[zbbq (a:=a-1) (by lia) d];by_cases h2:a=2*(c:Int)+1
 ·rw[zji (a:=a) (c:=c+1) (by lia),show(a-2*(c:Int)).toNat=1 by lia,show(a-1-2*(c:Int)).toNat=0 by lia,zic];by_cases g:(c:Int)<b-1
  ·obtain⟨q,e⟩:∃q:Nat,b-1-1-(c:Int)=q:=⟨(b-1-1-(c:Int)).toNat,by lia⟩
   rw[zbbq (by lia) g,show(a-2*(c:Int)).toNat=0+1 by lia,show(b-1-1-(c:Int)).toNat=q by lia,show(b-1-(c:Int)).toNat=q+1 by lia,pas,zic];cases sb q (0+1)<;>rfl
  ·rw[ztd (by lia) (by lia),show(b-1-(c:Int)).toNat=0 by lia];rfl
 have g:(c:Int)<b-1:=by lia
 obtain⟨q,e⟩:∃q:Nat,b-1-1-(c:Int)=q:=⟨(b-1-1-(c:Int)).toNat,by lia⟩
 obtain⟨p,f⟩:∃p:Nat,a-2*(c:Int)=p+2:=⟨(a-2*(c:Int)-2).toNat,by lia⟩
 rw[zbbq (c:=c+1) (by lia) (by lia),zbbq (by lia) g,show(b-1-(c:Int)).toNat=q+1 by lia,show(b-1-1-(c:Int)).toNat=q by lia,show(b-1-((c+1:Nat):Int)).toNat=q by lia,
  show(a-2*(c:Int)).toNat=p+1+1 by lia,show(a-1-2*(c:Int)).toNat=p+1 by lia,show(a-2*((c+1:Nat):Int)).toNat=p by lia,pas,pas]
 cases sb q (p+1+1)<;>cases sb q (p+1)<;>cases sb q p<;>rfl
def cs(b a:Int) (N:Nat) (φ:Row->Nat) (m:Row):Nat:=xr (List.range N) λc=>if co b a c=true then T c (T (a+b-c) φ) m else 0
theorem zpm:∀{N:Nat},k<N->(∀c,c≠k->f c=0)->xr (List.range N) f=f k
 |0,h,_=>by lia
 |N+1,h,z=>by
  rw[zbeq];by_cases c:k=N
  ·rw[zk (g:=λ_=>0) λx a=>z x (by have:=xbi.mp a;lia),zfi,xip,c]
  ·rw[zpm (by lia) z,z N (by lia),xfp]
theorem zbpx{b a:Int}{N:Nat}(φ:Row->Nat)(m:Row)(e:0<=b)(h:2*b<=a)(d:a<=2*b+1)(i:b<N):cs b a N φ m=T b (T a φ) m:=by
 obtain⟨k,rfl⟩:∃k:Nat,b=k:=⟨b.toNat,by lia⟩
 unfold cs;rw[zpm (k:=k) (by lia) λc f=>?_,ztd h rfl,if_pos rfl,show a+(k:Int)-k=a by lia];by_cases g:(c:Int)<k
 ·rw[zbqa h g];rfl
 ·rw[zbbr (by lia)];rfl
def AD(m:Row):Prop:=∀(φ:Row->Nat) (a b:Int) (N:Nat),a<=2*b+1->b<N->T b (T a φ) m=cs b a N φ m
theorem zbpy{b a:Int}{N:Nat}(φ:Row->Nat)(m:Row)(h:a<0):cs b a N φ m=0:=by
 unfold cs;rw[zk (g:=λ_=>0) λc _=>by rw[zji (by lia)];rfl,zfi]
theorem zbqs(d:Nn m)(φ:Row->Nat) (h:a<0):T b (T a φ) m=0:=by
 rw[zyd (ψ:=λ_=>0) λx c=>zbrk (znq m d x c) h,zbqv]
theorem zbqr{e:Nat}(l:Nn (r++[(e:Int)]))(f:AD (r++[(e:Int)])):AD (r++[(e:Int)+1]):=λφ a b N h i=>by
 have j:Nn (r++[(e:Int)+1]):=λx s=>by
  rcases xca.mp s with z|z
  ·exact l x (xhb _ z)
  ·rw[xbz.mp z];lia
 by_cases a0:a<0
 ·rw[zbpy _ _ a0,zbqs j _ a0]
 by_cases ap:2*b<=a
 ·by_cases b0:0<=b
  ·rw[zbpx _ _ b0 ap h i]
  ·lia
 obtain⟨M,rfl⟩:∃M,N=M+1:=⟨N-1,by lia⟩
 rw[zbxh];generalize hm:r++[(e:Int)]=m at *
 rw[f (up φ) a b (M+1) h i,f (up (up φ)) (a-1) b (M+1) (by lia) i,f (up (up φ)) a (b-1) (M+1) (by lia) (by lia),f _ (a-2) (b-1) (M+1) (by lia) (by lia)];have n:cs b a (M+1) φ (r++[(e:Int)+1])=((cs b a (M+1) (up φ) m)^^^xr (List.range (M+1)) λc=>if co b a c=true then T c (T (a+b-1-c) (up (up φ))) m else 0) ^^^
   ((xr (List.range (M+1)) λc=>if co b a (c+1)=true then T c (T (a+b-1-c) (up (up φ))) m else 0)^^^xr (List.range (M+1)) λc=>if co b a (c+1)=true then T c (T (a-2+(b-1)-c) (up (up (up (up φ))))) m else 0):=by
  have p:∀Z:Nat->Nat,(xr (List.range (M+1)) λc=>if co b a (c+1)=true then Z (c+1) else 0)=xr (List.range (M+1)) λc=>if co b a c=true then(if c=0 then 0 else Z c) else 0:=λZ=>by
   rw[zbeq,zbbr (c:=M+1) (by lia),zyg];simp
  have q:=p λc=>T ((c:Int)-1) (T (a+b-c) (up (up φ))) m
  have o:=p λc=>T ((c:Int)-1) (T (a+b-c-2) (up (up (up (up φ))))) m
  rw[zk (g:=λc=>if co b a (c+1)=true then T c (T (a+b-1-c) (up (up φ))) m else 0) λc _=>by
   show(if co b a (c+1)=true then T (((c+1:Nat):Int)-1) (T (a+b-((c+1:Nat):Int)) (up (up φ))) m else 0)=_
   rw[show((c+1:Nat):Int)-1=c by lia,show a+b-((c+1:Nat):Int)=a+b-1-c by lia]] at q
  rw[zk (g:=λc=>if co b a (c+1)=true then T c (T (a-2+(b-1)-c) (up (up (up (up φ))))) m else 0) λc _=>by
   show(if co b a (c+1)=true then T (((c+1:Nat):Int)-1) (T (a+b-((c+1:Nat):Int)-2) _) m else 0)=_
   rw[show((c+1:Nat):Int)-1=c by lia,show a+b-((c+1:Nat):Int)-2=a-2+(b-1)-c by lia]] at o
  rw[q,o];unfold cs;rw[←zhs,←zhs,←zhs];refine zk λc _=>?_
  by_cases hc:co b a c=true
  ·rw[if_pos hc,if_pos hc,if_pos hc,if_pos hc,if_pos hc,zbxh,hm,show a+b-(c:Int)-1=a+b-1-c by lia];by_cases c0:c=0
   ·subst c0;rw[if_pos rfl,if_pos rfl,zbrk (k:=((0:Nat):Int)-1) l (by lia),zbrk (k:=((0:Nat):Int)-1) l (by lia)]
   ·rw[if_neg c0,if_neg c0]
  ·rw[if_neg hc,if_neg hc,if_neg hc,if_neg hc,if_neg hc,xhv]
 rw[n];have d:cs (b-1) (a-2) (M+1) (up (up (up (up φ)))) m=xr (List.range (M+1)) λc=>if co b a (c+1)=true then T c (T (a-2+(b-1)-c) (up (up (up (up φ))))) m else 0:=by
  unfold cs;exact zk λc _=>by rw[zbqb]
 have two:cs b (a-1) (M+1) (up (up φ)) m^^^cs (b-1) a (M+1) (up (up φ)) m=(xr (List.range (M+1)) λc=>if co b a c=true then T c (T (a+b-1-c) (up (up φ))) m else 0)^^^xr (List.range (M+1)) λc=>if co b a (c+1)=true then T c (T (a+b-1-c) (up (up φ))) m else 0:=by
  unfold cs;rw[←zhs,←zhs];refine zk λc _=>?_
  rw[show a-1+b-(c:Int)=a+b-1-c by lia,show a+(b-1)-(c:Int)=a+b-1-c by lia,xif,xif,zbvr (by lia)]
 rw[d,xdl,←xdl (cs b (a-1) _ _ _),two];simp only[xdl]
theorem adem:∀m:Row,Nn m->AD m:=zty
 (λφ a b N h g=>by
  by_cases a0:a<0
  ·rw[zbpy _ _ a0,zbqs (λx d=>absurd d (by simp)) _ a0]
  unfold cs;rw[zbkm,zbkm];by_cases b0:0<=b
  ·rw[zpm (k:=0) (by lia) λc j=>by rw[zbkm,if_neg (show ¬ (c:Int)=0 by lia)];split<;>rfl,zbkm,zbkm];by_cases bz:b=0
   ·subst bz;rw[ztd (by lia) (by lia)];simp
   ·rw[if_neg bz,if_neg (show ¬ a+b-((0:Nat):Int)=0 by lia)];simp
  ·lia)
 (λr i f φ a b N h g=>by
  unfold cs;rw[zja,show(λu:Row=>T a φ (u++[0]))=T a (λu=>φ (u++[0])) from funext λu=>zja a φ u,f _ a b N h g];unfold cs;refine zk λc _=>?_
  rw[zja,show(λu:Row=>T (a+b-c) φ (u++[0]))=T (a+b-c) (λu=>φ (u++[0])) from funext λu=>zja _ φ u])
 (λr e i f=>zbqr (λx d=>by
  rcases xca.mp d with z|z
  ·exact i x z
  ·rw[xbz.mp z];lia) f)
def Rows(n:Nat) (l:List Row):Prop:=∀r∈l,r.length=n/\∀x∈r,0<=x
theorem zlg{a:List Pt}(z:e<=1000)(C:a.length*(e+1)<=100000)(u:∀p∈a,p.1.length<=1000/\0<=p.2)
  (k:∀l o q g,I [a0,a1,a2,a3,some (.lst ((lawL e a).map ptD)),some (.int e),l,o,q] (au++g)):
  WP (zcx [a0,a1,a2,a3,some (.lst (a.map ptD)),some (.int e),v6,v7,v8] au) (loopK I Q):=by
 unfold zcx;simp only[W,V,Dd.N];refine⟨small _ (by simp),?_⟩;refine zdj (λi σ s=>(∃v w,σ=[a0,a1,a2,a3,some (.lst (a.map ptD)),some (.int e),some (.ref au.length),v,w])/\s=au++[.lst ((lawL e (a.take i)).map ptD)]) ⟨⟨_,_,rfl⟩,rfl⟩ ?_ ?_
 ·rintro i y σ s t ⟨⟨v,w,rfl⟩,rfl⟩;obtain⟨p,b,rfl⟩:=zjw t;have m:i<a.length:=(xbh.mp b).1;obtain⟨d,n⟩:=u p (xbu b);refine⟨_,rfl,?_⟩;have c:(lawL e (a.take i)).length+(e+1)<=100000:=by
   have r:=zot e (a.take i);have f:(a.take i).length=i:=by rw[xcx];lia
   rw[f] at r;have d:(i+1)*(e+1)<=a.length*(e+1):=xeg _ m;rw[xjs] at d;lia
  have E:=zwd e p;unfold zfb;simp only[W,V,L,zkk];refine⟨_,_,rfl,by simp;rfl,_,rfl,rngN (by split<;>lia) (by split<;>lia),by rw[zbh];exact small _ (by split<;>lia),?_⟩;unfold rng;refine zth (as:=List.range ((if p.2<(e:Int) then p.2 else(e:Int))+1).toNat) (λσ=>∃v,σ=[v,some (aL p.1),some (.int p.2),some (.int e)]) (λx=>decide (e&&&x=x)) (λj:Nat=>ptD (p.1++[(e:Int)+(j:Int)],p.2-(j:Int))) (λi=>.int (0+(i:Int))) ⟨_,rfl⟩ ?_ ?_
  ·rintro j A σ ⟨v,rfl⟩;refine⟨_,rfl,⟨_,rfl⟩,?_,λ_=>?_⟩
   ·simp only[W,V];rw[xht,K07.znk];refine⟨trivial,trivial,?_⟩;exact xho.mpr ⟨λh=>by lia,λh=>by lia⟩
   ·simp only[W,V,Dd.N];rw[xht];refine⟨small _ (by simp),by rw[xbc];exact small _ (by simp;lia),small _ (by simp),?_⟩;simp[ptD,aL]
  ·rw[zmk n];refine⟨_,_,_,rfl,by simp;rfl,rfl,?_,⟨_,_,rfl⟩,?_⟩
   ·rw[xbc,xbc];have:(sharesL e 0 p.2).length<=e+1:=zhy _ _ _ _;exact small _ (by lia)
   ·rw[zf b,zbaq];unfold lawJ;simp[xcz,Function.comp_def]
 ·rintro σ s ⟨⟨v,w,rfl⟩,rfl⟩;rw[xbc,xce];simp only[W,V,M,Dd.N,L];refine⟨_,_,rfl,by simp;rfl,?_⟩;have:=k (some (.ref au.length)) v w [.dead]
  simpa using this
theorem zbui(a:Row)(b:List Row):oInG neg (aL a) (aK b) au=.ok (.bl (if neg then !decide (a∈b) else decide (a∈b))) au:=by
 unfold oInG;rw[zwx,zoy];dsimp only;rw[if_pos ⟨zkd a,zdo b⟩];have e:((b.map dRow).any λy=>PyData.eqv y (dRow a))=decide (a∈b):=by
  rw[List.any_map,xfr,xin,xhw];constructor
  ·rintro⟨x,c,h⟩;have h:PyData.eqv (dRow x) (dRow a)=true:=h;rw[ziw] at h;have:=xdh h;subst this;exact c
  ·intro h;refine⟨a,h,?_⟩;show PyData.eqv (dRow a) (dRow a)=true;rw[ziw];simp
 rw[e]
theorem zbgr(b:seqV x=some (aJ l))(a:FewU l)(k:∀g,Q (aK (aO l)) (au++g)):WP (zfu [x] au) Q:=by
 refine zkj rfl ?_;simp only[W,V];refine⟨_,b,?_⟩;refine zdj (λi σ s=>(∃v,σ=[some x,some (.ref au.length),v])/\s=au++[.dT (aQ (aN (l.take i)))]) ⟨⟨_,rfl⟩,rfl⟩ ?_ ?_
 ·rintro i y σ s d ⟨⟨v,rfl⟩,rfl⟩;obtain⟨r,e,rfl⟩:=zbj d;refine⟨_,rfl,?_⟩;unfold zhe;simp only[W,V,L];refine zbdy (ks:=aN (l.take i)) (by simp) (a.sub λz c=>xed c).odd ⟨⟨_,rfl⟩,?_⟩;rw[zf e];unfold aN;rw[xfl];simp
 ·rintro σ s ⟨⟨v,rfl⟩,rfl⟩;rw[zd,xce];simp only[W,V];refine zpw (ks:=aN l) (by simp) a.odd ?_;simp only[W,V];exact k _
theorem small16(h:n<=16000000):n<=sizeLine:=by rw[xha];lia
theorem zbcc{b a:List Row}(d:b.length+a.length<=16000000)(c:FewU (b++a))(k:∀g,Q (aK (aO (b++a))) (au++g)):WP (zno [aK b,aK a] au) Q:=by
 refine zkj rfl ?_;simp only[W,V];refine⟨by rw[zd,zd];exact small16 d,?_⟩;exact zbgr (l:=b++a) (by simp[seqV,aJ]) c k
theorem zup(t:Int)(l:List Row)(i:Nat):∀x∈raiseL t (l.take i),x∈raiseL t l:=λx a=>by
 obtain⟨r,b,a⟩:=xcu.mp a;exact xcu.mpr ⟨r,xed b,a⟩
theorem zun(A:0<=t)(q:∀r∈l,∀x∈r,0<=x/\x<=1000)(o:∀r∈l,r.length<=1000)(n:∀r∈l,box r<=20000)(m:FewU (raiseL t l))(k:∀g,Q (aK (aO (raiseL t l))) (au++g)):WP (zgs [aK l,.int t] au) Q:=by
 refine zkj rfl ?_;simp only[W,V,Dd.N];refine WP.of (zgk (au:=au) (i:=t)) ⟨true,rfl,?_⟩;have u:¬ t<0:=by lia
 simp only[W,V,Dd.N,u,xir];refine zdj (λi σ s=>(∃v w,σ=[some (aK l),some (.int t),some (.ref au.length),v,w])/\∃g,s=au++(.dT (aQ (aN (raiseL t (l.take i))))::g)) ⟨⟨_,_,rfl⟩,[],rfl⟩ ?_ ?_
 ·rintro i y σ s h ⟨⟨v,w,rfl⟩,g,rfl⟩;obtain⟨r,a,rfl⟩:=zbj h;have e:=xbu a;refine⟨_,rfl,?_⟩;unfold zkh;simp only[W,V,M,Dd.N,L];refine⟨r,zdf r,?_⟩;rw[zf a,zjo];split
  ·rename_i c;have d:raiseR t r=prodP r t:=by unfold raiseR;rw[if_pos c]
   rw[d];refine zhg (q r e) (o r e) (n r e) λp=>?_
   simp only[W,V,Dd.N];rw[xcc,xio];generalize g++p=g3;refine zdj (λj σ s=>(∃w,σ=[some (aK l),some (.int t),some (.ref au.length),some (aL r),w])/\s=au++(.dT (aQ (aN (raiseL t (l.take i)++(prodP r t).take j)))::g3)) ⟨⟨_,rfl⟩,by rw[xmw,xec]⟩ ?_ ?_
   ·rintro j y σ s h ⟨⟨w,rfl⟩,rfl⟩;obtain⟨b,f,rfl⟩:=zbj h;refine⟨_,rfl,?_⟩;unfold zki;simp only[W,V,L];refine zbdy (ks:=aN (raiseL t (l.take i)++(prodP r t).take j)) (zfp _ _) (m.sub λz hz=>?_).odd ⟨⟨_,rfl⟩,?_⟩
    ·rcases xca.mp hz with hz|hz
     ·exact zup t l i z hz
     ·exact xcu.mpr ⟨r,e,by rw[d];exact xed hz⟩
    ·rw[zjn,zf f,←xcc];unfold aN;rw[xfl (l':=[b])]
     rfl
   ·rintro σ s ⟨⟨w,rfl⟩,rfl⟩;simp only[L];refine⟨⟨_,_,rfl⟩,g3,?_⟩;rw[zd,xce]
  ·rename_i c;have d:raiseR t r=[]:=by unfold raiseR;rw[if_neg c]
   rw[d,xec]
   try simp only[L]
   exact⟨⟨_,_,rfl⟩,g,rfl⟩
 ·rintro σ s ⟨⟨v,w,rfl⟩,g,rfl⟩;rw[zd,xce];simp only[W,V];refine zpw (ks:=aN (raiseL t l)) (zfp _ _) m.odd ?_;simp only[W,V];exact k _
def Ge:Row->Row->Prop
 |[],[]=>True
 |p::ps,v::vs=>p<=v/\Ge ps vs
 |_,_=>False
theorem Ge.refl:∀p:Row,Ge p p
 |[]=>trivial
 |p::ps=>⟨xnb _,Ge.refl ps⟩
theorem Ge.trans:∀{a b c:Row},Ge a b->Ge b c->Ge a c
 |[],[],[],_,_=>trivial
 |_::_,_::_,_::_,h1,h2=>⟨xmg h1.1 h2.1,Ge.trans h1.2 h2.2⟩
theorem Ge.len:∀{a b:Row},Ge a b->b.length=a.length
 |[],[],_=>rfl
 |_::_,_::_,h=>by rw[xbw,xbw,Ge.len h.2]
theorem Ge.append:∀{a b c d:Row},Ge a b->Ge c d->Ge (a++c) (b++d)
 |[],[],_,_,_,h=>h
 |_::_,_::_,_,_,h1,h2=>⟨h1.1,Ge.append h1.2 h2⟩
theorem Ge.sum:∀{a b:Row},Ge a b->a.sum<=b.sum
 |[],[],_=>xnb _
 |_::_,_::_,h=>by
  have:=Ge.sum h.2;have:=h.1;rw[xcs,xcs];lia
theorem Ge.pos:∀{a b:Row},Ge a b->(∀x∈a,0<=x)->∀x∈b,0<=x
 |[],[],_,h,x,hx=>h x hx
 |p::a,v::b,h,ha,x,hx=>by
  rcases xbm.mp hx with rfl|hx
  ·have:=ha p xbr;have:=h.1;lia
  ·exact Ge.pos h.2 (λy c=>ha y (xbf _ c)) x hx
def vle:Row->Nat->List Row
 |[],_=>[[]]
 |p::ps,K=>(List.range (K+1)).flatMap λj:Nat=>(vle ps (K-j)).map ((p+(j:Int))::·)
noncomputable def cle:Nat->Nat->Nat
 |0,_=>1
 |n+1,K=>((List.range (K+1)).map λj=>cle n j).sum
noncomputable def acc:Nat->List Nat->List Nat
 |_,[]=>[]
 |s,a::l=>(s+a)::acc (s+a) l
def tb:Nat->List Nat
 |0=>List.replicate 17 1
 |n+1=>acc 0 (tb n)
def ctb(n K:Nat):Nat:=(tb n).getD K 0
theorem zbem:∀{l:List Nat}{s i:Nat},i<l.length->(acc s l)[i]?=some (s+(l.take (i+1)).sum)
 |[],_,_,h=>by simp at h
 |a::l,s,0,_=>by simp[acc]
 |a::l,s,i+1,h=>by
  have:=zbem (l:=l) (s:=s+a) (i:=i) (by simpa using h);unfold acc;rw[xhi,this,List.take_succ_cons,xcs,xnl]
theorem zbel:∀(l:List Nat) (s:Nat),(acc s l).length=l.length
 |[],_=>rfl
 |a::l,s=>by unfold acc;rw[xbw,xbw,zbel l]
theorem zbez:∀n,(tb n).length=17
 |0=>rfl
 |n+1=>by unfold tb;rw[zbel,zbez n]
theorem zbla:∀n:Nat,tb n=(List.range 17).map (cle n)
 |0=>rfl
 |n+1=>by
  apply xic;intro i;by_cases h:i<17
  ·have e:=zbem (l:=tb n) (s:=0) (i:=i) (by rw[zbez];exact h);unfold tb;rw[e,zbla n,xco,xmr h,←List.map_take,List.take_range,xen (by lia),xel]
   rfl
  ·rw[xez (by rw[zbez];lia),xez (by simp;lia)]
theorem zwz{K:Nat}(h:K<17):ctb n K=cle n K:=by
 unfold ctb;rw[zbla,xbg,xco,xmr h]
 rfl
theorem zbfa(f:Nat->Nat):∀K:Nat,((List.range (K+1)).map λj=>f (K-j)).sum=((List.range (K+1)).map f).sum:=λK=>by
 have e:((List.range (K+1)).map λj=>f (K-j))=((List.range (K+1)).map f).reverse:=by
  apply xjv
  ·simp
  ·intro i a b;simp at a b ⊢
 rw[e,List.sum_reverse]
theorem zov{α β:Type}(f:α->List β):∀l:List α,(l.flatMap f).length=(l.map λa=>(f a).length).sum
 |[]=>rfl
 |a::l=>by rw[xjl,xbl,zov f l,xbq,xcs]
theorem ztk:∀(p:Row) (K:Nat),(vle p K).length=cle p.length K
 |[],_=>rfl
 |p::ps,K=>by
  show((List.range (K+1)).flatMap λj:Nat=>(vle ps (K-j)).map ((p+(j:Int))::·)).length=((List.range (K+1)).map λj=>cle ps.length j).sum;rw[zov,←zbfa (cle ps.length)]
  congr 1
  refine xea λj _=>?_
  rw[xbc,ztk ps]
theorem zme:∀{p v:Row}{K:Nat},Ge p v->v.sum<=p.sum+K->v∈vle p K
 |[],[],K,_,_=>by simp[vle]
 |p::ps,v::vs,K,h,hs=>by
  have a:=h.1;have b:=h.2.sum;rw[xcs,xcs] at hs;refine xcu.mpr ⟨(v-p).toNat,xbi.mpr (by lia),xbt.mpr ⟨vs,zme h.2 (by lia),?_⟩⟩;rw[show p+((v-p).toNat:Int)=v by lia]
theorem zrx:∀{p v:Row}{K:Nat},v∈vle p K->Ge p v/\v.sum<=p.sum+K
 |[],v,K,h=>by
  simp[vle] at h;subst h;exact⟨trivial,by simp⟩
 |p::ps,v,K,h=>by
  obtain⟨j,a,h⟩:=xcu.mp h;obtain⟨w,c,rfl⟩:=xbt.mp h;obtain⟨b,d⟩:=zrx c;have a:=xbi.mp a;refine⟨⟨by lia,b⟩,?_⟩;rw[xcs,xcs];lia
theorem zbet(r:Row):∀x∈wholeS r,Ge r x:=by
 have:=zpo (P:=λm s=>∀x∈s,Ge m x) (by simp;exact trivial) (λm e s d=>?_) r r.length
 ·rw[xce] at this;exact this
 ·intro x a;unfold wholeStep longL at a;obtain⟨b,f,a⟩:=xcu.mp a;obtain⟨y,c,rfl⟩:=xbt.mp a;have:=(zbgp c).1;exact(d b f).append ⟨by lia,trivial⟩
theorem zuq(h:∀y∈r,0<=y)(d:0<=k)(a:x∈raiseR k r):Ge r x/\x.sum=r.sum+k:=by
 rw[zfj h d] at a;obtain⟨b,c⟩:=xcj.mp a;exact⟨zbet r x b,by simpa using c⟩
theorem zble(e:Nat)(lo a:Int)(n:Nat):(subL e lo a n).Nodup:=xkd _ xil
theorem zbmu(e:Nat):(outL e).Nodup:=by
 unfold outL;rw[xfc,xln];have:=zble e 0 e (e+1);rw[xfc] at this;exact this.imp λh=>by lia
theorem zbny{c:List Row}{xs:List Int}(f:c.Nodup)(d:xs.Nodup):(longL c xs).Nodup:=by
 rw[xig];intro x;rcases List.eq_nil_or_concat x with rfl|⟨a,b,rfl⟩
 ·have:[]∉longL c xs:=λh=>by
   unfold longL at h;obtain⟨e,_,h⟩:=xcu.mp h;obtain⟨y,_,h⟩:=xbt.mp h;simp at h
  rw[xgk.mpr this];lia
 ·rw[List.concat_eq_append,zng];have g:=xig.mp f a;have i:=xig.mp d b;exact xbb (Nat.mul_le_mul g i) (by decide)
theorem zbes(r:Row):(wholeS r).Nodup:=by
 have:=zpo (P:=λm s=>s.Nodup) (by simp) (λm e s a=>zbny a (zbmu _)) r r.length
 rwa [xce] at this
theorem zzk{k:Nat}(h:∀y∈r,0<=y):(raiseR (k:Int) r).length<=cle r.length k:=by
 rw[←ztk];refine xee ?_ λx b=>?_
 ·rw[zfj h (by lia)];exact(zbes r).filter _
 ·obtain⟨a,c⟩:=zuq h (by lia) b;exact zme a (by lia)
theorem zbea:∀e:Nat,3*((e+1)*2^e)<=4*3^e
 |0=>by decide
 |1=>by decide
 |e+2=>by
  have a:=zbea (e+1);rw[xkx 2 (e+1),xkx 3 (e+1)];have h:(e+2+1)*(2^(e+1)*2)<=((e+1+1)*2^(e+1))*3:=by
   rw[xok (2^(e+1)) 2,←xkg,xok ((e+1+1)*2^(e+1)) 3,←xkg];exact xeg _ (by lia)
  lia
theorem zxl:∀{r:Row},(∀x∈r,0<=x)->3^r.length*(box r*2^r.sum.toNat)<=4^r.length*3^r.sum.toNat
 |[],_=>by simp[box]
 |e::r,h=>by
  have k:=h e xbr;have a:=λx c=>h x (xbf e c)
  have g:=zxl a;have j:=zii a;have i:=zbea e.toNat;have f:(e::r).sum.toNat=e.toNat+r.sum.toNat:=by rw[xcs];lia
  rw[f,Nat.pow_add,Nat.pow_add,xbw,xkx,xkx];show 3^r.length*3*((e.toNat+1)*box r*(2^e.toNat*2^r.sum.toNat))<=4^r.length*4*(3^e.toNat*3^r.sum.toNat)
  have m:=Nat.mul_le_mul g i;have b:3^r.length*3*((e.toNat+1)*box r*(2^e.toNat*2^r.sum.toNat))=3^r.length*(box r*2^r.sum.toNat)*(3*((e.toNat+1)*2^e.toNat)):=by
   simp only[xkg,xok,Nat.mul_left_comm]
  have d:4^r.length*4*(3^e.toNat*3^r.sum.toNat)=4^r.length*3^r.sum.toNat*(4*3^e.toNat):=by
   simp only[xkg,xok,Nat.mul_left_comm]
  rw[b,d];exact m
theorem zbie:(List.range 11).all (λn=>(List.range 18).all λs=>Nat.blt (4^n*3^s) (3^n*(20001*2^s)))=true:=by decide +kernel
theorem zbqj{r:Row}(g:r.length<=10)(h:∀x∈r,0<=x)(e:r.sum<=17):box r<=20000:=by
 have b:=zxl h;have a:=xbx.mp (xbx.mp zbie r.length (xbi.mpr (by lia))) r.sum.toNat (xbi.mpr (by lia));have a:4^r.length*3^r.sum.toNat<3^r.length*(20001*2^r.sum.toNat):=Nat.blt_eq.mp a;have c:=xdg b a;have d:=xob c;have f:=xno d;lia
theorem zxk:(List.range 32).all (λa=>(List.range 32).all λb=>Nat.ble ((a+1)*((b+1)*(31-a-b+1))) 20000)=true:=by decide +kernel
theorem zgq(h:a+b+c<=31):(a+1)*((b+1)*(c+1))<=20000:=by
 have d:=xbx.mp (xbx.mp zxk a (xbi.mpr (by lia))) b (xbi.mpr (by lia));have d:(a+1)*((b+1)*(31-a-b+1))<=20000:=xml.mp d;exact xbb (Nat.mul_le_mul_left _ (Nat.mul_le_mul_left _ (by lia))) d
theorem zbqi:∀{r:Row},r.length<=3->(∀x∈r,0<=x)->r.sum<=31->box r<=20000
 |[],_,_,_=>by simp[box]
 |[a],_,h,s=>by
  have:=zgq (a:=a.toNat) (b:=0) (c:=0) (by simp at s;lia)
  simpa [box] using this
 |[a,b],_,h,s=>by
  have d:=h a (by simp);have e:=h b (by simp);have:=zgq (a:=a.toNat) (b:=b.toNat) (c:=0) (by simp at s;lia)
  simpa [box] using this
 |[a,b,c],_,h,s=>by
  have d:=h a (by simp);have e:=h b (by simp);have f:=h c (by simp);have:=zgq (a:=a.toNat) (b:=b.toNat) (c:=c.toNat) (by simp at s;lia)
  simpa [box] using this
 |_::_::_::_::_,h,_,_=>by simp at h
structure KX (n K:Nat) (some:List Row):Prop where
 rows:Rows n some
 big:(n<=3/\K<=16/\some.length<=40/\∀p∈some,p.sum+K<=32)\/(n<=10/\K<=8/\some.length<=12/\∀p∈some,p.sum+K<=18)
def UU(some:List Row) (T:Nat):List Row:=some.flatMap λp=>vle p T
theorem zrv{some:List Row}{T S:Nat}(h:T<=S){x:Row}(a:x∈UU some T):x∈UU some S:=by
 obtain⟨p,c,a⟩:=xcu.mp a;obtain⟨b,d⟩:=zrx a;exact xcu.mpr ⟨p,c,zme b (by lia)⟩
theorem zbeo{some:List Row}{x:Row}(h:x∈some):x∈UU some 0:=xcu.mpr ⟨x,h,zme (Ge.refl x) (by lia)⟩
theorem zbke{n:Nat}{some:List Row}(h:Rows n some)(T:Nat):(UU some T).length=some.length*cle n T:=by
 unfold UU;rw[zov];have:∀l:List Row,Rows n l->(l.map λp=>(vle p T).length).sum=l.length*cle n T:=λl=>by
  induction l with
  |nil=>intro _;simp
  |cons a l ih=>
   intro h;rw[xbq,xcs,ih λr b=>h r (xbf _ b),ztk,(h a xbr).1,xbw,xjs];lia
 exact this some h
theorem zgr{n:Nat}{some l:List Row}{T k:Nat}(h:Rows n some)(d:∀x∈l,x∈UU some T){x:Row}(a:x∈raiseL (k:Int) l):x∈UU some (T+k):=by
 obtain⟨r,f,a⟩:=xcu.mp a;obtain⟨p,b,g⟩:=xcu.mp (d r f);obtain⟨c,i⟩:=zrx g;obtain⟨e,j⟩:=zuq (c.pos (h p b).2) (by lia) a;exact xcu.mpr ⟨p,b,zme (c.trans e) (by lia)⟩
theorem zbjm:(List.range 4).all (λn=>(List.range 17).all λT=>Nat.ble (40*ctb n T) 600000)=true:=by decide +kernel
theorem zbbs:(List.range 11).all (λn=>(List.range 9).all λT=>Nat.ble (12*ctb n T) 600000)=true:=by decide +kernel
section
variable {n:Nat}{K:Nat}{some:List Row}
theorem KX.top(h:KX n K some){T:Nat}(e:T<=K):(UU some T).length<=600000:=by
 rw[zbke h.rows];rcases h.big with⟨d,b,a,c⟩|⟨d,b,a,c⟩
 ·have:=xml.mp (xbx.mp (xbx.mp zbjm n (xbi.mpr (by lia))) T (xbi.mpr (by lia)));rw[zwz (by lia)] at this;exact xbb (xeg _ a) this
 ·have:=xml.mp (xbx.mp (xbx.mp zbbs n (xbi.mpr (by lia))) T (xbi.mpr (by lia)));rw[zwz (by lia)] at this;exact xbb (xeg _ a) this
theorem KX.few(h:KX n K some){T:Nat}(a:T<=K){l:List Row}(b:∀x∈l,x∈UU some T):FewU l:=FewU.of b (by have:=h.top a;lia)
theorem KX.len(h:KX n K some){T:Nat}(c:T<=K){l:List Row}(a:l.Nodup)(d:∀x∈l,x∈UU some T):l.length<=600000:=xbb (xee a λx b=>d x b) (h.top c)
theorem KX.item(h:KX n K some){T:Nat}(o:T<K){x:Row}(g:x∈UU some T):x.length=n/\(∀y∈x,0<=y/\y<=1000)/\box x<=20000:=by
 obtain⟨p,d,l⟩:=xcu.mp g;obtain⟨f,m⟩:=zrx l;have a:=f.pos (h.rows p d).2;have c:=f.len.trans (h.rows p d).1;rcases h.big with⟨i,k,j,e⟩|⟨i,k,j,e⟩
 ·have:=e p d;refine⟨c,λy b=>⟨a y b,?_⟩,zbqi (by lia) a (by lia)⟩;have:=zbrg a y b;lia
 ·have:=e p d;refine⟨c,λy b=>⟨a y b,?_⟩,zbqj (by lia) a (by lia)⟩;have:=zbrg a y b;lia
end
theorem zqc:∀{l:List Row},(∀r∈l,(raiseR k r).length<=B)->(raiseL k l).length<=l.length*B
 |[],_=>by simp[raiseL]
 |a::l,h=>by
  have e:=h a xbr;have d:=zqc (l:=l) λb c=>h b (xbf _ c)
  unfold raiseL at d ⊢;rw[xjl,xbl,xbw,xjs];lia
section
variable {au:Store}{Q:D->Store->Prop}{n:Nat}{K:Nat}{some:List Row}
theorem zuo(h:KX n K some){T k:Nat}(f:1<=k)(e:T+k<=K){l:List Row}(c:∀x∈l,x∈UU some T)(q:∀g,Q (aK (aO (raiseL (k:Int) l))) (au++g)):WP (zgs [aK l,.int (k:Int)] au) Q:=
 zun (by lia) (λr a=>(h.item (by lia) (c r a)).2.1) (λr a=>by rw[(h.item (by lia) (c r a)).1];rcases h.big with b|b<;>lia) (λr a=>(h.item (by lia) (c r a)).2.2) (h.few e λx d=>zgr h.rows c d) q
end
def R(a:Row) (l:List Row):List Row:=a.foldr raiseL l
def doneL(a l:List Row):List Row:=a.flatMap λb=>R b l
theorem zbwk(a:Row)(k:Int)(l:List Row):R (a++[k]) l=R a (raiseL k l):=by unfold R;rw[List.foldr_append];rfl
theorem zbxi:∀(c:Row) {a b:List Row},(∀x,a.count x%2=b.count x%2)->∀x,(R c a).count x%2=(R c b).count x%2
 |[],_,_,h=>h
 |k::c,_,_,h=>zqb k (zbxi c h)
theorem zbqw:∀a:Row,R a []=[]
 |[]=>rfl
 |k::a=>by show raiseL k (R a [])=[];rw[zbqw a];rfl
theorem zbbg(b:List Row):doneL b []=[]:=by
 unfold doneL
 induction b with
 |nil=>rfl
 |cons a b ih=>rw[xjl,zbqw,ih];rfl
theorem znu{α:Type}:∀l:List α,tot l (λ_=>0)=0
 |[]=>rfl
 |a::l=>by rw[zbg,znu l]
theorem zbci(c:Nat):∀{f:List Int},f.Nodup->k∈f->tot f (λj=>if k=j then c else 0)=c
 |[],_,h=>by cases h
 |j::f,nd,h=>by
  have b:=xdf.mp nd;rw[zbg];by_cases e:k=j
  ·subst e;have:tot f (λj=>if k=j then c else 0)=0:=by
    rw[zyv (d:=λ_=>0) λa g=>if_neg λz:k=a=>b.1 (z ▸ g),znu]
   rw[if_pos rfl,this];lia
  ·rcases xbm.mp h with h|h
   ·exact absurd h e
   ·rw[if_neg e,zbci c b.2 h];lia
theorem ztt{α:Type}(d:α->Int)(c:α->Nat){f:List Int}(g:f.Nodup):∀{L:List α},(∀a∈L,d a∈f)->tot L c=tot f λk=>tot (L.filter λa=>decide (d a=k)) c
 |[],_=>(znu f).symm
 |a::L,h=>by
  have j:=ztt d c g (L:=L) λb i=>h b (xbf _ i)
  have e:(λk=>tot ((a::L).filter λb=>decide (d b=k)) c)=λk=>(if d a=k then c a else 0)+tot (L.filter λb=>decide (d b=k)) c:=funext λk=>by
   by_cases q:d a=k
   ·rw[xcn (by simpa using q),zbg,if_pos q]
   ·rw[xcq (by simpa using q),if_neg q,xel]
  rw[zbg,e,zbcj,zbci (c a) g (h a xbr),j]
theorem zps{α:Type}(p:α->Bool)(c:α->Nat):∀L:List α,tot L c=tot (L.filter p) c+tot (L.filter λa=>!p a) c
 |[]=>rfl
 |a::L=>by
  rw[zbg,zps p c L];by_cases q:p a=true
  ·rw[xcn q,xcq (by rw[q];decide),zbg];lia
  ·rw[xcq q,xcn (by simpa using q),zbg];lia
abbrev full(r:Row):Bool:=!r.isEmpty
abbrev lastD(r:Row):Int:=r.getLastD 0
def lasts(a:List Row):List Int:=sortI (once ((a.filter full).map lastD))
def ahead(k:Int) (a:List Row):List Row:=(a.filter λr=>full r&&decide (lastD r=k)).map List.dropLast
theorem zbhq(a:List Row):(lasts a).Nodup:=(zia _).nodup_iff.mpr (zqj _)
theorem zho:k∈lasts b↔∃r∈b,r≠[]/\lastD r=k:=by
 unfold lasts;rw[(zia _).mem_iff,zif,xbt];constructor
 ·rintro⟨r,h,e⟩;obtain⟨c,d⟩:=xcj.mp h;exact⟨r,c,by rintro rfl;simp[full] at d,e⟩
 ·rintro⟨r,c,d,e⟩;exact⟨r,xcj.mpr ⟨c,by cases r with|nil=>exact absurd rfl d|cons a r=>rfl⟩,e⟩
theorem zie(h:r≠[]):r.dropLast++[lastD r]=r:=by
 have:lastD r=r.getLast h:=by
  unfold lastD;rw[List.getLastD_eq_getLast?,List.getLast?_eq_some_getLast h]
  rfl
 rw[this];exact List.dropLast_concat_getLast h
theorem zwq{c:List Row}(f:c.Nodup):c.filter (λr=>!full r)=if[]∈c then[[]] else[]:=by
 induction c with
 |nil=>rfl
 |cons a c ih=>
  have d:=xdf.mp f;cases a with
  |nil=>
   rw[xcn rfl,ih d.2,if_neg d.1,if_pos xbr]
  |cons b a=>
   rw[xcq (by simp[full]),ih d.2];have e:([]∈(b::a)::c)=([]∈c):=by simp
   simp only[e]
theorem zwt{b:List Row}(m:b.Nodup)(x:Row):(doneL b l).count x%2=((if[]∈b then l else[])++(lasts b).flatMap λk=>doneL (ahead k b) (aO (raiseL k l))).count x%2:=by
 unfold doneL;rw[zcf,zps full (λr=>(R r l).count x),zwq m,xes,zcf];have g:tot (if[]∈b then[([]:Row)] else[]) (λr=>(R r l).count x)=(if[]∈b then l else[]).count x:=by
  split
  ·rw[zbg,zbkx];rfl
  ·rfl
 have j:tot (b.filter full) (λr=>(R r l).count x)=tot (lasts b) λk=>tot ((b.filter full).filter λr=>decide (lastD r=k)) λr=>(R r l).count x:=ztt lastD _ (zbhq b) λr e=>by
  obtain⟨f,c⟩:=xcj.mp e;exact zho.mpr ⟨r,f,by rintro rfl;simp[full] at c,rfl⟩
 have o:(tot (lasts b) λk=>tot ((b.filter full).filter λr=>decide (lastD r=k)) λr=>(R r l).count x)%2=(tot (lasts b) λk=>((ahead k b).flatMap λd=>R d (aO (raiseL k l))).count x)%2:=zts λk p=>by
  rw[zcf];unfold ahead;rw[zbky,xkv];have h:(b.filter λa=>decide (lastD a=k)&&full a)=b.filter λr=>full r&&decide (lastD r=k):=xfy λr _=>Bool.and_comm _ _
  rw[h];refine zts λr e=>?_
  obtain⟨f,c⟩:=xcj.mp e;rw[xdm,xhw] at c;have i:r≠[]:=by rintro rfl;simp[full] at c
  have n:R r l=R r.dropLast (raiseL k l):=by
   conv=>lhs;rw[←zie i]
   rw[zbwk,c.2]
  rw[n];exact zbxi _ (λz=>(zeg _ z).symm) x
 rw[g,j];lia
structure RowsK (K T:Nat) (rows:List Row):Prop where
 pos:∀r∈rows,∀p∈r,1<=p
 sum:∀r∈rows,r.sum+T<=K
theorem zbxj{n K:Nat}{some:List Row}(h:KX n K some){T:Nat}{l:List Row}(d:∀x∈l,x∈UU some T):∀{row:Row},(∀p∈row,1<=p)->∀x∈R row l,x∈UU some (T+row.sum.toNat)
 |[],_,x,hx=>by simpa using d x hx
 |k::row,hp,x,hx=>by
  have a:=λp a=>hp p (xbf k a)
  have g:=hp k xbr;have f:0<=row.sum:=zii λp b=>by have:=a p b;lia
  have e:=zbxj h d (row:=row) a;obtain⟨c,rfl⟩:=xcv (show 0<=k by lia);have:=zgr h.rows e hx;rw[xcs,show T+((c:Int)+row.sum).toNat=T+row.sum.toNat+c by lia];exact this
theorem zwu{n K:Nat}{some:List Row}(h:KX n K some){T:Nat}{b l:List Row}(e:RowsK K T b)(g:∀x∈l,x∈UU some T):∀x∈doneL b l,x∈UU some K:=λx c=>by
 obtain⟨a,d,c⟩:=xcu.mp c;have:=e.sum a d;have i:0<=a.sum:=zii λp f=>by have:=e.pos a d p f;lia
 exact zrv (by lia) (zbxj h g (e.pos a d) x c)
theorem zfo{K T:Nat}(j:RowsK K T a) (u:k∈lasts a):1<=k/\k+T<=K/\RowsK K (T+k.toNat) (ahead k a):=by
 obtain⟨r,n,h,rfl⟩:=zho.mp u;have part:∀r∈a,r≠[]->1<=lastD r/\(∀p∈r.dropLast,1<=p)/\r.dropLast.sum+lastD r=r.sum:=λr m h=>by
  have e:=zie h;have c:=j.pos r m;rw[←e] at c;refine⟨c _ (by simp),λp l=>c p (xhb _ l),?_⟩
  conv=>rhs;rw[←e]
  rw[xdq,List.sum_singleton]
 obtain⟨t,o,x⟩:=part r n h;have v:0<=r.dropLast.sum:=zii λp c=>by have:=o p c;lia
 have w:=j.sum r n;refine⟨t,by lia,λq i=>?_,λq i=>?_⟩
 ·obtain⟨g,b,rfl⟩:=xbt.mp i;obtain⟨f,d⟩:=xcj.mp b;exact(part g f (by rintro rfl;simp[full] at d)).2.1
 ·obtain⟨g,b,rfl⟩:=xbt.mp i;obtain⟨f,d⟩:=xcj.mp b;rw[xdm,xhw] at d;have s:=(part g f (by rintro rfl;simp[full] at d)).2.2;have y:=j.sum g f;rw[d.2] at s;lia
theorem zbkb:∀{c:List Row},c.Nodup->(ahead k c).Nodup:=λ{c} j=>by
 unfold ahead;rw[xfc,xln];have d:(c.filter λr=>full r&&decide (lastD r=k)).Nodup:=xkd _ j;rw[xfc] at d;refine d.imp_of_mem λ{a b} l h i e=>i ?_
 have f:∀{r:Row},r∈c.filter (λr=>full r&&decide (lastD r=k))->r=r.dropLast++[k]:=λ{r} m=>by
  obtain⟨_,g⟩:=xcj.mp m;rw[xdm,xhw] at g;have:=zie (r:=r) (by rintro rfl;simp[full] at g);rw[g.2] at this;exact this.symm
 rw[f l,f h,e]
theorem zbhz(a:Row)(b:List Row):oInG neg (aL a) (.lst (aJ b)) au=.ok (.bl (if neg then !decide (a∈b) else decide (a∈b))) au:=by
 have d:dataOf au (.lst (aJ b))=some (.list (b.map dRow)):=by
  unfold dataOf now;show toData (.lst (aJ b))=_;rw[toData,zri]
  rfl
 unfold oInG;rw[zwx,d];dsimp only;rw[if_pos ⟨zkd a,zdo b⟩];have e:((b.map dRow).any λy=>PyData.eqv y (dRow a))=decide (a∈b):=by
  rw[List.any_map,xfr,xin,xhw];constructor
  ·rintro⟨x,c,h⟩;have h:PyData.eqv (dRow x) (dRow a)=true:=h;rw[ziw] at h;have:=xdh h;subst this;exact c
  ·intro h;refine⟨a,h,?_⟩;show PyData.eqv (dRow a) (dRow a)=true;rw[ziw];simp
 rw[e]
def SeqR(x:D) (a:List Row):Prop:=x=aK a\/x=.lst (aJ a)
theorem SeqR.in_(h:SeqR x rows)(a:Row):oInG false (aL a) x au=.ok (.bl (decide (a∈rows))) au:=by
 rcases h with rfl|rfl
 ·exact zbui (neg:=false) a rows
 ·exact zbhz (neg:=false) a rows
theorem SeqR.seq(h:SeqR x rows):seqV x=some (aJ rows):=by
 rcases h with rfl|rfl<;>rfl
theorem zwf(h:r≠[]):oIx (aL r) (.int (-1)) au=.ok (.int (lastD r)) au:=by
 conv=>lhs;rw[←zie h]
 refine zkz rfl ?_;rw[xdr];exact zpg _ _
theorem zbbo(h:r≠[]):cutD (r.map D.int) none (some (-1))=r.dropLast.map D.int:=by
 conv=>lhs;rw[←zie h]
 exact zbji _ _
theorem zwk:tru au (aL r)=some (full r):=by
 cases r<;>rfl
theorem zbhp(d:SeqR x a)(l:a.length<=1000)(i:∀r∈a,r≠[]->0<=lastD r/\lastD r<64)(q:Q (.lst ((lasts a).map .int)) au):
  WP (aE bSortSet (aB (aG (aH (aA 0)) 1 [] (gN 0) (eTru (aA 0)) (aS oIx (aA 0) (eUn oNeg (eC (.int 1))))) aC) (some x::σ) au) Q:=by
 simp only[W,V];refine⟨_,d.seq,by rw[zd];exact small _ (by lia),?_⟩;refine zth (as:=a) (λσ=>∃v,σ=[v]) full (λr=>.int (lastD r)) aL ⟨_,rfl⟩ ?_ ?_
 ·rintro r c σ ⟨v,rfl⟩;refine⟨_,rfl,⟨_,rfl⟩,?_,λf=>?_⟩
  ·simp only[W,V];exact⟨_,zwk,trivial,rfl⟩
  ·simp only[W,V];have g:r≠[]:=by rintro rfl;cases f
   exact WP.of (zwf g) ⟨rfl,rfl⟩
 ·have b:=zdf ((a.filter full).map lastD);rw[xcz] at b;have h:bSortSet [.lst ((a.filter full).map λr=>.int (lastD r))] au=.ok (.lst ((lasts a).map .int)) au:=by
   unfold bSortSet;dsimp only;rw[show(asL au (.lst ((a.filter full).map λr=>D.int (lastD r)))).bind asInts=some ((a.filter full).map lastD) from b];dsimp only;rw[if_pos]
   ·rfl
   rw[xbx];intro y k;obtain⟨r,c,rfl⟩:=xbt.mp k;obtain⟨j,e⟩:=xcj.mp c;have:=i r j (by rintro rfl;cases e);unfold smallI;rw[xdm];exact⟨xbp this.1,xbp this.2⟩
  exact WP.of h q
theorem zbka(b:SeqR x rows)(g:rows.length<=1000)(q:Q (.lst (aJ (ahead k rows))) au):
  WP (aG (aH (aA 0)) 1 [3] (gN 0) (bAnd (eTru (aA 0)) (eB (aS oEq (aS oIx (aA 0) (eUn oNeg (eC (.int 1)))) (aA 1)))) (eSl (aA 0) pNone (pSome (eUn oNeg (eC (.int 1))))) (some x::v1::v2::some (.int k)::v4::σ) au) Q:=by
 simp only[W,V];refine⟨_,b.seq,by rw[zd];exact small _ (by lia),?_⟩;refine zth (as:=rows) (λσ=>∃v,σ=[v,some (.int k)]) (λr=>full r&&decide (lastD r=k)) (λr=>aL r.dropLast) aL ⟨_,rfl⟩ ?_ ?_
 ·rintro r f σ ⟨v,rfl⟩;refine⟨_,rfl,⟨_,rfl⟩,?_,λc=>?_⟩
  ·simp only[W,V];refine⟨_,zwk,?_⟩;cases r with
   |nil=>exact⟨trivial,rfl⟩
   |cons a r=>
    rw[if_pos (show full (a::r)=true from rfl)];refine WP.of (zwf (by simp)) ?_;simp only[W,V];exact⟨trivial,by simp[full]⟩
  ·simp only[W,V,M,Dd.N];have d:r≠[]:=by rintro rfl;cases c
   rw[zbbo d]
   try exact⟨rfl,rfl⟩
   try exact⟨trivial,rfl⟩
 ·have e:(rows.filter λr=>full r&&decide (lastD r=k)).map (λr=>aL r.dropLast)=aJ (ahead k rows):=by
   unfold ahead aJ;rw[xcz]
   rfl
  rw[e];exact q
theorem zih{l U:List Row}(h:∀x∈l,x∈U):∀x∈aO l,x∈U:=λx a=>h x (zgf a)
theorem zbcf(h:WP (E σ au) (λx s=>∃a,seqV x=some a/\WP (forF bd body a σ s) Q)):WP (sFor (aH E) bd body σ au) Q:=by
 simp only[W];exact h
theorem zbkn(h:WP (E σ au) (λv s=>Q (.nx (σ.set i (some v))) s)):WP (aF i E σ au) Q:=by
 simp only[W];exact h
theorem zbko(e:c σ au=.ok t au)(h:if t=true then WP (a σ au) Q else WP (b σ au) Q):WP (sIf c a b σ au) Q:=by
 simp only[W];exact WP.of e h
theorem zbeb(a:f σ au=.ok v au)(c:tru au v=some b):eTru f σ au=.ok b au:=by
 unfold eTru;rw[a];simp[c]
theorem zbck(a:Store)(l:List Row):tru a (aK l)=some (!l.isEmpty):=by
 cases l<;>rfl
def soFar(a l:List Row) (i:Nat):List Row:=(if[]∈a then l else[])++((lasts a).take i).flatMap λk=>doneL (ahead k a) (aO (raiseL k l))
theorem zzb{n K T:Nat}{b a l:List Row}(h:KX n K b)(e:RowsK K T a)(g:T<=K)(c:∀y∈l,y∈UU b T)(i:Nat):∀y∈soFar a l i,y∈UU b K:=λy hy=>by
 rcases xca.mp hy with hy|hy
 ·split at hy
  ·exact zrv g (c y hy)
  ·cases hy
 ·obtain⟨k,j,hy⟩:=xcu.mp hy;obtain⟨m,p,d⟩:=zfo e (xed j);obtain⟨o,rfl⟩:=xcv (show 0<=k by lia);exact zwu h d (zih λz f=>zgr h.rows c f) y hy
section
variable {au:Store}{Q:D->Store->Prop}
theorem zrg{n K T:Nat}{H:List Row}(h:KX n K H){U:DFn}{x:D}{b l:List Row}(A:SeqR x b)(nd:b.Nodup)(X:b.length<=1000)(E:RowsK K T b)(hK:K<=16)(hT:T<=K)(q:Rise l)(w:∀y∈l,y∈UU H T)
  (C:∀k∈lasts b,∀(au:Store) (Q:D->Store->Prop),(∀g,Q (aK (aO (doneL (ahead k b) (aO (raiseL k l))))) (au++g))->WP (U [.lst (aJ (ahead k b)),aK (aO (raiseL k l))] au) Q)
  (k:∀g,Q (aK (aO (doneL b l))) (au++g)):WP (zjj U [x,aK l] au) Q:=by
 show WP (fnD 6 2 _ [x,aK l] au) Q;refine zkj rfl ?_;refine zbx (R:=λj s=>j=.nx [some x,some (aK l),some (aK (aO (soFar b l 0))),none,none,none]/\s=au) ?_ ?_
 ·have e0:aO (soFar b l 0)=if[]∈b then l else[]:=by
   unfold soFar;rw[xmw,List.flatMap_nil,xec];split
   ·exact q.odd
   ·rfl
  rw[e0];simp only[W,V];refine⟨by simp,?_⟩;refine WP.of (A.in_ []) ?_;simp only[W,V];by_cases c:[]∈b
  ·simp only[c,xfv]
   first|exact⟨trivial,trivial⟩|exact⟨rfl,rfl⟩
  ·simp only[c,xeu]
   first|exact⟨by simp,trivial,trivial⟩|exact⟨by simp,rfl,rfl⟩|exact⟨by simp,rfl,trivial⟩|exact⟨by simp,trivial,rfl⟩|simp
 rintro j s ⟨rfl,rfl⟩;show WP _ _;refine zbx (R:=λj f=>(∃p o m,j=.nx [some x,some (aK l),some (aK (aO (soFar b l (lasts b).length))),p,o,m])/\∃g,f=s++g) ?_ ?_
 ·refine zbcf (zbhp A X (λr J ne=>?_) ⟨_,rfl,?_⟩)
  ·obtain⟨h1,h2,_⟩:=zfo E (zho.mpr ⟨r,J,ne,rfl⟩);lia
  refine zdj (λi σ f=>(∃p o m,σ=[some x,some (aK l),some (aK (aO (soFar b l i))),p,o,m])/\∃g,f=s++g) ⟨⟨_,_,_,rfl⟩,[],by simp⟩ ?_ ?_
  ·rintro i y σ f hy ⟨⟨p,o,m,rfl⟩,g,rfl⟩;obtain⟨d,u,rfl⟩:=zjw hy;have hm:=xbu u;obtain⟨k1,k2,k3⟩:=zfo E hm;refine⟨_,rfl,?_⟩;obtain⟨k',P⟩:=xcv (show 0<=d by lia);unfold zrw;refine zbx (R:=λj f=>j=.nx [some x,some (aK l),some (aK (aO (soFar b l i))),some (.int d),some (aK (aO (raiseL d l))),m]/\∃g,f=s++g) ?_ ?_
   ·simp only[W,V];rw[P];exact zuo h (by lia) (by lia) w λG=>⟨rfl,g++G,by simp⟩
   rintro j f ⟨rfl,g,rfl⟩;show WP _ _;have nxt:aO (soFar b l (i+1))=aO (aO (soFar b l i)++aO (doneL (ahead d b) (aO (raiseL d l)))):=zea λz=>by
    have e:soFar b l (i+1)=soFar b l i++doneL (ahead d b) (aO (raiseL d l)):=by
     unfold soFar;rw[zf u,xmt,xcc];simp
    rw[e,xes,xes];have h1:=zeg (soFar b l i) z;have h2:=zeg (doneL (ahead d b) (aO (raiseL d l))) z;lia
   have hM:∀y∈aO (raiseL d l),y∈UU H (T+k'):=zih λz hz=>by rw[P] at hz;exact zgr h.rows w hz
   have I:RowsK K (T+k') (ahead d b):=by
    have:d.toNat=k':=by lia
    rw[this] at k3;exact k3
   by_cases c:aO (raiseL d l)=[]
   ·have e:aO (soFar b l (i+1))=aO (soFar b l i):=by
     rw[nxt,c,zbbg,show aO ([]:List Row)=[] from rfl,xec,(zky _).odd]
    refine zbko (zbeb rfl (zbck _ _)) ?_;rw[c];simp only[W,L,List.isEmpty_nil,Bool.not_true,xeu];exact⟨⟨_,_,_,by rw[e]⟩,g,rfl⟩
   ·have v:(!(aO (raiseL d l)).isEmpty)=true:=by
     cases e:aO (raiseL d l) with
     |nil=>exact absurd e c
     |cons a t=>rfl
    refine zbko (zbeb rfl (zbck _ _)) ?_;rw[if_pos v];refine zbx (R:=λj f=>j=.nx [some x,some (aK l),some (aK (aO (soFar b l i))),some (.int d),some (aK (aO (raiseL d l))),some (.lst (aJ (ahead d b)))]/\f=s++g) (zbkn (zbka A X ⟨rfl,rfl⟩)) ?_;rintro j f ⟨rfl,rfl⟩;simp only[W,V];refine C d hm _ _ λG=>?_
    have S:=zzb h E hT w i;have Y:=zwu h I hM;have l1:=h.len (xbj K) (zcz _) (zih S);have l2:=h.len (xbj K) (zcz _) (zih Y);refine zbcc (by lia) (h.few (xbj K) λz hz=>?_) λg3=>?_
    ·rcases xca.mp hz with hz|hz
     ·exact zih S z hz
     ·exact zih Y z hz
    ·simp only[L];exact⟨⟨_,_,_,by rw[nxt]⟩,g++G++g3,by simp⟩
  ·rintro σ f ⟨⟨p,o,m,rfl⟩,g,rfl⟩;rw[xbc];exact⟨⟨_,_,_,rfl⟩,g,rfl⟩
 rintro j f ⟨⟨p,o,m,rfl⟩,g,rfl⟩;simp only[W,V];have e:aO (soFar b l (lasts b).length)=aO (doneL b l):=by
  refine zea λz=>?_
  unfold soFar;rw[xce];exact(zwt nd z).symm
 rw[e];exact k g
theorem zbpb{n K:Nat}{w:List Row}(h:KX n K w)(u:K<=16):∀(f:Nat) {T:Nat}{x:D}{a l:List Row}{au:Store}{Q:D->Store->Prop},SeqR x a->a.Nodup->a.length<=1000->(∀r∈a,r.length<=f)->RowsK K T a->T<=K->Rise l->(∀y∈l,y∈UU w T) ->
  (∀g,Q (aK (aO (doneL a l))) (au++g))->WP (iterF zjj (f+1) [x,aK l] au) Q:=λf=>by
 induction f with
 |zero=>
  intro T x a l au Q o d i s j q b e k;refine zrg h o d i j u q b e (λv c=>?_) k;obtain⟨r,p,E,_⟩:=zho.mp c;have:=s r p;exact absurd (xhj.mp (by lia)) E
 |succ f ih=>
  intro T x a l au Q o d i s j q b e k;refine zrg h o d i j u q b e (λv c I P G=>?_) k;obtain⟨S,U,A⟩:=zfo j c;obtain⟨m,rfl⟩:=xcv (show 0<=v by lia);rw[xeh] at A;refine ih (.inr rfl) (zbkb d) ?_ (λr t=>?_) A (by lia) (zky _) (zih λz J=>zgr h.rows e J) G
  ·unfold ahead;rw[xbc];exact xbb (xge _ _) i
  ·obtain⟨H,p,rfl⟩:=xbt.mp t;obtain⟨C,X⟩:=xcj.mp p;have:=s H C;rw[List.length_dropLast];lia
end
theorem zwv{n K:Nat}(h:KX n K S0)(d:K<=16) (c:SeqR x a)(f:a.Nodup)(l:a.length<=1000)(e:∀r∈a,r.length<=7)(j:RowsK K 0 a)(b:Rise S0)
 (k:∀g,Q (aK (aO (doneL a S0))) (au++g)):WP (iterF zjj 8 [x,aK S0] au) Q:=zbpb h d 7 c f l e j (xep _) b (λy i=>zbeo i) k
end Dd
namespace Dd
open L2 K07 K23
def placesL(r:List Int):List Nat:=(List.range (r.length-1)).filter λp=>decide (slowAt r p)
noncomputable abbrev plD(l:List Nat):List D:=l.map λ(p:Nat)=>D.int (p:Int)
theorem zij:p∈placesL r↔slowAt r p:=by
 unfold placesL;rw[xcj,xbi,xjn];refine⟨λh=>h.2,λh=>⟨?_,h⟩⟩;obtain⟨a,b,_,e,_⟩:=h;have:=(xbh.mp e).1;lia
noncomputable def momR:Int->List Int->Int
 |_,[]=>0
 |n,x::xs=>n*x+momR (n+1) xs
theorem zda:∀(a b:List Int) (n:Int),momR n (a++b)=momR n a+momR (n+a.length) b
 |[],b,n=>by simp[momR]
 |x::a,b,n=>by
  rw[xio,momR,momR,zda a b (n+1),xbw,show n+1+(a.length:Int)=n+((a.length+1:Nat):Int) by push_cast;lia];lia
theorem zbdj:∀(a:List Int) (n:Int),momR (n+1) a=momR n a+a.sum
 |[],n=>by simp[momR]
 |x::a,n=>by
  rw[momR,momR,zbdj a (n+1),xcs,xnc];lia
noncomputable def prodL:Int->List Int->List Int
 |_,[]=>[]
 |n,x::xs=>n*x::prodL (n+1) xs
theorem zqf:∀(a:List Int) (n:Int),(prodL n a).sum=momR n a
 |[],n=>rfl
 |x::a,n=>by rw[prodL,xcs,zqf a,momR]
theorem zmo:∀(a:List Int) (x n:Int),prodL n (a++[x])=prodL n a++[(n+a.length)*x]
 |[],x,n=>by simp[prodL]
 |y::a,x,n=>by
  rw[xio,prodL,prodL,zmo a x (n+1),xbw,show n+1+(a.length:Int)=n+((a.length+1:Nat):Int) by push_cast;lia]
  rfl
theorem zbjq{a:List Int}:bSum [.lst (a.map .int)] au=.ok (.int a.sum) au:=by
 unfold bSum
 show(match ((some (a.map D.int)).bind asInts) with
  |some a=>Res.ok (D.int a.sum) au
  |none=>.stuck)=_
 rw[Option.bind_some,zdf]
theorem zbnq(m:CMul I x):aS oMulI (aA 0) (aA 1) [some (.int I),some (.int x)] s=.ok (.int (I*x)) s:=by simp[m]
theorem mo_g:gT 2 (gsCons (gN 0) (gsCons (gN 1) gsNil)) (.tup [.int I,.int x]) [v,w]=some [some (.int I),some (.int x)]:=rfl
theorem zbnr(k:∀x∈r,-10000<=x/\x<=10000):compF (gT 2 (gsCons (gN 0) (gsCons (gN 1) gsNil))) aI (aS oMulI (aA 0) (aA 1)) (numF 1 (r.map .int)) [none,none] au=.ok ((prodL 1 r).map D.int) au:=by
 have W:=zkf (bd:=gT 2 (gsCons (gN 0) (gsCons (gN 1) gsNil))) (c:=aI) (f:=aS oMulI (aA 0) (aA 1)) (xs:=numF 1 (r.map .int)) (σ:=[none,none]) (au:=au)
  (λi acc σ s=>s=au/\(∃v w:Option D,σ=[v,w])/\acc=(prodL 1 (r.take i)).map D.int) ⟨rfl,⟨none,none,rfl⟩,rfl⟩ (by
   rintro i y acc σ s j ⟨rfl,⟨v,w,rfl⟩,rfl⟩;obtain⟨d,g,rfl⟩:=zon j;rw[xco] at g;obtain⟨x,a,rfl⟩:=xdb.mp g;have b:=k x (xbu a);have l:=(xbh.mp a).1;have m:CMul (1+(i:Int)) x:=mulR b.1 b.2;refine⟨[some (.int (1+(i:Int))),some (.int x)],true,s,mo_g,rfl,.inr ⟨rfl,.int ((1+(i:Int))*x),s,zbnq m,rfl,⟨_,_,rfl⟩,?_⟩⟩;rw[zf a,zmo,xdr,xcx,xen (by lia)]
   simp)
 obtain⟨o,n,h,e,rfl,_,rfl⟩:=W;rw[zem,xbc,xce] at e;exact e
theorem zbaj{r:List Int}(f:r.length<=1000)(d:∀x∈r,-10000<=x/\x<=10000):zgt [aL r] au=.ok (.int (momR 1 r)) au:=by
 have e:=zbnr (au:=au) d;refine zef rfl ?_;have a:(numF 1 (r.map D.int)).length<=sizeLine:=by rw[zem,xbc];exact small _ (by lia)
 have b:iEnum (aA 0) [some (aL r)] au=.ok (numF 1 (r.map D.int)) au:=rfl;have c:aG (iEnum (aA 0)) 2 [] (gT 2 (gsCons (gN 0) (gsCons (gN 1) gsNil))) aI (aS oMulI (aA 0) (aA 1)) [some (aL r)] au=.ok (.lst ((prodL 1 r).map D.int)) au:=by
  rw[zis,b,zw,if_pos a];show((compF _ _ _ _ [none,none] au).bind _)=_;rw[e]
  rfl
 show sRet _ [some (aL r)] au=_;rw[zoa,zdt,zhc,c,zw,zbqu,zw,zw,zbjq,zw,zqf]
theorem zzo{r:List Int}(n:r.length<=1000):zlz [aL r] au=.ok (.lst (plD (placesL r))) au:=by
 have W:=zkf (bd:=gN 0) (c:=eTru (aE zbw (aB (aA 1) (aB (aA 0) aC)))) (f:=aA 0) (xs:=rng 0 (r.length-1)) (σ:=[none,some (aL r)]) (au:=au)
  (λi acc σ s=>s=au/\(∃w:Option D,σ=[w,some (aL r)])/\acc=plD ((List.range i).filter λp=>decide (slowAt r p))) ⟨rfl,⟨none,rfl⟩,rfl⟩ (by
   rintro i y acc σ s h ⟨rfl,⟨w,rfl⟩,rfl⟩;obtain⟨l,rfl⟩:=zzg h;rw[xht];refine⟨[some (.int i),some (aL r)],decide (slowAt r i),s,rfl,?_,?_⟩
   ·rw[zwr,zdt];show((zbw [aL r,.int i] s).bind _)=_;rw[zjy,xeh,show decide (0<=(i:Int)/\slowAt r i)=decide (slowAt r i) by simp]
    rfl
   ·rw[xhx,xfg];by_cases c:slowAt r i
    ·refine .inr ⟨xbp c,.int i,s,rfl,rfl,⟨_,rfl⟩,?_⟩;simp[plD,c]
    ·refine .inl ⟨xbv c,rfl,⟨_,rfl⟩,?_⟩
     simp[plD,c])
 obtain⟨k,m,st',e,rfl,_,rfl⟩:=W;rw[zbh] at e;refine zef rfl ?_;have j:RngOk ((r.length:Int)-1):=rngN (by lia) (by lia);have a:(rng 0 (r.length-1)).length<=sizeLine:=by rw[zbh];exact small _ (by lia)
 have b:iR1 (aB (aS oSub (aE bLen (aB (aA 0) aC)) (eC (.int 1))) aC) [some (aL r)] st'=.ok (rng 0 (r.length-1)) st':=by
  have d:=zxs (au:=st') (r:=r);have g:((r.length:Int)-1).toNat=r.length-1:=by lia
  generalize (r.length:Int)=N at *
  simp only[aL] at *
  generalize D.tup (r.map D.int)=R at *
  simp[d,j,g]
 show sRet _ [some (aL r)] st'=_;rw[zoa,zis,b,zw,if_pos a];show((compF _ _ _ _ [none,some (aL r)] st').bind _).bind _=_;rw[e]
 rfl
theorem zbhd(i:∀x∈r,1<=x)(v:slowAt r p)(k:z∈exRow r p):momR 1 z<momR 1 r:=by
 obtain⟨a,b,j,g,s⟩:=v;have C:p+1<r.length:=(xbh.mp g).1;have G:=i b (xbu g);have E:=i a (xbu j);unfold exRow at k;obtain⟨two,m,rfl⟩:=xbt.mp k;have h:=(zl _).mem_iff.mp m;rw[xbg,j,xbg,g] at h;simp only[xkc] at h;unfold rowsL at h;obtain⟨c,o,q⟩:=xbt.mp h;have A:c<(a/2+1).toNat:=xbi.mp (xcj.mp o).1;have u:r=r.take p++[a,b]++r.drop (p+2):=by
  have l:r.drop p=a::r.drop (p+1):=by
   rw[xdc (by lia)]
   congr 1
   exact(xbh.mp j).2
  have n:r.drop (p+1)=b::r.drop (p+2):=by
   rw[xdc (by lia)]
   congr 1
   exact(xbh.mp g).2
  calc r=r.take p++r.drop p:=(xda p r).symm
   _=_:=by rw[l,n];simp
 have y:0<=(r.drop (p+2)).sum:=zce λx t=>i x (xff t)
 have f:momR 1 (r.take p++two++r.drop (p+2))<momR 1 (r.take p++[a,b]++r.drop (p+2)):=by
  rw[xcc,xcc,zda,zda (r.take p)];generalize (1:Int)+((r.take p).length:Int)=N;rw[zda,zda];generalize r.drop (p+2)=d at y;rw[←q];unfold rowC;split
  ·rename_i w;simp only[momR,xbw,xja];rw[Int.mul_sub,Int.mul_add,xnc,xnc];lia
  ·rename_i w;have:(c:Int)=0:=by lia
   simp only[momR,xbw,xja];have e:=zbdj d (N+1);rw[show N+((0+1+1:Nat):Int)=N+1+1 by push_cast;lia,show N+((0+1:Nat):Int)=N+1 by push_cast;lia,e,Int.mul_add,xnc];lia
 rw[←u] at f;exact f
end Dd
namespace Dd
open L2
end Dd
namespace Dd
open L2 K07 K23
theorem zlo{r:List Int}{p:Nat}{m:Int}{L:Nat}(h:RowOk r m L)(u:slowAt r p):∀z∈exRow r p,RowOk z m L:=λz i=>by
 obtain⟨a,b,g,d,s⟩:=u;have y:p+1<r.length:=(xbh.mp d).1;have E:=h.pos b (xbu d);have A:=h.pos a (xbu g);unfold exRow at i;obtain⟨two,l,rfl⟩:=xbt.mp i;have e:=(zl _).mem_iff.mp l;rw[xbg,g,xbg,d] at e;simp only[xkc] at e;unfold rowsL at e;obtain⟨c,o,q⟩:=xbt.mp e;have w:c<(a/2+1).toNat:=xbi.mp (xcj.mp o).1;have t:r=r.take p++[a,b]++r.drop (p+2):=by
  have k:r.drop p=a::r.drop (p+1):=by
   rw[xdc (by lia)]
   congr 1
   exact(xbh.mp g).2
  have n:r.drop (p+1)=b::r.drop (p+2):=by
   rw[xdc (by lia)]
   congr 1
   exact(xbh.mp d).2
  calc r=r.take p++r.drop p:=(xda p r).symm
   _=_:=by rw[k,n];simp
 have f:two.sum=a+b/\(∀x∈two,1<=x)/\two.length<=2:=by
  rw[←q];unfold rowC;split
  ·rename_i v;refine⟨by simp<;>lia,λx hx=>?_,by simp⟩;simp only[xbm,xhm,xna] at hx;rcases hx with rfl|rfl<;>lia
  ·rename_i v;refine⟨by simp<;>lia,λx hx=>?_,by simp⟩;simp only[xbm,xhm,xna] at hx;subst hx;lia
 have j:r.sum=(r.take p).sum+(a+b)+(r.drop (p+2)).sum:=by
  conv=>lhs;rw[t]
  simp[xdq];lia
 refine⟨λx hx=>?_,?_,?_⟩
 ·rcases xca.mp hx with hx|hx
  ·rcases xca.mp hx with hx|hx
   ·exact h.pos x (xed hx)
   ·exact f.2.1 x hx
  ·exact h.pos x (xff hx)
 ·have:=h.sum;rw[xdq,xdq,f.1];lia
 ·have C:=h.len;rw[xbl,xbl,xcx,xgh];have:=f.2.2;lia
theorem zbfn{r:List Int}{m:Int}{L:Nat}(h:RowOk r m L):∀x∈r,1<=x/\x<=m:=λx hx=>by
 refine⟨h.pos x hx,?_⟩;have:∀{r:List Int},(∀y∈r,1<=y)->∀x∈r,x<=r.sum:=λ{r}=>by
  induction r with
  |nil=>intro _ x hx;cases hx
  |cons a r ih=>
   intro h x hx;have c:=h a (by simp);have d:0<=r.sum:=zce λy b=>h y (xbf _ b)
   rw[xcs];rcases xbm.mp hx with rfl|hx
   ·lia
   ·have:=ih (λy b=>h y (xbf _ b)) x hx;lia
 exact xmg (this h.pos x hx) h.sum
theorem zbco{r:List Int}{m:Int}{L p:Nat}(h:RowOk r m L)(e:slowAt r p):(1<=r.getD p 0/\r.getD p 0<=m)/\(1<=r.getD (p+1) 0/\r.getD (p+1) 0<=m):=by
 obtain⟨a,b,c,d,_⟩:=e;rw[xbg,c,xbg,d];exact⟨zbfn h a (xbu c),zbfn h b (xbu d)⟩
noncomputable abbrev Lv:=List (Int×Nat×List (List Int))
def lvD(a:Lv):List (Int×D):=a.map λq=>(q.1,.ref q.2.1)
structure LvAt (au:Store) (L:Nat) (lv:Lv):Prop where
 at_:au[L]?=some (.dI (lvD lv))
 in_:∀q∈lv,au[q.2.1]?=some (.dT (aQ q.2.2))
 nd:(lv.map (·.1)).Nodup
 ix:(lv.map (·.2.1)).Nodup
 rows:∀q∈lv,q.2.2.Nodup
def flipLv(n:Nat) (r:List Int):Lv->Lv
 |[]=>[(momR 1 r,n,[r])]
 |q::lv=>if q.1=momR 1 r then(q.1,q.2.1,aP q.2.2 r)::lv else q::flipLv n r lv
theorem ztm:valI (lvD lv) m=(lv.find? λq=>decide (q.1=m)).map λq=>D.ref q.2.1:=by
 induction lv with
 |nil=>rfl
 |cons q lv ih=>
  by_cases e:q.1=m
  ·simp[valI,lvD,e]
  ·have a:valI (lvD (q::lv)) m=valI (lvD lv) m:=by simp[valI,lvD,e]
   rw[a,ih,List.find?_cons_of_neg (by simpa using e)]
theorem zkb:∀{a:Lv},(∀q∈a,q.1≠momR 1 r)->flipLv n r a=a++[(momR 1 r,n,[r])]
 |[],_=>rfl
 |q::a,h=>by
  unfold flipLv;rw[if_neg (h q (by simp)),zkb λx b=>h x (xbf _ b)]
  rfl
theorem zka:∀{a:Lv}{q:Int×Nat×List (List Int)},(a.map (·.1)).Nodup->q∈a->q.1=momR 1 r->flipLv n r a=a.map λx=>if x.1=momR 1 r then(x.1,x.2.1,aP x.2.2 r) else x
 |[],q,_,h,_=>by cases h
 |x::a,q,nd,h,e=>by
  rw[xbq,xdf] at nd;unfold flipLv;rw[xbq];by_cases c:x.1=momR 1 r
  ·rw[if_pos c,if_pos c]
   congr 1
   symm
   refine(xea (g:=id) λy b=>?_).trans (xow _);rw[if_neg λz=>nd.1 (xbt.mpr ⟨y,b,z.trans c.symm⟩)]
   rfl
  ·rw[if_neg c,if_neg c];rcases xbm.mp h with rfl|h
   ·exact absurd e c
   ·rw[zka nd.2 h e]
theorem zud{L:Nat}{k:Int}(c:f σ au=.ok (.ref L) au)(b:au[L]?=some (.dI kv0))(a:g σ au=.ok [.int k,d] st2)(h:st2[L]?=some (.dI kvs))(e:kvs.length<sizeLine)(i:valI kvs k=some v):eSetDI f g σ au=.ok v st2:=by
 unfold eSetDI;rw[c,zw];dsimp only;rw[b];dsimp only;rw[a,zw]
 try dsimp only
 rw[h]
 try dsimp only
 rw[if_pos e,i]
theorem zue{L:Nat}{k:Int}(c:f σ au=.ok (.ref L) au)(b:au[L]?=some (.dI kv0))(a:g σ au=.ok [.int k,d] st2)(h:st2[L]?=some (.dI kvs))(e:kvs.length<sizeLine)(i:valI kvs k=none):eSetDI f g σ au=.ok d (st2.set L (.dI (putI kvs k d))):=by
 unfold eSetDI;rw[c,zw];dsimp only;rw[b];dsimp only;rw[a,zw]
 try dsimp only
 rw[h]
 try dsimp only
 rw[if_pos e,i]
theorem zvo{α β:Type}{f:α->β}:∀{l:List α},(l.map f).Nodup->∀{x y:α},x∈l->y∈l->f x=f y->x=y
 |[],_,x,y,hx,_,_=>by cases hx
 |a::l,nd,x,y,hx,hy,e=>by
  rw[xbq,xdf] at nd;rcases xbm.mp hx with h1|h1
  ·rcases xbm.mp hy with h2|h2
   ·rw[h1,h2]
   ·exact absurd (xbt.mpr ⟨y,h2,by rw[←e,h1]⟩) nd.1
  ·rcases xbm.mp hy with h2|h2
   ·exact absurd (xbt.mpr ⟨x,h1,by rw[e,h2]⟩) nd.1
   ·exact zvo nd.2 h1 h2 e
theorem zgx{f:Store}{L:Nat}{g:Lv}{r:List Int}{Q:D->Store->Prop}(h:LvAt f L g)(U:r.length<=1000)(hr:∀x∈r,-10000<=x/\x<=10000)(hz:g.length<=10000)(hk:∀q∈g,q.2.2.length<=100000)
  (k:∀s,LvAt s L (flipLv f.length r g)->(∀i,i<f.length->i≠L->(∀q∈g,q.2.1≠i)->s[i]?=f[i]?)->f.length<=s.length->Q .non s):WP (zcp [.ref L,aL r] f) Q:=by
 refine zkj rfl ?_;simp only[W,V,M];have em:=zbaj (au:=f) U hr;have P:aB (aE zgt (aB (aA 1) aC)) (aB eDNew aC) [some (.ref L),some (aL r)] f=.ok [.int (momR 1 r),.ref f.length] (f++[.dT []]):=by
  rw[zhc,show aE zgt (aB (aA 1) aC) [some (.ref L),some (aL r)] f=.ok (.int (momR 1 r)) f from em]
  rfl
 have X:=zo h.at_;have d:∀{i:Nat}{o:O},f[i]?=some o->(f++[O.dT []])[i]?=some o:=λe=>by rw[xcg (zo e)];exact e
 have m:(lvD g).length<sizeLine:=by unfold lvD;rw[xbc];exact smallT _ (by lia)
 cases hf:g.find? λq=>decide (q.1=momR 1 r) with
 |some q=>
  have l:=xkk hf;have n:q.1=momR 1 r:=by simpa using xos hf
  have I:q.2.1≠L:=λz=>by have:=h.in_ q l;rw[z,h.at_] at this;cases this
  refine WP.of (zud rfl h.at_ P (d h.at_) m (by rw[ztm,hf];rfl)) ?_;refine WP.of (zna (d (h.in_ q l)) (by have:=hk q l;lia)) (k _ ?_ (λi A u p=>?_) (by rw[xdn,xbl];lia))
  ·rw[zka h.nd l n];refine⟨?_,λx hx=>?_,?_,?_,λx hx=>?_⟩
   ·rw[xcb I,d h.at_]
    congr 2
    unfold lvD;rw[xcz];refine(xea λy j=>?_).symm;simp only[Function.comp];split<;>rfl
   ·obtain⟨y,j,rfl⟩:=xbt.mp hx;by_cases c:y.1=momR 1 r
    ·have H:y=q:=zvo h.nd j l (c.trans n.symm);subst H;rw[if_pos c];exact zds (zo (d (h.in_ y j)))
    ·rw[if_neg c];have C:q.2.1≠y.2.1:=λz=>c (by rw[←zvo h.ix l j z];exact n)
     rw[xcb C];exact d (h.in_ y j)
   ·rw[xcz];have:(g.map ((λx=>x.1) ∘ λx=>if x.1=momR 1 r then(x.1,x.2.1,aP x.2.2 r) else x))=g.map (·.1):=xea λy _=>by simp only[Function.comp];split<;>rfl
    rw[this];exact h.nd
   ·rw[xcz];have:(g.map ((λx=>x.2.1) ∘ λx=>if x.1=momR 1 r then(x.1,x.2.1,aP x.2.2 r) else x))=g.map (·.2.1):=xea λy _=>by simp only[Function.comp];split<;>rfl
    rw[this];exact h.ix
   ·obtain⟨y,j,rfl⟩:=xbt.mp hx;split
    ·exact zck (h.rows y j)
    ·exact h.rows y j
  ·rw[xcb (p q l),xcg A]
 |none=>
  have E:∀q∈g,q.1≠momR 1 r:=λq l=>by simpa using xni.mp hf q l
  have hp:putI (lvD g) (momR 1 r) (.ref f.length)=lvD (g++[(momR 1 r,f.length,[r])]):=by
   unfold putI;rw[if_neg]
   ·unfold lvD;rw[xdr];rfl
   ·rw[Bool.not_eq_true,xlh];intro x hx;obtain⟨y,j,rfl⟩:=xbt.mp hx
    simpa using E y j
  have t:L≠f.length:=xcl X;refine WP.of (zue rfl h.at_ P (d h.at_) m (by rw[ztm,hf];rfl)) ?_;rw[hp];have J:((f++[O.dT []]).set L (.dI (lvD (g++[(momR 1 r,f.length,[r])]))))[f.length]?=some (.dT (aQ [])):=by
   rw[xcb t,xdi (xbj _),xjq];rfl
  refine WP.of (zna J (by simp)) (k _ ?_ (λi A u p=>?_) (by rw[xdn,xdn,xbl];lia))
  ·rw[zkb E,show aP [] r=[r] from rfl];have v:∀q∈g,q.2.1<f.length:=λq l=>zo (h.in_ q l)
   refine⟨?_,λx hx=>?_,?_,?_,λx hx=>?_⟩
   ·rw[xcb t.symm,zds (by rw[xbl];lia)]
   ·rcases xca.mp hx with hx|hx
    ·have Y:f.length≠x.2.1:=(xcl (v x hx)).symm;have S:L≠x.2.1:=λz=>by have:=h.in_ x hx;rw[←z,h.at_] at this;cases this
     rw[xcb Y,xcb S];exact d (h.in_ x hx)
    ·simp at hx;subst hx
     exact zds (zo J)
   ·rw[xdr,xjk];refine⟨h.nd,by simp,λa G b w=>?_⟩;obtain⟨y,j,rfl⟩:=xbt.mp G;simp at w;subst w
    exact E y j
   ·rw[xdr,xjk];refine⟨h.ix,by simp,λa G b w=>?_⟩;obtain⟨y,j,rfl⟩:=xbt.mp G;simp at w;subst w
    exact xcl (v y j)
   ·rcases xca.mp hx with hx|hx
    ·exact h.rows x hx
    ·simp at hx;subst hx;simp
  ·rw[xcb (xcl A).symm,xcb u.symm,xcg A]
noncomputable abbrev Lr:=List (Int×List (List Int))
def lvR(a:Lv):Lr:=a.map λq=>(q.1,q.2.2)
def flipR(r:List Int):Lr->Lr
 |[]=>[(momR 1 r,[r])]
 |q::lr=>if q.1=momR 1 r then(q.1,aP q.2 r)::lr else q::flipR r lr
theorem zld:∀{a:Lv},lvR (flipLv n r a)=flipR r (lvR a)
 |[]=>rfl
 |q::a=>by
  unfold flipLv;show _=flipR r ((q.1,q.2.2)::lvR a);unfold flipR;dsimp only;split
  ·rfl
  ·show(q.1,q.2.2)::lvR (flipLv n r a)=_;rw[zld]
noncomputable def nuM:List Nat->Nat->Nat
 |[],_=>0
 |t::ts,v=>bif Nat.beq v 0 then 0 else Nat.xor (bif Nat.beq (v%2) 1 then t else 0) (nuM ts (v/2))
noncomputable def nuDec:Nat->Nat->Nat
 |0,_=>0
 |f+1,c=>bif Nat.beq c 0 then 0 else Nat.xor (2^(c%100-1)) (nuDec f (c/100))
noncomputable def nuC:List (List Nat):=[[2,0,5,6,0,0,9,11,0,14,0,16,17,0,19,0,0,23,0,25,27,28,0,30,0,32,0,0,35,0,37,0,40,41,0,43,0,46,47,0,0,50,0,52,54,0,0,57,58,0,60,0,63,0,66,67,0,0,70,0,72,73,0,76,77,0,0,80,81,0,83],[3,4,6,0,908,11,1211,15,15,18,0,19,21,22,0,2524,26,28,30,3130,32,0,3534,36,36,0,4038,41,4241,0,43,46,4846,49,49,0,5251,55,56,55,0,58,60,6160,64,0,65,66,0,7069,71,71,74,75,0,77,8078,81,8281,0,83],[5,6,0,0,11,0,16,19,19,23,0,0,27,28,0,30,32,0,0,37,0,0,41,43,43,0,46,0,50,0,0,0,57,58,58,0,60,66,67,66,0,0,0,72,76,0,77,0,0,81,83,83],[7,8,10,13,14,17,1918,21,252423,2826,3027,3129,32,353432,3633,3735,4038,4238,4340,444342,48,494745,5046,5148,5150,5554,57,5854,595855,57,59,66,6866,696564,6966,68,70,7875,7975,78,7776,78,80,8382],[9,11,14,17,0,0,23,27,30,32,0,3735,0,41,4340,0,46,5046,0,5250,57,5854,0,6057,60,66,0,0,7066,0,70,0,80,817776,81,80],[12,15,18,21,22,26,28,32,3534,0,4038,434241,0,46,4846,525149,0,5855,6055,616058,66,6564,7069,7166,717069,75,8078,8175,8281,8078,8281],[16,19,23,27,28,32,0,0,41,0,46,50,0,0,57,6058,0,66,66,72,0,7776,81,83,8381],[20,24,29,33,34,38,39,45,47,53,54,5856,62,63,6664,706967,73,74,807876,838279],[25,30,35,40,41,46,47,54,0,63,0,67,73,0,76,81],[31,36,42,48,49,55,56,64,65,74,75,77],[37,43,50,57,58,66,67,76,77],[44,51,59,68,69,78,79],[52,60,70,80,81],[61,71,82],[72,83],[84]]
def nuT:List (List Nat):=[]::nuC.map λl=>(l++List.replicate (84-l.length) 0).map (nuDec 3)
noncomputable def nuSt:List (List Int):=[[],[1],[2],[2,1],[3],[3,1],[4],[4,1],[5],[4,2],[5,1],[6],[4,2,1],[5,2],[6,1],[7],[5,2,1],[6,2],[7,1],[8],[6,2,1],[6,3],[7,2],[8,1],[9],[6,3,1],[7,2,1],[7,3],[8,2],[9,1],[10],[7,3,1],[8,2,1],[8,3],[9,2],[10,1],[11],[8,3,1],[8,4],[9,2,1],[9,3],[10,2],[11,1],[12],[8,4,1],[9,3,1],[9,4],[10,2,1],[10,3],[11,2],[12,1],[13],[8,4,2],[9,4,1],[10,3,1],[10,4],[11,2,1],[11,3],[12,2],[13,1],[14],[8,4,2,1],[9,4,2],[10,4,1],[10,5],[11,3,1],[11,4],[12,2,1],[12,3],[13,2],[14,1],[15],[9,4,2,1],[10,4,2],[10,5,1],[11,4,1],[11,5],[12,3,1],[12,4],[13,2,1],[13,3],[14,2],[15,1],[16]]
def nuA(a v:Nat):Nat:=nuM (nuT.getD a []) v
theorem zla:∀a,nuM a 0=0
 |[]=>rfl
 |_::_=>rfl
theorem zcg(t:Nat)(a:List Nat)(v:Nat):nuM (t::a) v=(if v%2=1 then t else 0)^^^nuM a (v/2):=by
 by_cases c:v=0
 ·subst c;rw[zla,if_neg (by decide),Nat.zero_div,zla];rfl
 ·have b:Nat.beq v 0=false:=by
   cases h:Nat.beq v 0 with
   |false=>rfl
   |true=>exact absurd (xfa h) c
  have e:(bif Nat.beq (v%2) 1 then t else 0)=if v%2=1 then t else 0:=by
   by_cases d:v%2=1
   ·rw[if_pos d,d];rfl
   ·have:v%2=0:=by lia
    rw[if_neg d,this];rfl
  show(bif Nat.beq v 0 then 0 else Nat.xor (bif Nat.beq (v%2) 1 then t else 0) (nuM a (v/2)))=_;rw[b,e];rfl
theorem xor4(a b c d:Nat):(a^^^b)^^^(c^^^d)=(a^^^c)^^^(b^^^d):=by
 rw[xdl,xdl,←xdl b,←xdl c,xoj b c]
theorem zbdf:∀(c:List Nat) (v w:Nat),nuM c (v^^^w)=nuM c v^^^nuM c w
 |[],v,w=>by show 0=0^^^0;rw[xhv]
 |t::c,v,w=>by
  rw[zcg,zcg,zcg,Nat.xor_div_two,zbdf c,xor4]
  congr 1
  have:=Nat.xor_mod_two_eq_one (a:=v) (b:=w);by_cases c1:v%2=1<;>by_cases c2:w%2=1<;>simp[c1,c2,this]
theorem zvk(b:f 0=0)(c:∀v w,f (v^^^w)=f v^^^f w):∀(a:List Nat) (v:Nat),nuM (a.map f) v=f (nuM a v)
 |[],v=>b.symm
 |t::a,v=>by
  rw[xbq,zcg,zcg,c,zvk b c a]
  congr 1
  split
  ·rfl
  ·exact b.symm
theorem zbde:∀(b a:List Nat) (v:Nat),b.length=a.length->nuM (List.zipWith Nat.xor b a) v=nuM b v^^^nuM a v
 |[],[],v,_=>by show 0=0^^^0;rw[xhv]
 |[],_::_,v,h=>by cases h
 |_::_,[],v,h=>by cases h
 |t::b,u::a,v,h=>by
  show nuM (Nat.xor t u::List.zipWith Nat.xor b a) v=_;rw[zcg,zcg,zcg,zbde b a _ (by simpa using h),xor4]
  congr 1
  split
  ·rfl
  ·rfl
theorem zbdg:∀(a:List Nat) (i:Nat),nuM a (2^i)=a.getD i 0
 |[],i=>by simp[nuM]
 |t::a,0=>by rw[zcg];simp[zla]
 |t::a,i+1=>by
  rw[zcg,if_neg (by rw[xkx];lia),show 2^(i+1)/2=2^i by rw[xkx];lia,zbdg a i,xip]
  rfl
theorem zop(a:Nat):nuA a 0=0:=zla _
theorem zvm(a v w:Nat):nuA a (v^^^w)=nuA a v^^^nuA a w:=zbdf _ _ _
def nuF(r:List Int) (v:Nat):Nat:=r.foldr (λa v=>nuA a.toNat v) v
def nu(r:List Int):Nat:=nuF r 1
def nuS(l:List (List Int)):Nat:=l.foldr (λr x=>nu r^^^x) 0
theorem zfk(r s:List Int)(v:Nat):nuF (r++s) v=nuF r (nuF s v):=by unfold nuF;rw[List.foldr_append]
theorem zvl:∀r,nuF r 0=0
 |[]=>rfl
 |a::r=>by show nuA _ (nuF r 0)=0;rw[zvl r,zop]
theorem zbdh:∀r v w,nuF r (v^^^w)=nuF r v^^^nuF r w
 |[],_,_=>rfl
 |a::r,v,w=>by show nuA _ (nuF r _)=nuA _ (nuF r v)^^^nuA _ (nuF r w);rw[zbdh r,zvm]
theorem zmr:∀l m,nuS (l++m)=nuS l^^^nuS m
 |[],m=>(xip _).symm
 |r::l,m=>by show nu r^^^nuS (l++m)=(nu r^^^nuS l)^^^nuS m;rw[zmr l m,xdl]
theorem zbgz{l:List (List Int)}(h:l.Perm m):nuS l=nuS m:=by
 induction h with
 |nil=>rfl
 |@cons x a b _ ih=>show nu x^^^nuS a=nu x^^^nuS b;rw[ih]
 |swap x y l=>show nu y^^^(nu x^^^nuS l)=nu x^^^(nu y^^^nuS l);rw[←xdl,←xdl,xoj (nu y)]
 |trans _ _ a b=>exact a.trans b
theorem zbha{l:List (List Int)}(b:l.Nodup):nuS (aP l r)=nuS l^^^nu r:=by
 unfold aP;split
 ·rename_i h;have:∀{l:List (List Int)},l.Nodup->r∈l->nuS (l.filter λx=>decide (x≠r))=nuS l^^^nu r:=λ{l}=>by
   induction l with
   |nil=>intro _ h;cases h
   |cons a l ih=>
    intro b h;rw[xdf] at b;by_cases c:a=r
    ·subst c;have e:l.filter (λx=>decide (x≠a))=l:=xmq.mpr λx d=>by
      rw[xjn];intro z;subst z;exact b.1 d
     rw[xcq (by simp),e];show nuS l=(nu a^^^nuS l)^^^nu a;rw[xoj,←xdl,xhv,xip]
    ·rw[xcn (by simpa using c)];show nu a^^^nuS (l.filter λx=>decide (x≠r))=(nu a^^^nuS l)^^^nu r;rw[ih b.2 (by rcases xbm.mp h with z|z;exact absurd z.symm c;exact z),xdl]
  exact this b h
 ·rw[zmr];show nuS l^^^(nu r^^^0)=_;rw[xfp]
theorem zqm:∀(m l:List (List Int)),l.Nodup->nuS (m.foldl aP l)=nuS l^^^nuS m
 |[],l,_=>(xfp _).symm
 |r::m,l,nd=>by
  rw[xgc,zqm m _ (zck nd),zbha nd];show _=nuS l^^^(nu r^^^nuS m);rw[xdl]
def mt2:List Int->List Nat
 |[x]=>nuT.getD x.toNat []
 |[x,y]=>(nuT.getD y.toNat []).map (nuA x.toNat)
 |_=>[]
noncomputable def twosN(a b n:Nat):List (List Int):=((List.range n).filter λc=>Nat.beq (Nat.land (b-c-1) (a-2*c)) (a-2*c)).map λc=>if c=0 then[((a+b:Nat):Int)] else[((a+b-c:Nat):Int),(c:Int)]
def nuChk(a b:Nat):Bool:=bif Nat.blt a (2*b) then decide ((nuT.getD b []).map (nuA a)=(twosN a b (a/2+1)).foldr (λtwo m=>List.zipWith Nat.xor (mt2 two) m) (List.replicate 84 0)) else true
theorem zbaf:((List.range 17).all λa=>(List.range (17-a)).all λb=>bif Nat.blt 0 a&&Nat.blt 0 b then nuChk a b else true)=true:=by decide +kernel
theorem zbnh:(nuT.all λt=>Nat.beq t.length 84||Nat.beq t.length 0)=true/\((List.range 16).all λi=>Nat.beq (nuT.getD (i+1) []).length 84)=true:=by decide +kernel
theorem zbgx(h:1<=a)(b:a<=16):(nuT.getD a []).length=84:=by
 have:=xbx.mp zbnh.2 (a-1) (xbi.mpr (by lia));rw[show a-1+1=a by lia] at this;exact xfa this
theorem zqn:∀n v,nuM (List.replicate n 0) v=0
 |0,_=>rfl
 |n+1,v=>by
  rw[xfz,zcg,zqn n];split<;>rfl
theorem zkm{a b n:Nat}{two:List Int}(h:two∈twosN a b n):(two=[((a+b:Nat):Int)])\/∃c:Nat,0<c/\c<n/\two=[((a+b-c:Nat):Int),(c:Int)]:=by
 unfold twosN at h;obtain⟨c,d,rfl⟩:=xbt.mp h;have d:=xbi.mp (xcj.mp d).1;by_cases z:c=0
 ·rw[if_pos z];exact .inl rfl
 ·rw[if_neg z];exact .inr ⟨c,by lia,d,rfl⟩
theorem zbtq(q:1<=a)(r:1<=b)(p:a+b<=16)(n:a<2*b)(v:Nat):(twosN a b (a/2+1)).foldr (λtwo x=>nuF two v^^^x) 0=nuA a (nuA b v):=by
 have h:=zbaf;have h:=xbx.mp h a (xbi.mpr (by lia));have h:=xbx.mp h b (xbi.mpr (by lia));rw[show(Nat.blt 0 a&&Nat.blt 0 b)=true by rw[xdm];exact⟨xgf (by lia),xgf (by lia)⟩] at h;have h:nuChk a b=true:=h;unfold nuChk at h;rw[show Nat.blt a (2*b)=true from xgf (by lia)] at h;have h:=xdh h;have g:=congrArg (λm=>nuM m v) h;simp only[zvk (zop a) (zvm a)] at g;show _=nuA a (nuM (nuT.getD b []) v);rw[g];have f:∀(d:List (List Int)),(∀two∈d,two∈twosN a b (a/2+1))->nuM (d.foldr (λtwo m=>List.zipWith Nat.xor (mt2 two) m) (List.replicate 84 0)) v=d.foldr (λtwo x=>nuF two v^^^x) 0/\(d.foldr (λtwo m=>List.zipWith Nat.xor (mt2 two) m) (List.replicate 84 0)).length=84:=λd=>by
  induction d with
  |nil=>intro _;exact⟨zqn _ _,by simp⟩
  |cons two d ih=>
   intro i;obtain⟨l,j⟩:=ih λt k=>i t (xbf _ k)
   have e:(mt2 two).length=84/\nuM (mt2 two) v=nuF two v:=by
    rcases zkm (i two (by simp)) with rfl|⟨c,o,s,rfl⟩
    ·exact⟨zbgx (by simp;lia) (by simp;lia),rfl⟩
    ·refine⟨?_,?_⟩
     ·show((nuT.getD (c:Int).toNat []).map _).length=_;rw[xbc];exact zbgx (by simp;lia) (by simp;lia)
     ·show nuM ((nuT.getD (c:Int).toNat []).map _) v=_;rw[zvk (zop _) (zvm _)];rfl
   rw[List.foldr_cons,List.foldr_cons];refine⟨?_,by rw[List.length_zipWith,e.1,j];rfl⟩;rw[zbde _ _ _ (by rw[e.1,j]),e.2,l]
 exact(f _ λ_ h=>h).1.symm
theorem zqa{a b:Nat}(i:1<=a)(j:1<=b)(f:a<2*b):∀{n:Nat},n<=a/2+1->rowsL a b n=twosN a b n:=λ{n} g=>by
 unfold rowsL twosN;have e:((List.range n).filter λ(c:Nat)=>oddW ((b:Int)-c-1) ((a:Int)-2*c))=(List.range n).filter λc=>Nat.beq (Nat.land (b-c-1) (a-2*c)) (a-2*c):=by
  refine xfy λc d=>?_
  have d:=xbi.mp d;rw[show(b:Int)-c-1=((b-c-1:Nat):Int) by lia,show(a:Int)-2*c=((a-2*c:Nat):Int) by lia,zbgu];generalize b-c-1=x;generalize a-2*c=y;show decide (Nat.land x y=y)=_;cases h:Nat.beq (Nat.land x y) y with
  |true=>exact xbp (xfa h)
  |false=>exact xbv (Nat.ne_of_beq_eq_false h)
 rw[e];refine xea λc d=>?_
 have d:=xbi.mp (xcj.mp d).1;unfold rowC;by_cases z:c=0
 ·subst z;rw[if_pos rfl,if_neg (by lia)];rfl
 ·rw[if_neg z,if_pos (by lia)]
  congr 1
  lia
theorem zbdb{f:List Int->List Int}{g:List Int->Nat}(w:Nat)(r:List Int)(h:∀two,nu (f two)=nuF r (g two)):∀l:List (List Int),nuS (l.map f)=nuF r (l.foldr (λtwo x=>g two^^^x) 0)
 |[]=>(zvl r).symm
 |two::l=>by
  show nu (f two)^^^nuS (l.map f)=nuF r (g two^^^l.foldr (λtwo x=>g two^^^x) 0);rw[zbdb w r h l,zbdh,h]
theorem zbts{r:List Int}{p:Nat}{L:Nat}(h:RowOk r 16 L)(l:slowAt r p):nuS (exRow r p)=nu r:=by
 obtain⟨a,b,f,c,m⟩:=l;have s:p+1<r.length:=(xbh.mp c).1;have v:=h.pos a (xbu f);have n:=h.pos b (xbu c);have i:r=r.take p++([a,b]++r.drop (p+2)):=by
  have j:r.drop p=a::r.drop (p+1):=by
   rw[xdc (by lia)]
   congr 1
   exact(xbh.mp f).2
  have k:r.drop (p+1)=b::r.drop (p+2):=by
   rw[xdc (by lia)]
   congr 1
   exact(xbh.mp c).2
  calc r=r.take p++r.drop p:=(xda p r).symm
   _=_:=by rw[j,k];simp
 have e:a+b<=16:=by
  have u:r.sum=(r.take p).sum+(a+(b+(r.drop (p+2)).sum)):=by
   conv=>lhs;rw[i]
   rw[xdq,xdq];simp;lia
  have o:=h.sum;have t:0<=(r.take p).sum:=zce λx d=>h.pos x (xed d)
  have q:0<=(r.drop (p+2)).sum:=zce λx d=>h.pos x (xff d)
  lia
 obtain⟨a,rfl⟩:=xcv (show 0<=a by lia);obtain⟨b,rfl⟩:=xcv (show 0<=b by lia);unfold exRow;rw[xbg,f,xbg,c];simp only[xkc];rw[zbgz ((zl _).map _),show((a:Int)/2+1).toNat=a/2+1 by lia,zqa (by lia) (by lia) (by lia) (xbj _)];rw[zbdb (g:=λtwo=>nuF two (nuF (r.drop (p+2)) 1)) 0 (r.take p) λtwo=>by unfold nu;rw[zfk,zfk]];rw[zbtq (by lia) (by lia) (by lia) (by lia)]
 conv=>rhs;rw[i]
 unfold nu;rw[zfk,zfk];rfl
def nuStep(i a:Nat):Bool:=match nuSt[i]? with
 |none=>true
 |some r=>bif decide ((a:Int)+r.sum<=16)&&decide (2*r.headD 0<=(a:Int)) then(match nuSt[nuSt.idxOf ((a:Int)::r)]? with|some b=>decide (b=(a:Int)::r)|none=>false)&&Nat.beq ((nuT.getD a []).getD i 0) (2^nuSt.idxOf ((a:Int)::r)) else true
theorem zvh:((List.range 84).all λi=>(List.range 17).all λa=>bif Nat.beq a 0 then true else nuStep i a)=true:=by decide +kernel
theorem zvj:nuSt.Nodup:=by decide +kernel
theorem zec:nuSt.length=84:=by decide +kernel
def Stp(r:List Int):Prop:=∀p,¬ slowAt r p
theorem zbru(h:placesL r=[]):Stp r:=λp a=>by
 have:=zij.mpr a;rw[h] at this;cases this
theorem Stp.tail(h:Stp (a::r)):Stp r:=λp ⟨x,y,b,c,q⟩=>h (p+1) ⟨x,y,by simpa using b,by simpa using c,q⟩
theorem Stp.head(h:Stp (a::r))(d:1<=a):2*r.headD 0<=a:=by
 cases r with
 |nil=>simp;lia
 |cons b r=>
  have:=h 0;refine xkn λc=>this ⟨a,b,rfl,rfl,?_⟩
  simp at c;lia
theorem zoo{L:Nat}:∀{r:List Int},RowOk r 16 L->Stp r->∃i,nuSt[i]?=some r/\nu r=2^i
 |[],_,_=>⟨0,by decide +kernel,rfl⟩
 |a::r,h,hs=>by
  have n:=h.pos a (by simp);have b:=h.sum;rw[xcs] at b;have o:0<=r.sum:=zce λx d=>h.pos x (xbf _ d)
  obtain⟨i,e,g⟩:=zoo (L:=L) (r:=r) ⟨λx d=>h.pos x (xbf _ d),by lia,by have:=h.len;rw[xbw] at this;lia⟩ hs.tail;have j:i<84:=by have:=(xbh.mp e).1;rw[zec] at this;exact this
  have m:=hs.head n;obtain⟨a,rfl⟩:=xcv (show 0<=a by lia);have k:=xbx.mp (xbx.mp zvh i (xbi.mpr j)) a (xbi.mpr (by lia));rw[show Nat.beq a 0=false by cases z:Nat.beq a 0 with|false=>rfl|true=>have:=xfa z;lia] at k;have k:nuStep i a=true:=k;unfold nuStep at k;rw[e] at k;have k:(bif decide ((a:Int)+r.sum<=16)&&decide (2*r.headD 0<=(a:Int)) then(match nuSt[nuSt.idxOf ((a:Int)::r)]? with|some f=>decide (f=(a:Int)::r)|none=>false)&&Nat.beq ((nuT.getD a []).getD i 0) (2^nuSt.idxOf ((a:Int)::r)) else true)=true:=k;rw[xbp (show(a:Int)+r.sum<=16 by lia),xbp m] at k;simp only[xnn,cond_true] at k;rw[xdm] at k;obtain⟨c,l⟩:=k;refine⟨nuSt.idxOf ((a:Int)::r),?_,?_⟩
  ·cases z:nuSt[nuSt.idxOf ((a:Int)::r)]? with
   |none=>rw[z] at c;cases c
   |some f=>
    rw[z] at c;rw[xdh c]
  ·show nuA _ (nu r)=_;rw[g];show nuM (nuT.getD a []) (2^i)=_;rw[zbdg];exact xfa l
def StOk16(l:List (List Int)):Prop:=∀r∈l,RowOk r 16 6/\Stp r
theorem zbdd(h:StOk16 l) (d:nuSt[i]?=some x):(nuS l).testBit i=decide (l.count x%2=1):=by
 induction l with
 |nil=>simp[nuS]
 |cons r l b=>
  have b:=b λy g=>h y (xbf _ g)
  obtain⟨j,a,e⟩:=zoo (h r (by simp)).1 (h r (by simp)).2;show(nu r^^^nuS l).testBit i=_;rw[xhf,b,e,xkj,xhe];by_cases c:j=i
  ·subst c;rw[d] at a;cases a;rw[xbp rfl,if_pos (by simp)];rcases xei (l.count x) with z|z
   ·rw[xbv (by lia),xbp (by lia)];rfl
   ·rw[xbp z,xbv (by lia)];rfl
  ·have:¬ r=x:=λz=>by
    subst z;obtain⟨n,k⟩:=xbh.mp a;obtain⟨m,f⟩:=xbh.mp d;exact c ((xlv zvj).mp (k.trans f.symm))
   simp[c,this]
def stl(v:Nat):List (List Int):=sortR (((List.range 84).filter λi=>v.testBit i).map λi=>nuSt.getD i [])
theorem zbrv(h:StOk16 l)(m:l.Nodup):sortR l=stl (nuS l):=by
 unfold stl;refine zjm (zgd m ?_ λx=>?_)
 ·refine List.Pairwise.map _ (R:=λi j=>i≠j/\i<84/\j<84) ?_ ?_
  ·rintro i j ⟨p,n,o⟩ e;rw[xbg,xbg,xbd (by rw[zec];exact n),xbd (by rw[zec];exact o)] at e;exact p ((xlv zvj).mp e)
  ·refine List.Pairwise.imp_of_mem (R:=(·≠·)) (λ{a b} q g h=>⟨h,xbi.mp (xcj.mp q).1,xbi.mp (xcj.mp g).1⟩) (xil.filter _)
 ·constructor
  ·intro f;obtain⟨i,k,r⟩:=zoo (h x f).1 (h x f).2;have d:i<84:=by have:=(xbh.mp k).1;rw[zec] at this;exact this
   refine xbt.mpr ⟨i,xcj.mpr ⟨xbi.mpr d,?_⟩,by rw[xbg,k];rfl⟩;rw[zbdd h k,xol m,if_pos f];rfl
  ·intro f;obtain⟨i,d,rfl⟩:=xbt.mp f;obtain⟨d,g⟩:=xcj.mp d;have d:=xbi.mp d;have e:nuSt[i]?=some (nuSt.getD i []):=by rw[xbg,xbd (by rw[zec];exact d)];rfl
   rw[zbdd h e,xol m] at g;by_cases c:nuSt.getD i []∈l
   ·exact c
   ·rw[if_neg c] at g;simp at g
theorem zvw{α:Type}[DecidableEq α]:∀{l m:List α},l.Nodup->(∀x∈l,x∈m)->l.length<=m.length
 |[],m,_,_=>xep _
 |a::l,m,nd,h=>by
  rw[xdf] at nd;have b:a∈m:=h a (by simp);have d:=zvw (l:=l) (m:=m.erase a) nd.2 λx c=>by
   refine(List.mem_erase_of_ne λe=>?_).mpr (h x (xbf _ c));subst e;exact nd.1 c
  rw[List.length_erase_of_mem b] at d;have:0<m.length:=List.length_pos_of_mem b;rw[xbw];lia
noncomputable def allR:Nat->Nat->List (List Int)
 |0,_=>[[]]
 |k+1,s=>[]::(List.range s).flatMap λa=>(allR k (s-1-a)).map λr=>((a+1:Nat):Int)::r
noncomputable def cntR:Nat->Nat->Nat
 |0,_=>1
 |k+1,s=>1+((List.range s).map λa=>cntR k (s-1-a)).sum
theorem zxy:∀k s,(allR k s).length=cntR k s
 |0,_=>rfl
 |k+1,s=>by
  unfold allR cntR;rw[xbw,List.length_flatMap,xof]
  congr 2
  refine xea λa _=>?_
  rw[xbc,zxy k]
theorem zxx:∀(k s:Nat) (r:List Int),RowOk r s k->r∈allR k s
 |0,s,r,h=>by
  have:=h.len;have:r=[]:=xhj.mp (by lia);subst this;simp[allR]
 |k+1,s,[],_=>by simp[allR]
 |k+1,s,a::r,h=>by
  have d:=h.pos a (by simp);have c:=h.sum;rw[xcs] at c;have e:0<=r.sum:=zce λx b=>h.pos x (xbf _ b)
  obtain⟨a,rfl⟩:=xcv (show 0<=a by lia);unfold allR;refine xbf _ (xcu.mpr ⟨a-1,xbi.mpr (by lia),xbt.mpr ⟨r,zxx k _ r ⟨λx b=>h.pos x (xbf _ b),?_,?_⟩,?_⟩⟩)
  ·lia
  ·have:=h.len;rw[xbw] at this;lia
  ·rw[show a-1+1=a by lia]
theorem zuk{l:List (List Int)}(b:l.Nodup)(h:∀r∈l,RowOk r 16 6):l.length<=15000:=by
 have d:=zvw b λr c=>zxx 6 16 r (h r c)
 rw[zxy] at d;have a:Nat.ble (cntR 6 16) 15000=true:=by decide +kernel
 have a:=xjt a;lia
theorem zbnn:∀{r:List Int}{k:Int},0<=k->(∀x∈r,1<=x)->0<=momR k r
 |[],k,_,_=>by simp[momR]
 |x::r,k,hk,h=>by
  have b:=zbnn (r:=r) (k:=k+1) (by lia) λy a=>h y (xbf _ a)
  have c:=h x (by simp);have d:0<=k*x:=xoz hk (by lia);unfold momR;lia
theorem zbno:∀{r:List Int}{k:Int},0<=k->(∀x∈r,1<=x)->momR k r<=(k+r.length)*r.sum
 |[],k,_,_=>by simp[momR]
 |x::r,k,hk,h=>by
  have c:=zbno (r:=r) (k:=k+1) (by lia) λy d=>h y (xbf _ d)
  have e:=h x (by simp);have f:0<=((r.length:Int)+1)*x:=xoz (by lia) (by lia);rw[xcs,xbw,Int.mul_add];unfold momR;have a:(k+((r.length+1:Nat):Int))*x=k*x+((r.length:Int)+1)*x:=by rw[←xnc];congr 1;try lia
  have b:(k+1+(r.length:Int))*r.sum=(k+((r.length+1:Nat):Int))*r.sum:=by congr 1;push_cast;lia
  rw[a];rw[b] at c
  lia
theorem zbnp(h:RowOk r 16 6):0<=momR 1 r/\momR 1 r<=112:=by
 refine⟨zbnn (by lia) h.pos,xmg (zbno (by lia) h.pos) ?_⟩;have b:=h.len;have c:=h.sum;have a:0<=r.sum:=zce h.pos
 calc (1+(r.length:Int))*r.sum<=7*r.sum:=Int.mul_le_mul_of_nonneg_right (by lia) a
  _<=112:=by lia
structure LvG (lr:Lr):Prop where
 nd:(lr.map (·.1)).Nodup
 row:∀q∈lr,∀r∈q.2,RowOk r 16 6/\momR 1 r=q.1
 key:∀q∈lr,0<=q.1/\q.1<=112
 rnd:∀q∈lr,q.2.Nodup
theorem LvG.few(h:LvG b):b.length<=113/\∀q∈b,q.2.length<=15000:=by
 refine⟨?_,λq a=>zuk (h.rnd q a) λr d=>(h.row q a r d).1⟩;have:=zvw (m:=(List.range 113).map λ(i:Nat)=>(i:Int)) h.nd λx c=>by
  obtain⟨q,a,rfl⟩:=xbt.mp c;have:=h.key q a;exact xbt.mpr ⟨q.1.toNat,xbi.mpr (by lia),by lia⟩
 simpa using this
theorem zdd:∀{a:Lr}(q:Int×List (List Int)),q∈flipR r a->q∈a\/(q.1=momR 1 r/\((q.2=[r]/\∀x∈a,x.1≠momR 1 r)\/∃l,(q.1,l)∈a/\q.2=aP l r))
 |[],q,h=>by
  unfold flipR at h;simp at h;subst h;exact .inr ⟨rfl,.inl ⟨rfl,λx f=>by cases f⟩⟩
 |x::a,q,h=>by
  unfold flipR at h;split at h
  ·rename_i c;rcases xbm.mp h with rfl|h
   ·exact .inr ⟨c,.inr ⟨x.2,by simp,rfl⟩⟩
   ·exact .inl (xbf _ h)
  ·rename_i c;rcases xbm.mp h with rfl|h
   ·exact .inl (by simp)
   ·rcases zdd q h with h|⟨e,⟨b,d⟩|⟨l,b,d⟩⟩
    ·exact .inl (xbf _ h)
    ·refine .inr ⟨e,.inl ⟨b,λy hy=>?_⟩⟩;rcases xbm.mp hy with rfl|hy
     ·exact c
     ·exact d y hy
    ·exact .inr ⟨e,.inr ⟨l,xbf _ b,d⟩⟩
theorem zwl:∀{a:Lr},(a.map (·.1)).Nodup->((flipR r a).map (·.1)).Nodup
 |[],_=>by simp[flipR]
 |x::a,nd=>by
  rw[xbq,xdf] at nd;unfold flipR;split
  ·rw[xbq,xdf];exact nd
  ·rename_i c;rw[xbq,xdf];refine⟨λz=>?_,zwl nd.2⟩;obtain⟨q,b,e⟩:=xbt.mp z;rcases zdd q b with h|⟨h,_⟩
   ·exact nd.1 (xbt.mpr ⟨q,h,e⟩)
   ·exact c (e.symm.trans h)
theorem LvG.flip(h:LvG lr)(f:RowOk r 16 6):LvG (flipR r lr):=by
 refine⟨zwl h.nd,λq d x b=>?_,λq d=>?_,λq d=>?_⟩
 ·rcases zdd q d with a|⟨a,⟨c,e⟩|⟨l,c,e⟩⟩
  ·exact h.row q a x b
  ·rw[c,xbz] at b;subst b;exact⟨f,a.symm⟩
  ·rw[e,zbu] at b;rcases b with⟨b,_⟩|⟨rfl,_⟩
   ·exact h.row _ c x b
   ·exact⟨f,a.symm⟩
 ·rcases zdd q d with a|⟨a,_⟩
  ·exact h.key q a
  ·rw[a];exact zbnp f
 ·rcases zdd q d with a|⟨a,⟨c,e⟩|⟨l,c,e⟩⟩
  ·exact h.rnd q a
  ·rw[c];simp
  ·rw[e];exact zck (h.rnd _ c)
def inM(a:Lr) (x:List Int):Prop:=∃q∈a,x∈q.2
theorem zbia(h:LvG b)(o:RowOk r 16 6):inM (flipR r b) x↔(inM b x/\x≠r)\/(x=r/\¬ inM b r):=by
 have j:∀{b:Lr},(b.map (·.1)).Nodup->(∀q∈b,∀r∈q.2,momR 1 r=q.1)->(inM (flipR r b) x↔(inM b x/\x≠r)\/(x=r/\¬ inM b r)):=λ{b}=>by
  induction b with
  |nil=>
   intro _ _;unfold flipR inM;simp
  |cons a b ih=>
   intro k l;rw[xbq,xdf] at k;have f:∀y,inM (a::b) y↔y∈a.2\/inM b y:=λy=>by unfold inM;simp
   unfold flipR;split
   ·rename_i c;have m:¬ inM b r:=λ⟨q,d,i⟩=>k.1 (xbt.mpr ⟨q,d,by rw[c];exact(l q (xbf _ d) r i).symm⟩)
    have g:inM ((a.1,aP a.2 r)::b) x↔x∈aP a.2 r\/inM b x:=by unfold inM;simp
    rw[g,zbu,f,f];by_cases e:x=r
    ·subst e;simp[m]
    ·simp[e]
   ·rename_i c;have g:inM (a::flipR r b) x↔x∈a.2\/inM (flipR r b) x:=by unfold inM;simp
    have n:r∉a.2:=λz=>c (l a (by simp) r z).symm
    rw[g,ih k.2 λq d=>l q (xbf _ d),f,f];by_cases e:x=r
    ·subst e;simp[n]
    ·simp[e]
 exact j h.nd λq d x i=>(h.row q d x i).2
def stepK(a:List (List Int)) (z:List Int×Nat):List (List Int):=(z.1::exRow z.1 z.2).foldl aP a
def Wke(a:List (List Int)) (q:List (List Int×Nat)):List (List Int):=q.foldl stepK a
def Wkd:List (List Int)->List (List Int×Nat)->Prop
 |_,[]=>True
 |ks,z::q=>z.1∈ks/\slowAt z.1 z.2/\Wkd (stepK ks z) q
theorem Wkd.snoc:∀{q:List (List Int×Nat)}{b:List (List Int)}{z:List Int×Nat},Wkd b q->z.1∈Wke b q->slowAt z.1 z.2->Wkd b (q++[z])
 |[],b,z,_,h1,h2=>⟨h1,h2,trivial⟩
 |a::q,b,z,h,h1,h2=>⟨h.1,h.2.1,Wkd.snoc h.2.2 h1 h2⟩
theorem Wke.snoc:Wke ks (q++[z])=stepK (Wke ks q) z:=by unfold Wke;rw[xfl];rfl
theorem zbaz{m:List (List Int)}(h:x∈m.foldl aP ks):x∈ks\/x∈m:=by
 induction m generalizing ks with
 |nil=>exact .inl h
 |cons a m ih=>
  rcases ih h with h|h
  ·rw[zbu] at h;rcases h with⟨h,_⟩|⟨rfl,_⟩
   ·exact .inl h
   ·exact .inr (by simp)
  ·exact .inr (xbf _ h)
theorem zbic{m b:List (List Int)}(h:b.Nodup):(m.foldl aP b).Nodup:=by
 induction m generalizing b with
 |nil=>exact h
 |cons a m ih=>exact ih (zck h)
structure RwsOk (ks:List (List Int)):Prop where
 nd:ks.Nodup
 row:∀r∈ks,RowOk r 16 6
theorem RwsOk.few(h:RwsOk ks):ks.length<=15000:=zuk h.nd h.row
theorem RwsOk.step(h:RwsOk ks)(a:z.1∈ks)(b:slowAt z.1 z.2):RwsOk (stepK ks z)/\nuS (stepK ks z)=nuS ks:=by
 refine⟨⟨zbic h.nd,λr hr=>?_⟩,?_⟩
 ·rcases zbaz hr with hr|hr
  ·exact h.row r hr
  ·rcases xbm.mp hr with rfl|hr
   ·exact h.row _ a
   ·exact zlo (h.row _ a) b r hr
 ·unfold stepK;rw[zqm _ _ h.nd];show nuS ks^^^(nu z.1^^^nuS (exRow z.1 z.2))=_;rw[zbts (h.row _ a) b,xhv,xfp]
theorem RwsOk.walk:∀{q:List (List Int×Nat)}{e:List (List Int)},RwsOk e->Wkd e q->RwsOk (Wke e q)/\nuS (Wke e q)=nuS e
 |[],e,h,_=>⟨h,rfl⟩
 |z::q,e,h,w=>by
  obtain⟨a,b⟩:=h.step w.1 w.2.1;obtain⟨c,d⟩:=RwsOk.walk a w.2.2;exact⟨c,d.trans b⟩
theorem zbew(h:RwsOk c)(w:Wkd c q)(s:∀x∈Wke c q,Stp x):sortR (Wke c q)=stl (nuS c):=by
 obtain⟨a,b⟩:=h.walk w;rw[zbrv (λr d=>⟨a.row r d,s r d⟩) a.nd,b]
def foldR(b:List (List Int)) (c:Lr):Lr:=b.foldl (λa r=>flipR r a) c
structure LvTo (au:Store) (L:Nat) (lv:Lv) (ms:List (List Int)) (s:Store) (lv':Lv):Prop where
 at_:LvAt s L lv'
 eq:lvR lv'=foldR ms (lvR lv)
 keep:∀i,i<au.length->i≠L->(∀q∈lv,q.2.1≠i)->s[i]?=au[i]?
 len:au.length<=s.length
 ix:∀q∈lv',au.length<=q.2.1\/∃q0∈lv,q0.2.1=q.2.1
theorem LvTo.refl{L:Nat}(h:LvAt au L lv):LvTo au L lv [] au lv:=⟨h,rfl,λ_ _ _ _=>rfl,xbj _,λq a=>.inr ⟨q,a,rfl⟩⟩
theorem zqz:∀{b:Lv},∀q∈flipLv n r b,q.2.1=n\/∃a∈b,a.2.1=q.2.1
 |[],q,hq=>by
  unfold flipLv at hq;simp at hq;subst hq;exact .inl rfl
 |x::b,q,hq=>by
  unfold flipLv at hq;split at hq
  ·rcases xbm.mp hq with rfl|hq
   ·exact .inr ⟨x,by simp,rfl⟩
   ·exact .inr ⟨q,xbf _ hq,rfl⟩
  ·rcases xbm.mp hq with rfl|hq
   ·exact .inr ⟨q,by simp,rfl⟩
   ·rcases zqz q hq with h|⟨a,c,d⟩
    ·exact .inl h
    ·exact .inr ⟨a,xbf _ c,d⟩
theorem LvTo.snoc{L:Nat}{n:List (List Int)}{r:List Int}(a:LvTo au L lv n s b)(h:LvAt s2 L (flipLv s.length r b))(k:∀i,i<s.length->i≠L->(∀q∈b,q.2.1≠i)->s2[i]?=s[i]?)(l:s.length<=s2.length):
  LvTo au L lv (n++[r]) s2 (flipLv s.length r b):=by
 refine⟨h,?_,λi p m d=>?_,xbb a.len l,λq d=>?_⟩
 ·rw[zld,a.eq];unfold foldR;rw[xfl];rfl
 ·have u:=a.len;rw[k i (by lia) m λq f=>?_,a.keep i p m d];rcases a.ix q f with c|⟨j,c,e⟩
  ·lia
  ·rw[←e];exact d j c
 ·rcases zqz q d with c|⟨j,c,e⟩
  ·exact .inl (by rw[c];exact a.len)
  ·rcases a.ix j c with g|⟨o,g,t⟩
   ·exact .inl (by rw[←e];exact g)
   ·exact .inr ⟨o,g,t.trans e⟩
theorem zbdl(h:LvG (lvR a)):a.length<=113/\∀q∈a,q.2.2.length<=15000:=by
 refine⟨by have:=h.few.1;unfold lvR at this;rwa [xbc] at this,λq b=>h.few.2 (q.1,q.2.2) (xbt.mpr ⟨q,b,rfl⟩)⟩
theorem zbll(h:RowOk r 16 6):r.length<=1000/\∀x∈r,-10000<=x/\x<=10000:=⟨by have:=h.len;lia,λx a=>by have:=zbfn h x a;lia⟩
theorem zbnx{L:Nat}{e:List (List Int)}(h:LvAt au L lv)(u:LvG (lvR lv))(g:∀r∈e,RowOk r 16 6)
  (k:∀s a d,LvTo au L lv e s a->LvG (lvR a)->Q (.nx [S0,some (.ref L),S2,S3,S4,S5,d]) s):WP (forF (gN 6) zpl (aJ e) [S0,some (.ref L),S2,S3,S4,S5,v6] au) Q:=by
 refine zdj (λi σ s=>∃a d,σ=[S0,some (.ref L),S2,S3,S4,S5,d]/\LvTo au L lv (e.take i) s a/\LvG (lvR a)) ⟨lv,v6,rfl,.refl h,u⟩ ?_ ?_
 ·rintro i x σ s j ⟨a,d,rfl,t,c⟩;obtain⟨r,f,rfl⟩:=zbj j;have v:=(xbh.mp f).1;have b:=zbll (g r (xbu f));have z:=zbdl c;have p:=g r (xbu f);refine⟨[S0,some (.ref L),S2,S3,S4,S5,some (aL r)],rfl,?_⟩;unfold zpl;simp only[W,V,M];refine zgx t.at_ b.1 b.2 (by lia) (λq l=>by have:=z.2 q l;lia) λw m o n=>?_
  simp only[W,V,Dd.L];refine⟨flipLv s.length r a,_,rfl,?_,?_⟩
  ·rw[zf f];exact t.snoc m o n
  ·rw[zld];exact c.flip p
 ·rintro σ s ⟨a,d,rfl,t,c⟩;rw[zd] at t;rw[xce] at t;exact k s a d t c
theorem zbid{L:Nat}{e:List (List Int)}(h:LvAt au L lv)(u:LvG (lvR lv))(g:∀r∈e,RowOk r 16 6)
  (k:∀s a d,LvTo au L lv e s a->LvG (lvR a)->Q (.nx [S0,some (.ref L),d,S3,S4,S5,S6]) s):WP (forF (gN 2) zlx (aJ e) [S0,some (.ref L),v2,S3,S4,S5,S6] au) Q:=by
 refine zdj (λi σ s=>∃a d,σ=[S0,some (.ref L),d,S3,S4,S5,S6]/\LvTo au L lv (e.take i) s a/\LvG (lvR a)) ⟨lv,v2,rfl,.refl h,u⟩ ?_ ?_
 ·rintro i x σ s j ⟨a,d,rfl,t,c⟩;obtain⟨r,f,rfl⟩:=zbj j;have v:=(xbh.mp f).1;have b:=zbll (g r (xbu f));have z:=zbdl c;have p:=g r (xbu f);refine⟨[S0,some (.ref L),some (aL r),S3,S4,S5,S6],rfl,?_⟩;unfold zlx;simp only[W,V,M];refine zgx t.at_ b.1 b.2 (by lia) (λq l=>by have:=z.2 q l;lia) λw m o n=>?_
  simp only[W,V,Dd.L];refine⟨flipLv s.length r a,_,rfl,?_,?_⟩
  ·rw[zf f];exact t.snoc m o n
  ·rw[zld];exact c.flip p
 ·rintro σ s ⟨a,d,rfl,t,c⟩;rw[zd] at t;rw[xce] at t;exact k s a d t c
def stpD(q:List (List Int×Nat)):List D:=q.map λz=>.tup [aL z.1,.int z.2]
def rowW(a:Lr×List (List Int×Nat)) (r:List Int):Lr×List (List Int×Nat):=match placesL r with
 |[]=>a
 |p::_=>(foldR (exRow r p) a.1,a.2++[(r,p)])
structure Wy (s0:Store) (b:Nat) (L M:Nat) (s:Store) (lv:Lv) (q:List (List Int×Nat)):Prop where
 at_:LvAt s L lv
 stp:s[M]?=some (.lst (stpD q))
 ne:M≠L
 ni:∀x∈lv,x.2.1≠M
 bL:b<=L
 bM:b<=M
 bI:∀x∈lv,b<=x.2.1
 low:∀i,i<b->s[i]?=s0[i]?
 bs:b<=s.length
theorem LvAt.more{L:Nat}(h:LvAt s L lv)(g:Store):LvAt (s++g) L lv:=
 ⟨by rw[xcg (zo h.at_)];exact h.at_,λq a=>by rw[xcg (zo (h.in_ q a))];exact h.in_ q a,h.nd,h.ix,h.rows⟩
theorem Wy.more{b L M:Nat}(h:Wy s0 b L M s lv q)(g:Store):Wy s0 b L M (s++g) lv q:=
 ⟨h.at_.more g,by rw[xcg (zo h.stp)];exact h.stp,h.ne,h.ni,h.bL,h.bM,h.bI,λi a=>by rw[xcg (xbn a h.bs)];exact h.low i a,by rw[xbl];have:=h.bs;lia⟩
theorem Wy.put{b L M:Nat}(h:Wy s0 b L M s lv q):Wy s0 b L M (s.set M (.lst (stpD q++[.tup [aL z.1,.int z.2]]))) lv (q++[z]):=by
 refine⟨⟨?_,λx a=>?_,h.at_.nd,h.at_.ix,h.at_.rows⟩,?_,h.ne,h.ni,h.bL,h.bM,h.bI,λi c=>?_,by rw[xdn];exact h.bs⟩
 ·rw[xcb h.ne];exact h.at_.at_
 ·rw[xcb (h.ni x a).symm];exact h.at_.in_ x a
 ·rw[zds (zo h.stp)];unfold stpD;rw[xdr];rfl
 ·have:=h.bM;rw[xcb (by lia)];exact h.low i c
theorem Wy.to{b L M:Nat}{e:List (List Int)}(h:Wy s0 b L M s lv q)(t:LvTo s L lv e s2 lv'):Wy s0 b L M s2 lv' q:=by
 have f:=zo h.stp;refine⟨t.at_,?_,h.ne,λx c=>?_,h.bL,h.bM,λx c=>?_,λi g=>?_,xbb h.bs t.len⟩
 ·rw[t.keep M f h.ne h.ni];exact h.stp
 ·rcases t.ix x c with a|⟨y,a,d⟩
  ·lia
  ·rw[←d];exact h.ni y a
 ·rcases t.ix x c with a|⟨y,a,d⟩
  ·exact xbb h.bs a
  ·rw[←d];exact h.bI y a
 ·have a:=h.bs;have d:=h.bL;rw[t.keep i (by lia) (by lia) λx c=>by have:=h.bI x c;lia];exact h.low i g
theorem zbhj{b L M:Nat}{m:List (List Int)}(h:Wy s0 b L M au lv q)(Y:LvG (lvR lv))(hq:q.length+m.length<=10000000)(hr:∀r∈m,RowOk r 16 6)
  (k:∀s c d u o n,Wy s0 b L M s c d->(lvR c,d)=m.foldl rowW (lvR lv,q)->LvG (lvR c)->d.length<=q.length+m.length->Q (.nx [S0,some (.ref L),u,some (.ref M),S4,o,n]) s):
  WP (forF (gN 2) zpk (aJ m) [S0,some (.ref L),v2,some (.ref M),S4,v5,v6] au) Q:=by
 refine zdj (λi σ s=>∃c d u o n,σ=[S0,some (.ref L),u,some (.ref M),S4,o,n]/\Wy s0 b L M s c d/\(lvR c,d)=(m.take i).foldl rowW (lvR lv,q)/\LvG (lvR c)/\d.length<=q.length+i) ⟨lv,q,v2,v5,v6,rfl,h,rfl,Y,xbj _⟩ ?_ ?_
 ·rintro i x σ s hx ⟨c,d,u,o,n,rfl,t,w,f,y⟩;obtain⟨r,C,rfl⟩:=zbj hx;have hi:=(xbh.mp C).1;have l:=hr r (xbu C);have rl:=l.len;refine⟨[S0,some (.ref L),some (aL r),some (.ref M),S4,o,n],rfl,?_⟩;have P:(m.take (i+1)).foldl rowW (lvR lv,q)=rowW (lvR c,d) r:=by rw[zf C,xfl,←w];rfl
  unfold zpk;simp only[W,V,Dd.M];refine WP.of (zzo (by lia)) ?_
  try simp only[W,V,Dd.M]
  cases hp:placesL r with
  |nil=>
   refine⟨false,rfl,?_⟩;rw[if_neg (by decide)];refine⟨c,d,_,_,_,rfl,t,?_,f,by lia⟩;rw[P];unfold rowW;rw[hp]
  |cons p ps=>
   refine⟨true,rfl,?_⟩;rw[if_pos rfl];have G:slowAt r p:=zij.mp (by rw[hp];simp);have H:=zbco l G;have A:p+1<r.length:=by obtain⟨a,b,_,z,_⟩:=G;exact(xbh.mp z).1
   have a0:=ziq r p;have U:∀s:Store,oIx (.lst (plD (p::ps))) (.int 0) s=.ok (.int p) s:=λs=>zkz rfl (zbjt (j:=0) rfl)
   refine⟨_,_,rfl,t.stp,WP.of (U s) ⟨small _ (by simp),_,_,rfl,t.stp,by unfold stpD;rw[xbc,xha];lia,WP.of (U _) ?_⟩⟩;have E:=t.put (z:=(r,p));obtain⟨g,e⟩:=zey (au:=s.set M (.lst (stpD d++[.tup [aL r,.int p]]))) (r:=r) (p:=p) A (by lia) H.1.1 (by lia) (by lia) (by lia);refine WP.of e ⟨_,rfl,?_⟩;have v:=E.more g;refine zbnx v.at_ f (zlo l G) λs2 J X S I=>?_
   refine⟨J,d++[(r,p)],_,_,_,rfl,v.to S,?_,I,by rw[xbl,xgu];lia⟩;rw[P];unfold rowW;rw[hp]
   show _=(foldR (exRow r p) (lvR c),d++[(r,p)])
   rw[S.eq]
 ·rintro σ s ⟨c,d,u,o,n,rfl,t,w,f,y⟩;rw[zd] at w y;rw[xce] at w;exact k s c d u o n t w f y
def topL(a:Lr):Int:=match a.map (·.1) with
 |[]=>0
 |k::ks=>bestI true k ks
def lessR(a:Lr) (m:Int):Lr:=a.filter λq=>decide (q.1≠m)
def lessV(a:Lv) (m:Int):Lv:=a.filter λq=>decide (q.1≠m)
theorem zbnz:lvR (lessV lv m)=lessR (lvR lv) m:=by
 unfold lvR lessV lessR;rw[xjd];rfl
theorem zboa:dropI (lvD lv) m=lvD (lessV lv m):=by
 unfold dropI lvD lessV;rw[xjd];rfl
theorem Wy.less{b L M:Nat}{m:Int}(h:Wy s0 b L M s lv q):Wy s0 b L M (s.set L (.dI (lvD (lessV lv m)))) (lessV lv m) q:=by
 have sub:∀x∈lessV lv m,x∈lv:=λx a=>(xcj.mp a).1
 have c:∀x∈lv,x.2.1≠L:=λx a z=>by have:=h.at_.in_ x a;rw[z,h.at_.at_] at this;cases this
 refine⟨⟨zds (zo h.at_.at_),λx a=>?_,?_,?_,λx a=>h.at_.rows x (sub x a)⟩,?_,h.ne,λx a=>h.ni x (sub x a),h.bL,h.bM,λx a=>h.bI x (sub x a),λi d=>?_,by rw[xdn];exact h.bs⟩
 ·rw[xcb (c x (sub x a)).symm];exact h.at_.in_ x (sub x a)
 ·exact h.at_.nd.sublist (xis.map _)
 ·exact h.at_.ix.sublist (xis.map _)
 ·rw[xcb h.ne.symm];exact h.stp
 ·have:=h.bL;rw[xcb (by lia)];exact h.low i d
structure Iv (k0:List (List Int)) (m:Int) (lr:Lr) (rs:List (List Int)) (q:List (List Int×Nat)):Prop where
 wk:Wkd k0 q
 g:LvG lr
 lt:∀x∈lr,x.1<m
 low:∀x,momR 1 x<m->(x∈Wke k0 q↔inM lr x)
 rs_:∀x∈rs,momR 1 x=m/\x∈Wke k0 q
 rn:rs.Nodup
 high:∀x∈Wke k0 q,m<=momR 1 x->x∈rs\/Stp x
theorem zbbx(G:LvG lr)(c:RowOk r 16 6)(b:momR 1 r<m)(h:∀x,momR 1 x<m->(x∈ks↔inM lr x)):∀x,momR 1 x<m->(x∈aP ks r↔inM (flipR r lr) x):=λx a=>by
 rw[zbu,zbia G c,h x a,h r b]
theorem ziy:∀{ms:List (List Int)}{lr:Lr}{ks:List (List Int)},LvG lr->(∀r∈ms,RowOk r 16 6/\momR 1 r<m)->(∀x,momR 1 x<m->(x∈ks↔inM lr x))->LvG (foldR ms lr)/\∀x,momR 1 x<m->(x∈ms.foldl aP ks↔inM (foldR ms lr) x)
 |[],lr,ks,G,_,h=>⟨G,h⟩
 |r::ms,lr,ks,G,hm,h=>ziy (ms:=ms) (G.flip (hm r (by simp)).1) (λx a=>hm x (xbf _ a)) (zbbx G (hm r (by simp)).1 (hm r (by simp)).2 h)
theorem zqy:∀{ms a:List (List Int)},(∀r∈ms,x≠r)->(x∈ms.foldl aP a↔x∈a)
 |[],a,_=>Iff.rfl
 |r::ms,a,h=>by
  rw[xgc,zqy (ms:=ms) λy b=>h y (xbf _ b),zbu];have:=h r (by simp);simp[this]
theorem zou:∀{ms:List (List Int)}{a:Lr},(∀r∈ms,momR 1 r<m)->(∀x∈a,x.1<m)->∀x∈foldR ms a,x.1<m
 |[],a,_,h=>h
 |r::ms,a,hm,h=>zou (ms:=ms) (λx c=>hm x (xbf _ c)) λx c=>by
  rcases zdd x c with b|⟨b,_⟩
  ·exact h x b
  ·rw[b];exact hm r (by simp)
theorem Iv.row(K:RwsOk k0)(h:Iv k0 m lr (r::rs) q):Iv k0 m (rowW (lr,q) r).1 rs (rowW (lr,q) r).2:=by
 obtain⟨o,_⟩:=K.walk h.wk;have f:=h.rs_ r (by simp);have l:=xdf.mp h.rn;unfold rowW;cases hp:placesL r with
 |nil=>
  refine⟨h.wk,h.g,h.lt,h.low,λx a=>h.rs_ x (xbf _ a),l.2,λx a g=>?_⟩;rcases h.high x a g with z|z
  ·rcases xbm.mp z with rfl|z
   ·exact .inr (zbru hp)
   ·exact .inl z
  ·exact .inr z
 |cons p ps=>
  have k:slowAt r p:=zij.mp (by rw[hp];simp);have d:=o.row r f.2;have n:∀z∈exRow r p,RowOk z 16 6/\momR 1 z<m:=λz i=>⟨zlo d k z i,by rw[←f.1];exact zbhd d.pos k i⟩
  have t:∀x,momR 1 x<m->(x∈aP (Wke k0 q) r↔inM lr x):=λx a=>by
   rw[zbu,←h.low x a];have:x≠r:=λe=>by rw[e,f.1] at a;lia
   simp[this]
  obtain⟨s,v⟩:=ziy h.g n t;have c:∀x,m<=momR 1 x->(x∈stepK (Wke k0 q) (r,p)↔x∈Wke k0 q/\x≠r):=λx a=>by
   show x∈(exRow r p).foldl aP (aP (Wke k0 q) r)↔_;rw[zqy λy u e=>by have:=(n y u).2;rw[←e] at this;lia,zbu];have:=f.2;constructor
   ·rintro(z|⟨rfl,z⟩)
    ·exact z
    ·exact absurd this z
   ·exact λz=>.inl z
  refine⟨h.wk.snoc f.2 k,s,zou (λz i=>(n z i).2) h.lt,λx a=>?_,λx a=>?_,l.2,λx a g=>?_⟩
  ·rw[Wke.snoc];exact v x a
  ·have b:=h.rs_ x (xbf _ a);rw[Wke.snoc];refine⟨b.1,(c x (by rw[b.1];exact xnb _)).mpr ⟨b.2,λe=>?_⟩⟩;subst e;exact l.1 a
  ·rw[Wke.snoc] at a;obtain⟨a,j⟩:=(c x g).mp a;rcases h.high x a g with z|z
   ·rcases xbm.mp z with e|z
    ·exact absurd e j
    ·exact .inl z
   ·exact .inr z
theorem Iv.rows(K:RwsOk k0):∀{rs:List (List Int)}{a:Lr}{q:List (List Int×Nat)},Iv k0 m a rs q->Iv k0 m (rs.foldl rowW (a,q)).1 [] (rs.foldl rowW (a,q)).2
 |[],a,q,h=>h
 |r::rs,a,q,h=>Iv.rows (rs:=rs) K (h.row K)
theorem zbkz:∀{b:Lr},b≠[]->(∃l,(topL b,l)∈b)/\∀x∈b,x.1<=topL b
 |[],h=>absurd rfl h
 |a::b,_=>by
  obtain⟨c,i⟩:=zpd (b.map (·.1)) a.1;have e:topL (a::b)=bestI true a.1 (b.map (·.1)):=rfl;rw[e];refine⟨?_,λx d=>i _ (by rw[←xbq (f:=λq:Int×List (List Int)=>q.1)];exact xbt.mpr ⟨x,d,rfl⟩)⟩;rw[←xbq (f:=λq:Int×List (List Int)=>q.1)] at c;obtain⟨q,g,e⟩:=xbt.mp c;exact⟨q.2,by rw[←e];exact g⟩
theorem Iv.next(h:Iv k0 m lr [] q)(d:(topL lr,l)∈lr):Iv k0 (topL lr) (lessR lr (topL lr)) (sortR l) q:=by
 have j:lr≠[]:=λe=>by rw[e] at d;cases d
 have top:=(zbkz j).2;have k:topL lr<m:=h.lt _ d;have sub:∀x∈lessR lr (topL lr),x∈lr/\x.1≠topL lr:=λx a=>by
  obtain⟨f,g⟩:=xcj.mp a;exact⟨f,xdh g⟩
 have i:∀x∈lr,x.1=topL lr->x.2=l:=λx a e=>by
  have:=zvo h.g.nd a d e;rw[this]
 refine⟨h.wk,⟨h.g.nd.sublist (xis.map _),λx a=>h.g.row x (sub x a).1,λx a=>h.g.key x (sub x a).1,λx a=>h.g.rnd x (sub x a).1⟩,λx a=>?_,λx a=>?_,λx a=>?_,?_,λx a o=>?_⟩
 ·have f:=sub x a;have g:=top x f.1;have p:=f.2;lia
 ·rw[h.low x (by lia)];constructor
  ·rintro⟨y,c,b⟩;refine⟨y,xcj.mpr ⟨c,xbp λe=>?_⟩,b⟩;have:=(h.g.row y c x b).2;lia
  ·rintro⟨y,c,b⟩;exact⟨y,(sub y c).1,b⟩
 ·have a:=(zl l).mem_iff.mp a;have e:=(h.g.row _ d x a).2;have e:momR 1 x=topL lr:=e;exact⟨e,(h.low x (by lia)).mpr ⟨_,d,a⟩⟩
 ·exact(zl l).nodup_iff.mpr (h.g.rnd _ d)
 ·rcases Int.lt_or_le (momR 1 x) m with z|z
  ·obtain⟨y,c,b⟩:=(h.low x z).mp a;have e:=(h.g.row y c x b).2;have n:=top y c;exact .inl ((zl l).mem_iff.mpr (by rw[←i y c (by lia)];exact b))
  ·rcases h.high x a z with z|z
   ·cases z
   ·exact .inr z
theorem Iv.end_(h:Iv c m [] [] q):∀x∈Wke c q,Stp x:=λx a=>by
 rcases Int.lt_or_le (momR 1 x) m with z|z
 ·obtain⟨y,b,_⟩:=(h.low x z).mp a;cases b
 ·rcases h.high x a z with z|z
  ·cases z
  ·exact z
theorem Iv.start(K:RwsOk k0):Iv k0 113 (foldR k0 []) [] []:=by
 have d:∀r∈k0,RowOk r 16 6/\momR 1 r<113:=λr f=>⟨K.row r f,by have:=zbnp (K.row r f);lia⟩
 obtain⟨g,h⟩:=ziy (m:=113) (ms:=k0) (lr:=[]) (ks:=[]) ⟨by simp,λq b=>(by cases b),λq b=>(by cases b),λq b=>(by cases b)⟩ d λx _=>by unfold inM;simp
 have e:∀x,x∈k0.foldl aP []↔x∈k0:=λx=>by
  have:=(zjq k0 [] xgm).2.2 x;rw[this,xol K.nd];by_cases c:x∈k0<;>simp[c]
 refine⟨trivial,g,zou (λz i=>(d z i).2) (λx a=>(by cases a)),λx a=>?_,λx a=>(by cases a),xgm,λx a j=>?_⟩
 ·rw[←h x a,e];rfl
 ·have:=(d x a).2;lia
theorem zbkw{L:Nat}(a:f σ au=.ok (.ref L) au)(h:au[L]?=some (.dI kvs)):bTruI f σ au=.ok (!kvs.isEmpty) au:=by
 unfold bTruI;rw[a,zw];dsimp only;rw[h]
theorem zbnw{L:Nat}(h:au[L]?=some (.dI (lvD lv)))(b:lv≠[]):bMaxI [.ref L] au=.ok (.int (topL (lvR lv))) au:=by
 unfold bMaxI;dsimp only;rw[h];cases lv with
 |nil=>exact absurd rfl b
 |cons a lv=>
  show Res.ok (D.int (bestI true a.1 ((lvD lv).map (·.1)))) au=.ok (D.int (bestI true a.1 ((lvR lv).map (·.1)))) au
  congr 3
  unfold lvD lvR;rw[xcz,xcz];rfl
theorem zbly{L:Nat}{k:Int}(c:f σ au=.ok (.ref L) au)(h:au[L]?=some (.dI kvs))(a:g σ au=.ok [.int k] au)(b:valI kvs k=some v):ePopI f g σ au=.ok v (au.set L (.dI (dropI kvs k))):=by
 unfold ePopI;rw[c,zw];dsimp only
 rw[h];dsimp only
 rw[a,zw];try dsimp only
 rw[h];try dsimp only
 rw[b]
theorem zyz{au:Store}(h:∀i,i<au.length->s[i]?=au[i]?)(a:au.length<=s.length):s=au++s.drop au.length:=by
 refine xic λi=>?_
 rcases xij i au.length with z|z
 ·rw[h i z,xcg z]
 ·rw[xdi z,xfs];congr 1;lia
structure Way (ks:List (List Int)) (q:List (List Int×Nat)):Prop where
 wk:Wkd ks q
 fin:∀x∈Wke ks q,Stp x
 len:q.length<=2000000
theorem zbeu{c:Store}{g:List (List Int)}{T:SS}(K:RwsOk g)(k:∀q M s n u v p,Way g q->s[M]?=some (.lst (stpD q))->c.length<=M->(∀i,i<c.length->s[i]?=c[i]?)->WP (T [some (aK g),some (.ref c.length),n,some (.ref M),u,v,p] s) QQ):
  WP (aD (aF 1 eDNewI) (aD (sFor (aH (aA 0)) (gN 2) zlx) (aD (aF 3 (eLstM aC)) (aD (sWhile (bTruI (aA 1)) zpj) T))) [some (aK g),none,none,none,none,none,none] c) QQ:=by
 simp only[W,V];refine WP.of (show eDNewI _ c=.ok (.ref c.length) (c++[.dI []]) from rfl) ?_
 try simp only[W,V]
 refine⟨_,rfl,?_⟩;have a0:LvAt (c++[O.dI []]) c.length []:=⟨by simp;rfl,λq e=>(by cases e),by simp,by simp,λq e=>(by cases e)⟩
 refine zbid (lv:=[]) a0 ⟨by simp[lvR],λq e=>(by cases e),λq e=>(by cases e),λq e=>(by cases e)⟩ K.row λs b n t G=>?_
 simp only[W,V];refine⟨small _ (by simp),?_⟩;have H:=t.len;rw[xbl,xgu] at H;have P:∀x∈b,c.length+1<=x.2.1:=λx A=>by
  rcases t.ix x A with z|⟨y,w,_⟩
  ·rw[xbl,xgu] at z;exact z
  ·cases w
 have d:Wy c c.length c.length s.length (s++[.lst []]) b []:=by
  refine⟨t.at_.more _,by simp;rfl,by lia,λx A=>xcl (zo (t.at_.in_ x A)),xbj _,by lia,λx A=>by have:=P x A;lia,λi hi=>?_,by rw[xbl];lia⟩;rw[xcg (by lia),t.keep i (by rw[xbl];lia) (by lia) λq e=>(by cases e),xcg hi]
 have f:Iv g (113:Nat) (lvR b) [] []:=by
  rw[t.eq];exact Iv.start K
 generalize s.length=M at d;refine ztg (λj σ s=>∃b q n u v p,σ=[some (aK g),some (.ref c.length),n,some (.ref M),u,v,p]/\Wy c c.length c.length M s b q/\Iv g (j:Int) (lvR b) [] q/\q.length+15000*j<=15000*113) (k:=113) ⟨b,[],_,_,_,_,rfl,d,f,by simp⟩ (by lia) ?_;rintro j σ s ⟨b,q,n,u,v,p,rfl,d,f,ql⟩;refine WP.of (zbkw rfl d.at_.at_) ?_;cases b with
 |nil=>
  rw[if_neg (by simp[lvD])];simp only[W];exact k q M s _ _ _ _ ⟨f.wk,f.end_,by lia⟩ d.stp d.bM d.low
 |cons a lv0=>
  rw[if_pos (by simp[lvD])];generalize hlv:a::lv0=b at *
  have J:b≠[]:=by rw[←hlv];simp
  have E:lvR b≠[]:=by rw[←hlv];simp[lvR]
  clear hlv a lv0;obtain⟨⟨l,o⟩,_⟩:=zbkz E;obtain⟨y,w,ey⟩:=xbt.mp (show(topL (lvR b),l)∈b.map λq=>(q.1,q.2.2) from o);have Y:y.1=topL (lvR b):=congrArg Prod.fst ey;have e2:y.2.2=l:=congrArg Prod.snd ey;have ev:valI (lvD b) (topL (lvR b))=some (.ref y.2.1):=by
   rw[ztm];cases hf:b.find? λq=>decide (q.1=topL (lvR b)) with
   |none=>exact absurd Y (by simpa using xni.mp hf y w)
   |some z=>
    have h1:z.1=topL (lvR b):=by simpa using xos hf
    rw[zvo d.at_.nd (xkk hf) w (h1.trans Y.symm)];rfl
  have eg:aB (aE bMaxI (aB (aA 1) aC)) aC [some (aK g),some (.ref c.length),n,some (.ref M),u,v,p] s=.ok [.int (topL (lvR b))] s:=by
   rw[zhc,show aE bMaxI (aB (aA 1) aC) [some (aK g),some (.ref c.length),n,some (.ref M),u,v,p] s=_ from zbnw d.at_.at_ J]
   rfl
  unfold zpj;simp only[W,V];refine WP.of (zbly rfl d.at_.at_ eg ev) ?_;rw[zboa]
  try simp only[W,V]
  have X:y.2.1≠c.length:=λz=>by have:=d.at_.in_ y w;rw[z,d.at_.at_] at this;cases this
  have U:(s.set c.length (.dI (lvD (lessV b (topL (lvR b))))))[y.2.1]?=some (.dT (aQ l)):=by
   rw[xcb X.symm,←e2];exact d.at_.in_ y w
  have fl:=f.g.few.2 _ o;have fl:l.length<=15000:=fl;refine WP.of (zga U (by lia)) ⟨_,rfl,?_⟩;have h:=f.next o;have S:=d.less (m:=topL (lvR b));rw[←zbnz] at h;have sl:(sortR l).length=l.length:=zdk l;have tj:topL (lvR b)<j:=f.lt _ o;have t0:0<=topL (lvR b):=(f.g.key _ o).1;refine zbhj S h.g (by lia) (λr hr=>(f.g.row _ o r ((zl l).mem_iff.mp hr)).1) λs3 Q q3 x2 x5 x6 I ee g3 a1=>?_
  refine⟨(topL (lvR b)).toNat,by lia,Q,q3,_,_,_,_,rfl,I,?_,by lia⟩;have C:=h.rows K;rw[←ee] at C;rw[xms t0];exact C
theorem zbrm(K:RwsOk ks)(k:∀q g,Way ks q->Q (.lst (stpD q)) (au++g)):WP (zbrl [aK ks] au) Q:=by
 refine zkj rfl ?_;refine zbeu K λq M s j d f h w b l a=>?_
 simp only[W,V,Dd.M];refine⟨_,_,rfl,b,?_⟩;have e:=zyz (s:=s.set M .dead) (au:=au) (λi c=>by rw[xcb (by lia)];exact a i c) (by rw[xdn];have:=zo b;lia);rw[e];exact k q _ w
theorem ztj(K:RwsOk ks)(w:Wkd ks q)(k:∀g,Q (aK (sortR (Wke ks q))) (au++g)):WP (zhq [aK ks,.lst (stpD q)] au) Q:=by
 refine zkj rfl ?_;simp only[W,V];refine WP.of (zob K.nd (by have:=K.few;lia)) ?_
 try simp only[W,V]
 refine⟨_,rfl,?_⟩;refine zdj (λi σ s=>∃l m g,σ=[some (aK ks),some (.lst (stpD q)),some (.ref au.length),l,m]/\s=au++.dT (aQ (Wke ks (q.take i)))::g/\RwsOk (Wke ks (q.take i))/\Wkd (Wke ks (q.take i)) (q.drop i)) ⟨_,_,[],rfl,rfl,K,w⟩ ?_ ?_
 ·rintro i x σ s c ⟨l,m,g,rfl,rfl,a,f⟩;unfold stpD at c;rw[xco] at c;obtain⟨z,j,rfl⟩:=xdb.mp c;have u:=(xbh.mp j).1;have v:q.drop i=z::q.drop (i+1):=by
   rw[xdc u];congr 1;exact(xbh.mp j).2
  have d:q.take (i+1)=q.take i++[z]:=zf j;rw[v] at f;obtain⟨h,o,y⟩:=f;have b:=a.row _ h;have r:=zbco b o;refine⟨[some (aK ks),some (.lst (stpD q)),some (.ref au.length),some (aL z.1),some (.int z.2)],rfl,?_⟩;unfold zhd;simp only[W,V];obtain⟨t,e⟩:=zln (au:=au++.dT (aQ (Wke ks (q.take i)))::g) (n:=au.length) (p:=z.2) (by simp) a.nd (by have:=a.few;lia) h (by have:=b.len;lia) o r.1.1 (by lia) (by lia) (by lia);refine WP.of e ?_;simp only[L];refine⟨_,_,g++t,rfl,?_,?_,?_⟩
  ·rw[d,Wke.snoc];unfold stepK;simp
  ·rw[d,Wke.snoc];exact(a.step h o).1
  ·rw[d,Wke.snoc];exact y
 ·rintro σ s ⟨l,m,g,rfl,rfl,a,f⟩;rw[show(stpD q).length=q.length from xbc ..,xce] at *
  simp only[W,V];refine WP.of (zga (n:=au.length) (ks:=Wke ks q) (by simp) (by have:=a.few;lia)) ?_;exact WP.of (show bTuple [.lst (aJ (sortR (Wke ks q)))] _=.ok (aK (sortR (Wke ks q))) _ from rfl) (k _)
theorem zib(K:RwsOk ks)(k:∀g,Q (aK (stl (nuS ks))) (au++g)):WP (zet [aK ks] au) Q:=by
 refine zkj rfl ?_;simp only[W,V];refine zbrm K λq g w=>?_
 refine ztj K w.wk λa=>?_
 rw[zbew K w.wk w.fin,xcc];exact k _
theorem chain45(e:f σ au=.ok (.int i) au):eChain oLe oLe (eC (.int a)) f (eC (.int b)) σ au=.ok (.bl (decide (a<=i)&&decide (i<=b))) au:=by
 have d:eC (.int a) σ au=.ok (.int a) au:=rfl;have c:eC (.int b) σ au=.ok (.int b) au:=rfl;unfold eChain;rw[d,zw,e,zw];by_cases h:a<=i
 ·simp[oI,h,c]
 ·simp[oI,h]
end Dd
namespace K45
end K45
namespace Dd
open L2 K13
theorem zbqx{α β:Type}(h:α->β->Nat)(m:List β):∀l:List α,xr l (λa=>xr m (h a))=xr m (λb=>xr l λa=>h a b)
 |[]=>(zfi m).symm
 |a::l=>by
  rw[zbs,zbqx h m l,←zhs]
  rfl
theorem zbqy{a b:List Row}(h:∀x,a.count x%2=b.count x%2):xr a f=xr b f:=by
 have c:∀(l:List Row) (i:Nat),(xr l f).testBit i=decide (tot l (λx=>if(f x).testBit i=true then 1 else 0)%2=1):=λl i=>by
  induction l with
  |nil=>simp[xr,tot]
  |cons x l ih=>
   rw[zbs,xhf,ih,zbg];cases(f x).testBit i
   ·simp
   ·simp only[xfv];rw[xfr];simp;lia
 refine Nat.eq_of_testBit_eq λi=>?_
 rw[c,c,zbch _ h]
theorem zbwn(l:List Row):xr (aO l) f=xr l f:=zbqy (zeg l)
theorem zber(x:Row):∀l:List Row,xr l (λy=>if y=x then 1 else 0)=l.count x%2
 |[]=>rfl
 |a::l=>by
  rw[zbs,zber x l,xhe];have:=xei (l.count x);by_cases c:a=x
  ·rw[if_pos c,if_pos (by simpa using c)];rcases this with e|e<;>rw[e]
   ·show 1=_;lia
   ·show 0=_;lia
  ·rw[if_neg c,if_neg (by simpa using c),xip];lia
theorem zbab(h:∀f:Row->Nat,xr a f=xr b f):aO a=aO b:=zea λx=>by rw[←zber x a,←zber x b,h]
theorem zbxk(b:0<=k)(a:Nn p):xr (raiseR k p) f=T k f p:=by
 rw[zfj a b,zel];unfold T;refine zk λx _=>?_
 by_cases c:x.sum=p.sum+k
 ·rw[if_pos (xbp c),if_pos c]
 ·rw[if_neg (by simp[c]),if_neg c]
theorem zbxl(c:0<=k)(b:∀p∈l,Nn p):xr (raiseL k l) f=xr l (T k f):=by
 unfold raiseL;rw[zmb];exact zk λp a=>zbxk c (b p a)
theorem zblb:∀{r:List Int},(∀x∈r,0<=x)->0<=r.sum
 |[],_=>by simp
 |a::r,h=>by
  have c:=h a (by simp);have d:=zblb λx b=>h x (xbf _ b)
  rw[xcs];lia
theorem zys(l:List Int)(j:Nat):(l.drop j++l.take j).sum=l.sum:=by
 have:(l.take j++l.drop j).sum=l.sum:=by rw[xda]
 rw[xdq] at this ⊢;lia
theorem zsd{n:Nat}{N d:Int}(w:BagAt au n)(hN:1<=N)(b0:N<=1000)(hd:0<=d)(a9:d<=1000)(k:∀r h,r.length=N.toNat->(∀x∈r,0<=x)->r.sum<=d->Drew au h n->Q (aL r) h):WP (zcu [.ref n,.int N,.int d] au) Q:=by
 refine zkj rfl ?_;simp only[W,V];refine zgw w (by lia) (by lia) λU S h1 h2 P=>?_
 refine zgw P.bag (by lia) (by lia) λr1 a h3 h4 Y=>?_
 have p:=P.trans Y
 have b:∀left:Int,0<=left->left<=d->WP (aD (aF 4 (eLstM aC))
   (aD (sFor (iR1 (aB (aS oSub (aA 1) (eC (.int 1))) aC)) (gN 5) zco)
   (aD (sDrop (eAppend (aA 4) (aB (aA 3) aC)))
   (aD (aF 6 (aE zh (aB (aA 0) (aB (aA 1) aC))))
   (sRet (aE bTuple (aB (aS aM (eSl (aA 4) (pSome (aA 6)) pNone) (eSl (aA 4) pNone (pSome (aA 6)))) aC)))))) [some (.ref n),some (.int N),some (.int d),some (.int left),none,none,none] a) (retK Q):=λleft z A=>by
  simp only[W,V];refine⟨small _ (by simp),True.intro,_,rfl,rngN (by lia) (by lia),?_⟩;have J:au.length<=a.length:=p.len;have l:a.length≠n:=xkq (p.lt w.lt);refine zdj (λi σ s=>∃(left:Int) (r:List Int) (v:Option D),σ=[some (.ref n),some (.int N),some (.int d),some (.int left),some (.ref a.length),v,none]/\0<=left/\r.sum+left<=d/\r.length=i/\(∀x∈r,0<=x)/\Drew au s n/\s[a.length]?=some (.lst (r.map .int)))
   ⟨left,[],none,rfl,z,(by rw[xkw,xht];exact A),rfl,by simp,p.trans (.more p.bag _),by simp⟩ ?_ ?_
  ·rintro i x σ s hx ⟨left,r,v,rfl,C,X,G,f,t,c⟩;obtain⟨hi,rfl⟩:=zml hx;refine⟨_,rfl,?_⟩;unfold zco;simp only[W,V,M];refine⟨_,_,rfl,c,?_⟩;have a0:=zblb f;refine zgw t.bag (by lia) (by lia) λy u E b2 g=>?_
   have m:u[a.length]?=some (.lst (r.map .int)):=(g.keep _ (zo c) l).trans c;have E2:=t.trans g;have e:=zo m;refine⟨_,_,rfl,m,by rw[xbc];exact smallT _ (by lia),?_⟩;have o:(u.set a.length (.lst (r.map D.int++[D.int y])))[a.length]?=some (.lst ((r++[y]).map .int)):=by rw[zds e];simp
   refine zbod (xs:=(r++[y]).map .int) (d:=.int y) (zhl o) (by rw[xdr];exact zpg _ _) ?_;simp only[W,V,L];exact⟨True.intro,left-y,r++[y],_,rfl,by lia,(by rw[xdq,xcs,xkw];lia),by simp[G],zoq f E,E2.over w.lt J,o⟩
  ·rintro σ s ⟨left,r,v,rfl,C,X,G,f,t,c⟩;rw[zbh] at G;simp only[W,V,M];have e:=zo c;refine⟨_,_,rfl,c,_,_,rfl,c,by rw[xbc];exact smallT _ (by lia),?_⟩;have o:(s.set a.length (.lst (r.map D.int++[D.int left])))[a.length]?=some (.lst ((r++[left]).map .int)):=by rw[zds e];simp
   have H:Drew au (s.set a.length (.lst (r.map D.int++[D.int left]))) n:=t.over w.lt J;refine zgw H.bag (by lia) (by lia) λy u E b2 g=>?_
   have I:u[a.length]?=some (.lst ((r++[left]).map .int)):=(g.keep _ (zo o) l).trans o;refine⟨y,rfl,.inr ⟨_,zfr I,y,rfl,.inr ⟨_,zfr I,?_⟩⟩⟩;obtain⟨j,rfl⟩:=xcv E;rw[zrn,zbef];refine WP.of (zbey (small _ (by rw[xbl,xgu];lia))) ?_;simp only[W,V];refine k _ _ ?_ ?_ ?_ (H.trans g)
   ·rw[ztp,xbl,xgu];lia
   ·intro x hx;rcases xca.mp hx with hx|hx
    ·exact zoq f C x (xff hx)
    ·exact zoq f C x (xed hx)
   ·rw[zys,xdq,xcs,xkw];lia
 simp only[W,V];split
 ·have q:=b d hd (xnb _);simp only[W,V] at q;exact q
 ·have q:=b U h1 (by lia);simp only[W,V] at q;exact q
theorem zblc{n:Nat}{N m d:Int}(G:BagAt au n)(t:1<=N)(j:N<=1000)(S:0<=m)(A:m<63)(C:0<=d)(h:d<=1000)(k:∀l a,l.length<=m->SumOk N.toNat l->(∀r∈l,r.sum<=d)->Drew au a n->Q (aK l) a):WP (zhr [.ref n,.int N,.int m,.int d] au) Q:=by
 refine zkj rfl ?_;simp only[W,V];refine zgw G (by lia) (by lia) λc p P I H=>?_
 refine⟨c,rfl,rngN (by lia) (by lia),by rw[zbh];exact small _ (by lia),?_⟩;refine zbcg (λi acc σ s=>∃(l:List (List Int)) (v:Option D),acc=aJ l/\l.length=i/\(∀r∈l,r.length=N.toNat/\∀x∈r,0<=x)/\(∀r∈l,r.sum<=d)/\σ=[v,some (.ref n),some (.int N),some (.int d)]/\Drew au s n) ⟨[],none,rfl,rfl,by simp,by simp,rfl,H⟩ ?_ ?_
 ·rintro i x acc σ s J ⟨l,v,rfl,f,e,o,rfl,b⟩;refine⟨_,rfl,?_⟩;simp only[W,V];refine zsd b.bag t j C h λr U w E y q=>⟨l++[r],_,by simp[aJ],by simp[f],λz hz=>?_,λz hz=>?_,rfl,b.trans q⟩
  ·rcases xca.mp hz with hz|hz
   ·exact e z hz
   ·simp at hz;subst hz;exact⟨w,E⟩
  ·rcases xca.mp hz with hz|hz
   ·exact o z hz
   ·simp at hz;subst hz;exact y
 ·rintro X σ s ⟨l,v,rfl,f,e,o,rfl,b⟩;rw[zbh] at f;refine zve (l:=l) rfl (by lia) λg=>k _ _ ?_ (zyx e) (λr u=>o r (zgf u)) (b.trans (.more b.bag g))
  have:=zjr l;lia
theorem zle(H:0<=t)(o:∀r∈l,∀x∈r,0<=x/\x<=1000)(hr:∀r∈l,r.length<=1000)(G:∀r∈l,box r<=20000)(Y:(raiseL t l).length<=900000)(k:∀g,Q (aK (aO (raiseL t l))) (au++g)):WP (zcn [aK l,.int t] au) Q:=by
 refine zkj rfl ?_;simp only[W,V,Dd.N];refine⟨small _ (by simp),?_⟩;have c:∀i,(raiseL t (l.take i)).length<=900000:=λi=>by
  have e:raiseL t l=raiseL t (l.take i)++raiseL t (l.drop i):=by
   unfold raiseL;rw[←xmt,xda]
  rw[e,xbl] at Y;lia
 refine zdj (λi σ s=>(∃v w x y z a,σ=[some (aK l),some (.int t),some (.ref au.length),v,w,x,y,z,a])/\∃g,s=au++(.lst (aJ (raiseL t (l.take i)))::g)) ⟨⟨_,_,_,_,_,_,rfl⟩,[],rfl⟩ ?_ ?_
 ·rintro i y σ s E ⟨⟨v,w,x,C,z,a,rfl⟩,g,rfl⟩;obtain⟨r,m,rfl⟩:=zbj E;have f:=xbu m;have u:∀x∈r,0<=x:=λx X=>(o r f x X).1
  refine⟨_,rfl,?_⟩;unfold zfa;simp only[W,V,Dd.N];refine⟨small _ (by simp),small _ (by simp),small _ (by simp),?_⟩;refine zdj (λj σ s=>(∃x y z a,σ=[some (aK l),some (.int t),some (.ref au.length),some (aL r),some (.lst ((lawS t (r.take j)).map ptD)),x,y,z,a])/\∃g,s=au++(.lst (aJ (raiseL t (l.take i)))::g)) ⟨⟨_,_,_,_,rfl⟩,g,rfl⟩ ?_ ?_
  ·rintro j y σ s E ⟨⟨x,C,z,a,rfl⟩,g,rfl⟩;obtain⟨e,A,rfl⟩:=zjw E;refine⟨_,rfl,?_⟩;obtain⟨q,P⟩:=o r f e (xbu A);have b:=zwa r t j;have h:=zxj r (j+1);rw[zf A,zde,show box [e]=e.toNat+1 by simp[box]] at h;have n:(lawS t (r.take j)).length*(e.toNat+1)<=20000:=xbb (xeg _ b) (xbb h (G r f));have d:=zbhm r H j;have U:=hr r f;rw[zf A,zlh];unfold lawStep;generalize lawS t (r.take j)=ps at n d ⊢;obtain⟨e',rfl⟩:=xcv q;simp only[V];refine zlg (e:=e') (by lia) (by rw[xeh] at n;lia) (λp o=>?_) λw6 w7 w8 I=>?_
   ·obtain⟨S,q2⟩:=d p o;rw[S,xcx];exact⟨by lia,q2⟩
   ·refine⟨⟨_,_,_,_,rfl⟩,g++I,by simp⟩
  ·rintro σ s ⟨⟨x,C,z,a,rfl⟩,g,rfl⟩;rw[xbc,xce];simp only[W,V,Dd.N,L,zkk];have b:=zwa r t r.length;rw[xce] at b;have a0:=G r f;refine⟨_,_,rfl,zfp _ _,by rw[xbc];exact small _ (by lia),?_⟩;refine zth (as:=lawS t r) (λσ=>∃v w,σ=[v,w]) (λp=>decide (p.2=0)) (λp=>aL p.1) ptD ⟨_,_,rfl⟩ ?_ ?_
   ·rintro p o σ ⟨v,w,rfl⟩;exact⟨_,rfl,⟨_,_,rfl⟩,by simp only[W,V,and_self],λ_=>by simp only[W,V,and_self]⟩
   ·have J:((lawS t r).filter λp=>decide (p.2=0)).map (λp=>aL p.1)=aJ (raiseR t r):=by
     rw[←zbdo u H];unfold lawP aJ;rw[xcz]
     rfl
    rw[J];have q:=c i;have P:=zur (k:=t) (G r f);refine⟨_,_,_,rfl,zfp _ _,rfl,by rw[zd,zd];exact small _ (by lia),⟨_,_,_,_,_,_,rfl⟩,g,?_⟩;rw[zjn,zf m,zjo];simp[aJ]
 ·rintro σ s ⟨⟨v,w,x,C,z,a,rfl⟩,g,rfl⟩;rw[zd,xce];have q:=c l.length;rw[xce] at q;simp only[W,V,M,Dd.N];refine⟨_,_,rfl,zfp _ _,?_⟩;refine zve (l:=raiseL t l) rfl (by lia) λI=>?_
  rw[zjn,xcc];exact k _
end Dd
namespace K50
end K50
namespace Dd
open L2 K13
theorem T_id:∀m:Row,Nn m->∀φ:Row->Nat,T 0 φ m=φ m:=zty
 (λφ=>by rw[zbkm,if_pos rfl])
 (λr _ a φ=>by rw[zja,a])
 (λr e b a φ=>by
  rw[zbkf,a,zgu,zbrk ?_ (by lia),xfp];intro x hx;rcases xca.mp hx with hx|hx
  ·exact b x hx
  ·rw[xbz.mp hx]
   lia)
def Act(b:Row) (φ:Row->Nat):Row->Nat:=b.foldl (λψ a=>T a ψ) φ
theorem zlw(a:Int)(b:Row)(φ:Row->Nat):Act (a::b) φ=Act b (T a φ):=rfl
theorem zyc(p q:Row)(φ:Row->Nat):Act (p++q) φ=Act q (Act p φ):=xfl
theorem zbzh{α:Type}{L:List α}{ψ:Row->Nat}{χ:α->Row->Nat}(k:Int)(h:∀m,Nn m->ψ m=xr L λc=>χ c m){m:Row}(b:Nn m):T k ψ m=xr L λc=>T k (χ c) m:=by
 unfold T
 conv=>rhs;rw[zbqx]
 refine zk λx a=>?_
 rw[h x (znq m b x a)];by_cases c:x.sum=m.sum+k
 ·simp only[c,xfv]
 ·simp only[c,xeu];exact(zfi _).symm
theorem zbek{α:Type}{L:List α}:∀(b:Row) {ψ:Row->Nat}{χ:α->Row->Nat},(∀m,Nn m->ψ m=xr L λc=>χ c m)->∀m,Nn m->Act b ψ m=xr L λc=>Act b (χ c) m
 |[],_,_,h,m,d=>h m d
 |a::b,_,_,h,m,d=>zbek b (λm d=>zbzh a h d) m d
theorem zyb:∀(b:Row) (m:Row),Act b (λ_=>0) m=0
 |[],_=>rfl
 |a::b,m=>by
  rw[zlw,show T a (λ_=>0)=λ_=>0 from funext λm=>zbqv a m];exact zyb b m
theorem R_nn:∀(b:Row) {l:List Row},(∀x∈b,0<=x)->(∀p∈l,Nn p)->∀p∈R b l,Nn p
 |[],_,_,h=>h
 |a::b,l,hr,h=>λp c=>by
  obtain⟨q,f,c⟩:=xcu.mp (show p∈raiseL a (R b l) from c);have d:=R_nn b (λx e=>hr x (xbf _ e)) h q f;rw[zfj d (hr a xbr)] at c;exact znq q d p (xcj.mp c).1
theorem xr_R:∀(b:Row) {l:List Row}{φ:Row->Nat},(∀x∈b,0<=x)->(∀p∈l,Nn p)->xr (R b l) φ=xr l (Act b φ)
 |[],_,_,_,_=>rfl
 |a::b,l,φ,hr,h=>by
  have c:∀x∈b,0<=x:=λx d=>hr x (xbf _ d)
  show xr (raiseL a (R b l)) φ=_;rw[zbxl (hr a xbr) (R_nn b c h),xr_R b c h]
  rfl
theorem zpn(d:∀r∈b,∀x∈r,0<=x)(h:∀p∈l,Nn p):xr (doneL b l) φ=xr b λa=>xr l (Act a φ):=by
 unfold doneL;rw[zmb];exact zk λa c=>xr_R a (d a c) h
def two(a b:Int) (c:Nat):Row:=if c=0 then[a+b] else[a+b-c,(c:Int)]
theorem zbqt(h:a<2*b)(p q:Row)(φ:Row->Nat) (d:Nn m):Act (p++a::b::q) φ m=xr ((List.range (b.toNat+1)).filter (co b a)) λc=>Act (p++two a b c++q) φ m:=by
 rw[zyc,zlw,zlw,zel];generalize hψ:Act p φ=ψ;have e:∀m,Nn m->T b (T a ψ) m=xr (List.range (b.toNat+1)) λc=>(if co b a c=true then Act (two a b c) ψ else λ_=>0) m:=λm d=>by
  rw[adem m d ψ a b (b.toNat+1) (by lia) (by lia)];unfold cs;refine zk λc _=>?_
  by_cases z:co b a c=true
  ·rw[if_pos z,if_pos z];unfold two;by_cases z0:c=0
   ·subst z0;rw[if_pos rfl];show T 0 _ m=T (a+b) ψ m;rw[T_id m d,show a+b-((0:Nat):Int)=a+b by lia]
   ·rw[if_neg z0]
    rfl
  ·rw[if_neg z,if_neg z]
 rw[zbek q e m d];refine zk λc _=>?_
 by_cases z:co b a c=true
 ·rw[if_pos z,if_pos z,zyc,zyc,hψ]
 ·rw[if_neg z,if_neg z,zyb]
def slow:Row->Option (Row×Int×Int×Row)
 |a::b::r=>if a<2*b then some ([],a,b,r) else(slow (b::r)).map λz=>(a::z.1,z.2)
 |_=>none
theorem zbcn:∀{r p q:Row}{a b:Int},slow r=some (p,a,b,q)->r=p++a::b::q/\a<2*b
 |[],_,_,_,_,h=>by cases h
 |[_],_,_,_,_,h=>by cases h
 |a::b::r,p,q,a',b',h=>by
  unfold slow at h;split at h
  ·rename_i c;cases h;exact⟨rfl,c⟩
  ·obtain⟨⟨g,z⟩,d,f⟩:=xdb.mp h;cases f;obtain⟨e,l⟩:=zbcn d;exact⟨by rw[e];rfl,l⟩
def expd:Nat->Row->List Row
 |0,r=>[r]
 |n+1,r=>match slow r with
  |none=>[r]
  |some (p,a,b,q)=>((List.range (b.toNat+1)).filter (co b a)).flatMap λc=>expd n (p++two a b c++q)
theorem zbdz(φ:Row->Nat) (d:Nn m):∀(n:Nat) (r:Row),Act r φ m=xr (expd n r) λs=>Act s φ m
 |0,r=>by
  show _=_^^^0;rw[xfp]
 |n+1,r=>by
  unfold expd;split
  ·show _=_^^^0;rw[xfp]
  ·rename_i p a b q h;obtain⟨e,l⟩:=zbcn h;rw[zmb,e,zbqt l p q φ d];exact zk λc _=>zbdz φ d n _
def evenB2(a b:List Row):Bool:=(a++b).all λx=>Nat.beq ((a.count x+b.count x)%2) 0
theorem zwp(h:evenB2 a b=true)(x:Row):a.count x%2=b.count x%2:=by
 by_cases c:x∈a++b
 ·have:=xfa (xbx.mp h x c);lia
 ·have d:x∉a:=λz=>c (xca.mpr (.inl z))
  have e:x∉b:=λz=>c (xca.mpr (.inr z))
  rw[xgk.mpr d,xgk.mpr e]
def stX(Φ:Row->Nat) (v:Nat):Nat:=xr (List.range 84) λi=>if v.testBit i=true then Φ (nuSt.getD i []) else 0
theorem zbcm(Φ:Row->Nat)(v w:Nat):stX Φ (v^^^w)=stX Φ v^^^stX Φ w:=by
 unfold stX;rw[←zhs];exact zk λi _=>by rw[xif,xhf]
theorem ztw(Φ:Row->Nat):stX Φ 0=0:=by
 unfold stX;rw[show(λi=>if(0:Nat).testBit i=true then Φ (nuSt.getD i []) else 0)=λ_=>0 from funext λi=>by rw[xiq];rfl,zfi]
theorem zbfc{α:Type}(Φ:Row->Nat)(g:α->Nat):∀L:List α,stX Φ (xr L g)=xr L λc=>stX Φ (g c)
 |[]=>ztw Φ
 |c::L=>by rw[zbs,zbcm,zbfc Φ g L];rfl
theorem ztx(Φ:Row->Nat)(v:Nat):xr (stl v) Φ=stX Φ v:=by
 unfold stl;refine(zbqy (b:=((List.range 84).filter λi=>v.testBit i).map λi=>nuSt.getD i []) λx=>by rw[(zl _).count_eq]).trans ?_;rw[zma,zel]
 rfl
theorem zbnj:∀(a:List Nat) (v:Nat),nuM a v=xr (List.range a.length) λi=>if v.testBit i=true then a.getD i 0 else 0
 |[],v=>rfl
 |t::a,v=>by
  rw[zcg,xbw,zyg,zbnj a]
  congr 1
  ·by_cases c:v%2=1
   ·rw[if_pos c,if_pos (by rw[Nat.testBit_zero];exact xbp c)]
    rfl
   ·rw[if_neg c,if_neg (by rw[Nat.testBit_zero];simpa using c)]
  ·exact zk λi _=>by rw[Nat.testBit_succ];rfl
def sChk(a i:Nat):Bool:=bif Nat.ble ((nuSt.getD i []).sum.toNat+a) 9 then evenB2 (expd 40 ((a:Int)::nuSt.getD i [])) (((List.range 84).filter λj=>((nuT.getD a []).getD i 0).testBit j).map λj=>nuSt.getD j [])&&(List.range 84).all (λj=>!((nuT.getD a []).getD i 0).testBit j||decide ((nuSt.getD j []).sum=(nuSt.getD i []).sum+a)) else true
theorem zbfk:((List.range 9).all λa=>(List.range 84).all λi=>sChk (a+1) i)=true:=by decide +kernel
theorem zvi:(nuSt.all λr=>r.all λx=>decide (0<=x))=true:=by decide +kernel
theorem zbni:0<=(nuSt.getD i []).sum:=by
 by_cases c:i<nuSt.length
 ·rw[xbg,xbd c];exact zii λx a=>xdh (xbx.mp (xbx.mp zvi _ (xcy c)) x a)
 ·rw[xbg,xez (by lia)];exact xnb _
theorem zbae:∀(r:Row),(∀x∈r,1<=x)->r.sum<=9->(∀i,i<84->(nu r).testBit i=true->(nuSt.getD i []).sum=r.sum)/\∀(φ:Row->Nat) (m:Row),Nn m->Act r φ m=stX (λs=>Act s φ m) (nu r)
 |[],_,_=>by
  refine⟨λi b h=>?_,λφ m t=>?_⟩
  ·have:i=0:=by
    have h:(2^0:Nat).testBit i=true:=h;rw[xkj] at h;exact(xdh h).symm
   subst this
   rfl
  ·show φ m=stX _ 1;unfold stX;rw[zpm (k:=0) (by lia) λc G=>if_neg (by rw[show(1:Nat)=2^0 from rfl,xkj];simpa using xfj G)]
   rfl
 |a::r,hp,hs=>by
  have P:=hp a xbr;have d:∀x∈r,1<=x:=λx o=>hp x (xbf _ o)
  have J:0<=r.sum:=zii λx o=>by have:=d x o;lia
  rw[xcs] at hs;obtain⟨w,E⟩:=zbae r d (by lia);obtain⟨a,rfl⟩:=xcv (show 0<=a by lia);have e:nu ((a:Int)::r)=xr (List.range 84) λi=>if(nu r).testBit i=true then(nuT.getD a []).getD i 0 else 0:=by
   show nuM (nuT.getD (a:Int).toNat []) (nu r)=_;rw[zbnj,xeh,zbgx (by lia) (by lia)]
  have f:∀i,i<84->(nu r).testBit i=true->evenB2 (expd 40 ((a:Int)::nuSt.getD i [])) (((List.range 84).filter λj=>((nuT.getD a []).getD i 0).testBit j).map λj=>nuSt.getD j [])=true/\∀j,j<84->((nuT.getD a []).getD i 0).testBit j=true->(nuSt.getD j []).sum=(nuSt.getD i []).sum+a:=λi b g=>by
   have:=xbx.mp (xbx.mp zbfk (a-1) (xbi.mpr (by lia))) i (xbi.mpr b);rw[show a-1+1=a by lia] at this;unfold sChk at this;have I:=@zbni i;have A:=w i b g;rw[show Nat.ble ((nuSt.getD i []).sum.toNat+a) 9=true from xgf (by lia)] at this;obtain⟨p,C⟩:=Bool.and_eq_true_iff.mp this;refine⟨p,λj u n=>?_⟩;have:=xbx.mp C j (xbi.mpr u);rw[n] at this;exact xdh (by simpa using this)
  refine⟨λj u g=>?_,λφ m t=>?_⟩
  ·rw[e] at g;have:∃i,i<84/\(nu r).testBit i=true/\((nuT.getD a []).getD i 0).testBit j=true:=by
    by_cases c:∃i,i<84/\(nu r).testBit i=true/\((nuT.getD a []).getD i 0).testBit j=true
    ·exact c
    ·exfalso
     have none:∀l:List Nat,(∀i∈l,i<84)->(xr l λi=>if(nu r).testBit i=true then(nuT.getD a []).getD i 0 else 0).testBit j=false:=λl=>by
      induction l with
      |nil=>intro _;exact xiq j
      |cons i l ih=>
       intro v;rw[zbs,xhf,ih λi b=>v i (xbf _ b)];by_cases z:(nu r).testBit i=true
       ·rw[if_pos z];cases q:((nuT.getD a []).getD i 0).testBit j with
        |false=>rfl
        |true=>exact absurd ⟨i,v i xbr,z,q⟩ c
       ·rw[if_neg z,xiq]
        rfl
     rw[none _ λi b=>xbi.mp b] at g;cases g
   obtain⟨i,b,y,H⟩:=this;rw[(f i b y).2 j u H,w i b y,xcs];lia
  ·rw[zlw,E (T (a:Int) φ) m t,e,zbfc];unfold stX;refine zk λi b=>?_
   have b:=xbi.mp b;by_cases z:(nu r).testBit i=true
   ·rw[if_pos z];show Act ((a:Int)::nuSt.getD i []) φ m=_;have p:=(f i b z).1;rw[zbdz φ t 40,zbqy (zwp p),zma,zel];simp only[z,xfv]
   ·rw[if_neg z];simp only[z];exact(ztw λs=>Act s φ m).symm
structure Few9 (c:Int) (ks:List Row):Prop where
 pos:∀r∈ks,∀x∈r,1<=x
 sum:∀r∈ks,r.sum<=c
theorem Few9.nn(h:Few9 c d):∀r∈d,∀x∈r,0<=x:=λr b x a=>by have:=h.pos r b x a;lia
theorem zbtr(a:List Row):nuS a=xr a nu:=rfl
theorem zpu(h:r∈stl v):∃i,i<84/\v.testBit i=true/\r=nuSt.getD i []:=by
 unfold stl at h;obtain⟨i,c,rfl⟩:=xbt.mp ((zl _).mem_iff.mp h);obtain⟨a,b⟩:=xcj.mp c;exact⟨i,xbi.mp a,b,rfl⟩
theorem zbgy:∀x∈nuSt.getD i [],0<=x:=λx a=>by
 by_cases c:i<nuSt.length
 ·rw[xbg,xbd c] at a;exact xdh (xbx.mp (xbx.mp zvi _ (xcy c)) x a)
 ·rw[xbg,xez (by lia)] at a;cases a
theorem zbrw(v:Nat):∀r∈stl v,∀x∈r,0<=x:=λr a=>by
 obtain⟨i,_,_,rfl⟩:=zpu a;exact zbgy
theorem zkq(h:Few9 9 ks)(φ:Row->Nat) (b:Nn m):xr (stl (nuS ks)) (λr=>Act r φ m)=xr ks λr=>Act r φ m:=by
 rw[ztx,zbtr,zbfc];exact zk λr a=>((zbae r (h.pos r a) (h.sum r a)).2 φ m b).symm
theorem zrh(f:∀r∈a,∀x∈r,0<=x)(g:∀r∈b,∀x∈r,0<=x)(c:∀p∈d,Nn p)(h:∀(φ:Row->Nat) (m:Row),Nn m->xr a (λr=>Act r φ m)=xr b λr=>Act r φ m):aO (doneL a d)=aO (doneL b d):=by
 refine zbab λφ=>?_
 rw[zpn f c,zpn g c];exact(zbqx _ _ _).trans ((zk λm e=>h φ m (c m e)).trans (zbqx _ _ _).symm)
theorem zgb(h:Few9 9 ks)(c:∀p∈a,Nn p):aO (doneL (stl (nuS ks)) a)=aO (doneL ks a):=zrh (zbrw _) h.nn c λφ m b=>zkq h φ b
def pChk(a b:Nat):Bool:=bif Nat.blt a (2*b) then evenB2 (twosN a b (a/2+1)) (((List.range (b+1)).filter (co (b:Int) (a:Int))).map (two (a:Int) (b:Int))) else true
theorem zbgl:((List.range 9).all λa=>(List.range 7).all λb=>bif Nat.blt 0 a&&Nat.blt 0 b then pChk a b else true)=true:=by decide +kernel
theorem zbrr:∀r∈twosN a b n,∀x∈r,0<=x:=λr e x d=>by
 rcases zkm e with rfl|⟨c,_,_,rfl⟩
 ·rw[xbz.mp d];lia
 ·simp only[xbm,xhm,xna] at d;rcases d with rfl|rfl<;>lia
theorem zzs{a b:Nat}(n:1<=a)(l:a<=8)(k:1<=b)(j:b<=6)(h:a<2*b)(f:∀p∈e,Nn p):aO (doneL [[(a:Int),(b:Int)]] e)=aO (doneL (twosN a b (a/2+1)) e):=by
 refine zrh (λr i x d=>?_) zbrr f λφ m g=>?_
 ·rw[xbz.mp i] at d;simp only[xbm,xhm,xna] at d;rcases d with rfl|rfl<;>lia
 ·have c:=xbx.mp (xbx.mp zbgl a (xbi.mpr (by lia))) b (xbi.mpr (by lia));rw[show(Nat.blt 0 a&&Nat.blt 0 b)=true from by rw[xdm];exact⟨xgf (by lia),xgf (by lia)⟩] at c;have c:pChk a b=true:=c;unfold pChk at c;rw[show Nat.blt a (2*b)=true from xgf (by lia)] at c;have c:evenB2 (twosN a b (a/2+1)) (((List.range (b+1)).filter (co (b:Int) (a:Int))).map (two (a:Int) (b:Int)))=true:=c;rw[zbqy (zwp c),zma];show Act [(a:Int),(b:Int)] φ m^^^0=_;have:=zbqt (a:=(a:Int)) (b:=(b:Int)) (by lia) [] [] φ g;rw[xmf] at this;rw[xfp,this,xeh];exact zk λc _=>by rw[xmf,xec]
def o5(m:Nat):Row:=List.replicate m 1++List.replicate (5-m) 0
theorem zbrf(m:Nat):Nn (o5 m):=λx hx=>by
 rcases xca.mp hx with hx|hx<;>rw[(List.mem_replicate.mp hx).2]<;>decide
def φc(x:Row):Nat:=x.foldl (λh e=>(h*7+e.toNat+1)%1021) 1
noncomputable def A5:List Nat:=[968,1007,656,303,692,915,731,653,706]
theorem zbzi:((List.range 9).all λi=>Nat.beq (Act (nuSt.getD i []) φc (o5 5)) (A5.getD i 0))=true:=by decide +kernel
theorem ind5:((List.range 512).all λu=>Nat.beq u 0||!Nat.beq (xr (List.range 9) λi=>if u.testBit i=true then A5.getD i 0 else 0) 0)=true:=by decide +kernel
theorem low5:((List.range 84).all λi=>Nat.ble i 8||decide (5<(nuSt.getD i []).sum))=true:=by decide +kernel
theorem zbdc(h:Few9 5 ks):∀i,i<84->(nuS ks).testBit i=true->i<=8:=λi c a=>by
 have g:∀l:List Row,(nuS l).testBit i=true->∃r∈l,(nu r).testBit i=true:=λl=>by
  induction l with
  |nil=>intro z;rw[show nuS []=0 from rfl,xiq] at z;cases z
  |cons r l ih=>
   intro z;rw[show nuS (r::l)=nu r^^^nuS l from rfl,xhf] at z;cases q:(nu r).testBit i with
   |true=>exact⟨r,xbr,q⟩
   |false=>
    rw[q,xpa] at z;obtain⟨e,f,d⟩:=ih z;exact⟨e,xbf _ f,d⟩
 obtain⟨r,b,a⟩:=g ks a;have s:=(zbae r (h.pos r b) (by have:=h.sum r b;lia)).1 i c a;have:=xbx.mp low5 i (xbi.mpr c);rcases Bool.or_eq_true_iff.mp this with z|z
 ·exact xjt z
 ·have:=xdh z;have:=h.sum r b;lia
theorem zbfb(h:∀i,i<84->(v^^^w).testBit i=false):stl v=stl w:=by
 unfold stl;rw[xfy λi c=>?_];have:=h i (xbi.mp c);rw[xhf] at this;cases a:v.testBit i<;>cases b:w.testBit i<;>rw[a,b] at this<;>first|rfl|cases this
theorem zbca(k:Few9 5 one)(f:Few9 5 other):stl (nuS one)=stl (nuS other)↔∀m,m<6->aO (doneL one [o5 m])=aO (doneL other [o5 m]):=by
 have h:Few9 9 one:=⟨k.pos,λr l=>by have:=k.sum r l;lia⟩
 have j:Few9 9 other:=⟨f.pos,λr l=>by have:=f.sum r l;lia⟩
 have c:∀m,∀p∈[o5 m],Nn p:=λm p o=>by rw[xbz.mp o];exact zbrf m
 refine⟨λe m _=>?_,λe=>?_⟩
 ·rw[←zgb h (c m),e,zgb j (c m)]
 ·have w:=e 5 (by lia);have x:xr one (λr=>Act r φc (o5 5))=xr other λr=>Act r φc (o5 5):=by
   have:xr (aO (doneL one [o5 5])) φc=xr (aO (doneL other [o5 5])) φc:=by rw[w]
   rw[zbwn,zbwn,zpn h.nn (c 5),zpn j.nn (c 5)] at this;have z:∀r:Row,xr [o5 5] (Act r φc)=Act r φc (o5 5):=λr=>xfp _
   rw[show(λr=>xr [o5 5] (Act r φc))=λr=>Act r φc (o5 5) from funext z] at this;exact this
  have y:stX (λr=>Act r φc (o5 5)) (nuS one^^^nuS other)=0:=by
   rw[zbcm,←ztx,←ztx,zkq h φc (zbrf 5),zkq j φc (zbrf 5),x,xhv]
  have b:∀i,i<84->(nuS one^^^nuS other).testBit i=true->i<=8:=λi a d=>by
   rw[xhf] at d;cases q:(nuS one).testBit i with
   |true=>exact zbdc k i a q
   |false=>
    rw[q,xpa] at d;exact zbdc f i a d
  refine zbfb λi a=>?_
  generalize nuS one^^^nuS other=v at y b;have s:(xr (List.range 9) λi=>if(v%512).testBit i=true then A5.getD i 0 else 0)=0:=by
   refine Eq.trans ?_ y;unfold stX;have t:List.range 84=List.range 9++(List.range 75).map (9+·):=by decide
   rw[t,zhj,zma]
   rw[show(xr (List.range 75) λx=>if v.testBit (9+x)=true then Act (nuSt.getD (9+x) []) φc (o5 5) else 0)=0 from by
    rw[zk (g:=λ_=>0) λx n=>if_neg λz=>?_,zfi];have:=b (9+x) (by have:=xbi.mp n;lia) z
    lia,xfp]
   refine zk λi a=>?_
   have a:=xbi.mp a;rw[show(512:Nat)=2^9 from rfl,Nat.testBit_mod_two_pow,xbp a,Bool.true_and];rw[←xfa (xbx.mp zbzi i (xbi.mpr a))]
  have u:v%512=0:=by
   have:=xbx.mp ind5 (v%512) (xbi.mpr (xmh _ (by decide)));rw[s] at this;rcases Bool.or_eq_true_iff.mp this with z|z
   ·exact xfa z
   ·cases z
  cases q:v.testBit i with
  |false=>rfl
  |true=>
   have A:=b i a q;have:(v%2^9).testBit i=true:=by
    rw[Nat.testBit_mod_two_pow,q,xbp (by lia)]
    rfl
   rw[show(2^9:Nat)=512 from rfl,u,xiq] at this;cases this
theorem zwo:(List.range 5).all (λn=>(List.range 21).all λs=>Nat.blt (4^n*3^s) (3^n*(20001*2^s)))=true:=by decide +kernel
theorem zbvy{r:Row}(g:r.length<=4)(h:∀x∈r,0<=x)(e:r.sum<=20):box r<=20000:=by
 have b:=zxl h;have a:=xbx.mp (xbx.mp zwo r.length (xbi.mpr (by lia))) r.sum.toNat (xbi.mpr (by lia));have a:4^r.length*3^r.sum.toNat<3^r.length*(20001*2^r.sum.toNat):=Nat.blt_eq.mp a;have c:=xdg b a;have d:=xob c;have f:=xno d;lia
structure KG (n K:Nat) (S0:List Row):Prop where
 rows:Rows n S0
 n10:n<=10
 item:∀{T:Nat},T<K->∀{x:Row},x∈UU S0 T->x.length=n/\(∀y∈x,0<=y/\y<=1000)/\box x<=20000
 total:∀{T k:Nat},T+k<=K->∀{l:List Row},l.Nodup->(∀x∈l,x∈UU S0 T)->(raiseL (k:Int) l).length<=600000
 top:∀{T:Nat},T<=K->∀{l:List Row},l.Nodup->(∀x∈l,x∈UU S0 T)->l.length<=20000
noncomputable def cG(n:Nat):Nat:=bif Nat.ble n 3 then 4 else bif Nat.ble n 4 then 2 else 1
noncomputable def kG(n:Nat):Nat:=bif Nat.ble n 4 then 14 else 5
theorem zbbt:(List.range 6).all (λn=>(List.range 15).all λT=>(List.range 15).all λk=>Nat.ble (T+k) (kG n)==false||Nat.ble (cG n*(ctb n T*ctb n k)) 600000)=true:=by decide +kernel
theorem zbjl:(List.range 6).all (λn=>(List.range 15).all λT=>Nat.ble (cG n*ctb n T) 20000)=true:=by decide +kernel
theorem zbwy{K:Nat}(a:Rows n S0)(E:n<=5)(C:K<=kG n)(o:S0.length<=cG n)(w:∀p∈S0,p.sum+K<=if n<=3 then 32 else if n<=4 then 21 else 18):KG n K S0:=by
 have u:kG n<=14:=by unfold kG;cases Nat.ble n 4<;>decide
 refine⟨a,by lia,λ{T} q {x} g=>?_,λ{T k} q {l} h e=>?_,λ{T} q {l} h e=>?_⟩
 ·obtain⟨p,f,i⟩:=xcu.mp g;obtain⟨d,m⟩:=zrx i;have b:=d.pos (a p f).2;have j:=d.len.trans (a p f).1;have s:=w p f;have A:x.sum<=32:=by split at s<;>(try split at s)<;>lia
  refine⟨j,λy t=>⟨b y t,by have:=zbrg b y t;lia⟩,?_⟩;by_cases c:n<=3
  ·rw[if_pos c] at s;exact zbqi (by lia) b (by lia)
  ·rw[if_neg c] at s;by_cases c4:n<=4
   ·rw[if_pos c4] at s;exact zbvy (by lia) b (by lia)
   ·rw[if_neg c4] at s;exact zbqj (by lia) b (by lia)
 ·have G:(raiseL (k:Int) l).length<=l.length*cle n k:=zqc λr v=>by
   obtain⟨p,f,i⟩:=xcu.mp (e r v);obtain⟨d,m⟩:=zrx i;have:=zzk (k:=k) (d.pos (a p f).2)
   rwa [d.len,(a p f).1] at this
  have d:l.length<=(UU S0 T).length:=xee h λx g=>e x g
  rw[zbke a] at d;have m:l.length*cle n k<=S0.length*(cle n T*cle n k):=by
   rw[←xkg];exact xeg _ d
  have:=xbx.mp (xbx.mp (xbx.mp zbbt n (xbi.mpr (by lia))) T (xbi.mpr (by lia))) k (xbi.mpr (by lia));have c:Nat.ble (T+k) (kG n)=true:=xml.mpr (by lia);rw[c] at this;have:=xml.mp (by simpa using this);rw[zwz (by lia),zwz (by lia)] at this;have z:=xeg (cle n T*cle n k) o;lia
 ·have d:l.length<=(UU S0 T).length:=xee h λx g=>e x g
  rw[zbke a] at d;have:=xml.mp (xbx.mp (xbx.mp zbjl n (xbi.mpr (by lia))) T (xbi.mpr (by lia)));rw[zwz (by lia)] at this;have z:=xeg (cle n T) o;lia
theorem zlf{K:Nat}(h:KG n K S0){T:Nat}(e:1<=k)(d:T+k<=K){l:List Row}(c:l.Nodup)(b:∀x∈l,x∈UU S0 T)(q:∀g,Q (aK (aO (raiseL (k:Int) l))) (au++g)):WP (zcn [aK l,.int (k:Int)] au) Q:=
 zle (by lia) (λr a=>(h.item (by lia) (b r a)).2.1) (λr a=>by rw[(h.item (by lia) (b r a)).1];have:=h.n10;lia) (λr a=>(h.item (by lia) (b r a)).2.2) (by have:=h.total d c b;lia) q
theorem zbao{T:SS}(P:T=sFor (aH (eBack (aA 3) (eUn oNeg (eC (.int 1))))) (gN 5) zek){n K f:Nat}{w c:List Row}(h:KG n K w)(J:∀y∈c,y∈UU w f){x u r E:Option D}{a:Row}{s0:Store}{Q:Fl->Store->Prop}(v:∀p∈a,1<=p)(ps:a.sum+f<=K)(rl:a.length<=100)(H:c.Nodup)
  (k:∀l i g,l.Nodup->(∀y∈l,y∈UU w K)->(∀y,l.count y%2=(R a c).count y%2)->Q (.nx [x,u,r,some (aL a),some (aK l),i]) (s0++g)):
  WP (T [x,u,r,some (aL a),some (aK c),E] s0) Q:=by
 subst P;have G:eBack (aA 3) (eUn oNeg (eC (.int 1))) [x,u,r,some (aL a),some (aK c),E] s0=.ok (.tup (a.map D.int).reverse) s0:=rfl;refine zbcf (WP.of G ⟨_,rfl,?_⟩);refine zdj (λj σ s=>∃i l g,σ=[x,u,r,some (aL a),some (aK l),i]/\s=s0++g/\l.Nodup/\(∀y∈l,y∈UU w (f+(a.drop (a.length-j)).sum.toNat))/\∀y,l.count y%2=(R (a.drop (a.length-j)) c).count y%2) ⟨_,c,[],rfl,by simp,H,λy b=>?_,λy=>?_⟩ ?_ ?_
 ·rw[xoh,xoi];exact zrv (xck _ _) (J y b)
 ·rw[xoh,xoi]
  rfl
 ·rintro j y σ s b ⟨i,l,g,rfl,rfl,z,m,t⟩;have X:j<a.length:=by have:=(xbh.mp b).1;simpa using this
  have Y:a.length-j=a.length-(j+1)+1:=by lia
  have d:a.length-(j+1)<a.length:=by lia
  have I:y=.int a[a.length-(j+1)]:=by
   rw[List.getElem?_reverse (by simpa using X),xbc,xco,show a.length-1-j=a.length-(j+1) by lia,xbd d] at b
   simpa using b.symm
  subst I;refine⟨_,rfl,?_⟩;unfold zek;have q:a.drop (a.length-(j+1))=a[a.length-(j+1)]::a.drop (a.length-j):=by
   rw[xdc d,Y]
  generalize hk:a[a.length-(j+1)]=kk at q;have k1:1<=kk:=v kk (by rw[←hk];exact xcy d);obtain⟨C,rfl⟩:=xcv (show 0<=kk by lia);have A:0<=(a.drop (a.length-j)).sum:=zii λp o=>by have:=v p (xff o);lia
  have U:(a.drop (a.length-(j+1))).sum<=a.sum:=by
   have e:=xda (a.length-(j+1)) a;have e2:a.sum=(a.take (a.length-(j+1))).sum+(a.drop (a.length-(j+1))).sum:=by rw[←xdq,e]
   have:0<=(a.take (a.length-(j+1))).sum:=zii λp o=>by have:=v p (xed o);lia
   lia
  rw[q,xcs] at U;simp only[W,V];refine zlf h (T:=f+(a.drop (a.length-j)).sum.toNat) (by lia) (by lia) z m λS=>?_
  simp only[L];refine⟨_,_,g++S,rfl,by simp,zcz _,λy b=>?_,λy=>?_⟩
  ·have:=zgr h.rows m (zgf b);rw[q,xcs,show f+((C:Int)+(a.drop (a.length-j)).sum).toNat=f+(a.drop (a.length-j)).sum.toNat+C by lia];exact this
  ·rw[zeg,q];exact zqb _ t y
 ·rintro σ s ⟨i,l,g,rfl,rfl,z,m,t⟩;rw[xki,xbc,xjq,xox] at m t;have A:0<=a.sum:=zii λp o=>by have:=v p o;lia
  exact k l i g z (λy b=>zrv (by lia) (m y b)) t
section
variable {au:Store}{Q:D->Store->Prop}
theorem zbz{n K:Nat}{c:List Row}(h:KG n K c){a:List Row}(H:a.length<=40)(C:∀r∈a,r.length<=100)(q:RowsK K 0 a)(v:c.Nodup)(k:∀g,Q (aK (aO (doneL a c))) (au++g)):WP (zbp [aK a,aK c] au) Q:=by
 have x:∀y∈c,y∈UU c 0:=λy p=>zbeo p
 refine zkj rfl ?_;simp only[W,V];refine⟨small _ (by simp),_,rfl,?_⟩;refine zdj (λi σ s=>∃o f d F g,σ=[some (aK a),some (aK c),some (.ref au.length),o,f,d]/\s=au++.lst (aJ F)::g/\F.length<=20000*i/\∀y,F.count y%2=(doneL (a.take i) c).count y%2) ⟨_,_,_,[],[],rfl,rfl,by simp,λy=>rfl⟩ ?_ ?_
 ·rintro i y σ s p ⟨o,f,d,F,g,rfl,rfl,u,e⟩;obtain⟨b,j,rfl⟩:=zbj p;have m:=xbu j;have G:=(xbh.mp j).1;refine⟨[some (aK a),some (aK c),some (.ref au.length),some (aL b),f,d],rfl,?_⟩;unfold zhf;rw[zyi];refine WP.of (show aF 4 (aA 1) [some (aK a),some (aK c),some (.ref au.length),some (aL b),f,d] (au++O.lst (aJ F)::g)=.ok (.nx [some (aK a),some (aK c),some (.ref au.length),some (aL b),some (aK c),d]) (au++.lst (aJ F)::g) from rfl) ?_;show WP (aD _ _ _ _) _;rw[zyi];refine zbao rfl h x (q.pos b m) (by have:=q.sum b m;lia) (C b m) v λl P t w A z=>?_
  show WP (sDrop _ _ _) _;simp only[W,V,zkk];have J:=h.top (xbj _) w A;refine⟨_,_,rfl,by simp;rfl,_,_,_,rfl,by simp;rfl,rfl,by rw[zd,zd];exact small16 (by lia),?_⟩;simp only[L];refine⟨_,_,_,F++l,g++t,rfl,by simp[aJ],by rw[xbl];lia,λy=>?_⟩;rw[zf j];unfold doneL at e ⊢;rw[xmt,List.flatMap_singleton,xes,xes];have I:=e y;have E:=z y;lia
 ·rintro σ s ⟨o,f,d,F,g,rfl,rfl,u,e⟩;rw[zd] at u;rw[zd,xce] at e;simp only[W,V,M];refine⟨_,_,rfl,zfp _ _,?_⟩;refine zve (l:=F) rfl (by lia) λt=>?_
  rw[zjn,zea e,xcc];exact k _
end
theorem zqu(d:1<=i)(g:i<=40):zew [.int i] au=.ok (.bl true) au:=by
 have c:=chain45 (au:=au) (f:=aA 0) (a:=1) (b:=40) (i:=i) (σ:=[some (.int i)]) rfl;rw[xbp d,xbp g] at c;have:WP (zew [.int i] au) (λv s=>v=.bl true/\s=au):=by
  refine zkj rfl ?_;simp only[W,V];exact WP.of zgk (WP.of c ⟨rfl,rfl⟩)
 obtain⟨v,s,e,rfl,rfl⟩:=this.get;exact e
theorem zzt{a b:Nat}{c d:Int}(l:c=a)(m:d=b)(i:1<=a)(o:a<=8)(j:1<=b)(n:b<=6)(h:a<2*b)(k:∀g,Q (aK (sortR (twosN a b (a/2+1)))) (au++g)):WP (zbce [.int c,.int d] au) Q:=by
 refine zkj rfl ?_;simp only[W,V];refine WP.of (zqu (by lia) (by lia)) ⟨true,rfl,?_⟩;rw[if_neg (by decide)];refine WP.of (zqu (by lia) (by lia)) ⟨true,rfl,?_⟩;rw[if_neg (by decide)];have f:=zwn (au:=au) (a:=c) (b:=d);rw[xbp (by lia)] at f;refine WP.of f ⟨true,rfl,?_⟩;rw[if_neg (by decide)];obtain⟨g,e⟩:=zex (au:=au) (a:=c) (b:=d) (by lia) (by lia) (by lia) (by lia);refine WP.of e ?_;subst l m;rw[show((a:Int)/2+1).toNat=a/2+1 by lia,zqa i j h (xbj _)];simp only[W,V];exact k g
theorem ones32{m:Nat}(h:m<6):oMulT (.tup [.int 1]) (.int (m:Int)) s=.ok (aL (List.replicate m 1)) s/\oMulT (.tup [.int 0]) (.int (5-(m:Int))) s=.ok (aL (List.replicate (5-m) 0)) s:=by
 have:m=0\/m=1\/m=2\/m=3\/m=4\/m=5:=by lia
 rcases this with rfl|rfl|rfl|rfl|rfl|rfl<;>exact⟨rfl,rfl⟩
def apartB(b a:List Row):Bool:=(List.range 6).any λm=>decide (aO (doneL b [o5 m])≠aO (doneL a [o5 m]))
theorem zbne(m:Nat)(h:m<6):Rows 5 [o5 m]:=λr a=>by
 rw[xbz.mp a];refine⟨?_,zbrf m⟩;unfold o5;rw[xbl,xgd,xgd];lia
theorem zbtn(m:Nat)(h:m<6):(o5 m).sum<=5:=by
 have:m=0\/m=1\/m=2\/m=3\/m=4\/m=5:=by lia
 rcases this with rfl|rfl|rfl|rfl|rfl|rfl<;>decide
theorem kg5(h:m<6):KG 5 5 [o5 m]:=zbwy (zbne m h) (by lia) (by decide) (show 1<=cG 5 by decide) λp a=>by
 rw[xbz.mp a];have:=zbtn m h;simp;lia
theorem zxw(C:Few9 5 b)(w:Few9 5 a)(x:b.length<=40)(A:a.length<=40)(G:∀r∈b,r.length<=100)(H:∀r∈a,r.length<=100)(k:∀g,Q (.bl (apartB b a)) (au++g)):WP (zev [aK b,aK a] au) Q:=by
 refine zkj rfl ?_;simp only[W,V];refine⟨_,rfl,rngN (by lia) (by lia),?_⟩;refine zdj (λm σ s=>(∃l p,σ=[some (aK b),some (aK a),l,p])/\(∃g,s=au++g)/\∀j,j<m->aO (doneL b [o5 j])=aO (doneL a [o5 j])) ⟨⟨_,_,rfl⟩,⟨[],by simp⟩,λj u=>absurd u (xop _)⟩ ?_ ?_
 ·rintro m y σ s I ⟨⟨l,p,rfl⟩,⟨g,rfl⟩,i⟩;obtain⟨d,rfl⟩:=zml I;have d:m<6:=by simpa using d
  refine⟨_,rfl,?_⟩;unfold zfx;rw[xht];refine zbx (R:=λv s=>v=.nx [some (aK b),some (aK a),some (.int (m:Int)),some (aK [o5 m])]/\s=au++g) ?_ ?_
  ·simp only[W,V];refine⟨small _ (by simp),WP.of (ones32 d).1 ⟨small _ (by simp),trivial,WP.of (ones32 d).2 ?_⟩⟩;simp only[W,V];refine⟨small _ (by simp;lia),small _ (by simp),?_,trivial⟩;rw[←xdr]
   rfl
  rintro v s ⟨rfl,rfl⟩;show WP _ _;have q:∀{ks:List Row},Few9 5 ks->RowsK 5 0 ks:=λh=>⟨h.pos,λr E=>by have:=h.sum r E;lia⟩
  have t:[o5 m].Nodup:=by simp
  simp only[W,V];refine zbz (kg5 d) x G (q C) t λo=>?_
  refine zbz (kg5 d) A H (q w) t λn=>?_
  have e:∀sx:Store,oNe (aK (aO (doneL b [o5 m]))) (aK (aO (doneL a [o5 m]))) sx=.ok (.bl (!decide (aO (doneL b [o5 m])=aO (doneL a [o5 m])))) sx:=λsx=>zvf (au:=sx) (neg:=true) _ _
  by_cases c:aO (doneL b [o5 m])=aO (doneL a [o5 m])
  ·have f:=e (au++g++o++n);rw[xbp c] at f;refine WP.of f ⟨⟨_,_,rfl⟩,⟨g++(o++n),by simp⟩,λj u=>?_⟩;by_cases z:j=m
   ·rw[z];exact c
   ·exact i j (by lia)
  ·have f:=e (au++g++o++n);rw[xbv c] at f;refine WP.of f (show Q (.bl true) _ from ?_);have:apartB b a=true:=by
    unfold apartB;rw[xin];exact⟨m,xbi.mpr d,xbp c⟩
   rw[←this,xcc,xcc];exact k _
 ·rintro σ s ⟨⟨l,p,rfl⟩,⟨g,rfl⟩,i⟩;simp only[W,V];have:apartB b a=false:=by
   unfold apartB;rw[xlh];intro m d;have:=i m (by rw[zbh];exact xbi.mp d);simp[this]
  rw[←this];exact k g
theorem zbjv(b:Few9 5 one)(d:Few9 5 other):apartB one other=!decide (stl (nuS one)=stl (nuS other)):=by
 have:=zbca b d;by_cases c:stl (nuS one)=stl (nuS other)
 ·rw[xbp c];unfold apartB;rw[Bool.not_true,xlh];intro m a;have:=this.mp c m (xbi.mp a);simp[this]
 ·rw[xbv c];unfold apartB;rw[Bool.not_false,xin];refine xkn λz=>c (this.mpr λm a=>xkn λq=>z ⟨m,xbi.mpr a,?_⟩)
  exact xbp q
structure Drn (m:Int) (lg c:Nat) (l:List Row):Prop where
 row:∀r∈l,RowOk r m lg
 nd:l.Nodup
 len:l.length<=c
theorem zks{n:Nat}{A m L:Int}{lg c:Nat}(f:L=lg)(s:A=c)(b:lg<=100)(q:c<=60)(i:BagAt au n)(d:0<=m)(h:m<=900)(k:∀l a,Drn m lg c l->Drew au a n->Q (aK l) a):WP (zcm [.ref n,.int A,.int m,.int L] au) Q:=by
 obtain⟨l,a,e,j,o,r,p,g⟩:=zsw (A:=A) (m:=m) f b (by lia) (by lia) i d h;exact WP.of e (k l a ⟨j,o,by lia⟩ g)
theorem zbcl:(nuSt.all λr=>Nat.ble r.length 6&&r.all λx=>decide (1<=x))=true/\Nat.ble ((List.range 84).filter λi=>decide ((nuSt.getD i []).sum<=9)).length 40=true:=by decide +kernel
theorem zblg(h:i<84):(nuSt.getD i []).length<=6/\∀x∈nuSt.getD i [],1<=x:=by
 have c:i<nuSt.length:=by rw[zec];exact h
 have e:nuSt.getD i []=nuSt[i]:=by rw[xbg,xbd c];rfl
 have:=xbx.mp zbcl.1 nuSt[i] (xcy c);obtain⟨a,b⟩:=Bool.and_eq_true_iff.mp this;rw[e];exact⟨xjt a,λx d=>xdh (xbx.mp b x d)⟩
structure Stp32 (c:Int) (l:List Row):Prop where
 len:l.length<=40
 short:∀r∈l,r.length<=6
 pos:∀r∈l,∀x∈r,1<=x
 nd:l.Nodup
 sum:∀r∈l,r.sum<=c
theorem steep32(v:c<=9)(h:Few9 c ks):Stp32 c (stl (nuS ks)):=by
 have n:∀(l:List Row) (i:Nat),(nuS l).testBit i=true->∃r∈l,(nu r).testBit i=true:=λl i=>by
  induction l with
  |nil=>intro z;rw[show nuS []=0 from rfl,xiq] at z;cases z
  |cons r l ih=>
   intro z;rw[show nuS (r::l)=nu r^^^nuS l from rfl,xhf] at z;cases q:(nu r).testBit i with
   |true=>exact⟨r,xbr,q⟩
   |false=>
    rw[q,xpa] at z;obtain⟨s,d,k⟩:=ih z;exact⟨s,xbf _ d,k⟩
 have g:∀i,i<84->(nuS ks).testBit i=true->(nuSt.getD i []).sum<=c:=λi m j=>by
  obtain⟨r,f,j⟩:=n ks i j;have:=h.sum r f;rw[(zbae r (h.pos r f) (by lia)).1 i m j];exact this
 refine⟨?_,λr f=>?_,λr f=>?_,?_,λr f=>?_⟩
 ·unfold stl;rw[(zl _).length_eq,xbc];refine xbb (xee (xkd _ xil) λi m=>?_) (xjt zbcl.2);obtain⟨d,k⟩:=xcj.mp m;exact xcj.mpr ⟨d,xbp (by have:=g i (xbi.mp d) k;lia)⟩
 ·obtain⟨i,d,_,rfl⟩:=zpu f;exact(zblg d).1
 ·obtain⟨i,d,_,rfl⟩:=zpu f;exact(zblg d).2
 ·unfold stl;rw[(zl _).nodup_iff,xfc];refine xln.mpr (List.Pairwise.imp_of_mem (λ{a b} t j p e=>?_) (xfc.mp (xkd _ xil)));have o:a<nuSt.length:=by rw[zec];exact xbi.mp (xcj.mp t).1
  have u:b<nuSt.length:=by rw[zec];exact xbi.mp (xcj.mp j).1
  rw[xbg,xbg,xbd o,xbd u] at e;exact p ((xlv zvj).mp e)
 ·obtain⟨i,d,k,rfl⟩:=zpu f;exact g i d k
theorem zbbf(l a:List Row):aO (doneL (sortR l) a)=aO (doneL l a):=zea λx=>by
 unfold doneL;rw[zcf,zcf,ztr (zl l)]
theorem zbau(w:List Int)(hl:w.length<=63):∃st',zbwm [.scr (w.map .int)] []=.ok (.bl true) st':=by
 have a6:WP (zbwm [.scr (w.map .int)] []) (λv _=>v=.bl true):=by
  refine zkj rfl ?_;simp only[W,V];have a8:((w.map D.int).length:Int)<=63:=by rw[xbc];lia
  have a9:(0:Int)<=((w.map D.int).length:Int):=by lia
  generalize ((w.map D.int).length:Int)=len at a8 a9;refine⟨_,rfl,rngN (by split<;>split<;>lia) (by split<;>split<;>lia),?_⟩;refine zdj (λi σ s=>∃v1 v2 v3 v4 v5 v6 U S J m k:Option D,σ=[some (.scr (w.map .int)),v1,v2,v3,v4,v5,v6,U,S,J,m,k]) ⟨_,_,_,_,_,_,_,_,_,_,_,rfl⟩ ?_ ?_
  ·rintro i x σ s0 hx ⟨v1,v2,v3,v4,v5,v6,U,S,J,m,k,rfl⟩;obtain⟨hi,rfl⟩:=zml hx;have b2:i<=100:=by split at hi<;>(try split at hi)<;>lia
   refine⟨_,rfl,?_⟩;unfold zye;refine zbx (R:=λj s=>j=.nx [some (.scr (w.map .int)),some (.int i),some (.ref s0.length),v3,v4,v5,v6,U,S,J,m,k]/\BagAt s s0.length) ?_ ?_
   ·simp only[W,V];rw[xht];exact zbwa hl (by lia) λg t=>⟨rfl,t⟩
   rintro j s ⟨rfl,t⟩;show WP _ _;generalize s0.length=n at t ⊢;refine zbx (R:=λj s=>∃H:Int,(1<=H/\H<=6)/\j=.nx [some (.scr (w.map .int)),some (.int i),some (.ref n),some (.int H),v4,v5,v6,U,S,J,m,k]/\BagAt s n) ?_ ?_
   ·simp only[W,V];refine zgw t (by lia) (by lia) λn0 s1 n1 n2 G=>?_
    simp only[W,V];exact⟨_,⟨by lia,by lia⟩,rfl,G.bag⟩
   rintro j s ⟨H,b1,rfl,t⟩;show WP _ _;refine zbx (R:=λj s=>∃ea:Int,(1<=ea/\ea<=8/\ea<2*H)/\j=.nx [some (.scr (w.map .int)),some (.int i),some (.ref n),some (.int H),some (.int ea),v5,v6,U,S,J,m,k]/\BagAt s n) ?_ ?_
   ·simp only[W,V];refine⟨.inl ⟨by decide,by decide⟩,trivial,?_⟩;refine zgw t (by split<;>lia) (by split<;>lia) λn0 s1 n1 n2 G=>?_
    simp only[W,V];exact⟨_,⟨by lia,by split at n2<;>lia,by split at n2<;>lia⟩,rfl,G.bag⟩
   rintro j s ⟨ea,a1,rfl,t⟩;show WP _ _;refine zbx (R:=λj s=>∃N:Int,(1<=N/\N<=4)/\j=.nx [some (.scr (w.map .int)),some (.int i),some (.ref n),some (.int H),some (.int ea),some (.int N),v6,U,S,J,m,k]/\BagAt s n) ?_ ?_
   ·simp only[W,V];refine zgw t (by lia) (by lia) λn0 s1 n1 n2 G=>?_
    simp only[W,V];exact⟨_,⟨by lia,by lia⟩,rfl,G.bag⟩
   rintro j s ⟨N,hN,rfl,t⟩;show WP _ _;have P:∀(x y:Int) {s:Store}{Q:D->Store->Prop},Q (.int (if 3<N then y else x)) s->WP (oIx (.lst [.int x,.int x,.int x,.int y]) (.int (N-1)) s) Q:=λx y s Q q=>by
    have:N=1\/N=2\/N=3\/N=4:=by lia
    rcases this with rfl|rfl|rfl|rfl
    ·exact zbod (d:=.int x) rfl rfl q
    ·exact zbod (d:=.int x) rfl rfl q
    ·exact zbod (d:=.int x) rfl rfl q
    ·exact zbod (d:=.int y) rfl rfl q
   refine zbx (R:=λj s=>∃S0:List Row,(S0.length<=(if 3<N then(2:Int) else 4)/\SumOk N.toNat S0/\∀r∈S0,r.sum<=if 3<N then 6 else 12)/\j=.nx [some (.scr (w.map .int)),some (.int i),some (.ref n),some (.int H),some (.int ea),some (.int N),some (aK S0),U,S,J,m,k]/\BagAt s n) ?_ ?_
   ·simp only[W,V];refine⟨small _ (by simp),trivial,P 4 2 ⟨small _ (by simp),trivial,P 12 6 ?_⟩⟩;exact zblc t hN.1 (by lia) (by split<;>lia) (by split<;>lia) (by split<;>lia) (by split<;>lia) λl s1 a1 a2 a3 G=>⟨l,⟨a1,a2,a3⟩,rfl,G.bag⟩
   rintro j s ⟨S0,⟨c1,c2,c3⟩,rfl,t⟩;show WP _ _;have I:Rows N.toNat S0:=λr f=>⟨c2.len r f,c2.pos r f⟩
   have nS:∀p∈S0,Nn p:=λp z=>(I p z).2
   have Y:S0.Nodup:=c2.rise.nodup;have kg:KG N.toNat 14 S0:=by
    refine zbwy I (by lia) ?_ ?_ λp z=>?_
    ·have:N.toNat=1\/N.toNat=2\/N.toNat=3\/N.toNat=4:=by lia
     rcases this with e|e|e|e<;>rw[e]<;>decide
    ·have:N.toNat=1\/N.toNat=2\/N.toNat=3\/N.toNat=4:=by lia
     rcases this with e|e|e|e<;>rw[e]
     ·rw[if_neg (by lia)] at c1;show _<=4;lia
     ·rw[if_neg (by lia)] at c1;show _<=4;lia
     ·rw[if_neg (by lia)] at c1;show _<=4;lia
     ·rw[if_pos (by lia)] at c1;show _<=2;lia
    ·have:=c3 p z;by_cases c:3<N
     ·rw[if_pos c] at this;rw[if_neg (by lia),if_pos (by lia)];lia
     ·rw[if_neg c] at this;rw[if_pos (by lia)];lia
   have ne:∀(x:List Row) (sx:Store),oNe (aK x) (aK x) sx=.ok (.bl false) sx:=λx sx=>by
    have:=zvf (au:=sx) (neg:=true) x x
    simpa using this
   obtain⟨a,rfl⟩:=xcv (show 0<=ea by lia);obtain⟨b,rfl⟩:=xcv (show 0<=H by lia);generalize hA:(a:Int)=A at a1;generalize hB:(b:Int)=B at a1 b1;refine zbx (R:=λj s=>j=.nx [some (.scr (w.map .int)),some (.int i),some (.ref n),some (.int B),some (.int A),some (.int N),some (aK S0),U,S,J,m,k]/\BagAt s n) ?_ ?_
   ·simp only[W,V];refine⟨small _ (by simp),small _ (by simp),?_⟩;have e0:D.tup [D.tup [D.int A,D.int B]]=aK [[A,B]]:=rfl;rw[e0];refine zbz kg (by simp) (λr f=>by rw[xbz.mp f];simp) ⟨λr f p z=>?_,λr f=>?_⟩ Y λg1=>?_
    ·rw[xbz.mp f] at z;simp only[xbm,xhm,xna] at z;rcases z with rfl|rfl<;>lia
    ·rw[xbz.mp f];simp;lia
    refine zzt hA.symm hB.symm (by lia) (by lia) (by lia) (by lia) (by lia) λg2=>?_
    have tm:∀r∈sortR (twosN a b (a/2+1)),r.length<=100/\(∀p∈r,1<=p)/\r.sum<=14:=λr f=>by
     rcases zkm ((zl _).mem_iff.mp f) with rfl|⟨c,c0,cn,rfl⟩
     ·refine⟨by simp,λp z=>?_,?_⟩
      ·rw[xbz.mp z];lia
      ·simp;lia
     ·refine⟨by simp,λp z=>?_,?_⟩
      ·simp only[xbm,xhm,xna] at z;rcases z with rfl|rfl<;>lia
      ·simp;lia
    refine zbz kg ?_ (λr f=>(tm r f).1) ⟨λr f=>(tm r f).2.1,λr f=>by have:=(tm r f).2.2;lia⟩ Y λg3=>?_
    ·rw[(zl _).length_eq];unfold twosN;rw[xbc];refine xbb (xge _ _) ?_;rw[xgr];lia
    have eq:aO (doneL [[A,B]] S0)=aO (doneL (sortR (twosN a b (a/2+1))) S0):=by
     rw[zbbf,←hA,←hB];exact zzs (by lia) (by lia) (by lia) (by lia) (by lia) nS
    rw[eq];refine WP.of (ne _ _) ⟨trivial,?_⟩;rw[xcc,xcc];exact(Drew.more t _).bag
   rintro j s ⟨rfl,t⟩;show WP _ _;have b0:(if 3<N then(8:Int) else 9)<=9/\0<=(if 3<N then(8:Int) else 9):=by split<;>lia
   have kx:KX N.toNat (if 3<N then 8 else 9) S0:=by
    refine⟨I,?_⟩;by_cases c:3<N
    ·rw[if_pos c] at c1 ⊢;exact .inr ⟨by lia,by lia,by lia,λp z=>by have:=c3 p z;rw[if_pos c] at this;lia⟩
    ·rw[if_neg c] at c1 ⊢;exact .inl ⟨by lia,by lia,by lia,λp z=>by have:=c3 p z;rw[if_neg c] at this;lia⟩
   have a0:(if 3<N then 8 else 9:Nat)<=16:=by split<;>lia
   have kc:((if 3<N then 8 else 9:Nat):Int)=if 3<N then 8 else 9:=by split<;>rfl
   generalize hk:(if 3<N then 8 else 9:Nat)=K at kx a0 kc;refine zbx (R:=λj s=>∃ks:List Row,Drn (K:Int) 6 4 ks/\j=.nx [some (.scr (w.map .int)),some (.int i),some (.ref n),some (.int B),some (.int A),some (.int N),some (aK S0),some (aK ks),S,J,m,k]/\BagAt s n) ?_ ?_
   ·simp only[W,V];refine⟨small _ (by simp),trivial,P 9 8 ?_⟩;rw[←kc];exact zks (lg:=6) (c:=4) rfl rfl (by lia) (by lia) t (by lia) (by lia) λl st' G d2=>⟨l,G,rfl,d2.bag⟩
   rintro j s ⟨ks,u,rfl,t⟩;show WP _ _;have E:Few9 (K:Int) ks:=⟨λr f=>(u.row r f).pos,λr f=>(u.row r f).sum⟩
   have a5:Few9 9 ks:=⟨E.pos,λr f=>by have:=E.sum r f;lia⟩
   have X:=steep32 (c:=(K:Int)) (by lia) E;have a7:RwsOk ks:=⟨u.nd,λr f=>⟨(u.row r f).pos,by have:=(u.row r f).sum;lia,(u.row r f).len⟩⟩
   refine zbx (R:=λj s=>j=.nx [some (.scr (w.map .int)),some (.int i),some (.ref n),some (.int B),some (.int A),some (.int N),some (aK S0),some (aK ks),some (aK (aO (doneL ks S0))),J,m,k]/\BagAt s n) ?_ ?_
   ·simp only[W,V];exact zbz kg (by have:=u.len;lia) (λr f=>by have:=(u.row r f).len;lia) ⟨E.pos,λr f=>by have:=E.sum r f;lia⟩ Y λg=>⟨rfl,(Drew.more t g).bag⟩
   rintro j s ⟨rfl,t⟩;show WP _ _;refine zbx (R:=λj s=>j=.nx [some (.scr (w.map .int)),some (.int i),some (.ref n),some (.int B),some (.int A),some (.int N),some (aK S0),some (aK ks),some (aK (aO (doneL ks S0))),some (aK (stl (nuS ks))),m,k]/\BagAt s n) ?_ ?_
   ·simp only[W,V];exact zib a7 λg=>⟨rfl,(Drew.more t g).bag⟩
   rintro j s ⟨rfl,t⟩;show WP _ _;refine zbx (R:=λj s=>j=.nx [some (.scr (w.map .int)),some (.int i),some (.ref n),some (.int B),some (.int A),some (.int N),some (aK S0),some (aK ks),some (aK (aO (doneL ks S0))),some (aK (stl (nuS ks))),m,k]/\BagAt s n) ?_ ?_
   ·simp only[W,V];have sd:=zgb a5 nS;refine zbz kg X.len (λr f=>by have:=X.short r f;lia) ⟨X.pos,λr f=>by have:=X.sum r f;lia⟩ Y λg1=>?_
    rw[sd];refine WP.of (ne _ _) ?_;show WP (iterF zjj 8 _ _) _;refine zwv kx a0 (.inl rfl) X.nd (by have:=X.len;lia) (λr f=>by have:=X.short r f;lia) ⟨X.pos,λr f=>by have:=X.sum r f;lia⟩ c2.rise λg2=>?_
    rw[sd];refine WP.of (ne _ _) ?_;show WP (iterF zjj 8 _ _) _;refine zwv kx a0 (.inl rfl) u.nd (by have:=u.len;lia) (λr f=>by have:=(u.row r f).len;lia) ⟨E.pos,λr f=>by have:=E.sum r f;lia⟩ c2.rise λg3=>?_
    refine WP.of (ne _ _) ⟨trivial,?_⟩;rw[xcc,xcc];exact(Drew.more t _).bag
   rintro j s ⟨rfl,t⟩;show WP _ _;refine zbx (R:=λj s=>∃C:List Row,Drn 5 5 3 C/\j=.nx [some (.scr (w.map .int)),some (.int i),some (.ref n),some (.int B),some (.int A),some (.int N),some (aK S0),some (aK ks),some (aK (aO (doneL ks S0))),some (aK (stl (nuS ks))),some (aK C),k]/\BagAt s n) ?_ ?_
   ·simp only[W,V];exact zks (lg:=5) (c:=3) rfl rfl (by lia) (by lia) t (by lia) (by lia) λl st' G d2=>⟨l,G,rfl,d2.bag⟩
   rintro j s ⟨C,h1,rfl,t⟩;show WP _ _;refine zbx (R:=λj s=>∃o:List Row,Drn 5 5 3 o/\j=.nx [some (.scr (w.map .int)),some (.int i),some (.ref n),some (.int B),some (.int A),some (.int N),some (aK S0),some (aK ks),some (aK (aO (doneL ks S0))),some (aK (stl (nuS ks))),some (aK C),some (aK o)]) ?_ ?_
   ·simp only[W,V];exact zks (lg:=5) (c:=3) rfl rfl (by lia) (by lia) t (by lia) (by lia) λl st' G d2=>⟨l,G,rfl⟩
   rintro j s ⟨o,h2,rfl⟩;show WP _ _;have fw:∀{l:List Row},Drn 5 5 3 l->Few9 5 l:=λh=>⟨λr f=>(h.row r f).pos,λr f=>(h.row r f).sum⟩
   have a4:∀{l:List Row},Drn 5 5 3 l->RwsOk l:=λh=>⟨h.nd,λr f=>⟨(h.row r f).pos,by have:=(h.row r f).sum;lia,by have:=(h.row r f).len;lia⟩⟩
   have sh:∀{l:List Row},Drn 5 5 3 l->l.length<=40/\∀r∈l,r.length<=100:=λh=>⟨by have:=h.len;lia,λr f=>by have:=(h.row r f).len;lia⟩
   simp only[W,V];refine zib (a4 h1) λg1=>?_
   refine zib (a4 h2) λg2=>?_
   have e:∀sx:Store,oNe (aK (stl (nuS C))) (aK (stl (nuS o))) sx=.ok (.bl (!decide (stl (nuS C)=stl (nuS o)))) sx:=λsx=>zvf (au:=sx) (neg:=true) _ _
   refine WP.of (e _) ?_;refine zxw (fw h1) (fw h2) (sh h1).1 (sh h2).1 (sh h1).2 (sh h2).2 λg3=>?_
   rw[zbjv (fw h1) (fw h2)];generalize (!decide (stl (nuS C)=stl (nuS o)))=bb;have H:∀sx:Store,oNe (.bl bb) (.bl bb) sx=.ok (.bl false) sx:=λsx=>by cases bb<;>rfl
   exact WP.of (H _) ⟨_,_,_,_,_,_,_,_,_,_,_,rfl⟩
  ·rintro σ s ⟨v1,v2,v3,v4,v5,v6,U,S,J,m,k,rfl⟩;simp only[W,V]
 obtain⟨a,st',e,rfl⟩:=a6.get;exact⟨st',e⟩
end Dd
namespace K32
theorem holds:∀a:List Int,a.length<=63->∃st',Dd.zbwm [.scr (a.map .int)] []=.ok (.bl true) st':=λa b=>Dd.zbau a b
end K32
namespace K32
open L2 Dd
noncomputable def top(i:Nat):Stmt:=PySem.Challenge.pw_raisedsums_k32_whole_exchanged_does_the.main.body.getD i (.Pass ⟨0,0,0,0⟩)
theorem zsp{Y:En}(T:TopF Y.K "_law_bag" (top 38))(d:Y.mg "len"=none)(a:Y.mg "abs"=none)(g:Y.mg "min"=none)(h:Y.mg "range"=none):Cl Y "_law_bag" 1 ["_law_script","_law_at"] zfw:=cmk ["_law_script","_law_at","_law_cell","_law_mix","_law_k"] T λb f i A c s H E e=>(zb (sst b ze)
 (zb (zcw (zbn (zsg e.units0) zsr sv (zq zcl zxt rfl d zxi (sa1 sv)) (nomark _)) (zc (sst b (zq zbjo zbwi rfl a zbvx (sa1 (zjh sv sv (λ_ _=>rfl)))))) zbr)
 (zb (sst b (sad (zgo zjb (oI_D λ_ _ _ _=>.int _) ze sv) ze))
 (zb (sfr (zbo rfl h (sa1 (zq (zer rfl) zbjs rfl g zte (sa2 (zq zcl zxt rfl d zxi (sa1 sv)) ze)))) (sgn b)
 (zc (sst b (zgo zsf (oI_D λ_ _ _ _=>.int _) (sad (sad (zgo zjb (oI_D λ_ _ _ _=>.int _) sv ze) (zgo zsf (oI_D λ_ _ _ _=>.int _) (zjh sv sv (λ_ _=>rfl)) ze)) sv) ze))))
 (zb (zcw (zbn (zsg e.units0) zsr sv (zgo zbtd (oI_D λ_ _ _ _=>.int _) ze ze) (nomark _)) (zc (sst b ze)) zbr)
 (zc (zp (zez (sa2 sv sv)))))))))
theorem zso{Y:En}(T:TopF Y.K "_law_odd" (top 40))(d:Y.mg "sorted"=none)(g:Y.mg "tuple"=none):Cl Y "_law_odd" 1 ["_law_things"] zbd:=cmk ["_law_things","_law_odd_here","_law_thing"] T λc f e A b s H E a=>(zb (sst c zne)
 (zb (sfr (zbc sv) (sgn c)
 (zc (zow (zbdt a) sv sv (zbpo (zbjc (zbdt a) sv sv zyf ⟨rfl,rfl,rfl,rfl⟩)) rfl)))
 (zc (zp (zcs zbi zfe rfl g zeh (sa1 (zq (zcc rfl a.units) zes rfl d zdp (sa1 (zhb rfl (zbiv sv) (λ_ _ _ _ _=>(zcb (i:=0) (show(["_law_thing","_law_odd_here"]:List Str).Nodup from by decide +kernel) rfl (Or.inl rfl))) (λ_ _ _ _ _=>(zgm (zcr (zbpq (zbdt a) sv sv (λ_ _=>rfl))))) (λ_ _ _ _ _=>sv) (N:=["_law_thing","_law_odd_here"]) (k:=1) (is:=[1]) (zfq (by rfl)))))))))))
theorem zok{Y:En}(T:TopF Y.K "_law_take" (top 39)): Cl Y "_law_take" 1 ["_law_bag_here","_law_many"] zh:=cmk ["_law_bag_here","_law_many","_law_digit","_law_number","_law_room"] T λa f d A b s H E c=>(zb (zcw (zbn zbtg (zss λ_ _ _ _=>.bl _) (zjh sv ze (λ_ _=>rfl)) ze (nomark _)) (zb (sst a (zgo zsf (oI_D λ_ _ _ _=>.int _) (zjh sv ze (λ_ _=>rfl)) sv))
 (zb (zre (zgo zoh (oI_D λ_ _ _ _=>.int _) (zjh sv ze (λ_ _=>rfl)) sv) sv ze)
 (zc (zp sv)))) zbr)
 (zb (sst a ze)
 (zb (sst a ze)
 (zb (zlp xkl (zbn (zsg c.units0) zsr sv sv (nomark _)) (zb (zre (zgo zsf (oI_D λ_ _ _ _=>.int _) (sad (zgo zjb (oI_D λ_ _ _ _=>.int _) (zjh sv ze (λ_ _=>rfl)) ze) ze) ze) sv ze)
 (zb (sst a (sad (zgo zjb (oI_D λ_ _ _ _=>.int _) sv ze) (zgo zsf (oI_D λ_ _ _ _=>.int _) (zgo zjb (oI_D λ_ _ _ _=>.int _) (zgo zoh (oI_D λ_ _ _ _=>.int _) (zjh sv ze (λ_ _=>rfl)) ze) ze) ze)))
 (zc (sst a (zgo zjb (oI_D λ_ _ _ _=>.int _) sv ze))))))
 (zc (zp (zgo zsf (oI_D λ_ _ _ _=>.int _) sv sv)))))))
theorem zjf{Y:En}(T:TopF Y.K "_law_product" (top 43))(e:Y.mg "range"=none)(h:Y.mg "tuple"=none)(c:Cl Y "_law_take" 1 ["_law_bag_here","_law_many"] zh):Cl Y "_law_product" 2 ["_law_bag_here","_law_n","_law_degree"] zcu:=cmk ["_law_bag_here","_law_n","_law_degree","_law_left","_law_exponents","_law_k","_law_at"] T λa f g A d s H E b=>(zb (sst a (scl c b (sa2 sv (sad sv ze))))
 (zb (zcw (zbn (zsh b.units) zst (scl c b (sa2 sv ze)) ze (nomark _)) (zc (sst a sv)) zbr)
 (zb (sst a (zez zby))
 (zb (sfr (zbo rfl e (sa1 (ssb sv ze))) (sgn a)
 (zb (zy (zdn sv (sa1 (scl c b (sa2 sv (sad sv ze))))))
 (zc (sst a (ssb sv (zjh sv (ztb ze) (λ_ _=>rfl)))))))
 (zb (zy (zdn sv (sa1 sv)))
 (zb (sst a (scl c b (sa2 sv sv)))
 (zc (zp (zcs zbi zfe rfl h zeh (sa1 (sad (zbpm sv (ziu sv) ziv) (zbpm sv ziv (ziu sv)))))))))))))
theorem zsm{Y:En}(T:TopF Y.K "_law_sum" (top 44))(d:Y.mg "range"=none)(c:Cl Y "_law_odd" 1 ["_law_things"] zbd)(e:Cl Y "_law_take" 1 ["_law_bag_here","_law_many"] zh)(h:Cl Y "_law_product" 2 ["_law_bag_here","_law_n","_law_degree"] zcu):Cl Y "_law_sum" 3 ["_law_bag_here","_law_n","_law_many","_law_degree"] zhr:=cmk ["_law_bag_here","_law_n","_law_many","_law_degree"] T λi f g A a s H E b=>(zc (zp (scl c b (sa1 (scp ["_law_k","_law_bag_here","_law_n","_law_degree"] (zbo rfl d (sa1 (scl e b (sa2 sv (sad sv ze))))) (λ_ _ _ _ _=>(scl h b (zj sv (sa2 sv sv)))))))))
theorem zsn{Y:En}(T:TopF Y.K "_law_row" (top 41))(g:Y.mg "range"=none)(e:Y.mg "min"=none)(i:Y.mg "tuple"=none)(b:Cl Y "_law_take" 1 ["_law_bag_here","_law_many"] zh):Cl Y "_law_row" 2 ["_law_bag_here","_law_most","_law_long"] zfv:=cmk ["_law_bag_here","_law_most","_law_long","_law_row_here","_law_left","_law_k"] T λa f h A c s H E d=>(zb (sst a (zez zby))
 (zb (sst a sv)
 (zb (sfr (zbo rfl g (sa1 (scl b d (sa2 sv (sad sv ze))))) (sgn a)
 (zc (zcw (zbn zbtg (zss λ_ _ _ _=>.bl _) sv ze (nomark _)) (zb (zy (zdn sv (sa1 (sad ze (scl b d (sa2 sv (zjh (ztc (zj sv (sa2 (zq (zer rfl) zbjs rfl e zte (sa2 sv ze)) (zq (zer rfl) zbjs rfl e zte (sa2 sv ze))))) (scl b d (sa2 sv ze)) (λ_ _=>rfl))))))))
 (zc (sst a (ssb sv (zjh sv (ztb ze) (λ_ _=>rfl)))))) zbr)))
 (zc (zp (zcs zbi zfe rfl i zeh (sa1 sv)))))))
theorem zol{Y:En}(T:TopF Y.K "_law_rows" (top 42))(d:Y.mg "range"=none)(c:Cl Y "_law_odd" 1 ["_law_things"] zbd)(e:Cl Y "_law_take" 1 ["_law_bag_here","_law_many"] zh)(h:Cl Y "_law_row" 2 ["_law_bag_here","_law_most","_law_long"] zfv):Cl Y "_law_rows" 3 ["_law_bag_here","_law_many","_law_most","_law_long"] zcm:=cmk ["_law_bag_here","_law_many","_law_most","_law_long"] T λi f g A a s H E b=>(zc (zp (scl c b (sa1 (scp ["_law_k","_law_bag_here","_law_most","_law_long"] (zbo rfl d (sa1 (scl e b (sa2 sv (sad sv ze))))) (λ_ _ _ _ _=>(scl h b (zj sv (sa2 sv sv)))))))))
theorem zkx{Y:En}(T:TopF Y.K "_law_raised" (top 45))(e:Y.mg "min"=none)(g:Y.mg "range"=none)(d:Cl Y "_law_odd" 1 ["_law_things"] zbd):Cl Y "_law_raised" 2 ["_law_some","_law_k"] zcn:=cmk ["_law_some","_law_k","_law_found","_law_product_here","_law_ways","_law_e","_law_further","_law_built","_law_left"] T λa f h A b s H E c=>(zb (sst a (zez zby))
 (zb (sfr (zbc sv) (sgn a)
 (zb (sst a (ztc (sa1 (zdx (sa2 (zdx zby) sv)))))
 (zb (sfr (zbc sv) (sgn a)
 (zb (sst a (zez zby))
 (zb (sfr (zbc sv) (zkc rfl (zbq (sgn a) (zbq (sgn a) zgn)))
 (zc (zy (zls sv (sa1 (zhb rfl (zbo rfl g (sa1 (sad (zq (zer rfl) zbjs rfl e zte (sa2 sv sv)) ze))) (λ_ _ _ _ _=>(zcb (i:=0) (show(["_law_j","_law_built","_law_left","_law_e"]:List Str).Nodup from by decide +kernel) rfl (Or.inl rfl))) (λ_ _ _ _ _=>(zgm (zbn (zsh c.units) zst (zgo zbgq (zss λ_ _ _ _=>.int _) sv sv) sv (nomark _)))) (λ_ _ _ _ _=>(zdx (sa2 (sad sv (zdx (sa1 (sad sv sv)))) (ssb sv sv)))) (N:=["_law_j","_law_built","_law_left","_law_e"]) (k:=1) (is:=[7,8,5]) (zfq (by rfl))))))))
 (zc (sst a (zbkj sv))))))
 (zc (zy (zls sv (sa1 (zhb rfl (zbc sv) (λ_ _ _ _ _=>(zkc rfl (zbq (zcb (i:=0) (show(["_law_built","_law_left"]:List Str).Nodup from by decide +kernel) rfl (Or.inl rfl)) (zbq (zcb (i:=1) (show(["_law_built","_law_left"]:List Str).Nodup from by decide +kernel) rfl (Or.inl rfl)) zgn)))) (λ_ _ _ _ _=>(zgm (zbn (zsh c.units) zst sv ze (nomark _)))) (λ_ _ _ _ _=>sv) (N:=["_law_built","_law_left"]) (k:=2) (is:=[]) (zfq (by rfl))))))))))
 (zc (zp (scl d c (sa1 (zbkj sv)))))))
theorem zom{Y:En}(T:TopF Y.K "_law_done" (top 46))(a:Y.mg "list"=none)(g:Cl Y "_law_raised" 2 ["_law_some","_law_k"] zcn)(e:Cl Y "_law_odd" 1 ["_law_things"] zbd):Cl Y "_law_done" 3 ["_law_rows_here","_law_some"] zbp:=cmk ["_law_rows_here","_law_some","_law_found","_law_row_here","_law_built","_law_part"] T λb f h A c s H E d=>(zb (sst b (zez zby))
 (zb (sfr (zbc sv) (sgn b)
 (zb (sst b sv)
 (zb (sfr (zbc (zbpu sv (ztb ze))) (sgn b)
 (zc (sst b (scl g d (sa2 sv sv)))))
 (zc (zy (zls sv (sa1 (zcs zpc zbqp rfl a zbqg (sa1 sv)))))))))
 (zc (zp (scl e d (sa1 (zbkj sv)))))))
theorem zoj{Y:En}(T:TopF Y.K "rows_kept" (top 25)): Cl Y "rows_kept" 1 ["rows"] zeu:=cmk ["rows","kept","row"] T λb f d A a s H E c=>(zb (sst b zne)
 (zb (sfr (zbc sv) (sgn b)
 (zc (zow (zbdt c) sv sv zyf rfl)))
 (zc (zp sv))))
theorem zbna{Y:En}(T:TopF Y.K "flip" (top 7)): Cl Y "flip" 1 ["kept","thing"] zfy:=cmk ["kept","thing"] T λd f c A a s H E b=>(zc (zcw (zbuu (zbmp (zbdt b) sv sv)) (zc (zy (zbpp (zbdt b) sv sv ⟨rfl,rfl,rfl,rfl⟩))) (zc (zow (zbdt b) sv sv zyf rfl))))
theorem zsi{Y:En}(T:TopF Y.K "odd_ways" (top 10)): Cl Y "odd_ways" 1 ["e","k"] zft:=cmk ["e","k"] T λd f c A a s H E b=>(zc (zp (zbjd (zsh b.units) zst (zgo zbgq (zss λ_ _ _ _=>.int _) sv sv) sv (nomark _))))
theorem zjc{Y:En}(T:TopF Y.K "rows_for_two" (top 18))(d:Y.mg "range"=none)(e:Y.mg "sorted"=none)(h:Cl Y "odd_ways" 1 ["e","k"] zft):Cl Y "rows_for_two" 2 ["a","b"] zba:=cmk ["a","b","told","c"] T λb f g A a s H E c=>(zb (sst b (zez zby))
 (zb (sfr (zbo rfl d (sa1 (sad (zgo zoh (oI_D λ_ _ _ _=>.int _) sv ze) ze))) (sgn b)
 (zc (zcw (zcr (scl h c (sa2 (ssb (ssb sv sv) ze) (ssb sv (zgo zjb (oI_D λ_ _ _ _=>.int _) ze sv))))) (zc (zy (zdn sv (sa1 (zbxe (zbn zbtg (zss λ_ _ _ _=>.bl _) sv ze (nomark _)) (zdx (sa2 (ssb (sad sv sv) sv) sv)) (zdx (sa1 (sad sv sv)))))))) zbr)))
 (zc (zp (zq (zcc rfl c.units) zes rfl e zdp (sa1 sv))))))
theorem zjd{Y:En}(T:TopF Y.K "rows_for_row" (top 21))(d:Cl Y "rows_for_two" 2 ["a","b"] zba):Cl Y "rows_for_row" 3 ["row","place"] zbb:=cmk ["row","place","ahead","rest"] T λb f e A a s H E c=>(zb (sst b (zbpm sv ziv (ziu sv)))
 (zb (sst b (zbpm sv (ziu (sad sv ze)) ziv))
 (zc (zp (scp ["two","rest","ahead"] (zbc (scl d c (sa2 (zjh sv sv (λ_ _=>rfl)) (zjh sv (sad sv ze) (λ_ _=>rfl))))) (λ_ _ _ _ _=>(sad (sad sv sv) sv)))))))
theorem zsk{Y:En}(T:TopF Y.K "is_whole" (top 6))(a:Y.mg "bool"=none)(d:Y.mg "isinstance"=none)(b:Y.mg "int"=none):Cl Y "is_whole" 1 ["thing"] zx:=cmk ["thing"] T λg f e A c s H E h=>(zc (zp (zbbm (zq zgp zlv rfl d zei (sa2 sv (zbbl (zux (v:=.ty "int") rfl b zbvv rfl) (λ_ _=>.ty _)))) (zbiz (zbpo (zq zgp zlv rfl d zei (sa2 sv (zbbl (zux (v:=.ty "bool") rfl a zbqh rfl) (λ_ _=>.ty _)))))))))
theorem zoi{Y:En}(T:TopF Y.K "stands_in" (top 22))(a:Y.mg "all"=none)(g:Y.mg "tuple"=none)(d:Y.mg "isinstance"=none)(h:Cl Y "is_whole" 1 ["thing"] zx):Cl Y "stands_in" 2 ["kept","row"] zdg:=cmk ["kept","row"] T λi f e A b s H E c=>(zc (zp (zbbm (zq zgp zlv rfl d zei (sa2 sv (zbbl (zux (v:=.ty "tuple") rfl g zeh rfl) (λ_ _=>.ty _)))) (zbbm (zq (zbjn rfl) zbwg rfl a zbvw (sa1 (scp ["part"] (zbc sv) (λ_ _ _ _ _=>(scl h c (sa1 sv)))))) (zbiz (zbzb (zbmp (zbdt c) sv sv)))))))
theorem zje{Y:En}(T:TopF Y.K "falls_slowly" (top 17)): Cl Y "falls_slowly" 1 ["a","b"] zbm:=cmk ["a","b"] T λd f c A a s H E b=>(zc (zp (zbjd (zsg b.units0) zsr sv (zgo zjb (oI_D λ_ _ _ _=>.int _) ze sv) (nomark _))))
theorem zsl{Y:En}(T:TopF Y.K "is_place" (top 23))(d:Y.mg "len"=none)(g:Cl Y "is_whole" 1 ["thing"] zx)(e:Cl Y "falls_slowly" 1 ["a","b"] zbm):Cl Y "is_place" 2 ["row","place"] zbw:=cmk ["row","place"] T λh f c A a s H E b=>(zb (zcw (JW.pt (zsz (zha (zcr (scl g b (sa1 sv)))) (znb (zha (zbbd zbmv (zsg b.units0) (zss λ_ _ _ _=>.bl _) zsr ze sv (ssb (zq zcl zxt rfl d zxi (sa1 sv)) ze))) (by first|exact Or.inl rfl|exact Or.inr rfl)))) (zc (zp zyf)) zbr)
 (zc (zp (scl e b (sa2 (zjh sv sv (λ_ _=>rfl)) (zjh sv (sad sv ze) (λ_ _=>rfl)))))))
theorem zkw{Y:En}(T:TopF Y.K "exchange_in" (top 24))(g:Cl Y "stands_in" 2 ["kept","row"] zdg)(i:Cl Y "is_place" 2 ["row","place"] zbw)(c:Cl Y "flip" 1 ["kept","thing"] zfy)(e:Cl Y "rows_for_row" 3 ["row","place"] zbb):Cl Y "exchange_in" 4 ["kept","row","place"] zcv:=cmk ["kept","row","place","made"] T λh f d A b s H E a=>(zb (zcw (zha (zcr (scl g a (sa2 sv sv)))) (zc zhp) zbr)
 (zb (zcw (zha (zcr (scl i a (sa2 sv sv)))) (zc zhp) zbr)
 (zb (zy (scl c a (sa2 sv sv)))
 (zc (sfr (zbc (scl e a (sa2 sv sv))) (sgn h)
 (zc (zy (scl c a (sa2 sv sv)))))))))
theorem zzu{Y:En}(T:TopF Y.K "walked" (top 35))(e:Y.mg "sorted"=none)(i:Y.mg "tuple"=none)(d:Cl Y "rows_kept" 1 ["rows"] zeu)(g:Cl Y "exchange_in" 4 ["kept","row","place"] zcv):Cl Y "walked" 5 ["rows","steps"] zhq:=cmk ["rows","steps","kept","row","place"] T λa f h A b s H E c=>(zb (sst a (scl d c (sa1 sv)))
 (zb (sfr (zbc sv) (zkc rfl (zbq (sgn a) (zbq (sgn a) zgn)))
 (zc (zy (scl g c (zj sv (sa2 sv sv))))))
 (zc (zp (zcs zbi zfe rfl i zeh (sa1 (zq (zcc rfl c.units) zes rfl e zdp (sa1 sv))))))))
theorem zzy{Y:En}(T:TopF Y.K "moment" (top 32))(d:Y.mg "enumerate"=none)(b:Y.mg "sum"=none):Cl Y "moment" 1 ["row"] zgt:=cmk ["row"] T λe f c A a s H E g=>(zc (zp (zq (zlt rfl) zbjr rfl b zbjp (sa1 (zhb rfl (zbbi rfl d sv) (λ_ _ _ _ _=>(zkc rfl (zbq (zcb (i:=0) (show(["number","part"]:List Str).Nodup from by decide +kernel) rfl (Or.inl rfl)) (zbq (zcb (i:=1) (show(["number","part"]:List Str).Nodup from by decide +kernel) rfl (Or.inl rfl)) zgn)))) (λ_ _ _ _ _=>zox) (λ_ _ _ _ _=>(zgo zjb (oI_D λ_ _ _ _=>.int _) sv sv)) (N:=["number","part"]) (k:=2) (is:=[]) (zfq (by rfl)))))))
theorem zmp{Y:En}(T:TopF Y.K "flip_level" (top 33))(c:Cl Y "flip" 1 ["kept","thing"] zfy)(d:Cl Y "moment" 1 ["row"] zgt):Cl Y "flip_level" 2 ["levels","row"] zcp:=cmk ["levels","row"] T λg f e A a s H E b=>(zc (zy (scl c b (sa2 (zbiy sv (sa2 (scl d b (sa1 sv)) zne)) sv))))
theorem zzx{Y:En}(T:TopF Y.K "places" (top 31))(d:Y.mg "len"=none)(b:Y.mg "range"=none)(e:Cl Y "is_place" 2 ["row","place"] zbw):Cl Y "places" 3 ["row"] zlz:=cmk ["row"] T λh f c A a s H E g=>(zc (zp (zhb rfl (zbo rfl b (sa1 (ssb (zq zcl zxt rfl d zxi (sa1 sv)) ze))) (λ_ _ _ _ _=>(zcb (i:=0) (show(["place","row"]:List Str).Nodup from by decide +kernel) rfl (Or.inl rfl))) (λ_ _ _ _ _=>(zgm (zcr (scl e g (sa2 sv sv))))) (λ_ _ _ _ _=>sv) (N:=["place","row"]) (k:=1) (is:=[0]) (zfq (by rfl)))))
theorem zbtj{Y:En}(T:TopF Y.K "way" (top 34))(e:Y.mg "max"=none)(g:Y.mg "sorted"=none)(d:Cl Y "flip_level" 2 ["levels","row"] zcp)(j:Cl Y "places" 3 ["row"] zlz)(h:Cl Y "rows_for_row" 3 ["row","place"] zbb):Cl Y "way" 4 ["rows"] zbrl:=cmk ["rows","levels","row","steps","level","slow","made"] T λa f i A c s H E b=>(zb (sst a zbjb)
 (zb (sfr (zbc sv) (sgn a)
 (zc (zy (scl d b (sa2 sv sv)))))
 (zb (sst a (zez zby))
 (zb (zlp xkl (zbii sv) (zb (sst a (zbpn sv (sa1 (zq (zxe rfl) zbqo rfl e zbqf (sa1 sv)))))
 (zc (sfr (zbc (zq (zcc rfl b.units) zes rfl g zdp (sa1 sv))) (sgn a)
 (zb (sst a (scl j b (sa1 sv)))
 (zc (zcw (zcr sv) (zb (zy (zdn sv (sa1 (zdx (sa2 sv (zjh sv ze (λ_ _=>rfl)))))))
 (zc (sfr (zbc (scl h b (sa2 sv (zjh sv ze (λ_ _=>rfl))))) (sgn a)
 (zc (zy (scl d b (sa2 sv sv))))))) zbr)))))))
 (zc (zp (zbkj sv)))))))
theorem zvb{Y:En}(T:TopF Y.K "settled" (top 36))(e:Cl Y "walked" 5 ["rows","steps"] zhq)(a:Cl Y "way" 4 ["rows"] zbrl):Cl Y "settled" 6 ["rows"] zet:=cmk ["rows"] T λg f d A b s H E c=>(zc (zp (scl e c (sa2 sv (scl a c (sa1 sv))))))
theorem zmq{Y:En}(T:TopF Y.K "_law_apart" (top 47))(e:Y.mg "range"=none)(d:Cl Y "_law_done" 3 ["_law_rows_here","_law_some"] zbp):Cl Y "_law_apart" 4 ["_law_one","_law_other"] zev:=cmk ["_law_one","_law_other","_law_m","_law_letters"] T λc f g A a s H E b=>(zb (sfr (zbo rfl e (sa1 ze)) (sgn c)
 (zb (sst c (zdx (sa1 (sad (zgo zbcx zbcy (zdx (sa1 ze)) sv) (zgo zbcx zbcy (zdx (sa1 ze)) (ssb ze sv))))))
 (zc (zcw (zbn (zog b.units) zst (scl d b (sa2 sv sv)) (scl d b (sa2 sv sv)) (nomark _)) (zc (zp zyf)) zbr))))
 (zc (zp zyf)))
theorem zvc{Y:En}(T:TopF Y.K "is_part" (top 19)) (a:Y.mg "MOST_PART"=some (.int 40 k_MOST_PART))(d:Cl Y "is_whole" 1 ["thing"] zx):Cl Y "is_part" 2 ["thing"] zew:=cmk ["thing"] T λg f c A b s H E e=>(zc (zp (zbbm (scl d e (sa1 sv)) (zbiz (zbje zbmv zbmv (zss λ_ _ _ _=>.bl _) (zss λ_ _ _ _=>.bl _) ze sv (zbbl (zbmj (v:=.int 40) rfl a ⟨_,rfl⟩) (λ_ _=>.int _)))))))
theorem zbmz{Y:En}(T:TopF Y.K "pair" (top 20))(g:Y.mg "tuple"=none)(h:Cl Y "falls_slowly" 1 ["a","b"] zbm)(c:Cl Y "is_part" 2 ["thing"] zew)(d:Cl Y "rows_for_two" 2 ["a","b"] zba):Cl Y "pair" 3 ["a","b"] zbce:=cmk ["a","b"] T λi f e A b s H E a=>(zb (zcw (JW.pt (zsz (zha (zcr (scl c a (sa1 sv)))) (zsz (zha (zcr (scl c a (sa1 sv)))) (znb (zha (zcr (scl h a (sa2 sv sv)))) (by first|exact Or.inl rfl|exact Or.inr rfl))))) (zc zhp) zbr)
 (zc (zp (zcs zbi zfe rfl g zeh (sa1 (scl d a (sa2 sv sv)))))))
theorem zzv{Y:En}(T:TopF Y.K "shares" (top 11)): Cl Y "shares" 1 ["e","least","most"] zly:=cmk ["e","least","most","told","j"] T λa f d A b s H E c=>(zb (sst a (zez zby))
 (zb (sst a ze)
 (zb (zlp xkl (zbn zbmv (zss λ_ _ _ _=>.bl _) sv sv (nomark _)) (zb (zcw (zbn zbxz (zss λ_ _ _ _=>.bl _) sv sv (nomark _)) (zc (zy (zdn sv (sa1 sv)))) zbr)
 (zb (zcw (zbn (zsh c.units) zst sv sv (nomark _)) (zc zbbe) zbr)
 (zc (sst a (zgo zbgq (zss λ_ _ _ _=>.int _) (ssb sv sv) sv))))))
 (zc (zp (zbkj sv))))))
theorem zig{Y:En}(T:TopF Y.K "letter_raised" (top 12))(c:Cl Y "shares" 1 ["e","least","most"] zly):Cl Y "letter_raised" 2 ["partly","e","rest"] zcd:=cmk ["partly","e","rest","told","made","left","j"] T λa f e A b s H E d=>(zb (sst a (zez zby))
 (zb (sfr (zbc sv) (zkc rfl (zbq (sgn a) (zbq (sgn a) zgn)))
 (zc (sfr (zbc (scl c d (zj sv (sa2 (ssb sv sv) sv)))) (sgn a)
 (zc (zy (zdn sv (sa1 (zdx (sa2 (sad sv (zdx (sa1 (sad sv sv)))) (ssb sv sv))))))))))
 (zc (zp (zbkj sv)))))
theorem zhh{Y:En}(T:TopF Y.K "product_raised" (top 13))(c:Y.mg "sum"=none)(d:Cl Y "letter_raised" 2 ["partly","e","rest"] zcd):Cl Y "product_raised" 3 ["product","k"] zbv:=cmk ["product","k","partly","rest","e"] T λa f e A b s H E g=>(zb (sst a (ztc (sa1 (zdx (sa2 (zdx zby) sv)))))
 (zb (sst a (zq (zlt rfl) zbjr rfl c zbjp (sa1 sv)))
 (zb (sfr (zbc sv) (sgn a)
 (zb (zbpa (i:=3) a rfl (Or.inl rfl) sv zbuh ip_D)
 (zc (sst a (scl d g (zj sv (sa2 sv sv)))))))
 (zc (zp (zhb rfl (zbc sv) (λ_ _ _ _ _=>(zkc rfl (zbq (zcb (i:=0) (show(["made","left"]:List Str).Nodup from by decide +kernel) rfl (Or.inl rfl)) (zbq (zcb (i:=1) (show(["made","left"]:List Str).Nodup from by decide +kernel) rfl (Or.inl rfl)) zgn)))) (λ_ _ _ _ _=>zox) (λ_ _ _ _ _=>sv) (N:=["made","left"]) (k:=2) (is:=[]) (zfq (by rfl))))))))
theorem zzw{Y:En}(T:TopF Y.K "raised" (top 14))(d:Y.mg "sum"=none)(e:Y.mg "sorted"=none)(i:Y.mg "tuple"=none)(k:Cl Y "is_whole" 1 ["thing"] zx)(j:Cl Y "product_raised" 3 ["product","k"] zbv)(g:Cl Y "flip" 1 ["kept","thing"] zfy):Cl Y "raised" 4 ["some","k"] zgs:=cmk ["some","k","kept","product","made"] T λb f h A c s H E a=>(zb (zcw (JW.pt (zsz (zha (zcr (scl k a (sa1 sv)))) (znb (zbn (zsg a.units0) zsr sv ze (nomark _)) (by first|exact Or.inl rfl|exact Or.inr rfl)))) (zc zhp) zbr)
 (zb (sst b zne)
 (zb (sfr (zbc sv) (sgn b)
 (zc (zcw (zbn zbmv (zss λ_ _ _ _=>.bl _) sv (zq (zlt rfl) zbjr rfl d zbjp (sa1 sv)) (nomark _)) (zc (sfr (zbc (scl j a (sa2 sv sv))) (sgn b)
 (zc (zy (scl g a (sa2 sv sv)))))) zbr)))
 (zc (zp (zcs zbi zfe rfl i zeh (sa1 (zq (zcc rfl a.units) zes rfl e zdp (sa1 sv)))))))))
theorem zsj{Y:En}(T:TopF Y.K "odd_ones" (top 8))(d:Y.mg "sorted"=none)(h:Y.mg "tuple"=none)(e:Cl Y "flip" 1 ["kept","thing"] zfy):Cl Y "odd_ones" 2 ["things"] zfu:=cmk ["things","kept","thing"] T λb f g A a s H E c=>(zb (sst b zne)
 (zb (sfr (zbc sv) (sgn b)
 (zc (zy (scl e c (sa2 sv sv)))))
 (zc (zp (zcs zbi zfe rfl h zeh (sa1 (zq (zcc rfl c.units) zes rfl d zdp (sa1 sv))))))))
theorem zbgs{Y:En}(T:TopF Y.K "added" (top 27))(d:Cl Y "odd_ones" 2 ["things"] zfu):Cl Y "added" 3 ["one","other"] zno:=cmk ["one","other"] T λe f c A a s H E b=>(zc (zp (scl d b (sa1 (sad sv sv)))))
theorem zuf:FnScope ["rows","some","told","last","made","ahead"] ["rows","some"] (defScope (top 29)):=⟨rfl,rfl,rfl,by decide +kernel,rfl,by decide +kernel,by decide +kernel⟩
theorem zzz{Y:En}(w:5<=j)(b:∀ l t v e,fF l t=.ok v e->l.length=2)(T:TopF Y.K "done" (top 29))(n:Y.mg "sorted"=none)(a:Y.mg "set"=none)(q:Cl Y "raised" 4 ["some","k"] zgs)(o:Cl Y "added" 3 ["one","other"] zno)(r:Cl Y "done" j ["rows","some"] fF):Cl Y "done" (j + 1) ["rows","some"] (zjj fF):=
  have d:=zuf.nd
  zxh (k:=j) T Y.X Y.G zuf (λ_ _ _ _ _ _ m u=>len2 m u λ_ _=>rfl) λf p A g s H E c=>(zb (zrf (i:=2) d rfl (Or.inl rfl) (zbxe (zbn (zbtf c.units) zbye (zdx zby) (zdw (pv 0)) rfl) (zdw (pv 1)) (zdx zby)))
  (zb (zbec xkl rfl (zbc (zbyu rfl zxr rfl n zdp rfl a zbvu (zj (zhb rfl (zbc (zdw (pv 0))) (λ_ _ _ _ _=>(zcb (i:=0) (show(["row"]:List Str).Nodup from by decide +kernel) rfl (Or.inl rfl))) (λ_ _ _ _ _=>(zgm (zcr (zdw (pv 0))))) (λ_ _ _ _ _=>(zjh (zdw (pv 0)) (ztb ze) (λ_ _=>rfl))) (N:=["row"]) (k:=1) (is:=[]) (zfq (by rfl))) zby))) (zcb (i:=3) d rfl (Or.inr rfl))
  (zb (zrf (i:=4) d rfl (Or.inl rfl) (zrk q (λ_ _ _ _ h=>zqx h) (c.mono (by lia)) rfl (zj (zdw (pv 1)) (zj (zdw (pv 3)) zby))))
  (zc (zcw (zcr (zdw (pv 4))) (zb (zbin (i:=5) rfl d rfl (Or.inl rfl) (zbc (zdw (pv 0))) (λ_ _ _ _ _=>(zcb (i:=0) (show(["row","last"]:List Str).Nodup from by decide +kernel) rfl (Or.inl rfl))) (λ_ _ _ _ _=>(zgm (JW.pt (zbov (zcr (zdw (pv 0))) (znb (zbn (zsh c.units) zst (zjh (zdw (pv 0)) (ztb ze) (λ_ _=>rfl)) (zdw (pv 1)) (nomark _)) (by first|exact Or.inl rfl|exact Or.inr rfl)))))) (λ_ _ _ _ _=>(zbpm (zdw (pv 0)) ziv (ziu (ztb ze)))) (N:=["row","last"]) (k:=1) (is:=[3]) (zfq (by rfl)))
  (zc (zrf (i:=2) d rfl (Or.inl rfl) (zrk o (λ_ _ _ _ h=>zqx h) (c.mono (by lia)) rfl (zj (zdw (pv 2)) (zj (zrk r b c rfl (zj (zdw (pv 5)) (zj (zdw (pv 4)) zby))) zby)))))) zbr))))
  (zc (zp (zdw (pv 2))))))
theorem zbnb{Y:En}(T:TopF Y.K "done" (top 29))(d:Y.mg "sorted"=none)(a:Y.mg "set"=none)(f:Cl Y "raised" 4 ["some","k"] zgs)(e:Cl Y "added" 3 ["one","other"] zno):Cl Y "done" 13 ["rows","some"] (iterF zjj 8):=CalD.iter (L:=5) (zxg T Y.X Y.G zuf (λ_ _ _ _ _ _ b k=>len2 b k λ_ _=>rfl)) (λ_ _ _ _ _ h=>zqx h) (λF j i g c=>zzz i g T d a f e c) 8
theorem zbtk{Y:En}(F:Fun Y.K "law" "law" (top 48) f fd)(r:Y.mg "len"=none)(j:Y.mg "min"=none)(n:Y.mg "max"=none)(o:Y.mg "range"=none)(t:Cl Y "_law_bag" 1 ["_law_script","_law_at"] zfw)(e:Cl Y "_law_take" 1 ["_law_bag_here","_law_many"] zh)(u:Cl Y "_law_sum" 3 ["_law_bag_here","_law_n","_law_many","_law_degree"] zhr)(d:Cl Y "_law_done" 3 ["_law_rows_here","_law_some"] zbp)(c:Cl Y "pair" 3 ["a","b"] zbce)(g:Cl Y "_law_rows" 3 ["_law_bag_here","_law_many","_law_most","_law_long"] zcm)(i:Cl Y "settled" 6 ["rows"] zet)(l:Cl Y "done" 13 ["rows","some"] (iterF zjj 8))(q:Cl Y "_law_apart" 4 ["_law_one","_law_other"] zev):FnOk Y.P Y.w Y.K Y.mg Y.base CX0 14 f fd ["_law_script"] (spLaw Y.K):=
 have m:FnScope ["_law_script","_law_k","_law_bag_here","_law_b","_law_a","_law_n","_law_some","_law_rows_here","_law_due","_law_steep","_law_one","_law_other"] ["_law_script"] (defScope (top 48)):=⟨rfl,rfl,rfl,by decide +kernel,rfl,by decide +kernel,by decide +kernel⟩
 have b:=m.nd
 zboc (k:=13) F m rfl (λp A h s H E a=>(zb (sfr (zbo rfl o (sa1 (sad (zq (zbbv rfl) zbjs rfl n zbqf (sa2 ze (zq (zer rfl) zbjs rfl j zte (sa2 (zq zcl zxt rfl r zxi (sa1 sv)) ze)))) ze))) (sgn b)
 (zb (sst b (scl t a (sa2 sv sv)))
 (zb (sst b (sad ze (scl e a (sa2 sv ze))))
 (zb (sst b (sad ze (scl e a (sa2 sv (zq (zer rfl) zbjs rfl j zte (sa2 (ssb (zgo zjb (oI_D λ_ _ _ _=>.int _) ze sv) ze) ze))))))
 (zb (sst b (sad ze (scl e a (sa2 sv ze))))
 (zb (sst b (scl u a (zj sv (zj sv (sa2 (zjh (ztc (zj ze (zj ze (sa2 ze ze)))) (ssb sv ze) (λ_ _=>rfl)) (zjh (ztc (zj ze (zj ze (sa2 ze ze)))) (ssb sv ze) (λ_ _=>rfl)))))))
 (zb (zcw (zbn (zog a.units) zst (scl d a (sa2 (zdx (sa1 (zdx (sa2 sv sv)))) sv)) (scl d a (sa2 (scl c a (sa2 sv sv)) sv)) (nomark _)) (zc (zp zyf)) zbr)
 (zb (sst b (scl g a (zj sv (zj ze (sa2 (zjh (ztc (zj ze (zj ze (sa2 ze ze)))) (ssb sv ze) (λ_ _=>rfl)) ze)))))
 (zb (sst b (scl d a (sa2 sv sv)))
 (zb (sst b (scl i a (sa1 sv)))
 (zb (zcw (JW.pt (zsz (zbn (zog a.units) zst (scl d a (sa2 sv sv)) sv (nomark _)) (zsz (zbn (zog a.units) zst (scl l a (sa2 sv sv)) sv (nomark _)) (znb (zbn (zog a.units) zst (scl l a (sa2 sv sv)) sv (nomark _)) (by first|exact Or.inl rfl|exact Or.inr rfl))))) (zc (zp zyf)) zbr)
 (zb (sst b (scl g a (zj sv (zj ze (sa2 ze ze)))))
 (zb (sst b (scl g a (zj sv (zj ze (sa2 ze ze)))))
 (zc (zcw (zbn (zog a.units) zst (zbjd (zog a.units) zst (scl i a (sa1 sv)) (scl i a (sa1 sv)) (nomark _)) (scl q a (sa2 sv sv)) (nomark _)) (zc (zp zyf)) zbr)))))))))))))))
 (zc (zp zyf)))) K32.holds
theorem all_mk{l:W.OpenLaw}{K:Fg}(X:K.In h)(G:h.Ns mainGlobals mg)(hfa:mg "law"=some (.ref fa))
  (t1:TopF K "_law_bag" (top 38))(t2:TopF K "_law_odd" (top 40))(t3:TopF K "_law_take" (top 39))(t4:TopF K "_law_product" (top 43))(t5:TopF K "_law_sum" (top 44))(t6:TopF K "_law_row" (top 41))(t7:TopF K "_law_rows" (top 42))(t8:TopF K "_law_raised" (top 45))(t9:TopF K "_law_done" (top 46))(t10:TopF K "rows_kept" (top 25))(t11:TopF K "flip" (top 7))(t12:TopF K "odd_ways" (top 10))(t13:TopF K "rows_for_two" (top 18))(t14:TopF K "rows_for_row" (top 21))(t15:TopF K "is_whole" (top 6))(t16:TopF K "stands_in" (top 22))(t17:TopF K "falls_slowly" (top 17))(t18:TopF K "is_place" (top 23))(t19:TopF K "exchange_in" (top 24))(t20:TopF K "walked" (top 35))(t21:TopF K "moment" (top 32))(t22:TopF K "flip_level" (top 33))(t23:TopF K "places" (top 31))(t24:TopF K "way" (top 34))(t25:TopF K "settled" (top 36))(t26:TopF K "_law_apart" (top 47))(t27:TopF K "is_part" (top 19))(t28:TopF K "pair" (top 20))(t29:TopF K "shares" (top 11))(t30:TopF K "letter_raised" (top 12))(t31:TopF K "product_raised" (top 13))(t32:TopF K "raised" (top 14))(t33:TopF K "odd_ones" (top 8))(t34:TopF K "added" (top 27))(t35:TopF K "done" (top 29))(t36:TopF K "law" (top 48)) (z0:W.nsIn K mainGlobals "len"=some none)(z1:W.nsIn K mainGlobals "abs"=some none)(z2:W.nsIn K mainGlobals "min"=some none)(z3:W.nsIn K mainGlobals "range"=some none)(z4:W.nsIn K mainGlobals "sorted"=some none)(z5:W.nsIn K mainGlobals "tuple"=some none)(z6:W.nsIn K mainGlobals "list"=some none)(z7:W.nsIn K mainGlobals "bool"=some none)(z8:W.nsIn K mainGlobals "isinstance"=some none)(z9:W.nsIn K mainGlobals "int"=some none)(z10:W.nsIn K mainGlobals "all"=some none)(z11:W.nsIn K mainGlobals "enumerate"=some none)(z12:W.nsIn K mainGlobals "sum"=some none)(z13:W.nsIn K mainGlobals "max"=some none)(z14:W.nsIn K mainGlobals "set"=some none)(y0:W.nsIn K mainGlobals "MOST_PART"=some (some (.int 40 u0))):
  ∃ fd:FuncData,(∀(s:Shared) (v:Value),BindsTo s fd ⟨[v],[]⟩ [("_law_script",v)])/\∀ base:Heap,K.In base->base.Ns mainGlobals mg->FnOk l.prog w K mg base CX0 14 fa fd ["_law_script"] (spLaw K):=by
 have Af:=xds X G z0;have z_abs:=xds X G z1;have Ae:=xds X G z2;have Aa:=xds X G z3;have Ac:=xds X G z4;have Ab:=xds X G z5;have z_list:=xds X G z6;have z_bool:=xds X G z7;have Al:=xds X G z8;have z_int:=xds X G z9;have z_all:=xds X G z10;have A7:=xds X G z11;have Ak:=xds X G z12;have Aq:=xds X G z13;have z_set:=xds X G z14;have m_MOST_PART:=W.mg_of X G y0;obtain⟨f,fd,a,F⟩:=t36;have e:=hfa.symm.trans (W.mg_of X G a);cases e;obtain⟨oc,od,kV,doc,pm,an,cdv,ct,osl,rfl,lk,hcd⟩:=id F.ex;refine⟨W.fnOf "law" "law" (defArgs (top 48)) (defBody (top 48)) (defScope (top 48)) .none kV doc pm an cdv ct,λs v=>.of_eq rfl,λbase _ _=>?_⟩
 let Y:En:=⟨l.prog,w,K,mg,base,h,X,G⟩
 have Bf:=zsp (Y:=Y) t1 Af z_abs Ae Aa;have Ah:=zso (Y:=Y) t2 Ac Ab;have Ad:=zok (Y:=Y) t3;have Az:=zjf (Y:=Y) t4 Aa Ab Ad;have Bg:=zsm (Y:=Y) t5 Aa Ah Ad Az;have A0:=zsn (Y:=Y) t6 Aa Ae Ab Ad;have Av:=zol (Y:=Y) t7 Aa Ah Ad A0;have A1:=zkx (Y:=Y) t8 Ae Aa Ah;have Aj:=zom (Y:=Y) t9 z_list A1 Ah;have A4:=zoj (Y:=Y) t10;have Ag:=zbna (Y:=Y) t11;have A2:=zsi (Y:=Y) t12;have Am:=zjc (Y:=Y) t13 Aa Ac A2;have Ap:=zjd (Y:=Y) t14 Am;have Ai:=zsk (Y:=Y) t15 z_bool Al z_int;have A3:=zoi (Y:=Y) t16 z_all Ab Al Ai;have An:=zje (Y:=Y) t17;have Ao:=zsl (Y:=Y) t18 Af Ai An;have A6:=zkw (Y:=Y) t19 A3 Ao Ag Ap;have Ba:=zzu (Y:=Y) t20 Ac Ab A4 A6;have A8:=zzy (Y:=Y) t21 A7 Ak;have Ax:=zmp (Y:=Y) t22 Ag A8;have A9:=zzx (Y:=Y) t23 Af Aa Ao;have c_way:=zbtj (Y:=Y) t24 Aq Ac Ax A9 Ap;have Aw:=zvb (Y:=Y) t25 Ba c_way;have Bh:=zmq (Y:=Y) t26 Aa Aj
 have Ay:=zvc (Y:=Y) t27 m_MOST_PART Ai;have c_pair:=zbmz (Y:=Y) t28 Ab An Ay Am;have Bb:=zzv (Y:=Y) t29;have Bc:=zig (Y:=Y) t30 Bb;have Bd:=zhh (Y:=Y) t31 Ak Bc;have As:=zzw (Y:=Y) t32 Ak Ac Ab Ai Bd Ag;have Be:=zsj (Y:=Y) t33 Ac Ab Ag;have Au:=zbgs (Y:=Y) t34 Be;have Ar:=zbnb (Y:=Y) t35 Ac z_set As Au;exact zbtk (Y:=Y) F Af Ae Aq Aa Bf Ad Bg Aj c_pair Av Aw Ar Bh
end K32
end
open PySem PySem.W PyProof.Rows
set_option maxRecDepth 100000 in
set_option maxHeartbeats 0 in
theorem PySem.Challenge.cw_raisedsums_k32_whole_exchanged_does_the_holds : PySem.Challenge.rw_raisedsums_k32_whole_exchanged_does_the.Holds := by
  w_on; o_law; k_head; (case hw => w_witness2)
  k_fill
  refine L2.zbkq (l := PySem.Challenge.rw_raisedsums_k32_whole_exchanged_does_the) (n := 63) (k := 14) (x := "_law_script") (CX := fun _ => L2.CX0) (sp := fun w => Dd.spLaw _) rfl (by decide) rfl ⟨rfl, by decide, by decide⟩ (fun w h Y => PySem.W.kIn_of Y) ?F (fun _ _ a ns hl _ hS => ⟨a, ns, rfl, hS, hl, fun _ => rfl⟩) (fun _ _ _ _ _ z => z)
  case F =>
    intro w mg fa h KX G hmg
    refine' K32.all_mk KX G hmg ?t1 ?t2 ?t3 ?t4 ?t5 ?t6 ?t7 ?t8 ?t9 ?t10 ?t11 ?t12 ?t13 ?t14 ?t15 ?t16 ?t17 ?t18 ?t19 ?t20 ?t21 ?t22 ?t23 ?t24 ?t25 ?t26 ?t27 ?t28 ?t29 ?t30 ?t31 ?t32 ?t33 ?t34 ?t35 ?t36 ?z0 ?z1 ?z2 ?z3 ?z4 ?z5 ?z6 ?z7 ?z8 ?z9 ?z10 ?z11 ?z12 ?z13 ?z14 ?y0
    all_goals first|k_is|kernel_rfl|(refine' L2.zbf ?a ?l ?c ?k;(case a=>k_is);(case l=>k_is);(case c=>k_is);(case k=>k_is))|skip
#print axioms PySem.Challenge.cw_raisedsums_k32_whole_exchanged_does_the_holds
