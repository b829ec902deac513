import PyProof.Rows.All
import Wide.All
import OpenK.AllK
import Wide.FinOn
import PyProof.EqAt
import PyProof.EqKinds
import PyProof.TupleCall
import PySem.Challenge.RW_raisedsums_k50_parts_shifted
set_option Elab.async false
set_option linter.all false
set_option maxRecDepth 100000
noncomputable section
namespace PySem.W.Fast
def tw6571785297947321298:True:=⟨⟩
def tw2862152271127771111:True:=⟨⟩
def tw6304580283863052719:True:=⟨⟩
def tw6367475640290353964:True:=⟨⟩
def tw8449424206789857520:True:=⟨⟩
def tw7124446837105174033:True:=⟨⟩
def tw15282259826525322100:True:=⟨⟩
def tw12624051642573646663:True:=⟨⟩
def tw5716074315004533521:True:=⟨⟩
def tw2417544795935614158:True:=⟨⟩
def tw12100811817842405926:True:=⟨⟩
def tw3576643304315382302:True:=⟨⟩
def tw17082173434893995940:True:=⟨⟩
def tw11994004399715389887:True:=⟨⟩
def tw8424960810830795895:True:=⟨⟩
def tw15236505245688034835:True:=⟨⟩
def tw6882270405319598070:True:=⟨⟩
def tw7722112396190684310:True:=⟨⟩
def tw12889354288280626465:True:=⟨⟩
def tw615733203073837075:True:=⟨⟩
def tw14550901912964426401:True:=⟨⟩
def tw14013467918123371607:True:=⟨⟩
def tw16819007269098561662:True:=⟨⟩
def tw12866367013464418299:True:=⟨⟩
def tw18188447471230766561:True:=⟨⟩
def tw12641930403971307867:True:=⟨⟩
def tw5487147459977333366:True:=⟨⟩
def tw18242044363937277360:True:=⟨⟩
def tw14858695900396513038:True:=⟨⟩
def tw8591939647028705707:True:=⟨⟩
def tw3976817683684850008:True:=⟨⟩
def tw6182071175308697263:True:=⟨⟩
def tw18117065853711161278:True:=⟨⟩
def tw5888839260205497595:True:=⟨⟩
def tw3623228265645515794:True:=⟨⟩
def tw13811960041286635731:True:=⟨⟩
def tw9892800027165496796:True:=⟨⟩
def tw1343583800467017293:True:=⟨⟩
def tw4448660680107311252:True:=⟨⟩
def tw3808470281442197410:True:=⟨⟩
def tw7319771017494109817:True:=⟨⟩
def tw14046469027424551776:True:=⟨⟩
def tw16848849209244041382:True:=⟨⟩
def tw11890008831183794488:True:=⟨⟩
def tw14131981485443321236:True:=⟨⟩
def tw13383936658521523078:True:=⟨⟩
def tw18260976991980681494:True:=⟨⟩
def tw10468092843688089211:True:=⟨⟩
def tw2528905443114658774:True:=⟨⟩
def tw5159951543203690267:True:=⟨⟩
def tw8768137425247914965:True:=⟨⟩
def tw12386453140965012325:True:=⟨⟩
def tw4415271374440848492:True:=⟨⟩
def tw12079495915179338486:True:=⟨⟩
def tw9202288964350340321:True:=⟨⟩
def tw16267395529051324977:True:=⟨⟩
def tw9422450573269261364:True:=⟨⟩
def tw5300756403467369187:True:=⟨⟩
def tw9206515528404501126:True:=⟨⟩
def tw6711726756148567170:True:=⟨⟩
def tw11809813310448635991:True:=⟨⟩
def tw7573258879830133225:True:=⟨⟩
def tw5400277524029086886:True:=⟨⟩
def tw7172790110924204038:True:=⟨⟩
def tw3599722561284607260:True:=⟨⟩
def tw16317614977430136253:True:=⟨⟩
def tw9588931134064285609:True:=⟨⟩
def tw17179135136604699222:True:=⟨⟩
def tw3708301586448148639:True:=⟨⟩
def tw52699522982676507:True:=⟨⟩
def tw11231634035205550447:True:=⟨⟩
def tw1611590123036183325:True:=⟨⟩
def tw10314052333705291730:True:=⟨⟩
def tw12782587875140780795:True:=⟨⟩
def tw3470869349296657134:True:=⟨⟩
def tw5847867349508455181:True:=⟨⟩
def tw11643163960445030471:True:=⟨⟩
def tw15866408055558553595:True:=⟨⟩
def tw14261796280402426682:True:=⟨⟩
def tw14137645012312682808:True:=⟨⟩
def tw12656601590703426999:True:=⟨⟩
def tw6218552589104083221:True:=⟨⟩
def tw8044052314338660553:True:=⟨⟩
def tw11989121256702688111:True:=⟨⟩
def tw3484580199557183848:True:=⟨⟩
def tw5856116945289507445:True:=⟨⟩
def tw10366407554059505812:True:=⟨⟩
def tw17305292361839449927:True:=⟨⟩
end PySem.W.Fast
open PySem
set_option genSizeOfSpec false
set_option genInjectivity false
abbrev Fg:=PySem.W.Frag
def xba:=@PySem.wpAny_bind
def xbb:=@List.length_map
def xbc:=@Nat.le_trans
abbrev xbd:=@List.getElem?_eq_some_iff
def xbe:=@PySem.wpAny_pure
abbrev xbf:=@List.getElem?_eq_getElem
abbrev xbg:=@PySem.Heap.get?_push_of_some
abbrev xbh:=@List.getD_eq_getElem?_getD
def xbi:=@List.mem_cons_of_mem
abbrev xbj:=@List.getElem?_append_left
def xbk:=@List.length_append
def xbl:=@Nat.le_refl
def xbm:=@List.mem_cons
abbrev xbn:=@List.mem_of_getElem?
def xbo:=@Nat.lt_of_lt_of_le
abbrev xbp:=@List.getElem?_set_ne
def xbq:=@PyProof.Rows.wpS_bind
def xbr:=@List.map_cons
def xbs:=@List.mem_range
def xbt:=@List.mem_map
def xbu:=@PyProof.Rows.wpS_pure
def xbv:=@List.length_cons
def xbw:=@List.size_toArray
def xbx:=@PySem.Heap.lt_size
def xby:=@List.mem_cons_self
abbrev xbz:=@PySem.Heap.get?_push_size
def xca:=@List.all_eq_true
def xcb:=@List.take_length
def xcc:=@List.mem_append
def xcd:=@Nat.le_of_lt
def xce:=@Array.length_toList
def xcf:=@Nat.le_add_right
abbrev xcg:=@List.getElem?_map
def xch:=@List.append_assoc
def xci:=@Nat.ne_of_lt
def xcj:=@decide_eq_true
def xck:=@List.filter_cons_of_pos
def xcl:=@List.length_take
def xcm:=@decide_eq_false
abbrev xcn:=@Array.getElem?_toList
def xco:=@List.filter_cons_of_neg
def xcp:=@List.mem_filter
def xcq:=@Nat.le_of_not_lt
abbrev xcr:=@Nat.add_sub_cancel'
def xcs:=@Bool.and_eq_true
def xct:=@Nat.add_le_add_left
def xcu:=@List.mem_singleton
def xcv:=@List.map_map
abbrev xcw:=@List.getElem?_append_right
def xcx:=@List.length_set
def xcy:=@List.mem_flatMap
def xcz:=@List.sum_cons
def xda:=@Option.some.inj
def xdb:=@Nat.le_of_lt_succ
def xdc:=@of_decide_eq_true
def xdd:=@List.take_append_drop
def xde:=@List.drop_eq_getElem_cons
abbrev xdf:=@Array.getD_eq_getD_getElem?
def xdg:=@List.nodup_cons
def xdh:=@Option.map_eq_some_iff
def xdi:=@List.map_append
def xdj:=@Nat.mul_le_mul_right
def xdk:=@Int.eq_ofNat_of_zero_le
def xdl:=@Nat.lt_of_le_of_lt
def xdm:=@PySem.W.mg_none_of
def xdn:=@Ne.symm
def xdo:=@Nat.add_sub_cancel_left
abbrev xdp:=@Array.getElem?_eq_getElem
def xdq:=@Nat.lt_of_le_of_ne
def xdr:=@Nat.le_of_eq
def xds:=@Nat.le_sub_one_of_lt
def xdt:=@List.append_nil
def xdu:=@Nat.le_of_succ_le
def xdv:=@PySem.wpAny_newObj_type
def xdw:=@List.mem_append_right
def xdx:=@Bool.false_eq_true
def xdy:=@Nat.le_of_add_left_le
def xdz:=@List.filter_append
def xea:=@List.map_congr_left
def xeb:=@Array.toList_append
def xec:=@Nat.zero_le
def xed:=@List.getElem_mem
def xee:=@List.filterMap_cons_some
def xef:=@PyProof.Rows.wpS_forRange
def xeg:=@Nat.min_eq_left
def xeh:=@Nat.sub_lt_left_of_lt_add
def xei:=@PySem.wpAny_call_entry
def xej:=@List.take_of_length_le
def xek:=@List.mem_of_mem_take
def xel:=@Nat.zero_add
def xem:=@Nat.le_antisymm
abbrev xen:=@Nat.add_lt_of_lt_sub'
def xeo:=@List.Nodup.length_le_of_subset
def xep:=@Nat.mod_two_eq_zero_or_one
def xeq:=@PySem.wpAny_holding
def xer:=@List.count_append
def xes:=@List.sum_append
def xet:=@List.filterMap_cons_none
def xeu:=@if_false
def xev:=@List.getElem_of_mem
def xew:=@PySem.Heap.SameBut.update
def xex:=@Nat.add_lt_add_left
def xey:=@PySem.wpAny_mono
def xez:=@List.foldl_append
def xfa:=@PyProof.Rows.slot_tuple_getitem
def xfb:=@Nat.xor_assoc
abbrev xfc:=@List.find?_cons
def xfd:=@Nat.sub_lt_sub_right
def xfe:=@List.mem_of_mem_drop
def xff:=@List.pairwise_cons
abbrev xfg:=@List.getElem?_set_self
def xfh:=@Nat.not_lt_of_le
def xfi:=@Nat.succ_le_succ
def xfj:=@Int.toNat_natCast
def xfk:=@Array.toList_push
abbrev xfl:=@PySem.Heap.get?_update_self
abbrev xfm:=@Nat.le_sub_of_add_le'
def xfn:=@PySem.W.kia_one
abbrev xfo:=@List.getElem?_drop
def xfp:=@Option.bind_eq_some_iff
def xfq:=@List.length_drop
def xfr:=@Array.perm_iff_toList_perm
def xfs:=@List.nodup_nil
def xft:=@Nat.lt_of_succ_lt
def xfu:=@PySem.wpAny_truthy_bool
def xfv:=@beq_eq_false_iff_ne
def xfw:=@List.pairwise_iff_getElem
def xfx:=@List.length_singleton
def xfy:=@List.length_filter_le
abbrev xfz:=@List.getElem?_eq_none
def xga:=@Nat.le_of_ble_eq_true
def xgb:=@if_true
def xgc:=@Bool.false_ne_true
def xgd:=@List.lookup_cons
def xge:=@Nat.lt_or_ge
def xgf:=@List.not_mem_nil
def xgg:=@PyProof.Rows.wpS_mono
def xgh:=@PySem.F.slot_dict_keyiterator_next
def xgi:=@Nat.sub_le_sub_right
def xgj:=@List.pairwise_append
abbrev xgk:=@List.getElem?_cons_succ
def xgl:=@Nat.sub_pos_of_lt
def xgm:=@Nat.le_succ_of_le
def xgn:=@List.length_range
def xgo:=@List.filter_congr
def xgp:=@List.range_succ
def xgq:=@Bool.eq_iff_iff
def xgr:=@List.foldl_cons
def xgs:=@List.drop_eq_nil_of_le
def xgt:=@PySem.wpAny_field
def xgu:=@List.nodup_iff_pairwise_ne
def xgv:=@Nat.lt_of_not_le
def xgw:=@PySem.Obj.data_mapFields
def xgx:=@List.Perm.append_left
def xgy:=@List.Pairwise.sublist
def xgz:=@Nat.lt_of_lt_of_eq
abbrev xha:=@List.getElem?_toArray
def xhb:=@PySem.Heap.size_push
def xhc:=@Nat.eq_of_beq_eq_true
def xhd:=@Nat.sub_le
def xhe:=@Int.zero_add
def xhf:=@Nat.lt_irrefl
def xhg:=@PySem.wpAny_typeNameOfWhole_keyiter
def xhh:=@List.length_eq_zero_iff
def xhi:=@PySem.mem_of_lookup
def xhj:=@Nat.sub_le_sub_left
def xhk:=@Nat.min_le_right
def xhl:=@beq_self_eq_true
def xhm:=@decide_eq_decide
abbrev xhn:=@Array.getElem?_eq_none
def xho:=@beq_iff_eq
def xhp:=@PyProof.Rows.wpS_modify
def xhq:=@Nat.ne_of_gt
def xhr:=@PyProof.Rows.callWith_type1
def xhs:=@Nat.sub_add_cancel
def xht:=@List.count_pos_iff
def xhu:=@List.count_eq_zero
def xhv:=@Nat.succ_mul
def xhw:=@PySem.wpAny_pyIter_tuple
def xhx:=@decide_eq_true_iff
def xhy:=@List.length_replicate
def xhz:=@PySem.Obj.isFreed_of_fields
def xia:=@Nat.min_le_left
def xib:=@List.perm_append_comm
def xic:=@PySem.PassesOwn.never
def xid:=@List.count_cons
def xie:=@PySem.wpAny_passesOwn
abbrev xif:=@List.ext_getElem?
def xig:=@Nat.lt_succ_of_lt
def xih:=@decide_eq_true_eq
def xii:=@List.mem_append_left
def xij:=@List.nodup_iff_count
def xik:=@PySem.wpAny_rule
def xil:=@PySem.sizeLine_eq
def xim:=@PySem.wpAny_setField
def xin:=@List.take_succ_eq_append_getElem
def xio:=@PySem.F.called_set
def xip:=@decide_false
def xiq:=@List.filter_sublist
def xir:=@List.flatMap_append
def xis:=@PySem.F.plainAttrs_dict
def xit:=@List.countP_cons_of_pos
def xiu:=@Nat.lt_add_of_pos_right
def xiv:=@PySem.Paired.length
def xiw:=@List.any_cons
def xix:=@PyProof.Rows.wpS_get
def xiy:=@PySem.Calls.spliced_cons
def xiz:=@List.length_nil
def xja:=@Nat.sub_lt
def xjb:=@Nat.eq_zero_or_pos
def xjc:=@List.filter_map
def xjd:=@Int.natCast_add
def xje:=@PySem.tupleKind_room_in1
def xjf:=@PySem.wpAny_setField_rec
def xjg:=@PySem.Calls.callWith_builtin
def xjh:=@List.Perm.append_right
def xji:=@decide_true
def xjj:=@and_self
def xjk:=@List.nodup_append
def xjl:=@PySem.wpAny_dictEntries
def xjm:=@Nat.lt_trans
def xjn:=@PySem.F.slot_dict_pop
def xjo:=@Nat.sub_self
def xjp:=@Array.extract_eq_empty_of_le
def xjq:=@Nat.ble_eq_true_of_le
def xjr:=@PySem.codeAny_mono
def xjs:=@List.ext_getElem
def xjt:=@List.getElem_map
def xju:=@Nat.min_eq_right
def xjv:=@Array.toList_reverse
def xjw:=@List.reverse_reverse
def xjx:=@Nat.lt_succ_self
def xjy:=@Option.getD_some
def xjz:=@List.cons_append
def xka:=@PySem.wpAny_askSetting
abbrev xkb:=@Array.getElem?_setIfInBounds_self_of_lt
def xkc:=@Nat.mul_assoc
def xkd:=@PySem.wpAny_attempt
def xke:=@List.filterMap_cons
abbrev xkf:=@List.getElem?_range
def xkg:=@List.length_reverse
def xkh:=@List.of_mem_zip
abbrev xki:=@List.mem_of_find?_eq_some
def xkj:=@Int.emod_nonneg
def xkk:=@PySem.codeAny_builtin
def xkl:=@PySem.wpAny_ite_split
abbrev xkm:=@List.getElem?_take_of_lt
def xkn:=@List.zip_cons_cons
def xko:=@PySem.F.args_tuple_add_2
def xkp:=@List.filterMap_map
def xkq:=@Nat.add_zero
abbrev xkr:=@PySem.AutoSeq1.wpAny_loadPart'
def xks:=@List.filter_filter
def xkt:=@Nat.pow_succ
def xku:=@PySem.wpAny_Call_Name_kw
def xkv:=@PyProof.Rows.slot_tuple_getitem
def xkw:=@or_false
def xkx:=@Nat.mul_le_mul
def xky:=@PySem.wpAny_seqItems
def xkz:=@PySem.F.entry_tuple_add
def xla:=@List.countP_cons_of_neg
def xlb:=@List.pairwise_singleton
abbrev xlc:=@List.getElem?_cons_zero
def xld:=@List.eraseIdx_cons_succ
def xle:=@PySem.F.plainAttrs_list
def xlf:=@PySem.Calls.spliced_nil
def xlg:=@List.take_sublist
def xlh:=@PySem.Obj.cls_mapFields
def xli:=@Nat.zero_lt_of_lt
def xlj:=@List.reverse_cons
def xlk:=@List.flatMap_cons
def xll:=@PySem.wpAny_pyIter_list
def xlm:=@PySem.wpAny_setState_of
def xln:=@PySem.F.slot_tuple_add
def xlo:=@Nat.le_mul_of_pos_left
def xlp:=@Nat.le_succ
def xlq:=@List.filter_cons
def xlr:=@List.mem_reverse
def xls:=@List.nodup_range
def xlt:=@List.any_eq_true
def xlu:=@PySem.wpAny_isInstance
def xlv:=@PyProof.Rows.wpS_lift
def xlw:=@PySem.F.slot_tuple_lt
def xlx:=@PySem.F.slot_dict_get
abbrev xly:=@Array.getElem?_setIfInBounds_ne
def xlz:=@Array.mem_toList_iff
def xma:=@PySem.Calls.evalArgs_plain
def xmb:=@Array.toList_extract
def xmc:=@Int.le_trans
def xmd:=@PySem.Around.under_plainId
def xme:=@List.eq_nil_iff_forall_not_mem
def xmf:=@Nat.ble_eq
def xmg:=@Nat.zero_xor
def xmh:=@Nat.xor_zero
def xmi:=@List.filter_nil
def xmj:=@PySem.wpAny_execs_nil
def xmk:=@PySem.wpAny_typeOf
def xml:=@PySem.call_meetsIn
def xmm:=@PySem.codeAny_call_builtin
def xmn:=@List.filter_eq_self
def xmo:=@PySem.wpAny_setEntries_of
def xmp:=@List.drop_drop
def xmq:=@List.take_zero
def xmr:=@PySem.F.slot_dict_setdefault
def xms:=@List.dropLast_concat_getLast
def xmt:=@PySem.wpAny_fieldsOf
def xmu:=@Int.add_mul
def xmv:=@PySem.Heap.IsSliceOf.new
def xmw:=@Array.append_empty
def xmx:=@Nat.pos_of_ne_zero
abbrev xmy:=@List.find?_eq_none
def xmz:=@of_decide_eq_false
abbrev xna:=@Array.getElem?_eq_some_iff
def xnb:=@Nat.add_assoc
def xnc:=@List.perm_ext_iff_of_nodup
def xnd:=@PySem.wpAny_standAt
def xne:=@PySem.evalPart_none
def xnf:=@Nat.lt_succ_of_le
def xng:=@List.mapM_toArray
def xnh:=@List.drop_sublist
def xni:=@List.getElem_drop
def xnj:=@List.getElem_take
def xnk:=@List.pairwise_map
def xnl:=@List.Pairwise.imp
def xnm:=@PySem.wpAny_sequenceKey
def xnn:=@PySem.slot_list_getitem
def xno:=@PySem.wpAny_pyIter_slot
def xnp:=@Nat.mod_lt
def xnq:=@List.getElem_inj
def xnr:=@Int.ediv_one
def xns:=@List.map_nil
def xnt:=@Nat.max_eq_right
def xnu:=@Nat.add_comm
def xnv:=@List.perm_middle
def xnw:=@Nat.sub_zero
def xnx:=@List.drop_length
def xny:=@Nat.mul_comm
def xnz:=@Nat.xor_comm
def xoa:=@Nat.xor_self
def xob:=@List.Nodup.count
def xoc:=@map_eq_pure_bind
def xod:=@List.forIn_cons
def xoe:=@Nat.le_add_left
abbrev xof:=@List.find?_some
def xog:=@Bool.decide_and
def xoh:=@Nat.two_pos
def xoi:=@List.map_id
def xoj:=@Int.le_refl
def xok:=@List.drop_zero
def xol:=@List.Perm.refl
def xom:=@Int.mul_nonneg
set_option maxHeartbeats 0
namespace L2
open Spec PyProof.Rows
noncomputable abbrev Key:=Sum Int Str
def keyIs:Key->Value->Bool
 |.inl k,v=>Value.isInt k v
 |.inr x,v=>Value.isStrOf x v
def keyH(w:World):Key->Int
 |.inl k=>hashInt k
 |.inr x=>hashStr w x
def zbl:∀{k v},keyIs k v=true->(∃i t,k=Sum.inl i/\v=Value.int i t)\/(∃x t,k=Sum.inr x/\v=Value.str x t)
 |.inl i,v,h=>by
  obtain⟨t,e⟩:=Value.isInt_shape (k:=i) (v:=v) h;exact .inl ⟨i,t,rfl,e⟩
 |.inr x,v,h=>by
  obtain⟨t,e⟩:=Value.isStrOf_shape (x:=x) (v:=v) h;exact .inr ⟨x,t,rfl,e⟩
def zbba(i:Int)(t:Tok):keyIs (.inl i) (.int i t)=true:=by simp[keyIs,Value.isInt]
def zbaz(x:Str)(t:Tok):keyIs (.inr x) (.str x t)=true:=by simp[keyIs,Value.isStrOf]
def zbud(a b:Int):decide ((Sum.inl a:Key)=Sum.inl b)=(a==b):=by
 by_cases e:a=b
 ·subst e;simp
 ·have h:¬ (Sum.inl a:Key)=Sum.inl b:=λq=>e (Sum.inl.inj q)
  rw[xcm h];exact(xfv.mpr e).symm
def zbua(a b:Str):decide ((Sum.inr a:Key)=Sum.inr b)=decide (a=b):=by
 by_cases e:a=b
 ·subst e;simp
 ·have h:¬ (Sum.inr a:Key)=Sum.inr b:=λq=>e (Sum.inr.inj q)
  rw[xcm h,xcm e]
def zbuc(a:Int)(b:Str):decide ((Sum.inl a:Key)=Sum.inr b)=false:=xcm (λq=>nomatch q)
def zbub(a:Str)(b:Int):decide ((Sum.inr a:Key)=Sum.inl b)=false:=xcm (λq=>nomatch q)
def mixKind(c:Program) (w:World):PySem.KeyKind c w Key where
 is:=keyIs
 hash:=keyH w
 inj:=λv a b l g=>by
  rcases zbl l with⟨i,t,rfl,rfl⟩|⟨x,t,rfl,rfl⟩
  ·rcases zbl g with⟨j,u,rfl,e⟩|⟨y,u,rfl,e⟩
   ·injection e with d _;rw[d]
   ·exact nomatch e
  ·rcases zbl g with⟨j,u,rfl,e⟩|⟨y,u,rfl,e⟩
   ·exact nomatch e
   ·injection e with d _;rw[d]
 byValue:=λk v h=>by
  rcases zbl h with⟨i,t,rfl,rfl⟩|⟨x,t,rfl,rfl⟩<;>rfl
 pyHash:=λf h=>by
  rcases zbl f with⟨i,t,rfl,rfl⟩|⟨x,t,rfl,rfl⟩
  ·exact wpAny_pyHash_int h
  ·exact wpAny_pyHash_str h
 eqBool:=λm f h=>by
  rcases zbl m with⟨i,t,rfl,rfl⟩|⟨x,t,rfl,rfl⟩
  ·rcases zbl f with⟨j,u,rfl,rfl⟩|⟨y,u,rfl,rfl⟩
   ·rw[zbud] at h;exact wpAny_eqBool_int h
   ·rw[zbuc] at h;exact SeqAt.EqAt.int_str i t y u _ _ _ _ h
  ·rcases zbl f with⟨j,u,rfl,rfl⟩|⟨y,u,rfl,rfl⟩
   ·rw[zbub] at h;exact SeqAt.EqAt.str_int x t j u _ _ _ _ h
   ·rw[zbua] at h;exact wpAny_eqBool_str h
 «strs»:=λk x t v h=>by
  rcases zbl h with⟨i,u,rfl,e⟩|⟨y,u,rfl,e⟩
  ·exact nomatch e
  ·injection e with d _
   subst d;cases v<;>rfl
def ztt(a:Program)(w:World)(i:Int)(t:Tok):(mixKind a w).is (.inl i) (.int i t)=true:=zbba i t
def zts(a:Program)(w:World)(x:Str)(t:Tok):(mixKind a w).is (.inr x) (.str x t)=true:=zbaz x t
set_option genInjectivity true in
inductive V where
 |non|bl (b:Bool)|int (i:Int)|str (x:Str)|byt (b:Array UInt8)|flt (b:UInt64)|ref (a:Addr)|ty (n:String)
 deriving DecidableEq
noncomputable def RelV:V->Value->Prop
 |.non,u=>u=Value.none
 |.bl b,u=>u=Value.bool b
 |.int i,u=>∃t,u=Value.int i t
 |.str x,u=>∃t,u=Value.str x t
 |.byt b,u=>∃t,u=Value.bytes b t
 |.flt b,u=>∃t,u=Value.float b t
 |.ref a,u=>u=Value.ref a
 |.ty n,u=>u=Value.type n
abbrev Vals:List V->List Value->Prop:=Paired RelV
def Vals.length(r:Vals xs us):xs.length=us.length:=xiv r
def Vals.get:∀{b:List V}{a:List Value}{i:Nat}{x:V},Vals b a->b[i]?=some x->∃u,a[i]?=some u/\RelV x u
 |_,_,_,_,.nil,e=>by simp at e
 |_,_,0,_,.cons r _,e=>by simp at e;subst e;exact⟨_,rfl,r⟩
 |_,_,i+1,x,.cons _ t,e=>by
  obtain⟨u,d,c⟩:=Vals.get (i:=i) (x:=x) t (by simpa using e);exact⟨u,by simpa using d,c⟩
def Vals.set(r:RelV x u):∀{a:List V}{b:List Value}(i:Nat),Vals a b->Vals (a.set i x) (b.set i u)
 |_,_,_,.nil=>.nil
 |_,_,0,.cons _ t=>.cons r t
 |_,_,i+1,.cons q t=>.cons q (Vals.set r i t)
def Vals.append:∀{b a d c},Vals b d->Vals a c->Vals (b++a) (d++c)
 |_,_,_,_,.nil,s=>s
 |_,_,_,_,.cons r t,s=>.cons r (Vals.append t s)
def Vals.take:∀{a:List V}{b:List Value}(n:Nat),Vals a b->Vals (a.take n) (b.take n)
 |_,_,0,_=>.nil
 |_,_,_+1,.nil=>.nil
 |_,_,n+1,.cons r t=>.cons r (Vals.take n t)
def Vals.drop:∀{a:List V}{b:List Value}(n:Nat),Vals a b->Vals (a.drop n) (b.drop n)
 |_,_,0,r=>r
 |_,_,_+1,.nil=>.nil
 |_,_,n+1,.cons _ t=>Vals.drop n t
def RelO:Option V->Option Value->Prop
 |some v,some u=>RelV v u
 |none,none=>True
 |_,_=>False
def KV{κ:Type}:List (κ×V)->List (κ×Value)->Prop:=Paired λ(p:κ×V) (q:κ×Value)=>p.1=q.1/\RelV p.2 q.2
def kV:Key->V
 |.inl i=>.int i
 |.inr x=>.str x
set_option genInjectivity true in
inductive HO where
 /-- a list -/
 |lst (xs:List V)
 /-- a tuple (never changes) -/
 |tup (xs:List V)
 /-- a dict whose keys are ints and texts;one whose keys are tuples of ints and texts (the empty one is both) -/
 |dK (kvs:List (Key×V))|dT (kvs:List (List Key×V))
 /-- a set of ints: its members,its size -/
 |set (S:Int->Bool) (n:Nat)
 /-- an instance of the class at C,its dict at dx,its attributes -/
 |ins (C dx:Addr) (fs:List (Str×V))
 /-- the dict of the instance at x -/
 |own (x:Addr)
 /-- the dict of an exception -/
 |xd (fs:List (Str×V))
 /-- a bound method,f of x -/
 |met (f x:Addr)
 /-- a range object lo,lo+1,.. below hi -/
 |rng (lo hi:Int)
 /-- a thing that is known to the object (the script;a dict while a loop walks it): read,never written while it is so -/
 |frz (o:Obj) (u:HO)
 /-- a code object's table -/
 |tbl (ps:Array Value)
 /-- any other thing,by what is true of its one object (a def of one's own: SetO a S n:=HO.ext λh=>..) -/
 |ext (φ:Heap->Prop)
noncomputable abbrev Hp:=Addr->Option HO
def upd(H:Hp) (a:Addr) (o:HO):Hp:=λb=>if b=a then some o else H b
def zu:upd H a o a=some o:=by unfold upd;rw[if_pos rfl]
def zw(h:b≠a):upd H a o b=H b:=by unfold upd;rw[if_neg h]
def zbwy{H:Hp}{a b:Addr}{o u:HO}(h:H a=some o)(c:H b=some u)(d:o≠u):a≠b:=by
 intro e;subst e;rw[h] at c;exact d (xda c)
def zl{H:Hp}{a b:Addr}{o:HO}(h:H a=some o)(c:H b=none):a≠b:=by
 intro e;subst e;rw[h] at c;cases c
section
variable (P:Program)(w:World)
def ObjOk(H:Hp) (h:Heap) (a:Addr):HO->Prop
 |.lst c=>c.length<=sizeLine/\∃(b:List Value) (n:Nat),Vals c b/\h.get? a=some { cls:=.type "list",data:=.seq b.toArray n }
 |.tup c=>c.length<=sizeLine/\∃b:List Value,Vals c b/\IsTup h a b.toArray
 |.dK kvs=>kvs.length<=sizeLine/\(a==sysModules)=false/\∃i,KV kvs i/\h.DictOf (mixKind P w) a i
 |.dT kvs=>kvs.length<=sizeLine/\(a==sysModules)=false/\∃c:List (List Key×Addr×Value),
  Paired (λ(p:List Key×V) (q:List Key×Addr×Value)=>p.1=q.1/\H q.2.1=some (.tup (p.1.map kV))/\RelV p.2 q.2.2) kvs c /\
  ∃o j k,h.get? a=some o/\o.ExactDict/\o.data=.dict j k/\j.toList=c.map (entryOfKey (tupleKind (mixKind P w)))/\(c.map (·.1)).Nodup
 |.set S n=>h.SetOf (intKind P w) a S n
 |.ins C dx fs=>H dx=some (.own a)/\fs.length<=1000/\dx≠a/\h.get? a=some (W.instObj C dx) /\
  ∃d,h.Ns1 dx d/\(∀f,RelO (fs.lookup f) (d f))/\PySem.Within d (fs.map (·.1))
 |.own _=>∃o,h.get? a=some o
 |.xd fs=>∃d,h.Ns1 a d/\∀f,RelO (fs.lookup f) (d f)
 |.rng lo hi=>∃ t u v,h.get? a=some { cls:=.type "range",data:=.fields #[.int lo t,.int hi u,.int 1 v] }
 |.frz o u=>h.get? a=some o/\ObjOk H h a u
 |.tbl ps=>h.get? a=some {cls:=.none,data:=.fields ps}
 |.met f x=>h.get? a=some (W.methodObj (.ref f) (.ref x))
 |.ext φ=>φ h/\(∃o,h.get? a=some o)/\∀e g:Heap,φ e->(∀o,e.get? a=some o->g.get? a=some o)->φ g
def HOk(H:Hp) (h:Heap):Prop:=∀a o,H a=some o->ObjOk P w H h a o
end
def ObjOk.lt(x:ObjOk P w H h a o):a<h.objs.size:=by
 cases o with
 |lst xs=>obtain⟨_,_,_,_,e⟩:=x;exact xbx e
 |tup xs=>obtain⟨_,_,_,p⟩:=x;exact p.lt
 |dK kvs=>obtain⟨_,_,_,_,o,_,_,e,_⟩:=x;exact xbx e
 |dT kvs=>obtain⟨_,_,_,_,o,_,_,e,_⟩:=x;exact xbx e
 |set S n=>obtain⟨o,_,_,_,e,_⟩:=x;exact xbx e
 |ins C dx fs=>obtain⟨_,_,_,e,_⟩:=x;exact xbx e
 |own y=>obtain⟨_,e⟩:=x;exact xbx e
 |xd fs=>obtain⟨_,⟨_,_,_,e,_⟩,_⟩:=x;exact xbx e
 |rng lo hi=>obtain⟨_,_,_,e⟩:=x;exact xbx e
 |frz ob u=>obtain⟨e,_⟩:=x;exact xbx e
 |tbl ps=>exact xbx (show h.get? a=some _ from x)
 |met f y=>exact xbx (show h.get? a=some _ from x)
 |ext φ=>obtain⟨_,⟨_,e⟩,_⟩:=x;exact xbx e
section
def Paired.mapP{α β:Type}{F G:α->β->Prop}:∀{d c},Paired F d c->(∀a b,F a b->G a b)->Paired G d c
 |_,_,.nil,_=>.nil
 |_,_,.cons r t,f=>.cons (f _ _ r) (Paired.mapP t f)
end
def ObjOk.stay{h:Heap}{s:Heap}(x:ObjOk P w H h a o)(k:∀b u,(b=a\/H b=some (.own a))->h.get? b=some u->s.get? b=some u)
  (I:∀b,H b=some (.own a)->H' b=some (.own a))(U:∀b m,H b=some (.tup m)->H' b=some (.tup m)):ObjOk P w H' s a o:=by
 induction o with
 |lst m=>obtain⟨z,l,n,r,e⟩:=x;exact⟨z,l,n,r,k _ _ (.inl rfl) e⟩
 |tup m=>obtain⟨z,l,r,g,e,c⟩:=x;exact⟨z,l,r,g,k _ _ (.inl rfl) e,c⟩
 |dK kvs=>obtain⟨z,y,T,r,g,j,i,e,c⟩:=x;exact⟨z,y,T,r,g,j,i,k _ _ (.inl rfl) e,c⟩
 |dT kvs=>
  obtain⟨z,y,m,r,g,j,i,e,c⟩:=x;exact⟨z,y,m,Paired.mapP r λp q z=>⟨z.1,U _ _ z.2.1,z.2.2⟩,g,j,i,k _ _ (.inl rfl) e,c⟩
 |set S n=>obtain⟨g,j,i,t,e,c⟩:=x;exact⟨g,j,i,t,k _ _ (.inl rfl) e,c⟩
 |ins C dx fs=>
  obtain⟨d,z,Q,e,A,⟨E,j,i,J,c⟩,r⟩:=x;exact⟨I _ d,z,Q,k _ _ (.inl rfl) e,A,⟨E,j,i,k _ _ (.inr d) J,c⟩,r⟩
 |own y=>obtain⟨g,e⟩:=x;exact⟨g,k _ _ (.inl rfl) e⟩
 |xd fs=>obtain⟨A,⟨E,j,i,e,c⟩,r⟩:=x;exact⟨A,⟨E,j,i,k _ _ (.inl rfl) e,c⟩,r⟩
 |rng lo hi=>obtain⟨t,u,v,e⟩:=x;exact⟨t,u,v,k _ _ (.inl rfl) e⟩
 |frz g u ih=>obtain⟨e,q⟩:=x;exact⟨k _ _ (.inl rfl) e,ih q⟩
 |tbl ps=>
  have e:h.get? a=some {cls:=.none,data:=.fields ps}:=x;show s.get? a=some {cls:=.none,data:=.fields ps};exact k a _ (.inl rfl) e
 |met f y=>
  have e:h.get? a=some (W.methodObj (.ref f) (.ref y)):=x;show s.get? a=some (W.methodObj (.ref f) (.ref y));exact k a _ (.inl rfl) e
 |ext φ=>obtain⟨p,⟨o,e⟩,G⟩:=x;exact⟨G _ _ p λo q=>k _ _ (.inl rfl) q,⟨o,k _ _ (.inl rfl) e⟩,G⟩
def HOk.lt(x:HOk P w H h)(e:H a=some o):a<h.objs.size:=(x a o e).lt
def HOk.fresh(x:HOk P w H h)(e:h.objs.size<=a):H a=none:=by
 cases q:H a with
 |none=>rfl
 |some u=>exact absurd (xbo (x.lt q) e) (xhf _)
def HOk.kept{h':Heap}(x:HOk P w H h)(k:∀b u,h.get? b=some u->h'.get? b=some u):HOk P w H h':=λa o e=>
 (x a o e).stay (λb u _ q=>k b u q) (λ_ q=>q) λ_ _ q=>q
section
def HOk.laid(x:HOk P w H h)(k:∀b u,h.get? b=some u->h'.get? b=some u)(g:h.objs.size<=a)(d:ObjOk P w (upd H a o) h' a o):HOk P w (upd H a o) h':=λb u e=>by
 have f:=x.fresh g;by_cases hb:b=a
 ·subst hb;rw[zu] at e;cases e;exact d
 ·rw[zw hb] at e;exact(x b u e).stay (λc v _ q=>k c v q) (λc q=>by rw[zw (zl q f)];exact q) λc i q=>by rw[zw (zl q f)];exact q
end
def Rd(H:Hp) (a:Addr) (u:HO):Prop:=H a=some u\/∃o,H a=some (.frz o u)
def Rd.ok(r:Rd H a u)(x:HOk P w H h):ObjOk P w H h a u:=by
 rcases r with r|⟨o,r⟩
 ·exact x a u r
 ·obtain⟨_,q⟩:=x a _ r;exact q
noncomputable def Mut:Option HO->Prop
 |some (.lst _)=>True
 |some (.dK _)=>True
 |some (.dT _)=>True
 |some (.set _ _)=>True
 |some (.ins _ _ _)=>True
 |some (.ext _)=>True
 |_=>False
def HOk.write{h':Heap}(n:HOk P w H h)(g:Mut (H x))(l:e=x\/H e=some (.own x))(k:∀b u,b≠e->h.get? b=some u->h'.get? b=some u)(j:∃u,h'.get? e=some u)
  (i:ObjOk P w (upd H x o') h' x o'):HOk P w (upd H x o') h':=λb u q=>by
 have a:∀c y,H c=some (.own y)->c≠x:=λc y r z=>by subst z;rw[r] at g;exact g
 have d:∀c f,H c=some (.tup f)->c≠x:=λc f r z=>by subst z;rw[r] at g;exact g
 by_cases hb:b=x
 ·subst hb;rw[zu] at q;cases q;exact i
 ·rw[zw hb] at q;by_cases hbe:b=e
  ·have m:H b=some (.own x):=by
    rcases l with z|z
    ·exact absurd (hbe.trans z) hb
    ·rw[hbe];exact z
   rw[q] at m;cases m
   obtain⟨v,o⟩:=j;exact⟨v,by rw[hbe];exact o⟩
  ·refine(n b u q).stay (λc v hc r=>k c v ?_ r) (λc r=>by rw[zw (a c b r)];exact r) λc f r=>by rw[zw (d c f r)];exact r
   rcases hc with rfl|hc
   ·exact hbe
   ·rintro rfl;rcases l with z|z
    ·exact a c b hc z
    ·rw[hc] at z;cases z;exact hb rfl
structure Un (fs ex:List Addr) (H H':Hp) (h h':Heap):Prop where
 keep:∀b o,h.get? b=some o->H b=none->b∉fs->b∉ex->h'.get? b=some o
 slot:∀b o,h.get? b=some o->H b=none->b∈fs->b∉ex->∃sl,h'.get? b=some {o with slots:=sl}
 free:∀b o,h.get? b=some o->H b=none->b∉ex->H' b=none
 there:∀b o,h.get? b=some o->b∉ex->∃o',h'.get? b=some o'
 tups:∀b xs,H b=some (.tup xs)->H' b=some (.tup xs)
 frzs:∀b o u,H b=some (.frz o u)->H' b=some (.frz o u)
 tbls:∀b ps,H b=some (.tbl ps)->∃more,H' b=some (.tbl (ps++more))
def Un.any(u:Un fs ex H H1 h h1) (q:h.get? b=some ob)(n:H b=none)(a:b∉ex):∃c,h1.get? b=some {ob with slots:=c}:=by
 by_cases hb:b∈fs
 ·exact u.slot b ob q n hb a
 ·exact⟨ob.slots,u.keep b ob q n hb a⟩
def Un.kept{h:Heap}{h':Heap}(k:∀b u,h.get? b=some u->h'.get? b=some u):Un fs ex H H h h':=
 ⟨λb a q _ _ _=>k b a q,λb a q _ _ _=>⟨a.slots,k b a q⟩,λ_ _ _ n _=>n,λb a q _=>⟨a,k b a q⟩,λ_ _ q=>q,λ_ _ _ q=>q,λ_ c q=>⟨#[],by rw[q];simp⟩⟩
def Un.refl:Un fs ex H H h h:=Un.kept λ_ _ q=>q
section
def Un.laid(k:∀b u,h.get? b=some u->d.get? b=some u)(e:h.objs.size<=a)(c:H a=none):Un i j H (upd H a o) h d where
 keep:=λb u q _ _ _=>k b u q
 slot:=λb u q _ _ _=>⟨u.slots,k b u q⟩
 free:=λb u q n _=>by rw[zw (xci (xbo (xbx q) e))];exact n
 there:=λb u q _=>⟨u,k b u q⟩
 tups:=λb f q=>by rw[zw (zl q c)];exact q
 frzs:=λb u f q=>by rw[zw (zl q c)];exact q
 tbls:=λb g q=>⟨#[],by rw[zw (zl q c),q];simp⟩
end
def Un.write{h:Heap}{h':Heap}(a:Mut (H x))(i:e=x\/H e=some (.own x))(k:∀b u,b≠e->h.get? b=some u->h'.get? b=some u)(d:∃u,h'.get? e=some u):Un fs ex H (upd H x o) h h':=by
 have g:∀b,H b=none->b≠x:=λb n z=>by subst z;rw[n] at a;exact a
 have f:∀b,H b=none->b≠e:=λb n z=>by
  subst z;rcases i with r|r
  ·exact g b n r
  ·rw[n] at r;cases r
 have c:∀b u,H b=some u->¬ Mut (some u)->b≠x:=λb u q l z=>by subst z;rw[q] at a;exact l a
 refine⟨λb u q n _ _=>k b u (f b n) q,λb u q n _ _=>⟨u.slots,k b u (f b n) q⟩,λb u q n _=>by rw[zw (g b n)];exact n,λb u q _=>?_,
  λb j q=>by rw[zw (c b _ q λz=>z)];exact q,λb u j q=>by rw[zw (c b _ q λz=>z)];exact q,λb m q=>⟨#[],by rw[zw (c b _ q λz=>z),q];simp⟩⟩
 by_cases hbe:b=e
 ·subst hbe;exact d
 ·exact⟨u,k b u hbe q⟩
def trk(h:Heap) (H:Hp):List Addr:=(List.range h.objs.size).filter λa=>(H a).isSome
def hidT(h:Heap) (H:Hp):Heap:=W.hideAll h (trk h H)
def zbbf(h:Heap)(H:Hp):(hidT h H).objs.size=h.objs.size:=W.hideAll_size _ _
def zbie{h:Heap}(e:h.get? b=some o)(n:H b=none):(hidT h H).get? b=some o:=
 W.hideAll_get _ e λa=>by
  have q:(H b).isSome=true:=(xcp.mp a).2;rw[n] at q;simp at q
def zbnq(e:(hidT h H).get? b=some o):h.get? b=some o/\H b=none:=by
 have a:h.get? b=some o:=W.of_hideAll (trk h H) e;refine⟨a,?_⟩;cases q:H b with
 |none=>rfl
 |some x=>
  have c:b∈trk h H:=xcp.mpr ⟨xbs.mpr (xbx a),by simp[q]⟩;have z:(hidT h H).get? b=none:=W.hideAll_none (trk h H) c;rw[z] at e;cases e
structure Mod (K:Fg) (mg:Str->Option Value) (base:Heap):Prop where
 kin:K.In base
 glob:base.Ns mainGlobals mg
 blt:∃ mb,base.Ns builtinsNs mb/\∀ x:Str,x≠"__name__"->mb x=bootBuiltins x
 nolimit:base.NoLimit
structure Cx where
 prog:Program
 w:World
 K:Fg
 mg:Str->Option Value
 base:Heap
 A:Around
 N:List Str
 s₀:Shared
 H₀:Hp
 env:Env
 outer:List Env
 stack:List Env
 ex:List Addr
 fn:Str->Bool
 calm:Bool
 pn:List (Addr×Obj)
 xe:Value->Shared->Prop
noncomputable def frs(l:List Env):List Addr:=l.filterMap (·.frame)
abbrev Cx.fs(X:Cx):List Addr:=frs X.outer
noncomputable def Vis(a:Scope) (x:Str):Prop:=a.names.lookup x=some .local\/a.names.lookup x=some .cell\/a.names.lookup x=some .free
noncomputable def Loc(a:Scope) (x:Str):Prop:=a.names.lookup x=some .local\/a.names.lookup x=some .cell
noncomputable def Look(a:Env) (h:Heap) (m:Str->Option Value) (x:Str) (u:Value):Prop:=
 (a.kindOf x=some .local/\m x=some u)\/((a.kindOf x=some .cell\/a.kindOf x=some .free)/\∃c,a.cells.lookup x=some c/\h.IsCell c (some u))
structure Cx.Ok (X:Cx):Prop where
 mod:Mod X.K X.mg X.base
 kind:X.env.scope.kind=.function
 glob:X.env.globals=mainGlobals
 blt:X.env.builtins=builtinsNs
 above:X.s₀.heap.objs.size<=X.env.locals
 inj:∀x y c,X.env.cells.lookup x=some c->X.env.cells.lookup y=some c->x=y
 has:∀x,(X.env.kindOf x=some .cell\/X.env.kindOf x=some .free)->∃c,X.env.cells.lookup x=some c
 cab:∀x c,X.fn x=true->X.env.cells.lookup x=some c->X.s₀.heap.objs.size<=c
 hd:X.calm=true->X.A.handled=none
 frames:X.A.frames=some X.stack
 stk:X.stack=X.outer\/(X.stack=X.env::X.outer/\X.env.frame=some X.env.locals)
 exf:∀b∈X.ex,b≠X.env.locals/\∀x c,X.env.cells.lookup x=some c->c≠b
 bs:∀b o,X.base.get? b=some o->X.s₀.heap.get? b=some o/\X.H₀ b=none
 bsz:X.base.objs.size<=X.s₀.heap.objs.size
 noex:∀b o,X.base.get? b=some o->b∉X.ex
 exfs:∀b∈X.ex,b∉X.fs
 funs:X.s₀.heap.FunFrames X.base X.outer
 frf:∀b∈X.fs,X.H₀ b=none
def Hnd(A:Around) (H:Hp):Prop:=∀v,A.handled=some v->∃a o,v=.ref a/\H a=some (.frz o (.ext λ_=>True))/\∃b,o.data=.fields b/\b[2]?=some .none
def Hnd.map(h:Hnd A H)(f:∀b o u,H b=some (.frz o u)->H' b=some (.frz o u)):Hnd A H':=λv e=>let ⟨a,o,h1,h2,h3⟩:=h v e;⟨a,o,h1,f _ _ _ h2,h3⟩
def Hnd.none{A:Around}(h:A.handled=.none):Hnd A H:=λv e=>by rw[h] at e;cases e
structure Inv (X:Cx) (aU:List (Addr×Obj)) (σ:List (Option V)) (H:Hp) (s:Shared):Prop where
 ok:X.Ok
 os:s.os=X.s₀.os
 bare:AllBare s.gens
 base:Un X.fs X.ex X.H₀ H X.s₀.heap s.heap
 loc:∃m,s.heap.Ns X.env.locals m/\∀(i:Nat) (x:Str) (v:V),X.N[i]?=some x->σ[i]?=some (some v)->Vis X.env.scope x->∃u,RelV v u/\Look X.env s.heap m x u
 cell:∀x c,X.env.cells.lookup x=some c->∃v,s.heap.IsCell c v
 free:H X.env.locals=none
 freeC:∀x c,X.env.cells.lookup x=some c->H c=none
 pin:∀p∈X.pn++aU,s.heap.get? p.1=some p.2/\H p.1=none/\p.1≠X.env.locals/\p.1∉X.fs/\∀v,p.2.data≠.cell v
 hok:HOk X.prog X.w H s.heap
 len:σ.length=X.N.length
 hnd:Hnd X.A H
def Cx.Ok.nofr{X:Cx}(c:X.Ok) (e:X.base.get? b=some o):b∉X.fs:=λa=>by
 have:=(c.funs.mem a).1;rw[e] at this;cases this
def Inv.bs(I:Inv X aU σ H s):∀b o,X.base.get? b=some o->s.heap.get? b=some o/\H b=none:=λb o e=>
 ⟨I.base.keep b o (I.ok.bs b o e).1 (I.ok.bs b o e).2 (I.ok.nofr e) (I.ok.noex b o e),I.base.free b o (I.ok.bs b o e).1 (I.ok.bs b o e).2 (I.ok.noex b o e)⟩
def Inv.bk(I:Inv X aU σ H s):∀b o,X.base.get? b=some o->s.heap.get? b=some o:=λb o e=>(I.bs b o e).1
def Inv.mod(I:Inv X aU σ H s):Mod X.K X.mg X.base:=I.ok.mod
def Inv.kIn(I:Inv X aU σ H s):X.K.In s.heap:=I.ok.mod.kin.keeps I.bk
def Inv.lt(I:Inv X aU σ H s):X.env.locals<s.heap.objs.size:=let ⟨_,hn,_⟩:=I.loc;hn.lt
def Inv.sz(I:Inv X aU σ H s):X.s₀.heap.objs.size<=s.heap.objs.size:=xbc I.ok.above (xcd I.lt)
def Inv.nofs(I:Inv X aU σ H s) (h:s.heap.objs.size<=a):a∉X.fs:=λb=>by
 obtain⟨_,o,c,_⟩:=I.ok.funs.mem b;exact absurd (xbo (xbx c) (xbc I.sz h)) (xhf _)
def Inv.cne(I:Inv X aU σ H s):∀x c,X.env.cells.lookup x=some c->c≠X.env.locals:=λx c e z=>by
 obtain⟨v,o,d,f⟩:=I.cell x c e;obtain⟨m,⟨g,i,h,a,b,_⟩,_⟩:=I.loc;rw[z,a] at d;cases d;rw[b] at f;cases f
def Inv.funs(I:Inv X aU σ H s):s.heap.FunFrames X.base X.outer:=by
 have f:∀(l:List Env),(∀b∈frs l,b∈X.fs)->X.s₀.heap.FunFrames X.base l->s.heap.FunFrames X.base l:=by
  intro l
  induction l with
  |nil=>intro _ _;trivial
  |cons env r ih=>
   intro g m;obtain⟨h,⟨L,o,c,k,j,n⟩,i⟩:=m;have d:L∈X.fs:=g L (by unfold frs;rw[xke,c];exact xby);obtain⟨p,e⟩:=I.base.slot L o j (I.ok.frf L d) d λz=>I.ok.exfs L z d
   exact⟨h,⟨L,_,c,k,e,n⟩,ih (λb a=>g b (by unfold frs;rw[xke,c];exact xbi _ a)) i⟩
 exact f X.outer (λ_ a=>a) I.ok.funs
def Inv.stack(I:Inv X aU σ H s):s.heap.FunFrames X.base X.stack:=by
 rcases I.ok.stk with e|⟨e,b⟩
 ·rw[e];exact I.funs
 ·rw[e];obtain⟨m,a,_⟩:=I.loc;refine .cons (by rw[I.ok.kind];decide) b a ?_ I.funs;exact Heap.get?_none_of_le (xbc I.ok.bsz I.ok.above)
def Inv.stkSub(I:Inv X aU σ H s):∀b∈frs X.stack,b∈X.env.locals::X.fs:=λb a=>by
 rcases I.ok.stk with e|⟨e,c⟩
 ·rw[e] at a;exact xbi _ a
 ·rw[e] at a;unfold frs at a;rw[xke,c] at a;exact a
def Inv.stkFree(I:Inv X aU σ H s):∀b∈frs X.stack,H b=none:=λb hb=>by
 rcases xbm.mp (I.stkSub b hb) with e|hb
 ·rw[e];exact I.free
 ·obtain⟨_,o,a,_⟩:=I.ok.funs.mem hb;exact I.base.free b o a (I.ok.frf b hb) λz=>I.ok.exfs b z hb
section
def Inv.step{g':Array GenState}{t':Nat}{d':Drawn}{ch:List Addr}(I:Inv X aU σ H s)
  (h:∀b∈ch,(b∈X.ex\/X.s₀.heap.objs.size<=b)/\b≠X.env.locals/\(∀x c,X.env.cells.lookup x=some c->c≠b)/\∀p∈X.pn++aU,p.1≠b)
  (g:∀b o,b≠X.env.locals->b∉X.fs->b∉ch->s.heap.get? b=some o->H b=none->P.get? b=some o)
  (C:∀b o,b≠X.env.locals->b∈X.fs->b∉ch->s.heap.get? b=some o->H b=none->∃sl,P.get? b=some {o with slots:=sl})(f:∀b o,b∉ch->s.heap.get? b=some o->H b=none->U b=none)
  (J:∀b o,b∉ch->s.heap.get? b=some o->∃S,P.get? b=some S)
  (a1:∀b A,H b=some (.tup A)->U b=some (.tup A))(E:∀b o u,H b=some (.frz o u)->U b=some (.frz o u))(a2:∀b ps,H b=some (.tbl ps)->∃a0,U b=some (.tbl (ps++a0)))
  (ns:∀m,s.heap.Ns X.env.locals m->P.Ns X.env.locals m)(a5:HOk X.prog X.w U P)(hg:AllBare g'):
  Inv X aU σ U {s with heap:=P,gens:=g',drawn:=d',toks:=t'}:=by
 have Y:∀b o,X.s₀.heap.get? b=some o->b≠X.env.locals:=λb o e=>xci (xbo (xbx e) I.ok.above)
 have w:∀b o,X.s₀.heap.get? b=some o->b∉X.ex->b∉ch:=λb o e a G=>by
  rcases(h b G).1 with z|z
  ·exact a z
  ·exact absurd (xbo (xbx e) z) (xhf _)
 have t:∀x c,X.env.cells.lookup x=some c->∀v,s.heap.IsCell c v->P.IsCell c v:=λx c e v a4=>by
  obtain⟨o,Q,hd⟩:=a4;have j:c∉ch:=λz=>(h c z).2.2.1 x c e rfl
  by_cases hc:c∈X.fs
  ·obtain⟨sl,q⟩:=C c o (I.cne x c e) hc j Q (I.freeC x c e);exact⟨_,q,hd⟩
  ·exact⟨o,g c o (I.cne x c e) hc j Q (I.freeC x c e),hd⟩
 refine⟨I.ok,I.os,hg,⟨λb o e n G a=>?_,λb o e n G a=>?_,λb o e n a=>?_,λb o e a=>?_,λb A e=>a1 b A (I.base.tups b A e),λb o A e=>E b o A (I.base.frzs b o A e),λb ps e=>?_⟩,?_,λx c e=>?_,?_,λx c e=>?_,λp hp=>?_,a5,I.len,I.hnd.map E⟩
 ·exact g b o (Y b o e) G (w b o e a) (I.base.keep b o e n G a) (I.base.free b o e n a)
 ·obtain⟨sl,y⟩:=I.base.slot b o e n G a;obtain⟨a3,T⟩:=C b _ (Y b o e) G (w b o e a) y (I.base.free b o e n a);exact⟨a3,T⟩
 ·obtain⟨S,y⟩:=I.base.there b o e a;exact f b S (w b o e a) y (I.base.free b o e n a)
 ·obtain⟨S,y⟩:=I.base.there b o e a;exact J b S (w b o e a) y
 ·obtain⟨m1,y⟩:=I.base.tbls b ps e;obtain⟨m2,T⟩:=a2 b _ y;exact⟨m1++m2,by rw[T,Array.append_assoc]⟩
 ·obtain⟨m,hn,hl⟩:=I.loc;refine⟨m,ns m hn,λi x v y T e3=>?_⟩;obtain⟨u,r,l⟩:=hl i x v y T e3;refine⟨u,r,?_⟩;rcases l with l|⟨k,c,e,z⟩
  ·exact .inl l
  ·exact .inr ⟨k,c,e,t x c e _ z⟩
 ·obtain⟨v,z⟩:=I.cell x c e;exact⟨v,t x c e v z⟩
 ·obtain⟨m,⟨o,_,_,Q,_⟩,_⟩:=I.loc;exact f _ o (λz=>(h _ z).2.1 rfl) Q I.free
 ·obtain⟨v,o,Q,hd⟩:=I.cell x c e;exact f c o (λz=>(h c z).2.2.1 x c e rfl) Q (I.freeC x c e)
 ·obtain⟨e,n,ne,nf,d⟩:=I.pin p hp;have j:p.1∉ch:=λz=>(h p.1 z).2.2.2 p hp rfl
  exact⟨g p.1 p.2 ne nf j e n,f p.1 p.2 j e n,ne,nf,d⟩
def Inv.un{t':Nat}(I:Inv X k σ H s)(u:Un X.fs [] H H' s.heap h')(f:HOk X.prog X.w H' h'):Inv X k σ H' {s with heap:=h',toks:=t'}:=by
 obtain⟨m,⟨o,w,t,h,r⟩,_⟩:=id I.loc;obtain⟨p,l⟩:=u.any h I.free (by simp)
 exact I.step (g':=s.gens) (d':=s.drawn) (ch:=[]) (λ_ z=>nomatch z) (λb o _ c _ e n=>u.keep b o e n c (by simp)) (λb o _ c _ e n=>u.slot b o e n c (by simp)) (λb o _ e n=>u.free b o e n (by simp)) (λb o _ e=>u.there b o e (by simp)) u.tups u.frzs u.tbls (λv j=>by
  obtain⟨q,g,d,a,i⟩:=j;rw[h] at a;cases a
  exact⟨_,g,d,l,i⟩) f I.bare
def Inv.call{g':Array GenState}{t':Nat}{d':Drawn}{ch:List Addr}(I:Inv X k σ H s)(u:Un (frs X.stack) ch H q s.heap h')(i:HOk X.prog X.w q h')(y:AllBare g')
  (f:∀b∈ch,(b∈X.ex\/X.s₀.heap.objs.size<=b)/\b≠X.env.locals/\(∀x c,X.env.cells.lookup x=some c->c≠b)/\∀p∈X.pn++k,p.1≠b):
  Inv X k σ q {s with heap:=h',gens:=g',drawn:=d',toks:=t'}:=by
 obtain⟨m,⟨o,G,J,l,r⟩,_⟩:=id I.loc;obtain⟨E,h⟩:=u.any l I.free λz=>(f _ z).2.1 rfl
 exact I.step (ch:=ch) f (λb o h v a e n=>u.keep b o e n (λz=>(xbm.mp (I.stkSub b z)).elim h v) a) (λb o _ _ a e n=>u.any e n a) (λb o a e n=>u.free b o e n a) (λb o a e=>u.there b o e a) u.tups u.frzs u.tbls (λA w=>by
  obtain⟨C,j,g,d,t⟩:=w;rw[l] at d;cases d
  exact⟨_,j,g,h,t⟩) i y
end
section
def Inv.turned{t':Nat}{it:Addr}(I:Inv X f σ H s)(k:∀b o,b≠it->s.heap.get? b=some o->i.get? b=some o)(C:H it=none)(g:it≠X.env.locals)
  (l:it∈X.ex\/X.s₀.heap.objs.size<=it)(y:∀x c,X.env.cells.lookup x=some c->c≠it)(w:∀p∈X.pn++f,p.1≠it):Inv X f σ H {s with heap:=i,toks:=t'}:=by
 have d:∀b u,H b=some u->b≠it:=λb u e z=>by rw[z,C] at e;cases e
 refine I.step (g':=s.gens) (d':=s.drawn) (ch:=[it]) (λb h=>?_) (λb o _ _ a e _=>k b o (λz=>a (by simp[z])) e) (λb o _ _ a e _=>⟨o.slots,k b o (λz=>a (by simp[z])) e⟩) (λ_ _ _ _ n=>n)
  (λb o a e=>⟨o,k b o (λz=>a (by simp[z])) e⟩) (λ_ _ e=>e) (λ_ _ _ e=>e) (λb G e=>⟨#[],by rw[e];simp⟩) (λm A=>?_) (λb u e=>?_) I.bare
 ·have e:b=it:=by simpa using h
  subst e;exact⟨l,g,y,w⟩
 ·obtain⟨o,E,t,j,r⟩:=A;exact⟨o,E,t,k _ o (xdn g) j,r⟩
 ·refine(I.hok b u e).stay (λc v a q=>k c v ?_ q) (λ_ q=>q) λ_ _ q=>q
  rcases a with z|z
  ·rw[z];exact d b u e
  ·exact d c _ z
end
def Inv.tok(I:Inv X aU σ H s)(t:Nat):Inv X aU σ H {s with toks:=t}:=I.un (h':=s.heap) (t':=t) Un.refl I.hok
def Inv.kept{h':Heap}(I:Inv X aU σ H s)(k:∀b u,s.heap.get? b=some u->h'.get? b=some u):Inv X aU σ H {s with heap:=h',toks:=t'}:=I.un (Un.kept k) (I.hok.kept k)
def Inv.laid{c:Heap}(I:Inv X aU σ H s)(k:∀b u,s.heap.get? b=some u->c.get? b=some u)(d:s.heap.objs.size<=a)(e:ObjOk X.prog X.w (upd H a o) c a o):
 Inv X aU σ (upd H a o) {s with heap:=c,toks:=t'}:=I.un (Un.laid k d (I.hok.fresh d)) (I.hok.laid k d e)
def Inv.write{c:Heap}(I:Inv X aU σ H s)(g:Mut (H x))(f:e=x\/H e=some (.own x))(k:∀b u,b≠e->s.heap.get? b=some u->c.get? b=some u)(a:∃u,c.get? e=some u)
 (d:ObjOk X.prog X.w (upd H x o) c x o):Inv X aU σ (upd H x o) {s with heap:=c,toks:=t'}:=I.un (Un.write g f k a) (I.hok.write g f k a d)
def Inv.pins_of(I:Inv X aU σ H s)(h:∀p∈a,s.heap.get? p.1=some p.2/\H p.1=none/\p.1≠X.env.locals/\p.1∉X.fs/\∀v,p.2.data≠.cell v):Inv X a σ H s:=
 ⟨I.ok,I.os,I.bare,I.base,I.loc,I.cell,I.free,I.freeC,λp b=>(xcc.mp b).elim (λz=>I.pin p (xii _ z)) (h p),I.hok,I.len,I.hnd⟩
def zwe{N:List Str}(e:N.Nodup){i j:Nat}{x:Str}(a:N[i]?=some x)(b:N[j]?=some x):i=j:=by
 obtain⟨f,d⟩:=xbd.mp a;obtain⟨g,c⟩:=xbd.mp b;exact(xnq e).mp (d.trans c.symm)
def zrb{s:Shared}{M:Model}{i:Nat}{x:Str}(I:Inv X aU σ H s)(hN:X.N.Nodup)(hi:X.N[i]?=some x)(t:Loc X.env.scope x)(r:RelV v u)
  (h:∀s',Inv X aU (σ.set i (some v)) H s'->(∃a,Heap.SameBut a s.heap s'.heap/\(a=X.env.locals\/X.env.cells.lookup x=some a))->Q () s')(hf:X.fn x=true\/X.env.scope.names.lookup x=some .local:=by first|exact .inl rfl|exact .inr rfl|assumption):wpAny M A (storeName X.env x u) Q E s:=by
 obtain⟨m,hn,hl⟩:=id I.loc;have U:(X.env.scope.kind==.class||(X.env.scope.kind==.module&&X.env.locals != X.env.globals))=false:=by rw[I.ok.kind];rfl
 have S:i < σ.length:=by rw[I.len];exact(xbd.mp hi).1
 have P:=I.cne;have g:∀{a h'},(∃o,s.heap.get? a=some o/\H a=none)->Heap.SameBut a s.heap h'->HOk X.prog X.w H h':=λ{a h'} ha f b ob e=>by
  obtain⟨_,_,w⟩:=ha;refine(I.hok b ob e).stay (λc w' hc q=>(f.2 c ?_).trans q) (λ_ q=>q) λ_ _ q=>q
  rintro rfl;rcases hc with rfl|hc
  ·rw[w] at e;cases e
  ·rw[w] at hc;cases hc
 rcases t with hk|hk
 ·refine wpAny_storeName_local hk hn (λh' a2 f=>?_) U;obtain⟨oL,_,_,a1,_⟩:=id hn;refine h _ ⟨I.ok,I.os,I.bare,⟨λb o e n J t=>?_,λb o e n J t=>?_,I.base.free,λb o e t=>?_,I.base.tups,I.base.frzs,I.base.tbls⟩,⟨_,a2,λj y v' l C e3=>?_⟩,λy c e=>?_,I.free,I.freeC,λp hp=>?_,g ⟨oL,a1,I.free⟩ f,by simpa using I.len,I.hnd⟩ ⟨_,f,.inl rfl⟩
  ·exact(f.2 b (xci (xbo (xbx e) I.ok.above))).trans (I.base.keep b o e n J t)
  ·obtain⟨sl,l⟩:=I.base.slot b o e n J t;exact⟨sl,(f.2 b (xci (xbo (xbx e) I.ok.above))).trans l⟩
  ·obtain⟨o',l⟩:=I.base.there b o e t;exact⟨o',(f.2 b (xci (xbo (xbx e) I.ok.above))).trans l⟩
  ·by_cases hj:j=i
   ·subst hj;rw[hi] at l;cases l
    rw[xfg S] at C;cases C;exact⟨u,r,.inl ⟨hk,by simp⟩⟩
   ·rw[xbp (xdn hj)] at C;obtain⟨u',r',q⟩:=hl j y v' l C e3;refine⟨u',r',?_⟩;rcases q with⟨k,e⟩|⟨k,c,e,z⟩
    ·refine .inl ⟨k,?_⟩;have:y≠x:=λe=>hj (zwe hN l (e ▸ hi))
     simp[this,e]
    ·exact .inr ⟨k,c,e,z.sameBut f (P y c e)⟩
  ·obtain⟨w',z⟩:=I.cell y c e;exact⟨w',z.sameBut f (P y c e)⟩
  ·obtain⟨e,n,ne,nf,d⟩:=I.pin p hp;exact⟨(f.2 p.1 ne).trans e,n,ne,nf,d⟩
 ·have G:X.fn x=true:=by
   rcases hf with z|z
   ·exact z
   ·rw[z] at hk;cases hk
  obtain⟨c,hc⟩:=I.ok.has x (.inl hk);obtain⟨w',z⟩:=I.cell x c hc;refine wpAny_storeName_cell I.ok.kind hk hc z (λh' a0 f=>?_);obtain⟨oc,T,Y⟩:=id z;refine h {s with heap:=h'} ⟨I.ok,I.os,I.bare,⟨λb o e n J t=>?_,λb o e n J t=>?_,I.base.free,λb o e t=>?_,I.base.tups,I.base.frzs,I.base.tbls⟩,⟨m,hn.sameBut f (xdn (P x c hc)),λj y v' l C e3=>?_⟩,λy c' e=>?_,I.free,I.freeC,λp hp=>?_,g ⟨oc,T,I.freeC x c hc⟩ f,by simpa using I.len,I.hnd⟩ ⟨c,f,.inr hc⟩
  ·exact(f.2 b (xci (xbo (xbx e) (I.ok.cab x c G hc)))).trans (I.base.keep b o e n J t)
  ·obtain⟨sl,l⟩:=I.base.slot b o e n J t;exact⟨sl,(f.2 b (xci (xbo (xbx e) (I.ok.cab x c G hc)))).trans l⟩
  ·obtain⟨o',l⟩:=I.base.there b o e t;exact⟨o',(f.2 b (xci (xbo (xbx e) (I.ok.cab x c G hc)))).trans l⟩
  ·by_cases hj:j=i
   ·subst hj;rw[hi] at l;cases l
    rw[xfg S] at C;cases C;exact⟨u,r,.inr ⟨.inl hk,c,hc,a0⟩⟩
   ·rw[xbp (xdn hj)] at C;obtain⟨u',r',q⟩:=hl j y v' l C e3;refine⟨u',r',?_⟩;rcases q with q|⟨k,c',e,z'⟩
    ·exact .inl q
    ·refine .inr ⟨k,c',e,z'.sameBut f ?_⟩;rintro rfl;exact hj (zwe hN l (I.ok.inj _ _ _ e hc ▸ hi))
  ·by_cases hcc:c'=c
   ·subst hcc;exact⟨_,a0⟩
   ·obtain⟨w2,z2⟩:=I.cell y c' e;exact⟨w2,z2.sameBut f hcc⟩
  ·obtain⟨e,n,ne,nf,d⟩:=I.pin p hp;refine⟨(f.2 p.1 ?_).trans e,n,ne,nf,d⟩;intro q;rw[q,T] at e;have q':oc=p.2:=xda e;exact d w' (by rw[←q'];exact Y)
def zpb{M:Model}(I:Inv X aU σ H s)(f:X.N.Nodup)(d:X.N[i]?=some x)(c:Loc X.env.scope x)(r:RelV v u)
  (h:∀a,Inv X aU (σ.set i (some v)) H a->Q () a)(b:X.fn x=true\/X.env.scope.names.lookup x=some .local:=by first|exact .inl rfl|exact .inr rfl|assumption):wpAny M A (storeName X.env x u) Q E s:=
 zrb I f d c r (λa e _=>h a e) b
def Inv.call'{s':Shared}{f:List Addr}(I:Inv X i σ H s)(l:s'.os=s.os)(u:Un (frs X.stack) f H H' s.heap s'.heap)(d:HOk X.prog X.w H' s'.heap)(m:AllBare s'.gens)
  (a:∀b∈f,(b∈X.ex\/X.s₀.heap.objs.size<=b)/\b≠X.env.locals/\(∀x c,X.env.cells.lookup x=some c->c≠b)/\∀p∈X.pn++i,p.1≠b):Inv X i σ H' s':=by
 obtain⟨n,g,j,h,k⟩:=s';have e:k=s.os:=l;subst e;exact I.call (g':=g) (t':=h) (d':=j) u d m a
abbrev XK:=Value->Option Addr->Hp->Prop
noncomputable abbrev St:=List (Option V)
abbrev VK:=V->Hp->Prop
abbrev TE:=St->Hp->VK->Prop
abbrev TT:=St->Hp->(Bool->Hp->Prop)->Prop
abbrev TA:=St->Hp->(List V->Hp->Prop)->Prop
structure Ends where
 nx:St->Hp->Prop
 rt:VK
 bk:St->Hp->Prop:=λ_ _=>False
 ct:St->Hp->Prop:=λ_ _=>False
abbrev TS:=Ends->St->Hp->Prop
def EP(X:Cx) (b:List (Addr×Obj)) (σ:St) (Q:VK) (u:Value) (c:Shared):Prop:=∃v a,Inv X b σ a c/\RelV v u/\Q v a
def TP(X:Cx) (c:List (Addr×Obj)) (σ:St) (Q:Bool->Hp->Prop) (b:Bool) (d:Shared):Prop:=∃a,Inv X c σ a d/\Q b a
def AP(X:Cx) (d:List (Addr×Obj)) (σ:St) (Q:List V->Hp->Prop) (e:List Value) (c:Shared):Prop:=∃a b,Inv X d σ b c/\Vals a e/\Q a b
def SP(X:Cx) (c:List (Addr×Obj)) (D:Ends) (f:Flow) (d:Shared):Prop:=
 match f with
 |.next=>∃b a,Inv X c b a d/\D.nx b a
 |.brk=>∃b a,Inv X c b a d/\D.bk b a
 |.cont=>∃b a,Inv X c b a d/\D.ct b a
 |.ret u=>∃v b a,Inv X c b a d/\RelV v u/\D.rt v a
def PE(X:Cx) (e:Expr) (t:TE):Prop:=
 ∀(a:List (Addr×Obj)) (s:Shared) (σ:St) (H:Hp) (Q:VK),Inv X a σ H s->t σ H Q->wpAny (model X.prog X.w) X.A (eval e X.env) (EP X a σ Q) X.xe s
def PT(X:Cx) (e:Expr) (t:TT):Prop:=
 ∀(a:List (Addr×Obj)) (s:Shared) (σ:St) (H:Hp) (Q:Bool->Hp->Prop),Inv X a σ H s->t σ H Q->wpAny (model X.prog X.w) X.A (isTrue e X.env (eval e X.env)) (TP X a σ Q) X.xe s
def PW(X:Cx) (e:Expr) (t:TT):Prop:=
 ∀(a:Sem Value) (b:List (Addr×Obj)) (s:Shared) (σ:St) (H:Hp) (Q:Bool->Hp->Prop),Inv X b σ H s->t σ H Q->wpAny (model X.prog X.w) X.A (isTrue e X.env a) (TP X b σ Q) X.xe s
def PW.pt(h:PW X e t):PT X e t:=h _
def PA(X:Cx) (c:List Expr) (t:TA):Prop:=
 ∀(a:Pos) (b:List (Addr×Obj)) (s:Shared) (σ:St) (H:Hp) (Q:List V->Hp->Prop),Inv X b σ H s->t σ H Q->wpAny (model X.prog X.w) X.A (spliced (backTo a (starEach c X.env))) (AP X b σ Q) X.xe s
def PS(X:Cx) (b:Stmt) (t:TS):Prop:=
 ∀(a:List (Addr×Obj)) (s:Shared) (σ:St) (H:Hp) (D:Ends),Inv X a σ H s->t D σ H->wpAny (model X.prog X.w) X.A (exec b X.env) (SP X a D) X.xe s
def PSs(X:Cx) (b:List Stmt) (t:TS):Prop:=
 ∀(a:List (Addr×Obj)) (s:Shared) (σ:St) (H:Hp) (D:Ends),Inv X a σ H s->t D σ H->wpAny (model X.prog X.w) X.A (execs b X.env) (SP X a D) X.xe s
def thn{α:Type}{t:Sem α}{Q b:α->Shared->Prop}{M:Model}(h:wpAny M A t Q E s)(c:∀a s,Q a s->b a s):wpAny M A t b E s:=xey h c λ_ _ x=>x
def tVar(i:Nat):TE:=λσ H Q=>∃v,σ[i]?=some (some v)/\Q v H
def tC(v:V):TE:=λ_ H Q=>Q v H
def zbsx{X:Cx}(q:X.N[i]?=some x)(j:Vis X.env.scope x)(f:(x==("__debug__" : Str))=false:=by decide)(d:(x==("__classdict__" : Str))=false:=by decide):PE X (.Name x pos) (tVar i):=by
 intro o s σ H Q I h;obtain⟨v,e,h⟩:=h;obtain⟨m,n,p⟩:=I.loc;obtain⟨u,r,l⟩:=p i x v q e j;have b:EP X o σ Q u s:=⟨v,H,I,r,h⟩
 rcases l with⟨hk,k⟩|⟨hk,c,g,a⟩
 ·exact wpAny_Name (wpAny_loadName_local I.ok.kind hk n k b) f
 ·rcases hk with hk|hk
  ·exact wpAny_Name (wpAny_loadName_cell I.ok.kind hk g a b) f
  ·exact wpAny_Name (wpAny_loadName_free I.ok.kind hk g a b d) f
def zbtb{i j pos}:PE X (.Constant (.int i) j pos) (tC (.int i)):=λ_ _ _ H _ I h=>wpAny_Constant_int ⟨.int i,H,I.tok _,⟨_,rfl⟩,h⟩
def zbxr{b j pos}:PE X (.Constant (.bool b) j pos) (tC (.bl b)):=λ_ _ _ H _ I h=>Constant_bool ⟨.bl b,H,I,rfl,h⟩
noncomputable def Gl(X:Cx) (x:Str):Prop:=X.env.kindOf x=some .globalImplicit
def zbdu(I:Inv X aU σ H s)(b:Gl X x)(a:X.mg x=some u)(h:Q u s)
  (c:(x==("__debug__" : Str))=false:=by decide):wpAny (model X.prog X.w) X.A (eval (.Name x pos) X.env) Q E s:=
 Calls.Name_function_global I.ok.kind b (Calls.loadGlobal_global (by rw[I.ok.glob];exact I.mod.glob.keeps I.bk) a h) c
def zpv(I:Inv X aU σ H s)(a:Gl X x)(d:X.mg x=none)(c:bootBuiltins x=some u)(h:Q u s)
  (e:x≠"__name__":=by decide)(g:(x==("__debug__" : Str))=false:=by decide):wpAny (model X.prog X.w) X.A (eval (.Name x pos) X.env) Q E s:=by
 obtain⟨i,b,f⟩:=I.mod.blt;exact Calls.Name_function_global I.ok.kind a (Calls.loadGlobal_builtin (by rw[I.ok.glob];exact I.mod.glob.keeps I.bk) d (by rw[I.ok.blt];exact b.keeps I.bk) ((f x e).trans c) h) g
def zbmy(b:Gl X x)(a:X.mg x=some u)(r:RelV v u)(c:(x==("__debug__" : Str))=false:=by decide):PE X (.Name x pos) (tC v):=
 λ_ _ _ H _ I h=>zbdu I b a ⟨v,H,I,r,h⟩ c
def zgq(a:Gl X x)(c:X.mg x=none)(b:bootBuiltins x=some u)(r:RelV v u)(d:x≠"__name__":=by decide)(e:(x==("__debug__" : Str))=false:=by decide):PE X (.Name x pos) (tC v):=
 λ_ _ _ H _ I h=>zpv I a c b ⟨v,H,I,r,h⟩ d e
def PC(X:Cx) (d:CmpOp) (a b:Expr) (t:TE):Prop:=
 ∀(c:List (Addr×Obj)) (s:Shared) (σ:St) (H:Hp) (Q:VK),Inv X c σ H s->t σ H Q ->
  wpAny (model X.prog X.w) X.A (eval a X.env) (λv f=>wpAny (model X.prog X.w) X.A (eval b X.env) (λu e=>wpAny (model X.prog X.w) X.A (compareOp d v u) (EP X c σ Q) X.xe e) X.xe f) X.xe s
def tB(t:TE):TT:=λσ H Q=>t σ H λx H1=>∃c,x=.bl c/\Q c H1
def zbtc(h:PC X op a b t)(e:behindInMarks op b=false:=by first|exact nobehind _ (by decide) (by decide)|rfl):PE X (.Compare a [op] [b] pos) t:=λd s σ H Q I c=>wpAny_Compare1 (h d s σ H Q I c) e
section
def zbso{g:CmpOp}{t:TE}(h:PC X g a b t)(e:behindInMarks g b=false:=by first|exact nobehind _ (by decide) (by decide)|rfl):PT X (.Compare a [g] [b] n) (tB t):=by
 intro l s σ H Q I j;refine wpAny_isTrue_Compare1 (thn (h l s σ H _ I j) λv r e=>thn e λu w k=>thn k λc p f=>?_) e;obtain⟨x,H1,o,i,m⟩:=f;obtain⟨d,rfl,q⟩:=m;cases i;exact xfu ⟨H1,o,q⟩
end
def tAnd(t u:TT):TT:=λσ H Q=>t σ H λc H1=>if c=true then u σ H1 Q else Q false H1
def tOr(t u:TT):TT:=λσ H Q=>t σ H λc H1=>if c=true then Q true H1 else u σ H1 Q
def tNot(t:TT):TT:=λσ H Q=>t σ H λc H1=>Q (!c) H1
section
def pw_and1(b:PT X a tA):PW X (.BoolOp .And [a] f) tA:=by
 intro i d s σ H Q I h;refine isTrue_and (thn (b d s σ H Q I h) λc g e=>?_);cases c with
 |true=>exact isTrue_and_nil e
 |false=>exact e
def pw_or1(b:PT X a tA):PW X (.BoolOp .Or [a] f) tA:=by
 intro i d s σ H Q I h;refine isTrue_or (thn (b d s σ H Q I h) λc g e=>?_);cases c with
 |false=>exact isTrue_or_nil e
 |true=>exact e
end
section
def pw_and(m:PT X a o)(l:PW X (.BoolOp .And (b::d) g) f):PW X (.BoolOp .And (a::b::d) g) (tAnd o f):=by
 intro p i s σ H Q I h;refine isTrue_and (thn (m i s σ H _ I h) λc n e=>?_);obtain⟨H1,k,j⟩:=e;cases c with
 |true=>exact l p i n σ H1 Q k j
 |false=>exact⟨H1,k,j⟩
def pw_or(m:PT X a o)(l:PW X (.BoolOp .Or (b::d) g) f):PW X (.BoolOp .Or (a::b::d) g) (tOr o f):=by
 intro p i s σ H Q I h;refine isTrue_or (thn (m i s σ H _ I h) λc n e=>?_);obtain⟨H1,k,j⟩:=e;cases c with
 |true=>exact⟨H1,k,j⟩
 |false=>exact l p i n σ H1 Q k j
end
def zbsm(b:PT X a tA):PT X (.UnaryOp .Not a pos) (tNot tA):=by
 intro d s σ H Q I h;exact isTrue_not (b d s σ H (λc H1=>Q (!c) H1) I h)
def tAndV(a tb:TE):TE:=λσ H Q=>a σ H λx H1=>∃c,x=.bl c/\if c=true then tb σ H1 Q else Q (.bl false) H1
def tNotV(a:TE):TE:=λσ H Q=>a σ H λx H1=>∃c,x=.bl c/\Q (.bl (!c)) H1
def zbsz{op} (h:PE X a t):PE X (.BoolOp op [a] pos) t:=λc s σ H Q I b=>BoolOp_one (h c s σ H Q I b)
section
def zbte(l:PE X a o)(k:PE X (.BoolOp .And (b::d) g) tb):PE X (.BoolOp .And (a::b::d) g) (tAndV o tb):=by
 intro i s σ H Q I h;refine BoolOp_and (thn (l i s σ H _ I h) λv n f=>?_);obtain⟨x,H1,j,m,e⟩:=f;obtain⟨c,rfl,e⟩:=e;cases m;refine xfu ?_;cases c with
 |true=>exact k i n σ H1 Q j e
 |false=>exact⟨.bl false,H1,j,rfl,e⟩
end
section
def zbta(e:PE X a i):PE X (.UnaryOp .Not a j) (tNotV i):=by
 intro g s σ H Q I h;refine UnaryOp_ (thn (e g s σ H _ I h) λv l b=>?_);obtain⟨x,H1,k,f,d⟩:=b;obtain⟨c,rfl,d⟩:=d;cases f;exact not_of (xfu ⟨.bl (!c),H1,k,rfl,d⟩)
end
def tIf(t:TT) (a tb:TE):TE:=λσ H Q=>t σ H λc H1=>if c=true then a σ H1 Q else tb σ H1 Q
section
def zbgh{c:Expr}(n:PT X c m)(l:PE X a o)(k:PE X b tb):PE X (.IfExp c a b p) (tIf m o tb):=by
 intro f s σ H Q I h;refine wpAny_IfExp (thn (n f s σ H _ I h) λd g e=>?_);obtain⟨H1,j,i⟩:=e;cases d with
 |true=>exact l f g σ H1 Q j i
 |false=>exact k f g σ H1 Q j i
end
def SqL(K:Fg) (H:Hp) (a:Addr) (c:List V):Prop:=
 Rd H a (.lst c) \/
  ∃(o:Obj) (b:Array Value) (n:Nat),K.lookup a=some o/\o.cls=.type "list"/\o.dict=none/\o.data=.seq b n/\b.size<=sizeLine/\Vals c b.toList
def SqT(K:Fg) (H:Hp) (a:Addr) (c:List V):Prop:=
 Rd H a (.tup c) \/
  ∃(o:Obj) (b:Array Value) (n:Nat),K.lookup a=some o/\o.cls=.type "tuple"/\o.data=.seq b n/\b.size<=sizeLine/\Vals c b.toList
noncomputable def absV:Value->Option V
 |.none=>some .non
 |.bool b=>some (.bl b)
 |.int i _=>some (.int i)
 |.str x _=>some (.str x)
 |.bytes b _=>some (.byt b)
 |.float b _=>some (.flt b)
 |.ref a=>some (.ref a)
 |.type n=>some (.ty n)
 |_=>none
def RelV.abs(r:RelV x u):absV u=some x:=by
 cases x with
 |non=>cases r;rfl
 |bl _=>cases r;rfl
 |int _=>obtain⟨t,rfl⟩:=r;rfl
 |str _=>obtain⟨t,rfl⟩:=r;rfl
 |byt _=>obtain⟨t,rfl⟩:=r;rfl
 |flt _=>obtain⟨t,rfl⟩:=r;rfl
 |ref _=>cases r;rfl
 |ty _=>cases r;rfl
def RelV.inj(r:RelV x u)(q:RelV y u):x=y:=xda (r.abs.symm.trans q.abs)
def Vals.inj:∀{a b c},Vals a c->Vals b c->a=b
 |_,_,_,.nil,.nil=>rfl
 |_,_,_,.cons r t,.cons r' t'=>by rw[r.inj r',Vals.inj t t']
section
def SqL.of{K:Fg}(h:H a=some (.lst xs)):SqL K H a xs:=.inl (.inl h)
def SqT.of{K:Fg}(h:H a=some (.tup xs)):SqT K H a xs:=.inl (.inl h)
end
def Inv.list(I:Inv X aU σ H s)(h:SqL X.K H a xs):∃b:List Value,Vals xs b/\PlainL s.heap a b.toArray/\xs.length<=sizeLine:=by
 rcases h with h|⟨o,b,n,c,f,g,d,i,r⟩
 ·obtain⟨z,b,n,r,e⟩:=h.ok I.hok;exact⟨b,r,⟨_,n,e,rfl,rfl,rfl⟩,z⟩
 ·refine⟨b.toList,r,⟨o,n,I.kIn a o c,f,g,by simpa using d⟩,?_⟩;have e:=r.length;simp only[xce] at e;lia
def Inv.tuple(I:Inv X aU σ H s)(h:SqT X.K H a xs):∃b:List Value,Vals xs b/\IsTup s.heap a b.toArray/\xs.length<=sizeLine:=by
 rcases h with h|⟨o,b,n,c,f,d,g,r⟩
 ·obtain⟨z,b,r,p⟩:=h.ok I.hok;exact⟨b,r,p,z⟩
 ·refine⟨b.toList,r,⟨o,I.kIn a o c,f,n,by simpa using d⟩,?_⟩;have e:=r.length;simp only[xce] at e;lia
def Inv.list_inj(I:Inv X aU σ H s)(h:SqL X.K H a xs)(g:SqL X.K H a ys):xs=ys:=by
 obtain⟨b,r,⟨o,n,e,_,_,d⟩,_⟩:=I.list h;obtain⟨its',i,⟨k,l,c,_,_,f⟩,_⟩:=I.list g;rw[e] at c;cases c
 rw[d] at f;injection f with j _
 have:b=its':=by simpa using congrArg Array.toList j
 subst this;exact r.inj i
def Inv.tuple_inj(I:Inv X aU σ H s)(h:SqT X.K H a xs)(g:SqT X.K H a ys):xs=ys:=by
 obtain⟨b,r,⟨o,e,_,n,d⟩,_⟩:=I.tuple h;obtain⟨its',i,⟨k,c,_,l,f⟩,_⟩:=I.tuple g;rw[e] at c;cases c
 rw[d] at f;injection f with j _
 have:b=its':=by simpa using congrArg Array.toList j
 subst this;exact r.inj i
noncomputable abbrev Cx.wish(X:Cx) (E:Value->Shared->Prop):Cx:={X with xe:=E}
abbrev Cx.nox(X:Cx):Cx:=X.wish λ_ _=>False
def Cx.Ok.wish{X:Cx}(a:X.Ok)(E:Value->Shared->Prop):(X.wish E).Ok:=
 ⟨a.mod,a.kind,a.glob,a.blt,a.above,a.inj,a.has,a.cab,a.hd,a.frames,a.stk,a.exf,a.bs,a.bsz,a.noex,a.exfs,a.funs,a.frf⟩
def Cx.Ok.unwish{X:Cx}(a:(X.wish E).Ok):X.Ok:=
 ⟨a.mod,a.kind,a.glob,a.blt,a.above,a.inj,a.has,a.cab,a.hd,a.frames,a.stk,a.exf,a.bs,a.bsz,a.noex,a.exfs,a.funs,a.frf⟩
def Inv.wish(I:Inv X aU σ H s)(E:Value->Shared->Prop):Inv (X.wish E) aU σ H s:=⟨I.ok.wish E,I.os,I.bare,I.base,I.loc,I.cell,I.free,I.freeC,I.pin,I.hok,I.len,I.hnd⟩
def Inv.unwish{X:Cx}(I:Inv (X.wish E) aU σ H s):Inv X aU σ H s:=⟨I.ok.unwish,I.os,I.bare,I.base,I.loc,I.cell,I.free,I.freeC,I.pin,I.hok,I.len,I.hnd⟩
def SP.unwish{X:Cx}{D:Ends}(h:SP (X.wish E) aU D f s'):SP X aU D f s':=by
 cases f with
 |next=>obtain⟨a,b,I,q⟩:=h;exact⟨a,b,I.unwish,q⟩
 |brk=>obtain⟨a,b,I,q⟩:=h;exact⟨a,b,I.unwish,q⟩
 |cont=>obtain⟨a,b,I,q⟩:=h;exact⟨a,b,I.unwish,q⟩
 |ret u=>obtain⟨v,a,b,I,r,q⟩:=h;exact⟨v,a,b,I.unwish,r,q⟩
section
def PSs.nox{a:List Stmt}{t:TS}(h:PSs X.nox a t):PSs X a t:=λc s σ H D I b=>
 xey (h c s σ H D (I.wish _) b) (λ_ _ q=>q.unwish) λ_ _ z=>False.elim z
end
def tNext:TS:=λD σ H=>D.nx σ H
def tSeq(t u:TS):TS:=λD σ H=>t {D with nx:=u D} σ H
def zbmh:PSs X [] tNext:=λ_ _ σ H _ I h=>xmj ⟨σ,H,I,h⟩
section
def zbfy(d:PS X i t)(g:PSs X a u):PSs X (i::a) (tSeq t u):=by
 intro b s σ H D I h;refine wpAny_execs_cons (thn (d b s σ H {D with nx:=u D} I h) λf e q=>?_);cases f with
 |next=>
  obtain⟨c,j,k,q⟩:=q;exact g b e c j D k q
 |ret v=>exact q
 |brk=>exact q
 |cont=>exact q
end
section
def zbmg(c:PS X a t):PSs X [a] t:=by
 intro b s σ H D I h;refine wpAny_execs_cons (thn (c b s σ H D I h) λf d q=>?_);cases f with
 |next=>exact xmj q
 |ret v=>exact q
 |brk=>exact q
 |cont=>exact q
end
def tBreak:TS:=λD σ H=>D.bk σ H
def zbga:PS X (.Break pos) tBreak:=λ_ _ σ H _ I h=>wpAny_Break ⟨σ,H,I,h⟩
def Inv.quiet(I:Inv X aU σ H s):interactive X.env=false:=by simp[interactive,I.ok.kind]
def tDrop(a:TE):TS:=λD σ H=>a σ H λ_ H1=>D.nx σ H1
section
def zbmk(c:PE X e b)(f:swapsWith e none a.line X.env=pure false:=by rfl):PS X (.Expr e a) (tDrop b):=by
 intro d s σ H D I h;exact wpAny_Expr_any (thn (c d s σ H _ I h) λv k ⟨x,H1,i,j,g⟩=>⟨σ,H1,i,g⟩) I.quiet f
end
def tRet(a:TE):TS:=λD σ H=>a σ H D.rt
section
def zbss(c:PE X e a):PS X (.Return (some e) g) (tRet a):=by
 intro d s σ H D I h;exact wpAny_Return_some (thn (c d s σ H _ I h) λv j ⟨x,H1,i,b,f⟩=>⟨x,σ,H1,i,b,f⟩)
end
def tIfS(c:TT) (t u:TS):TS:=λD σ H=>c σ H λb H1=>if b=true then t D σ H1 else u D σ H1
section
def zbxn{c:Expr}{a b:List Stmt}{g:TT}(n:PT X c g)(m:PSs X a t)(l:PSs X b u):PS X (.If c a b o) (tIfS g t u):=by
 intro f s σ H D I h;refine wpAny_If (thn (n f s σ H _ I h) λd i e=>?_);obtain⟨H1,k,j⟩:=e;cases d with
 |true=>exact m f i σ H1 D k j
 |false=>exact l f i σ H1 D k j
end
abbrev TG:=V->St->Hp->(St->Hp->Prop)->Prop
abbrev TGs:=List V->St->Hp->(St->Hp->Prop)->Prop
def PG(X:Cx) (a:Expr) (t:TG):Prop:=
 ∀(d:List (Addr×Obj)) (s:Shared) (σ:St) (H:Hp) (v:V) (u:Value) (Q:St->Hp->Prop),Inv X d σ H s->RelV v u->t v σ H Q ->
  wpAny (model X.prog X.w) X.A (assign a X.env u) (λ_ e=>∃b c,Inv X d b c e/\Q b c) X.xe s
def PGs(X:Cx) (f:List Expr) (t:TGs):Prop:=
 ∀(c:List (Addr×Obj)) (s:Shared) (σ:St) (H:Hp) (b:List V) (e:List Value) (Q:St->Hp->Prop),Inv X c σ H s->Vals b e->t b σ H Q ->
  wpAny (model X.prog X.w) X.A (assignInOrder ((assignEach f X.env).map (·.2)) e) (λ_ g=>∃a d,Inv X c a d g/\Q a d) X.xe s
abbrev TSet:=V->V->V->Hp->(Hp->Prop)->Prop
def PSet(X:Cx) (t:TSet):Prop:=
 ∀(c:List (Addr×Obj)) (s:Shared) (σ:St) (H:Hp) (o i v:V) (d a u:Value) (Q:Hp->Prop),Inv X c σ H s->RelV o d->RelV i a->RelV v u->t o i v H Q ->
  wpAny (model X.prog X.w) X.A (setItem d a u) (λ_ e=>∃b,Inv X c σ b e/\Q b) X.xe s
abbrev TIp:=V->V->Hp->VK->Prop
def PIp(X:Cx) (b:Operator) (t:TIp):Prop:=
 ∀(a:List (Addr×Obj)) (s:Shared) (σ:St) (H:Hp) (x y:V) (v u:Value) (Q:VK),Inv X a σ H s->RelV x v->RelV y u->t x y H Q ->
  wpAny (model X.prog X.w) X.A (inplaceOp b v u) (EP X a σ Q) X.xe s
def gName(i:Nat):TG:=λv σ H Q=>Q (σ.set i (some v)) H
def zbmw{X:Cx}(e:X.N.Nodup)(c:X.N[i]?=some x)(b:Loc X.env.scope x)(a:X.fn x=true\/X.env.scope.names.lookup x=some .local:=by first|exact .inl rfl|exact .inr rfl|assumption):PG X (.Name x pos) (gName i):=by
 intro g s σ H v u Q I r h;exact wpAny_assign_Name (zpb I e c b r (λf d=>⟨_,H,d,h⟩) a)
def gNil:TGs:=λa σ H Q=>a=[]/\Q σ H
def gCons(t:TG) (u:TGs):TGs:=λc σ H Q=>∃v r,c=v::r/\t v σ H λa b=>u r a b Q
def zbmv:PGs X [] gNil:=by
 intro b s σ H a c Q I r h;obtain⟨e,h⟩:=h;subst e;cases r;exact assignInOrder_nil ⟨σ,H,I,h⟩
section
def zbgf{e:Expr}{a:List Expr}{t:TG}{u:TGs}(f:PG X e t)(i:PGs X a u)
  (j:(assignEach (e::a) X.env).map (·.2)=assign e X.env::(assignEach a X.env).map (·.2):=by rfl):PGs X (e::a) (gCons t u):=by
 intro c s σ H n p Q I r h;obtain⟨v,o,l,h⟩:=h;subst l;cases r with
 |cons r rr=>
  rw[j];refine assignInOrder_cons (thn (f c s σ H _ _ _ I r h) λ_ g b=>?_);obtain⟨d,H1,m,k⟩:=b;exact i c g d H1 _ _ Q m rr k
end
def gTup(K:Fg) (n:Nat) (t:TGs):TG:=λv σ H Q=>∃a b,v=.ref a/\SqT K H a b/\b.length=n/\t b σ H Q
def zbsv{X:Cx}(x:X.calm=true)(h:PGs X es t)
  (m:(assignEach es X.env).length=n:=by rfl)(d:(assignEach es X.env).findIdx? (·.1)=none:=by rfl):PG X (.Tuple es k pos) (gTup X.K n t):=by
 intro f s σ H v u Q I r c;obtain⟨a,p,y,w,z,c⟩:=c;subst y;cases r;obtain⟨i,g,q,C⟩:=I.tuple w;refine assign_Tuple_tuple (I.ok.hd x) q (by simp[m,←z,g.length]) d λj l=>?_
 have A:Inv X f σ H {s with heap:=j}:=I.kept (t':=s.toks) λb o e=>l b o (xci (xbx e)) e
 exact h f _ σ H p _ Q A (by simpa using g) c
def gSub(a b:TE) (t:TSet):TG:=λv σ H Q=>a σ H λo H1=>b σ H1 λi H2=>t o i v H2 λH3=>Q σ H3
section
def zbsw{o i:Expr}{f g:TE}{t:TSet}(n:PE X o f)(G:PE X i g)(m:PSet X t)
  (p:∀v,assign (.Subscript o i d) X.env v=(do
   let b ←holding [v] (eval o X.env)
   let c ←holding [v,b] (eval i X.env)
   standAt d
   holding [v,b,c] (setItem b c v)
   release [v,b,c] []):=by intro _;rfl):PG X (.Subscript o i d) (gSub f g t):=by
 intro e s σ H v u Q I r h;rw[p];refine xba (xeq (thn (n e s σ H _ I h) λb E a=>?_));obtain⟨x,H1,C,l,J⟩:=a;refine xba (xeq (thn (G e E σ H1 _ C J) λc w a=>?_));obtain⟨y,H2,A,k,q⟩:=a;refine xba (xnd (xba (xeq (thn (m e w σ H2 x y v b c u _ A l k r q) λ_ P a=>?_))));obtain⟨H3,j,z⟩:=a;exact wpAny_release ⟨σ,H3,j,z⟩
end
def tAsg(a:TE) (g:TG):TS:=λD σ H=>a σ H λx H1=>g x σ H1 D.nx
section
def zbmm{a e:Expr}{d:TE}{g:TG}(m:PE X e d)(i:PG X a g)(o:swapsWithSole [a] e c.line X.env=pure false:=by rfl)(l:swappedStores [a] e X.env=pure none:=by rfl)
  (j:(assignEach [a] X.env).map (·.2)=[assign a X.env]:=by rfl):PS X (.Assign [a] e c) (tAsg d g):=by
 intro f s σ H D I h;refine wpAny_Assign_stores (thn (m f s σ H _ I h) λv n b=>?_) o l;obtain⟨x,H1,r,k,p⟩:=b;rw[j];exact thn (i f n σ H1 x v _ r k p) λ_ t q=>q
def zbsr{i:Nat}{x:Str}{e:Expr}{d:TE}{a:Pos}(q:X.N.Nodup)(l:X.N[i]?=some x)(g:Loc X.env.scope x)(k:PE X e d)(n:swapsWith e (some (.Name x a)) c.line X.env=pure false:=by rfl)(f:X.fn x=true\/X.env.scope.names.lookup x=some .local:=by first|exact .inl rfl|exact .inr rfl|assumption):
  PS X (.Assign [.Name x a] e c) (tAsg d (gName i)):=by
 intro m s σ H D I h;refine wpAny_Assign_Name (thn (k m s σ H _ I h) λv t b=>?_) n;obtain⟨y,H1,r,j,o⟩:=b;exact zpb r q l g j (λu p=>⟨_,H1,p,o⟩) f
end
def tAug(i:Nat) (a:TE) (b:TIp):TS:=λD σ H=>∃x,σ[i]?=some (some x)/\a σ H λy H1=>b x y H1 λz H2=>D.nx (σ.set i (some z)) H2
section
def zbst{i:Nat}{x:Str}{e:Expr}{q:TE}{j:Operator}{p:TIp}{d:Pos}(P:X.N.Nodup)(t:X.N[i]?=some x)(g:Loc X.env.scope x)(Y:PE X e q)(Q:PIp X j p)(U:X.fn x=true\/X.env.scope.names.lookup x=some .local:=by first|exact .inl rfl|exact .inr rfl|assumption):
  PS X (.AugAssign (.Name x d) j e J) (tAug i q p):=by
 intro f s σ H D I h;obtain⟨v,e1,h⟩:=h;obtain⟨m,G,hl⟩:=I.loc;have n:Vis X.env.scope x:=by rcases g with k|k;exact .inl k;exact .inr (.inl k)
 obtain⟨u,r,l⟩:=hl i x v t e1 n;refine wpAny_AugAssign_Name ?_;have o:wpAny (model X.prog X.w) X.A (eval e X.env) (λw s₂=>wpAny (model X.prog X.w) X.A (inplaceOp j u w) (λr S=>wpAny (model X.prog X.w) X.A (storeName X.env x r) (λ_=>SP X f D .next) X.xe S) X.xe s₂) X.xe s:=by
  refine thn (Y f s σ H _ I h) λw s1 a=>?_
  obtain⟨y,H1,I1,E,q1⟩:=a;refine thn (Q f s1 σ H1 v y u w _ I1 r E q1) λz s2 a=>?_
  obtain⟨zv,H2,I2,C,T⟩:=a;exact zpb I2 P t g C (λs3 A=>⟨_,H2,A,T⟩) U
 rcases l with⟨hk,hm⟩|⟨hk,c,hc,b⟩
 ·exact wpAny_loadName_local I.ok.kind hk G hm o
 ·rcases hk with hk|hk
  ·exact wpAny_loadName_cell I.ok.kind hk hc b o
  ·rcases g with k|k
   ·have:X.env.scope.names.lookup x=some .free:=hk;rw[k] at this;cases this
   ·have:X.env.scope.names.lookup x=some .free:=hk;rw[k] at this;cases this
end
def ipI(f:Int->Int->Int):TIp:=λx y H Q=>∃i j,x=.int i/\y=.int j/\Q (.int (f i j)) H
def zbuh:PIp X .Sub (ipI λi j=>i-j):=by
 intro f s σ H x y v u Q I c b h;obtain⟨i,j,d,a,q⟩:=h;subst d;subst a
 obtain⟨t,rfl⟩:=c;obtain⟨e,rfl⟩:=b;exact isub_int ⟨.int _,H,I.tok _,⟨_,rfl⟩,q⟩
def tWhile(c:TT) (tb:TS):TS:=λD σ H=>∃W:Nat->St->Hp->Prop,(∃m,W m σ H)/\∀m σ H,W m σ H ->
 c σ H λb H1=>if b=true then ∃N:St->Hp->Prop,(∀d a,N d a->∃e,e<m/\W e d a)/\tb {D with nx:=N,ct:=N,bk:=D.nx} σ H1 else D.nx σ H1
section
def zbfz{c:Expr}{a:List Stmt}{t:TT}{tb:TS}(x:PassesOwn (model X.prog X.w) X.A X.env X.xe)(U:PT X c t)(C:PSs X a tb):PS X (.While c a [] A) (tWhile t tb):=by
 intro m s σ H D I h;obtain⟨W,⟨P,Q⟩,d⟩:=h;refine wpAny_While (codeAny_whileLoop (λn J=>∃y w,Inv X m y w J/\W n y w) ?_ P ⟨σ,H,I,Q⟩);rintro n T ⟨i,H1,S,G⟩;refine xie x (thn (U m T i H1 _ S (d n i H1 G)) λb E p=>?_);obtain⟨H2,z,g⟩:=p;cases b with
 |true=>
  obtain⟨N,u,g⟩:=g;rw[if_pos rfl];refine xie x (thn (C m E i H2 _ z g) λf Y j=>?_);cases f with
  |next=>
   obtain⟨e,H3,k,o⟩:=j;obtain⟨l,q,r⟩:=u e H3 o;exact⟨l,q,e,H3,k,r⟩
  |cont=>
   obtain⟨e,H3,k,o⟩:=j;obtain⟨l,q,r⟩:=u e H3 o;exact⟨l,q,e,H3,k,r⟩
  |brk=>exact j
  |ret v=>exact j
 |false=>
  rw[if_neg xgc];exact xmj ⟨i,H2,z,g⟩
end
structure It where
 go:Nat->Hp->Prop
 yld:Nat->Hp->V->Hp->Prop
 stop:Nat->Hp->Prop
def FpOk(X:Cx) (a:List (Addr×Obj)) (H:Hp) (b:Addr):Prop:=
 H b=none/\b≠X.env.locals/\b∉X.fs/\(b∈X.ex\/X.s₀.heap.objs.size<=b)/\(∀x c,X.env.cells.lookup x=some c->c≠b)/\∀p∈X.pn++a,p.1≠b
def Inv.fpOk(I:Inv X aU σ H s)(a:s.heap.objs.size<=b)(d:H' b=none):FpOk X aU H' b:=by
 refine⟨d,xhq (xbo I.lt a),I.nofs a,.inr (xbc I.sz a),λx c e z=>?_,λp f z=>?_⟩
 ·obtain⟨v,q⟩:=I.cell x c e;exact absurd (xbo q.lt (by rw[z];exact a)) (xhf _)
 ·exact absurd (xbo (xbx (I.pin p f).1) (by rw[z];exact a)) (xhf _)
structure Turn (P:Program) (w:World) (K:Fg) (tg:Expr) (J:It) (fp:List Addr) (it:Addr) (tn:Nat->Heap->Prop):Prop where
 mem:it∈fp
 obj:∀i h,tn i h->∀b∈fp,∃o,h.get? b=some o/\∀v,o.data≠.cell v
 keep:∀i h h',tn i h->(∀b∈fp,∀o,h.get? b=some o->h'.get? b=some o)->tn i h'
 item:∀(X:Cx),X.prog=P->X.w=w->X.K=K->X.calm=true->∀(i:Nat) (aU:List (Addr×Obj)) (s:Shared) (σ:St) (H:Hp) (E:Value->Shared->Prop),Inv X aU σ H s->(∀b∈fp,FpOk X aU H b)->tn i s.heap->J.go i H ->
  wpAny (model P w) X.A (pyNext (.ref it)) (λr s1=>∃u,r=some u /\
   wpAny (model P w) X.A (letOwnedTupleGo tg (.ref it) u) (λ_ s2=>∃x H',Inv X aU σ H' s2/\RelV x u/\J.yld i H x H'/\tn (i+1) s2.heap/\∀b∈fp,H' b=none) E s1) E s
 done:∀(X:Cx),X.prog=P->X.w=w->X.K=K->X.calm=true->∀(i:Nat) (aU:List (Addr×Obj)) (s:Shared) (σ:St) (H:Hp) (E:Value->Shared->Prop),Inv X aU σ H s->(∀b∈fp,FpOk X aU H b)->tn i s.heap->J.stop i H ->
  wpAny (model P w) X.A (pyNext (.ref it)) (λr s1=>r=none/\Inv X aU σ H s1) E s
 self:∀(A:Around) (i:Nat) (s:Shared) (Q:Value->Shared->Prop) (E:Value->Shared->Prop),tn i s.heap->Q (.ref it) s->wpAny (model P w) A (pyIter (.ref it)) Q E s
abbrev TI:=St->Hp->(It->Hp->Prop)->Prop
def PIE(X:Cx) (e:List (Addr×Obj)) (σ:St) (i:Expr) (R:It->Hp->Prop) (c:Value) (g:Shared):Prop:=
 ∃(f:Addr) (h:List Addr) (d:Nat->Heap->Prop) (J:It) (a:Hp),c=.ref f/\Inv X e σ a g/\Turn X.prog X.w X.K i J h f d/\d 0 g.heap/\(∀b∈h,FpOk X e a b)/\R J a
def PI(X:Cx) (e a:Expr) (d:TI):Prop:=
 ∀(b:List (Addr×Obj)) (s:Shared) (σ:St) (H:Hp) (R:It->Hp->Prop),Inv X b σ H s->d σ H R ->
  wpAny (model X.prog X.w) X.A (eval a X.env) (λv c=>wpAny (model X.prog X.w) X.A (pyIter v) (PIE X b σ e R) X.xe c) X.xe s
def zbro{M:Model}{s:Shared}(b:s.heap.get? it=some o)(d:o.cls=.type n)(e:o.data=.fields vs)
    (c:["enumerate","zip","dict_itemiterator","dict_reverseitemiterator","odict_iterator","itertools.zip_longest","itertools.pairwise"].contains n=false)(a:Q () s):wpAny M A (letOwnedTupleGo tg (.ref it) u) Q E s:=by
  unfold letOwnedTupleGo;cases tg <;> first
    |exact xbe a
    | (cases u <;> first
        |exact xbe a
        | (refine xba (wpAny_load b ?_)
           rw[d,e];show wpAny M A (if(["enumerate","zip","dict_itemiterator","dict_reverseitemiterator","odict_iterator","itertools.zip_longest","itertools.pairwise"].contains n&&vs[0]?==some (rawInt _))=true then _ else _) Q E s
           rw[if_neg (by intro h; rw[c,Bool.false_and] at h; cases h)]
           exact xbe a))
def Itl(K:Fg) (a:Addr):It:=
 ⟨λi H=>∃b x,SqL K H a b/\b[i]?=some x,λi H x c=>c=H/\∀b,SqL K H a b->b[i]?=some x,λi H=>∃b,SqL K H a b/\b.length<=i⟩
def Itt(K:Fg) (a:Addr):It:=
 ⟨λi H=>∃b x,SqT K H a b/\b[i]?=some x,λi H x c=>c=H/\∀b,SqT K H a b->b[i]?=some x,λi H=>∃b,SqT K H a b/\b.length<=i⟩
noncomputable def Itr(lo:Int) (n:Nat):It:=⟨λi _=>i<n,λi H x a=>a=H/\x=.int (lo+i),λi _=>n<=i⟩
def zzd{P:Program}{w:World}{K:Fg}{tg:Expr}(a it:Addr):Turn P w K tg (Itl K a) [it] it (λi h=>h.IsListIter it a i) where
 mem:=by simp
 obj:=λi h f b g=>by
  have e:b=it:=by simpa using g
  subst e;obtain⟨o,e,c,d⟩:=f;exact⟨o,e,λv z=>by rw[d] at z;cases z⟩
 keep:=λi h l f k=>f.at λo e=>k it (by simp) o e
 item:=by
  intro X r J G hc i Y s σ H E I m f S;subst r J G;obtain⟨xs,x,n,A⟩:=S;obtain⟨q,y,p,hz⟩:=I.list n;obtain⟨u,hu,ru⟩:=y.get A;obtain⟨t,C,f2,T,Q,U⟩:=m it (by simp);refine wpAny_pyNext_list_item f p.isList (x:=u) (by simpa using hu) λl j sb=>?_
  have I1:Inv X Y σ H {s with heap:=l}:=I.turned (t':=s.toks) (λb o g e=>(sb.2 b g).trans e) t C T Q U;obtain⟨o,e,c,d⟩:=id j;exact⟨u,rfl,zbro (s:={s with heap:=l}) e c d (by decide) ⟨x,H,I1,ru,⟨rfl,λys hy=>by rw[I.list_inj hy n];exact A⟩,j,λb g=>(m b g).1⟩⟩
 done:=by
  intro X r J G hc i Y s σ H E I m f S;subst r J G;obtain⟨xs,n,A⟩:=S;obtain⟨q,y,p,hz⟩:=I.list n;obtain⟨t,C,f2,T,Q,U⟩:=m it (by simp);have hl:=y.length;exact wpAny_pyNext_list_end (I.ok.hd hc) f p.isList (by simp;lia) λl eb=>⟨rfl,I.turned (t':=s.toks) (λb o g e=>eb b o g e) t C T Q U⟩
 self:=λ_ _ _ _ _ f h=>wpAny_pyIter_listiter f h
def zui{P:Program}{w:World}{K:Fg}{tg:Expr}(a it:Addr):Turn P w K tg (Itt K a) [it] it (λi h=>h.IsTupleIter it a i) where
 mem:=by simp
 obj:=λi h f b j=>by
  have e:b=it:=by simpa using j
  subst e;obtain⟨o,e,c,d⟩:=f;exact⟨o,e,λv z=>by rw[d] at z;cases z⟩
 keep:=λi h m f k=>f.at λo e=>k it (by simp) o e
 item:=by
  intro X r J G hc i Y s σ H E I n f S;subst r J G;obtain⟨xs,x,q,A⟩:=S;obtain⟨g,y,p,hz⟩:=I.tuple q;obtain⟨u,hu,ru⟩:=y.get A;obtain⟨t,C,f2,T,Q,U⟩:=n it (by simp);refine wpAny_pyNext_tuple_item f (show s.heap.IsTuple a g.toArray from p) (x:=u) (by simpa using hu) λm l sb=>?_
  have I1:Inv X Y σ H {s with heap:=m}:=I.turned (t':=s.toks) (λb o j e=>(sb.2 b j).trans e) t C T Q U;obtain⟨o,e,c,d⟩:=id l;exact⟨u,rfl,zbro (s:={s with heap:=m}) e c d (by decide) ⟨x,H,I1,ru,⟨rfl,λys hy=>by rw[I.tuple_inj hy q];exact A⟩,l,λb j=>(n b j).1⟩⟩
 done:=by
  intro X r J G hc i Y s σ H E I n f S;subst r J G;obtain⟨xs,q,A⟩:=S;obtain⟨g,y,p,hz⟩:=I.tuple q;obtain⟨t,C,f2,T,Q,U⟩:=n it (by simp);have hl:=y.length;exact wpAny_pyNext_tuple_end (I.ok.hd hc) f (show s.heap.IsTuple a g.toArray from p) (by simp;lia) λm eb=>⟨rfl,I.turned (t':=s.toks) (λb o j e=>eb b o j e) t C T Q U⟩
 self:=λ_ _ _ _ _ f h=>wpAny_pyIter_tupleiter f h
def zuj{P:Program}{w:World}{K:Fg}{S:Expr}(it:Addr)(lo:Int)(n:Nat):Turn P w K S (Itr lo n) [it] it (λi h=>IsRangeIter h it (lo+(i:Nat)*1) ((n:Int)-(i:Nat)) 1) where
 mem:=by simp
 obj:=λi h a b c=>by
  have e:b=it:=by simpa using c
  subst e
  exact⟨_,a,λv z=>by
   have T:Data.fields _=Data.cell v:=z
   cases T⟩
 keep:=λi h f a k=>k it (by simp) _ a
 item:=by
  intro X j r p y i C s σ H E I g a u;subst j r p;obtain⟨l,m,Y,x,q,A⟩:=g it (by simp);have W:=Walks.range (prog:=X.prog) (w:=X.w) (I.ok.hd y) it lo 1 n;refine W.item i s _ _ u a λv f G U d Q=>?_
  obtain⟨t,rfl⟩:=U;have I1:Inv X C σ H {s with heap:=f,toks:=G}:=I.turned (λb o c e=>Q b o (by simpa using c) e) l m x q A;refine⟨_,rfl,zbro (s:={ s with heap:=f,toks:=G }) (n:="range_iterator") d rfl rfl (by decide) ⟨.int (lo + i),H,I1,⟨t,?_⟩,⟨rfl,rfl⟩,d,λb c=>(g b c).1⟩⟩
  rw[Int.mul_one]
 done:=by
  intro X j r p y i C s σ H E I g a u;subst j r p;obtain⟨l,m,Y,x,q,A⟩:=g it (by simp);exact wpAny_pyNext_range_end (I.ok.hd y) a (by have:n<=i:=u;lia) λf J=>⟨rfl,I.turned (t':=s.toks) (λb o c e=>J b o c e) l m x q A⟩
 self:=λ_ _ _ _ _ a h=>wpAny_pyIter_rangeiter a h
def iList(K:Fg) (b:TE):TI:=λσ H R=>b σ H λx H1=>∃a,x=.ref a/\(∃c,SqL K H1 a c)/\R (Itl K a) H1
def iTup(K:Fg) (b:TE):TI:=λσ H R=>b σ H λx H1=>∃a,x=.ref a/\(∃c,SqT K H1 a c)/\R (Itt K a) H1
section
def zbdb{l:Expr}{g:TE}(t:PE X l g):PI X y l (iList X.K g):=by
 intro m s σ H R I h;refine thn (t m s σ H _ I h) λv c f=>?_
 obtain⟨x,H1,d,k,n⟩:=f;obtain⟨a,e,⟨w,r⟩,q⟩:=n;subst e;cases k;obtain⟨i,z,p,u⟩:=d.list r;refine xll p.isList ?_;refine⟨c.heap.objs.size,[c.heap.objs.size],_,_,H1,rfl,d.kept (t':=c.toks) λb o e=>xbg _ e,zzd a _,⟨_,xbz _ rfl,rfl,rfl⟩,λb j=>?_,q⟩;have e:b=c.heap.objs.size:=by simpa using j
 subst e;exact d.fpOk (xbl _) (d.hok.fresh (xbl _))
def zbms{l:Expr}{i:TE}(t:PE X l i):PI X y l (iTup X.K i):=by
 intro m s σ H R I h;refine thn (t m s σ H _ I h) λv c g=>?_
 obtain⟨x,H1,d,k,n⟩:=g;obtain⟨a,e,⟨w,r⟩,q⟩:=n;subst e;cases k;obtain⟨f,z,p,u⟩:=d.tuple r;refine xhw (show c.heap.IsTuple a f.toArray from p) ?_;refine⟨c.heap.objs.size,[c.heap.objs.size],_,_,H1,rfl,d.kept (t':=c.toks) λb o e=>xbg _ e,zui a _,⟨_,xbz _ rfl,rfl,rfl⟩,λb j=>?_,q⟩;have e:b=c.heap.objs.size:=by simpa using j
 subst e;exact d.fpOk (xbl _) (d.hok.fresh (xbl _))
end
def zvg{s:Shared}{lo a:Int}{c:Nat}(I:Inv X aU σ H s)(h:-(2^62)<=lo)(k:lo<2^62)(j:-(2^62)<=a)(i:a<2^62)
  (q:R (Itr lo (a-lo).toNat) H):wpAny (model X.prog X.w) X.A (pyIter (.ref s.heap.objs.size)) (PIE X aU σ tg R) E { s with heap:=s.heap.push { cls:=.type "range",data:=.fields #[.int lo t,.int a u,.int 1 v] },toks:=c }:=by
 refine wpAny_pyIter_range (IsRange.new ..) (small_one h k j i) ?_;have d:Inv X aU σ H { s with heap:=s.heap.push { cls:=.type "range",data:=.fields #[.int lo t,.int a u,.int 1 v] },toks:=c }:=I.kept λb o e=>xbg _ e
 refine⟨(s.heap.push { cls:=.type "range",data:=.fields #[.int lo t,.int a u,.int 1 v] }).objs.size,[(s.heap.push { cls:=.type "range",data:=.fields #[.int lo t,.int a u,.int 1 v] }).objs.size],_,_,H,rfl,
  d.kept (t':=c) λb o e=>xbg _ e,zuj _ lo (a-lo).toNat,?_,λb f=>?_,q⟩
 ·have l:lo+((0:Nat):Int)*1=lo:=by simp
  have g:(((a-lo).toNat:Nat):Int)-((0:Nat):Int)=Builtin.Range.rangeSize lo a 1:=by rw[rangeSize_one];split<;>lia
  show IsRangeIter _ _ (lo+((0:Nat):Int)*1) ((((a-lo).toNat:Nat):Int)-((0:Nat):Int)) 1;rw[l,g];exact xbz _ rfl
 ·have e:b=(s.heap.push { cls:=.type "range",data:=.fields #[.int lo t,.int a u,.int 1 v] }).objs.size:=by simpa using f
  subst e;exact d.fpOk (xbl _) (d.hok.fresh (xbl _))
def iRng1(a:TA):TI:=λσ H R=>a σ H λb H1=>∃j:Int,b=[.int j]/\-(2^62)<=j/\j<2^62/\R (Itr 0 j.toNat) H1
def iRng2(a:TA):TI:=λσ H R=>a σ H λb H1=>∃i j:Int,b=[.int i,.int j]/\(-(2^62)<=i/\i<2^62/\-(2^62)<=j/\j<2^62)/\R (Itr i (j-i).toNat) H1
section
def zbaa{a:Expr}{f:TA}{p b:Pos}(g:Gl X "range")(l:X.mg "range"=none)(i:PA X [a] f)(n:starEach [a] X.env=[(false,eval a X.env)]:=by rfl):PI X y (.Call (.Name "range" p) [a] [] b) (iRng1 f):=by
 intro m s σ H R I h;refine Call_ (zpv I g l boot_range (xhr (thn (i b m s σ H _ I h) λx v c=>?_) n rfl));obtain⟨w,H1,u,k,d⟩:=c;obtain⟨j,e,d,o,q⟩:=d;subst e;cases k with
 |cons r rr=>
  cases rr;obtain⟨t,rfl⟩:=r;exact call_range_1 (zvg u (by lia) (by lia) d o (by simpa using q))
def zzz{a b:Expr}{g:TA}{p c:Pos}(y:Gl X "range")(w:X.mg "range"=none)(o:PA X [a,b] g)(m:starEach [a,b] X.env=[(false,eval a X.env),(false,eval b X.env)]:=by rfl)(d:starEach [b] X.env=[(false,eval b X.env)]:=by rfl):
  PI X A (.Call (.Name "range" p) [a,b] [] c) (iRng2 g):=by
 intro l s σ H R I h;refine Call_ (zpv I y w boot_range (xhr (thn (o c l s σ H _ I h) λC G ⟨E,H1,x,k,f⟩=>?_) (by rw[m,d]) (by rw[d];rfl)));obtain⟨i,j,e,⟨f,u,v,n⟩,q⟩:=f;subst e;cases k with
 |cons r rr=>
  cases rr with
  |cons r' rr=>
   cases rr;obtain⟨t,rfl⟩:=r;obtain⟨z,rfl⟩:=r';exact call_range_2 (zvg x f u v n q)
end
def tFor(e:TI) (g:TG) (tb:TS):TS:=λD σ H=>e σ H λJ H1=>∃W:Nat->Nat->St->Hp->Prop,(∃m,W 0 m σ H1)/\∀i m σ H,W i m σ H ->
 (J.stop i H/\D.nx σ H)\/(J.go i H/\∃N:St->Hp->Prop,(∀b a,N b a->∃c,c<m/\W (i+1) c b a)/\∀x a,J.yld i H x a->g x σ a λd H2=>tb {D with nx:=N,ct:=N,bk:=D.nx} d H2)
noncomputable def pinsAt(a:List Addr) (h:Heap):List (Addr×Obj):=a.filterMap λb=>(h.get? b).map λo=>(b,o)
def zgt{h:Heap}(a:b∈fp)(e:h.get? b=some o):(b,o)∈pinsAt fp h:=List.mem_filterMap.mpr ⟨b,a,by rw[e];rfl⟩
def zbak(d:p∈pinsAt fp h):p.1∈fp/\h.get? p.1=some p.2:=by
 obtain⟨b,a,e⟩:=List.mem_filterMap.mp d;cases q:h.get? b with
 |none=>rw[q] at e;cases e
 |some o=>
  rw[q] at e;have c:(b,o)=p:=xda e;subst c;exact⟨a,q⟩
def Inv.pinned(I:Inv X aU σ H s)(h:∀b∈f,FpOk X aU H b)(g:∀b∈f,∃o,s.heap.get? b=some o/\∀v,o.data≠.cell v):Inv X (aU++pinsAt f s.heap) σ H s:=
 I.pins_of λp k=>(xcc.mp k).elim (λz=>I.pin p (xdw _ z)) λz=>by
  obtain⟨a,e⟩:=zbak z;obtain⟨i,j,l,_⟩:=h p.1 a;obtain⟨o,c,d⟩:=g p.1 a;rw[e] at c;cases c
  exact⟨e,i,j,l,d⟩
def Inv.unpinned(I:Inv X (aU++pl) σ H s):Inv X aU σ H s:=I.pins_of λp a=>I.pin p (xdw _ (xii _ a))
section
def zbmj{k:Expr}{w:List Stmt}{wi:TI}{g:TG}{tb:TS}{a0:Pos}(E:PassesOwn (model X.prog X.w) X.A X.env X.xe)(hc:X.calm=true)(hi:PI X tg k wi)(hg:PG X tg g)(j:PSs X w tb)
  (hs:∀x,foldedSetIterable k X.env x=pure x:=by intro _;rfl):PS X (.For tg k w [] a0) (tFor wi g tb):=by
 intro y s σ H D I h;refine wpAny_For (thn (hi y s σ H _ I h) λv s1 h1=>thn h1 λa4 s2 h2=>?_) hs;obtain⟨it,Y,tn,J,H2,e,I2,T,a3,f2,W,⟨m0,w0⟩,A⟩:=h2;subst e;have q:∀{H'},(∀b∈Y,H' b=none)->∀b∈Y,FpOk X y H' b:=λhn b j=>⟨hn b j,(f2 b j).2⟩
 refine codeAny_forLoop_any (λn s'=>∃i P H',Inv X y P H' s'/\tn i s'.heap/\(∀b∈Y,H' b=none)/\W i n P H') ?_ m0 ⟨0,σ,H2,I2,a3,λb j=>(f2 b j).1,w0⟩;rintro n s3 ⟨i,S,H3,I3,C,Q,w3⟩;rcases A i n S H3 w3 with⟨U,qn⟩|⟨go,N,hN,step⟩
 ·refine xie E (thn (T.done X rfl rfl rfl hc i y s3 S H3 X.xe I3 (q Q) C U) λr s4 a=>?_);obtain⟨hr,I4⟩:=a;subst hr;exact xmj ⟨S,H3,I4,qn⟩
 ·refine xie E (thn (T.item X rfl rfl rfl hc i y s3 S H3 X.xe I3 (q Q) C go) λr s4 a=>?_);obtain⟨u,hr,h4⟩:=a;subst hr;refine xie E (thn h4 λ_ s5 a=>?_);obtain⟨x,H5,I5,r5,y5,z,a1⟩:=a;have a2:=I5.pinned (q a1) (T.obj _ _ z);refine xie E (thn (hg _ s5 S H5 x u _ a2 r5 (step x H5 y5)) λ_ s6 a=>?_);obtain⟨σ6,H6,I6,q6⟩:=a;refine xie E (thn (j _ s6 σ6 H6 _ I6 q6) λf s7 t=>?_);have again:∀{c p},Inv X (y++pinsAt Y s5.heap) c p s7->N c p->∃m,m<n/\∃i P H',Inv X y P H' s7/\tn i s7.heap/\(∀b∈Y,H' b=none)/\W i m P H':=λ{c p} l G=>by
   obtain⟨m',hm,w7⟩:=hN c p G;refine⟨m',hm,i+1,c,p,l.unpinned,T.keep _ _ _ z λb j o e=>(l.pin (b,o) (xdw _ (xdw _ (zgt j e)))).1,λb j=>?_,w7⟩;obtain⟨o,e,d⟩:=T.obj _ _ z b j;exact(l.pin (b,o) (xdw _ (xdw _ (zgt j e)))).2.1
  cases f with
  |next=>obtain⟨c,p,l,G⟩:=t;exact again l G
  |cont=>obtain⟨c,p,l,G⟩:=t;exact again l G
  |brk=>obtain⟨c,p,l,t⟩:=t;exact⟨c,p,l.unpinned,t⟩
  |ret v=>obtain⟨x7,c,p,l,r7,t⟩:=t;exact⟨x7,c,p,l.unpinned,r7,t⟩
end
abbrev R2:=V->V->Hp->VK->Prop
def OpR(X:Cx) (f:Value->Value->Sem Value) (r:R2):Prop:=
 ∀(a:List (Addr×Obj)) (s:Shared) (σ:St) (H:Hp) (x y:V) (v u:Value) (Q:VK),Inv X a σ H s->RelV x v->RelV y u->r x y H Q ->
  wpAny (model X.prog X.w) X.A (f v u) (EP X a σ Q) X.xe s
def UnR(X:Cx) (f:Value->Sem Value) (r:V->Hp->VK->Prop):Prop:=
 ∀(a:List (Addr×Obj)) (s:Shared) (σ:St) (H:Hp) (x:V) (v:Value) (Q:VK),Inv X a σ H s->RelV x v->r x H Q ->
  wpAny (model X.prog X.w) X.A (f v) (EP X a σ Q) X.xe s
def CallR(X:Cx) (f:Value) (r:List V->Hp->VK->Prop):Prop:=
 ∀(a:List (Addr×Obj)) (s:Shared) (σ:St) (H:Hp) (b:List V) (c:List Value) (Q:VK),Inv X a σ H s->Vals b c->r b H Q ->
  wpAny (model X.prog X.w) X.A (call f c) (EP X a σ Q) X.xe s
def TruR(X:Cx) (r:V->Hp->(Bool->Hp->Prop)->Prop):Prop:=
 ∀(a:List (Addr×Obj)) (s:Shared) (σ:St) (H:Hp) (x:V) (v:Value) (Q:Bool->Hp->Prop),Inv X a σ H s->RelV x v->r x H Q ->
  wpAny (model X.prog X.w) X.A (truthy v) (TP X a σ Q) X.xe s
def tOp(r:R2) (a tb:TE):TE:=λσ H Q=>a σ H λx H1=>tb σ H1 λy H2=>r x y H2 Q
def tUn(r:V->Hp->VK->Prop) (a:TE):TE:=λσ H Q=>a σ H λx H1=>r x H1 Q
def rI(C:Int->Int->Prop) (g:Int->Int->V):R2:=λx y H Q=>∃i j,x=.int i/\y=.int j/\C i j/\Q (g i j) H
def rI0(g:Int->Int->V):R2:=λx y H Q=>∃i j,x=.int i/\y=.int j/\Q (g i j) H
def rU(g:Int->V):V->Hp->VK->Prop:=λx H Q=>∃i,x=.int i/\Q (g i) H
section
def binT(k:PE X a t)(g:PE X b tb){d:List (Addr×Obj)}{s:Shared}{σ:St}{H:Hp}{R:V->V->Hp->Prop}(I:Inv X d σ H s)
  (h:t σ H λx H1=>tb σ H1 λy H2=>R x y H2){Q:Value->Shared->Prop}{f:Value->Value->Sem Value}
  (i:∀v u e x y H2,Inv X d σ H2 e->RelV x v->RelV y u->R x y H2->wpAny (model X.prog X.w) X.A (f v u) Q X.xe e):
  wpAny (model X.prog X.w) X.A (eval a X.env) (λv j=>wpAny (model X.prog X.w) X.A (eval b X.env) (λu q=>wpAny (model X.prog X.w) X.A (f v u) Q X.xe q) X.xe j) X.xe s:=by
 refine thn (k d s σ H _ I h) λv n c=>?_
 obtain⟨x,H1,w,m,o⟩:=c;refine thn (g d n σ H1 _ w o) λu e c=>?_
 obtain⟨y,H2,r,l,p⟩:=c;exact i v u e x y H2 r m l p
end
section
def zbxp{c:Operator}{r:R2}(f:OpR X (binaryOp c) r)(i:PE X a n)(e:PE X b tb):PE X (.BinOp a c b m) (tOp r n tb):=by
 intro j s σ H Q I h;exact wpAny_BinOp (binT i e I h λv u l x y H2 k d g q=>f j l σ H2 x y v u Q k d g q)
end
section
def zbxo{c:UnaryOp}{r:V->Hp->VK->Prop}(d:UnR X (unaryOp c) r)(e:PE X a j):PE X (.UnaryOp c a k) (tUn r j):=by
 intro b s σ H Q I h;exact UnaryOp_ (thn (e b s σ H _ I h) λv g ⟨x,H1,l,f,i⟩=>d b g σ H1 x v Q l f i)
end
section
def opI{f:Value->Value->Sem Value}{C:Int->Int->Prop}{g:Int->Int->Int}
  (rule:∀(i j:Int) (t u:Tok) (s:Shared) (Q:Value->Shared->Prop) (E:Value->Shared->Prop),C i j->Q (.int (g i j) s.toks) {s with toks:=s.toks+1}->wpAny (model X.prog X.w) X.A (f (.int i t) (.int j u)) Q E s):
  OpR X f (rI C λi j=>.int (g i j)):=by
 intro e s σ H x y v u Q I a b h;obtain⟨i,j,rfl,rfl,d,q⟩:=h;obtain⟨t,rfl⟩:=a;obtain⟨c,rfl⟩:=b;exact rule i j t c s _ _ d ⟨.int (g i j),H,I.tok _,⟨_,rfl⟩,q⟩
def opI0{f:Value->Value->Sem Value}{g:Int->Int->Int}
  (rule:∀(i j:Int) (t u:Tok) (s:Shared) (Q:Value->Shared->Prop) (E:Value->Shared->Prop),Q (.int (g i j) s.toks) {s with toks:=s.toks+1}->wpAny (model X.prog X.w) X.A (f (.int i t) (.int j u)) Q E s):
  OpR X f (rI0 λi j=>.int (g i j)):=by
 intro d s σ H x y v u Q I a c h;obtain⟨i,j,rfl,rfl,q⟩:=h;obtain⟨t,rfl⟩:=a;obtain⟨b,rfl⟩:=c;exact rule i j t b s _ _ ⟨.int (g i j),H,I.tok _,⟨_,rfl⟩,q⟩
def opB0{f:Value->Value->Sem Value}{g:Int->Int->Bool}
  (rule:∀(i j:Int) (t u:Tok) (s:Shared) (Q:Value->Shared->Prop) (E:Value->Shared->Prop),Q (.bool (g i j)) s->wpAny (model X.prog X.w) X.A (f (.int i t) (.int j u)) Q E s):
  OpR X f (rI0 λi j=>.bl (g i j)):=by
 intro d s σ H x y v u Q I a c h;obtain⟨i,j,rfl,rfl,q⟩:=h;obtain⟨t,rfl⟩:=a;obtain⟨b,rfl⟩:=c;exact rule i j t b s _ _ ⟨.bl (g i j),H,I,rfl,q⟩
end
noncomputable def CPow(i j:Int):Prop:=0<=j/\j<=1000000/\i.natAbs<2^64
noncomputable def CMul(i j:Int):Prop:=(-(2^64)<i/\i<2^64)\/(-(2^64)<j/\j<2^64)
def CMul.ok(h:CMul i j):IntMulOk i j:=by
 rcases h with⟨b,a⟩|⟨b,a⟩
 ·exact .of_left (intBits_le_64 b a)
 ·exact .of_right (intBits_le_64 b a)
def zbtl:OpR X (binaryOp .Add) (rI0 λi j=>.int (i+j)):=opI0 λ_ _ _ _ _ _ _ q=>add_int q
def zbtg:OpR X (binaryOp .Sub) (rI0 λi j=>.int (i-j)):=opI0 λ_ _ _ _ _ _ _ q=>sub_int q
section
def zhk:OpR X (binaryOp .Mult) (rI CMul λi j=>.int (i*j)):=opI λ_ _ _ _ _ _ _ a q=>mul_int q a.ok
end
def ztj:OpR X (binaryOp .Mod) (rI (λ_ j=>0<j) λi j=>.int (i%j)):=opI λi j _ _ _ _ _ a q=>by
 have b:(0:Int)<j:=a;exact mod_int' (by lia) (by rw[Int.fmod_eq_emod_of_nonneg i (by lia)];exact q)
section
def zbth:OpR X (binaryOp .Pow) (rI CPow λi j=>.int (i^j.toNat)):=opI λ_ _ _ _ _ _ _ a q=>pow_int_small a.1 a.2.1 a.2.2 q
end
def zbad:OpR X (binaryOp .BitAnd) (rI0 λi j=>.int (Builtin.bitAnd i j)):=opI0 λ_ _ _ _ _ _ _ q=>and_int q
section
def unI{f:Value->Sem Value}{g:Int->Int}
  (rule:∀(i:Int) (t:Tok) (s:Shared) (Q:Value->Shared->Prop) (E:Value->Shared->Prop),Q (.int (g i) s.toks) {s with toks:=s.toks+1}->wpAny (model X.prog X.w) X.A (f (.int i t)) Q E s):
  UnR X f (rU λi=>.int (g i)):=by
 intro b s σ H x v Q I a h;obtain⟨i,rfl,q⟩:=h;obtain⟨t,rfl⟩:=a;exact rule i t s _ _ ⟨.int (g i),H,I.tok _,⟨_,rfl⟩,q⟩
end
def zbrv:UnR X (unaryOp .USub) (rU λi=>.int (-i)):=unI λ_ _ _ _ _ q=>neg_int q
def zbxt:OpR X (compareOp .Lt) (rI0 λi j=>.bl (decide (i<j))):=opB0 λ_ _ _ _ _ _ _ q=>lt_int q
def zbnk:OpR X (compareOp .LtE) (rI0 λi j=>.bl (decide (i<=j))):=opB0 λ_ _ _ _ _ _ _ q=>le_int q
def zbrl:OpR X (compareOp .Gt) (rI0 λi j=>.bl (decide (j<i))):=opB0 λ_ _ _ _ _ _ _ q=>gt_int q
def zbwx:OpR X (compareOp .GtE) (rI0 λi j=>.bl (decide (j<=i))):=opB0 λ_ _ _ _ _ _ _ q=>ge_int q
def OpR.or(h:OpR X f r)(d:OpR X f r'):OpR X f (λx y H Q=>r x y H Q\/r' x y H Q):=by
 intro b s σ H x y v u Q I a c q;rcases q with q|q
 ·exact h b s σ H x y v u Q I a c q
 ·exact d b s σ H x y v u Q I a c q
def nomark(b:Expr) (h:op≠.In:=by decide)(a:op≠.NotIn:=by decide):behindInMarks op b=false:=by
 have c:(op==CmpOp.In)=false:=by cases op<;>first|rfl|exact absurd rfl h
 have d:(op==CmpOp.NotIn)=false:=by cases op<;>first|rfl|exact absurd rfl a
 cases b<;>simp[behindInMarks,c,d]
def zbna(e:OpR X (compareOp op) r)(g:PE X a ta)(d:PE X b tb)(i:behindInMarks op b=false):PE X (.Compare a [op] [b] pos) (tOp r ta tb):=by
 intro j s σ H Q I h;exact wpAny_Compare1 (binT g d I h λv u l x y H2 k c f q=>e j l σ H2 x y v u Q k c f q) i
def tTest(t:TE):TT:=λσ H Q=>t σ H λx a=>∃k,x=.bl k/\Q k a
section
def zbmf{f:CmpOp}{r:R2}(n:OpR X (compareOp f) r)(o:PE X a P)(m:PE X b tb)(A:behindInMarks f b=false):PT X (.Compare a [f] [b] l) (tTest (tOp r P tb)):=by
 intro d s σ H Q I h
 refine wpAny_isTrue_Compare1 (thn (o d s σ H _ I h) λv G ⟨x,H1,E,j,J⟩=>thn (m d G σ H1 _ E J) λu t ⟨y,H2,C,i,q⟩=>
  thn (n d t σ H2 x y v u _ C j i q) λc S ⟨z,H3,g,p,k,e,w⟩=>?_) A
 subst e;cases p;exact xfu ⟨H3,g,w⟩
end
def tChain(r b:R2) (e tb c:TE):TE:=λσ H Q=>e σ H λx H1=>tb σ H1 λy H2=>r x y H2 λz H3=>∃k,z=.bl k /\
 (if k=true then c σ H3 λa d=>b y a d Q else Q (.bl false) H3)
section
def zbfw{l f:CmpOp}{r n:R2}(G:OpR X (compareOp l) r)(i:OpR X (compareOp f) n)(S:PE X a ta)(E:PE X b tb)(hc:PE X c t)
  (hm:lastMarks [l,f] [b,c]=false:=by with_unfolding_all rfl):PT X (.Compare a [l,f] [b,c] C) (tTest (tChain r n ta tb t)):=by
 intro g s σ H Q I h
 refine isTrue_chain (thn (S g s σ H _ I h) λv s1 ⟨x,H1,I1,w,q1⟩=>test_link (thn (E g s1 σ H1 _ I1 q1) λu s2 ⟨y,H2,I2,o,q2⟩=>
  thn (G g s2 σ H2 x y v u _ I2 w o q2) λd s3 ⟨z,H3,m,U,k,e,p⟩=>?_)) hm
 subst e;cases U;refine xfu ?_;cases k with
 |false=>
  obtain⟨k',e',q'⟩:=p;cases e';exact ite_ff ⟨H3,m,q'⟩
 |true=>
  refine ite_tt (test_last (thn (hc g s3 σ H3 _ m p) λJ s4 ⟨T,H4,q,Y,A⟩=>thn (i g s4 σ H4 y T u J _ q o Y A) λd' s5 j=>?_));obtain⟨z2,H5,I5,r5,k2,P,q5⟩:=j;subst P;cases r5;exact xfu ⟨H5,I5,q5⟩
end
def TruV(K:Fg) (x:V) (H:Hp) (k:Bool):Prop:=
 match x with
 |.non=>k=false
 |.bl b=>k=b
 |.int i=>k=(i != 0)
 |.str y=>y.length<=sizeLine/\k=((y.length:Int) != 0)
 |.byt y=>y.size<=sizeLine/\k=((y.size:Int) != 0)
 |.ref p=>(∃c,SqL K H p c/\k=!c.isEmpty)\/(∃c,SqT K H p c/\k=!c.isEmpty)\/∃a,H p=some (.dK a)/\k=!a.isEmpty
 |_=>False
def zwv{κ:Type}{a:List (κ×V)}{b:List (κ×Value)}(r:KV a b):(!b.isEmpty)=!a.isEmpty:=by
 cases r<;>rfl
def zob(r:Vals xs its):(!its.toArray.isEmpty)=!xs.isEmpty:=by
 cases r<;>simp
def line63:(sizeLine:Nat)<2^63:=by rw[xil];decide
section
def zbrw:TruR X (λx H Q=>∃k,TruV X.K x H k/\Q k H):=by
 intro z s σ H x v Q I g h;obtain⟨k,e,q⟩:=h;have C:=line63;have A:sizeLine=16777216:=xil;cases x with
 |non=>
  cases g;have a:k=false:=e;subst a;exact truthy_none ⟨H,I,q⟩
 |bl b=>
  cases g;have a:k=b:=e;subst a;exact xfu ⟨H,I,q⟩
 |int i=>
  obtain⟨t,rfl⟩:=g;have a:k=(i != 0):=e;subst a;exact PySem.P.truthy_int ⟨H,I,q⟩
 |str y=>
  obtain⟨t,rfl⟩:=g;obtain⟨u,a⟩:y.length<=sizeLine/\k=((y.length:Int) != 0):=e;subst a;exact PySem.P.truthy_str (by lia) ⟨H,I.tok _,q⟩
 |byt y=>
  obtain⟨t,rfl⟩:=g;obtain⟨u,a⟩:y.size<=sizeLine/\k=((y.size:Int) != 0):=e;subst a;exact W.truthy_bytes (by lia) ⟨H,I.tok _,q⟩
 |ref p=>
  cases g;have a:(∃f,SqL X.K H p f/\k=!f.isEmpty)\/(∃f,SqT X.K H p f/\k=!f.isEmpty)\/∃c,H p=some (.dK c)/\k=!c.isEmpty:=e
  rcases a with⟨f,j,a⟩|⟨f,j,a⟩|⟨c,j,a⟩
  ·subst a;obtain⟨l,r,n,o⟩:=I.list j;have d:=r.length;exact wpAny_truthy_list n.isList (by simp only[xbw];lia) ⟨H,I.tok _,by rw[zob r];exact q⟩
  ·subst a;obtain⟨l,r,n,o⟩:=I.tuple j;have d:=r.length;exact truthy_tuple n (by simp only[xbw];lia) ⟨H,I.tok _,by rw[zob r];exact q⟩
  ·subst a;obtain⟨o,w,vs,r,m⟩:c.length<=sizeLine/\(p==sysModules)=false/\∃vs,KV c vs/\s.heap.DictOf (mixKind X.prog X.w) p vs:=I.hok p _ j
   have d:c.length=vs.length:=xiv r;exact wpAny_truthy_dict w m (by lia) ⟨H,I.tok _,by rw[zwv r];exact q⟩
 |_=>exact(show False from e).elim
end
section
def zvn(e:PE X a l)(i:∀b,isTrue a X.env b=(do let v ←b;standAt a.pos;holding [v] (truthy v))):
  PT X a (λσ H Q=>l σ H λx c=>∃k,TruV X.K x c k/\Q k c):=by
 intro d s σ H Q I h;exact isTrue_plain (thn (e d s σ H _ I h) λv g ⟨x,H1,m,f,j⟩=>zbrw d g σ H1 x v Q m f j) (i _)
end
def zvt:OpR X (binaryOp .Add) (λx y H Q=>∃i j,x=.str i/\y=.str j/\i.length+j.length<=sizeLine/\Q (.str (i++j)) H):=by
 intro e s σ H x y v u Q I a b h;obtain⟨i,j,rfl,rfl,c,q⟩:=h;obtain⟨t,rfl⟩:=a;obtain⟨d,rfl⟩:=b;exact add_str (λd f=>⟨.str (i++j),H,I.tok _,⟨_,rfl⟩,q⟩) c
def vals1(r:Vals [x] us):∃u,us=[u]/\RelV x u:=by
 cases r with
 |cons r1 r2=>cases r2;exact⟨_,rfl,r1⟩
def vals2(r:Vals [x,y] us):∃u w',us=[u,w']/\RelV x u/\RelV y w':=by
 cases r with
 |cons r1 r2=>
  cases r2 with
  |cons r3 r4=>cases r4;exact⟨_,_,rfl,r1,r3⟩
def zbjx:CallR X (.builtin "abs") (λa H Q=>∃ i,a=[.int i]/\Q (.int (if i<0 then -i else i)) H):=by
 intro c s σ H a d Q I r h;obtain⟨i,rfl,q⟩:=h;obtain⟨u,rfl,t,rfl⟩:=vals1 r;exact call_abs_int λu b=>⟨.int (if i<0 then -i else i),H,I.tok _,⟨_,rfl⟩,q⟩
def zir{X:Cx}(b:X.calm=true):CallR X (.builtin "min") (λa H Q=>∃ i j,a=[.int i,.int j]/\Q (.int (if j<i then j else i)) H):=by
 intro f s σ H a g Q I r h;obtain⟨i,j,rfl,q⟩:=h;obtain⟨u,d,rfl,⟨t,rfl⟩,⟨e,rfl⟩⟩:=vals2 r;refine min_two_ints (I.ok.hd b) λc l k=>⟨_,H,I.kept k,?_,q⟩
 by_cases hj:j<i
 ·rw[if_pos hj,if_pos hj];exact⟨_,rfl⟩
 ·rw[if_neg hj,if_neg hj];exact⟨_,rfl⟩
def zmv:CallR X (.type "int") (λa H Q=>(∃ i,a=[.int i]/\Q (.int i) H)\/∃ k,a=[.bl k]/\Q (.int (if k then 1 else 0)) H):=by
 intro c s σ H a d Q I r h;rcases h with⟨i,rfl,q⟩|⟨k,rfl,q⟩
 ·obtain⟨u,rfl,t,rfl⟩:=vals1 r;exact call_int_int ⟨.int i,H,I,⟨_,rfl⟩,q⟩
 ·obtain⟨u,rfl,b⟩:=vals1 r;cases b;exact call_int_bool ⟨.int (if k then 1 else 0),H,I.tok _,⟨_,rfl⟩,q⟩
structure ObjM (h:Heap) (x dx C:Addr) (mA:Str->Option Value):Prop where
 obj:h.get? x=some (W.instObj C dx)
 ns:h.Ns1 dx mA
 ne:dx≠x
def zbas{h:Heap}(n:h.Ns1 dx mA):∃f,h.get? dx=some f/\∀b,W.lookIn b f=some (mA b):=by
 obtain⟨o,d,p,i,j,g,_,l⟩:=n;refine⟨o,i,λb=>?_⟩;have e:=l b;unfold nsFind findBy at e;rw[←Array.find?_toList] at e;unfold W.lookIn;rw[j];dsimp only;split
 ·rename_i y q;rw[q] at e;exact congrArg some e
 ·rename_i q;rw[q] at e;have a:d.toList.any (·.refKey)=false:=by
   rw[List.any_eq_false];intro y k;obtain⟨z,t,c⟩:=g y (xlz.mp k);simp[DictEntry.refKey,c]
  have m:¬ d.toList.any (·.refKey)=true:=by rw[a];exact xgc
  rw[if_neg m];exact congrArg some e
def ObjM.look(I:ObjM h x dx C mA):∃b,W.InstAt h x (W.instObj C dx) C (some b)/\∀a,W.lookIn a b=some (mA a):=
 let ⟨b,ho,hl⟩:=zbas I.ns
 ⟨b,⟨I.obj,rfl,rfl,ho⟩,hl⟩
def RelO.some_of(r:RelO (some v) o):∃u,o=some u/\RelV v u:=by
 cases o with
 |none=>exact(show False from r).elim
 |some u=>exact⟨u,rfl,r⟩
def zboz(c:HOk P w H h)(e:H a=some (.ins C dx fs)):∃b,ObjM h a dx C b/\(∀f,RelO (fs.lookup f) (b f))/\PySem.Within b (fs.map (·.1))/\fs.length<=1000/\H dx=some (.own a):=by
 obtain⟨d,z,g,i,b,n,r,q⟩:=(show ObjOk P w H h a (.ins C dx fs) from c a _ e)
 exact⟨b,⟨i,n,g⟩,r,q,z,d⟩
structure Cls (K:Fg) (C:Addr):Prop where
 pg:W.plainGet K C Str.empty=true
 hd:W.hasDictIn K C=true
 po:W.plainOver K C=true
 sa:W.findIn K (.ref C) "__setattr__"=some (some (.builtin "object.__setattr__"))
def Cls.get{K:Fg}{C:Addr}(c:Cls K C)(f:Str):W.plainGet K C f=true:=c.pg
inductive TyOf (K:Fg) (H:Hp):V->Value->Prop where
 |non:TyOf K H .non (.type "NoneType")
 |bl (x:Bool):TyOf K H (.bl x) (.type "bool")
 |int (i:Int):TyOf K H (.int i) (.type "int")
 |str (x:Str):TyOf K H (.str x) (.type "str")
 |flt (x:UInt64):TyOf K H (.flt x) (.type "float")
 |lst {a:Addr}{xs:List V}(e:H a=some (.lst xs)):TyOf K H (.ref a) (.type "list")
 |frz {a:Addr}{o:Obj}{xs:List V}(e:H a=some (.frz o (.lst xs))):TyOf K H (.ref a) (.type "list")
 |tup {a:Addr}{xs:List V}(e:H a=some (.tup xs)):TyOf K H (.ref a) (.type "tuple")
 |dK {a:Addr}{kvs:List (Key×V)}(e:H a=some (.dK kvs)):TyOf K H (.ref a) (.type "dict")
 |dT {a:Addr}{kvs:List (List Key×V)}(e:H a=some (.dT kvs)):TyOf K H (.ref a) (.type "dict")
 |ins {a C dx:Addr}{fs:List (Str×V)}(e:H a=some (.ins C dx fs)) (cl:Cls K C) (ha:W.findIn K (.ref C) "__class__"=some (some (.builtin "object.__class__")))
  (hn:W.specialIn K (.builtin "object.__class__") "__get__"=some (some (.builtin "getset_descriptor.__get__")))(htk:W.takesIn K (.builtin "object.__class__")=some true)
  (hm:W.mroIn K C (.type "object")=some true):TyOf K H (.ref a) (.ref C)
def zbbc(I:Inv X aU σ H s)(d:RelV x u)(r:TyOf X.K H x t)(e:W.kitOne X.K t c=some b)(h:∀m,Q (.bool b) {s with toks:=m}):
  wpAny (model X.prog X.w) A (call (.builtin "isinstance") [u,c]) Q E s:=by
 cases r with
 |non=>cases(show u=Value.none from d);exact xfn W.kitx_none I.kIn True.intro e (λz=>nomatch z) h
 |bl y=>cases(show u=Value.bool y from d);exact xfn W.kitx_bool I.kIn True.intro e (λz=>nomatch z) h
 |int i=>obtain⟨t,q⟩:=(show ∃t,u=Value.int i t from d);cases q;exact xfn W.kitx_int I.kIn True.intro e (λz=>nomatch z) h
 |str y=>obtain⟨t,q⟩:=(show ∃t,u=Value.str y t from d);cases q;exact xfn W.kitx_str I.kIn True.intro e (λz=>nomatch z) h
 |flt y=>obtain⟨t,q⟩:=(show ∃t,u=Value.float y t from d);cases q;exact xfn W.kitx_float I.kIn True.intro e (λz=>nomatch z) h
 |@lst a g ea=>
  cases(show u=Value.ref a from d);obtain⟨_,_,n,_,f⟩:=(show ObjOk X.prog X.w H s.heap a (.lst g) from I.hok a _ ea)
  exact xfn W.kitx_list I.kIn ⟨_,f,rfl⟩ e (λz=>nomatch z) h
 |@frz a ob g ea=>
  cases(show u=Value.ref a from d);obtain⟨_,_,_,n,_,f⟩:=(show ObjOk X.prog X.w H s.heap a (.frz ob (.lst g)) from I.hok a _ ea)
  exact xfn W.kitx_list I.kIn ⟨_,f,rfl⟩ e (λz=>nomatch z) h
 |@tup a g ea=>
  cases(show u=Value.ref a from d);obtain⟨_,_,_,p⟩:=(show ObjOk X.prog X.w H s.heap a (.tup g) from I.hok a _ ea)
  obtain⟨o,f,j,_⟩:=p;exact xfn W.kitx_tuple I.kIn ⟨o,f,j⟩ e (λz=>nomatch z) h
 |@dK a kvs ea=>
  cases(show u=Value.ref a from d);obtain⟨_,_,w,_,p⟩:=(show ObjOk X.prog X.w H s.heap a (.dK kvs) from I.hok a _ ea)
  obtain⟨o,l,k,f,j,_⟩:=p;exact xfn W.kitx_dict I.kIn ⟨o,f,j.1⟩ e (λz=>nomatch z) h
 |@dT a kvs ea=>
  cases(show u=Value.ref a from d);obtain⟨_,_,g,_,o,l,k,f,j,_⟩:=(show ObjOk X.prog X.w H s.heap a (.dT kvs) from I.hok a _ ea)
  exact xfn W.kitx_dict I.kIn ⟨o,f,j.1⟩ e (λz=>nomatch z) h
 |@ins a C dx fs ea cl ha hn htk hm=>
  cases(show u=Value.ref a from d);obtain⟨v,O,_⟩:=zboz I.hok ea;obtain⟨G,J,_⟩:=O.look;exact xfn (W.kitx_own (cl.get _) cl.hd ha hn htk hm) I.kIn J e (λz=>nomatch z) h
structure Room (k:Nat) (A:Around):Prop where
 hd:A.handled=none
 dp:A.depth+3*k+5<recursionLimit
 un:A.units+16*k+200<cLine
def Room.mono(r:Room k A)(h:j<=k):Room j A:=⟨r.hd,by have:=r.dp;lia,by have:=r.un;lia⟩
def Room.deeper(r:Room (k+1) A)(a:Env):Room k (A.deeper a):=
 ⟨r.hd,by have:=r.dp;show A.depth+1+3*k+5<_;lia,by have:=r.un;show A.units+3+16*k+200<_;lia⟩
def Room.depth(r:Room k A):A.depth<recursionLimit:=by have:=r.dp;lia
def Room.units(r:Room k A):A.units+64<cLine:=by have:=r.un;lia
def Room.units0(r:Room k A):A.units<cLine:=by have:=r.un;lia
def tNil:TA:=λ_ H Q=>Q [] H
def tCons(c:TE) (a:TA):TA:=λσ H Q=>c σ H λx H1=>a σ H1 λb H2=>Q (x::b) H2
def zbne:PA X [] tNil:=λ_ _ _ _ H Q I h=>xlf ⟨[],H,I,.nil,h⟩
def zbdd(f:PE X e te)(d:PA X es t)(l:starEach (e::es) X.env=(false,eval e X.env)::starEach es X.env:=by rfl):PA X (e::es) (tCons te t):=by
 intro a c s σ H Q I h;rw[l];show wpAny _ _ (spliced ((false,eval e X.env)::backTo a (starEach es X.env))) _ _ s;refine xiy (thn (f c s σ H _ I h) λu j b=>?_);obtain⟨x,H1,p,i,o⟩:=b;exact thn (d a c j σ H1 _ p o) λq r ⟨k,H2,n,g,m⟩=>⟨x::k,H2,n,.cons i g,m⟩
def tTup(t:TA):TE:=λσ H Q=>t σ H λa H1=>a.length<=sizeLine/\∀p,H1 p=none->Q (.ref p) (upd H1 p (.tup a))
def tLst(t:TA):TE:=λσ H Q=>t σ H λa H1=>a.length<=sizeLine/\∀p,H1 p=none->Q (.ref p) (upd H1 p (.lst a))
def zbsy{x1}(h:PA X es t):PE X (.Tuple es x1 pos) (tTup t):=by
 intro f s σ H Q I i;refine wpAny_Tuple_spliced (thn (h pos f s σ H _ I i) λj a ⟨g,H1,c,r,z,q⟩=>⟨by rw[←r.length];exact z,?_⟩);have d:H1 a.heap.objs.size=none:=c.hok.fresh (xbl _);refine⟨.ref a.heap.objs.size,upd H1 a.heap.objs.size (.tup g),c.laid (t':=a.toks) (λb u e=>xbg _ e) (xbl _) ?_,rfl,q _ d⟩;exact⟨z,j,r,⟨_,xbz _ rfl,rfl,_,rfl⟩⟩
def zbmx(h:PA X es t):PE X (.List es pos) (tLst t):=by
 intro f s σ H Q I i;refine wpAny_List_spliced (thn (h pos f s σ H _ I i) λj a ⟨g,H1,c,r,z,q⟩=>⟨by rw[←r.length];exact z,?_⟩);have d:H1 a.heap.objs.size=none:=c.hok.fresh (xbl _);refine⟨.ref a.heap.objs.size,upd H1 a.heap.objs.size (.lst g),c.laid (t':=a.toks) (λb u e=>xbg _ e) (xbl _) ?_,rfl,q _ d⟩;exact⟨z,j,0,r,xbz _ rfl⟩
abbrev Sp:=List V->Hp->VK->XK->Prop
abbrev CXT:=List Env->Hp->Shared->XK->Value->Shared->Prop
structure Env0 (P:Program) (w:World) (K:Fg) (mg:Str->Option Value) (base:Heap) (A:Around) (outer:List Env) (s:Shared) (H:Hp):Prop where
 frames:A.frames=some outer
 mod:Mod K mg base
 bs:∀b o,base.get? b=some o->s.heap.get? b=some o/\H b=none
 bsz:base.objs.size<=s.heap.objs.size
 funs:s.heap.FunFrames base outer
 frf:∀b∈frs outer,H b=none
 hok:HOk P w H s.heap
 bare:AllBare s.gens
def CE(a:List Env) (P:Program) (w:World) (H:Hp) (s:Shared) (Q:VK) (u:Value) (b:Shared):Prop:=
 ∃v c,b.os=s.os/\AllBare b.gens/\Un (frs a) [] H c s.heap b.heap/\HOk P w c b.heap/\RelV v u/\Q v c
def CR(c:CXT) (a:List Env) (P:Program) (w:World) (H:Hp) (s:Shared) (Q:VK) (E:XK) (r:Result) (b:Shared):Prop:=
 match r with
 |.ok (.ret u)=>CE a P w H s Q u b
 |.ok _=>False
 |.error e=>c a H s E e b
structure FnOk (P:Program) (w:World) (K:Fg) (mg:Str->Option Value) (base:Heap) (CX:CXT) (k:Nat) (f:Addr) (fd:FuncData) (ps:List Str) (sp:Sp):Prop where
 len:∀vs H Q E,sp vs H Q E->vs.length=ps.length
 run:∀(A:Around) (outer:List Env) (s:Shared) (H:Hp) (args:Args) (us:List Value) (vs:List V) (Q:VK) (E:XK),Room k A->Env0 P w K mg base A outer s H->BindsTo s fd args (ps.zip us)->Vals vs us->sp vs H Q E ->
  codeAny (model P w) A (.call (.ref f) args) (CR CX outer P w H s Q E) s
def Inv.env0(I:Inv X aU σ H s):Env0 X.prog X.w X.K X.mg X.base X.A X.stack s H:=
 ⟨I.ok.frames,I.ok.mod,I.bs,xbc I.ok.bsz I.sz,I.stack,I.stkFree,I.hok,I.bare⟩
def Inv.after(I:Inv X aU σ H s)(h:CE X.stack X.prog X.w H s Q u s'):EP X aU σ Q u s':=by
 obtain⟨v,i,os,a,j,c,r,q⟩:=h;obtain⟨f,g,d,t,e⟩:=s';obtain rfl:e=s.os:=os;exact⟨v,i,I.call (h':=f) (g':=g) (d':=d) (t':=t) (ch:=[]) j c a (λb z=>absurd z (by simp)),r,q⟩
def tCall(c:Sp) (a:List V) (E:XK) (t:TA):TE:=λσ H Q=>t σ H λb H1=>c (b++a) H1 Q E
noncomputable def Binds(K:Fg) (d:FuncData) (b:List Str) (c:List Value):Prop:=
 ∀(s:Shared) (a:List Value),K.In s.heap->(a++c).length=b.length->BindsTo s d ⟨a,[]⟩ (b.zip (a++c))
def Binds.all{K:Fg}{b:List Str}(h:∀a:List Value,a.length=b.length->bindArgs fd ⟨a,[]⟩=pure (b.zip a)):Binds K fd b []:=λs a _ c=>by
 rw[xdt] at c ⊢;exact .of_eq (h a c)
def Passes(b:CXT) (X:Cx) (E:XK):Prop:=∀(c:List (Addr×Obj)) (σ:St) (H:Hp) (s:Shared) (e:Value) (a:Shared),Inv X c σ H s->b X.stack H s E e a->X.xe e a
def zbsk{X:Cx}(F:FnOk X.prog X.w X.K X.mg X.base CX k f fd ps sp)(c:Room k X.A)(d:Binds X.K fd ps ds)(j:Vals dvs ds)(g:Passes CX X E)
  (I:Inv X aU σ H s)(r:Vals vs us)(h:sp (vs++dvs) H Q E):wpAny (model X.prog X.w) X.A (call (.ref f) us) (EP X aU σ Q) X.xe s:=by
 have b:Vals (vs++dvs) (us++ds):=r.append j;have l:(us++ds).length=ps.length:=by rw[←b.length];exact F.len _ _ _ _ h
 refine wpAny_call (xjr (F.run X.A X.stack s H ⟨us,[]⟩ (us++ds) (vs++dvs) Q E c I.env0 (d s us I.kIn l) b h) λr i a=>?_);cases r with
 |error e=>exact g aU σ H s e i I a
 |ok fl=>
  cases fl with
  |ret u=>exact I.after a
  |next=>exact False.elim a
  |brk=>exact False.elim a
  |cont=>exact False.elim a
def zbnb{X:Cx}(F:FnOk X.prog X.w X.K X.mg X.base CX k f fd ps sp)(d:Room k X.A)(l:Gl X x)(n:X.mg x=some (.ref f))(i:W.keepIn X.K (.ref f)=true)(g:Binds X.K fd ps ds)(v:Vals dvs ds)(j:Passes CX X E)
  (m:PA X (e::es) t)(b:(x==("__debug__" : Str))=false:=by decide)(o:starEach (e::es) X.env=(false,eval e X.env)::starEach es X.env:=by rfl)(a:(backTo pos (starEach es X.env)).any (·.1)=false:=by rfl):
  PE X (.Call (.Name x p) (e::es) [] pos) (tCall sp dvs E t):=by
 intro u s σ H Q I h;refine xku (zbdu I l n ?_ b);refine W.callWith_K (h₀:=X.base) I.ok.mod.kin i (thn (m pos u s σ H _ I h) λz w ⟨y,H1,c,r,q⟩=>⟨c.kIn,?_⟩) o a;exact zbsk F d g v j c r q
structure FnScope (N P:List Str) (sc:Scope):Prop where
 kind:sc.kind=.function
 co:sc.isCoroutine=false
 gen:sc.isGenerator=false
 nd:N.Nodup
 pre:N.take P.length=P
 par:∀x∈P,sc.names.lookup x=some .local\/sc.names.lookup x=some .cell
 nofree:∀y∈sc.names,y.2≠.free
def zsu{kindOf:Str->Option NameKind}:∀{a m},(∀v,(x,v)∉a)->bindL kindOf a m x=m x
 |[],_,_=>rfl
 | (n,v)::r,m,h=>by
  unfold bindL;rw[zsu λw b=>h w (xbi _ b)];split
  ·have:x≠n:=by rintro rfl;exact h v xby
   simp[this]
  ·rfl
def zsw{kindOf:Str->Option NameKind}:∀{a m},(∀v,(x,v)∉a)->bindC kindOf a m x=m x
 |[],_,_=>rfl
 | (n,v)::r,m,h=>by
  unfold bindC;rw[zsw λw b=>h w (xbi _ b)];split
  ·rfl
  ·have:x≠n:=by rintro rfl;exact h v xby
   simp[this]
def zsv{kindOf:Str->Option NameKind}:∀{P:List Str}{a:List Value}{i:Nat}{m:Str->Option Value},P.Nodup->P[i]?=some x->a[i]?=some v->kindOf x=some .local ->
  bindL kindOf (P.zip a) m x=some v
 |[],_,_,_,_,h,_,_=>by simp at h
 |_::_,[],_,_,_,_,h,_=>by simp at h
 |p::P,w::a,0,m,nd,h1,h2,hk=>by
  simp at h1 h2;subst h1;subst h2
  show bindL kindOf ((p,w)::P.zip a) m p=_;unfold bindL;rw[zsu λv b=>(xdg.mp nd).1 (xkh b).1,if_pos hk];simp
 |p::P,w::a,i+1,m,nd,h1,h2,hk=>by
  show bindL kindOf ((p,w)::P.zip a) m x=_;unfold bindL;exact zsv (i:=i) (xdg.mp nd).2 (by simpa using h1) (by simpa using h2) hk
def zsx{kindOf:Str->Option NameKind}:∀{P:List Str}{a:List Value}{i:Nat}{m:Str->Option Value},P.Nodup->P[i]?=some x->a[i]?=some v->kindOf x≠some .local ->
  bindC kindOf (P.zip a) m x=some v
 |[],_,_,_,_,h,_,_=>by simp at h
 |_::_,[],_,_,_,_,h,_=>by simp at h
 |p::P,w::a,0,m,nd,h1,h2,hk=>by
  simp at h1 h2;subst h1;subst h2
  show bindC kindOf ((p,w)::P.zip a) m p=_;unfold bindC;rw[zsw λv b=>(xdg.mp nd).1 (xkh b).1,if_neg hk];simp
 |p::P,w::a,i+1,m,nd,h1,h2,hk=>by
  show bindC kindOf ((p,w)::P.zip a) m x=_;unfold bindC;exact zsx (i:=i) (xdg.mp nd).2 (by simpa using h1) (by simpa using h2) hk
def start(N:List Str) (a:List V):St:=a.map some++List.replicate (N.length-a.length) none
def cxOf(g:CXT) (P:Program) (w:World) (K:Fg) (mg:Str->Option Value) (base:Heap) (N:List Str) (b:Str) (a:Scope) (f:Addr) (d:Value) (A:Around) (outer:List Env) (s:Shared) (H:Hp) (E:XK):Cx where
 prog:=P
 w:=w
 K:=K
 mg:=mg
 base:=base
 A:=A.deeper (envOfC b a s.heap.objs.size f d)
 N:=N
 s₀:=s
 H₀:=H
 env:=envOfC b a s.heap.objs.size f d
 outer:=outer
 stack:=envOfC b a s.heap.objs.size f d::outer
 ex:=[]
 calm:=true
 fn:=λ_=>true
 pn:=[]
 xe:=λe h=>wpAny (model P w) (A.deeper (envOfC b a s.heap.objs.size f d)) (leaving (envOfC b a s.heap.objs.size f d) e) (λ_ c=>g outer H s E e c) (λi c=>g outer H s E i c) h
def zxv{a:Scope}(h:a.names.lookup x=some .cell):∃c,(cellsFrom n a.names []).lookup x=some c:=by
 have q:=W.cellsFrom_some a.names n [] (.inl h);exact Option.isSome_iff_exists.mp q
def zbbe{K:Fg}{N:List Str}{A:Around}{l:List V}
  (S:FnScope N ps scope)(J:A.handled=none)(g:Env0 P w K mg base A outer s H)(hl:l.length=ps.length)(r:Vals l us)
  (x:InCallC s s.heap.objs.size (bindL (envOfC qual scope s.heap.objs.size f cd).kindOf (ps.zip us) λ_=>none) (cellsFrom (s.heap.objs.size+1) scope.names []) (bindC (envOfC qual scope s.heap.objs.size f cd).kindOf (ps.zip us) λ_=>none) s1):
  Inv (cxOf CX P w K mg base N qual scope f cd A outer s H E) [] (start N l) H s1:=by
 have U:ps.length<=N.length:=by have:=congrArg List.length S.pre;rw[xcl] at this;lia
 obtain⟨t,Y,rfl,G⟩:=x.done;have j:∀b:Addr,b∉(cxOf CX P w K mg base N qual scope f cd A outer s H E).ex:=λb z=>absurd (show b∈([]:List Addr) from z) (by simp)
 refine⟨⟨g.mod,S.kind,rfl,rfl,xbl _,λy z c t d=>?_,λy hy=>?_,λy c _ h=>?_,λ_=>J,Around.frames_deeper g.frames,.inr ⟨rfl,rfl⟩,λb z=>absurd z (j b),g.bs,g.bsz,λb _ _=>j b,λb z=>absurd z (j b),g.funs,g.frf⟩,
  rfl,g.bare,Un.kept G,⟨_,x.toInCall.ns,λi y v t d X=>?_⟩,λy c h=>⟨_,x.cell y c h⟩,g.hok.fresh (xbl _),λy c h=>?_,λp o=>absurd (show p∈([]:List (Addr×Obj)) from o) (by simp),g.hok.kept G,?_,Hnd.none J⟩
 ·exact name_of_addr x.apart (xhi t) (xhi d)
 ·have hy:scope.names.lookup y=some .cell\/scope.names.lookup y=some .free:=hy;rcases hy with hy|hy
  ·exact zxv hy
  ·exact absurd rfl (S.nofree _ (xhi hy))
 ·exact xcd (x.above y c (xhi h))
 ·have C:i<l.length:=by
   unfold start at d;by_cases C:i<l.length
   ·exact C
   ·rw[xcw (by simpa using C)] at d;rw[List.getElem?_replicate] at d;split at d<;>cases d
  have Q:l[i]?=some v:=by
   unfold start at d;rw[xbj (by simpa using C),xcg] at d;cases e:l[i]? with
   |none=>rw[e] at d;cases d
   |some a=>rw[e] at d;cases d;rfl
  obtain⟨u,I,T⟩:=r.get Q;have o:ps[i]?=some y:=by
   rw[←S.pre,xkm (by lia)];exact t
  have m:ps.Nodup:=by rw[←S.pre];exact S.nd.sublist (xlg _ _)
  refine⟨u,T,?_⟩;rcases S.par y (xbn o) with k|k
  ·exact .inl ⟨k,zsv m o I k⟩
  ·obtain⟨c,e⟩:=zxv (n:=s.heap.objs.size+1) k;refine .inr ⟨.inl k,c,e,?_⟩;have q:=x.cell y c e;rw[zsx m o I (by show scope.names.lookup y≠_;rw[k];decide)] at q;exact q
 ·exact g.hok.fresh (xcd (x.above y c (xhi h)))
 ·unfold start;show _=N.length;rw[xbk,xbb,xhy];lia
def zbyf{K:Fg}{kV:Value}
     {N:List Str}(lk:K.lookup f=some ⟨oc,od,.func (W.fnOf name qual params body scope dV kV doc pm an cdv ct),osl⟩)(X:W.codeIn K cdv qual=true)(S:FnScope N ps scope)
    (j:∀ c H Q E,sp c H Q E->c.length=ps.length)
    (h:∀(A:Around) (a:List Env) (s:Shared) (H:Hp) (c:List V) (Q:VK) (E:XK),Room k (A.deeper (envOfC qual scope s.heap.objs.size f cdv))->sp c H Q E ->
      ∃ t,PSs (cxOf CX P w K mg base N qual scope f cdv A a s H E) body t/\t { nx:=λ_ d=>Q .non d,rt:=Q } (start N c) H):
    FnOk P w K mg base CX (k + 1) f (W.fnOf name qual params body scope dV kV doc pm an cdv ct) ps sp:=by
  refine⟨j,λA a s H Y us c Q E U m hb r l=>?_⟩;have hl:=j _ _ _ _ l;have KX:K.In s.heap:=m.mod.kin.keeps λb o e=>(m.bs b o e).1
  have G:s.heap.NoLimit:=m.mod.nolimit.keeps λb o e=>(m.bs b o e).1
  have g:∀ y∈ps.zip us,scope.names.lookup y.1=some .local\/(scope.names.lookup y.1=some .cell/\((cellsFrom (s.heap.objs.size + 1) scope.names []).lookup y.1).isSome=true):=λT hy=>by
    obtain⟨n,v⟩:=T;rcases S.par n (xkh hy).1 with q|q
    · exact .inl q
    · exact .inr ⟨q,W.cellsFrom_some _ _ _ (.inl q)⟩
  refine codeAny_call_function U.depth (KX _ _ lk) rfl S.co S.gen rfl (W.codeRec_of KX X) (hb _ _ _ _ ?_);refine wpAny_newFunctionEnv_cells S.kind g λa0 he s1 x=>?_
  subst he;refine⟨G.keeps x.toInCall.keep,codeAny_func ?_⟩;obtain⟨t,ht,hq⟩:=h A a s H c Q E (U.deeper _) l;have I:Inv (cxOf CX P w K mg base N qual scope f cdv A a s H E) [] (start N c) H s1:=zbbe S U.hd m hl r x;refine xey (ht [] s1 (start N c) H _ I hq) (λfl s' i=>?_) λe s' i=>i
  have p:∀{z d v u},Inv (cxOf CX P w K mg base N qual scope f cdv A a s H E) [] z d s'->RelV v u->Q v d->CE a P w H s Q u s':=
    λ{z d v u} J C q=>⟨v,d,J.os,J.bare,J.base,J.hok,C,q⟩
  cases fl with
  |ret u=>
    obtain⟨v,z,d,J,C,q⟩:=i;exact p J C q
  |next=>
    obtain⟨z,d,J,q⟩:=i;exact p (v:=V.non) (u:=Value.none) J rfl q
  |brk=>
    obtain⟨_,_,_,q⟩:=i;exact False.elim q
  |cont=>
    obtain⟨_,_,_,q⟩:=i;exact False.elim q
def tCB(r:List V->Hp->VK->Prop) (t:TA):TE:=λσ H Q=>t σ H λa H1=>r a H1 Q
def zvq{id:String}(u:CallR X (.builtin id) r)(d:Gl X x)(j:X.mg x=none)(i:bootBuiltins x=some (.builtin id))(f:PA X (e::es) t)(l:x≠"__name__":=by decide)(a:(x==("__debug__" : Str))=false:=by decide)
  (k:starEach (e::es) X.env=(false,eval e X.env)::starEach es X.env:=by rfl)(b:(backTo pos (starEach es X.env)).any (·.1)=false:=by rfl):PE X (.Call (.Name x p) (e::es) [] pos) (tCB r t):=by
 intro c s σ H Q I h;refine xku (zpv I d j i ?_ l a);exact PyProof.Rows.callWith_builtin1 (thn (f pos c s σ H _ I h) λn o ⟨m,H1,v,g,q⟩=>u c o σ H1 m n Q v g q) k b
def zrp{T:String}(u:CallR X (.type T) r)(d:Gl X x)(j:X.mg x=none)(i:bootBuiltins x=some (.type T))(f:PA X (e::es) t)(l:x≠"__name__":=by decide)(a:(x==("__debug__" : Str))=false:=by decide)
  (k:starEach (e::es) X.env=(false,eval e X.env)::starEach es X.env:=by rfl)(b:(backTo pos (starEach es X.env)).any (·.1)=false:=by rfl):PE X (.Call (.Name x p) (e::es) [] pos) (tCB r t):=by
 intro c s σ H Q I h;refine xku (zpv I d j i ?_ l a);exact xhr (thn (f pos c s σ H _ I h) λn o ⟨m,H1,v,g,q⟩=>u c o σ H1 m n Q v g q) k b
end L2
namespace HT
open PyProof.Rows
noncomputable def lexLt:List Int->List Int->Bool
 |[],[]=>false
 |[],_::_=>true
 |_::_,[]=>false
 |x::xs,y::ys=>if x=y then lexLt xs ys else decide (x<y)
def zdt(x y:Int)(a b:List Int):lexLt (x::a) (y::b)=if x=y then lexLt a b else decide (x<y):=rfl
def zez:lexLt [] []=false:=rfl
def zcr(y:Int)(a:List Int):lexLt [] (y::a)=true:=rfl
def zeg(x:Int)(a:List Int):lexLt (x::a) []=false:=rfl
def zbij(A:Around)(s:Shared)(a:Int)(t:Tok)(c:Int)(u:Tok):∃e,SeqAt.EqAt A s (.int a t) (.int c u) e/\(e=true↔a=c):=
 ⟨(a==c),SeqAt.EqAt.int_int a t c u,by simp⟩
def zbft(A:Around)(s:Shared)(a:Int)(t:Tok)(c:Int)(u:Tok)(b:Program)(w:World)(E:Value->Shared->Prop)(Q:Value->Shared->Prop)(h:Q (.bool (decide (a<c))) s):
  wpAny (model b w) A (richCompare .Lt (.int a t) (.int c u)) Q E s:=
 (PyProof.Rows.lt_int h:wpAny (model b w) A (compareOp .Lt (.int a t) (.int c u)) Q E s)
section
open SeqAt
open PySem.AutoSeq1 (wpAny_loadPart')
open MeetsSeq MeetsSeq2 MeetsSeq3
def zhv(l b:Addr)(i f:Array Value)(n n2:Nat)(dd U:Option Addr)(sl a0:Array (Option Value))(I Q:List Int)(hi:IntsAre i.toList I)(hj:IntsAre f.toList Q):
  Meets (Builtin.«tuple.__lt__» ⟨[.ref l,.ref b],[]⟩)
   (λ_ R s=>s.heap.get? l=some { cls:=.type "tuple",dict:=dd,data:=.seq i n,slots:=sl }/\s.heap.get? b=some { cls:=.type "tuple",dict:=U,data:=.seq f n2,slots:=a0 } /\
    R (.ok (.ret (.bool (lexLt I Q)))) s):=
 .of_wp λv w A R s h=>by
  obtain⟨J,g,d,P,os⟩:=s;obtain⟨hl,hb,h⟩:=h
  have f2:=AutoSeq1.sub_tuple_tuple;have z1:i.size=I.length:=by rw[←hi.length];simp
  have z2:f.size=Q.length:=by rw[←hj.length];simp
  wp_walk using wpAny_loadPart' hl,wpAny_loadPart' hb,wpAny_forIn_list _ (λz b X=>b.1=none/\X=⟨J,g,d,P,os⟩/\∃(S T:List Value) (m k:List Int),z=S.zip T /\
   IntsAre S m/\IntsAre T k/\m.length+f.size=k.length+i.size/\R (.ok (.ret (.bool (lexLt m k)))) ⟨J,g,d,P,os⟩) _
  case turn=>
   rintro⟨y,x⟩ z b X ⟨G,rfl,S,T,m,k,p,H,o,j,r⟩;cases H with
   |nil=>rw[List.zip_nil_left] at p;cases p
   |cons a t hvi'=>
    cases o with
    |nil=>rw[List.zip_nil_right] at p;cases p
    |cons c u hwi'=>
     rw[xkn] at p;injection p with Y E
     injection Y with hy hx
     subst hy hx;rw[zdt] at r;simp only[xbv] at j;obtain⟨e,he,C⟩:=zbij A.in1 ⟨J,g,d,P,os⟩ a t c u;refine xba (he v w _ _ ?_);cases e with
     |true=>
      rw[if_pos (C.mp rfl)] at r
      wp_walk
      exact⟨rfl,rfl,_,_,_,_,E,hvi',hwi',by lia,r⟩
     |false=>
      rw[if_neg (λq=>absurd (C.mpr q) xgc)] at r;have a1:=zbft A.in1 ⟨J,g,d,P,os⟩ a t c u v w
      wp_walk using a1
      exact⟨_,rfl,by simpa using r⟩
  case fin=>
   rintro⟨b1,b2⟩ X ⟨G,rfl,S,T,m,k,p,H,o,j,r⟩;simp only at G;subst G;have hv:lexLt m k=decide (i.size<f.size):=by
    cases H with
    |nil=>
     cases o with
     |nil=>
      simp only[xiz] at j;rw[zez];exact(xcm (by lia)).symm
     |cons c u hw=>
      simp only[xiz,xbv] at j;rw[zcr];exact(xcj (by lia)).symm
    |cons a t hv=>
     cases o with
     |nil=>
      simp only[xiz,xbv] at j;rw[zeg];exact(xcm (by lia)).symm
     |cons c u hw=>
      rw[xkn] at p;cases p
   rw[hv] at r
   wp_walk
   exact⟨_,rfl,by simpa [Builtin.Tuple.tupleCompareSizes] using r⟩
  case h=>
   exact⟨rfl,rfl,i.toList,f.toList,I,Q,rfl,hi,hj,by lia,h⟩
end
def znx{A:Around}{s:Shared}(z:IsTup s.heap l items)(p:IsTup s.heap b items2)(v:IntsAre items.toList ns)(q:IntsAre items2.toList ms)
  (t:A.units<cLine)(h:Q (.bool (lexLt ns ms)) s):wpAny (model prog w) A (compareOp .Lt (.ref l) (.ref b)) Q E s:=by
 obtain⟨⟨o,y,j,r⟩,i,k,n,m⟩:=id z;obtain⟨⟨g,e,data2,f⟩,d,c,u,a⟩:=id p;simp only at k m c a;subst k m c a;exact richCompare_meets_room (op:=.Lt) ⟨_,i,rfl⟩ ⟨_,d,rfl⟩ xlw F.entry_tuple_lt (F.args_tuple_lt_2 _ _) (zhv l b items items2 n u y e r f ns ms v q)
  ⟨i,d,show Value.bool (lexLt ns ms)≠Value.notImplemented/\Q (.bool (lexLt ns ms)) s from⟨(λx=>nomatch x),h⟩⟩ t
def zbqu{s:Shared}{d a:List Value}(x:IsTup s.heap t d.toArray)(v:IsTup s.heap b a.toArray)(m:d≠[])
  (y:a=[]->Q (.ref t) s)(z:a≠[]->Q (.ref s.heap.objs.size) { s with heap:=s.heap.push { cls:=.type "tuple",data:=.seq (d++a).toArray } })
  (k:d.length+a.length<=sizeLine):wpAny (model prog w) A (binaryOp .Add (.ref t) (.ref b)) Q E s:=by
 obtain⟨⟨cls,u,data,o⟩,j,q,n,r⟩:=id x;obtain⟨⟨l,g,data2,i⟩,c,h,p,f⟩:=id v;simp only at q r h f;subst q r h f;have e:d.toArray++a.toArray=(d++a).toArray:=by simp
 by_cases hw:a=[]
 ·exact concat_meets ⟨_,j,rfl⟩ ⟨_,c,rfl⟩ noFill_tuple_add seq_tuple_add xln xkz (xko _ _)
   (tuple_addW1 t b d.toArray a.toArray n p u g o i (by simpa using m) (by simp[hw])) ⟨j,c,y hw⟩
 ·refine concat_meets ⟨_,j,rfl⟩ ⟨_,c,rfl⟩ noFill_tuple_add seq_tuple_add xln xkz (xko _ _)
   (tuple_addW2 t b d.toArray a.toArray n p u g o i (by simpa using m) (by simpa using hw) (by rw[xbw,xbw];exact k)) ⟨j,c,?_⟩
  rw[e];exact z hw
noncomputable def sIx(n d:Nat):Option Int->Nat
 |none=>d
 |some v=>if v<0 then(v+(n:Int)).toNat else min v.toNat n
def zva(n d:Nat):sIx n d none=d:=rfl
def zbcs(n d k:Nat):sIx n d (some (k:Int))=min k n:=by
 show(if(k:Int)<0 then((k:Int)+(n:Int)).toNat else min (k:Int).toNat n)=min k n;rw[if_neg (by lia),xfj]
def zbsh(n d:Nat)(a:d<=n)(o:Option Int):sIx n d o<=n:=by
 cases o with
 |none=>exact a
 |some v=>
  show(if v<0 then(v+(n:Int)).toNat else min v.toNat n)<=n;by_cases hv:v<0
  ·rw[if_pos hv];lia
  ·rw[if_neg hv];exact xhk _ _
def zbek(v:Int)(n d:Nat):(if v<0 then max (v+(n:Int)) 0 else min v (n:Int))=((sIx n d (some v):Nat):Int):=by
 show(if v<0 then max (v+(n:Int)) 0 else min v (n:Int))=(((if v<0 then(v+(n:Int)).toNat else min v.toNat n):Nat):Int)
 by_cases hv:v<0
 ·simp only[if_pos hv];lia
 ·simp only[if_neg hv];lia
def zyr(lo a:Option Int)(n:Nat):Builtin.Slice.sliceAdjust lo a 1 (n:Int)=(((sIx n 0 lo:Nat):Int),((sIx n n a:Nat):Int)):=by
 have b:¬ ((1:Int)<0):=by lia
 unfold Builtin.Slice.sliceAdjust;simp only[b,xeu];refine Prod.ext ?_ ?_
 ·cases lo with
  |none=>rfl
  |some v=>exact zbek v n 0
 ·cases a with
  |none=>rfl
  |some v=>exact zbek v n n
def zvp(i j:Nat):Builtin.Slice.slicePlaces (i:Int) (j:Int) 1=j-i:=by
 unfold Builtin.Slice.slicePlaces;have a:(1:Int) > 0:=by lia
 simp only[a,xgb,xnr];split<;>lia
def zev(p:IsPart v o)(h:Q o s):wpAny (model prog w) A (Builtin.Slice.slicePartIndex v) Q E s:=by
 cases p with
 |none=>exact slicePart_none h
 |int i t=>exact slicePart_int h
def zew{s:Shared}{lo b:Option Int}{n:Nat}(g:s.heap.IsSliceOf sl vl vu .none)(e:IsPart vl lo)(f:IsPart vu b)
  (h:Q (((sIx n 0 lo:Nat):Int),1,sIx n n b-sIx n 0 lo) s):wpAny (model prog w) A (Builtin.Slice.sliceApplied (.ref sl) (pure (n:Int))) Q E s:=by
 obtain⟨os,a,d,c⟩:=id g;unfold Builtin.Slice.sliceApplied Builtin.Slice.sliceFields;refine xba (xba (xgt a c (x:=vl) rfl (xba (xgt a c (x:=vu) rfl (xba (xgt a c (x:=.none) rfl (xbe ?_)))))));refine xba (slicePart_none ?_);show wpAny _ _ (if((1:Int)==0)=true then _ else _) _ _ s;rw[if_neg (by decide)];refine xba (zev e (xba (zev f (xba (xbe ?_)))));show wpAny _ _ (match Builtin.Slice.sliceAdjust lo b 1 (n:Int) with|(lo,b)=>pure (lo,(1:Int),Builtin.Slice.slicePlaces lo b 1)) _ _ s;rw[zyr lo b n];show wpAny _ _ (pure (((sIx n 0 lo:Nat):Int),(1:Int),Builtin.Slice.slicePlaces ((sIx n 0 lo:Nat):Int) ((sIx n n b:Nat):Int) 1)) _ _ s;rw[zvp];exact xbe h
def zbgd(a:Array Value)(i k:Nat):((List.range k).filterMap λ(m:Nat)=>a[((i:Int)+(m:Int)*1).toNat]?).toArray=((a.toList.drop i).take k).toArray:=by
 have e:(λ(m:Nat)=>a[((i:Int)+(m:Int)*1).toNat]?)=λm=>a[i+m]?:=by
  funext m
  have:((i:Int)+(m:Int)*1).toNat=i+m:=by lia
  rw[this]
 rw[e];have:=pick_run a i k;rw[xkp] at this;have b:((λx=>a[x]?) ∘ λx=>i+x)=λm=>a[i+m]?:=rfl
 rw[b] at this;rw[this]
def zii{s:Shared}{lo:Option Int}(b:IsTup s.heap t items)(g:s.heap.IsSliceOf sl vl vu .none)(i:IsPart vl lo)(j:IsPart vu hi)
  (k:¬ (sIx items.size 0 lo=0/\sIx items.size items.size hi=items.size))
  (h:Q (.ref s.heap.objs.size) { s with heap:=s.heap.push { cls:=.type "tuple",data:=.seq ((items.toList.drop (sIx items.size 0 lo)).take (sIx items.size items.size hi-sIx items.size 0 lo)).toArray } })
  (l:items.size<=sizeLine):wpAny (model prog w) A (getItem (.ref t) (.ref sl)) Q E s:=by
 have a:sizeOk (.seq ((items.toList.drop (sIx items.size 0 lo)).take (sIx items.size items.size hi-sIx items.size 0 lo)).toArray):=by
  show((items.toList.drop (sIx items.size 0 lo)).take (sIx items.size items.size hi-sIx items.size 0 lo)).toArray.size<=sizeLine;rw[xbw,xcl,xfq,xce];lia
 have r:sIx items.size items.size hi<=items.size:=zbsh _ _ (xbl _) hi;obtain⟨os,f,e,n⟩:=id g;have d:s.TypeIs (.ref sl) "slice":=⟨os,f,e⟩
 unfold getItem
 try with_reducible refine xeq ?_
 first|refine xba (xbe ?_)|skip
 refine xba (xnm b.typeIs (by decide) ?_)
 refine xba (wpAny_callSpecial?_slot (name:=Str.ofString "__getitem__") b.typeIs xfa
  (xei xfa b.typeIs entry_tuple_getitem ?_ (args_tuple_getitem _ _)))
 show wpAny _ _ (Builtin.Tuple.tupleItemsOf (.ref t) >>= _) _ _ s;refine xba (tupleItemsOf_ b ?_);refine xba (xmk d ?_);rw[if_pos (by decide)];refine xba (zew g i j ?_);have c:¬ ((((sIx items.size 0 lo:Nat):Int)==0&&(1:Int)==1&&(sIx items.size items.size hi-sIx items.size 0 lo)==items.size)=true):=by
  intro q;rw[xcs,xcs] at q;have p:((sIx items.size 0 lo:Nat):Int)=0:=eq_of_beq q.1.1;have o:sIx items.size items.size hi-sIx items.size 0 lo=items.size:=eq_of_beq q.2;exact k ⟨by lia,by lia⟩
 show wpAny _ _ (if(((sIx items.size 0 lo:Nat):Int)==0&&(1:Int)==1&&(sIx items.size items.size hi-sIx items.size 0 lo)==items.size)=true then _ else _) _ _ s;rw[if_neg c,zbgd]
 first
  |exact xba (m:=Builtin.Tuple.tupleExact _) (xdv (xbe ⟨_,rfl,xbe h⟩) a)
  |exact xba (m:=Builtin.Tuple.tupleExact _) (xdv (xba (xbe (xbe ⟨_,rfl,xbe h⟩))) a)
  |exact xba (xba (m:=Builtin.Tuple.tupleExact _) (xdv (xbe (xbe ⟨_,rfl,xbe h⟩)) a))
  |exact xba (xba (m:=Builtin.Tuple.tupleExact _) (xdv (xbe ⟨_,rfl,xbe h⟩) a))
end HT
namespace L2
open Spec PyProof.Rows
abbrev TO:=St->Hp->(Option Int->Hp->Prop)->Prop
def PO(X:Cx) (e:Option Expr) (t:TO):Prop:=
 ∀(b:List (Addr×Obj)) (s:Shared) (σ:St) (H:Hp) (Q:Option Int->Hp->Prop),Inv X b σ H s->t σ H Q ->
  wpAny (model X.prog X.w) X.A (evalPart e X.env) (λu c=>∃o a,Inv X b σ a c/\IsPart u o/\Q o a) X.xe s
def tNoPart:TO:=λ_ H Q=>Q none H
def tPart(t:TE):TO:=λσ H Q=>t σ H λx H1=>∃i,x=.int i/\Q (some i) H1
def zfa{ns:List Int}:∀{a},Vals (ns.map V.int) a->IntsAre a ns:=by
 induction ns with
 |nil=>intro a r;rw[xns] at r;cases r;exact .nil
 |cons n ns ih=>
  intro a r;rw[xbr] at r;cases r with
  |cons r1 r2=>
   obtain⟨t,e⟩:=r1;subst e;exact .cons n t (ih r2)
def zbmp:PO X none tNoPart:=by
 intro a s σ H Q I h;rw[xne];exact xbe ⟨none,H,I,.none,h⟩
def zbmo(h:PE X e te):PO X (some e) (tPart te):=by
 intro c s σ H Q I f;rw[evalPart_some];refine thn (h c s σ H _ I f) λu j a=>?_
 obtain⟨x,H1,g,b,d⟩:=a;obtain⟨i,rfl,q⟩:=d;obtain⟨t,rfl⟩:=b;exact⟨some i,H1,g,.int i t,q⟩
def SlR(X:Cx) (r:V->Option Int->Option Int->Hp->VK->Prop):Prop:=
 ∀(e:List (Addr×Obj)) (s:Shared) (σ:St) (H:Hp) (x:V) (v c b:Value) (lo d:Option Int) (a:Addr) (Q:VK),Inv X e σ H s->RelV x v->s.heap.IsSliceOf a c b .none->IsPart c lo->IsPart b d->r x lo d H Q ->
  ∃ T id,typeLookup (.type T) "__getitem__"=pure (some (.builtin id))/\s.TypeIs v T/\wpAny (model X.prog X.w) X.A (getItem v (.ref a)) (EP X e σ Q) X.xe s
section
def SlR.or(h:SlR X r)(k:SlR X r'):SlR X (λx lo a H Q=>r x lo a H Q\/r' x lo a H Q):=by
 intro i s σ H x v f d lo a c Q I b j e g q;rcases q with q|q
 ·exact h i s σ H x v f d lo a c Q I b j e g q
 ·exact k i s σ H x v f d lo a c Q I b j e g q
end
def tSl(r:V->Option Int->Option Int->Hp->VK->Prop) (b:TE) (a c:TO):TE:=λσ H Q=>b σ H λx H1=>a σ H1 λl H2=>c σ H2 λu H3=>r x l u H3 Q
def zbgg{lo:Option Expr}(p:SlR X r)(z:PE X e te)(U:PO X lo tl)(y:PO X hi th):PE X (.Subscript e (.Slice lo hi none p2) pos) (tSl r te tl th):=by
 intro d s σ H Q I h;refine Subscript_ (thn (z d s σ H _ I h) λv J c=>?_);obtain⟨x,H1,C,k,P⟩:=c;refine wpAny_Slice (thn (U d J σ H1 _ C P) λg o ⟨l,H2,A,w,m⟩=>thn (y d o σ H2 _ A m) λf a c=>?_);obtain⟨u,H3,i,G,t⟩:=c;rw[xne];refine xbe ?_;have j:Inv X d σ H3 { a with heap:=a.heap.push { cls:=.type "slice",data:=.fields #[g,f,.none] } }:=i.kept (t':=a.toks) λb Y q=>xbg _ q
 obtain⟨T,id,S,n,E⟩:=p d { a with heap:=a.heap.push { cls:=.type "slice",data:=.fields #[g,f,.none] } } σ H3 x v g f l u a.heap.objs.size Q j k (xmv ..) w G t
 show wpAny (model X.prog X.w) X.A (subscriptTail e (.Slice lo hi none p2) v (.ref a.heap.objs.size)) (EP X d σ Q) X.xe { a with heap:=a.heap.push { cls:=.type "slice",data:=.fields #[g,f,.none] } }
 exact tail_any (ops:=[.ref a.heap.objs.size,v]) n S E (by with_unfolding_all rfl)
def cutV(a:List V) (lo b:Option Int):List V:=(a.drop (HT.sIx a.length 0 lo)).take (HT.sIx a.length a.length b-HT.sIx a.length 0 lo)
def zlc(a:List V)(lo b:Option Int):(cutV a lo b).length<=a.length:=by
 unfold cutV;rw[xcl,xfq];lia
def rSlT(K:Fg):V->Option Int->Option Int->Hp->VK->Prop:=λx lo c H Q=>∃a b,x=.ref a/\SqT K H a b /\
 ¬ (HT.sIx b.length 0 lo=0/\HT.sIx b.length b.length c=b.length)/\∀p,H p=none->Q (.ref p) (upd H p (.tup (cutV b lo c)))
def zbrz:SlR X (rSlT X.K):=by
 intro y s σ H x v w t lo f u Q I j n l m h;obtain⟨a,d,rfl,k,p,q⟩:=h;cases j;obtain⟨e,r,i,g⟩:=I.tuple k;have c:e.toArray.size=d.length:=by rw[xbw];exact r.length.symm
 refine⟨"tuple",_,xfa.lookup,i.typeIs,?_⟩
 refine HT.zii i n l m (by rw[c];exact p) ?_ (by rw[c];exact g);rw[c];refine⟨.ref s.heap.objs.size,_,I.laid (t':=s.toks) (o:=.tup (cutV d lo f)) (λb z q=>xbg _ q) (xbl _) ?_,rfl,q _ (I.hok.fresh (xbl _))⟩;exact⟨xbc (zlc d lo f) g,_,(r.drop (HT.sIx d.length 0 lo)).take (HT.sIx d.length d.length f-HT.sIx d.length 0 lo),IsTup.new _ _⟩
def rLtT(K:Fg):R2:=λx y H Q=>∃a b d c,x=.ref a/\y=.ref b/\SqT K H a (d.map V.int)/\SqT K H b (c.map V.int)/\Q (.bl (HT.lexLt d c)) H
def zbti{X:Cx}(l:X.A.units<cLine):OpR X (compareOp .Lt) (rLtT X.K):=by
 intro r s σ H x y v u Q I e i h;obtain⟨a,b,ns,ms,rfl,rfl,j,f,q⟩:=h;cases e;cases i;obtain⟨d,m,n,_⟩:=I.tuple j;obtain⟨c,k,g,_⟩:=I.tuple f;have o:IntsAre d.toArray.toList ns:=zfa m;have p:IntsAre c.toArray.toList ms:=zfa k;exact HT.znx n g o p l ⟨.bl (HT.lexLt ns ms),H,I,rfl,q⟩
def rCatT(K:Fg):R2:=λx y H Q=>∃a b d c,x=.ref a/\y=.ref b/\SqT K H a d/\SqT K H b c/\d≠[]/\d.length+c.length<=sizeLine /\
 (c=[]->Q (.ref a) H)/\(c≠[]->∀p,H p=none->Q (.ref p) (upd H p (.tup (d++c))))
def Vals.nil_iff(r:Vals xs us):us=[]↔xs=[]:=by
 cases r with
 |nil=>simp
 |cons _ _=>simp
def zbnl:OpR X (binaryOp .Add) (rCatT X.K):=by
 intro E s σ H x y v u Q I g l h;obtain⟨a,b,r,p,rfl,rfl,n,j,m,e,t,A⟩:=h;cases g;cases l;obtain⟨i,d,C,_⟩:=I.tuple n;obtain⟨f,c,k,_⟩:=I.tuple j;refine HT.zbqu C k (λz=>m (d.nil_iff.mp z)) (λz=>⟨.ref a,H,I,rfl,t (c.nil_iff.mp z)⟩) (λz=>?_) (by rw[←d.length,←c.length];exact e);refine⟨.ref s.heap.objs.size,_,I.laid (t':=s.toks) (o:=.tup (r++p)) (λb G q=>xbg _ q) (xbl _) ?_,rfl,A (λw=>z (c.nil_iff.mpr w)) _ (I.hok.fresh (xbl _))⟩;exact⟨by rw[xbk];exact e,_,d.append c,IsTup.new _ _⟩
noncomputable def ixN(n:Nat) (i:Int):Option Nat:=if 0<=i then(if i<n then some i.toNat else none) else if -(n:Int)<=i then some (i+n).toNat else none
def atI{α:Type}(a:List α) (i:Int):Option α:=(ixN a.length i).bind λj=>a[j]?
def zbdx(h:ixN n i=some j):seqIndex? i n=some j/\j<n/\-(n:Int)<=i/\i<n:=by
 unfold ixN at h;by_cases h0:0<=i
 ·rw[if_pos h0] at h;by_cases h1:i<n
  ·rw[if_pos h1] at h;have e:i.toNat=j:=xda h;exact⟨by rw[seqIndex_of h0 h1,e],by lia,by lia,h1⟩
  ·rw[if_neg h1] at h;cases h
 ·rw[if_neg h0] at h;by_cases h1:-(n:Int)<=i
  ·rw[if_pos h1] at h;have e:(i+n).toNat=j:=xda h;exact⟨by rw[seqIndex_neg (by lia) h1,e],by lia,h1,by lia⟩
  ·rw[if_neg h1] at h;cases h
def zym{α:Type}{a:List α}{v:α}(h:atI a i=some v):∃j,seqIndex? i a.length=some j/\a[j]?=some v/\j<a.length/\-(a.length:Int)<=i/\i<a.length:=by
 unfold atI at h;cases e:ixN a.length i with
 |none=>rw[e] at h;cases h
 |some j=>
  rw[e] at h;obtain⟨b,f,d,c⟩:=zbdx e;exact⟨j,b,h,f,d,c⟩
def zyl{α:Type}{a:List α}{j:Nat}{v:α}(h:a[j]?=some v):atI a (j:Int)=some v:=by
 have b:j<a.length:=(xbd.mp h).1;have e:ixN a.length (j:Int)=some j:=by
  unfold ixN;rw[if_pos (by lia),if_pos (by lia)];simp
 unfold atI;rw[e];exact h
noncomputable def PlainIx(b:Expr):Prop:=∀o i,subscripted b false o i=operate [o,i] (getItem o i)
def IxR(X:Cx) (r:R2):Prop:=
 ∀(b a:Expr) (c:List (Addr×Obj)) (s:Shared) (σ:St) (H:Hp) (x y:V) (v u:Value) (Q:VK),Inv X c σ H s->RelV x v->RelV y u->r x y H Q ->
  subscripted a false v u=operate [v,u] (getItem v u)->wpAny (model X.prog X.w) X.A (subscriptTail b a v u) (EP X c σ Q) X.xe s
def MtR(X:Cx) (id:String) (r:V->List V->Hp->VK->Prop):Prop:=
 ∀(a:List (Addr×Obj)) (s:Shared) (σ:St) (H:Hp) (x:V) (b:List V) (v:Value) (c:List Value) (Q:VK),Inv X a σ H s->RelV x v->Vals b c->r x b H Q ->
  wpAny (model X.prog X.w) X.A (call (.builtin id) (v::c)) (EP X a σ Q) X.xe s
def IxR.or(h:IxR X r)(g:IxR X r'):IxR X (λx y H Q=>r x y H Q\/r' x y H Q):=by
 intro b a e s σ H x y v u Q I c d q f;rcases q with q|q
 ·exact h b a e s σ H x y v u Q I c d q f
 ·exact g b a e s σ H x y v u Q I c d q f
def zbxq(e:IxR X r)(g:PE X a ta)(d:PE X b tb)(j:PlainIx b):PE X (.Subscript a b pos) (tOp r ta tb):=by
 intro i s σ H Q I h;exact Subscript_ (binT g d I h λv u l x y H2 k c f q=>e a b i l σ H2 x y v u Q k c f q (j _ _))
def rIxL(K:Fg):R2:=λx y H Q=>∃p a i v,x=.ref p/\y=.int i/\SqL K H p a/\atI a i=some v/\Q v H
def rIxT(K:Fg):R2:=λx y H Q=>∃p a i v,x=.ref p/\y=.int i/\SqT K H p a/\atI a i=some v/\Q v H
def rIxS:R2:=λx y H Q=>∃z i c,x=.str z/\y=.int i/\z.length<=sizeLine/\atI z.cps.toList i=some c/\Q (.str ⟨#[c]⟩) H
def zbot:IxR X (rIxL X.K):=by
 intro k d m s σ H x y v u Q I o A h n;obtain⟨p,Y,i,z,rfl,rfl,P,G,q⟩:=h;cases o;obtain⟨t,rfl⟩:=A;obtain⟨c,r,g,hz⟩:=I.list P;obtain⟨j,b,J,U,S,C⟩:=zym G;obtain⟨w,l,f⟩:=r.get J;have T:=r.length;have hn:=line63;have a:EP X m σ Q w s:=⟨z,H,I,f,q⟩
 by_cases h0:0<=i
 ·have e:i.toNat=j:=by
   rw[seqIndex_of h0 C] at b;exact xda b
  exact item_listR g.isList h0 (by lia) (by rw[e];simpa using l) a n
 ·have e:(i+(c.toArray.size:Int)).toNat=j:=by
   rw[seqIndex_neg (by lia) S] at b;rw[xbw,←T];exact xda b
  exact subscriptTail_builtinR (x:=w) g.isList.typeIs xnn.lookup
   (wpAny_getItem_list_neg (Q:=λr E=>r=w/\EP X m σ Q r E) g.isList (by lia) (by rw[xbw]<;>lia) (by lia) (by rw[e];simpa using l) ⟨rfl,a⟩) n
def zbue:IxR X (rIxT X.K):=by
 intro c a e s σ H x y v u Q I g n h m;obtain⟨p,S,i,z,rfl,rfl,G,C,q⟩:=h;cases g;obtain⟨t,rfl⟩:=n;obtain⟨k,r,f,hz⟩:=I.tuple G;obtain⟨j,o,E,P,Y,U⟩:=zym C;obtain⟨w,l,b⟩:=r.get E;have J:=r.length;have T:=line63;have d:EP X e σ Q w s:=⟨z,H,I,b,q⟩
 exact subscriptTail_builtinR (x:=w) f.typeIs xkv.lookup
  (getItem_tuple (j:=j) (Q:=λr A=>r=w/\EP X e σ Q r A) f (by lia) (by lia) (by rw[xbw,←J];exact o) (by simpa using l) ⟨rfl,d⟩) m
def zbuf:IxR X rIxS:=by
 intro b a E s σ H x y v u Q I e f h n;obtain⟨z,i,c,rfl,rfl,w,m,q⟩:=h;obtain⟨t,rfl⟩:=e;obtain⟨C,rfl⟩:=f;obtain⟨j,d,o,A,l,k⟩:=zym m;have r:z.cps.toList.length=z.length:=by simp[Str.length]
 rw[r] at d l k;have G:=line63
 exact tail_any (typeIs_str s z t) slot_str_getitem.lookup (getItem_str (c:=c) (by
  have p:decide (i < -(2^63:Int))=false:=xcm (by lia);have g:decide (i ≥ 2^63)=false:=xcm (by lia)
  rw[p,g,Bool.or_false]) (by rw[d];simpa using o) ⟨.str ⟨#[c]⟩,H,I.tok _,⟨_,rfl⟩,q⟩) n
def rIx(K:Fg):R2:=λx y H Q=>rIxL K x y H Q\/rIxT K x y H Q\/rIxS x y H Q
def zbug:IxR X (rIx X.K):=zbot.or (zbue.or zbuf)
def zwj(a:List Value)(n j:Nat)(u:Value):Obj.mapSeq (·.setIfInBounds j u) { cls:=.type "list",data:=.seq a.toArray n }={ cls:=.type "list",data:=.seq (a.set j u).toArray n }:=by
 simp[Obj.mapSeq]
def Inv.lst(I:Inv X aU σ H s)(h:H p=some (.lst xs)):
  ∃(a:List Value) (n:Nat),Vals xs a/\s.heap.get? p=some { cls:=.type "list",data:=.seq a.toArray n }/\xs.length<=sizeLine:=by
 obtain⟨z,a,n,r,e⟩:=I.hok p _ h;exact⟨a,n,r,e,z⟩
def Inv.lstUpd{c a:List Value}(I:Inv X aU σ H s)(h:H p=some (.lst xs))
  (i:s.heap.get? p=some { cls:=.type "list",data:=.seq c.toArray n })(d:f { cls:=.type "list",data:=.seq c.toArray n }={ cls:=.type "list",data:=.seq a.toArray n' })(r:Vals ys a)(j:ys.length<=sizeLine)(t:Nat):
  Inv X aU σ (upd H p (.lst ys)) {s with heap:=s.heap.update p f,toks:=t}:=by
 have e:(s.heap.update p f).get? p=some { cls:=.type "list",data:=.seq a.toArray n' }:=by
  rw[xfl f i (by rw[d]<;>rfl),d]
 refine I.write (x:=p) (e:=p) (by rw[h];trivial) (.inl rfl) (λb u g q=>(Heap.get?_update_other _ _ (xdn g)).trans q) ⟨_,e⟩ ?_;exact⟨j,a,n',r,e⟩
def rSetL:V->V->V->Hp->(Hp->Prop)->Prop:=λo i v H Q=>∃p a k j,o=.ref p/\i=.int k/\H p=some (.lst a)/\ixN a.length k=some j/\Q (upd H p (.lst (a.set j v)))
def zbfo:PSet X rSetL:=by
 intro w s σ H o i v S G u Q I z A y h;obtain⟨p,x,k,j,rfl,rfl,g,C,q⟩:=h;cases z;obtain⟨t,rfl⟩:=A;obtain⟨a,n,r,c,E⟩:=I.lst g;obtain⟨b,P,f,m⟩:=zbdx C;have e:=r.length;have J:=line63;have l:Inv X w σ (upd H p (.lst (x.set j v))) {s with heap:=s.heap.update p (Obj.mapSeq (·.setIfInBounds j u))}:=
  I.lstUpd g c (zwj a n j u) (r.set y j) (by rw[xcx];exact E) s.toks
 by_cases h0:0<=k
 ·have d:k.toNat=j:=by
   rw[seqIndex_of h0 m] at b;exact xda b
  exact W.ki_setAt c h0 (by lia) (by rw[xbw,←e];exact m) (by rw[d];exact⟨_,l,q⟩)
 ·have d:(k+(a.toArray.size:Int)).toNat=j:=by
   rw[seqIndex_neg (by lia) f] at b;rw[xbw,←e];exact xda b
  exact W.ki_setBack c (by lia) (by rw[xbw,←e];exact f) (by lia) (by rw[d];exact⟨_,l,q⟩)
def zpe(lo a:Option Int)(n:Nat):(sliceBounds lo a none n).1=((HT.sIx n 0 lo:Nat):Int)/\(sliceBounds lo a none n).2.1=((HT.sIx n n a:Nat):Int)/\(sliceBounds lo a none n).2.2=1:=by
 refine⟨?_,?_,rfl⟩
 ·cases lo with
  |none=>simp[sliceBounds,HT.sIx]
  |some i=>
   simp only[sliceBounds,HT.sIx,Option.getD_none,show(1:Int) > 0 by decide,xgb];by_cases h:i<0
   ·simp only[h,xgb]<;>lia
   ·simp only[h,xeu]<;>lia
 ·cases a with
  |none=>simp[sliceBounds,HT.sIx]
  |some i=>
   simp only[sliceBounds,HT.sIx,Option.getD_none,show(1:Int) > 0 by decide,xgb];by_cases h:i<0
   ·simp only[h,xgb]<;>lia
   ·simp only[h,xeu]<;>lia
def znh(a:List Value)(lo b:Option Int):slicePick a.toArray lo b none=((a.drop (HT.sIx a.length 0 lo)).take (HT.sIx a.length a.length b-HT.sIx a.length 0 lo)).toArray:=by
 obtain⟨c,e,d⟩:=zpe lo b a.toArray.size;unfold slicePick;rw[c,e,d];simp only[sliceRange_one,pick_run,xbw]<;>rfl
def rSlL(K:Fg):V->Option Int->Option Int->Hp->VK->Prop:=λx lo c H Q=>∃a b,x=.ref a/\SqL K H a b/\∀p,H p=none->Q (.ref p) (upd H p (.lst (cutV b lo c)))
def zblu:SlR X (rSlL X.K):=by
 intro w s σ H x v u p lo e t Q I g n k m h;obtain⟨a,c,rfl,j,q⟩:=h;cases g;obtain⟨i,r,f,l⟩:=I.list j;have d:=r.length;refine⟨"list",_,xnn.lookup,f.isList.typeIs,?_⟩
 refine wpAny_getItem_list_slice f.isList n k m .none (by simp) ?_ (by rw[xbw]<;>lia);rw[znh,←d];refine⟨.ref s.heap.objs.size,_,I.laid (t':=s.toks) (o:=.lst (cutV c lo e)) (λb y q=>xbg _ q) (xbl _) ?_,rfl,q _ (I.hok.fresh (xbl _))⟩;exact⟨xbc (zlc c lo e) l,_,0,(r.drop (HT.sIx c.length 0 lo)).take (HT.sIx c.length c.length e-HT.sIx c.length 0 lo),xbz _ rfl⟩
def zbo:CallR X (.builtin "len") (λf H Q=>∃ p b,f=[.ref p]/\(SqL X.K H p b\/SqT X.K H p b)/\Q (.int b.length) H):=by
 intro j s σ H f l Q I r h;obtain⟨p,b,rfl,hq,q⟩:=h;obtain⟨u,rfl,g⟩:=vals1 r;cases g;have k:=line63;rcases hq with hq|hq
 ·obtain⟨c,d,e,i⟩:=I.list hq;have a:=d.length;exact Calls.call_len_list e.isList (by simp only[xbw]<;>lia) ⟨.int b.length,H,I.tok _,⟨s.toks+1,by rw[xbw,a]⟩,q⟩
 ·obtain⟨c,d,e,i⟩:=I.tuple hq;have a:=d.length;exact len_tuple e (by simp only[xbw]<;>lia) ⟨.int b.length,H,I.tok _,⟨s.toks+1,by rw[xbw,a]⟩,q⟩
def CallR.or(h:CallR X f r)(e:CallR X f r'):CallR X f (λa H Q=>r a H Q\/r' a H Q):=by
 intro c s σ H a d Q I b q;rcases q with q|q
 ·exact h c s σ H a d Q I b q
 ·exact e c s σ H a d Q I b q
def zqi:CallR X (.type "list") (λz H Q=>∃ p f,z=[.ref p]/\(SqL X.K H p f\/SqT X.K H p f)/\∀ l,H l=none->Q (.ref l) (upd H l (.lst f))):=by
 intro C s σ H z E Q I r h;obtain⟨p,f,rfl,hq,q⟩:=h;obtain⟨u,rfl,A⟩:=vals1 r;cases A;have k:∀(a:List Value),Vals f a->f.length<=sizeLine->∀(c:Heap) (g:Nat),(∀b y,s.heap.get? b=some y->c.get? b=some y) ->
   c.get? s.heap.objs.size=some { cls:=.type "list",dict:=none,data:=.seq a.toArray g,slots:=#[] }->EP X C σ Q (.ref s.heap.objs.size) { s with heap:=c }:=λa d j c g i e=>
  ⟨.ref s.heap.objs.size,_,I.laid (t':=s.toks) i (xbl _) (show ObjOk X.prog X.w _ c _ (.lst f) from⟨j,a,g,d,e⟩),rfl,q _ (I.hok.fresh (xbl _))⟩
 rcases hq with hq|hq
 ·obtain⟨a,d,v,j⟩:=I.list hq;have m:=d.length;obtain⟨o,t,x,n,w⟩:=v.isList;exact call_list_seq p (.inl rfl) t x w (λc g i e=>k a d j c g i e) (by simp only[xbw]<;>lia)
 ·obtain⟨a,d,v,j⟩:=I.tuple hq;have m:=d.length;obtain⟨o,t,x,n,w⟩:=v;exact call_list_seq p (.inr rfl) t x w (λc g i e=>k a d j c g i e) (by simp only[xbw]<;>lia)
def zbd:CallR X (.type "tuple") (λm H Q=>∃ p c,m=[.ref p]/\((SqL X.K H p c/\∀ l,H l=none->Q (.ref l) (upd H l (.tup c)))\/(SqT X.K H p c/\Q (.ref p) H))):=by
 intro k s σ H m y Q I r h;obtain⟨p,c,rfl,h⟩:=h;obtain⟨u,rfl,v⟩:=vals1 r;cases v;rcases h with⟨i,q⟩|⟨i,q⟩
 ·obtain⟨a,f,g,j⟩:=I.list i;have n:=f.length;refine call_tuple_list g.isList (λd w=>?_) (by simp only[xbw]<;>lia);have t:Inv X k σ H {s with heap:=d}:=I.kept (t':=s.toks) w;have x:Inv X k σ (upd H d.objs.size (.tup c)) { s with heap:=d.push { cls:=.type "tuple",data:=.seq a.toArray } }:=
   t.laid (t':=s.toks) (λb o e=>xbg _ e) (xbl _) (show ObjOk X.prog X.w _ _ _ (.tup c) from⟨j,a,f,IsTup.new _ _⟩)
  exact⟨.ref d.objs.size,_,x,rfl,q _ (t.hok.fresh (xbl _))⟩
 ·obtain⟨a,f,g,j⟩:=I.tuple i;exact call_tuple_same g ⟨.ref p,H,I,rfl,q⟩
def tyV(K:Fg) (T:String) (x:V) (H:Hp):Prop:=match x with
 |.str _=>T="str"
 |.int _=>T="int"
 |.ref p=>(T="list"/\∃ b,SqL K H p b)\/(T="tuple"/\∃ o,K.lookup p=some o/\o.cls=.type "tuple"/\o.dict=none) \/
  (T="dict"/\((∃ a,H p=some (.dK a))\/∃ a,H p=some (.dT a)))\/(T="set"/\∃ S n,H p=some (.set S n))
 |_=>False
def zble{T:String}(I:Inv X aU σ H s)(r:RelV x v)(f:tyV X.K T x H):
  s.TypeIs v T/\∀a,v=.ref a->∃l,s.heap.get? a=some l/\l.dict=none:=by
 cases x with
 |str z=>
  obtain⟨t,rfl⟩:=r;cases(show T="str" from f)
  exact⟨typeIs_str s z t,λ_ e=>nomatch e⟩
 |int i=>
  obtain⟨t,rfl⟩:=r;cases(show T="int" from f)
  exact⟨typeIs_int s i t,λ_ e=>nomatch e⟩
 |ref p=>
  cases r;rcases f with⟨rfl,w,q⟩|⟨rfl,o,b,u,j⟩|⟨rfl,b⟩|⟨rfl,S,n,b⟩
  ·obtain⟨m,_,k,_⟩:=I.list q;refine⟨k.isList.typeIs,λa e=>?_⟩;cases e;obtain⟨o,n,e,c,j,_⟩:=k;exact⟨o,e,j⟩
  ·refine⟨⟨o,I.kIn p o b,u⟩,λa e=>?_⟩;cases e;exact⟨o,I.kIn _ o b,j⟩
  ·have z:∃o,s.heap.get? p=some o/\o.ExactDict:=by
    rcases b with⟨g,b⟩|⟨g,b⟩
    ·obtain⟨_,_,_,_,o,_,_,e,d,_⟩:=I.hok p _ b;exact⟨o,e,d⟩
    ·obtain⟨_,_,_,_,o,_,_,e,d,_⟩:=I.hok p _ b;exact⟨o,e,d⟩
   obtain⟨o,e,d⟩:=z;refine⟨⟨o,e,d.1⟩,λa h=>?_⟩;cases h;exact⟨o,e,d.2.1⟩
  ·obtain⟨o,_,_,_,e,d,_⟩:=I.hok p _ b;refine⟨⟨o,e,d.1⟩,λa h=>?_⟩;cases h;exact⟨o,e,d.2.1⟩
 |_=>exact False.elim f
def tBM0(K:Fg) (T:String) (r:V->List V->Hp->VK->Prop) (a:TE):TE:=λσ H Q=>a σ H λx H1=>tyV K T x H1/\r x [] H1 Q
def tBM(K:Fg) (T:String) (r:V->List V->Hp->VK->Prop) (a:TE) (t:TA):TE:=λσ H Q=>a σ H λx H1=>tyV K T x H1/\t σ H1 λb H2=>r x b H2 Q
def zbtd{b:Pos}{a:Pos}{T:String}{id:String}(p:PlainAttrs T)(e:Slot T name id)(g:typeOf (.builtin id)=pure (.type "method_descriptor"))(q:MtR X id r)(l:PE X o to)
  (c:attributeBase o name X.env (eval o X.env)=eval o X.env:=by rfl)(d:(b.endLine==a.line)=true:=by rfl):PE X (.Call (.Attribute o name b) [] [] a) (tBM0 X.K T r to):=by
 intro j s σ H Q I h;refine wpAny_Call_method0_late c d (thn (l j s σ H _ I h) λv u f=>?_);obtain⟨x,H1,k,i,n,w⟩:=f;obtain⟨m,t⟩:=zble k i n;exact⟨T,id,p,e,g,m,t,xjg rfl (PySem.evalArgs_none (q j u σ H1 x [] v [] Q k i .nil w))⟩
def zbrj{c:Pos}{T:String}{id:String}(J:PlainAttrs T)(i:Slot T name id)(l:typeOf (.builtin id)=pure (.type "method_descriptor"))(P:MtR X id r)(y:PE X o to)(z:PA X (e::es) t)
  (f:attributeBase o name X.env (eval o X.env)=eval o X.env:=by rfl)
  (g:((backTo cpos (starEach (e::es) X.env)).all (λx=>!x.1)&&(backToKw cpos (keywordEach [] X.env)).all (λx=>x.1.isSome)
   && decide ((e::es).length+([]:List Keyword).length+(if([]:List Keyword).isEmpty then 0 else 1)<30))=true:=by rfl)
  (d:(c.endLine==cpos.line)=true:=by rfl)(w:starEach (e::es) X.env=(false,eval e X.env)::starEach es X.env:=by rfl)(b:(backTo cpos (starEach es X.env)).any (·.1)=false:=by rfl):
  PE X (.Call (.Attribute o name c) (e::es) [] cpos) (tBM X.K T r to t):=by
 intro j s σ H Q I h;refine wpAny_Call_method_late f g d rfl (thn (y j s σ H _ I h) λv s1 k=>?_);obtain⟨x,H1,q,p,ty,q1⟩:=k;obtain⟨G,S⟩:=zble q p ty;refine⟨T,id,J,i,l,G,S,?_⟩;have n:=z cpos j s1 σ H1 _ q q1;rw[w] at n ⊢;refine xjg (by show(false||(backTo cpos (starEach es X.env)).any (·.1))=false;rw[b]<;>rfl) (xma ?_);exact thn n λA E ⟨U,H2,Y,u,C⟩=>P j E σ H2 x U v A Q Y p u C
/- xs.append(e),list.index on a module's tuple .. are MtR facts of 06m -/
def MtM(X:Cx) (id:String) (r:V->List V->Hp->VK->Prop):Prop:=
 ∀(a:List (Addr×Obj)) (s:Shared) (σ:St) (H:Hp) (x:V) (b:List V) (v:Value) (c:List Value) (Q:VK),Inv X a σ H s->RelV x v->Vals b c->r x b H Q ->
  wpAny (model X.prog X.w) X.A (call (.builtin id) (v::c)) (EP X a σ Q) X.xe s
def Vals.one:∀{x a},Vals [x] a->∃u,a=[u]/\RelV x u
 |_,_,.cons r .nil=>⟨_,rfl,r⟩
def Vals.zero:∀{a},Vals [] a->a=[]
 |_,.nil=>rfl
def Inv.lset{a its':List Value}(I:Inv X aU σ H s)(i:H l=some (.lst xs))
  (e:s.heap.get? l=some { cls:=.type "list",data:=.seq a.toArray n })(c:f a.toArray=its'.toArray)(h:Vals ys its')(d:ys.length<=sizeLine):
  Inv X aU σ (upd H l (.lst ys)) {s with heap:=s.heap.update l (Obj.mapSeq f),toks:=t'}:=by
 have q:=PySem.IsL.update e f;rw[c] at q;refine I.write (x:=l) (e:=l) (by rw[i];exact trivial) (.inl rfl) (λj u b g=>(Heap.get?_update_other s.heap (Obj.mapSeq f) (xdn b)).trans g) ⟨_,q⟩ ?_;exact⟨d,its',_,h,q⟩
def Inv.lnew(I:Inv X aU σ H s)(a:Vals ys its)(b:ys.length<=sizeLine):
  Inv X aU σ (upd H s.heap.objs.size (.lst ys)) { s with heap:=s.heap.push { cls:=.type "list",data:=.seq its.toArray },toks:=t' }:=
 I.laid (λ_ _ q=>xbg _ q) (xbl _) ⟨b,its,0,a,xbz _ rfl⟩
def Inv.fresh(I:Inv X aU σ H s):H s.heap.objs.size=none:=I.hok.fresh (xbl _)
def Inv.lstM(I:Inv X aU σ H s)(b:H l=some (.lst xs)):xs.length<=sizeLine/\∃(a:List Value) (n:Nat),Vals xs a/\xs.length=a.length/\s.heap.get? l=some { cls:=.type "list",data:=.seq a.toArray n }:=by
 obtain⟨z,a,n,r,e⟩:=I.hok l _ b;exact⟨z,a,n,r,r.length,e⟩
def notLongL(h:n<=sizeLine):Builtin.List.listTooLong n=false:=by
 unfold Builtin.List.listTooLong;exact xcm (by lia)
def rAppend:V->List V->Hp->VK->Prop:=λx b H Q=>∃l a y,x=.ref l/\b=[y]/\H l=some (.lst a)/\a.length<sizeLine/\Q .non (upd H l (.lst (a++[y])))
def zrx:MtM X "list.append" rAppend:=by
 intro j s σ H x i v m Q I c f h;obtain⟨l,k,y,rfl,rfl,b,g,q⟩:=h;cases c;obtain⟨u,rfl,d⟩:=f.one;obtain⟨z,a,n,r,o,e⟩:=I.lstM b;refine call_meets F.slot_list_append ⟨_,e,rfl⟩ F.entry_list_append (F.args_list_append_2 _ _) (PySem.list_append l a.toArray n u (by rw[xbw];lia)) ⟨e,?_⟩;refine⟨.non,_,I.lset (its':=a++[u]) b e (by simp) (r.append (.cons d .nil)) ?_,rfl,q⟩;rw[xbk,xfx];lia
def rExtend:V->List V->Hp->VK->Prop:=λx d H Q=>∃l b c a,x=.ref l/\d=[.ref b]/\H l=some (.lst c)/\H b=some (.lst a)/\c.length+a.length<=sizeLine/\Q .non (upd H l (.lst (c++a)))
def zbao:MtM X "list.extend" rExtend:=by
 intro y s σ H x J v E Q I i m h;obtain⟨l,b,A,C,rfl,rfl,g,p,P,q⟩:=h;cases i;obtain⟨u,rfl,w⟩:=m.one;cases w;obtain⟨z,c,n,r,S,e⟩:=I.lstM g;obtain⟨G,a,t,k,j,o⟩:=I.lstM p;have f:c.toArray.size+a.toArray.size<=sizeLine:=by rw[xbw,xbw];lia
 have d:¬ (!c.toArray.isEmpty&&Builtin.List.listTooLong (c.toArray.size+a.toArray.size))=true:=by
  rw[notLongL f,Bool.and_false];exact xgc
 refine call_meets F.slot_list_extend ⟨_,e,rfl⟩ F.entry_list_extend (F.args_list_extend_2 _ _)
  (AutoSeq1.list_extend_list_list_0 l c.toArray n b a.toArray t d (by rw[xbw];lia) (by lia)) ⟨e,o,?_⟩
 refine⟨.non,_,I.lset (its':=c++a) g e (by simp) (r.append k) ?_,rfl,q⟩;rw[xbk];lia
def rClear:V->List V->Hp->VK->Prop:=λx a H Q=>∃l b,x=.ref l/\a=[]/\H l=some (.lst b)/\Q .non (upd H l (.lst []))
def zbhb:MtM X "list.clear" rClear:=by
 intro i s σ H x g v k Q I d f h;obtain⟨l,j,rfl,rfl,c,q⟩:=h;cases d;have b:=f.zero;subst b;obtain⟨z,a,n,r,m,e⟩:=I.lstM c;refine call_meets F.slot_list_clear ⟨_,e,rfl⟩ F.entry_list_clear (F.args_list_clear_1 _) (AutoSeq1.list_clear_list_0 l a.toArray n (by rw[xbw];lia)) ⟨e,?_⟩;exact⟨.non,_,I.lset (its':=[]) (ys:=[]) c e rfl .nil (xec _),rfl,q⟩
def rCat:R2:=λx y H Q=>∃l b c a,x=.ref l/\y=.ref b/\H l=some (.lst c)/\H b=some (.lst a)/\c.length+a.length<=sizeLine/\∀p,H p=none->Q (.ref p) (upd H p (.lst (c++a)))
def zbtk:OpR X (binaryOp .Add) rCat:=by
 intro w s σ H x y v u Q I d f h;obtain⟨l,b,A,C,rfl,rfl,m,o,p,q⟩:=h;cases d;cases f;obtain⟨z,c,n,r,E,e⟩:=I.lstM m;obtain⟨t,a,G,j,i,g⟩:=I.lstM o;refine PySem.P.add_list e g ?_ (by rw[xbw,xbw];lia);have k:c.toArray++a.toArray=(c++a).toArray:=by simp
 rw[k];exact⟨.ref _,_,I.lnew (t':=s.toks) (r.append j) (by rw[xbk];lia),rfl,q _ I.fresh⟩
section
variable {κ:Type}[DecidableEq κ]
noncomputable def valV(a:List (κ×V)) (k:κ):Option V:=(a.find? λb=>decide (b.1=k)).map (·.2)
noncomputable def putK(a:List (κ×V)) (k:κ) (v:V):List (κ×V):=
 if(a.any λb=>decide (b.1=k))=true then a.map (λb=>if b.1=k then(b.1,v) else b) else a++[(k,v)]
noncomputable def dropK(a:List (κ×V)) (k:κ):List (κ×V):=a.filter λb=>decide (b.1≠k)
def ziw{p:κ×V}{r:List (κ×V)}{k:κ}(e:p.1=k):valV (p::r) k=some p.2:=by simp[valV,xfc,e]
def zix{p:κ×V}{r:List (κ×V)}{k:κ}(e:¬ p.1=k):valV (p::r) k=valV r k:=by simp[valV,xfc,e]
def zug(k:κ):∀a:List (κ×V),(a.any λb=>decide (b.1=k))=(valV a k).isSome
 |[]=>rfl
 |p::r=>by
  rw[xiw];by_cases e:p.1=k
  ·simp only[ziw e,xcj e,Bool.true_or,Option.isSome_some]
  ·rw[zix e,xcm e,Bool.false_or];exact zug k r
def zho(a:List (κ×V))(k:κ)(v:V):(putK a k v).length<=a.length+1:=by
 unfold putK;split
 ·rw[xbb];lia
 ·rw[xbk,xbv,xiz];lia
def RelO.isSome_eq(r:RelO o u):o.isSome=u.isSome:=by
 cases o with
 |none=>cases u with
  |none=>rfl
  |some _=>exact(show False from r).elim
 |some _=>cases u with
  |none=>exact(show False from r).elim
  |some _=>rfl
def RelO.getD(r:RelO o u)(a:RelV d d'):RelV (o.getD d) (u.getD d'):=by
 cases o with
 |none=>cases u with
  |none=>exact a
  |some _=>exact(show False from r).elim
 |some _=>cases u with
  |none=>exact(show False from r).elim
  |some _=>exact r
def KV.val(r:KV kvs vs)(k:κ):RelO (valV kvs k) (valueAt vs k):=by
 unfold KV at r
 induction r with
 |nil=>exact True.intro
 |@cons p q ps qs h t ih=>
  obtain⟨c,d⟩:=h;by_cases e:p.1=k
  ·have a:q.1=k:=c.symm.trans e;have b:valueAt (q::qs) k=some q.2:=by simp[valueAt,xfc,a]
   rw[ziw e,b];exact d
  ·have a:¬ q.1=k:=λz=>e (c.trans z)
   have b:valueAt (q::qs) k=valueAt qs k:=by simp[valueAt,xfc,a]
   rw[zix e,b];exact ih
def KV.any(r:KV kvs vs)(k:κ):(kvs.any λa=>decide (a.1=k))=vs.any λa=>decide (a.1=k):=by
 unfold KV at r
 induction r with
 |nil=>rfl
 |cons h t ih=>rw[xiw,xiw,ih,h.1]
def KV.repl(r:KV kvs vs)(k:κ) (d:RelV y u):
  KV (kvs.map λa=>if a.1=k then(a.1,y) else a) (vs.map λa=>if a.1=k then(a.1,u) else a):=by
 unfold KV at r ⊢
 induction r with
 |nil=>exact .nil
 |@cons p q ps qs h t ih=>
  rw[xbr,xbr];refine .cons ?_ ih;obtain⟨b,c⟩:=h;by_cases e:p.1=k
  ·rw[if_pos e,if_pos (b.symm.trans e)];exact⟨b,d⟩
  ·rw[if_neg e,if_neg (λz=>e (b.trans z))];exact⟨b,c⟩
def KV.put(r:KV kvs vs)(k:κ) (a:RelV y u):KV (putK kvs k y) (stored vs k u):=by
 unfold putK stored;rw[r.any k];by_cases e:(vs.any λb=>decide (b.1=k))=true
 ·rw[if_pos e,if_pos e];exact r.repl k a
 ·rw[if_neg e,if_neg e];exact Paired.snoc r ⟨rfl,a⟩
def KV.drop(r:KV kvs vs)(k:κ):KV (dropK kvs k) (without vs k):=by
 unfold KV at r ⊢;unfold dropK without
 induction r with
 |nil=>exact .nil
 |@cons p q ps qs h t ih=>
  obtain⟨c,d⟩:=h;rw[xlq,xlq];by_cases e:p.1=k
  ·have a:¬ decide (p.1≠k)=true:=by simp[e]
   have b:¬ decide (q.1≠k)=true:=by simp[c.symm.trans e]
   rw[if_neg a,if_neg b];exact ih
  ·have f:¬ q.1=k:=λz=>e (c.trans z)
   have a:decide (p.1≠k)=true:=by simp[e]
   have b:decide (q.1≠k)=true:=by simp[f]
   rw[if_pos a,if_pos b];exact .cons ⟨c,d⟩ ih
def KV.keys{a:List (κ×V)}{b:List (κ×Value)}(r:KV a b):a.map (·.1)=b.map (·.1):=by
 unfold KV at r
 induction r with
 |nil=>rfl
 |cons h t ih=>rw[xbr,xbr,ih,h.1]
def KV.length(r:KV kvs vs):kvs.length=vs.length:=xiv r
def zbix(a:List (κ×V))(k:κ):(dropK a k).length<=a.length:=xfy _ _
end
def zbht(r:RelV (kV k) u):(mixKind P w).is k u=true:=by
 cases k with
 |inl i=>obtain⟨t,e⟩:=(show ∃t,u=Value.int i t from r);subst e;exact ztt P w i t
 |inr x=>obtain⟨t,e⟩:=(show ∃t,u=Value.str x t from r);subst e;exact zts P w x t
def zsb:∀{a b},Vals (a.map kV) b->ItemsAre (mixKind P w) a b
 |[],_,r=>by rw[xns] at r;cases r;exact .nil
 |k::a,_,r=>by
  rw[xbr] at r;cases r with
  |cons h t=>exact .cons (zbht h) (zsb t)
abbrev KT(H:Hp):List (List Key×V)->List (List Key×Addr×Value)->Prop:=Paired λp q=>p.1=q.1/\H q.2.1=some (.tup (p.1.map kV))/\RelV p.2 q.2.2
def KT.val(r:KT H kvs xs)(k:List Key):RelO (valV kvs k) ((atKey xs k).map (·.2)):=by
 induction r with
 |nil=>exact True.intro
 |@cons p q ps qs h t ih=>
  obtain⟨c,_,d⟩:=h;by_cases e:p.1=k
  ·have a:q.1=k:=c.symm.trans e;have b:atKey (q::qs) k=some q.2:=by simp[atKey,xfc,a]
   rw[ziw e,b];exact d
  ·have a:¬ q.1=k:=λz=>e (c.trans z)
   have b:atKey (q::qs) k=atKey qs k:=by simp[atKey,xfc,a]
   rw[zix e,b];exact ih
def KT.repl(r:KT H kvs xs)(k:List Key) (d:RelV y u):
  KT H (kvs.map λb=>if b.1=k then(b.1,y) else b) (xs.map (putAt k u)):=by
 induction r with
 |nil=>exact .nil
 |@cons p q ps qs h t ih=>
  rw[xbr,xbr];refine .cons ?_ ih;obtain⟨a,c,f⟩:=h;unfold putAt;by_cases e:p.1=k
  ·rw[if_pos e,if_pos (a.symm.trans e)];exact⟨a,c,d⟩
  ·rw[if_neg e,if_neg (λz=>e (a.trans z))];exact⟨a,c,f⟩
def KT.put(r:KT H kvs xs)(k:List Key) (c:H b=some (.tup (k.map kV)))(a:RelV y u):
  KT H (putK kvs k y) (storedH xs k b u):=by
 have e:(kvs.any λd=>decide (d.1=k))=(atKey xs k).isSome:=by
  rw[zug,(r.val k).isSome_eq,Option.isSome_map]
 unfold putK storedH;rw[e];by_cases q:(atKey xs k).isSome=true
 ·rw[if_pos q,if_pos q];exact r.repl k a
 ·rw[if_neg q,if_neg q];exact Paired.snoc r ⟨rfl,c,a⟩
def KT.keeps(r:KT H kvs xs)(c:∀b a,H b=some (.tup a)->H' b=some (.tup a)):KT H' kvs xs:=
 Paired.mapP r λ_ _ z=>⟨z.1,c _ _ z.2.1,z.2.2⟩
def zbwr(b:HOk P w H h)(e:Rd H a u):ObjOk P w H h a u:=e.ok b
def zbiz(b:HOk P w H h)(e:Rd H a (.dK kvs)):kvs.length<=sizeLine/\(a==sysModules)=false/\∃vs,KV kvs vs/\h.DictOf (mixKind P w) a vs:=
 show ObjOk P w H h a (.dK kvs) from zbwr b e
def zbve(b:HOk P w H h)(e:H a=some (.dK kvs)):kvs.length<=sizeLine/\(a==sysModules)=false/\∃vs,KV kvs vs/\h.DictOf (mixKind P w) a vs:=zbiz b (.inl e)
def ztv{c:List Key}(i:HOk P w H h)(e:H a=some (.tup (c.map kV))):(tupleKind (mixKind P w)).is h c a:=by
 obtain⟨_,b,r,o,d,g,n,f⟩:=(show ObjOk P w H h a (.tup (c.map kV)) from i a _ e)
 exact⟨o,b.toArray,n,d,g,f,by simpa using zsb r⟩
def zbkr(c:HOk P w H h)(e:Rd H a (.dT kvs)):kvs.length<=sizeLine/\(a==sysModules)=false /\
  ∃xs,KT H kvs xs/\h.DictOfH (tupleKind (mixKind P w)) a xs:=by
 obtain⟨z,y,xs,r,o,n,g,d,k,j,i,f⟩:=(show ObjOk P w H h a (.dT kvs) from zbwr c e)
 refine⟨z,y,xs,r,o,n,g,d,k,j,i,λx hx=>?_,f⟩;have b:∀{l m},KT H l m->∀x∈m,(tupleKind (mixKind P w)).is h x.1 x.2.1:=by
  intro l m q
  induction q with
  |nil=>intro x hx;exact nomatch hx
  |@cons p q ps qs hq t ih=>
   intro x hx;rcases xbm.mp hx with e|hx
   ·subst e;exact ztv c (by rw[←hq.1];exact hq.2.1)
   ·exact ih x hx
 exact b r x hx
def zbxd(b:HOk P w H h)(e:H a=some (.dT kvs)):kvs.length<=sizeLine/\(a==sysModules)=false /\
 ∃xs,KT H kvs xs/\h.DictOfH (tupleKind (mixKind P w)) a xs:=zbkr b (.inl e)
def DGet(H:Hp) (a:Addr) (y:V) (r:Option V):Prop:=
 (∃c k,Rd H a (.dK c)/\y=kV k/\r=valV c k)\/∃c k b,Rd H a (.dT c)/\y=.ref b/\H b=some (.tup (k.map kV))/\r=valV c k
def DPut(H:Hp) (a:Addr) (y v:V) (d:Hp):Prop:=
 (∃c k,H a=some (.dK c)/\y=kV k/\c.length<sizeLine/\d=upd H a (.dK (putK c k v))) \/
 ∃c k b,H a=some (.dT c)/\y=.ref b/\H b=some (.tup (k.map kV))/\c.length<sizeLine/\d=upd H a (.dT (putK c k v))
def DPut.t{k:List Key}(e:H a=some (.dT kvs))(c:H b=some (.tup (k.map kV)))(d:kvs.length<sizeLine):
 DPut H a (.ref b) v (upd H a (.dT (putK kvs k v))):=.inr ⟨kvs,k,b,e,rfl,c,d,rfl⟩
def Inv.big(I:Inv X aU σ H s):sysModules<s.heap.objs.size:=by
 have h:mainGlobals<s.heap.objs.size:=(I.mod.glob.keeps I.bk).lt;exact xjm (by decide) h
def zbbt{A:Around}(x:A.units+1<cLine)(I:Inv X aU σ H s)(g:DGet H a y (some v))(r:RelV y u)(h:∀f t,Inv X aU σ H t->RelV v f->Q f t):
  wpAny (model X.prog X.w) A (getItem (.ref a) u) Q E s:=by
 rcases g with⟨i,k,e,q,l⟩|⟨i,k,b,e,q,w,l⟩
 ·subst q;obtain⟨z,P,C,d,n⟩:=zbiz I.hok e;obtain⟨f,m,c⟩:=RelO.some_of (v:=v) (o:=valueAt C k) (by rw[l];exact d.val k);exact wpAny_getItem_of (zbht r) n.mapOf m (h f _ (I.tok _) c)
 ·subst q;cases(show u=Value.ref b from r);obtain⟨z,P,G,d,n⟩:=zbkr I.hok e;obtain⟨f,m,c⟩:=RelO.some_of (v:=v) (o:=(atKey G k).map (·.2)) (by rw[l];exact d.val k);obtain⟨p,J,j⟩:=xdh.mp m;refine wpAny_getItem_heap (xje x) (ztv I.hok w) n J ?_;rw[j];exact h f _ (I.tok _) c
def d_in{A:Around}(r:A.units+1<cLine)(I:Inv X aU σ H s)(g:DGet H a y o)(m:RelV y u)(h:∀n,Inv X aU σ H n->Q (.bool o.isSome) n):
  wpAny (model X.prog X.w) A (compareOp .In u (.ref a)) Q E s:=by
 rcases g with⟨d,k,e,j,l⟩|⟨d,k,b,e,j,p,l⟩
 ·subst j;obtain⟨z,f,t,c,i⟩:=zbiz I.hok e;refine wpAny_in_of (zbht m) f i.mapOf ?_;rw[←(c.val k).isSome_eq,←l];exact h _ (I.tok _)
 ·subst j;cases(show u=Value.ref b from m);obtain⟨z,f,v,c,i⟩:=zbkr I.hok e;refine wpAny_in_heap (xje r) (ztv I.hok p) f i ?_;have q:=(c.val k).isSome_eq;rw[Option.isSome_map] at q;rw[←q,←l];exact h _ (I.tok _)
def zog(I:Inv X aU σ H s)(h:Mut (H a))(g:Heap.SameBut a s.heap h')(f:∃q,h'.get? a=some q)(c:ObjOk X.prog X.w (upd H a ob) h' a ob):
  Inv X aU σ (upd H a ob) {s with heap:=h',toks:=t'}:=
 I.write (x:=a) (e:=a) h (.inl rfl) (λb q d z=>(g.2 b d).trans z) f c
def zbja{d:Heap}{b:List (Key×V)}(z:b.length<=sizeLine)(e:(a==sysModules)=false)(c:KV b vs)(f:d.DictOf (mixKind P w) a vs):
 ObjOk P w H' d a (.dK b):=⟨z,e,vs,c,f⟩
def zbbr{A:Around}(hu:A.units+1<cLine)(I:Inv X aU σ H s)(g:DPut H a y v H')(P:RelV y u)(J:RelV v r)(h:∀S,Inv X aU σ H' S->Q () S):
  wpAny (model X.prog X.w) A (setItem (.ref a) u r) Q E s:=by
 rcases g with⟨f,k,e,n,l,o⟩|⟨f,k,b,e,n,G,l,o⟩
 ·subst n o;obtain⟨z,t,vs,d,w⟩:=zbve I.hok e;have p:vs.length<=sizeLine:=by rw[←d.length];exact z
  have x:(putK f k v).length<=sizeLine:=by have:=zho f k v;lia
  refine wpAny_setItem_pairs (hsz:=p) (zbht P) w λC i m=>h _ ?_
  have he:∃q,C.get? a=some q:=let ⟨q,_,_,j,_⟩:=i;⟨q,j⟩
  exact zog I (by rw[e];exact True.intro) m he (zbja x t (d.put k J) i)
 ·subst n o;cases(show u=Value.ref b from P);obtain⟨z,t,Y,d,w⟩:=zbxd I.hok e;have p:Y.length<=sizeLine:=by rw[←xiv d];exact z
  have x:(putK f k v).length<=sizeLine:=by have:=zho f k v;lia
  refine wpAny_setItem_heap (hsz:=p) (xje hu) (ztv I.hok G) w λC i m=>h _ ?_
  obtain⟨q,es,ep,j,h2,U,h4,_,h5⟩:=i;refine zog I (by rw[e];exact True.intro) m ⟨q,j⟩ ⟨x,t,_,(d.put k G J).keeps λc ys T=>?_,q,es,ep,j,h2,U,h4,h5⟩;rw[zw (zbwy T e (λz=>nomatch z))];exact T
def zbyr(I:Inv X aU σ H s)(e:H a=some (.dK kvs))(f:RelV (kV k) u)(l:valV kvs k=some v)(m:more=[]\/∃x,more=[x])
  (h:∀ c j,Inv X aU σ (upd H a (.dK (dropK kvs k))) j->RelV v c->Q c j):wpAny (model X.prog X.w) A (call (.builtin "dict.pop") (.ref a::u::more)) Q E s:=by
 obtain⟨z,J,n,b,p⟩:=zbve I.hok e;obtain⟨c,P,g⟩:=RelO.some_of (v:=v) (o:=valueAt n k) (by rw[←l];exact b.val k);have C:(keyPart u).isSome=true:=by
  cases k with
  |inl i=>obtain⟨t,q⟩:=(show ∃t,u=Value.int i t from f);subst q;rfl
  |inr x=>obtain⟨t,q⟩:=(show ∃t,u=Value.str x t from f);subst q;rfl
 have w:argsOk "dict.pop" ⟨.ref a::u::more,[]⟩:=by
  rcases m with q|⟨x,q⟩
  ·subst q;exact F.args_dict_pop_2 _ _
  ·subst q;exact F.args_dict_pop_3 _ _ _
 refine xml xjn p.typeIs F.entry_dict_pop w (meets_dict_pop_there (mixKind X.prog X.w) a (zbht f) more m C)
  ⟨n,c,p,by rw[←b.length];exact z,P,λr d y=>h c _ ?_ g⟩
 have G:∃q,r.get? a=some q:=let ⟨q,_,_,hq,_⟩:=d;⟨q,hq⟩
 exact zog I (by rw[e];exact True.intro) y G (zbja (xbc (zbix kvs k) z) J (b.drop k) d)
noncomputable def NoSl(i:Expr):Prop:=∀b a,subscripted i false b a=operate [b,a] (getItem b a)
def zblr{T id:String}
  (k:typeLookup (.type T) "__getitem__"=pure (some (.builtin id)))(g:NoSl slice)
  (h:wpAny (model prog w) A (eval value env) (λo c=>wpAny (model prog w) A (eval slice env) (λi s₂=>s₂.TypeIs o T/\wpAny (model prog w) A (getItem o i) Q E s₂) E c) E s):
  wpAny (model prog w) A (eval (.Subscript value slice pos) env) Q E s:=by
 refine Subscript_ (xey h (λo c j=>xey j (λi s₂ b=>?_) λ_ _ x=>x) λ_ _ x=>x);obtain⟨e,b⟩:=b;unfold subscriptTail;refine xba ?_;rw[getitemInPython_of_ne e.not_modules];refine xba (wpAny_specialOf e k ?_);have a:wpAny (model prog w) A (subscripted slice false o i) (λr d=>wpAny (model prog w) A (letTemporaryGo value o r >>= λ_=>pure r) Q E d) E s₂:=by
  rw[g o i];exact wpAny_operating (xey b (λr d f=>xba (wpAny_letTemporaryGo (xbe f))) λ_ _ x=>x)
 first
  |exact xbe (xba a)
  |exact xba (xbe (xba a))
  |exact xba a
def ztw(I:Inv X aU σ H s)(g:DGet H a y o):s.TypeIs (.ref a) "dict":=by
 rcases g with⟨c,k,e,_,_⟩|⟨c,k,b,e,_,_,_⟩
 ·obtain⟨_,_,f,_,d⟩:=zbiz I.hok e;exact d.typeIs
 ·obtain⟨_,_,h,_,d⟩:=zbkr I.hok e;exact d.typeIs
def tDGet(b c:TE):TE:=λσ H Q=>b σ H λx H1=>c σ H1 λy H2=>∃a v,x=.ref a/\DGet H2 a y (some v)/\Q v H2
def tDIn(c b:TE):TE:=λσ H Q=>c σ H λy H1=>b σ H1 λx H2=>∃a o,x=.ref a/\DGet H2 a y o/\Q (.bl o.isSome) H2
def sDPut(e c d:TE):TS:=λD σ H=>d σ H λv H1=>e σ H1 λx H2=>c σ H2 λy H3=>∃a b,x=.ref a/\DPut H3 a y v b/\D.nx σ b
def zbmz{X:Cx}(q:X.A.units+1<cLine)(l:PE X o td)(w:PE X i ty)(k:NoSl i):PE X (.Subscript o i pos) (tDGet td ty):=by
 intro d s σ H Q I h;refine zblr F.slot_dict_getitem.lookup k (thn (l d s σ H _ I h) λu t ⟨x,H1,r,f,z⟩=>thn (w d t σ H1 _ r z) λA E b=>?_);obtain⟨y,H2,e,m,a,v,n,g,p⟩:=b;subst n;obtain rfl:u=Value.ref a:=f;exact⟨ztw e g,zbbt q e g m λC G j c=>⟨v,H2,j,c,p⟩⟩
def zbtf{X:Cx}(k:X.A.units+1<cLine)(m:PE X i ty)(e:PE X o td):PC X .In i o (tDIn ty td):=by
 intro c s σ H Q I h;refine thn (m c s σ H _ I h) λz l ⟨y,H1,t,j,n⟩=>thn (e c l σ H1 _ t n) λu A b=>?_
 obtain⟨x,H2,q,d,a,v,r,g,p⟩:=b;subst r;obtain rfl:u=Value.ref a:=d;exact d_in k q g j λw f=>⟨.bl v.isSome,H2,f,rfl,p⟩
def zbml{X:Cx}{b:Pos}(A:X.A.units+1<cLine)(m:PE X o td)(P:PE X i ty)(p:PE X value tv)(k:swapsWith value (some (.Subscript o i pos')) b.line X.env=pure false):
  PS X (.Assign [.Subscript o i pos'] value b) (sDPut td ty tv):=by
 intro c s σ H D I h;refine wpAny_Assign_Subscript (thn (p c s σ H _ I h) λr J ⟨v,H1,G,l,Q⟩=>thn (m c J σ H1 _ G Q) λu w ⟨x,H2,E,e,t⟩=>thn (P c w σ H2 _ E t) λS T d=>?_) k;obtain⟨y,H3,f,n,a,C,q,g,z⟩:=d;subst q;obtain rfl:u=Value.ref a:=e;exact zbbr A f g n l λU j=>⟨σ,C,j,z⟩
def zbjb(h:Heap)(a:sysModules<h.objs.size):ObjOk P w H (h.push { cls:=.type "dict",data:=.dict #[] }) h.objs.size (.dK []):=
 ⟨xec _,xfv.mpr (xdn (xci a)),[],.nil,Heap.DictOf.new h⟩
def zbio(h:Heap)(a:sysModules<h.objs.size):ObjOk P w H (h.push { cls:=.type "dict",data:=.dict #[] }) h.objs.size (.dT []):=
 ⟨xec _,xfv.mpr (xdn (xci a)),[],.nil,_,#[],0,xbz _ rfl,⟨rfl,rfl,rfl⟩,rfl,rfl,xfs⟩
def tDNewK:TE:=λ_ H Q=>∀p,H p=none->Q (.ref p) (upd H p (.dK []))
def tDNewT:TE:=λ_ H Q=>∀p,H p=none->Q (.ref p) (upd H p (.dT []))
def zbgk:PE X (.Dict [] [] pos) tDNewK:=λb s σ H Q I h=>
 wpAny_Dict_empty ⟨.ref s.heap.objs.size,_,I.laid (a:=s.heap.objs.size) (o:=.dK []) (t':=s.toks) (λ_ _ q=>xbg _ q) (xbl _) (zbjb s.heap I.big),rfl,h _ (I.hok.fresh (xbl _))⟩
def zbgj:PE X (.Dict [] [] pos) tDNewT:=λb s σ H Q I h=>
 wpAny_Dict_empty ⟨.ref s.heap.objs.size,_,I.laid (a:=s.heap.objs.size) (o:=.dT []) (t':=s.toks) (λ_ _ q=>xbg _ q) (xbl _) (zbio s.heap I.big),rfl,h _ (I.hok.fresh (xbl _))⟩
structure M1 (X:Cx) (o:Expr) (m:Str) (apos:Pos) (e:Expr) (cpos:Pos):Prop where
 base:attributeBase o m X.env (eval o X.env)=eval o X.env
 few:((backTo cpos (starEach [e] X.env)).all (λx=>!x.1)&&(backToKw cpos (keywordEach [] X.env)).all (λx=>x.1.isSome)
  && decide (([e]:List Expr).length+([]:List Keyword).length+(if([]:List Keyword).isEmpty then 0 else 1)<30))=true
 line:(apos.endLine==cpos.line)=true
 trees:backTo cpos (starEach [e] X.env)=[(false,eval e X.env)]
structure M2 (X:Cx) (o:Expr) (m:Str) (apos:Pos) (e f:Expr) (cpos:Pos):Prop where
 base:attributeBase o m X.env (eval o X.env)=eval o X.env
 few:((backTo cpos (starEach [e,f] X.env)).all (λx=>!x.1)&&(backToKw cpos (keywordEach [] X.env)).all (λx=>x.1.isSome)
  && decide (([e,f]:List Expr).length+([]:List Keyword).length+(if([]:List Keyword).isEmpty then 0 else 1)<30))=true
 line:(apos.endLine==cpos.line)=true
 trees:backTo cpos (starEach [e,f] X.env)=[(false,eval e X.env),(false,eval f X.env)]
def IsD(H:Hp) (a:Addr):Prop:=(∃b,Rd H a (.dK b))\/∃b,Rd H a (.dT b)
def zboy(I:Inv X aU σ H s)(d:IsD H a):
  s.TypeIs (.ref a) "dict"/\(∀ b,Value.ref a=.ref b->∃ c,s.heap.get? b=some c/\c.dict=none)/\(a==sysModules)=false:=by
 rcases d with⟨g,e⟩|⟨g,e⟩
 ·obtain⟨_,j,k,_,f⟩:=zbiz I.hok e;refine⟨f.typeIs,λb q=>?_,j⟩;cases q;obtain⟨c,_,_,h,i,_⟩:=f;exact⟨c,h,i.2.1⟩
 ·obtain⟨_,j,l,_,f⟩:=zbkr I.hok e;refine⟨f.typeIs,λb q=>?_,j⟩;cases q;obtain⟨c,_,_,h,i,_⟩:=f;exact⟨c,h,i.2.1⟩
def zbvl{A:Around}(w:A.units+1<cLine)(I:Inv X aU σ H s)(g:DGet H a y o)(p:RelV y u)(t:RelV d r)(h:∀n q,Inv X aU σ H q->RelV (o.getD d) n->Q n q):
  wpAny (model X.prog X.w) A (call (.builtin "dict.get") [.ref a,u,r]) Q E s:=by
 rcases g with⟨i,k,e,m,l⟩|⟨i,k,b,e,m,v,l⟩
 ·subst m;obtain⟨z,j,C,c,f⟩:=zbiz I.hok e;refine xml xlx f.typeIs F.entry_dict_get (F.args_dict_get_3 _ _ _) (meets_dict_get_default (mixKind X.prog X.w) a (zbht p) j r) ⟨_,f.mapOf,h _ _ (I.tok _) ?_⟩;rw[l];exact(c.val k).getD t
 ·subst m;cases(show u=Value.ref b from p);obtain⟨z,j,x,c,f⟩:=zbkr I.hok e;refine xml xlx f.typeIs F.entry_dict_get (F.args_dict_get_3 _ _ _) (meetsH_dict_get_default (tupleKind (mixKind X.prog X.w)) a b j r) ⟨xje w,k,x,ztv I.hok v,f,h _ _ (I.tok _) ?_⟩;rw[l];exact(c.val k).getD t
def tDGet2(b d c:TE):TE:=λσ H Q=>b σ H λx H1=>∃a,x=.ref a/\IsD H1 a/\d σ H1 λy H2=>c σ H2 λz H3=>∃o,DGet H3 a y o/\Q (o.getD z) H3
def zbgl{X:Cx}(J:X.A.units + 1<cLine)(q:PE X o td)(P:PE X e ty)(E:PE X f tx)(m:M2 X o "get" apos e f cpos):PE X (.Call (.Attribute o "get" apos) [e,f] [] cpos) (tDGet2 td ty tx):=by
 intro b s σ H Q I h;refine wpAny_Call_method m.base m.few m.line xis xlx F.type_dict_get (thn (q b s σ H _ I h) λu T c=>?_);obtain⟨x,H1,j,k,a,v,d,U⟩:=c;subst v;obtain rfl:u=Value.ref a:=k;obtain⟨p,C,_⟩:=zboy j d;refine⟨p,C,?_⟩;rw[m.trees]
 refine xjg rfl (xma (xiy (thn (P b T σ H1 _ j U) λiv A ⟨y,H2,S,r,w⟩=>
  xiy (thn (E b A σ H2 _ S w) λY s3 ⟨z,H3,l,t,ov,g,G⟩=>xlf ?_))))
 exact zbvl J l g r t λw' s4 n i=>⟨_,H3,n,i,G⟩
end L2
namespace Att
open PySem.W Calls PyProof.Rows
def zke:∀(ns:List Int) (c:List Value),WellAll P h c (ns.map WData.int)->IntsAre c ns:=by
 intro ns
 induction ns with
 |nil=>
  intro c w;rw[xns] at w;cases w;exact .nil
 |cons n ns ih=>
  intro c w;rw[xbr] at w;cases w with
  |cons a b=>
   cases a;exact .cons _ _ (ih _ b)
def zzn{l:OpenLaw}(t:l.most=some n)
  (c:l.row.toRowW.claim.pre args=true)(j:WellAll P h vals args):
  ∃ a k b,vals=[Value.ref a]/\args=[WData.list (b.map WData.int)]/\h.get? a=some { cls:=.type "list",data:=.seq k.toArray }/\IntsAre k b/\b.length<=n:=by
 have i:WShape.hasAll [] args [.list .int]=true:=(pre_splitW c).1;have m:l.pre.holds [] {args:=args}=true:=(pre_splitW c).2;obtain⟨d,r,rfl,o,s⟩:=hasAllW_cons i;obtain rfl:=hasAllW_nil s;obtain⟨v,rfl,p⟩:=hasW_list o;obtain⟨b,rfl⟩:=items_int p;have e:b.length<=n:=by
  unfold OpenLaw.pre at m;have g:(WTm.not (.lt (.lit (.int (n:Int))) (.len (.arg 0)))).holds [] {args:=[.list (b.map .int)]}=true:=by
   have g:=(holds_andW m).1;rw[t] at g;exact g
  have f:=condW_of g (w_not (w_lt w_lit (w_len_list (w_arg rfl))));rw[xbb] at f;refine xcq λq=>?_
  have u:(n:Int)<((b.length:Nat):Int):=by lia
  first
   | (rw[xcj u] at f;exact absurd f (by decide))
   | (simp at f;lia)
 cases j with
 |cons w1 w2=>
  cases w2;cases w1 with
  |list ho hall=>exact⟨_,_,b,rfl,rfl,ho,zke b _ hall,e⟩
def zzw(l:OpenLaw)(args:List WData):l.row.toRowW.claim.post args (.bool true) args=true:=
 postW_of (r:=l.row.toRowW) (X:=(true==true))
  (show WShape.has [] (.bool true) .bool=true by first|rfl|decide|simp[WShape.has,WShape.arms,WShape.armsAll])
  (show(WTm.eq .res (.lit (.bool true))).value [] {args:=args,res:=some (.bool true),after:=args}=some (.bool (true==true)) from w_eq_bool (w_res rfl) w_lit) rfl
def attach_call{l:OpenLaw}{d:DefRec}
  (Q:l.most=some n)(y:d.params.defaults=[])
  (call:∀(w:World) (u b:Shared) (s v:Str->Option Value) (h:Addr) (o:Obj) (C m e:Value) (a:Addr) (g:List Value) (p:List Int),
   Ground q loose [] XP w u s v b.heap->YP w b.heap ->
   b.heap.get? h=some o->o.data=.func (docDef d.name d.params d.body d.scope C m e)->b.heap.CodeRec m d.name->s d.name=some (.ref h) ->
   b.heap.get? a=some { cls:=.type "list",data:=.seq g.toArray }->IntsAre g p->p.length<=n->b.gens=#[] ->
   codeAny (model l.prog w) callerA (.call (.ref h) ⟨[.ref a],[]⟩) (λr t=>r=.ok (.ret (.bool true))/\OldK b.heap t.heap/\t.os=b.os/\AllBare t.gens) b):
  WalkO q loose XP YP l.row.toRowW d [] (λf g=>PySem.call f g):=by
 intro w u b s v G Y h o C m e U kV T hd A I z hg E J as k H a0 x S;obtain rfl:U=.none:=Dflts.none I y;obtain rfl:kV=.none:=Dflts.noKw I;obtain⟨a,g,p,rfl,rfl,i,c,j⟩:=zzn Q k x;refine enter_call (xjr (call w u b s v h o C m e a g p G Y T (fd_plain hd) A z i c j hg) λr t hq=>?_);obtain⟨rfl,X,P,h4⟩:=hq;exact⟨.inl ⟨.bool true,.bool true,[],rfl,λ_=>rfl,.bool true,zzw l _,λ_=>⟨List.Pairwise.nil,λ_ hm=>(nomatch hm)⟩⟩,X,P,h4⟩
end Att
namespace L2
open Spec PyProof.Rows
def zqy:∀{a b},IntsAre a b->Vals (b.map V.int) a
 |_,_,.nil=>.nil
 |_,_,.cons n t h=>.cons ⟨t,rfl⟩ (zqy h)
def Only(H:Hp):Prop:=∀b,H b=none\/∃o a,H b=some (.frz o (.lst a))
def zbhk{K:Fg}{s₁:Shared}{t:List Value}
  (KX:K.In s₁.heap)(E:s₁.heap.Ns mainGlobals mg)(f:s₁.heap.Ns builtinsNs mb)(a0:∀ x:Str,x≠"__name__"->mb x=bootBuiltins x)(C:s₁.heap.NoLimit)(hg:s₁.gens=#[])
  (T:s₁.heap.get? a=some { cls:=.type "list",data:=.seq t.toArray })(hi:IntsAre t ns)(hl:ns.length<=sizeLine)(hr:Room k callerA)
  (F:∀i:Heap,K.In i->i.Ns mainGlobals mg->FnOk P w K mg i CX k fa fd [x] sp)(p:∀(s:Shared) (u:Value),BindsTo s fd ⟨[u],[]⟩ [(x,u)])
  (Y:∀H:Hp,Only H->SqL K H a (ns.map V.int)->sp [.ref a] H (λv _=>v=.bl true) λ_ _ _=>False)
  (U:∀H e g,CX [] H s₁ (λ_ _ _=>False) e g->False):
  codeAny (model P w) callerA (.call (.ref fa) ⟨[.ref a],[]⟩) (λr g=>r=.ok (.ret (.bool true))/\OldK s₁.heap g.heap/\g.os=s₁.os/\AllBare g.gens) s₁:=by
 have rv:=zqy hi;have J:=hi.length;have l:∀H:Hp,Only H->SqL K H a (ns.map V.int)->HOk P w H s₁.heap->(∀b,H b≠none->b=a)->(H a≠none->K.lookup a=none) ->
   codeAny (model P w) callerA (.call (.ref fa) ⟨[.ref a],[]⟩) (λr g=>r=.ok (.ret (.bool true))/\OldK s₁.heap g.heap/\g.os=s₁.os/\AllBare g.gens) s₁:=by
  intro H hO hS G hA hK;have c:∀{b o},s₁.heap.get? b=some o->H b=none->(hidT s₁.heap H).get? b=some o:=λe n=>zbie e n
  have X:∀{b o I ep},s₁.heap.get? b=some o->o.data=.dict I ep->H b=none:=λ{b o I ep} e d=>by
   cases q:H b with
   |none=>rfl
   |some u=>
    have e':b=a:=hA b (by rw[q];simp);subst e';rw[T] at e;cases e
    have d':Data.seq t.toArray _=Data.dict I ep:=d;cases d'
  have j:∀{b m},s₁.heap.Ns b m->(hidT s₁.heap H).Ns b m:=λ{b m} ⟨o,I,ep,e,d,r⟩=>⟨o,I,ep,c e (X e d),d,r⟩
  have A:K.In (hidT s₁.heap H):=λb o e=>c (KX b o e) (by
   cases q:H b with
   |none=>rfl
   |some u=>
    have e':b=a:=hA b (by rw[q];simp);subst e'
    rw[hK (by rw[q];simp)] at e;cases e)
  have hM:Mod K mg (hidT s₁.heap H):=⟨A,j E,⟨mb,j f,a0⟩,let ⟨mc,h1,h2⟩:=C;⟨mc,j h1,h2⟩⟩
  have e0:Env0 P w K mg (hidT s₁.heap H) callerA [] s₁ H:=⟨rfl,hM,λb o e=>zbnq e,xdr (zbbf _ _),trivial,λb f=>absurd (show b∈([]:List Addr) from f) (by simp),G,.of_eq hg⟩
  refine xjr ((F _ A (j E)).run callerA [] s₁ H ⟨[.ref a],[]⟩ [.ref a] [.ref a] _ _ hr e0 (p s₁ (.ref a)) (.cons rfl .nil) (Y H hO hS)) λr g h=>?_
  cases r with
  |error e=>exact(U H e g h).elim
  |ok fl=>
   cases fl with
   |next=>exact False.elim h
   |brk=>exact False.elim h
   |cont=>exact False.elim h
   |ret u=>
    obtain⟨v,H',os,S,un,Q,r',q⟩:=h;have q':v=.bl true:=q;subst q';obtain rfl:u=Value.bool true:=r';refine⟨rfl,OldK.of_keep λb o e=>?_,os,S⟩;cases q:H b with
    |none=>exact un.keep b o e q (by intro z;exact absurd (show b∈([]:List Addr) from z) (by simp)) (by simp)
    |some u=>
     rcases hO b with z|⟨ob,xs,z⟩
     ·rw[q] at z;cases z
     ·have z2:=un.frzs b ob _ z;obtain⟨e1,_⟩:=G b _ z;obtain⟨e2,_⟩:=Q b _ z2;rw[e] at e1;cases e1
      exact e2
 cases hk:K.lookup a with
 |some o=>
  have e:=KX a o hk;rw[T] at e;cases e;refine l (λ_=>none) (λ_=>.inl rfl) (.inr ⟨_,t.toArray,_,hk,rfl,rfl,rfl,by rw[xbw,J];exact hl,by simpa using rv⟩) (λb u z=>by have y:(none:Option HO)=some u:=z;cases y) (λb z=>absurd rfl z) λz=>absurd rfl z
 |none=>
  refine l (λb=>if b=a then some (.frz { cls:=.type "list",data:=.seq t.toArray } (.lst (ns.map V.int))) else none) (λb=>?_) (.inl (.inr ⟨{ cls:=.type "list",data:=.seq t.toArray },if_pos rfl⟩)) (λb u z=>?_) (λb z=>?_) λ_=>hk
  ·by_cases f:b=a
   ·exact .inr ⟨_,_,if_pos f⟩
   ·exact .inl (if_neg f)
  ·by_cases f:b=a
   ·have y:=(if_pos f).symm.trans z;cases y;subst f;exact⟨T,by rw[xbb];exact hl,t,_,rv,T⟩
   ·have y:=(if_neg f).symm.trans z;cases y
  ·by_cases f:b=a
   ·exact f
   ·exact absurd (if_neg f) z
def zbky{l:W.OpenLaw}{n k:Nat}{q:Program}{i:List Str}{XP:(Str->Option Value)->Heap->Prop}{J:World->Heap->Prop}{d:DefRec}{K:Params->Fg}{CX:World->CXT}{sp:World->Sp}{x:Str}
  (S:l.most=some n)(t:n<=sizeLine)(A:d.params.defaults=[])(hr:Room k callerA)
  (U:∀(w:World) (h:Heap),J w h->(K w.params).In h)
  (F:∀(w:World) (j:Str->Option Value) (p:Addr) (h:Heap),(K w.params).In h->h.Ns mainGlobals j->j d.name=some (.ref p) ->
   ∃y:FuncData,(∀(s:Shared) (u:Value),BindsTo s y ⟨[u],[]⟩ [(x,u)]) /\
    ∀b:Heap,(K w.params).In b->b.Ns mainGlobals j->FnOk l.prog w (K w.params) j b (CX w) k p y [x] (sp w))
  (E:∀(w:World) (H:Hp) (a:Addr) (r:List Int),r.length<=n->Only H->SqL (K w.params) H a (r.map V.int)->sp w [.ref a] H (λv _=>v=.bl true) λ_ _ _=>False)
  (z:∀(w:World) (H:Hp) (s:Shared) (e:Value) (I:Shared),CX w [] H s (λ_ _ _=>False) e I->False):
  W.WalkO q i XP J l.row.toRowW d [] (λf P=>PySem.call f P):=by
 refine Att.attach_call S A λw s₀ X j mb p o pm cd Q a P r G Y ho hd a0 C m g c hg=>?_
 have KX:=U w _ Y;obtain⟨y,T,hF⟩:=F w j p _ KX G.T.g C;exact zbhk KX G.T.g G.T.b G.T.builtins G.T.nolimit hg m g (xbc c t) hr hF T (λH hO hS=>E w H a r c hO hS) λH e I=>z w H X e I
end L2
/- THE LAST THEOREM (shape;LID,My.* are yours):
 My.Adr: a structure of the addresses that your layer names (classes,functions);My.Txt K t: a structure (Prop) of the equations over K;
 My.txt_mk:{K} {implicit addresses ..} (e1:nsIn K mainGlobals "law"=some (some (.ref f))) (e2:K.lookup f=some ⟨oc,od,.func (fnOf "law" "law" params body scope dV kV doc pm an cdv ct),sl⟩) (e3:codeIn K cdv "law"=true) ..:∃ t,My.Txt K t
(the tactic k_is has no namespace: write k_is) -/
namespace L2
open Spec PyProof.Rows
noncomputable def defArgs(s:Stmt):Arguments:=match s with
 |.FunctionDef _ a _ _ _ _ _ _ _ _=>a
 |_=>{posonlyargs:=[],args:=[],vararg:=none,kwonlyargs:=[],kw_defaults:=[],kwarg:=none,defaults:=[]}
noncomputable def defBody(s:Stmt):List Stmt:=match s with
 |.FunctionDef _ _ b _ _ _ _ _ _ _=>b
 |_=>[]
noncomputable def defScope(s:Stmt):Scope:=match s with
 |.FunctionDef _ _ _ _ _ _ sc _ _ _=>sc
 |_=>{kind:=.function,names:=[],isGenerator:=false,isCoroutine:=false}
abbrev CX0:CXT:=λ_ _ _ _ _ _=>False
abbrev E0:XK:=λ_ _ _=>False
def pass0:Passes CX0 X E0:=λ_ _ _ _ _ _ _ h=>h.elim
structure Fun (K:Fg) (x qual:Str) (au:Stmt) (f:Addr) (fd:FuncData):Prop where
 ex:∃(oc:Value) (od:Option Addr) (kV doc pm:Value) (an:Option Addr) (cdv ct:Value) (osl:Array (Option Value)),
  fd=W.fnOf x qual (defArgs au) (defBody au) (defScope au) .none kV doc pm an cdv ct/\K.lookup f=some ⟨oc,od,.func fd,osl⟩/\W.codeIn K cdv qual=true
 kp:W.keepIn K (.ref f)=true
def Fun.ok{K:Fg}{N:List Str}(F:Fun K x qual au f fd)(S:FnScope N ps (defScope au))(i:∀d H Q E,sp d H Q E->d.length=ps.length)
  (c:∀(b:Value) (A:Around) (a:List Env) (s:Shared) (H:Hp) (d:List V) (Q:VK) (E:XK),Room k (A.deeper (envOfC qual (defScope au) s.heap.objs.size f b))->sp d H Q E ->
   ∃t,PSs (cxOf CX0 P w K mg base N qual (defScope au) f b A a s H E).nox (defBody au) t/\t {nx:=λ_ o=>Q .non o,rt:=Q} (start N d) H):FnOk P w K mg base CX0 (k+1) f fd ps sp:=by
 obtain⟨r,y,kV,m,u,v,b,p,l,rfl,n,e⟩:=F.ex;refine zbyf n e S i λA a s H d Q E j g=>?_
 obtain⟨t,h,q⟩:=c b A a s H d Q E j g;exact⟨t,h.nox,q⟩
def Fun.binds{K:Fg}{d:List Str}(F:Fun K x qual au f fd)
  (h:∀(kV b e:Value) (i:Option Addr) (a c:Value) (g:List Value),g.length=d.length->bindArgs (W.fnOf x qual (defArgs au) (defBody au) (defScope au) .none kV b e i a c) ⟨g,[]⟩=pure (d.zip g)):Binds K fd d []:=by
 obtain⟨m,n,kV,b,e,i,a,c,k,rfl,l,j⟩:=F.ex;exact .all (h kV b e i a c)
def zbuk{K:Fg}{kV:Value}(l:K.lookup f=some ⟨oc,od,.func (W.fnOf x qual (defArgs au) (defBody au) (defScope au) .none kV doc pm an cdv ct),osl⟩)
 (c:W.codeIn K cdv qual=true)(k:W.keepIn K (.ref f)=true):Fun K x qual au f (W.fnOf x qual (defArgs au) (defBody au) (defScope au) .none kV doc pm an cdv ct):=⟨⟨oc,od,kV,doc,pm,an,cdv,ct,osl,rfl,l,c⟩,k⟩
def zbea(a:Room k A):A.units+1<cLine:=xdl (xct (by decide:1<=64) _) a.units
def pv{X:Cx}(i:Nat) (c:X.N[i]?=some x:=by rfl)(b:Vis X.env.scope x:=by first|exact Or.inl rfl|exact Or.inr (Or.inl rfl)|exact Or.inr (Or.inr rfl))(d:(x==("__debug__" : Str))=false:=by decide)
 (a:(x==("__classdict__" : Str))=false:=by decide):PE X (.Name x pos) (tVar i):=zbsx c b d a
def iteF{A B:Prop}(h:B):if false=true then A else B:=by
 rw[if_neg xgc];exact h
def iteT{A B:Prop}(h:A):if true=true then A else B:=by
 rw[if_pos rfl];exact h
section
variable {κ:Type}[DecidableEq κ]
end
noncomputable abbrev NoX:Value->Shared->Prop:=λ_ _=>False
noncomputable abbrev testsOf(c:List Expr) (a:Env):Sem Bool:=
 forIn c true λd b=>if b=true then do let z ←isTrue d a (eval d a);pure (ForInStep.yield z) else pure (ForInStep.yield b)
def CompStep(P:Program) (w:World) (B:Around) (c x:Expr) (e:List Expr) (a:Env) (i l:Value) (K:Shared->Prop) (v:Value) (h:Shared):Prop:=
 wpAny (model P w) B (letOwnedTupleGo c i v) (λ_ j=>wpAny (model P w) B (assign c a v) (λ_ g=>wpAny (model P w) B (testsOf e a) (λk b=>
  if k=true then wpAny (model P w) B (eval x a) (λy d=>wpAny (model P w) B (call (.builtin "list.append") [l,y]) (λ_ f=>K f) NoX d) NoX b else K b) NoX g) NoX j) NoX h
def zbbw{j:List Expr}(J:Nat->Shared->Prop)
  (n:∀k d,J k d->wpAny (model P w) B (pyNext i) (λo f=>match o with
   |none=>R (.ok .next) f
   |some v=>CompStep P w B tg x j ev i l (λh=>∃m,m<k/\J m h) v f) NoX d)
  (k:Nat)(q:J k sh):codeAny (model P w) B (.compLoop (.ListComp x [⟨tg,it,j,0⟩] sc ps) 0 i l ev) R sh:=by
 have a:∀{E:Value->Shared->Prop}(e:Value) (z:Shared),NoX e z->E e z:=λ_ _ z=>z.elim
 refine codeAny_loop rfl J (λk d r=>wpAny_noted (by
  rw[compTurn_list];refine xba (xnd (xba (xey (n k d r) (λo f b=>?_) a)))
  match o,b with
  |none,b=>exact xbe b
  |some v,b=>
   refine xba (xey b (λ_ G p=>xba (xey p (λ_ u A=>xba (xey A (λg C c=>?_) a)) a)) a)
   match g,c with
   |false,c=>exact xbe (And.intro rfl c)
   |true,c=>exact xba (xba (xey c (λy H t=>xba (xey t (λ_ h s=>xbe (xbe (And.intro rfl s))) a)) a)))) k q
def zqg{env:Env}:∀(b:List (Str×NameKind)) (acc:List (Str×Addr)),(∀y∈b,y.2=.free->∃c,env.cells.lookup y.1=some c)->(∀x c,acc.lookup x=some c->env.cells.lookup x=some c) ->
  ∃f:List (Str×Addr),(forIn b acc (λx r=>if(x.2==NameKind.free)=true then do let a ←cellOf env x.1;pure (ForInStep.yield ((x.1,a)::r)) else pure (ForInStep.yield r)):Sem (List (Str×Addr)))=pure f /\
   (∀x c,f.lookup x=some c->env.cells.lookup x=some c)/\(∀x c,acc.lookup x=some c->∃h,f.lookup x=some h)/\∀x,(x,NameKind.free)∈b->∃c,f.lookup x=some c:=by
 intro b
 induction b with
 |nil=>intro acc _ i;exact⟨acc,rfl,i,λx c e=>⟨c,e⟩,λx z=>(nomatch z)⟩
 |cons y r ih=>
  intro acc j i;obtain⟨n,k⟩:=y;by_cases hk:k=.free
  ·subst hk;obtain⟨c,p⟩:=j (n,.free) xby rfl
   obtain⟨f,e,l,g,o⟩:=ih ((n,c)::acc) (λy m=>j y (xbi _ m)) (λx h e=>by
    rw[xgd] at e;by_cases d:x=n
    ·subst d;rw[xhl] at e;cases e;exact p
    ·rw[xfv.mpr d] at e
     exact i x h e)
   refine⟨f,?_,l,λx h t=>?_,λx d=>?_⟩
   ·rw[xod];simp only[xhl,ite_true];have q:cellOf env n=pure c:=by unfold cellOf;rw[p]
    rw[q];simp only[pure_bind];exact e
   ·by_cases d:x=n
    ·subst d;exact g x c (by rw[xgd,xhl])
    ·exact g x h (by rw[xgd,xfv.mpr d];exact t)
   ·rcases xbm.mp d with z|z
    ·cases z;exact g n c (by rw[xgd,xhl])
    ·exact o x z
  ·obtain⟨f,e,l,g,o⟩:=ih acc (λy m=>j y (xbi _ m)) i;refine⟨f,?_,l,g,λx d=>?_⟩
   ·rw[xod];have s:(k==NameKind.free)=false:=by simpa using hk
    simp only[s,xdx,xeu,pure_bind];exact e
   ·rcases xbm.mp d with z|z
    ·cases z;exact absurd rfl hk
    ·exact o x z
def zxu{scope:Scope}{env:Env}(h:∀y∈scope.names,y.2=.free->∃c,env.cells.lookup y.1=some c):
  ∃cl,closureFor scope env=pure cl/\(∀x c,cl.lookup x=some c->env.cells.lookup x=some c)/\∀x,(x,NameKind.free)∈scope.names->∃c,cl.lookup x=some c:=by
 obtain⟨cl,e,h1,_,h3⟩:=zqg (env:=env) scope.names [] h (λx c e=>(nomatch e));refine⟨cl,?_,h1,h3⟩;unfold closureFor;have e':=congrArg (λm=>m >>= λr=>(pure r:Sem (List (Str×Addr)))) e;simp only[pure_bind] at e';exact e'
def zbq{a:Env}:∀{b:List (Str×NameKind)}{x:Str}{k:NameKind},(b.map λ(n,k)=>if(k==NameKind.free&&a.scope.kind==.function&&a.kindOf n==some .cell) then(n,NameKind.cell) else(n,k)).lookup x=some k ->
  b.lookup x=some k\/(k=.cell/\b.lookup x=some .free)
 |[],_,_,h=>by simp at h
 | (n,k')::r,x,k,h=>by
  have d:=@zbq a r x k;have c:List.lookup x ((if(k'==NameKind.free&&a.scope.kind==.function&&a.kindOf n==some .cell)=true then(n,NameKind.cell) else(n,k'))::_)=_:=h;cases hx:x==n with
  |true=>
   by_cases hc:(k'==NameKind.free&&a.scope.kind==.function&&a.kindOf n==some .cell)=true
   ·rw[if_pos hc] at c;simp only[xgd,hx] at c ⊢;cases c;rw[xcs,xcs] at hc;exact .inr ⟨rfl,by rw[eq_of_beq hc.1.1]⟩
   ·rw[if_neg hc] at c;simp only[xgd,hx] at c ⊢;exact .inl c
  |false=>
   have e:(r.map λ(n,k)=>if(k==NameKind.free&&a.scope.kind==.function&&a.kindOf n==some .cell) then(n,NameKind.cell) else(n,k)).lookup x=some k:=by
    by_cases hc:(k'==NameKind.free&&a.scope.kind==.function&&a.kindOf n==some .cell)=true
    ·rw[if_pos hc] at c;simp only[xgd,hx] at c;exact c
    ·rw[if_neg hc] at c;simp only[xgd,hx] at c;exact c
   simp only[xgd,hx];exact d e
def cxC(X:Cx) (N:List Str) (a:Scope) (b:List (Str×Addr)) (C:Addr) (c:List Addr) (s:Shared) (H:Hp):Cx:=
 {X with N:=N,s₀:=s,H₀:=H,env:=compEnvC a b C X.env,outer:=X.stack,ex:=c,fn:=λ_=>false,pn:=[],xe:=λ_ _=>False}
def startC(k:Nat) (is:List Nat) (σ:St):St:=List.replicate k none++is.map λi=>(σ[i]?).getD none
structure CompScope (X:Cx) (N:List Str) (k:Nat) (is:List Nat) (scope:Scope):Prop where
 kind:scope.kind=.function
 nocell:∀y∈scope.names,y.2≠.cell
 names:∀y∈scope.names,y.2=.local->scope.names.lookup y.1=some .local
 frees:∀y∈scope.names,y.2=.free->X.env.kindOf y.1=some .cell\/X.env.kindOf y.1=some .free
 len:N.length=k+is.length
 own:∀j i,is[j]?=some i->∃x,N[k+j]?=some x/\X.N[i]?=some x/\scope.names.lookup x=some .free
def zgu{l:List (Str×NameKind)}(h:l.lookup x=some k):(x,k)∈l:=xhi h
def zbhz{N:List Str}{U:List (Str×Addr)}{P:Heap}(S:CompScope X N k is scope)(I:Inv X aU σ H s)
  (h:∀x c,U.lookup x=some c->X.env.cells.lookup x=some c)(c2:∀x,(x,NameKind.free)∈scope.names->∃c,U.lookup x=some c)
  (w:∀b∈E,FpOk X aU H b)(A:∀b∈E,∃o,s.heap.get? b=some o)(hn:P.Ns s.heap.objs.size (λ_=>none))(t:∀b o,s.heap.get? b=some o->P.get? b=some o):
  Inv (cxC X N scope U s.heap.objs.size E s H) [] (startC k is σ) H {s with heap:=P,toks:=tk}:=by
 have hC:∀b o,s.heap.get? b=some o->b≠s.heap.objs.size:=λb o e=>xci (xbx e)
 have Y:∀b∈E,b∉frs X.stack:=λb g z=>by
  rcases xbm.mp (I.stkSub b z) with e|e
  ·exact(w b g).2.1 e
  ·exact(w b g).2.2.1 e
 refine⟨⟨I.ok.mod,S.kind,I.ok.glob,I.ok.blt,xbl _,λx y c Q d=>I.ok.inj x y c (h x c Q) (h y c d),λx hx=>?_,λx c z=>?_,I.ok.hd,I.ok.frames,.inl rfl,λb g=>⟨?_,λx c e=>?_⟩,I.bs,xbc I.ok.bsz I.sz,λb o e g=>?_,Y,I.stack,I.stkFree⟩,
  rfl,I.bare,Un.kept t,⟨_,hn,λi x v Q d e3=>?_⟩,λx c e=>?_,I.hok.fresh (xbl _),λx c e=>I.freeC x c (h x c e),λp hp=>(nomatch hp),I.hok.kept t,?_,I.hnd⟩
 ·have C:(scope.names.map λ(n,k)=>if(k==NameKind.free&&X.env.scope.kind==.function&&X.env.kindOf n==some .cell) then(n,NameKind.cell) else(n,k)).lookup x=some .cell\/(scope.names.map λ(n,k)=>if(k==NameKind.free&&X.env.scope.kind==.function&&X.env.kindOf n==some .cell) then(n,NameKind.cell) else(n,k)).lookup x=some .free:=hx;have q:scope.names.lookup x=some .free:=by
   rcases C with z|z
   ·rcases zbq z with q|⟨_,q⟩
    ·exact absurd rfl (S.nocell _ (zgu q))
    ·exact q
   ·rcases zbq z with q|⟨q,_⟩
    ·exact q
    ·cases q
  exact c2 x (zgu q)
 ·cases z
 ·obtain⟨o,e⟩:=A b g;exact hC b o e
 ·exact(w b g).2.2.2.2.1 x c (h x c e)
 ·rcases(w b g).2.2.2.1 with z|z
  ·exact I.ok.noex b o e z
  ·exact absurd (xbo (xbx (I.ok.bs b o e).1) z) (xhf _)
 ·-- a name of the def around
  unfold startC at d;have hi:k<=i:=by
   rcases xge i k with z|z
   ·rw[xbj (by rw[xhy];exact z),List.getElem?_replicate,if_pos z] at d;cases d
   ·exact z
  rw[xcw (by rw[xhy];exact hi),xhy,xcg] at d;cases ej:is[i-k]? with
  |none=>rw[ej] at d;cases d
  |some j=>
   rw[ej] at d;have f:(σ[j]?).getD none=some v:=xda d;obtain⟨y,y1,y2,J⟩:=S.own (i-k) j ej;have ey:y=x:=by
    have z:N[i]?=some y:=by rw[←y1];congr 1;lia
    have l:N[i]?=some x:=Q;rw[z] at l;exact xda l
   subst ey;have e4:σ[j]?=some (some v):=by
    cases q:σ[j]? with
    |none=>rw[q] at f;cases f
    |some o=>rw[q] at f;exact congrArg some f
   have kd:=S.frees _ (zgu J) rfl;have T:Vis X.env.scope y:=.inr kd;obtain⟨m,_,hl⟩:=I.loc;obtain⟨u,r,lk⟩:=hl j y v y2 e4 T;refine⟨u,r,?_⟩;rcases lk with⟨z,_⟩|⟨_,c,e5,cc⟩
   ·rcases kd with q|q<;>(rw[q] at z;cases z)
   ·obtain⟨c',e6⟩:=c2 y (zgu J);have:c'=c:=by
     have z:=h y c' e6;rw[e5] at z;exact(xda z).symm
    subst this;refine .inr ⟨?_,c',e6,?_⟩
    ·rcases e3 with z|z|z
     ·exact absurd (zbq z) (by
       rw[J];rintro(q|⟨q,_⟩)
       ·cases q
       ·cases q)
     ·exact .inl z
     ·exact .inr z
    ·obtain⟨o,G,hd⟩:=cc;exact⟨o,t _ o G,hd⟩
 ·obtain⟨v,o,G,hd⟩:=I.cell x c (h x c e);exact⟨v,o,t _ o G,hd⟩
 ·unfold startC;rw[xbk,xhy,xbb];exact S.len.symm
def zbia{N:List Str}(I:Inv X aU σ H s)(d:∀b∈j,FpOk X aU H b)(J:Inv (cxC X N scope cl s.heap.objs.size j s H) [] σ' H' s')
  (f:Heap.SameBut s.heap.objs.size s'.heap h'):Inv X aU σ H' {s' with heap:=h'}:=by
 have i:∀b o,s.heap.get? b=some o->b≠s.heap.objs.size:=λb o e=>xci (xbx e)
 have l:H' s.heap.objs.size=none:=J.free;have B:Un (frs X.stack) j H H' s.heap s'.heap:=J.base
 have U:Un (frs X.stack) j H H' s.heap h':=⟨λb o e n g h=>f.extBut b o (i b o e) (B.keep b o e n g h),λb o e n g h=>by
   obtain⟨m,q⟩:=B.slot b o e n g h;exact⟨m,f.extBut b _ (i b o e) q⟩,B.free,λb o e p=>by
   obtain⟨k,q⟩:=B.there b o e p
   exact⟨k,f.extBut b k (i b o e) q⟩,B.tups,B.frzs,B.tbls⟩
 refine I.call' (s':={s' with heap:=h'}) J.os U (λa o e=>?_) J.bare (λb c=>⟨(d b c).2.2.2.1,(d b c).2.1,(d b c).2.2.2.2.1,(d b c).2.2.2.2.2⟩);refine(J.hok a o e).stay (λb u c q=>f.extBut b u ?_ q) (λ_ q=>q) λ_ _ q=>q
 rcases c with z|z
 ·intro y;rw[z] at y;rw[y,l] at e;cases e
 ·intro y;rw[y,l] at z;cases z
structure OffC (X:Cx) (aU:List (Addr×Obj)) (H:Hp) (C:Addr):Prop where
 free:H C=none
 loc:C≠X.env.locals
 young:X.s₀.heap.objs.size<=C
 cell:∀x c,X.env.cells.lookup x=some c->c≠C
 pin:∀p∈X.pn++aU,p.1≠C
def OffC.back(o:OffC X aU H C)(I:Inv X aU σ H s)(c:Heap.SameBut C s.heap h'):Inv X aU σ H {s with heap:=h'}:=
 I.turned (t':=s.toks) (λb u a e=>c.extBut b u a e) o.free o.loc (.inr o.young) o.cell o.pin
def nxC(p:Addr) (f:TE) (g:TT) (N:St->Hp->Prop):St->Hp->Prop:=λa H3=>g a H3 λb d=>
 if b=true then f a d λy e=>∃c,e p=some (.lst c)/\c.length<sizeLine/\N a (upd e p (.lst (c++[y]))) else N a d
def CompG(J:It) (g:TG) (f:TT) (e:TE) (Q:VK) (p:Addr) (σ:St) (H:Hp):Prop:=∃W:Nat->Nat->St->Hp->Prop,(∃m,W 0 m σ H) /\
 ∀i m b a,W i m b a->(J.stop i a/\Q (.ref p) a)\/(J.go i a/\∃N:St->Hp->Prop,(∀d H2,N d H2->∃c,c<m/\W (i+1) c d H2)/\∀x H2,J.yld i a x H2->g x b H2 (nxC p e f N))
def tComp(a:TI) (k:Nat) (is:List Nat) (g:TG) (c:TT) (b:TE):TE:=λσ H Q=>a σ H λJ H1=>∀p,H1 p=none->CompG J g c b Q p (startC k is σ) (upd H1 p (.lst []))
def tYes:TT:=λ_ H Q=>Q true H
def PIf(X:Cx) (a:List Expr) (t:TT):Prop:=
 ∀(b:List (Addr×Obj)) (s:Shared) (σ:St) (H:Hp) (Q:Bool->Hp->Prop),Inv X b σ H s->t σ H Q ->
  wpAny (model X.prog X.w) X.A (forIn a true λc r=>if r=true then do let ok ←isTrue c X.env (eval c X.env);pure (ForInStep.yield ok) else pure (ForInStep.yield r)) (TP X b σ Q) X.xe s
def zbmr:PIf X [] tYes:=λa s σ H Q I h=>wpAny_tests_nil ⟨H,I,h⟩
def zbmq(h:PT X c t):PIf X [c] t:=λa s σ H Q I b=>wpAny_tests_one (h a s σ H Q I b)
section
def zol(G:X.calm=true)(hg:∀j C f s H,PG (cxC X N scope j C f s H) tg g)(hc:∀j C f s H,PIf (cxC X N scope j C f s H) P tc)(he:∀j C f s H,PE (cxC X N scope j C f s H) U te)
  (S:CompScope X N k is scope){aU:List (Addr×Obj)}{σ:St}{H2:Hp}{s2:Shared}{j:List (Str×Addr)}{it:Addr}{f:List Addr}{tn:Nat->Heap->Prop}{J:It}{Q:VK}{E:Value->Shared->Prop}{RR:Value->Addr->Result->Shared->Prop}
  (I2:Inv X aU σ H2 s2)(T:Turn X.prog X.w X.K tg J f it tn)(a8:tn 0 s2.heap)(f2:∀b∈f,FpOk X aU H2 b)
  (c1:∀x c,j.lookup x=some c->X.env.cells.lookup x=some c)(c2:∀x,(x,NameKind.free)∈scope.names->∃c,j.lookup x=some c)
  (h:∀p,H2 p=none->∃W:Nat->Nat->St->Hp->Prop,(∃m,W 0 m (startC k is σ) (upd H2 p (.lst []))) /\
   ∀i m t H',W i m t H'->(J.stop i H'/\Q (.ref p) H')\/(J.go i H'/\∃N:St->Hp->Prop,(∀σ2 H2,N σ2 H2->∃I,I<m/\W (i+1) I σ2 H2)/\∀x H2,J.yld i H' x H2->g x t H2 (nxC p te tc N)))
  (hR:∀(p C:Addr) (w:Shared) (H':Hp) (m:Str->Option Value),OffC X aU H' C->w.heap.Ns C m->Inv X aU σ H' w->Q (.ref p) H'->RR (.ref p) C (.ok .next) w):
  wpAny (model X.prog X.w) X.A (newList []) (λacc s₃=>wpAny (model X.prog X.w) X.A (newFunctionEnv scope X.env.globals j [] X.env.qual none .none (some X.env)) (λa0 s₄=>
   codeAny (model X.prog X.w) X.A (.compStart (.ListComp U [⟨tg,A,P,0⟩] scope a3) 0 (.ref it) acc {a0 with scope:=relabel scope X.env}) (RR acc a0.locals) s₄) E s₃) E s2:=by
 refine xdv ?_;have fresh:H2 s2.heap.objs.size=none:=I2.fresh;have I3:Inv X aU σ (upd H2 s2.heap.objs.size (.lst [])) { s2 with heap:=s2.heap.push { cls:=.type "list",dict:=none,data:=.seq ([]:List Value).toArray } }:=I2.lnew (t':=s2.toks) (.nil) (by decide)
 generalize hs3:({ s2 with heap:=s2.heap.push { cls:=.type "list",dict:=none,data:=.seq ([]:List Value).toArray } }:Shared)=s3 at I3
 have k3:∀b o,s2.heap.get? b=some o->s3.heap.get? b=some o:=λb o e=>by rw[←hs3];exact xbg _ e
 refine wpAny_newFunctionEnv S.nocell (by intro y hy;simp at hy) (λh₁ a4 b0=>?_) S.kind;have a2:tn 0 s3.heap:=T.keep _ _ _ a8 λb _ o e=>k3 b o e
 have f3:∀b∈f,FpOk X aU (upd H2 s2.heap.objs.size (.lst [])) b:=λb l=>by
  obtain⟨o,e,_⟩:=T.obj _ _ a8 b l;exact⟨by rw[zw (xci (xbx e))];exact(f2 b l).1,(f2 b l).2⟩
 have k4:∀b o,s3.heap.get? b=some o->h₁.get? b=some o:=λb o e=>b0.extBut b o (xci (xbx e)) (xbg _ e)
 have J4:=zbhz (tk:=s3.toks+([]:List (Str×Value)).length) S I3 c1 c2 f3 (λb l=>let ⟨o,e,_⟩:=T.obj _ _ a2 b l;⟨o,e⟩) a4 k4;obtain⟨W,⟨m0,w0⟩,b1⟩:=h s2.heap.objs.size fresh;have b2:tn 0 h₁:=T.keep _ _ _ a2 λb _ o e=>k4 b o e
 have Y:codeAny (model X.prog X.w) X.A (.compLoop (.ListComp U [⟨tg,A,P,0⟩] scope a3) 0 (.ref it) (.ref s2.heap.objs.size) (compEnvC scope j s3.heap.objs.size X.env)) (RR (.ref s2.heap.objs.size) s3.heap.objs.size) {s3 with heap:=h₁,toks:=s3.toks+([]:List (Str×Value)).length}:=by
  have z:∀{H'},(∀b∈f,H' b=none)->∀b∈f,FpOk (cxC X N scope j s3.heap.objs.size f s3 (upd H2 s2.heap.objs.size (.lst []))) [] H' b:=λ{H'} hn b l=>by
   obtain⟨o,e,_⟩:=T.obj _ _ a2 b l;refine⟨hn b l,xci (xbx e),J4.ok.exfs b l,.inl l,λx c e'=>(f3 b l).2.2.2.2.1 x c (c1 x c e'),λp hp=>(nomatch hp)⟩
  refine zbbw (λn w=>∃i t H',Inv (cxC X N scope j s3.heap.objs.size f s3 (upd H2 s2.heap.objs.size (.lst []))) [] t H' w/\tn i w.heap/\(∀b∈f,H' b=none)/\W i n t H') ?_ m0
   ⟨0,_,_,J4,b2,λb l=>(f3 b l).1,w0⟩
  rintro n s5 ⟨i,σ5,H5,I5,a7,b3,w5⟩;rcases b1 i n σ5 H5 w5 with⟨a6,q⟩|⟨go,N',a5,step⟩
  ·refine thn (T.done (cxC X N scope j s3.heap.objs.size f s3 (upd H2 s2.heap.objs.size (.lst []))) rfl rfl rfl G i [] s5 σ5 H5 _ I5 (z b3) a7 a6) λr s6 a=>?_
   obtain⟨hr,I6⟩:=a;subst hr;obtain⟨m,hm,_⟩:=I6.loc;refine hR _ _ s6 H5 m ⟨I6.free,xhq I3.lt,I3.sz,λx c e=>?_,λp hp=>xci (xbx (I3.pin p hp).1)⟩ hm (zbia (h':=s6.heap) I3 f3 I6 (.refl ..)) q;obtain⟨v,o,ho,_⟩:=I3.cell x c e;exact xci (xbx ho)
  ·refine thn (T.item (cxC X N scope j s3.heap.objs.size f s3 (upd H2 s2.heap.objs.size (.lst []))) rfl rfl rfl G i [] s5 σ5 H5 _ I5 (z b3) a7 go) λr s6 a=>?_
   obtain⟨u,hr,h6⟩:=a;subst hr;refine thn h6 λ_ s7 a=>?_
   obtain⟨x,H7,I7,r7,y7,a1,c3⟩:=a;have c0:=I7.pinned (z c3) (T.obj _ _ a1);refine thn (hg j s3.heap.objs.size f s3 _ _ s7 σ5 H7 x u _ c0 r7 (step x H7 y7)) λ_ s8 a=>?_
   obtain⟨σ8,H8,I8,q8⟩:=a;refine thn (hc j s3.heap.objs.size f s3 _ _ s8 σ8 H8 _ I8 q8) λb s9 a=>?_
   obtain⟨H9,I9,q9⟩:=a;have again:∀{t H' w I},Inv (cxC X N scope j s3.heap.objs.size f s3 (upd H2 s2.heap.objs.size (.lst []))) ([]++pinsAt f s7.heap) t H' w->I<n->W (i+1) I t H' ->
     ∃m,m<n/\∃i t H',Inv (cxC X N scope j s3.heap.objs.size f s3 (upd H2 s2.heap.objs.size (.lst []))) [] t H' w/\tn i w.heap/\(∀b∈f,H' b=none)/\W i m t H':=λ{t H' w I} I' hm w'=>by
    refine⟨I,hm,i+1,t,H',I'.unpinned,T.keep _ _ _ a1 λb l o e=>(I'.pin (b,o) (xdw _ (xdw _ (zgt l e)))).1,λb l=>?_,w'⟩;obtain⟨o,e,d⟩:=T.obj _ _ a1 b l;exact(I'.pin (b,o) (xdw _ (xdw _ (zgt l e)))).2.1
   cases b with
   |false=>
    obtain⟨I,hm,w'⟩:=a5 _ _ q9;exact again I9 hm w'
   |true=>
    refine thn (he j s3.heap.objs.size f s3 _ _ s9 σ8 H9 _ I9 q9) λv b9 a=>?_
    obtain⟨y,a9,b7,c4,xs,b4,hz,b6⟩:=a;obtain⟨I,hm,w'⟩:=a5 _ _ b6;refine thn (zrx (X:=cxC X N scope j s3.heap.objs.size f s3 (upd H2 s2.heap.objs.size (.lst []))) _ b9 σ8 a9 (.ref s2.heap.objs.size) [y] _ [v] (λ_ H'=>H'=upd a9 s2.heap.objs.size (.lst (xs++[y]))) b7 rfl (.cons c4 .nil) ⟨_,xs,y,rfl,rfl,b4,hz,rfl⟩) λ_ c7 a=>?_
    obtain⟨_,c8,b5,_,c5⟩:=a;subst c5;exact again b5 hm w'
 have c6:s2.heap.push { cls:=.type "list",dict:=none,data:=.seq ([]:List Value).toArray }=s3.heap:=by rw[←hs3]
 have b8:=codeAny_compStart_list (elt:=U) (target:=tg) (iter:=A) (ifs:=P) (rest:=[]) (scope:=scope) (pos:=a3) Y (T.self X.A 0 _ _ _ b2 Y);exact b8
end
def zjs{N:List Str}(S:CompScope X N k is scope) (I:Inv X aU σ H s):
  ∃cl,closureFor scope X.env=pure cl/\(∀x c,cl.lookup x=some c->X.env.cells.lookup x=some c)/\∀x,(x,NameKind.free)∈scope.names->∃c,cl.lookup x=some c:=
 zxu λy hy hf=>I.ok.has y.1 (S.frees y hy hf)
def zbdc{X:Cx}{N:List Str}(a:X.calm=true)(U:PI X tg iter wi)(P:∀b C c s H,PG (cxC X N scope b C c s H) tg g)(Y:∀b C c s H,PIf (cxC X N scope b C c s H) ifs tc)(w:∀b C c s H,PE (cxC X N scope b C c s H) elt te)
  (S:CompScope X N k is scope)(n:∀x,foldedSetIterable iter X.env x=pure x:=by intro _;rfl):PE X (.ListComp elt [⟨tg,iter,ifs,0⟩] scope pos) (tComp wi k is g tc te):=by
 intro j s σ H Q I h;obtain⟨b,e,c1,u⟩:=zjs S I;rw[eval_ListComp];refine wpAny_comprehension_free (use:=none) rfl n e S.kind S.names (thn (U j s σ H _ I h) λxv s1 v=>thn v λt s2 y=>?_);obtain⟨it,c,tn,J,H2,o,E,T,i,G,l⟩:=y;subst o;refine zol (Q:=Q) (RR:=λacc C=>compPost (model X.prog X.w) X.A X.xe none (EP X j σ Q) acc C) a P Y w S E T i G c1 u l ?_;intro p C s' r m d z A q;exact⟨m,z,λh' f=>⟨.ref p,r,d.back A f,rfl,q⟩⟩
def zbmi{X:Cx}{N:List Str}(d:X.calm=true)(Y:X.N.Nodup)(y:X.N[i]?=some x)(hx:Loc X.env.scope x)(hi:PI X tg iter wi)(hg:∀j C f s H,PG (cxC X N scope j C f s H) tg g)(hc:∀j C f s H,PIf (cxC X N scope j C f s H) ifs tc)
  (he:∀j C f s H,PE (cxC X N scope j C f s H) elt te)(S:CompScope X N k is scope){b:Pos}(u:swapsWith (.ListComp elt [⟨tg,iter,ifs,0⟩] scope pos) (some (.Name x pos')) b.line X.env=pure true:=by rfl)
  (hf:X.fn x=true\/X.env.scope.names.lookup x=some .local:=by first|exact .inl rfl|exact .inr rfl|assumption)
  (P:∀x,foldedSetIterable iter X.env x=pure x:=by intro _;rfl):PS X (.Assign [.Name x pos'] (.ListComp elt [⟨tg,iter,ifs,0⟩] scope pos) b) (tAsg (tComp wi k is g tc te) (gName i)):=by
 intro n s σ H D I h;obtain⟨j,e,c1,c2⟩:=zjs S I;rw[exec_Assign_Name_used (hs:=u)];refine xba (xnd (xba (?_:wpAny _ X.A _ _ _ s)));show wpAny _ X.A (do let _ ←comprehension (.ListComp elt [⟨tg,iter,ifs,0⟩] scope pos) scope X.env _ (newList []) false (eval iter X.env) (some (assign (.Name x pos') X.env))) _ _ s
 refine xba (xey (wpAny_comprehension_free (use:=some (assign (.Name x pos') X.env)) (Q:=λ_ l=>SP X n D .next l) rfl P e S.kind S.names
  (thn (hi n s σ H _ I h) λxv s1 h1=>thn h1 λa1 s2 h2=>?_)) (λ_ l hq=>xbe (xbe hq)) λ_ _ e=>e)
 obtain⟨it,f,tn,J,H2,e2,I2,T,A,f2,U⟩:=h2;subst e2;refine zol (Q:=λv r=>gName i v σ r D.nx) (RR:=λacc C=>compPost (model X.prog X.w) X.A X.xe (some (assign (.Name x pos') X.env)) (λ_ l=>SP X n D .next l) acc C) d hg hc he S I2 T A f2 c1 c2 U ?_;intro p C l r m c hm I' q;show wpAny _ X.A (assign (.Name x pos') X.env (.ref p)) _ _ _;refine wpAny_assign_Name (zrb (v:=.ref p) I' Y y hx rfl (λa0 w o=>?_) hf);obtain⟨a,E,ha⟩:=o;have G:C≠a:=by
  rcases ha with z|z
  ·rw[z];exact c.loc
  ·exact(c.cell x a z).symm
 exact⟨m,hm.sameBut E G,λh' t=>⟨_,r,c.back w t,q⟩⟩
def Callee(P:Program) (w:World) (K:Fg) (b:Str->Option Value) (a:Heap) (x:Str) (k:Nat) (c:List Str) (e:Sp):Prop:=
 ∃f d,FnOk P w K b a CX0 k f d c e/\Binds K d c []/\W.keepIn K (.ref f)=true/\b x=some (.ref f)
def zbgm{X:Cx}(c:Callee X.prog X.w X.K X.mg X.base x k ps sp)(g:Room k X.A)(i:Gl X x)(j:PA X (e::es) t)(a:(x==("__debug__" : Str))=false:=by decide)
  (l:starEach (e::es) X.env=(false,eval e X.env)::starEach es X.env:=by rfl)(d:(backTo pos (starEach es X.env)).any (·.1)=false:=by rfl):
  PE X (.Call (.Name x p) (e::es) [] pos) (tCall sp [] E0 t):=by
 obtain⟨f,n,F,b,h,m⟩:=c;exact zbnb F g i m h b .nil pass0 j a l d
noncomputable def TopF(K:Fg) (x:Str) (a:Stmt):Prop:=
 ∃f b,W.nsIn K mainGlobals x=some (some (.ref f))/\Fun K x x a f b
def zbh{K:Fg}{x:Str}{au:Stmt}{f:Addr}{m j:Option Addr}{d:Array (Option Value)}{g kV h i b e:Value}
  (a:W.nsIn K mainGlobals x=some (some (.ref f)))(l:K.lookup f=some ⟨g,m,.func (W.fnOf x x (defArgs au) (defBody au) (defScope au) .none kV h i j b e),d⟩)(c:W.codeIn K b x=true)(k:W.keepIn K (.ref f)=true):TopF K x au:=
 ⟨f,_,a,zbuk l c k⟩
def zss{P:Program}{w:World}{K:Fg}{l:Str->Option Value}{c h:Heap}{x:Str}{d:Stmt}{N i:List Str}{k:Nat}{sp:Sp}(T:TopF K x d)(X:K.In h)(G:h.Ns mainGlobals l)(S:FnScope N i (defScope d))
  (r:∀(kV m u:Value) (y:Option Addr) (b p:Value) (n:List Value),n.length=i.length->bindArgs (W.fnOf x x (defArgs d) (defBody d) (defScope d) .none kV m u y b p) ⟨n,[]⟩=pure (i.zip n))
  (o:∀j H Q E,sp j H Q E->j.length=i.length)
  (g:∀(f:Addr) (b:Value) (A:Around) (e:List Env) (s:Shared) (H:Hp) (j:List V) (Q:VK) (E:XK),Room k (A.deeper (envOfC x (defScope d) s.heap.objs.size f b))->sp j H Q E ->
   ∃t,PSs (cxOf CX0 P w K l c N x (defScope d) f b A e s H E).nox (defBody d) t/\t {nx:=λ_ v=>Q .non v,rt:=Q} (start N j) H):Callee P w K l c x (k+1) i sp:=by
 obtain⟨f,q,a,F⟩:=T;exact⟨f,q,F.ok S o (g f),F.binds r,F.kp,W.mg_of X G a⟩
def zbs:CallR X (.builtin "isinstance") (λc H Q=>∃ x T t b,c=[x,.ty T]/\TyOf X.K H x t/\W.kitOne X.K t (.type T)=some b/\Q (.bl b) H):=by
 intro j s σ H c k Q I r h;obtain⟨x,T,t,b,rfl,d,e,q⟩:=h;obtain⟨u,f,rfl,g,a⟩:=vals2 r;cases(show f=Value.type T from a);exact zbbc I g d e λi=>⟨.bl b,H,I.tok i,rfl,q⟩
noncomputable def CDivP(i j:Int):Prop:=0<j/\j<2^1000
def zlq:OpR X (binaryOp .FloorDiv) (rI CDivP λi j=>.int (i/j)):=opI λi j _ _ _ _ _ a q=>by
 have e:i.fdiv j=i/j:=Int.fdiv_eq_ediv_of_nonneg i (by have:=a.1;lia);refine floordiv_int (by have:=a.1;lia) (by rw[e];exact q) (.inl (PyProof.noPylong_of_log2 ?_));have b:j.natAbs<2^1000:=by
  have h:=a.1;have f:=a.2;have d:(j.natAbs:Int)=j:=by lia
  have c:(j.natAbs:Int)<((2^1000:Nat):Int):=by
   rw[d];exact_mod_cast f
  exact_mod_cast c
 have g:j.natAbs≠0:=by have:=a.1;lia
 have:=(Nat.log2_lt g).mpr b;lia
noncomputable def compLook(a:List Str) (xs:List (Str×NameKind)) (N:List Str) (k:Nat) (is:List Nat) (scope:Scope):Bool:=
 (scope.kind==.function)&&scope.names.all (λy=>y.2 != .cell)&&scope.names.all (λy=>y.2 != .local||scope.names.lookup y.1==some .local) &&
 scope.names.all (λy=>y.2 != .free||(xs.lookup y.1==some .cell||xs.lookup y.1==some .free))&&(N.length==k+is.length) &&
 (List.range is.length).all (λj=>match is[j]?,N[k+j]? with
  |some i,some x=>a[i]?==some x&&scope.names.lookup x==some .free
  |_,_=>false)
def zdd{X:Cx}{N:List Str}(h:compLook X.N X.env.scope.names N k is scope=true):CompScope X N k is scope:=by
 unfold compLook at h;simp only[xcs,xca] at h;obtain⟨⟨⟨⟨⟨c,l⟩,g⟩,f⟩,d⟩,b⟩:=h;refine⟨eq_of_beq c,λy a e=>?_,λy a e=>?_,λy a e=>?_,eq_of_beq d,λj i e=>?_⟩
 ·have:=l y a;rw[e] at this;simp at this
 ·have:=g y a;rw[e] at this;simp at this;exact this
 ·have:=f y a;rw[e] at this;simp at this;exact this
 ·have m:j<is.length:=(xbd.mp e).1;have:=b j (xbs.mpr m);rw[e] at this;cases e2:N[k+j]? with
  |none=>rw[e2] at this;cases this
  |some x=>
   rw[e2] at this;simp only[xcs,xho] at this;exact⟨x,rfl,this.1,this.2⟩
def zon:bootBuiltins "len"=some (.builtin "len"):=by decide +kernel
def zbvw:bootBuiltins "abs"=some (.builtin "abs"):=by decide +kernel
def zbcb:bootBuiltins "min"=some (.builtin "min"):=by decide +kernel
def zbvv:bootBuiltins "max"=some (.builtin "max"):=by decide +kernel
def zbjy:bootBuiltins "sum"=some (.builtin "sum"):=by decide +kernel
def zdj:bootBuiltins "sorted"=some (.builtin "sorted"):=by decide +kernel
def zbjz:bootBuiltins "all"=some (.builtin "all"):=by decide +kernel
def zbe:bootBuiltins "isinstance"=some (.builtin "isinstance"):=by decide +kernel
def zya:bootBuiltins "int"=some (.type "int"):=by decide +kernel
def zbem:bootBuiltins "bool"=some (.type "bool"):=by decide +kernel
def zch:bootBuiltins "tuple"=some (.type "tuple"):=by decide +kernel
def zbel:bootBuiltins "list"=some (.type "list"):=by decide +kernel
def zbvu:bootBuiltins "set"=some (.type "set"):=by decide +kernel
def zbfc(h:H p=some o):upd H p o=H:=by
 funext b
 unfold upd;split
 ·subst b;exact h.symm
 ·rfl
end L2
namespace Srt
open PySem.W PyProof.Rows
section
variable (r:Nat->Nat)
noncomputable def lt(i j:Nat):Bool:=decide (r i<r j)
noncomputable def At(p:Array Nat) (i:Nat):Nat:=r (p.getD i 0)
def Up(p:Array Nat) (n:Nat):Prop:=∀i j,i<=j->j<n->At r p i<=At r p j
end
noncomputable def midHeap(h:Heap) (d:Addr) (a:List Value):Heap:=((h.update d (Obj.mapSeq λ_=>(#[]:Array Value))).push (seqObj "tuple" a.toArray 0)).push (seqObj "list" #[] 0)
def zkt{h:Heap}(a:b≠d)(e:h.get? b=some ob):(midHeap h d xs).get? b=some ob:=
 xbg _ (xbg _ ((Heap.get?_update_ne _ _ _ _ a).trans e))
def Answers(P:Program) (w:World) (B:Around) (r:Nat->Nat) (a:List Value) (b:Shared):Prop:=
 ∃κ,(∀R:SortKind->Shared->Prop,R κ b->wpAny (model P w) B (keyKind' a.toArray) R (λ_ _=>False) b) /\
  ∀i j C,i<a.length->j<a.length->C (lt r i j) b->kas_ask P w B κ a i j C b
noncomputable def outOf(a:List Value) (p:Array Nat):Array Value:=List.toArray (p.toList.map λi=>a.getD i Value.none)
def zzl{a:List Value}(h:a.length<2):(a.toArray.zip a.toArray).map (·.2)=outOf a (List.toArray (List.range a.length)):=by
 unfold outOf
 match a,h with
 |[],_=>simp
 |[_],_=>simp[xgp]
 |_::_::_,h=>exact absurd h (by simp)
end Srt
namespace Srt
open PySem.W PyProof.Rows HT
def zgw:∀a:List Int,lexLt a a=false
 |[]=>rfl
 |x::a=>by rw[zdt,if_pos rfl];exact zgw a
def zgv:∀{a b c:List Int},lexLt a b=true->lexLt b c=true->lexLt a c=true
 |_,[],[],_,h=>by rw[zez] at h;cases h
 |_,_::_,[],_,h=>by rw[zeg] at h;cases h
 |[],[],_::_,h,_=>by rw[zez] at h;cases h
 |_::_,[],_::_,h,_=>by rw[zeg] at h;cases h
 |[],_::_,_::_,_,_=>zcr _ _
 |x::a,y::b,z::c,h1,h2=>by
  rw[zdt] at h1 h2 ⊢;by_cases e1:x=y
  ·rw[if_pos e1] at h1;subst e1;by_cases e2:x=z
   ·rw[if_pos e2] at h2 ⊢;exact zgv h1 h2
   ·rw[if_neg e2] at h2 ⊢;exact h2
  ·rw[if_neg e1] at h1;have e:=xdc h1;by_cases e2:y=z
   ·subst e2;rw[if_neg e1];exact h1
   ·rw[if_neg e2] at h2;have d:=xdc h2;rw[if_neg (by lia)];exact xcj (by lia)
def znz:∀a b:List Int,lexLt a b=true\/a=b\/lexLt b a=true
 |[],[]=>.inr (.inl rfl)
 |[],_::_=>.inl (zcr _ _)
 |_::_,[]=>.inr (.inr (zcr _ _))
 |x::a,y::b=>by
  rw[zdt,zdt];by_cases e:x=y
  ·subst e;rw[if_pos rfl,if_pos rfl];rcases znz a b with h|h|h
   ·exact .inl h
   ·exact .inr (.inl (by rw[h]))
   ·exact .inr (.inr h)
  ·rw[if_neg e,if_neg (λz=>e z.symm)];rcases Int.lt_or_gt_of_ne e with h|h
   ·exact .inl (xcj h)
   ·exact .inr (.inr (xcj h))
def zry{a b:List Int}(h:lexLt a b=true):lexLt b a=false:=by
 cases e:lexLt b a with
 |false=>rfl
 |true=>have:=zgv h e;rw[zgw] at this;cases this
def zxs(a:∀x,p x=true->q x=true):∀{l:List Nat}{y:Nat},y∈l->q y=true->p y=false->l.countP p<l.countP q
 |[],_,h,_,_=>nomatch h
 |x::l,y,h,h1,h2=>by
  have b:∀l:List Nat,l.countP p<=l.countP q:=λl=>List.countP_mono_left λx _=>a x
  rcases xbm.mp h with rfl|h
  ·rw[xit h1,xla (by rw[h2];decide)];exact xnf (b l)
  ·have e:=zxs a h h1 h2;by_cases c:p x=true
   ·rw[xit c,xit (a x c)];lia
   ·rw[xla c];by_cases d:q x=true
    ·rw[xit d];lia
    ·rw[xla d];exact e
def rank(a:List (List Int)) (i:Nat):Nat:=(List.range a.length).countP λk=>lexLt (a.getD k []) (a.getD i [])
def znl{ks:List (List Int)}(g:i<ks.length)(k:j<ks.length):lt (rank ks) i j=lexLt (ks.getD i []) (ks.getD j []):=by
 have c:∀{a b:Nat},a<ks.length->lexLt (ks.getD a []) (ks.getD b [])=true->rank ks a<rank ks b:=λ{a b} f h=>
  zxs (λx d=>zgv d h) (xbs.mpr f) h (zgw _)
 cases e:lexLt (ks.getD i []) (ks.getD j []) with
 |true=>exact xcj (c g e)
 |false=>
  refine xcm λh=>?_
  rcases znz (ks.getD i []) (ks.getD j []) with z|z|z
  ·rw[e] at z;cases z
  ·unfold rank at h;rw[z] at h;exact absurd h (xhf _)
  ·have:=c k z;lia
section
variable {prog:Program}{w:World}{A:Around}{s:Shared}{b:Bool}{Q:Bool->Shared->Prop}
def zwn:∀{c a:List Value}{d f:List Int}(i:Nat),IntsAre c d->IntsAre a f->Q (lexLt d f) s->KatLex prog w A b (decide (c.length<a.length)) Q (c.zip a) i s
 |_,_,_,_,_,.nil,.nil,h=>h
 |_,_,_,_,_,.nil,.cons _ _ _,h=>h
 |_,_,_,_,_,.cons _ _ _,.nil,h=>h
 |_,_,_,_,i,.cons x t (vs:=c) (ns:=d) r1,.cons y u (vs:=a) (ns:=f) r2,h=>by
  rw[zdt] at h;refine kat_cons (wpAny_eqBool_int (kat_go (λe=>kat_yes ?_) λe=>kat_no ?_))
  ·rw[if_pos (eq_of_beq e)] at h;have q:=zwn (i+1) r1 r2 h;have g:decide ((Value.int x t::c).length<(Value.int y u::a).length)=decide (c.length<a.length):=by
    rw[xbv,xbv,xgq];simp
   rw[g];exact q
  ·rw[if_neg (xfv.mp e)] at h;cases hb:(b&&i==0) with
   |true=>exact oneLt_int h
   |false=>exact kat_one _ _ (PyProof.Rows.lt_int h)
end
end Srt
namespace L2
open Spec PyProof.Rows PySem.W
def zqx:∀{b:List Addr}{c:List Value},Vals (b.map V.ref) c->c=b.map Value.ref
 |[],_,.nil=>rfl
 |a::b,_,.cons r t=>by
  rw[show _=Value.ref a from r,zqx t]
  rfl
def TupsAt(K:Fg) (H:Hp) (a:List (Addr×List Int)):Prop:=∀p∈a,SqT K H p.1 (p.2.map V.int)
def zk{α β:Type}(f:α->β)(d:β){l:List α}{i:Nat}{x:α}(h:l[i]?=some x):(l.map f).getD i d=f x:=by
 rw[xbh,xcg,h]
 rfl
end L2
namespace L2
open Spec PyProof.Rows
mutual
inductive DAt (K:Fg) (H:Hp):V->PyData->Prop
 |non:DAt K H .non .none
 |bl (b:Bool):DAt K H (.bl b) (.bool b)
 |int (i:Int):DAt K H (.int i) (.int i)
 |str (x:Str):DAt K H (.str x) (.str x)
 |lst {a:Addr}{xs:List V}{ds:List PyData}:SqL K H a xs->DAll K H xs ds->DAt K H (.ref a) (.list ds)
 |tup {a:Addr}{xs:List V}{ds:List PyData}:SqT K H a xs->DAll K H xs ds->DAt K H (.ref a) (.tuple ds)
inductive DAll (K:Fg) (H:Hp):List V->List PyData->Prop
 |nil:DAll K H [] []
 |cons {x:V}{xs:List V}{d:PyData}{ds:List PyData}:DAt K H x d->DAll K H xs ds->DAll K H (x::xs) (d::ds)
end
section
mutual
def zgi(I:Inv X k σ H s):∀{v d u},DAt X.K H v d->RelV v u->∃f,Reads s.heap u d f
 |_,_,_,.non,r=>by cases r;exact⟨_,.none⟩
 |_,_,_,.bl b,r=>by cases r;exact⟨_,.bool b⟩
 |_,_,_,.int i,r=>by obtain⟨t,rfl⟩:=r;exact⟨_,.int i t⟩
 |_,_,_,.str x,r=>by obtain⟨t,rfl⟩:=r;exact⟨_,.str x t⟩
 |_,_,_,.lst h all,r=>by
  cases r;obtain⟨a,g,⟨o,n,e,c,_,j⟩,_⟩:=I.list h;obtain⟨f,q⟩:=zhi I all g;exact⟨_,.list e c j q⟩
 |_,_,_,.tup h all,r=>by
  cases r;obtain⟨a,g,⟨o,e,c,n,j⟩,_⟩:=I.tuple h;obtain⟨f,q⟩:=zhi I all g;exact⟨_,.tuple e c j q⟩
def zhi(I:Inv X g σ H s):∀{c a d},DAll X.K H c a->Vals c d->∃b,ReadsAll s.heap d a b
 |_,_,_,.nil,.nil=>⟨_,.nil⟩
 |_,_,_,.cons h t,.cons r rs=>by
  obtain⟨b,q⟩:=zgi I h r;obtain⟨f,e⟩:=zhi I t rs;exact⟨_,.cons q e⟩
end
end
def rEqX(K:Fg) (c:Bool):R2:=λx y H Q=>∃a b,DAt K H x a/\DAt K H y b/\PySem.SeqAt.shaped a=true/\PySem.SeqAt.shaped b=true/\Q (.bl (if c then !PyData.eqv a b else PyData.eqv a b)) H
section
def zjx(f:X.A.units+64<cLine):OpR X (compareOp .Eq) (rEqX X.K false):=by
 intro o s σ H x y v u Q I j e h;obtain⟨k,l,a,i,d,g,q⟩:=h;obtain⟨n,c⟩:=zgi I a j;obtain⟨m,b⟩:=zgi I i e;exact eq_dataH c b d g f ⟨.bl (PyData.eqv k l),H,I,rfl,q⟩
def zbnj(f:X.A.units+64<cLine):OpR X (compareOp .NotEq) (rEqX X.K true):=by
 intro o s σ H x y v u Q I j e h;obtain⟨k,l,a,i,d,g,q⟩:=h;obtain⟨n,c⟩:=zgi I a j;obtain⟨m,b⟩:=zgi I i e;exact ne_dataH c b d g f ⟨.bl (!PyData.eqv k l),H,I,rfl,q⟩
end
noncomputable def dI(a:List Int):List PyData:=a.map PyData.int
def dRow(a:List Int):PyData:=.tuple (dI a)
def zbjr:∀a b:List Int,PyData.eqvAll (dI a) (dI b)=decide (a=b)
 |[],[]=>by rfl
 |[],_::_=>by rfl
 |_::_,[]=>by rfl
 |x::a,y::b=>by
  show(x==y&&PyData.eqvAll (dI a) (dI b))=_;rw[zbjr a b,xgq];simp
def zmr(a b:List Int):PyData.eqv (dRow a) (dRow b)=decide (a=b):=zbjr a b
def zbjq:∀a:List Int,PyData.canLayAll0 (dI a)=true/\PyData.depthAll (dI a)=0
 |[]=>⟨rfl,rfl⟩
 |x::a=>by
  obtain⟨c,b⟩:=zbjq a;refine⟨?_,?_⟩
  ·show(true&&PyData.canLayAll0 (dI a))=true;rw[c];rfl
  ·show max 0 (PyData.depthAll (dI a))=0;rw[b];rfl
def zfu(a:List Int):PySem.SeqAt.shaped (dRow a)=true:=by
 obtain⟨c,b⟩:=zbjq a;show(PyData.canLayAll0 (dI a)&&decide (PyData.depthAll (dI a)+1<=64))=true;rw[c,b];rfl
def zsr:∀a:List (List Int),PyData.canLayAll0 (a.map dRow)=true/\PyData.depthAll (a.map dRow)<=1
 |[]=>⟨rfl,xec _⟩
 |x::a=>by
  obtain⟨c,e⟩:=zsr a;obtain⟨d,b⟩:=zbjq x;refine⟨?_,?_⟩
  ·show(PyData.canLayAll0 (dI x)&&PyData.canLayAll0 (a.map dRow))=true;rw[c,d];rfl
  ·show max (PyData.depthAll (dI x)+1) (PyData.depthAll (a.map dRow))<=1;rw[b];lia
def zjr(a:List (List Int)):PySem.SeqAt.shaped (.tuple (a.map dRow))=true:=by
 obtain⟨b,c⟩:=zsr a;show(PyData.canLayAll0 (a.map dRow)&&decide (PyData.depthAll (a.map dRow)+1<=64))=true;rw[b,xcj (by lia)];rfl
def znd:∀{a:List Bool}{c:List Value},Vals (a.map V.bl) c->c=a.map Value.bool
 |[],_,.nil=>rfl
 |b::a,_,.cons r t=>by
  rw[show _=Value.bool b from r,znd t]
  rfl
def zzs(c:List Bool):((List.range c.length).all λi=>c.getD i false)=c.all id:=by
 rw[xgq];simp only[xca,xbs];constructor
 ·intro h b d;obtain⟨i,a,rfl⟩:=xev d;have:=h i a;rw[xbh,xbf a] at this;exact this
 ·intro h i a;rw[xbh,xbf a];exact h _ (xed a)
def rAny(K:Fg) (b:Bool):List V->Hp->VK->Prop:=λc H Q=>∃(l:Addr) (a:List Bool),c=[.ref l]/\SqL K H l (a.map V.bl)/\Q (.bl (if b then a.all id else a.any id)) H
def zte(c:List Bool):TruthOf prog w A (λi v=>(c.map Value.bool).toArray[i]?=some v) (λi=>c.getD i false):=λi v s Q E f d=>by
 have a:(c.map Value.bool)[i]?=some v:=by simpa using f
 rw[xcg] at a;cases e:c[i]? with
 |none=>rw[e] at a;cases a
 |some b=>
  rw[e] at a;cases a;dsimp only at d;rw[xbh,e] at d;exact xfu d
section
def zbkf(C:X.calm=true){j:List (Addr×Obj)}{σ:St}{H:Hp}{s:Shared}{l:Addr}{a:List Bool}{R:Bool->Prop}(I:Inv X j σ H s)(G:SqL X.K H l (a.map V.bl)){Q:Value->Shared->Prop}{F:(Nat->Bool)->Nat->Bool}
  (E:∀k,Inv X j σ H k->Q (.bool (F (λi=>a.getD i false) a.length)) k):
  wpAny (model X.prog X.w) X.A.in1 (pyIter (.ref l)) (λt h=>∃I u p n P St q,t=.ref I/\Walks X.prog X.w X.A.in1 I u p n P St/\St 0 h.heap/\TruthOf X.prog X.w X.A.in1 P q /\
   ∀c f,(∀b o,b∉p->h.heap.get? b=some o->c.get? b=some o)->Q (.bool (F q n)) {h with heap:=c,toks:=f}) X.xe s:=by
 obtain⟨r,v,g,J⟩:=I.list G;have e:=znd v;subst e;have d:l<s.heap.objs.size:=by obtain⟨o,n,e,_⟩:=g;exact xbx e
 refine xll g.isList ?_;refine⟨s.heap.objs.size,_,[s.heap.objs.size],_,_,_,_,rfl,Walks.list (A:=X.A.in1) (I.ok.hd C) _ l (xci d) (a.map Value.bool).toArray,⟨⟨_,xbz _ rfl,rfl,rfl⟩,g.isList.push _⟩,zte a,λc f y=>?_⟩;have w:(a.map Value.bool).toArray.size=a.length:=by simp
 rw[w];refine E _ ?_;refine I.kept (t':=f) λb o e=>y b o ?_ (xbg _ e)
 intro z;have x:b=s.heap.objs.size:=by simpa using z
 have m:=xbx e;rw[x] at m;exact absurd m (xhf _)
def zqj(d:X.calm=true):CallR X (.builtin "all") (rAny X.K true):=by
 intro j s σ H k m Q I r h;obtain⟨l,a,rfl,f,q⟩:=h;obtain⟨u,rfl,b⟩:=vals1 r;cases b;refine call_all_walk (zbkf (R:=λ_=>True) d I f (F:=λe n=>(List.range n).all e) λg c=>⟨.bl ((List.range a.length).all λi=>a.getD i false),H,c,rfl,?_⟩);rw[zzs];exact q
end
end L2
namespace Dct
open PySem.W PyProof.Rows
noncomputable def Raw(h:Heap) (d:Addr) (b:Array DictEntry) (c:Nat):Prop:=∃a,h.get? d=some a/\a.ExactDict/\a.data=.dict b c
def Raw.kept{h':Heap}(x:Raw h d es ep)(k:∀a,h.get? d=some a->h'.get? d=some a):Raw h' d es ep:=
 let ⟨a,e,r⟩:=x;⟨a,k a e,r⟩
def Raw.lt(x:Raw h d es ep):d<h.objs.size:=let ⟨_,e,_⟩:=x;xbx e
def Raw.is{a:Shared}(x:Raw a.heap d es ep):a.TypeIs (.ref d) "dict":=let ⟨ob,e,c,_⟩:=x; ⟨ob,e,c.1⟩
noncomputable def iterObj(d:Addr) (n a:Nat):Obj:={ cls:=.type "dict_keyiterator",data:=.fields #[.ref d,.int 0 0,.int n 0,.int a 0] }
def zvf{au:Shared}{W:Value->Shared->Prop}(g:(d==sysModules)=false)(x:Raw au.heap d es ep)(a:W (.ref au.heap.objs.size) {au with heap:=au.heap.push (iterObj d es.size ep)}):wpAny (model P w) B (pyIter (.ref d)) W E au:=by
 obtain⟨h,e,c,f⟩:=id x;have b:=x.is;refine xno b F.slot_dict_iter (xei F.slot_dict_iter b F.entry_dict_iter ?body (F.args_dict_iter_1 _))
 case body=>
  unfold Builtin.«dict.__iter__» Builtin.Dict.dictSlotNone Builtin.Dict.showsAll;refine xba (xba (wpAny_notOrdered_dict b (xbe ?_)));show wpAny _ _ ((if(d==sysModules)=true then _ else _) >>= _) _ _ au;rw[if_neg (λz=>xgc (g.symm.trans z))];refine xba (xbe (xba (xjl e f (xba (wpAny_dictEpoch e f (xba (xdv (xbe ⟨_,rfl, "dict_keyiterator",_,⟨_,xbz _ rfl,rfl⟩,xgh.lookup,?_⟩))))))))
  exact a
def zve{au:Shared}{b:Array DictEntry}{W:Option Value->Shared->Prop}(a:au.heap.IsKeyIter it d k b.size ep)(x:Raw au.heap d b ep)(l:b[k]?=some en)
  (j:∀g:Heap,g.IsKeyIter it d (k+1) b.size ep->Heap.SameBut it au.heap g->W (some en.key) {au with heap:=g}):wpAny (model P w) B (pyNext (.ref it)) W E au:=by
 obtain⟨p,i,o,h⟩:=id a;obtain⟨q,e,c,m⟩:=id x;have lt:k<b.size:=(xna.mp l).1;unfold pyNext;refine xba (xkd (wpAny_callSpecial?_slot (name:=Str.ofString "__next__") a.typeIs xgh (xei xgh a.typeIs F.entry_dict_keyiterator_next ?body (F.args_dict_keyiterator_next_1 _))))
 case body=>
  refine xba (xbe (xba (xba (xba (xhg a.typeIs (xbe (xba (xmt i h ?_))))))));simp only[show Builtin.Dict_items.ownsTuple "dict_keyiterator"=false from by decide,xdx,ite_false]
  show wpAny _ _ (if(Value.ref d==Value.none)=true then _ else _) _ _ au;have n:¬ (Value.ref d==Value.none)=true:=xgc;rw[if_neg n];refine xba (xbe (xba (xjl e m ?_)));rw[if_neg (by simp)];refine xba (xbe (xba (wpAny_dictEpoch e m ?_)));rw[if_neg (by simp)];refine xbe ?_;simp only[show ¬ ((k:Int)<0) from by lia,ite_false,xfj,l];refine xba (xba (xhg a.typeIs (xbe (xba (wpAny_isOneOf_keyiter a.typeIs ?_)))));show wpAny _ _ (setField (.ref it) 1 (rawInt ((k:Int)+1)) >>= _) _ _ au;refine xba (xim i h (by simp) ?_);have f:(au.heap.update it (Obj.mapFields (·.setIfInBounds 1 (rawInt ((k:Int)+1))))).IsKeyIter it d (k+1) b.size ep:=
   ⟨_,xfl _ i (xhz (xgw h _)),(xlh ..).trans o,by rw[xgw h];simp[rawInt]⟩
  refine xba (xeq (xba (wpAny_isOneOf_keyiter (s:={au with heap:=au.heap.update it (Obj.mapFields (·.setIfInBounds 1 (rawInt ((k:Int)+1))))}) f.typeIs ?_)));show wpAny _ _ (pure en.key) _ _ _;exact xbe (xbe ⟨_,rfl,xbe (j _ f (xew ..))⟩)
def zbcv{B:Around}{au:Shared}{i:Array DictEntry}{W:Option Value->Shared->Prop}(q:B.handled=none)(f:au.heap.IsKeyIter it d k i.size ep)(x:Raw au.heap d i ep)(o:i.size<=k)
  (h:∀g:Heap,Heap.ExtBut it au.heap g->W none {au with heap:=g}):wpAny (model P w) B (pyNext (.ref it)) W E au:=by
 obtain⟨s,n,r,l⟩:=id f;obtain⟨t,e,c,j⟩:=id x;unfold pyNext;refine xba (xkd (wpAny_callSpecial?_slot (name:=Str.ofString "__next__") f.typeIs xgh (xei xgh f.typeIs F.entry_dict_keyiterator_next ?body (F.args_dict_keyiterator_next_1 _))))
 case body=>
  refine xba (xbe (xba (xba (xba (xhg f.typeIs (xbe (xba (xmt n l ?_))))))));simp only[show Builtin.Dict_items.ownsTuple "dict_keyiterator"=false from by decide,xdx,ite_false]
  show wpAny _ _ (if(Value.ref d==Value.none)=true then _ else _) _ _ au;have p:¬ (Value.ref d==Value.none)=true:=xgc;rw[if_neg p];refine xba (xbe (xba (xjl e j ?_)));rw[if_neg (by simp)];refine xba (xbe (xba (wpAny_dictEpoch e j ?_)));rw[if_neg (by simp)];refine xbe ?_;simp only[show ¬ ((k:Int)<0) from by lia,ite_false,xfj,xhn o];refine xba (xba (xhg f.typeIs (xbe ?_)));show wpAny _ _ (setField (.ref it) 0 .none >>= _) _ _ au;refine xba (xim n l (by simp) ?_);show wpAny _ _ (newExc (.type "StopIteration") [] >>= _) _ _ _
  refine xba ?_;simp only[newExc,newTuple];refine xba (xdv (xba (m:=firstArgMember _ _) (wpAny_of_eq (a:=Value.none) (by first|rfl|(simp only[firstArgMember];rfl)) (xdv ?_ (by size_fits)))) (by size_fits));simp only[raiseNew];refine xba (wpAny_handled ?_);rw[show B.in1.handled=none from q];refine xba (xbe (wpAny_throw ?_));refine xba (xlu (T:="StopIteration") (b:=true) ?_ isSubtype_stop (xbe (h _ (((xew ..).extBut.push _).push _))))
  exact⟨_,xbz _ rfl,rfl⟩
def zzq{B:Around}(t:B.handled=none)(x:d≠it)(f:Array DictEntry)(p:Nat):
  Walks P w B it [it,d] [it] f.size (λi v=>∃r,f[i]?=some r/\v=r.key) (λi h=>h.IsKeyIter it d i f.size p/\Raw h d f p) where
 sub:=λb s=>xbm.mpr (.inl (xcu.mp s))
 frame:=λ_ _ _ z m=>⟨z.1.at λo e=>m it xby o e,z.2.kept λo e=>m d (xbi _ (xcu.mpr rfl)) o e⟩
 item:=λi l u A y z j=>by
  have n:f[i]?=some f[i]:=xdp y;exact zve z.1 z.2 n λg a b=>j f[i].key g l.toks ⟨_,n,rfl⟩ ⟨a,z.2.kept λo e=>b.extBut d o x e⟩ λc o k e=>b.extBut c o (λq=>k (xcu.mpr q)) e
 done:=λl u A z j=>zbcv t z.1 z.2 (xbl _) λg b=>j g l.toks λc o k e=>b c o (λq=>k (xcu.mpr q)) e
 self:=λ_ _ _ _ z j=>wpAny_pyIter_keyiter z.1 j
def zbmc(k:(d==sysModules)=false)(a:Array DictEntry)(c:Nat):KdlSrc P w "dict" d d a.size (λi v=>∃ f,a[i]?=some f/\v=f.key) (λh=>Raw h d a c) where
 type:=λ_ x=>x.is
 there:=λ_ x=>⟨x.lt,x.lt⟩
 keep:=λ_ _ x g=>x.kept λo e=>g d (.inl rfl) o e
 notList:=by decide
 notTuple:=by decide
 hint:=λ_ _ _ _ x b=>kdl_hint_dict x.is b
 iter:=λ_ l j x=>⟨_,_,λ_ _ b=>zvf k x b,zzq j (xci x.lt) a c,⟨⟨_,xbz _ rfl,rfl,rfl⟩,x.kept λo e=>xbg _ e⟩⟩
end Dct
namespace Srt
open PySem.W PyProof.Rows
end Srt
namespace L2
open Spec PyProof.Rows
def ObjOk.ob(x:ObjOk P w H h a o):∃ob,h.get? a=some ob:=by
 cases o with
 |lst xs=>obtain⟨_,_,_,_,e⟩:=x;exact⟨_,e⟩
 |tup xs=>obtain⟨_,_,_,ob,e,_⟩:=x;exact⟨_,e⟩
 |dK kvs=>obtain⟨_,_,_,_,ob,_,_,e,_⟩:=x;exact⟨_,e⟩
 |dT kvs=>obtain⟨_,_,_,_,ob,_,_,e,_⟩:=x;exact⟨_,e⟩
 |set S n=>obtain⟨ob,_,_,_,e,_⟩:=x;exact⟨_,e⟩
 |ins C dx fs=>obtain⟨_,_,_,e,_⟩:=x;exact⟨_,e⟩
 |own y=>obtain⟨_,e⟩:=x;exact⟨_,e⟩
 |xd fs=>obtain⟨_,⟨_,_,_,e,_⟩,_⟩:=x;exact⟨_,e⟩
 |rng lo hi=>obtain⟨_,_,_,e⟩:=x;exact⟨_,e⟩
 |frz ob u=>obtain⟨e,_⟩:=x;exact⟨_,e⟩
 |tbl ps=>exact⟨_,(show h.get? a=some _ from x)⟩
 |met f y=>exact⟨_,(show h.get? a=some _ from x)⟩
 |ext φ=>obtain⟨_,⟨_,e⟩,_⟩:=x;exact⟨_,e⟩
def Inv.away(I:Inv X aU σ H s) (c:∀b a,s.heap.get? b=some a->b≠q):H q=none:=by
 cases e:H q with
 |none=>rfl
 |some o=>
  obtain⟨a,z⟩:=(I.hok q o e).ob;exact absurd rfl (c q a z)
def Inv.laidN{g:Heap}(I:Inv X aU σ H s)(k:∀b u,s.heap.get? b=some u->g.get? b=some u)(f:∀b h,s.heap.get? b=some h->b≠q)(d:ObjOk X.prog X.w (upd H q o) g q o):
  Inv X aU σ (upd H q o) {s with heap:=g,toks:=t'}:=by
 have i:=I.away f;have a:∀{b u},H b=some u->upd H q o b=some u:=λ{b u} e=>by rw[zw (zl e i)];exact e
 refine I.un ⟨λb u e _ _ _=>k b u e,λb u e _ _ _=>⟨u.slots,k b u e⟩,λb u e n _=>by rw[zw (f b u e)];exact n,λb u e _=>⟨u,k b u e⟩,λb j e=>a e,λb h u e=>a e,λb l e=>⟨#[],by rw[a e];simp⟩⟩ λb u e=>?_
 by_cases hb:b=q
 ·subst hb;rw[zu] at e;cases e;exact d
 ·rw[zw hb] at e;exact(I.hok b u e).stay (λc v _ z=>k c v z) (λc z=>a z) λc j z=>a z
def zbdw(a:List Int):(a.map (Sum.inl:Int->Key)).map kV=a.map V.int:=by rw[xcv];rfl
def zoh{P:Program}{w:World}{H:Hp}{a:List (List Key×V)}:∀{c f},
  Paired (λ(p:List Key×V) (q:List Key×Addr×Value)=>p.1=q.1/\H q.2.1=some (.tup (p.1.map kV))/\RelV p.2 q.2.2) a f->a.map (·.1)=c.map (λg=>g.map Sum.inl) ->
   ∃d:List (Addr×List Int),d.map (·.2)=c/\(∀p∈d,H p.1=some (.tup (p.2.map V.int)))/\f.map (λq=>(entryOfKey (tupleKind (mixKind P w)) q).key)=d.map λp=>Value.ref p.1:=by
 induction a with
 |nil=>
  intro c f r e;cases r;cases c with
  |nil=>exact⟨[],rfl,λp h=>(nomatch h),rfl⟩
  |cons x c=>cases e
 |cons kv a ih=>
  intro c f r e;cases r with
  |cons r rs=>
   cases c with
   |nil=>cases e
   |cons g c=>
    rw[xbr,xbr] at e;injection e with n k
    obtain⟨d,j,m,l⟩:=ih rs k;rename_i b _;obtain⟨s,i,o⟩:=r;refine⟨(b.2.1,g)::d,by rw[xbr,j],λp h=>?_,by rw[xbr,xbr,l];rfl⟩;rcases xbm.mp h with z|z
    ·subst z;rw[n,zbdw] at i;exact i
    ·exact m p z
open PySem.W in
def zbkg{sg:Shared}{a:List (Addr×List Int)}(h2:2<=a.length)
  (b:∀(i:Nat) (p:Addr×List Int),a[i]?=some p->∃(g:List Value) (o:Obj) (n:Nat),IntsAre g p.2/\sg.heap.get? p.1=some o/\o.cls=.type "tuple"/\o.data=.seq g.toArray n/\p.2≠[]):
  Srt.Answers P w B (Srt.rank (a.map (·.2))) (a.map λp=>Value.ref p.1) sg:=by
 refine⟨tuples' true,λR X=>?_,λi j C e u J=>?_⟩
 ·have Y:∀(l:List (Addr×List Int)),(∀p∈l,∃i:Nat,a[i]?=some p)->∃c:List Value,KatTups sg.heap (l.map λp=>Value.ref p.1) c/\c.length=l.length/\∀v∈c,∃i t,v=Value.int i t:=λl=>by
   induction l with
   |nil=>intro _;exact⟨[],KatTups.nil,rfl,λv d=>(nomatch d)⟩
   |cons p l ih=>
    intro f;obtain⟨c,E,I,H⟩:=ih λS A=>f S (xbi _ A)
    obtain⟨i,e⟩:=f p xby;obtain⟨g,o,n,h,k,G,m,y⟩:=b i p e;obtain⟨pa,pn⟩:=p;dsimp only at h k G m y;cases h with
    |nil=>exact absurd rfl y
    |cons x t r=>exact⟨Value.int x t::c,KatTups.cons k G m rfl E,by rw[xbv,xbv,I],λv d=>(xbm.mp d).elim (λz=>⟨x,t,z⟩) (H v)⟩
  obtain⟨c,E,I,H⟩:=Y a λp f=>List.mem_iff_getElem?.mp f
  exact kat_kind (T:=.type "int") E (by lia) (λv d=>by
   obtain⟨i,t,rfl⟩:=H v d
   exact Looks.of_pure rfl) rfl X
 ·rw[xbb] at e u;have s:a[i]?=some a[i]:=xbf e;have q:a[j]?=some a[j]:=xbf u;obtain⟨g,o,n,h,k,G,m,y⟩:=b i _ s;obtain⟨Q,o2,n2,c1,U,c3,c4,c5⟩:=b j _ q;unfold kas_ask;rw[zk (λp:Addr×List Int=>Value.ref p.1) _ s,zk (λp:Addr×List Int=>Value.ref p.1) _ q];refine kat_lt k m U c4 (Srt.zwn 0 h c1 ?_);rw[Srt.znl (by rw[xbb];exact e) (by rw[xbb];exact u),zk (λp:Addr×List Int=>p.2) _ s,zk (λp:Addr×List Int=>p.2) _ q] at J;exact J
def zvr{ps:List (Addr×List Int)}{p:Array Nat}(q:p.Perm (List.toArray (List.range ps.length)))(C:Srt.Up (Srt.rank (ps.map (·.2))) p ps.length):
  ∃o:List (Addr×List Int),o.Perm ps/\(o.map (·.2)).Pairwise (λx y=>HT.lexLt y x=false)/\Srt.outOf (ps.map λp=>Value.ref p.1) p=(o.map λp=>Value.ref p.1).toArray:=by
 have P:p.size=ps.length:=by rw[q.size_eq];simp
 have e:∀i∈p.toList,i<ps.length:=λi b=>by
  have G:=(q.mem_iff (a:=i)).mp (by rw[←xlz];exact b);exact xbs.mp (List.mem_toArray.mp G)
 refine⟨p.toList.map λi=>ps.getD i (0,[]),?_,?_,?_⟩
 ·have I:p.toList.Perm (List.range ps.length):=by
   have:=xfr.mp q
   simpa using this
  have t:=I.map λi=>ps.getD i (0,[])
  have E:((List.range ps.length).map λi=>ps.getD i (0,[]))=ps:=by
   apply xjs
   ·simp
   ·intro i S H;simp[xbh,H]
  rw[E] at t;exact t
 ·rw[xcv,xfw];intro i j b c m;rw[xjt,xjt];rw[xbb] at b c;have Q:i<p.size:=by simpa using b
  have J:j<p.size:=by simpa using c
  have w:=C i j (xcd m) (by lia);have g:∀k,(d:k<p.toList.length)->p.getD k 0=p.toList[k]:=λk d=>by
   have h:k<p.size:=by simpa using d
   rw[xdf,xdp h];simp
  have s:=e _ (xed b);have A:=e _ (xed c);have f:=Srt.znl (ks:=ps.map (·.2)) (i:=p.toList[j]) (j:=p.toList[i]) (by rw[xbb];exact A) (by rw[xbb];exact s);have l:Srt.lt (Srt.rank (ps.map (·.2))) p.toList[j] p.toList[i]=false:=by
   refine xcm λz=>?_
   unfold Srt.At at w;rw[g i b,g j c] at w;lia
  rw[l] at f;have v:∀k,k<ps.length->(ps.map (·.2)).getD k []=(ps.getD k (0,[])).2:=λk d=>by
   have r:ps[k]?=some ps[k]:=xbf d;rw[zk (λp:Addr×List Int=>p.2) _ r,xbh,r]
   rfl
  rw[v _ A,v _ s] at f;exact f.symm
 ·unfold Srt.outOf;rw[xcv]
  congr 1
  refine xea λi b=>?_
  have n:=e i b;have u:ps[i]?=some ps[i]:=xbf n;rw[zk (λp:Addr×List Int=>Value.ref p.1) _ u];show _=Value.ref (ps.getD i (0,[])).1;rw[xbh,u]
  rfl
def Inv.freeze(I:Inv X aU σ H s)(h:H a=some (.dT kvs))(e:s.heap.get? a=some ob):Inv X aU σ (upd H a (.frz ob (.dT kvs))) s:=by
 have d:∀{b u},H b=some u->(∀l,u≠.dT l)->upd H a (.frz ob (.dT kvs)) b=some u:=λ{b u} q n=>by
  rw[zw (by rintro rfl;rw[h] at q;cases q;exact n _ rfl)];exact q
 have z:=I.un (h':=s.heap) (t':=s.toks) (H':=upd H a (.frz ob (.dT kvs))) ⟨λb u q _ _ _=>q,λb u q _ _ _=>⟨u.slots,q⟩,λb u q n _=>by
   rw[zw (by rintro rfl;rw[h] at n;cases n)];exact n,λb u q _=>⟨u,q⟩,λb f q=>d q (λl z=>by cases z),λb o u q=>d q (λl z=>by cases z),λb g q=>⟨#[],by rw[d q (λl z=>by cases z)];simp⟩⟩ (λb u q=>by
   by_cases hb:b=a
   ·subst hb;rw[zu] at q;cases q;exact⟨e,(I.hok b _ h).stay (λc v _ r=>r) (λc r=>d r (λl z=>by cases z)) λc f r=>d r (λl z=>by cases z)⟩
   ·rw[zw hb] at q
    exact(I.hok b u q).stay (λc v _ r=>r) (λc r=>d r (λl z=>by cases z)) λc f r=>d r (λl z=>by cases z))
 exact z
def Itd(a:Addr) (d:Obj) (b:List (List Key×V)) (c:List (Addr×List Int)):It:=
 ⟨λi H=>i<c.length/\H a=some (.frz d (.dT b)),λi H x e=>e=H/\∃p,c[i]?=some p/\x=.ref p.1,λi H=>c.length<=i/\H a=some (.frz d (.dT b))⟩
def zze{P:Program}{w:World}{K:Fg}{tg:Expr}{a it:Addr}{r:Obj}{t:List (List Key×V)}{f:List (Addr×List Int)}{m:Array DictEntry}{ep:Nat}(ex:r.ExactDict)(dt:r.data=.dict m ep)
  (S:m.toList.map (·.key)=f.map λp=>Value.ref p.1):Turn P w K tg (Itd a r t f) [it] it (λi h=>h.IsKeyIter it a i m.size ep) where
 mem:=xcu.mpr rfl
 obj:=λi h j b n=>by
  have e:b=it:=xcu.mp n;subst e;obtain⟨o,e,c,d⟩:=j;exact⟨o,e,λv z=>by rw[d] at z;cases z⟩
 keep:=λi h h' j k=>j.at λo e=>k it (xcu.mpr rfl) o e
 item:=by
  intro Y G U T hc i aU s σ H E I C j hg;subst G U T;obtain⟨hi,hz⟩:=hg;have a0:m.size=f.length:=by
   have:=congrArg List.length S
   rwa [xbb,xbb,xce] at this
  obtain⟨eo,_⟩:=(show ObjOk Y.prog Y.w H s.heap a (.frz r (.dT t)) from I.hok a _ hz)
  obtain⟨J,Q,f2,f3,X,f5⟩:=C it (xcu.mpr rfl);have u:m[i]?=some m[i]:=xdp (by lia);have x:f[i]?=some f[i]:=xbf hi;have A:m[i].key=Value.ref f[i].1:=by
   have q:=congrArg (λl=>l[i]?) S;simp only[xcg,xcn,u,x] at q;exact xda q
  refine Dct.zve j ⟨r,eo,ex,dt⟩ u λg y sb=>?_
  have I1:Inv Y aU σ H {s with heap:=g}:=I.turned (t':=s.toks) (λb o n e=>sb.extBut b o n e) J Q f3 X f5;obtain⟨o,e,c,d⟩:=id y;exact⟨_,rfl,zbro (s:={s with heap:=g}) e c d (by decide) ⟨.ref f[i].1,H,I1,A,⟨rfl,f[i],x,rfl⟩,y,λb n=>(C b n).1⟩⟩
 done:=by
  intro Y G U T hc i aU s σ H E I C j hg;subst G U T;obtain⟨hi,hz⟩:=hg;have a0:m.size=f.length:=by
   have:=congrArg List.length S
   rwa [xbb,xbb,xce] at this
  obtain⟨eo,_⟩:=(show ObjOk Y.prog Y.w H s.heap a (.frz r (.dT t)) from I.hok a _ hz)
  obtain⟨J,Q,f2,f3,X,f5⟩:=C it (xcu.mpr rfl);exact Dct.zbcv (I.ok.hd hc) j ⟨r,eo,ex,dt⟩ (by lia) λg eb=>⟨rfl,I.turned (t':=s.toks) (λb o n e=>eb b o n e) J Q f3 X f5⟩
 self:=λ_ _ _ _ _ j h=>wpAny_pyIter_keyiter j h
def iDct(g:TE):TI:=λσ H R=>g σ H λx H1=>∃(a:Addr) (b:List (List Key×V)) (d:List (List Int)),x=.ref a/\H1 a=some (.dT b)/\b.map (·.1)=d.map (λf=>f.map Sum.inl) /\
 ∀(e:Obj) (c:List (Addr×List Int)),c.map (·.2)=d->(∀p∈c,H1 p.1=some (.tup (p.2.map V.int)))->R (Itd a e b c) (upd H1 a (.frz e (.dT b)))
def zbmt{X:Cx}{Q l:Expr}{n:TE}(hl:PE X l n):PI X Q l (iDct n):=by
 intro E s σ H R I h;refine thn (hl E s σ H _ I h) λv c f=>?_
 obtain⟨x,H1,y,C,q1⟩:=f;obtain⟨a,j,ks,rfl,A,J,q⟩:=q1;cases C;obtain⟨z,G,ys,g,t,es,ep,u,r,m,T,e5⟩:=(show ObjOk X.prog X.w H1 c.heap a (.dT j) from y.hok a _ A)
 obtain⟨k,U,Y,a3⟩:=zoh (P:=X.prog) (w:=X.w) g J;have d:es.toList.map (·.key)=k.map λp=>Value.ref p.1:=by rw[T,xcv];exact a3
 refine Dct.zvf G ⟨t,u,r,m⟩ ?_;have i:=y.freeze A u;refine⟨c.heap.objs.size,[c.heap.objs.size],_,_,_,rfl,i.kept (t':=c.toks) λb o e=>xbg _ e,zze r m d,⟨_,xbz _ rfl,rfl,rfl⟩,λb S=>?_,q t k U Y⟩;have e:b=c.heap.objs.size:=xcu.mp S;subst e;exact i.fpOk (xbl _) (i.hok.fresh (xbl _))
end L2
namespace L2
open Spec PyProof.Rows PySem.W
noncomputable def TupsG(g:Heap) (b:List (Addr×List Int)):Prop:=∀ p∈b,∃(a:List Value) (o:Obj) (n:Nat),IntsAre a p.2/\g.get? p.1=some o/\o.cls=.type "tuple"/\o.data=.seq a.toArray n
def zsh{a:Shared}:∀{ps},TupsG a.heap ps->∃b:List (Option Value),b.map Option.isSome=ps.map (λp=>!p.2.isEmpty)/\∀(W:List (Option Value)->Shared->Prop),W b a->wpAny (model P w) B ((ps.map λp=>Value.ref p.1).mapM firstOfTuple') W E a
 |[],_=>⟨[],rfl,λW h=>by rw[xns,List.mapM_nil];exact xbe h⟩
 |p::ps,h=>by
  obtain⟨b,g,l⟩:=zsh (ps:=ps) λq k=>h q (xbi _ k)
  obtain⟨j,o,n,c,d,e,f⟩:=h p xby;refine⟨j.toArray[0]?::b,?_,λW i=>?_⟩
  ·rw[xbr,xbr,g]
   congr 1
   obtain⟨u,s⟩:=p;dsimp only at c ⊢;cases c with
   |nil=>rfl
   |cons x t r=>rfl
  ·rw[xbr,List.mapM_cons];have m:Looks (model P w) a.heap (typeOf (.ref p.1)) o.cls:=(Looks.ld d).andThen .now;refine xba ?_;rw[kas_first_eq];refine xba (Looks.here m ?_);rw[e,if_neg (by first|decide|simp)];exact xba (listItems_at d f (xbe (xba (l _ (xbe i)))))
def zwk(x y:Value):keyLt' general' x y=oneLt' false x y:=rfl
def zbke{B:Around}{sg:Shared}(G:κ=general'\/κ=oneType')(s:B.units<cLine) (z:TupsG sg.heap [a])(y:TupsG sg.heap [b]) (t:C (HT.lexLt a.2 b.2) sg):
  wpAny (model P w) B (keyLt' κ (.ref a.1) (.ref b.1)) C E sg:=by
 obtain⟨m,o,n,q,d,e,h⟩:=z a xby;obtain⟨c,r,u,v,k,i,j⟩:=y b xby;rcases G with rfl|rfl
 ·rw[zwk];exact kat_one _ _ (HT.znx (items:=m.toArray) (items2:=c.toArray) ⟨o,d,e,n,h⟩ ⟨r,k,i,u,j⟩ q v s t)
 ·rw[keyLt'_oneType,oneLt'_eq];simp only[ite_true];refine xba (wpAny_cRoomFor s (xba (wpAny_callSpecialIfBound?_slot (T:="tuple") ⟨o,d,e⟩ xlw ?_)))
  obtain⟨x,H,p,A⟩:=o;obtain⟨l,f,data2,g⟩:=r;dsimp only at e h i j;subst e h i j;exact call_meets xlw ⟨_,d,rfl⟩ F.entry_tuple_lt (F.args_tuple_lt_2 _ _) (HT.zhv a.1 b.1 m.toArray c.toArray n u H f A g a.2 b.2 q v) ⟨d,k,xfu t⟩
def zbkh{B:Around}{sg:Shared}(hu:B.units<cLine)(c:TupsG sg.heap a)(g:∃p∈a,p.2=[]):Srt.Answers P w B (Srt.rank (a.map (·.2))) (a.map λp=>Value.ref p.1) sg:=by
 obtain⟨u,f1,U⟩:=zsh (P:=P) (w:=w) (B:=B) (E:=λ_ _=>False) c;have b:¬ (u.toArray.all λx=>x.isSome)=true:=λz=>by
  have z':u.all (λx=>x.isSome)=true:=by simpa using z
  obtain⟨p,s,he⟩:=g;have m:(!p.2.isEmpty)∈u.map Option.isSome:=by rw[f1];exact List.mem_map_of_mem (f:=λp:Addr×List Int=>!p.2.isEmpty) s
  obtain⟨o,X,e⟩:=xbt.mp m;have:=xca.mp z' o X;rw[e,he] at this;cases this
 have t:∀{κ},κ=general'\/κ=oneType'->∀i j C,i<(a.map λp=>Value.ref p.1).length->j<(a.map λp=>Value.ref p.1).length->C (Srt.lt (Srt.rank (a.map (·.2))) i j) sg->kas_ask P w B κ (a.map λp=>Value.ref p.1) i j C sg:=λ{κ} hκ i j C A y T=>by
  rw[xbb] at A y;have Q:a[i]?=some a[i]:=xbf A;have I:a[j]?=some a[j]:=xbf y;unfold kas_ask;rw[zk (λp:Addr×List Int=>Value.ref p.1) _ Q,zk (λp:Addr×List Int=>Value.ref p.1) _ I];rw[Srt.znl (by rw[xbb];exact A) (by rw[xbb];exact y),zk (λp:Addr×List Int=>p.2) _ Q,zk (λp:Addr×List Int=>p.2) _ I] at T;have l:∀k,(S:k<a.length)->TupsG sg.heap [a[k]]:=λk S q hq=>by
   rw[xcu.mp hq];exact c _ (xed S)
  exact zbke hκ hu (l i A) (l j y) T
 by_cases fst:(u.toArray[0]?.bind id).isSome=true
 ·refine⟨general',λR G=>?_,t (.inl rfl)⟩;rw[kat_kind_eq,xng,xoc];refine xba (xba (U _ (xbe ?_)));rw[if_neg b,if_pos fst];exact xbe G
 ·refine⟨oneType',λR G=>?_,t (.inr rfl)⟩;rw[kat_kind_eq,xng,xoc];refine xba (xba (U _ (xbe ?_)));rw[if_neg b,if_neg fst,oneTypeOnly'_eq,xng,xoc];have ty:∀ v∈(a.map λp=>Value.ref p.1),∀ W:Value->Shared->Prop,W (.type "tuple") sg->wpAny (model P w) B (typeOf v) W (λ_ _=>False) sg:=λv hv W hW=>by
   obtain⟨p,s,rfl⟩:=xbt.mp hv;obtain⟨us,o,n,a1,a2,a3,a4⟩:=c p s;have J:Looks (model P w) sg.heap (typeOf (.ref p.1)) o.cls:=(Looks.ld a2).andThen .now;rw[a3] at J;exact J.here hW
  refine xba (xba (xba (kas_mapM (r:=Value.type "tuple") _ ty (xbe ?_))))
  obtain⟨p,s,_⟩:=g;obtain⟨d,rest,rfl⟩:∃d rest,a=d::rest:=by
   cases a with
   |nil=>exact nomatch s
   |cons d rest=>exact⟨d,rest,rfl⟩
  have H:((List.map (λ_=>Value.type "tuple") ((d::rest).map λp=>Value.ref p.1)).toArray.all λx=>x==Value.type "tuple")=true:=by
   rw[List.all_toArray,xca];intro x Y;obtain⟨_,_,rfl⟩:=xbt.mp Y
   rfl
  have h:(List.map (λ_=>Value.type "tuple") ((d::rest).map λp=>Value.ref p.1)).toArray[0]?=some (Value.type "tuple"):=by simp
  rw[h];simp only[H,ite_true];exact xbe (xbe G)
def zbep{B:Around}{sg:Shared}{a:List (Addr×List Int)}(h:B.units<cLine)(k:2<=a.length)(b:TupsG sg.heap a):Srt.Answers P w B (Srt.rank (a.map (·.2))) (a.map λp=>Value.ref p.1) sg:=by
 by_cases c:∃p∈a,p.2=[]
 ·exact zbkh h b c
 ·refine zbkg k λi p l=>?_
  have d:=xbn l;obtain⟨m,o,n,e,j,f,g⟩:=b p d;exact⟨m,o,n,e,j,f,g,λz=>c ⟨p,d,z⟩⟩
def ziv(z:List (Addr×List Int)):Vals (z.map λp=>V.ref p.1) (z.map λp=>Value.ref p.1):=by
 induction z with
 |nil=>exact .nil
 |cons x z ih=>exact .cons rfl ih
end L2
namespace TS
open PyProof.Rows
noncomputable def kA(R:Keyed->Nat) (a:Array Keyed) (i:Nat):Nat:=match a[i]? with
 |some p=>R p
 |none=>0
def zeh(h:xs[i]?=ys[j]?):kA R xs i=kA R ys j:=by unfold kA;rw[h]
def zet(h:xs[i]?=some x):kA R xs i=R x:=by unfold kA;rw[h]
def UpA(R:Keyed->Nat) (c:Array Keyed) (a b:Nat):Prop:=∀i j,a<=i->i<=j->j<b->kA R c i<=kA R c j
def DnA(R:Keyed->Nat) (c:Array Keyed) (a b:Nat):Prop:=∀i j,a<=i->i<=j->j<b->kA R c j<=kA R c i
noncomputable def Orc(a:Program) (w:World) (A:Around) (s:Shared) (κ:SortKind) (b:Array Keyed) (R:Keyed->Nat):Prop:=
 ∀x,x∈b.toList->∀y,y∈b.toList->∀(C:Bool->Shared->Prop),C (decide (R x<R y)) s->wpAny (model a w) A (keyLt' κ x.1 y.1) C (λ_ _=>False) s
structure B (κ:SortKind) (a₀:Array Keyed) (au:SortSt):Prop where
 perm:(arrOf au).Perm a₀
 kind:kindOf au=κ
 failed:failedOf au=none
section
def B.size{a:SortSt}(h:B κ b a):(arrOf a).size=b.size:=h.perm.size_eq
def B.set{a:SortSt}(h:B κ c a){b:Array Keyed}(d:b.Perm (arrOf a)):B κ c (setArr a b):=⟨d.trans h.perm,h.kind,h.failed⟩
def B.mem{a:SortSt}(h:B κ c a){i:Nat}(d:i<c.size):∃x,(arrOf a)[i]?=some x/\x∈c.toList:=by
 have b:i<(arrOf a).size:=by rw[h.size];exact d
 exact⟨_,getElem?_pos _ i b,(xfr.mp h.perm).mem_iff.mp (by simp)⟩
end
section
def w_lt{x y:Keyed}{au:SortSt}{Q:Option Bool->SortSt->Prop}(O:Orc a w A s κ c R)(e:kindOf au=κ)(i:x∈c.toList)(j:y∈c.toList)(h:Q (some (decide (R x<R y))) au):wpS (model a w) A E s (lt' x y) Q au:=by
 rw[lt'_eq];refine xbq (xix ?_);rw[e];refine xbq (xlv (xkd (xey (O x i y j (λb d=>d=s/\b=decide (R x<R y)) ⟨rfl,rfl⟩) (λb d g=>?_) λ_ _ f=>f.elim)));obtain⟨rfl,rfl⟩:=g;exact⟨rfl,xbu h⟩
end
section
def zna{a:Array Keyed}{i:Nat}{x:Keyed}{au:SortSt}{Q:Keyed->SortSt->Prop}(e:a[i]?=some x)(h:Q x au):wpS (model b w) A E s (elem' a i) Q au:=by
 rw[elem'_eq,e];exact xbu h
end
section
def zox{i j:Nat}{au:SortSt}{Q:Option Bool->SortSt->Prop}(O:Orc a w A s κ c R)(b:B κ c au)(k:i<c.size)(l:j<c.size)(h:Q (some (decide (kA R (arrOf au) i<kA R (arrOf au) j))) au):wpS (model a w) A E s (ltAt' i j) Q au:=by
 obtain⟨x,e,f⟩:=b.mem k;obtain⟨y,d,g⟩:=b.mem l;rw[zet e,zet d] at h;rw[ltAt'_eq];exact xbq (xix (xbq (zna e (xbq (zna d (w_lt O b.kind f g h))))))
end
section
def zyx{i j:Nat}{au:SortSt}{Q:Unit->SortSt->Prop}(h:Q () (setArr au (mirror (arrOf au) i j ((j-i)/2)))):wpS (model a w) A E s (reverseSlice' i j) Q au:=by
 rw[reverseSlice'_eq];exact xhp h
def zbru{i j:Nat}{au:SortSt}{Q:Unit->SortSt->Prop}(h:Q () (setArr au (bubble (arrOf au) i (i-j)))):wpS (model a w) A E s (moveDown' i j) Q au:=by
 rw[moveDown'_eq];exact xhp h
end
def zbkt{lo x n N:Nat}(h:x<n)(a:lo+n<=N):lo+x<N:=xbo (xex h lo) a
def zbks{lo x n N:Nat}(h:x<n)(a:lo+n<=N):lo+x-1<N:=xdl (xhd _ _) (zbkt h a)
def zwt{lo n:Nat}(h:1<=n):lo+n-1<lo+n:=xja (xbo h (xoe _ _)) Nat.one_pos
def zbrm{j lo n:Nat}(h:j<lo+(n+1))(e:¬j=lo+n):j<lo+n:=xdq (xdb h) e
def zbog(a:k<j):i<=i+j-1-k:=Nat.le_sub_of_add_le (xds (xex a i))
def zboh(b:i<=k)(a:k<j):i+j-1-k<j:=xdl (xhj b _) (by rw[Nat.sub_right_comm,xdo];exact xja (xli a) Nat.one_pos)
def zmj{a:Array Keyed}(b:j<=a.size)(k:Nat):kA R (mirror a i j ((j-i)/2)) k=if i<=k/\k<j then kA R a (i+j-1-k) else kA R a k:=by
 have e:=getElem?_mirror_all (i:=i) b k;split
 ·rename_i c;rw[if_pos c] at e;exact zeh e
 ·rename_i c;rw[if_neg c] at e;exact zeh e
noncomputable def Out(c d:Array Keyed) (a b:Nat):Prop:=∀k,k<a\/b<=k->c[k]?=d[k]?
def Out.refl(c:Array Keyed)(a b:Nat):Out c c a b:=λ_ _=>rfl
def Out.trans(e:Out xs ys a b)(d:Out ys zs a b):Out xs zs a b:=λk c=>(e k c).trans (d k c)
def Out.mirror{c:Array Keyed}(g:j<=c.size)(f:a<=i)(e:j<=b):Out (mirror c i j ((j-i)/2)) c a b:=λk d=>by
 rw[getElem?_mirror_all (i:=i) g k,if_neg λz=>d.elim (λh=>xfh (xbc f z.1) h) λh=>xfh (xbc e h) z.2]
def Out.bubble{c:Array Keyed}(i:src<c.size)(j:d<=src)(g:a<=src-d)(f:src<b):Out (bubble c src d) c a b:=λk e=>by
 rw[getElem?_bubble i d j k,if_neg λz=>e.elim (λh=>xfh (xbc g (xdr z.symm)) h) λh=>xfh h (xdl (xbc (xdr z) (xhd _ _)) f),if_neg λz=>e.elim (λh=>xfh (xbc g (xcd z.1)) h) λh=>xfh h (xdl z.2 f)]
structure Sm (au st':SortSt) (a b:Nat):Prop where
 out:Out (arrOf st') (arrOf au) a b
 pend:pendingOf st'=pendingOf au
section
def zblc{lo a d:Nat}{au:SortSt}{Q:Option (Option Nat)×Nat->SortSt->Prop}(O:Orc m w A s κ q R)(b:B κ q au)(u:lo+d<=q.size)(v:1<=a)(k:a<=d)(y:UpA R (arrOf au) lo (lo+a))
  (h:∀n,a<=n->n<=d->UpA R (arrOf au) lo (lo+n)->(n=d\/kA R (arrOf au) (lo+n)<kA R (arrOf au) (lo+n-1))->Q (none,n) au):
  wpS (model m w) A E s (forIn [a:d] ((none,a):Option (Option Nat)×Nat) λ_ r=>do
   let x ←ltAt' (lo+r.2) (lo+r.2-1)
   match x with
   |some smaller=>if smaller=true then pure (ForInStep.done (none,r.2)) else pure (ForInStep.yield (none,r.2+1))
   |_=>pure (ForInStep.done (some none,r.2))) Q au:=by
 refine xef (I:=λx c f=>f=au/\c=(none,x)/\UpA R (arrOf au) lo (lo+x)) ?_ ?_ ⟨rfl,rfl,y⟩
 ·rintro x c f p o ⟨rfl,rfl,g⟩;dsimp only;refine xbq (zox O b (zbkt o u) (zbks o u) ?_);by_cases c:kA R (arrOf f) (lo+x)<kA R (arrOf f) (lo+x-1)
  ·simp only[c,xji,xgb];exact xbu (h x p (xcd o) g (.inr c))
  ·simp only[c,xip,xdx,xeu];refine xbu ⟨rfl,rfl,λi j t l z=>?_⟩;by_cases e:j=lo+x
   ·subst e;by_cases e2:i=lo+x
    ·rw[e2];exact xbl _
    ·exact xbc (g i (lo+x-1) t (xds (xdq l e2)) (zwt (xbc v p))) (xcq c)
   ·exact g i j t l (zbrm z e)
 ·rintro c f ⟨rfl,rfl,g⟩;rw[xnt k] at g ⊢;exact h d k (xbl _) g (.inl rfl)
end
def zjk{xs:Array Keyed}{i j:Nat}(b:j<=xs.size)(a:∀k,i<=k->k<j->kA R xs k=kA R xs (j-1))(k:Nat):kA R (mirror xs i j ((j-i)/2)) k=kA R xs k:=by
 rw[zmj b];split
 ·rename_i c;rw[a _ (zbog c.2) (zboh c.1 c.2),a k c.1 c.2]
 ·rfl
structure Fl (κ:SortKind) (a₀:Array Keyed) (R:Keyed->Nat) (st₀ au:SortSt) (lo n neq b:Nat):Prop where
 base:B κ a₀ au
 same:Sm st₀ au lo b
 dn:DnA R (arrOf au) lo (lo+n)
 hq:neq+1<=n
 eqs:∀i,lo+n-(neq+1)<=i->i<lo+n->kA R (arrOf au) i=kA R (arrOf au) (lo+n-1)
section
def Fl.turn{f c:SortSt}{lo n a b:Nat}(h:Fl κ o R f c lo n a b)(m:lo+n<=b)(r:b<=o.size):
  Fl κ o R f (setArr c (mirror (arrOf c) (lo+n-(a+1)) (lo+n) ((lo+n-(lo+n-(a+1)))/2))) lo n a b/\∀k,kA R (mirror (arrOf c) (lo+n-(a+1)) (lo+n) ((lo+n-(lo+n-(a+1)))/2)) k=kA R (arrOf c) k:=by
 have p:=h.base.size;have s:=h.hq;have d:lo+n<=(arrOf c).size:=by rw[p];exact xbc m r
 have e:=zjk (R:=R) (xs:=arrOf c) (i:=lo+n-(a+1)) (j:=lo+n) d h.eqs;refine⟨⟨h.base.set (mirror_perm _ _ _ _),⟨(Out.mirror d (Nat.le_sub_of_add_le (xct s lo)) m).trans h.same.out,h.same.pend⟩,λi j g l q=>?_,h.hq,λi g l=>?_⟩,e⟩
 ·show kA R (mirror _ _ _ _) j<=kA R (mirror _ _ _ _) i;rw[e,e];exact h.dn i j g l q
 ·show kA R (mirror _ _ _ _) i=kA R (mirror _ _ _ _) _;rw[e,e];exact h.eqs i g l
def Fl.less{f d:SortSt}{lo n a b:Nat}(h:Fl κ o R f d lo n a b)(c:kA R (arrOf d) (lo+n)<=kA R (arrOf d) (lo+n-1)):DnA R (arrOf d) lo (lo+(n+1)):=λi j g k l=>by
 have m:=h.hq;by_cases e:j=lo+n
 ·subst e;by_cases e2:i=lo+n
  ·rw[e2];exact xbl _
  ·exact xbc c (h.dn i (lo+n-1) g (xds (xdq k e2)) (zwt (xbc (xoe 1 a) m)))
 ·exact h.dn i j g k (zbrm l e)
def Fl.fresh{a d:SortSt}{lo n e b:Nat}(h:Fl κ g R a d lo n e b)(c:kA R (arrOf d) (lo+n)<=kA R (arrOf d) (lo+n-1)):Fl κ g R a d lo (n+1) 0 b:=⟨h.base,h.same,h.less c,xfi (xec _),λi f j=>by
 have:i=lo+(n+1)-1:=xem (xdb j) f
 rw[this]⟩
def Fl.more{d f:SortSt}{lo n a b:Nat}(h:Fl κ j R d f lo n a b)(c:kA R (arrOf f) (lo+n)=kA R (arrOf f) (lo+n-1)):Fl κ j R d f lo (n+1) (a+1) b:=by
 have k:=h.hq;refine⟨h.base,h.same,h.less (xdr c),xfi k,λi g l=>?_⟩;rw[show lo+(n+1)-1=lo+n from rfl];by_cases e:i=lo+n
 ·rw[e]
 ·rw[c];exact h.eqs i (xbc (xdr (Nat.succ_sub_succ (lo+n) (a+1)).symm) g) (zbrm l e)
end
section
def zblb{lo nrem:Nat}{au:SortSt}{Q:Option Nat->SortSt->Prop}(O:Orc a6 w A s κ G R)(b:B κ G au)(p:lo+nrem<=G.size)(h1:1<=nrem)
  (h:∀m a,1<=m->m<=nrem->B κ G a->Sm au a lo (lo+nrem)->UpA R (arrOf a) lo (lo+m)->Q (some m) a):wpS (model a6 w) A E s (countRun' lo nrem) Q au:=by
 have a4:Sm au au lo (lo+nrem):=⟨Out.refl _ _ _,rfl⟩
 have a7:∀J:Array Keyed,UpA R J lo (lo+1):=λJ i j l g S=>by
  have:i=j:=xem g (xbc (xdb S) l);subst this;exact xbl _
 have b0:∀J:Array Keyed,DnA R J lo (lo+1):=λJ i j l g S=>by
  have:i=j:=xem g (xbc (xdb S) l);subst this;exact xbl _
 rw[countRun'_eq];dsimp only;refine xbq (zblc O b p (xbl _) h1 (a7 _) λn n1 n2 hu a0=>?_);dsimp only;split
 ·exact xbu (h n au n1 n2 b a4 hu)
 rename_i a8;have U:n≠nrem:=λz=>a8 (by simp[z])
 have v:n<nrem:=xdq n2 U;have hl:kA R (arrOf au) (lo+n)<kA R (arrOf au) (lo+n-1):=by
  rcases a0 with z|z
  ·exact absurd z U
  ·exact z
 have hz:=b.size;have T:∀(n:Nat) (o:SortSt),B κ G o->Sm au o lo (lo+nrem)->1<=n->n<=nrem->DnA R (arrOf o) lo (lo+n) ->
   B κ G (setArr o (mirror (arrOf o) lo (lo+n) ((lo+n-lo)/2)))/\Sm au (setArr o (mirror (arrOf o) lo (lo+n) ((lo+n-lo)/2))) lo (lo+nrem)/\UpA R (mirror (arrOf o) lo (lo+n) ((lo+n-lo)/2)) lo (lo+n):=λn o b1 q X P u=>by
  have hz:=b1.size;have hm:=xct P lo;have t:lo+n<=(arrOf o).size:=by rw[hz];exact xbc hm p
  refine⟨b1.set (mirror_perm _ _ _ _),⟨(Out.mirror t (xbl _) hm).trans q.out,q.pend⟩,λi j l g S=>?_⟩;have hi:=xdl g S;rw[zmj t,zmj t,if_pos ⟨l,hi⟩,if_pos ⟨xbc l g,S⟩];exact u _ _ (zbog S) (xhj g _) (zboh l hi)
 have H:¬ kA R (arrOf au) lo<kA R (arrOf au) (lo+n-1)->∀k,lo<=k->k<lo+n->kA R (arrOf au) k=kA R (arrOf au) (lo+n-1):=λc k k1 k2=>by
  have g1:=hu lo k (xbl _) k1 k2;have g2:=hu k (lo+n-1) k1 (xds k2) (zwt n1);exact xem g2 (xbc (xcq c) g1)
 have a5:∀J:Array Keyed,(∀k,kA R J k=kA R (arrOf au) k)->¬ kA R (arrOf au) lo<kA R (arrOf au) (lo+n-1)->DnA R J lo (lo+(n+1)):=λJ e c i j l g S=>by
  rw[e,e];by_cases e2:j=lo+n
  ·subst e2;by_cases e3:i=lo+n
   ·rw[e3];exact xbl _
   ·rw[H c i l (xdq g e3)];exact xcd hl
  ·have jn:=zbrm S e2;rw[H c i l (xdl g jn),H c j (xbc l g) jn];exact xbl _
 split
 ·have t:lo+n<=(arrOf au).size:=by rw[hz];exact xbc (xct n2 lo) p
  refine xbq (zox O b (xbo (xiu h1) p) (zbks v p) ?_);by_cases c:kA R (arrOf au) lo<kA R (arrOf au) (lo+n-1)
  ·simp only[c,xji,xgb];exact xbu (h n au n1 n2 b a4 hu)
  ·simp only[c,xip,xdx,xeu];refine xbq (zyx ?_);have b1:B κ G (setArr au (mirror (arrOf au) lo (lo+n) ((lo+n-lo)/2))):=b.set (mirror_perm _ _ _ _);have q:Sm au (setArr au (mirror (arrOf au) lo (lo+n) ((lo+n-lo)/2))) lo (lo+nrem):=⟨Out.mirror t (xbl _) (xct n2 lo),rfl⟩
   have u:DnA R (arrOf (setArr au (mirror (arrOf au) lo (lo+n) ((lo+n-lo)/2)))) lo (lo+(n+1)):=a5 _ (zjk t (H c)) c;generalize (setArr au (mirror (arrOf au) lo (lo+n) ((lo+n-lo)/2)))=o at b1 q u ⊢;refine xbq (xlv (xik ⟨rfl,?_⟩));refine xbq (xgg (xef (I:=λx c a=>∃d,c=(none,x,d)/\Fl κ G R au a lo x d (lo+nrem)) (Q:=λc a=>∃m d,c=(none,m,d)/\n+1<=m/\m<=nrem/\Fl κ G R au a lo m d (lo+nrem)) ?_ ?_ ?_) ?_)
   ·rintro x c a l g ⟨d,rfl,f⟩;dsimp only;refine xbq (zox O f.base (zbkt g p) (zbks g p) ?_);by_cases c:kA R (arrOf a) (lo+x)<kA R (arrOf a) (lo+x-1)
    ·simp only[c,xji,xgb];split
     ·obtain⟨y,e⟩:=f.turn (xct (xcd g) lo) p;refine xbq (zyx (xbu ⟨0,rfl,y.fresh ?_⟩));refine xcd (?_:kA R (mirror _ _ _ _) _<kA R (mirror _ _ _ _) _);rw[e,e];exact c
     ·exact xbu ⟨0,rfl,f.fresh (xcd c)⟩
    ·simp only[c,xip,xdx,xeu];refine xbq (zox O f.base (zbks g p) (zbkt g p) ?_);by_cases c2:kA R (arrOf a) (lo+x-1)<kA R (arrOf a) (lo+x)
     ·simp only[c2,xji,xgb];exact xbu ⟨x,d,rfl,l,xcd g,f⟩
     ·simp only[c2,xip,xdx,xeu];exact xbu ⟨d+1,rfl,f.more (xem (xcq c2) (xcq c))⟩
   ·rintro c a ⟨d,rfl,f⟩;rw[xnt v] at f ⊢;exact⟨nrem,d,rfl,v,xbl _,f⟩
   ·exact⟨0,rfl,b1,q,u,xfi (xec _),λi g1 g2=>by
     have:i=lo+(n+1)-1:=xem (xdb g2) g1
     rw[this]⟩
   ·rintro c a ⟨m,d,rfl,l,g,f⟩;dsimp only;split
    ·obtain⟨y,e⟩:=f.turn (xct g lo) p;refine xbq (zyx (xbq (zyx ?_)));obtain⟨C,s3,u3⟩:=T m _ y.base y.same (xdy l) g y.dn;exact xbq (zblc O C p (xdy l) g u3 λY X P r _=>xbu (h Y _ (xbc (xdy l) X) P C s3 r))
    ·refine xbq (zyx ?_);obtain⟨C,s3,u3⟩:=T m _ f.base f.same (xdy l) g f.dn;exact xbq (zblc O C p (xdy l) g u3 λY X P r _=>xbu (h Y _ (xbc (xdy l) X) P C s3 r))
 ·rename_i a9;have b1:=b;have q:=a4
  have u:DnA R (arrOf au) lo (lo+(n+1)):=a5 _ (λ_=>rfl) (by
   have:n=1:=xem (xcq a9) n1;subst this
   simp)
  refine xbq (xlv (xik ⟨rfl,?_⟩));refine xbq (xgg (xef (I:=λx c a=>∃d,c=(none,x,d)/\Fl κ G R au a lo x d (lo+nrem)) (Q:=λc a=>∃m d,c=(none,m,d)/\n+1<=m/\m<=nrem/\Fl κ G R au a lo m d (lo+nrem)) ?_ ?_ ?_) ?_)
  ·rintro x c a l g ⟨d,rfl,f⟩;dsimp only;refine xbq (zox O f.base (zbkt g p) (zbks g p) ?_);by_cases c:kA R (arrOf a) (lo+x)<kA R (arrOf a) (lo+x-1)
   ·simp only[c,xji,xgb];split
    ·obtain⟨y,e⟩:=f.turn (xct (xcd g) lo) p;refine xbq (zyx (xbu ⟨0,rfl,y.fresh ?_⟩));refine xcd (?_:kA R (mirror _ _ _ _) _<kA R (mirror _ _ _ _) _);rw[e,e];exact c
    ·exact xbu ⟨0,rfl,f.fresh (xcd c)⟩
   ·simp only[c,xip,xdx,xeu];refine xbq (zox O f.base (zbks g p) (zbkt g p) ?_);by_cases c2:kA R (arrOf a) (lo+x-1)<kA R (arrOf a) (lo+x)
    ·simp only[c2,xji,xgb];exact xbu ⟨x,d,rfl,l,xcd g,f⟩
    ·simp only[c2,xip,xdx,xeu];exact xbu ⟨d+1,rfl,f.more (xem (xcq c2) (xcq c))⟩
  ·rintro c a ⟨d,rfl,f⟩;rw[xnt v] at f ⊢;exact⟨nrem,d,rfl,v,xbl _,f⟩
  ·exact⟨0,rfl,b1,q,u,xfi (xec _),λi g1 g2=>by
    have:i=lo+(n+1)-1:=xem (xdb g2) g1
    rw[this]⟩
  ·rintro c a ⟨m,d,rfl,l,g,f⟩;dsimp only;split
   ·obtain⟨y,e⟩:=f.turn (xct g lo) p;refine xbq (zyx (xbq (zyx ?_)));obtain⟨C,s3,u3⟩:=T m _ y.base y.same (xdy l) g y.dn;exact xbq (zblc O C p (xdy l) g u3 λY X P r _=>xbu (h Y _ (xbc (xdy l) X) P C s3 r))
   ·refine xbq (zyx ?_);obtain⟨C,s3,u3⟩:=T m _ f.base f.same (xdy l) g f.dn;exact xbq (zblc O C p (xdy l) g u3 λY X P r _=>xbu (h Y _ (xbc (xdy l) X) P C s3 r))
end
def zsa{a:Array Keyed}(f:src<a.size)(g:d<=src)(k:Nat):kA R (bubble a src d) k=if k=src-d then kA R a src else if src-d<k/\k<=src then kA R a (k-1) else kA R a k:=by
 have e:=getElem?_bubble f d g k;split
 ·rename_i c;rw[if_pos c] at e;exact zeh e
 ·rename_i c;rw[if_neg c] at e;split
  ·rename_i b;rw[if_pos b] at e;exact zeh e
  ·rename_i b;rw[if_neg b] at e;exact zeh e
def zmb(c:a<=b)(h:b-a<=n-max 0 n):b=a:=by
 rw[Nat.zero_max,xjo] at h;exact xem (Nat.le_of_sub_eq_zero (Nat.le_zero.mp h)) c
def zbuj(h:¬l ≥ r):l<=(l+r)/2:=(Nat.le_div_iff_mul_le xoh).mpr (by rw[Nat.mul_two];exact xct (xcd (xgv h)) l)
def zbrn(h:¬l ≥ r):(l+r)/2<r:=(Nat.div_lt_iff_lt_mul xoh).mpr (by rw[Nat.mul_two];exact Nat.add_lt_add_right (xgv h) r)
def hf_l(h:¬l ≥ r)(g:r-l<=k-x):(l+r)/2-l<=k-(x+1):=xbc (xds (xfd (zbuj h) (zbrn h))) (xgi g 1)
def hf_r(h:¬l ≥ r)(g:r-l<=k-x):r-((l+r)/2+1)<=k-(x+1):=xbc (xhj (xfi (zbuj h)) r) (xgi g 1)
def zbgb(h:p<j)(a:j<=q):j-1<q:=xbo (xja (xli h) Nat.one_pos) a
section
def zbxj{lo n J:Nat}{au:SortSt}{Q:Bool->SortSt->Prop}(O:Orc G w A s κ v R)(b:B κ v au)(hn:lo+n<=v.size)(h1:1<=J)(h2:J<=n)(up:UpA R (arrOf au) lo (lo+J))
  (h:∀a,B κ v a->Sm au a lo (lo+n)->UpA R (arrOf a) lo (lo+n)->Q true a):wpS (model G w) A E s (binarySort' lo n J) Q au:=by
 rw[binarySort'_eq]
 refine xbq (xgg (xef (I:=λk c a=>c=(none,())/\B κ v a/\Sm au a lo (lo+n)/\UpA R (arrOf a) lo (lo+min k n))
  (Q:=λc a=>c=(none,())/\B κ v a/\Sm au a lo (lo+n)/\UpA R (arrOf a) lo (lo+n)) ?_ ?_ ?_) ?_)
 ·rintro k c a k1 S ⟨rfl,u,f,up1⟩;rw[xeg (xcd S)] at up1;have hz:=u.size;have hk:lo+k<v.size:=xbo (xex S lo) hn
  refine xbq (xgg (xef (I:=λx c d=>d=a/\∃l r,c=(none,l,r)/\l<=r/\r<=k/\r-l<=k-x/\(∀i,i<l->kA R (arrOf a) (lo+i)<=kA R (arrOf a) (lo+k))/\(∀i,r<=i->i<k->kA R (arrOf a) (lo+k)<=kA R (arrOf a) (lo+i)))
   (Q:=λc d=>d=a/\∃l r,c=(none,l,r)/\l<=k/\(∀i,i<l->kA R (arrOf a) (lo+i)<=kA R (arrOf a) (lo+k))/\(∀i,l<=i->i<k->kA R (arrOf a) (lo+k)<=kA R (arrOf a) (lo+i))) ?_ ?_ ?_) ?_)
  ·rintro x c d x1 x2 ⟨rfl,l,r,rfl,C,o,y,U,P⟩;dsimp only;by_cases hge:l ≥ r
   ·rw[if_pos hge];have e:l=r:=xem C hge;subst e;exact xbu ⟨rfl,l,l,rfl,o,U,P⟩
   ·have hm:lo+(l+r)/2<lo+k:=xex (xbo (zbrn hge) o) lo;rw[if_neg hge];refine xbq (zox O u hk (xjm hm hk) ?_);by_cases c:kA R (arrOf d) (lo+k)<kA R (arrOf d) (lo+(l+r)/2)
    ·simp only[c,xji,xgb];exact xbu ⟨rfl,l,(l+r)/2,rfl,zbuj hge,xbc (xcd (zbrn hge)) o,hf_l hge y,U,λi g m=>xbc (xcd c) (up1 _ _ (xcf _ _) (xct g lo) (xex m lo))⟩
    ·simp only[c,xip,xdx,xeu];exact xbu ⟨rfl,(l+r)/2+1,r,rfl,zbrn hge,o,hf_r hge y,λi g=>xbc (up1 (lo+i) (lo+(l+r)/2) (xcf _ _) (xct (xdb g) lo) hm) (xcq c),P⟩
  ·rintro c d ⟨rfl,l,r,rfl,C,o,y,U,P⟩;have e:=zmb C y;subst e;exact⟨rfl,_,_,rfl,o,U,P⟩
  ·exact⟨rfl,0,k,rfl,xec _,xbl _,xbl _,λi hi=>absurd hi (Nat.not_lt_zero _),λi g m=>absurd m (xfh g)⟩
  ·rintro c d ⟨rfl,l,r,rfl,C,o,y⟩;dsimp only;have hd:lo+k-(lo+k-(lo+l))=lo+l:=Nat.sub_sub_self (xct C lo);have X:lo+k<(arrOf d).size:=by rw[hz];exact hk
   refine xbq (zbru (xbu ⟨rfl,u.set (bubble_perm _ _ _),⟨(Out.bubble X (xhd _ _) (by rw[hd];exact xcf _ _) (xex S lo)).trans f.out,f.pend⟩,λi j g m T=>?_⟩));show kA R (bubble (arrOf d) (lo+k) (lo+k-(lo+l))) i<=kA R (bubble (arrOf d) (lo+k) (lo+k-(lo+l))) j;rw[zsa X (xhd _ _),zsa X (xhd _ _),hd];rw[xeg S] at T;have t:j<=lo+k:=xdb T;have Y:∀q,lo<=q->q<lo+l->kA R (arrOf d) q<=kA R (arrOf d) (lo+k):=λq H q2=>by
    have:=o (q-lo) (xeh H q2);rw[xcr H] at this;exact this
   have a0:∀q,lo+l<=q->q<lo+k->kA R (arrOf d) (lo+k)<=kA R (arrOf d) q:=λq H q2=>by
    have q0:=xbc (xcf _ _) H;have:=y (q-lo) (xfm H) (xeh q0 q2);rw[xcr q0] at this;exact this
   by_cases i1:i=lo+l
   ·rw[if_pos i1];by_cases j1:j=lo+l
    ·rw[if_pos j1];exact xbl _
    ·have p:=xdq (i1 ▸ m) (xdn j1);rw[if_neg j1,if_pos ⟨p,t⟩];exact a0 _ (xds p) (zbgb p t)
   ·rw[if_neg i1];by_cases i2:lo+l<i/\i<=lo+k
    ·have p:=xbo i2.1 m;rw[if_pos i2,if_neg (xhq p),if_pos ⟨p,t⟩];exact up1 _ _ (xbc (xcf lo l) (xds i2.1)) (xgi m 1) (zbgb p t)
    ·have il:i<lo+l:=xdq (xcq λz=>i2 ⟨z,xbc m t⟩) i1;rw[if_neg i2];by_cases j1:j=lo+l
     ·rw[if_pos j1];exact Y i g il
     ·rw[if_neg j1];by_cases j2:lo+l<j/\j<=lo+k
      ·rw[if_pos j2];exact up1 _ _ g (xds (xjm il j2.1)) (zbgb j2.1 t)
      ·rw[if_neg j2];exact up1 _ _ g m (xbo (xdq (xcq λz=>j2 ⟨z,t⟩) j1) (xct C lo))
 ·rintro c a ⟨rfl,u,f,up1⟩;rw[xju (Nat.le_max_right _ _)] at up1;exact⟨rfl,u,f,up1⟩
 ·refine⟨rfl,b,⟨Out.refl _ _ _,rfl⟩,λi j g m T=>up i j g m (xbo T (xct (xbc (xia _ _) (xdr (Nat.max_eq_left h1))) lo))⟩
 ·rintro c a ⟨rfl,u,f,up1⟩;exact xbu (h a u f up1)
end
noncomputable def gallop':Bool->Keyed->Array Keyed->Nat->Nat->Nat->StateT SortSt Sem (Option Nat):=sortPriv% PySem.Builtin.gallop
def Cut(left:Bool) (R:Keyed->Nat) (c:Keyed) (b:Array Keyed) (a n h:Nat):Prop:=h<=n/\(∀i,i<h->if left then kA R b (a+i)<R c else kA R b (a+i)<=R c)/\(∀i,h<=i->i<n->if left then R c<=kA R b (a+i) else R c<kA R b (a+i))
def ahead(left:Bool) (R:Keyed->Nat) (c:Keyed) (b:Array Keyed) (a i:Nat):Bool:=if left then decide (kA R b (a+i)<R c) else decide (kA R b (a+i)<=R c)
section
def znb{left:Bool}{a:Keyed}{d:Array Keyed}{b i:Nat}{au:SortSt}{Q:Option Bool->SortSt->Prop}(O:Orc f w A s κ k R)(g:kindOf au=κ)(j:a∈k.toList)(l:∃x,d[b+i]?=some x/\x∈k.toList)(h:Q (some (ahead left R a d b i)) au):
  wpS (model f w) A E s (do
   let x ←elem' d (b+i)
   if left=true then lt' x a else do
    let y ←lt' a x
    pure (Option.map (λx=>!x) y)) Q au:=by
 obtain⟨x,e,m⟩:=l;refine xbq (zna e ?_);unfold ahead at h;rw[zet e] at h;cases left with
 |true=>
  rw[if_pos rfl] at h ⊢;exact w_lt O g m j h
 |false=>
  rw[if_neg (by decide)] at h ⊢;refine xbq (w_lt O g j m (xbu ?_));have q:(!decide (R a<R x))=decide (R x<=R a):=by
   by_cases c:R a<R x
   ·rw[xcj c,xcm (Nat.not_le_of_lt c)];rfl
   ·rw[xcm c,xcj (xcq c)];rfl
  show Q (some (!decide (R a<R x))) au;rw[q];exact h
end
def zyp(c:UpA R arr base (base+n))(a:i<=j)(b:j<n)(h:ahead left R key arr base j=true):ahead left R key arr base i=true:=by
 have:=c (base+i) (base+j) (xcf _ _) (xct a _) (xex b _);unfold ahead at h ⊢;cases left with
 |true=>rw[if_pos rfl] at h ⊢;exact xcj (xdl this (xdc h))
 |false=>rw[if_neg (by decide)] at h ⊢;exact xcj (xbc this (xdc h))
def zbqp(f:h<=n)(b:∀i,i<h->ahead left R key arr base i=true)(d:∀i,h<=i->i<n->ahead left R key arr base i=false):Cut left R key arr base n h:=by
 refine⟨f,λi e=>?_,λi a c=>?_⟩
 ·have:=b i e;unfold ahead at this;cases left with
  |true=>rw[if_pos rfl] at this ⊢;exact xdc this
  |false=>rw[if_neg (by decide)] at this ⊢;exact xdc this
 ·have:=d i a c;unfold ahead at this;cases left with
  |true=>rw[if_pos rfl] at this ⊢;exact xcq (xmz this)
  |false=>rw[if_neg (by decide)] at this ⊢;exact xgv (xmz this)
def zbeb(c:¬a ≥ b):(b-a)/2<b-a:=Nat.div_lt_self (xgl (xgv c)) (xbl 2)
def zbtw(c:¬a ≥ b):a+(b-a)/2<b:=xen (zbeb c)
def zbkq(c:¬a ≥ b)(h:b<=n):a+(b-a)/2<n:=xbo (zbtw c) h
def zboj(h:b-a<=n-x):b-(a+(b-a)/2+1)<=n-(x+1):=xbc (xhj (xfi (xcf a _)) b) (xgi h 1)
def zboi(c:¬a ≥ b)(h:b-a<=n-x):a+(b-a)/2-a<=n-(x+1):=by
 rw[xdo];exact xbc (xds (zbeb c)) (xgi h 1)
def zbqe(o:Nat):o<2*o+1:=xnf (xlo o xoh)
def zbqf(h:x+1<=o):x+1+1<=2*o+1:=xfi (xbc h (xlo o xoh))
def zblp{a b n:Nat}(h:a+b<n):b<n-a:=Nat.lt_sub_of_add_lt (xnu a b ▸ h)
inductive GI (f:Nat->Bool) (n:Nat) (au:SortSt) (x:Nat):Option (Option Nat)×Nat×Nat->SortSt->Prop where
 |mk {a b:Nat}(q1:a<=b) (q2:b<=n) (q3:b-a<=n-x) (q4:∀i,i<a->f i=true) (q5:∀i,b<=i->i<n->f i=false):GI f n au x (none,a,b) au
inductive GE (f:Nat->Bool) (n:Nat) (au:SortSt):Option (Option Nat)×Nat×Nat->SortSt->Prop where
 |mk {b:Nat}(q2:b<=n) (q4:∀i,i<b->f i=true) (q5:∀i,b<=i->i<n->f i=false):GE f n au (none,b,b) au
inductive GU (f:Nat->Bool) (n hint:Nat) (P:Nat->Prop) (au:SortSt):Option (Option Nat)×Nat×Nat->SortSt->Prop where
 |mk {l o:Nat}(g1:l<o) (g2:hint+l<n) (g3:f (hint+l)=true) (g4:P o):GU f n hint P au (none,l,o) au
inductive GD (f:Nat->Bool) (hint:Nat) (P:Nat->Prop) (au:SortSt):Option (Option Nat)×Nat×Nat->SortSt->Prop where
 |mk {l o:Nat}(g1:l<o) (g2:l<=hint) (g3:f (hint-l)=false) (g4:P o):GD f hint P au (none,l,o) au
section
def zhg{left:Bool}{p:Keyed}{m:Array Keyed}{f n d:Nat}{au:SortSt}{Q:Option Nat->SortSt->Prop}(O:Orc a0 w A s κ a₀ R)(hk:kindOf au=κ)(q:p∈a₀.toList)(ma:∀i,i<n->∃x,m[f+i]?=some x/\x∈a₀.toList)(Y:d<n)
  (up:UpA R m f (f+n))(h:∀k,Cut left R p m f n k->Q (some k) au):wpS (model a0 w) A E s (gallop' left p m f n d) Q au:=by
 have u:∀i j,i<=j->j<n->ahead left R p m f j=true->ahead left R p m f i=true:=λi j y P=>zyp up y P
 have r:∀i j,i<=j->j<n->ahead left R p m f i=false->ahead left R p m f j=false:=λi j y P e=>by
  cases c:ahead left R p m f j with
  |false=>rfl
  |true=>rw[u i j y P c] at e;cases e
 refine xbq (znb O hk q (ma d Y) ?_);dsimp only;cases hr:ahead left R p m f d with
 |true=>
  rw[if_pos rfl];refine xbq (xgg (xef (I:=λx=>GU (ahead left R p m f) n d (x+1<=·) au) (Q:=GU (ahead left R p m f) n d (λo=>n-d<=o\/(d+o<n/\ahead left R p m f (d+o)=false)) au) ?_ ?_ ?_) ?_)
  ·rintro x c T x1 x2 @⟨l,o,J,v,G,C⟩;dsimp only;by_cases c:o ≥ n-d
   ·rw[if_pos c];exact xbu (.mk J v G (.inl c))
   ·have c3:d+o<n:=xen (xgv c);rw[if_neg c];refine xbq (znb O hk q (ma (d+o) c3) ?_);dsimp only;cases c2:ahead left R p m f (d+o) with
    |true=>exact xbu (.mk (zbqe o) c3 c2 (zbqf C))
    |false=>exact xbu (.mk J v G (.inr ⟨c3,c2⟩))
  ·rintro c T @⟨l,o,J,v,G,C⟩;rw[Nat.zero_max] at C;exact .mk J v G (.inl (xbc (xhd _ _) (xdu C)))
  ·exact .mk Nat.one_pos Y hr (xbl _)
  ·rintro c T @⟨l,o,J,v,G,C⟩;dsimp only;have f1:∀i,i<d+l+1->ahead left R p m f i=true:=λi S=>u i (d+l) (xdb S) v G
   have f2:∀i,d+min o (n-d)<=i->i<n->ahead left R p m f i=false:=λi y P=>by
    rcases C with g|⟨ga,gb⟩
    ·rw[xju g,xcr (xcd Y)] at y;exact absurd P (xfh y)
    ·rw[xeg (xcd (zblp ga))] at y;exact r (d+o) i y P gb
   have f3:d+l+1<=d+min o (n-d):=xct (Nat.le_min.mpr ⟨J,zblp v⟩) d;have f4:d+min o (n-d)<=n:=xbc (xct (xhk _ _) d) (xdr (xcr (xcd Y)));generalize d+l+1=lo at f1 f3 ⊢;generalize d+min o (n-d)=S at f2 f3 f4 ⊢;refine xbq (xgg (xef (I:=GI (ahead left R p m f) n au) (Q:=GE (ahead left R p m f) n au) ?_ ?_ (.mk f3 f4 (xbc (xhd _ _) f4) f1 f2)) ?_)
   ·rintro x c U x1 x2 @⟨a,b,q1,t,X,z,H⟩;dsimp only;by_cases c:a ≥ b
    ·rw[if_pos c];have e:b=a:=xem c q1;subst e;exact xbu (.mk t z H)
    ·rw[if_neg c];refine xbq (znb O hk q (ma (a+(b-a)/2) (zbkq c t)) ?_);dsimp only;cases c2:ahead left R p m f (a+(b-a)/2) with
     |true=>exact xbu (.mk (zbtw c) t (zboj X) (λi S=>u i (a+(b-a)/2) (xdb S) (zbkq c t) c2) H)
     |false=>exact xbu (.mk (xcf _ _) (xcd (zbkq c t)) (zboi c X) z λi y P=>r (a+(b-a)/2) i y P c2)
   ·rintro c U @⟨a,b,q1,t,X,z,H⟩;have e:=zmb q1 X;subst e;exact .mk t z H
   ·rintro c U @⟨b,t,z,H⟩;exact xbu (h b (zbqp t z H))
 |false=>
  rw[if_neg (by decide)];refine xbq (xgg (xef (I:=λx=>GD (ahead left R p m f) d (x+1<=·) au) (Q:=GD (ahead left R p m f) d (λo=>d+1<=o\/(o<=d/\ahead left R p m f (d-o)=true)) au) ?_ ?_ ?_) ?_)
  ·rintro x c T x1 x2 @⟨l,o,J,v,G,C⟩;dsimp only;by_cases c:o ≥ d+1
   ·rw[if_pos c];exact xbu (.mk J v G (.inl c))
   ·rw[if_neg c];refine xbq (znb O hk q (ma (d-o) (xdl (xhd _ _) Y)) ?_);dsimp only;cases c2:ahead left R p m f (d-o) with
    |true=>exact xbu (.mk J v G (.inr ⟨xdb (xgv c),c2⟩))
    |false=>exact xbu (.mk (zbqe o) (xdb (xgv c)) c2 (zbqf C))
  ·rintro c T @⟨l,o,J,v,G,C⟩;rw[Nat.zero_max] at C;exact .mk J v G (.inl (xbc Y (xdu C)))
  ·exact .mk Nat.one_pos (xec _) hr (xbl _)
  ·rintro c T @⟨l,o,J,v,G,C⟩;dsimp only;have f1:∀i,i<d+1-min o (d+1)->ahead left R p m f i=true:=λi S=>by
    rcases C with g|⟨ga,gb⟩
    ·rw[xju g,xjo] at S;exact absurd S (Nat.not_lt_zero _)
    ·rw[xeg (xgm ga),Nat.succ_sub ga] at S;exact u i (d-o) (xdb S) (xdl (xhd _ _) Y) gb
   have f2:∀i,d-l<=i->i<n->ahead left R p m f i=false:=λi y P=>r (d-l) i y P G
   have f3:d+1-min o (d+1)<=d-l:=xbc (xhj (Nat.le_min.mpr ⟨J,xfi v⟩) _) (xdr (Nat.succ_sub_succ d l));have f4:d-l<=n:=xbc (xhd _ _) (xcd Y);generalize d+1-min o (d+1)=lo at f1 f3 ⊢;generalize d-l=S at f2 f3 f4 ⊢;refine xbq (xgg (xef (I:=GI (ahead left R p m f) n au) (Q:=GE (ahead left R p m f) n au) ?_ ?_ (.mk f3 f4 (xbc (xhd _ _) f4) f1 f2)) ?_)
   ·rintro x c U x1 x2 @⟨a,b,q1,t,X,z,H⟩;dsimp only;by_cases c:a ≥ b
    ·rw[if_pos c];have e:b=a:=xem c q1;subst e;exact xbu (.mk t z H)
    ·rw[if_neg c];refine xbq (znb O hk q (ma (a+(b-a)/2) (zbkq c t)) ?_);dsimp only;cases c2:ahead left R p m f (a+(b-a)/2) with
     |true=>exact xbu (.mk (zbtw c) t (zboj X) (λi S=>u i (a+(b-a)/2) (xdb S) (zbkq c t) c2) H)
     |false=>exact xbu (.mk (xcf _ _) (xcd (zbkq c t)) (zboi c X) z λi y P=>r (a+(b-a)/2) i y P c2)
   ·rintro c U @⟨a,b,q1,t,X,z,H⟩;have e:=zmb q1 X;subst e;exact .mk t z H
   ·rintro c U @⟨b,t,z,H⟩;exact xbu (h b (zbqp t z H))
end
noncomputable abbrev Ord(R:Keyed->Nat) (l:List Keyed):Prop:=l.Pairwise λx y=>R x<=R y
structure SmG (au st':SortSt):Prop where
 arr:arrOf st'=arrOf au
 pend:pendingOf st'=pendingOf au
 kind:kindOf st'=kindOf au
 failed:failedOf st'=failedOf au
def SmG.refl(au:SortSt):SmG au au:=⟨rfl,rfl,rfl,rfl⟩
def SmG.trans(x:SmG a b)(y:SmG b c):SmG a c:=⟨y.arr.trans x.arr,y.pend.trans x.pend,y.kind.trans x.kind,y.failed.trans x.failed⟩
noncomputable def mergeLo':Array Keyed->Array Keyed->StateT SortSt Sem (Array Keyed):=sortPriv% PySem.Builtin.mergeLo
noncomputable def mergeHi':Array Keyed->Array Keyed->StateT SortSt Sem (Array Keyed):=sortPriv% PySem.Builtin.mergeHi
structure ML (R:Keyed->Nat) (all out rest:List Keyed):Prop where
 perm:(out++rest).Perm all
 ord:Ord R out
 le:∀x∈out,∀y∈rest,R x<=R y
def ML.grow{a:List Keyed}(m:ML R all out a)(p:a.Perm (c++rest'))(o:Ord R c)(h:∀x∈c,∀y∈rest',R x<=R y):ML R all (out++c) rest':=by
 refine⟨?_,xgj.mpr ⟨m.ord,o,λx hx y b=>m.le x hx y (p.mem_iff.mpr (xii _ b))⟩,λx hx y b=>?_⟩
 ·rw[xch];exact(xgx out p.symm).trans m.perm
 ·rcases xcc.mp hx with hx|hx
  ·exact m.le x hx y (p.mem_iff.mpr (xdw _ b))
  ·exact h x hx y b
def ML.fin{b a:List Keyed}(m:ML R all out b)(p:a.Perm b)(o:Ord R a):(out++a).Perm all/\Ord R (out++a):=
 ⟨(xgx out p).trans m.perm,xgj.mpr ⟨m.ord,o,λx d y c=>m.le x d y (p.mem_iff.mp c)⟩⟩
def Ord.at(h:Ord R l){i j:Nat}(g:l[i]?=some x)(k:l[j]?=some y)(a:i<=j):R x<=R y:=by
 obtain⟨e,d⟩:=xbd.mp g;obtain⟨f,b⟩:=xbd.mp k;by_cases c:i=j
 ·subst c;rw[←d,←b];exact xbl _
 ·rw[←d,←b];exact xfw.mp h i j e f (xdq a c)
def Ord.drop(h:Ord R l)(n:Nat):Ord R (l.drop n):=xgy (xnh _ _) h
def Ord.take(h:Ord R l)(n:Nat):Ord R (l.take n):=xgy (xlg _ _) h
def zbp{l:List Keyed}(h:y∈l.drop n):∃j,n<=j/\l[j]?=some y:=by
 obtain⟨i,a,e⟩:=xev h;refine⟨n+i,xcf _ _,?_⟩;rw[←e,xni];exact xbf _
def zr{l:List Keyed}(h:y∈l.take n):∃j,j<n/\l[j]?=some y:=by
 obtain⟨i,b,e⟩:=xev h;have a:i<n/\i<l.length:=by rw[xcl] at b;exact Nat.lt_min.mp b
 refine⟨i,a.1,?_⟩;rw[←e,xnj];exact xbf _
def zjq{l:List Keyed}{i:Nat}{x:Keyed}(h:l[i]?=some x):l.drop i=x::l.drop (i+1):=by
 obtain⟨a,rfl⟩:=xbd.mp h;exact xde a
def zof(l:List Keyed)(i k:Nat):l.drop i=(l.drop i).take k++l.drop (i+k):=by
 rw[←xmp,xdd]
structure Two (R:Keyed->Nat) (la lb:List Keyed):Prop where
 oa:Ord R la
 ob:Ord R lb
 last:∀x,la[la.length-1]?=some x->∀y∈lb,R y<=R x
def Fin(R:Keyed->Nat) (a b:List Keyed) (r:Array Keyed):Prop:=r.toList.Perm (a++b)/\Ord R r.toList
section
variable {la:List Keyed}{lb:List Keyed}{out:Array Keyed}{ia:Nat}{ib:Nat}
def ML.pushB{R:Keyed->Nat}{a:List Keyed}(T:Two R la lb)(m:ML R a out.toList (la.drop ia++lb.drop ib)){y:Keyed}(b:lb[ib]?=some y)(h:∀z∈la.drop ia,R y<=R z):ML R a (out.push y).toList (la.drop ia++lb.drop (ib+1)):=by
 rw[xfk];refine m.grow ?_ (xlb _ _) λx c z hz=>?_
 ·rw[zjq b];exact xnv
 ·simp at c;subst c
  rcases xcc.mp hz with hz|hz
  ·exact h z hz
  ·obtain⟨j,d,e⟩:=zbp hz;exact T.ob.at b e (xdu d)
end
section
variable {w:World}{la:List Keyed}{lb:List Keyed}{out:Array Keyed}{ia:Nat}{ib:Nat}
def ML.pushA{R:Keyed->Nat}{a:List Keyed}(T:Two R la lb)(m:ML R a out.toList (la.drop ia++lb.drop ib)){x:Keyed}(c:la[ia]?=some x)(h:∀z∈lb.drop ib,R x<=R z):ML R a (out.push x).toList (la.drop (ia+1)++lb.drop ib):=by
 rw[xfk];refine m.grow ?_ (xlb _ _) λw b z hz=>?_
 ·rw[zjq c];exact .refl _
 ·simp at b;subst b
  rcases xcc.mp hz with hz|hz
  ·obtain⟨j,d,e⟩:=zbp hz;exact T.oa.at c e (xdu d)
  ·exact h z hz
end
def zcg(a:Array Keyed)(i j:Nat):(a.extract i j).toList=(a.toList.drop i).take (j-i):=by
 rw[xmb,List.extract_eq_take_drop]
def zsi(a:Array Keyed)(i:Nat):(a.extract i).toList=a.toList.drop i:=by
 rw[zcg];exact xej (by simp)
def zby{a:Array Keyed}(h:a.toList[i]?=some x):kA R a i=R x:=zet (by rw[←xcn];exact h)
section
variable {a:Array Keyed}{b:Array Keyed}{out:Array Keyed}{ia:Nat}{ib:Nat}{k:Nat}
def ML.galA(T:Two R a.toList b.toList)(m:ML R all out.toList (a.toList.drop ia++b.toList.drop ib))(o:b.toList[ib]?=some y)(c:Cut false R y a ia (a.size-ia) k):ML R all (out++a.extract ia (ia+k)).toList (a.toList.drop (ia+k)++b.toList.drop ib)/\∀z∈a.toList.drop (ia+k),R y<=R z:=by
 have l:∀z∈a.toList.drop (ia+k),R y<=R z:=λz d=>by
  obtain⟨j,f,e⟩:=zbp d;have i:j<a.size:=by have:=(xbd.mp e).1;simpa using this
  have n:=xbc (xcf _ _) f;have:=c.2.2 (j-ia) (xfm f) (xfd n i);rw[xcr n,zby e] at this;exact xcd this
 have g:∀z∈(a.toList.drop ia).take k,R z<=R y:=λz d=>by
  obtain⟨j,f,e⟩:=zr d;rw[xfo] at e;have:=c.2.1 j f;rw[zby e] at this;exact this
 refine⟨?_,l⟩;rw[xeb,zcg,xdo];refine m.grow ?_ ((T.oa.drop ia).take k) λz d v hv=>?_
 ·conv=>lhs;rw[zof a.toList ia k]
  rw[xch]
 ·rcases xcc.mp hv with hv|hv
  ·exact xbc (g z d) (l v hv)
  ·obtain⟨j,f,e⟩:=zbp hv;exact xbc (g z d) (T.ob.at o e f)
def ML.galB(T:Two R a.toList b.toList)(m:ML R all out.toList (a.toList.drop ia++b.toList.drop ib))(o:a.toList[ia]?=some x)(c:Cut true R x b ib (b.size-ib) k):ML R all (out++b.extract ib (ib+k)).toList (a.toList.drop ia++b.toList.drop (ib+k))/\∀z∈b.toList.drop (ib+k),R x<=R z:=by
 have l:∀z∈b.toList.drop (ib+k),R x<=R z:=λz d=>by
  obtain⟨j,f,e⟩:=zbp d;have i:j<b.size:=by have:=(xbd.mp e).1;simpa using this
  have n:=xbc (xcf _ _) f;have:=c.2.2 (j-ib) (xfm f) (xfd n i);rw[xcr n,zby e] at this;exact this
 have g:∀z∈(b.toList.drop ib).take k,R z<=R x:=λz d=>by
  obtain⟨j,f,e⟩:=zr d;rw[xfo] at e;have:=c.2.1 j f;rw[zby e] at this;exact xcd this
 refine⟨?_,l⟩;rw[xeb,zcg,xdo];refine m.grow ?_ ((T.ob.drop ib).take k) λz d v hv=>?_
 ·conv=>lhs;rw[zof b.toList ib k]
  rw[←xch,←xch];exact xjh _ xib
 ·rcases xcc.mp hv with hv|hv
  ·obtain⟨j,f,e⟩:=zbp hv;exact xbc (g z d) (T.oa.at o e f)
  ·exact xbc (g z d) (l v hv)
end
def ML.done{a:Array Keyed}{b:Array Keyed}{c:Array Keyed}{d:Nat}{e:Nat}(T:Two R a.toList b.toList)(m:ML R (a.toList++b.toList) c.toList (a.toList.drop d++b.toList.drop e))(h:d=a.size\/e=b.size):Fin R a.toList b.toList (c++a.extract d++b.extract e):=by
 unfold Fin;rw[xeb,xeb,zsi,zsi,xch];refine m.fin (.refl _) ?_;rcases h with rfl|rfl
 ·rw[xgs (by simp),List.nil_append];exact T.ob.drop _
 ·rw[xgs (as:=b.toList) (by simp),xdt];exact T.oa.drop _
def ML.lastA{a:Array Keyed}{b:Array Keyed}{c:Array Keyed}{f:Nat}{g:Nat}(T:Two R a.toList b.toList)(m:ML R (a.toList++b.toList) c.toList (a.toList.drop f++b.toList.drop g))(h:f+1=a.size):Fin R a.toList b.toList (c++b.extract g++a.extract f):=by
 unfold Fin;rw[xeb,xeb,zsi,zsi,xch];refine m.fin xib (xgj.mpr ⟨T.ob.drop _,T.oa.drop _,λv k z i=>?_⟩);obtain⟨j,l,e⟩:=zbp i;have d:j<a.size:=by have:=(xbd.mp e).1;simpa using this
 have:j=a.toList.length-1:=xem (xds (by rw[xce];exact d)) (by rw[xce,←h];exact l);subst this;exact T.last z e v (xfe k)
noncomputable def setG':Nat->StateT SortSt Sem Unit:=sortPriv% PySem.Builtin.setMinGallop
section
def zyw{g:Nat}{au:SortSt}{Q:Unit->SortSt->Prop}(h:∀a,SmG au a->Q () a):wpS (model b w) A E s (setG' g) Q au:=
 xhp (h _ ⟨rfl,rfl,rfl,rfl⟩)
end
section
def zbwn{α:Type}{K:Nat->StateT SortSt Sem α}{Q:α->SortSt->Prop}{au:SortSt}(h:∀v,wpS (model a w) A E s (K v) Q au):∀y x:Nat,wpS (model a w) A E s (if y > 1 then K x else K y) Q au:=λy x=>by
 by_cases e:y > 1
 ·rw[if_pos e];exact h x
 ·rw[if_neg e];exact h y
end
section
def zbwp{α:Type}{c b:Prop}[Decidable c][Decidable b]{X Y d:StateT SortSt Sem α}{Q:α->SortSt->Prop}{au:SortSt}(h:¬c->d=Y)(g:c->b->wpS (model a w) A E s X Q au)(f:(c->¬b)->wpS (model a w) A E s Y Q au):wpS (model a w) A E s (if c then(if b then X else Y) else d) Q au:=by
 by_cases e:c
 ·rw[if_pos e];by_cases e2:b
  ·rw[if_pos e2];exact g e e2
  ·rw[if_neg e2];exact f λ_=>e2
 ·rw[if_neg e,h e];exact f λz=>absurd z e
def zbla{α:Type}{c b d:Prop}[Decidable c][Decidable b][Decidable d]{X f Y g:StateT SortSt Sem α}{Q:α->SortSt->Prop}{au:SortSt}(j:¬c->g=Y)(i:c->b->wpS (model a w) A E s X Q au)(k:c->d->wpS (model a w) A E s f Q au)(h:(c->¬b/\¬d)->wpS (model a w) A E s Y Q au):wpS (model a w) A E s (if c then(if b then X else if d then f else Y) else g) Q au:=by
 by_cases e:c
 ·rw[if_pos e];by_cases e2:b
  ·rw[if_pos e2];exact i e e2
  ·rw[if_neg e2];by_cases e3:d
   ·rw[if_pos e3];exact k e e3
   ·rw[if_neg e3];exact h λ_=>⟨e2,e3⟩
 ·rw[if_neg e,j e];exact h λz=>absurd z e
def zbwo{α:Type}{c b:Prop}[Decidable c][Decidable b]{X d Y:StateT SortSt Sem α}{Q:α->SortSt->Prop}{au:SortSt}(f:c->wpS (model a w) A E s X Q au)(h:b->wpS (model a w) A E s d Q au)(g:¬c->¬b->wpS (model a w) A E s Y Q au):wpS (model a w) A E s (if c then X else if b then d else Y) Q au:=by
 by_cases e:c
 ·rw[if_pos e];exact f e
 ·rw[if_neg e];by_cases e2:b
  ·rw[if_pos e2];exact h e2
  ·rw[if_neg e2];exact g e e2
def w_if{α:Type}{c:Prop}[Decidable c]{X Y:StateT SortSt Sem α}{Q:α->SortSt->Prop}{au:SortSt}(d:c->wpS (model a w) A E s X Q au)(b:¬c->wpS (model a w) A E s Y Q au):wpS (model a w) A E s (if c then X else Y) Q au:=by
 by_cases e:c
 ·rw[if_pos e];exact d e
 ·rw[if_neg e];exact b e
def w_el{α:Type}{a:Array Keyed}{i:Nat}{x:Keyed}{f:Keyed->StateT SortSt Sem α}{Q:α->SortSt->Prop}{au:SortSt}(e:a[i]?=some x)(h:wpS (model b w) A E s (f x) Q au):wpS (model b w) A E s (elem' a i >>= f) Q au:=xbq (zna e h)
end
section
def zbkz{α:Type}{x y:Keyed}{f:Option Bool->StateT SortSt Sem α}{Q:α->SortSt->Prop}{au:SortSt}(O:Orc a w A s κ b R)(d:kindOf au=κ)(e:x∈b.toList)(h:y∈b.toList)(g:R x<R y->wpS (model a w) A E s (f (some true)) Q au)(i:R y<=R x->wpS (model a w) A E s (f (some false)) Q au):wpS (model a w) A E s (lt' x y >>= f) Q au:=by
 refine xbq (w_lt O d e h ?_);by_cases c:R x<R y
 ·rw[xcj c];exact g c
 ·rw[xcm c];exact i (xcq c)
end
inductive Dn {β:Type}(R:Keyed->Nat) (a b:Array Keyed) (au:SortSt):Option (Array Keyed)×β->SortSt->Prop where
 |mk {r:Array Keyed}{z:β}{st':SortSt}(sm:SmG au st') (f:Fin R a.toList b.toList r):Dn R a b au (some r,z) st'
section
inductive L1 (R:Keyed->Nat) (a b:Array Keyed) (au:SortSt) (x:Nat):Option (Array Keyed)×Array Keyed×Nat×Nat×Nat->SortSt->Prop where
 |mk {out:Array Keyed}{ia ib g:Nat}{st':SortSt}(sm:SmG au st') (m:ML R (a.toList++b.toList) out.toList (a.toList.drop ia++b.toList.drop ib)) (ha:ia+1<a.size) (hb:ib<b.size) (hx:x<ia+ib):L1 R a b au x (none,out,ia,ib,g) st'
inductive L2' (R:Keyed->Nat) (a b:Array Keyed) (au:SortSt) (x:Nat):Option (Array Keyed)×Array Keyed×Nat×Nat×Nat×Nat->SortSt->Prop where
 |mk {out:Array Keyed}{ia ib ac bc:Nat}{st':SortSt}(sm:SmG au st') (m:ML R (a.toList++b.toList) out.toList (a.toList.drop ia++b.toList.drop ib)) (ha:ia+1<a.size) (hb:ib<b.size) (hx:x<=ia+ib):L2' R a b au x (none,out,ia,ib,ac,bc) st'
inductive L3 (R:Keyed->Nat) (a b:Array Keyed) (au:SortSt) (x:Nat):Option (Array Keyed)×Array Keyed×Nat×Nat×Nat×Nat×Nat->SortSt->Prop where
 |mk {out:Array Keyed}{ia ib g ac bc:Nat}{st':SortSt}(sm:SmG au st') (m:ML R (a.toList++b.toList) out.toList (a.toList.drop ia++b.toList.drop ib)) (ha:ia+1<a.size) (hb:ib<b.size) (hx:x<=ia+ib):L3 R a b au x (none,out,ia,ib,g,ac,bc) st'
end
section
variable {prog:Program}{w:World}{A:Around}{E:Value->Shared->Prop}{s:Shared}{κ:SortKind}{a₀:Array Keyed}{R:Keyed->Nat}{a:Array Keyed}{b:Array Keyed}{out:Array Keyed}{ia:Nat}{ib:Nat}{k:Nat}{y:Keyed}{x:Keyed}
theorem zyy{au:SortSt}{Q:Array Keyed->SortSt->Prop}(O:Orc prog w A s κ a₀ R)(hk:kindOf au=κ)(ma:∀x∈a.toList,x∈a₀.toList)(mb:∀x∈b.toList,x∈a₀.toList)(T:Two R a.toList b.toList)(ha:1<=a.size)(hb:1<=b.size)
  (c0:∀y,b.toList[0]?=some y->∀x∈a.toList,R y<=R x)(h:∀r C,SmG au C->Fin R a.toList b.toList r->Q r C):wpS (model prog w) A E s (mergeLo' a b) Q au:=by
 have u:∀(i:Nat) (J:i<a.size),a[i]?=some a[i]/\a.toList[i]?=some a[i]/\a[i]∈a₀.toList:=λi J=>⟨getElem?_pos a i J,by rw[xcn];exact getElem?_pos a i J,ma _ (by simp)⟩
 have o:∀(i:Nat) (J:i<b.size),b[i]?=some b[i]/\b.toList[i]?=some b[i]/\b[i]∈a₀.toList:=λi J=>⟨getElem?_pos b i J,by rw[xcn];exact getElem?_pos b i J,mb _ (by simp)⟩
 have b7:∀i,UpA R a i (i+(a.size-i)):=λi p q a1 a2 a3=>by
  have hq:q<a.size:=by lia
  have e1:=(u p (by lia)).2.1;have e2:=(u q hq).2.1;rw[zby e1,zby e2];exact T.oa.at e1 e2 a2
 have b6:∀i,UpA R b i (i+(b.size-i)):=λi p q a1 a2 a3=>by
  have hq:q<b.size:=by lia
  have e1:=(o p (by lia)).2.1;have e2:=(o q hq).2.1;rw[zby e1,zby e2];exact T.ob.at e1 e2 a2
 obtain⟨y0,f0,f1⟩:∃x,b[0]?=some x/\b.toList[0]?=some x:=⟨_,(o 0 hb).1,(o 0 hb).2.1⟩
 have start:ML R (a.toList++b.toList) (#[y0]:Array Keyed).toList (a.toList.drop 0++b.toList.drop 1):=by
  have z:ML R (a.toList++b.toList) (#[]:Array Keyed).toList (a.toList.drop 0++b.toList.drop 0):=⟨by simp,List.Pairwise.nil,by simp⟩
  exact z.pushB T f1 λx hx=>c0 y0 f1 x (xfe hx)
 refine xbq (xlv (xik ⟨rfl,xbq (zna f0 (zbwo (λc1=>?_) (λc2=>?_) λc1 c2=>?_))⟩))
 ·exact xbu (h _ _ (.refl _) (start.done T (.inr (by simpa using c1))))
 ·exact xbu (h _ _ (.refl _) (start.lastA T (by simpa using c2)))
 simp only[xho] at c1 c2;refine xbq (xix ?_);refine xbq (xgg (xef (I:=L1 R a b au) (Q:=Dn R a b au) ?_ ?_ (.mk (.refl _) start (by lia) (by lia) (by lia))) ?_)
 ·rintro x c a0 x1 x2 @⟨out,ia,ib,g,a0,a5,m,b1,b5,hx⟩;dsimp only;refine xbq (xgg (xef (I:=λ_=>L2' R a b au (ia+ib)) (Q:=λc C=>Dn R a b au c C\/L2' R a b au (ia+ib) c C) ?_ ?_ (.mk a5 m b1 b5 (xbl _))) ?_)
  ·rintro x' c a4 _ _ @⟨out,l,ib',ac,bc,a4,t,m,n,d,hp⟩;dsimp only;have ea:=(u l (xft n)).1;have P:=(u l (xft n)).2.1;have a8:=(u l (xft n)).2.2;have eb:=(o ib' d).1;have H:=(o ib' d).2.1;have a7:=(o ib' d).2.2;refine w_el eb (w_el ea (zbkz O (t.kind.trans hk) a7 a8 (λcw=>w_el eb ?_) λcw=>w_el ea ?_))
   ·skip
    have m2:=m.pushB T H λz hz=>by
     obtain⟨j,hj,e⟩:=zbp hz;exact xbc (xcd cw) (T.oa.at P e hj)
    refine w_if (λc5=>xbu (.inl (.mk t (m2.done T (.inr (eq_of_beq c5)))))) λc5=>?_
    rw[xho] at c5;have b3:ib'+1<b.size:=xdq d c5;have X:ia+ib<=l+(ib'+1):=xgm hp;exact w_if (λ_=>xbu (.inr (.mk t m2 n b3 X))) λ_=>xbu (.mk t m2 n b3 X)
   ·skip
    have m2:=m.pushA T P λz hz=>by
     obtain⟨j,hj,e⟩:=zbp hz;exact xbc cw (T.ob.at H e hj)
    refine w_if (λc5=>xbu (.inl (.mk t (m2.lastA T (eq_of_beq c5))))) λc5=>?_
    rw[xho] at c5;have b4:l+1+1<a.size:=xdq n c5;have X:ia+ib<=l+1+ib':=Nat.succ_add l ib' ▸ xgm hp
    exact w_if (λ_=>xbu (.inr (.mk t m2 b4 d X))) λ_=>xbu (.mk t m2 b4 d X)
  ·exact λc a4 k=>.inr k
  ·rintro c a4 (⟨t,f⟩|@⟨out,l,ib',ac,bc,a4,t,m,n,d,hp⟩)
   ·exact xbu (.mk t f)
   ·dsimp only;refine xbq (xlv (xik ⟨rfl,?_⟩));refine xbq (xgg (xef (I:=λx'=>L3 R a b au (ia+ib+x')) (Q:=λc C=>Dn R a b au c C\/L3 R a b au (ia+ib+1) c C) ?_ ?_ (.mk t m n d hp)) ?_)
    ·rintro x' c a6 _ d1 @⟨out,l,ib',g',ac,bc,a6,G,m,n,d,hp⟩;dsimp only;have eb:=(o ib' d).1;have H:=(o ib' d).2.1;have a7:=(o ib' d).2.2;generalize g'-1=g1;generalize g'=y;revert g1;revert y
     refine zbwn ?_;intro gg;refine xbq (zyw λb8 sg=>?_);have v:=G.trans sg;refine w_el eb (xbq (zhg O (v.kind.trans hk) a7 (λi J=>⟨_,(u (l+i) (xen J)).1,(u (l+i) (xen J)).2.2⟩) (xgl (xft n)) (b7 l) λk1 S=>?_));have m5:=(m.galA T H S).1;have u5:=(m.galA T H S).2;have c4:=S.1;dsimp only;refine zbla (λc6=>?_) (λc6 c7=>?_) (λc6 c8=>?_) λhh=>?_
     ·have z:k1=0:=Nat.le_zero.mp (xcq c6);subst z;simp only[xkq,xjp (xia _ _),xmw]
     ·exact xbu (.inl (.mk v (m5.lastA T (eq_of_beq c7))))
     ·exact xbu (.inl (.mk v (m5.done T (.inl (eq_of_beq c8)))))
     have Y:l+k1+1<a.size:=by
      by_cases c6:k1 > 0
      ·have:=hh c6;simp at this;lia
      ·lia
     have b9:ia+ib+x'<=l+k1+ib':=xbc hp (Nat.add_le_add_right (xcf _ _) _);clear hh;generalize l+k1=ia5 at m5 u5 Y b9 ⊢;generalize out++a.extract l ia5=out5 at m5 ⊢;have m6:=m5.pushB T H u5;have ea:=(u _ (xft Y)).1;have P:=(u _ (xft Y)).2.1;have a8:=(u _ (xft Y)).2.2;refine w_el eb (w_if (λc9=>xbu (.inl (.mk v (m6.done T (.inr (eq_of_beq c9)))))) λc9=>w_el ea ?_);rw[xho] at c9;refine xbq (zhg O (v.kind.trans hk) a8 (λi J=>⟨_,(o (ib'+1+i) (xen J)).1,(o (ib'+1+i) (xen J)).2.2⟩) (xgl (xdq d c9)) (b6 (ib'+1)) λk2 U=>?_);have m7:=(m6.galB T P U).1;have u7:=(m6.galB T P U).2;have d0:=U.1;dsimp only;refine zbwp (λd6=>?_) (λd6 d7=>?_) λhh=>?_
     ·have z2:k2=0:=Nat.le_zero.mp (xcq d6);subst z2;simp only[xkq,xjp (xia _ _),xmw]
     ·exact xbu (.inl (.mk v (m7.done T (.inr (eq_of_beq d7)))))
     have c3:ib'+1+k2≠b.size:=by
      by_cases d6:k2 > 0
      ·have:=hh d6;simp at this;lia
      ·lia
     have m8:=m7.pushA T P u7;refine w_el ea (w_if (λd8=>xbu (.inl (.mk v (m8.lastA T (eq_of_beq d8))))) λd8=>?_);rw[xho] at d8;have a9:ia5+1+1<a.size:=xdq Y d8;have b2:ib'+1+k2<b.size:=by lia
     have b0:ia+ib+(x'+1)<=ia5+1+(ib'+1+k2):=by lia
     exact w_if (λ_=>xbu (.inr (.mk v m8 a9 b2 (xbc (xct (xoe 1 x') _) b0)))) λ_=>xbu (.mk v m8 a9 b2 b0)
    ·rintro c a6 ⟨G,m,n,d,hp⟩;exact .inr (.mk G m n d (by lia))
    ·rintro c a6 (⟨G,f⟩|⟨G,m,n,d,hp⟩)
     ·exact xbu (.mk G f)
     ·exact xbq (zyw λb8 sg=>xbu (.mk (G.trans sg) m n d (xbo (Nat.succ_lt_succ hx) hp)))
 ·rintro c a0 ⟨a5,m,b1,b5,hx⟩;lia
 ·rintro c a0 ⟨a5,f⟩;exact xbu (h _ a0 a5 f)
end
structure MH (R:Keyed->Nat) (all out rest:List Keyed):Prop where
 perm:(rest++out.reverse).Perm all
 ord:Ord R out.reverse
 le:∀x∈rest,∀y∈out,R x<=R y
def MH.grow{a b:List Keyed}(m:MH R all out a)(p:a.Perm (rest'++b.reverse))(o:Ord R b.reverse)(h:∀x∈rest',∀y∈b,R x<=R y):MH R all (out++b) rest':=by
 refine⟨?_,?_,λx c y hy=>?_⟩
 ·rw[List.reverse_append,←xch];exact(xjh _ p.symm).trans m.perm
 ·rw[List.reverse_append];exact xgj.mpr ⟨o,m.ord,λx c y hy=>m.le x (p.mem_iff.mpr (xdw _ c)) y (xlr.mp hy)⟩
 ·rcases xcc.mp hy with hy|hy
  ·exact m.le x (p.mem_iff.mpr (xii _ c)) y hy
  ·exact h x c y hy
def MH.fin{b a:List Keyed}(m:MH R all out b)(p:a.Perm b)(o:Ord R a):(a++out.reverse).Perm all/\Ord R (a++out.reverse):=
 ⟨(xjh _ p).trans m.perm,xgj.mpr ⟨o,m.ord,λx d y c=>m.le x (p.mem_iff.mp d) y (xlr.mp c)⟩⟩
def ziy{l:List Keyed}{i:Nat}{x:Keyed}(h:l[i]?=some x):l.take (i+1)=l.take i++[x]:=by
 obtain⟨a,rfl⟩:=xbd.mp h;exact xin a
structure TwoH (R:Keyed->Nat) (la lb:List Keyed):Prop where
 oa:Ord R la
 ob:Ord R lb
 first:∀y,lb[0]?=some y->∀x∈la,R y<=R x
section
variable {R:Keyed->Nat}{la:List Keyed}{lb:List Keyed}{all:List Keyed}{out:Array Keyed}{na:Nat}{nb:Nat}
def MH.pushB(T:TwoH R la lb)(m:MH R all out.toList (la.take na++lb.take (nb+1))){y:Keyed}(b:lb[nb]?=some y)(h:∀z∈la.take na,R z<=R y):MH R all (out.push y).toList (la.take na++lb.take nb):=by
 rw[xfk];refine m.grow ?_ (by simp) λz hz w a=>?_
 ·rw[ziy b];simp
 ·simp at a;subst a
  rcases xcc.mp hz with hz|hz
  ·exact h z hz
  ·obtain⟨j,c,e⟩:=zr hz;exact T.ob.at e b (by lia)
def MH.pushA(T:TwoH R la lb)(m:MH R all out.toList (la.take (na+1)++lb.take nb)){x:Keyed}(b:la[na]?=some x)(h:∀z∈lb.take nb,R z<=R x):MH R all (out.push x).toList (la.take na++lb.take nb):=by
 rw[xfk];refine m.grow ?_ (by simp) λz hz w a=>?_
 ·rw[ziy b];simp only[List.reverse_singleton,xch];exact xgx _ xib
 ·simp at a;subst a
  rcases xcc.mp hz with hz|hz
  ·obtain⟨j,c,e⟩:=zr hz;exact T.oa.at e b (by lia)
  ·exact h z hz
end
def zxo(l:List Keyed) (h:k<=n):l.take n=l.take k++(l.drop k).take (n-k):=by
 conv=>lhs;rw[show n=k+(n-k) by lia,List.take_add]
section
variable {a:Array Keyed}{b:Array Keyed}{out:Array Keyed}{na:Nat}{nb:Nat}{k:Nat}
def MH.galA(T:TwoH R a.toList b.toList)(m:MH R all out.toList (a.toList.take na++b.toList.take (nb+1)))(i:b.toList[nb]?=some y)(n:na<=a.size)(c:Cut false R y a 0 na k):MH R all (out++(a.extract k na).reverse).toList (a.toList.take k++b.toList.take (nb+1))/\∀z∈a.toList.take k,R z<=R y:=by
 have f:∀z∈a.toList.take k,R z<=R y:=λz d=>by
  obtain⟨j,h,e⟩:=zr d;have:=c.2.1 j h;rw[xel,zby e] at this;exact this
 have l:∀z∈(a.toList.drop k).take (na-k),R y<=R z:=λz d=>by
  obtain⟨j,h,e⟩:=zr d;rw[xfo] at e;have:=c.2.2 (k+j) (by lia) (by lia);rw[xel,zby e] at this;exact xcd this
 refine⟨?_,f⟩;rw[xeb,xjv,zcg];refine m.grow ?_ (by rw[xjw];exact(T.oa.drop k).take _) λv hv z d=>?_
 ·rw[xjw,zxo a.toList c.1,xch,xch];exact xgx _ xib
 ·have d:=l z (xlr.mp d);rcases xcc.mp hv with hv|hv
  ·exact xbc (f v hv) d
  ·obtain⟨j,h,e⟩:=zr hv;exact xbc (T.ob.at e i (by lia)) d
def MH.galB(T:TwoH R a.toList b.toList)(m:MH R all out.toList (a.toList.take (na+1)++b.toList.take nb))(i:a.toList[na]?=some x)(n:nb<=b.size)(c:Cut true R x b 0 nb k):MH R all (out++(b.extract k nb).reverse).toList (a.toList.take (na+1)++b.toList.take k)/\∀z∈b.toList.take k,R z<=R x:=by
 have f:∀z∈b.toList.take k,R z<=R x:=λz d=>by
  obtain⟨j,h,e⟩:=zr d;have:=c.2.1 j h;rw[xel,zby e] at this;exact xcd this
 have l:∀z∈(b.toList.drop k).take (nb-k),R x<=R z:=λz d=>by
  obtain⟨j,h,e⟩:=zr d;rw[xfo] at e;have:=c.2.2 (k+j) (by lia) (by lia);rw[xel,zby e] at this;exact this
 refine⟨?_,f⟩;rw[xeb,xjv,zcg];refine m.grow ?_ (by rw[xjw];exact(T.ob.drop k).take _) λv hv z d=>?_
 ·rw[xjw,zxo b.toList c.1,xch]
 ·have d:=l z (xlr.mp d);rcases xcc.mp hv with hv|hv
  ·obtain⟨j,h,e⟩:=zr hv;exact xbc (T.oa.at e i (by lia)) d
  ·exact xbc (f v hv) d
end
def zmm(a:Array Keyed)(n:Nat):(a.extract 0 n).toList=a.toList.take n:=by
 rw[zcg,xok,xnw]
def MH.done{a:Array Keyed}{b:Array Keyed}{c:Array Keyed}{e:Nat}{d:Nat}(T:TwoH R a.toList b.toList)(m:MH R (a.toList++b.toList) c.toList (a.toList.take e++b.toList.take d))(h:e=0\/d=0):Fin R a.toList b.toList (a.extract 0 e++b.extract 0 d++c.reverse):=by
 unfold Fin;rw[xeb,xeb,zmm,zmm,xjv];refine m.fin (.refl _) ?_;rcases h with rfl|rfl
 ·rw[xmq,List.nil_append];exact T.ob.take _
 ·rw[xmq,xdt];exact T.oa.take _
def MH.firstB{a:Array Keyed}{b:Array Keyed}{c:Array Keyed}{f:Nat}{d:Nat}(T:TwoH R a.toList b.toList)(m:MH R (a.toList++b.toList) c.toList (a.toList.take f++b.toList.take d))(h:d=1):Fin R a.toList b.toList (b.extract 0 d++a.extract 0 f++c.reverse):=by
 unfold Fin;rw[xeb,xeb,zmm,zmm,xjv];refine m.fin xib (xgj.mpr ⟨T.ob.take _,T.oa.take _,λv i z g=>?_⟩);obtain⟨j,k,e⟩:=zr i;have:j=0:=by lia
 subst this;exact T.first v e z (xek g)
section
inductive H1 (R:Keyed->Nat) (a b:Array Keyed) (au:SortSt) (x:Nat):Option (Array Keyed)×Nat×Nat×Array Keyed×Nat->SortSt->Prop where
 |mk {na nb:Nat}{out:Array Keyed}{g:Nat}{st':SortSt}(sm:SmG au st') (m:MH R (a.toList++b.toList) out.toList (a.toList.take na++b.toList.take nb)) (a1:1<=na) (a2:na<=a.size) (b1:2<=nb) (b2:nb<=b.size) (hx:x+na+nb<a.size+b.size):H1 R a b au x (none,na,nb,out,g) st'
inductive H2 (R:Keyed->Nat) (a b:Array Keyed) (au:SortSt) (x:Nat):Option (Array Keyed)×Nat×Nat×Array Keyed×Nat×Nat->SortSt->Prop where
 |mk {na nb:Nat}{out:Array Keyed}{ac bc:Nat}{st':SortSt}(sm:SmG au st') (m:MH R (a.toList++b.toList) out.toList (a.toList.take na++b.toList.take nb)) (a1:1<=na) (a2:na<=a.size) (b1:2<=nb) (b2:nb<=b.size) (hx:na+nb<=x):H2 R a b au x (none,na,nb,out,ac,bc) st'
inductive H3 (R:Keyed->Nat) (a b:Array Keyed) (au:SortSt) (x y:Nat):Option (Array Keyed)×Nat×Nat×Array Keyed×Nat×Nat×Nat->SortSt->Prop where
 |mk {na nb:Nat}{out:Array Keyed}{g ac bc:Nat}{st':SortSt}(sm:SmG au st') (m:MH R (a.toList++b.toList) out.toList (a.toList.take na++b.toList.take nb)) (a1:1<=na) (a2:na<=a.size) (b1:2<=nb) (b2:nb<=b.size) (hx:y+na+nb<=x):H3 R a b au x y (none,na,nb,out,g,ac,bc) st'
end
section
variable {prog:Program}{w:World}{A:Around}{E:Value->Shared->Prop}{s:Shared}{κ:SortKind}{a₀:Array Keyed}{R:Keyed->Nat}{a:Array Keyed}{b:Array Keyed}{out:Array Keyed}{na:Nat}{nb:Nat}{k:Nat}{y:Keyed}{x:Keyed}
theorem zyz{au:SortSt}{Q:Array Keyed->SortSt->Prop}(O:Orc prog w A s κ a₀ R)(hk:kindOf au=κ)(ma:∀x∈a.toList,x∈a₀.toList)(mb:∀x∈b.toList,x∈a₀.toList)(T:TwoH R a.toList b.toList)(ha:1<=a.size)(hb:1<=b.size)
  (c3:∀x,a.toList[a.size-1]?=some x->∀y∈b.toList,R y<=R x)(h:∀r C,SmG au C->Fin R a.toList b.toList r->Q r C):wpS (model prog w) A E s (mergeHi' a b) Q au:=by
 have d:∀(i:Nat) (hi:i<a.size),a[i]?=some a[i]/\a.toList[i]?=some a[i]/\a[i]∈a₀.toList:=λi hi=>⟨getElem?_pos a i hi,by rw[xcn];exact getElem?_pos a i hi,ma _ (by simp)⟩
 have o:∀(i:Nat) (hi:i<b.size),b[i]?=some b[i]/\b.toList[i]?=some b[i]/\b[i]∈a₀.toList:=λi hi=>⟨getElem?_pos b i hi,by rw[xcn];exact getElem?_pos b i hi,mb _ (by simp)⟩
 have b8:∀n,n<=a.size->UpA R a 0 (0+n):=λn hn p q a1 a2 X=>by
  have hq:q<a.size:=xbo X (xbc (xdr (xel n)) hn);have e1:=(d p (xdl a2 hq)).2.1;have e2:=(d q hq).2.1;rw[zby e1,zby e2];exact T.oa.at e1 e2 a2
 have b7:∀n,n<=b.size->UpA R b 0 (0+n):=λn hn p q a1 a2 X=>by
  have hq:q<b.size:=xbo X (xbc (xdr (xel n)) hn);have e1:=(o p (xdl a2 hq)).2.1;have e2:=(o q hq).2.1;rw[zby e1,zby e2];exact T.ob.at e1 e2 a2
 obtain⟨x0,f0,f1⟩:∃x,a[a.size-1]?=some x/\a.toList[a.size-1]?=some x:=⟨_,(d (a.size-1) (xja ha Nat.one_pos)).1,(d (a.size-1) (xja ha Nat.one_pos)).2.1⟩
 have start:MH R (a.toList++b.toList) (#[x0]:Array Keyed).toList (a.toList.take (a.size-1)++b.toList.take b.size):=by
  have z:MH R (a.toList++b.toList) (#[]:Array Keyed).toList (a.toList.take (a.size-1+1)++b.toList.take b.size):=by
   refine⟨?_,List.Pairwise.nil,by simp⟩;rw[xhs ha,xej (by simp),xej (by simp)];simp
  exact z.pushA T f1 λy hy=>c3 x0 f1 y (xek hy)
 refine xbq (xlv (xik ⟨rfl,xbq (zna f0 (zbwo (λc1=>?_) (λc2=>?_) λc1 c2=>?_))⟩))
 ·exact xbu (h _ _ (.refl _) (start.done T (.inl (by simpa using c1))))
 ·exact xbu (h _ _ (.refl _) (start.firstB T (by simpa using c2)))
 simp only[xho] at c1 c2;refine xbq (xix ?_);refine xbq (xgg (xef (I:=H1 R a b au) (Q:=Dn R a b au) ?_ ?_ (.mk (.refl _) start (by lia) (by lia) (by lia) (xbl _) (by lia))) ?_)
 ·rintro x c a7 x1 x2 @⟨na,nb,out,g,a7,b0,m,a1,a2,b1,b2,hx⟩;dsimp only;refine xbq (xgg (xef (I:=λ_=>H2 R a b au (na+nb)) (Q:=λc C=>Dn R a b au c C\/H2 R a b au (na+nb) c C) ?_ ?_ (.mk b0 m a1 a2 b1 b2 (xbl _))) ?_)
  ·rintro x' c a8 _ _ @⟨na',G,out,ac,bc,a8,l,m,U,v,Y,t,hp⟩;obtain⟨p,rfl⟩:∃p,na'=p+1:=⟨na'-1,(xhs U).symm⟩
   obtain⟨q,rfl⟩:∃q,G=q+1:=⟨G-1,(xhs (xdu Y)).symm⟩
   dsimp only;have ea:=(d p v).1;have S:=(d p v).2.1;have b4:=(d p v).2.2;have eb:=(o q t).1;have P:=(o q t).2.1;have b3:=(o q t).2.2;refine w_el eb (w_el ea (zbkz O (l.kind.trans hk) b3 b4 (λcw=>w_el ea ?_) λcw=>w_el eb ?_))
   ·skip
    have m2:=m.pushA T S λz hz=>by
     obtain⟨j,hj,e⟩:=zr hz;exact xbc (T.ob.at e P (xdb hj)) (xcd cw)
    refine w_if (λc5=>xbu (.inl (.mk l (m2.done T (.inl (eq_of_beq c5)))))) λc5=>?_
    rw[xho] at c5;have X:1<=p:=xmx c5;have a4:p<=a.size:=xdu v;have a5:p+(q+1)<=na+nb:=xbc (Nat.add_le_add_right (xlp p) _) hp;exact w_if (λ_=>xbu (.inr (.mk l m2 X a4 Y t a5))) λ_=>xbu (.mk l m2 X a4 Y t a5)
   ·skip
    have m2:=m.pushB T P λz hz=>by
     obtain⟨j,hj,e⟩:=zr hz;exact xbc (T.oa.at e S (xdb hj)) cw
    refine w_if (λc5=>xbu (.inl (.mk l (m2.firstB T (eq_of_beq c5))))) λc5=>?_
    rw[xho] at c5;have X:2<=q:=xdq (Nat.le_of_succ_le_succ Y) (xdn c5);have a4:q<=b.size:=xdu t;have a5:p+1+q<=na+nb:=xdu hp;exact w_if (λ_=>xbu (.inr (.mk l m2 U v X a4 a5))) λ_=>xbu (.mk l m2 U v X a4 a5)
  ·exact λc a8 k=>.inr k
  ·rintro c a8 (⟨l,f⟩|@⟨na',G,out,ac,bc,a8,l,m,U,v,Y,t,hp⟩)
   ·exact xbu (.mk l f)
   ·dsimp only;refine xbq (xlv (xik ⟨rfl,?_⟩));refine xbq (xgg (xef (I:=H3 R a b au (na+nb)) (Q:=λc C=>Dn R a b au c C\/H3 R a b au (na+nb) 1 c C) ?_ ?_ (.mk l m U v Y t (by rw[xel];exact hp))) ?_)
    ·rintro x' c a9 _ c8 @⟨na',G,out,g',ac,bc,a9,H,m,U,v,Y,t,hp⟩;obtain⟨q,rfl⟩:∃q,G=q+1:=⟨G-1,(xhs (xdu Y)).symm⟩
     dsimp only;have eb:=(o q t).1;have P:=(o q t).2.1;have b3:=(o q t).2.2;generalize g'-1=U;generalize g'=y;revert U;revert y
     refine zbwn ?_;intro gg;refine xbq (zyw λc0 sg=>?_);have u:=H.trans sg;refine w_el eb (xbq (zhg O (u.kind.trans hk) b3 (λi hi=>⟨_,(d (0+i) (by lia)).1,(d (0+i) (by lia)).2.2⟩) (by lia) (b8 na' v) λk1 J=>?_));have m5:=(m.galA T P v J).1;have u5:=(m.galA T P v J).2;have b6:=J.1;dsimp only;refine zbwp (λc6=>?_) (λc6 c7=>?_) λhh=>?_
     ·have z:k1=na':=by lia
      subst z;rw[show out++(a.extract k1 k1).reverse=out by simp[xia]]
     ·exact xbu (.inl (.mk u (m5.done T (.inl (eq_of_beq c7)))))
     have g5:1<=k1:=by
      by_cases c6:na'-k1 > 0
      ·have:=hh c6;simp at this;lia
      ·lia
     have g6:k1<=a.size:=xbc b6 v;have c4:x'+k1+(q+1)<=na+nb:=by lia
     clear hh b6 J;generalize out++(a.extract k1 na').reverse=out5 at m5 ⊢;obtain⟨p,rfl⟩:∃p,k1=p+1:=⟨k1-1,(xhs g5).symm⟩
     simp only[Nat.add_sub_cancel];have m6:=m5.pushB T P u5;have ea:=(d p g6).1;have S:=(d p g6).2.1;have b4:=(d p g6).2.2;refine w_el eb (w_if (λc9=>xbu (.inl (.mk u (m6.firstB T (eq_of_beq c9))))) λc9=>w_el ea ?_);rw[xho] at c9;refine xbq (zhg O (u.kind.trans hk) b4 (λi hi=>⟨_,(o (0+i) (by lia)).1,(o (0+i) (by lia)).2.2⟩) (by lia) (b7 q (xdu t)) λk2 a0=>?_);have m7:=(m6.galB T S (xdu t) a0).1;have u7:=(m6.galB T S (xdu t) a0).2;have b9:=a0.1;dsimp only;refine zbla (λd6=>?_) (λd6 d7=>?_) (λd6 d9=>?_) λhh=>?_
     ·have z2:k2=q:=by lia
      subst z2;simp only[xjp (xbc (xia _ _) (xbl _)),Array.reverse_empty,xmw]
     ·exact xbu (.inl (.mk u (m7.firstB T (eq_of_beq d7))))
     ·exact xbu (.inl (.mk u (m7.done T (.inr (eq_of_beq d9)))))
     have b5:2<=k2:=by
      by_cases d6:q-k2 > 0
      ·have:=hh d6;simp at this;lia
      ·lia
     have m8:=m7.pushA T S u7;refine w_el ea (w_if (λd8=>xbu (.inl (.mk u (m8.done T (.inl (eq_of_beq d8)))))) λd8=>?_);rw[xho] at d8;have X:1<=p:=xmx d8;have a4:p<=a.size:=xdu g6;have a5:k2<=b.size:=xbc b9 (xdu t);have a6:x'+1+p+k2<=na+nb:=by lia
     exact w_if (λ_=>xbu (.inr (.mk u m8 X a4 b5 a5 (by lia)))) λ_=>xbu (.mk u m8 X a4 b5 a5 a6)
    ·rintro c a9 ⟨H,m,U,v,Y,t,hp⟩;exact .inr (.mk H m U v Y t (by lia))
    ·rintro c a9 (⟨H,f⟩|@⟨na',G,out,g',ac,bc,a9,H,m,U,v,Y,t,hp⟩)
     ·exact xbu (.mk H f)
     ·have h9:x+1+na'+G<a.size+b.size:=by lia
      exact xbq (zyw λc0 sg=>xbu (.mk (H.trans sg) m U v Y t h9))
 ·rintro c a7 ⟨b0,m,a1,a2,b1,b2,hx⟩;lia
 ·rintro c a7 ⟨b0,f⟩;exact xbu (h _ a7 b0 f)
end
def zvm:∀(l:List Keyed) (n b:Nat) (d:Array Keyed),b+n+l.length<=d.size->∀i,((l.zipIdx n).foldl (λa p=>a.setIfInBounds (b+p.2) p.1) d)[i]?=if b+n<=i/\i<b+n+l.length then l[i-(b+n)]? else d[i]?
 |[],n,b,d,h,i=>by
  rw[if_neg (by simp)]
  rfl
 |x::l,n,b,d,h,i=>by
  rw[List.zipIdx_cons,xgr];rw[xbv] at h;have e:b+(n+1)+l.length=b+n+(l.length+1):=Nat.succ_add_eq_add_succ (b+n) l.length;rw[zvm l (n+1) b _ (by rw[Array.size_setIfInBounds];exact xbc (xdr e) h) i];rw[xbv];by_cases c:b+(n+1)<=i/\i<b+(n+1)+l.length
  ·rw[if_pos c,if_pos ⟨xdu c.1,xgz c.2 e⟩,show i-(b+n)=i-(b+(n+1))+1 from(xhs (xgl c.1)).symm,xgk]
  ·rw[if_neg c];by_cases c2:i=b+n
   ·rw[if_pos ⟨xdr c2.symm,xdl (xdr c2) (xiu (Nat.succ_pos _))⟩,c2,xjo,xlc];exact xkb (xbo (xiu (Nat.succ_pos l.length)) h)
   ·rw[if_neg λz=>c ⟨xdq z.1 (xdn c2),xgz z.2 e.symm⟩];exact xly (λz=>c2 z.symm)
def zbfu{m b:Array Keyed}(h:off+m.size<=b.size):(m.toList.zipIdx.foldl (λa p=>a.setIfInBounds (off+p.2) p.1) b).toList=b.toList.take off++m.toList++b.toList.drop (off+m.size):=by
 apply xif;intro i;rw[xcn,zvm m.toList 0 off b (by simpa using h) i];simp only[xkq,xce];have d:(b.toList.take off).length=off:=by rw[xcl,xce];exact xeg (xbc (xcf _ _) h)
 by_cases c:off<=i/\i<off+m.size
 ·rw[if_pos c,xch,xcw (xbc (xdr d) c.1),d,xbj (by rw[xce];exact xeh c.1 c.2)]
 ·rw[if_neg c];by_cases c2:i<off
  ·rw[xch,xbj (xgz c2 d.symm),List.getElem?_take,if_pos c2,xcn]
  ·have e:off+m.size<=i:=xcq λz=>c ⟨xcq c2,z⟩
   rw[xcw (by rw[xbk,d,xce];exact e),xfo];simp only[xbk,d,xce];rw[xcr e,xcn]
def zbde(d:UpA R xs i j)(e:j<=xs.size):Ord R (xs.extract i j).toList:=by
 rw[zcg];refine xfw.mpr λp q c b a=>?_
 simp only[xcl,xfq,xce] at c b;simp only[xnj,xni,Array.getElem_toList];have:=d (i+p) (i+q) (xcf _ _) (xct (xcd a) i) (xen (xbo b (xia _ _)));rw[zet (getElem?_pos xs (i+p) (xen (xbo c (xhk _ _)))),zet (getElem?_pos xs (i+q) (xen (xbo b (xhk _ _))))] at this;exact this
def zku{a:Array Keyed}(h:x∈(a.extract i j).toList):∃q,i<=q/\q<j/\a[q]?=some x:=by
 rw[zcg] at h;obtain⟨q,b,e⟩:=zr h;rw[xfo,xcn] at e;exact⟨i+q,xcf _ _,xen b,e⟩
def zbph{a:Array Keyed}(h:q<j-i):(a.extract i j).toList[q]?=a[i+q]?:=by
 rw[zcg,List.getElem?_take,if_pos h,xfo,xcn]
structure Mg (R:Keyed->Nat) (xs ys:Array Keyed) (lo hi:Nat):Prop where
 perm:ys.Perm xs
 out:Out ys xs lo hi
 up:UpA R ys lo hi
def zbar{d:Array Keyed}{b sb ea k nb':Nat}(a0:sb<=ea)(t:ea<=d.size)(w:b+k<sb)(l:sb+nb'<=ea)(a4:1<=nb')(E:UpA R d b sb)(A:UpA R d sb ea)
  (e0:d[sb]?=some y0)(el:d[sb-1]?=some xl)(c1:Cut false R y0 d b (sb-b) k)(c2:Cut true R xl d sb (ea-sb) nb')
  (f:Fin R (d.extract (b+k) sb).toList (d.extract sb (sb+nb')).toList m):Mg R d (m.toList.zipIdx.foldl (λa p=>a.setIfInBounds (b+k+p.2) p.1) d) b ea:=by
 have lx:(d.extract (b+k) sb).toList.length=sb-(b+k):=by rw[zcg,xcl,xfq,xce];exact xeg (xgi (xbc a0 t) _)
 have ly:(d.extract sb (sb+nb')).toList.length=nb':=by rw[zcg,xcl,xfq,xce,xdo];exact xeg (xfm (xbc l t))
 have Q:m.size=sb+nb'-(b+k):=by
  have:=f.1.length_eq;rw[xbk,lx,ly,xce] at this;exact this.trans (Nat.sub_add_comm (xcd w)).symm
 have Y:b+k+m.size=sb+nb':=by rw[Q];exact xcr (xbc (xcd w) (xcf _ _))
 have J:b+k+m.size<=d.size:=by rw[Y];exact xbc l t
 have y:=xds w;have s1:sb-1<sb:=xja (xli w) Nat.one_pos;have g:∀i,(m.toList.zipIdx.foldl (λa p=>a.setIfInBounds (b+k+p.2) p.1) d)[i]?=if b+k<=i/\i<sb+nb' then m.toList[i-(b+k)]? else d[i]?:=λi=>by
  have:=zvm m.toList 0 (b+k) d (by simpa using J) i;simp only[xkq,xce] at this;rw[Y] at this;exact this
 have G:∀v∈m.toList,R y0<=R v/\R v<=R xl:=λv hv=>by
  rcases xcc.mp (f.1.mem_iff.mp hv) with hv|hv
  ·obtain⟨q,x,C,e⟩:=zku hv;have q0:=xbc (xcf _ _) x;have r:=c1.2.2 (q-b) (xfm x) (xfd q0 C);rw[xcr q0,zet e] at r;have s:=E q (sb-1) q0 (xds C) s1;rw[zet e,zet el] at s;have S:R y0<R v:=r;exact⟨xcd S,s⟩
  ·obtain⟨q,x,C,e⟩:=zku hv;have r:=A sb q (xbl _) x (xbo C l);rw[zet e,zet e0] at r;have s:=c2.2.1 (q-sb) (xeh x C);rw[xcr x,zet e] at s;have U:R v<R xl:=s;exact⟨r,xcd U⟩
 have X:∀i,b<=i->i<b+k->kA R d i<=R y0:=λi o n=>by
  have:=c1.2.1 (i-b) (xeh o n);rw[xcr o] at this;exact this
 have I:∀i,sb+nb'<=i->i<ea->R xl<=kA R d i:=λi o n=>by
  have i0:=xbc (xcf _ _) o;have:=c2.2.2 (i-sb) (xfm o) (xfd i0 n);rw[xcr i0] at this;exact this
 have kk:∀i,kA R (m.toList.zipIdx.foldl (λa p=>a.setIfInBounds (b+k+p.2) p.1) d) i=if b+k<=i/\i<sb+nb' then kA R m (i-(b+k)) else kA R d i:=λi=>by
  have:=g i;split
  ·rename_i c;rw[if_pos c,xcn] at this;exact zeh this
  ·rename_i c;rw[if_neg c] at this;exact zeh this
 have T:∀i,i<m.size->∃v,m.toList[i]?=some v/\v∈m.toList:=λi hi=>⟨m.toList[i]'(by simpa using hi),xbf _,xed _⟩
 refine⟨?_,λi hi=>?_,λi j o n a3=>?_⟩
 ·refine xfr.mpr ?_;rw[zbfu J,Y];have split:d.toList=d.toList.take (b+k)++((d.extract (b+k) sb).toList++(d.extract sb (sb+nb')).toList)++d.toList.drop (sb+nb'):=by
   rw[zcg,zcg];rw[xdo]
   conv=>lhs;rw[←xdd (b+k) d.toList,←xdd (sb-(b+k)) (d.toList.drop (b+k)),xmp,xcr (xcd w),←xdd nb' (d.toList.drop sb),xmp]
   simp only[xch]
  conv=>rhs;rw[split]
  exact xjh _ (xgx _ f.1)
 ·rw[g i,if_neg λz=>hi.elim (λh=>xfh (xbc (xcf b k) z.1) h) λh=>xfh h (xbo z.2 l)]
 ·rw[kk,kk];by_cases ci:b+k<=i/\i<sb+nb'
  ·rw[if_pos ci];obtain⟨v,ev,mv⟩:=T (i-(b+k)) (by rw[Q];exact xfd ci.1 ci.2);rw[zby ev];by_cases cj:b+k<=j/\j<sb+nb'
   ·rw[if_pos cj];obtain⟨u,P,mu⟩:=T (j-(b+k)) (by rw[Q];exact xfd cj.1 cj.2);rw[zby P];exact f.2.at ev P (xgi n _)
   ·rw[if_neg cj];exact xbc (G v mv).2 (I j (xcq λz=>cj ⟨xbc ci.1 n,z⟩) a3)
  ·rw[if_neg ci];by_cases ci2:i<b+k
   ·have r:=X i o ci2;by_cases cj:b+k<=j/\j<sb+nb'
    ·rw[if_pos cj];obtain⟨u,P,mu⟩:=T (j-(b+k)) (by rw[Q];exact xfd cj.1 cj.2);rw[zby P];exact xbc r (G u mu).1
    ·rw[if_neg cj];by_cases cj2:j<b+k
     ·exact E i j o n (xjm cj2 w)
     ·have s:=I j (xcq λz=>cj ⟨xcq cj2,z⟩) a3;have h3:R y0<=R xl:=by
       have s0:=xbc (xcf _ _) y;have h4:=c1.2.2 (sb-1-b) (xfm y) (xfd s0 s1);rw[xcr s0,zet el] at h4;exact xcd h4
      exact xbc r (xbc h3 s)
   ·have H:sb+nb'<=i:=xcq λz=>ci ⟨xcq ci2,z⟩
    rw[if_neg λz=>xfh (xbc H n) z.2];exact A i j (xbc (xcf _ _) H) n a3
section
def zbxi{x au:SortSt}{Q:Unit->SortSt->Prop}(h:Q () x):wpS (model prog w) A E s (set x:StateT SortSt Sem PUnit) Q au:=by
 unfold wpS;rw[StateT.run_set];exact xbe ⟨rfl,h⟩
end
section
theorem zza{i d S pw sb nb b7:Nat}{au:SortSt}{Q:Bool->SortSt->Prop}(O:Orc a7 w A s κ T R)(b:B κ T au)(p1:(pendingOf au)[i]?=some (d,S,pw))(p2:(pendingOf au)[i+1]?=some (sb,nb,b7))(l:sb=d+S)(b4:1<=S)(a4:1<=nb)(hz:sb+nb<=T.size)
  (t:UpA R (arrOf au) d sb)(o:UpA R (arrOf au) sb (sb+nb))
  (h:∀C,B κ T C->pendingOf C=((pendingOf au).setIfInBounds i (d,S+nb,pw)).eraseIdxIfInBounds (i+1)->Out (arrOf C) (arrOf au) d (sb+nb)->UpA R (arrOf C) d (sb+nb)->Q true C):wpS (model a7 w) A E s (mergeAt' i) Q au:=by
 have a9:=b.size;have bs:sb<T.size:=xbo (xiu a4) hz;refine xbq (xix ?_);dsimp only;have P:(sortPriv% PySem.Builtin.SortState.pending) au=pendingOf au:=rfl;rw[P,p1,p2];dsimp only;refine xbq (zbxi ?_);obtain⟨y0,e0,b1⟩:=b.mem (i:=sb) bs;have u:∀q,q<T.size->∃x,(arrOf au)[q]?=some x/\x∈T.toList:=λq hq=>b.mem hq
 refine xbq (zna e0 ?_);refine xbq (zhg O b.kind b1 (λq hq=>u (d+q) (xjm (xgz (xex hq d) l.symm) bs)) b4 (by rw[←l];exact t) λk c1=>?_);dsimp only;have hk:=c1.1;have b6:Cut false R y0 (arrOf au) d (sb-d) k:=by rw[show sb-d=S from by rw[l,xdo]];exact c1
 by_cases d1:S-k=0
 ·rw[if_pos (by simpa using d1)];refine xbu (h _ ⟨b.perm,b.kind,b.failed⟩ rfl (Out.refl _ _ _) λp q G r I=>?_);by_cases z1:q<sb
  ·exact t p q G r z1
  ·by_cases z2:p<sb
   ·have h1:=c1.2.1 (p-d) (xbo (xeh G (xgz z2 l)) (Nat.le_of_sub_eq_zero d1));rw[xcr G] at h1;have h2:=o sb q (xbl _) (xcq z1) I;rw[zet e0] at h2;exact xbc h1 h2
   ·exact o p q (xcq z2) r I
 ·rw[if_neg (by simpa using d1)];have j:d+k<sb:=xgz (xex (xgv λz=>d1 (Nat.sub_eq_zero_of_le z)) d) l.symm;have s1:sb-1<sb:=xja (xli j) Nat.one_pos;obtain⟨xl,el,b5⟩:=u (sb-1) (xjm s1 bs);have b3:(arrOf au)[d+k+(S-k)-1]?=some xl:=by rw[xnb,xcr hk,←l];exact el
  refine xbq (zna b3 ?_);refine xbq (zhg O b.kind b5 (λq hq=>u (sb+q) (xbo (xex hq sb) hz)) (xja a4 Nat.one_pos) o λnb' c2=>?_);dsimp only;have b0:=c2.1;have b2:Cut true R xl (arrOf au) sb (sb+nb-sb) nb':=by rw[xdo];exact c2
  by_cases d2:nb'=0
  ·rw[if_pos (by simpa using d2)];refine xbu (h _ ⟨b.perm,b.kind,b.failed⟩ rfl (Out.refl _ _ _) λp q G r I=>?_);subst d2;by_cases z1:q<sb
   ·exact t p q G r z1
   ·by_cases z2:p<sb
    ·have h1:=t p (sb-1) G (xds z2) s1;rw[zet el] at h1;have h2:=c2.2.2 (q-sb) (xec _) (xeh (xcq z1) I);rw[xcr (xcq z1)] at h2;exact xbc h1 h2
    ·exact o p q (xcq z2) r I
  ·rw[if_neg (by simpa using d2)];have H:1<=nb':=xmx d2;have a6:sb<=(arrOf au).size:=by rw[a9];exact xcd bs
   have a0:sb+nb<=(arrOf au).size:=by rw[a9];exact hz
   have v:sb+nb'<=sb+nb:=xct b0 sb;have oa:Ord R ((arrOf au).extract (d+k) sb).toList:=zbde (λp q G r I=>t p q (xbc (xcf _ _) G) r I) a6;have ob:Ord R ((arrOf au).extract sb (sb+nb')).toList:=zbde (λp q G r I=>o p q G r (xbo I v)) (xbc v a0);have ma:∀x∈((arrOf au).extract (d+k) sb).toList,x∈T.toList:=λx n=>by
    obtain⟨q,P,Y,e⟩:=zku n;obtain⟨x',e',m'⟩:=u q (xjm Y bs);rw[e] at e';cases e';exact m'
   have mb:∀x∈((arrOf au).extract sb (sb+nb')).toList,x∈T.toList:=λx n=>by
    obtain⟨q,P,Y,e⟩:=zku n;obtain⟨x',e',m'⟩:=u q (xbo Y (xbc v hz));rw[e] at e';cases e';exact m'
   have sx:((arrOf au).extract (d+k) sb).size=sb-(d+k):=by rw[Array.size_extract,xeg a6]
   have sy:((arrOf au).extract sb (sb+nb')).size=nb':=by rw[Array.size_extract,xeg (xbc v a0),xdo]
   have a8:∀y,((arrOf au).extract sb (sb+nb')).toList[0]?=some y->∀x∈((arrOf au).extract (d+k) sb).toList,R y<=R x:=λy hy x n=>by
    rw[zbph (by rw[xdo];exact H),xkq,e0] at hy;cases hy;obtain⟨q,P,Y,e⟩:=zku n;have q0:=xbc (xcf _ _) P;have:=c1.2.2 (q-d) (xfm P) (xeh q0 (xgz Y l));rw[xcr q0,zet e] at this;exact xcd this
   have a5:∀x,((arrOf au).extract (d+k) sb).toList[sb-(d+k)-1]?=some x->∀y∈((arrOf au).extract sb (sb+nb')).toList,R y<=R x:=λx n y hy=>by
    rw[zbph (xja (xgl j) Nat.one_pos),show d+k+(sb-(d+k)-1)=sb-1 from by rw[←Nat.add_sub_assoc (xgl j),xcr (xcd j)],el] at n;cases n;obtain⟨q,P,Y,e⟩:=zku hy;have:=c2.2.1 (q-sb) (xeh P Y);rw[xcr P,zet e] at this;exact xcd this
   have U:∀m g,SmG au g\/True->Fin R ((arrOf au).extract (d+k) sb).toList ((arrOf au).extract sb (sb+nb')).toList m->Mg R (arrOf au) (m.toList.zipIdx.foldl (λa p=>a.setIfInBounds (d+k+p.2) p.1) (arrOf au)) d (sb+nb):=λm _ _ f=>
    zbar (xcf _ _) a0 j v H t o e0 el b6 b2 f
   by_cases d3:S-k<=nb'
   ·rw[if_pos d3];refine xbq (zyy O b.kind ma mb ⟨oa,ob,λx n=>a5 x (by rw[xce,sx] at n;exact n)⟩ (by show 1<=((arrOf au).extract (d+k) sb).size;rw[sx];exact xgl j) (by show 1<=((arrOf au).extract sb (sb+nb')).size;rw[sy];exact H) a8 λm g J f=>?_);have X:=U m g (.inr trivial) f;refine xbq (xhp (xbq (xix ?_)));have r:arrOf g=arrOf au:=J.arr;have f2:failedOf g=none:=J.failed.trans b.failed;refine xbu (?_:Q ((failedOf g).isNone) (setArr g (m.toList.zipIdx.foldl (λa p=>a.setIfInBounds (d+k+p.2) p.1) (arrOf g))));rw[f2,r];exact h _ ⟨X.perm.trans b.perm,J.kind.trans b.kind,f2⟩ J.pend X.out X.up
   ·rw[if_neg d3];refine xbq (zyz O b.kind ma mb ⟨oa,ob,a8⟩ (by show 1<=((arrOf au).extract (d+k) sb).size;rw[sx];exact xgl j) (by show 1<=((arrOf au).extract sb (sb+nb')).size;rw[sy];exact H) (λx n=>a5 x (by rw[sx] at n;exact n)) λm g J f=>?_);have X:=U m g (.inr trivial) f;refine xbq (xhp (xbq (xix ?_)));have r:arrOf g=arrOf au:=J.arr;have f2:failedOf g=none:=J.failed.trans b.failed;refine xbu (?_:Q ((failedOf g).isNone) (setArr g (m.toList.zipIdx.foldl (λa p=>a.setIfInBounds (d+k+p.2) p.1) (arrOf g))));rw[f2,r];exact h _ ⟨X.perm.trans b.perm,J.kind.trans b.kind,f2⟩ J.pend X.out X.up
end
def Segs(R:Keyed->Nat) (a:Array Keyed):Nat->List (Nat×Nat×Nat)->Nat->Prop
 |s,[],e=>s=e
 |s,p::r,e=>p.1=s/\1<=p.2.1/\UpA R a s (s+p.2.1)/\Segs R a (s+p.2.1) r e
def Segs.le:∀{l s e},Segs R xs s l e->s+l.length<=e
 |[],s,e,h=>by cases h;simp
 |p::r,s,e,h=>by
  have:=Segs.le h.2.2.2;have:=h.2.1;simp;lia
def Segs.append:∀{l m s e},Segs R xs s (l++m) e↔∃k,Segs R xs s l k/\Segs R xs k m e
 |[],m,s,e=>⟨λh=>⟨s,rfl,h⟩,λ⟨k,a,b⟩=>by cases a;exact b⟩
 |p::r,m,s,e=>by
  constructor
  ·rintro⟨a,b,d,c⟩;obtain⟨k,g,f⟩:=Segs.append.mp c;exact⟨k,⟨a,b,d,g⟩,f⟩
  ·rintro⟨k,⟨a,b,d,c⟩,f⟩;exact⟨a,b,d,Segs.append.mpr ⟨k,c,f⟩⟩
def UpA.same(h:UpA R xs a b)(e:∀i,a<=i->i<b->ys[i]?=xs[i]?):UpA R ys a b:=λi j c f d=>by
 rw[zeh (e i c (xdl f d)),zeh (e j (xbc c f) d)];exact h i j c f d
def Segs.same:∀{l s e},Segs R xs s l e->(∀i,s<=i->i<e->ys[i]?=xs[i]?)->Segs R ys s l e
 |[],s,e,h,_=>h
 |p::r,s,e,h,k=>by
  have:=Segs.le h.2.2.2;exact⟨h.1,h.2.1,h.2.2.1.same λi a b=>k i a (xbo b (xbc (xcf _ _) this)),Segs.same h.2.2.2 λi a b=>k i (xbc (xcf _ _) a) b⟩
def Segs.power:∀{l m},l.map (λp=>(p.1,p.2.1))=m.map (λp=>(p.1,p.2.1))->Segs R xs s l e->Segs R xs s m e:=by
 intro l
 induction l generalizing s with
 |nil=>intro m h k;cases m with
  |nil=>exact k
  |cons=>cases h
 |cons p r ih=>intro m h k;cases m with
  |nil=>cases h
  |cons q t=>
   rw[xbr,xbr] at h;obtain⟨d,g⟩:=List.cons.inj h;obtain⟨f,i⟩:=Prod.mk.inj d;obtain⟨j,c,a,b⟩:=k;rw[i] at c a b;exact⟨f.symm.trans j,c,a,ih g b⟩
def zbhg{l:List (Nat×Nat×Nat)}(h:i+1<l.length):∃b p q a,l=b++p::q::a/\b.length=i:=by
 refine⟨l.take i,l[i],l[i+1],l.drop (i+2),?_,by rw[xcl];exact xeg (xcd (xft h))⟩
 conv=>lhs;rw[←xdd i l,xde (xft h),xde h]
section
def w_at{i e:Nat}{au:SortSt}{Q:Bool->SortSt->Prop}(O:Orc n w A s κ t R)(b:B κ t au)(U:Segs R (arrOf au) 0 (pendingOf au).toList e)(he:e<=t.size)(hi:i+1<(pendingOf au).size)
  (h:∀a,B κ t a->Segs R (arrOf a) 0 (pendingOf a).toList e->(pendingOf a).size+1=(pendingOf au).size->(∀k,e<=k->(arrOf a)[k]?=(arrOf au)[k]?)->Q true a):wpS (model n w) A E s (mergeAt' i) Q au:=by
 obtain⟨y,p,q,post,o,m⟩:=zbhg (l:=(pendingOf au).toList) (i:=i) (by simpa using hi);obtain⟨d,g,G⟩:=p;obtain⟨v,f,u⟩:=q;rw[o] at U;obtain⟨k,P,Y⟩:=Segs.append.mp U;obtain⟨I,T,C,r,H,z,x⟩:=Y;dsimp only at I T C r H z x;subst I;have l7:=Segs.le x;have l1:=Segs.le P;have p1:(pendingOf au)[i]?=some (d,g,G):=by rw[←xcn,o,xcw (xdr m),m,xjo];rfl
 have X:(pendingOf au)[i+1]?=some (v,f,u):=by rw[←xcn,o,xcw (xbc (xdr m) (xcf i 1)),m,xdo];rfl
 refine zza O b p1 X r T H (by lia) (by rw[r];exact C) (by rw[r];exact z) λa b' pe ou up=>?_
 have J:(pendingOf a).toList=y++(d,g+f,G)::post:=by
  rw[pe];rw[Array.toList_eraseIdxIfInBounds,Array.toList_setIfInBounds,o];rw[List.set_append_right _ _ (xdr m),m,xjo,List.set_cons_zero,List.eraseIdx_append_of_length_le (xbc (xdr m) (xcf i 1)),m,xdo]
  rfl
 have c:∀j,j<d\/v+f<=j->(arrOf a)[j]?=(arrOf au)[j]?:=ou
 refine h a b' ?_ ?_ λj hj=>c j (.inr (by lia))
 ·rw[J];refine Segs.append.mpr ⟨d,P.same λj a1 S=>c j (.inl S),rfl,by show 1<=g+f;lia,?_,?_⟩
  ·show UpA R (arrOf a) d (d+(g+f));rw[show d+(g+f)=v+f by lia];exact up
  ·show Segs R (arrOf a) (d+(g+f)) post e;rw[show d+(g+f)=d+g+f by lia];exact x.same λj a1 S=>c j (.inr (by lia))
 ·have e1:(pendingOf a).size=(pendingOf a).toList.length:=by simp
  have e2:(pendingOf au).size=(pendingOf au).toList.length:=by simp
  rw[e1,e2,J,o];simp only[xbk,xbv];lia
end
def zbtx [Decidable c] (e:a+1<n)(d:b+1<n):(if c then a else b)+1<n:=by split<;>assumption
def zbdr(h:∀x,g (f x)=g x):∀(l:List (Nat×Nat×Nat)) (i:Nat),(l.modify i f).map g=l.map g
 |[],i=>by simp
 |x::l,0=>by simp[h]
 |x::l,i+1=>by simp[zbdr h l i]
def Segs.mod(h:Segs R xs s l e)(i c:Nat):Segs R xs s (l.modify i λx=>(x.1,x.2.1,c)) e:=
 h.power (zbdr (g:=λp=>(p.1,p.2.1)) (f:=λx=>(x.1,x.2.1,c)) (λ_=>rfl) l i).symm
section
def zbrt{au:SortSt}{Q:Unit->SortSt->Prop}(O:Orc a0 w A s κ e R)(b:B κ e au)(pe:pendingOf au=#[])(h2:2<=e.size)
  (h:∀a,B κ e a->UpA R (arrOf a) 0 e.size->Q () a):wpS (model a0 w) A E s sortRuns' Q au:=by
 have hz:=b.size;rw[sortRuns'_eq];refine xbq (xix ?_);dsimp only;rw[hz]
 refine xbq (xgg (xef (I:=λx c a=>∃lo,c=(none,lo)/\B κ e a/\Segs R (arrOf a) 0 (pendingOf a).toList lo/\lo<=e.size/\x<=lo)
  (Q:=λc a=>c=(none,e.size)/\B κ e a/\Segs R (arrOf a) 0 (pendingOf a).toList e.size) ?_ ?_ ⟨0,rfl,b,by rw[pe];rfl,by lia,by lia⟩) ?_)
 ·rintro x c X x1 x2 ⟨lo,rfl,P,u,G,hx⟩;dsimp only;by_cases c1:lo ≥ e.size
  ·rw[if_pos c1];have:lo=e.size:=by lia
   subst this;exact xbu ⟨rfl,P,u⟩
  rw[if_neg c1];refine xbq (zblb O P (by lia) (by lia) λm g m1 m2 C U S=>?_);dsimp only;have f:Segs R (arrOf g) 0 (pendingOf g).toList lo:=by
   rw[U.pend];exact u.same λi T Y=>U.out i (.inl Y)
  by_cases c2:m<minRun' e.size e.size 0
  ·rw[if_pos c2];refine xbq (xlv (xik ⟨rfl,?_⟩));refine xbq (zbxj O C (by lia) m1 (by lia) S λl z H q=>?_);have o:Segs R (arrOf l) 0 (pendingOf l).toList lo:=by
    rw[H.pend];exact f.same λi T Y=>H.out i (.inl Y)
   have v:1<=min (e.size-lo) (minRun' e.size e.size 0):=by lia
   have t:lo+min (e.size-lo) (minRun' e.size e.size 0)<=e.size:=by lia
   simp only[Bool.not_true,xdx,xeu];generalize min (e.size-lo) (minRun' e.size e.size 0)=n at q v t H ⊢;refine xbq (xix ?_);cases hb:(pendingOf l).back? with
   |none=>
    dsimp only;refine xbq (xhp (xbu ⟨lo+n,rfl,⟨z.perm,z.kind,z.failed⟩,?_,t,by lia⟩));show Segs R (arrOf l) 0 ((pendingOf l).push (lo,n,0)).toList (lo+n);rw[xfk];exact Segs.append.mpr ⟨lo,o,rfl,v,q,rfl⟩
   |some p=>
    obtain⟨s1,n1,p1⟩:=p;dsimp only;refine xbq (xgg (xef (I:=λ_ c a=>c=(none,())/\B κ e a/\Segs R (arrOf a) 0 (pendingOf a).toList lo/\UpA R (arrOf a) lo (lo+n)) (Q:=λc a=>c=(none,())/\B κ e a/\Segs R (arrOf a) 0 (pendingOf a).toList lo/\UpA R (arrOf a) lo (lo+n)) ?_ (λ_ _ hh=>hh) ⟨rfl,z,o,q⟩) ?_)
    ·rintro x' c d _ _ ⟨rfl,y,k,j⟩;refine xbq (xix ?_);by_cases hs:(pendingOf d).size > 1
     ·rw[if_pos hs,getElem?_pos (pendingOf d) ((pendingOf d).size-2) (by lia)];obtain⟨s2,n2,p2⟩:=(pendingOf d)[(pendingOf d).size-2]'(by lia);dsimp only;split
      ·exact xbu ⟨rfl,y,k,j⟩
      ·refine xbq (w_at O y k G (by lia) λa4 b5 J _ k5=>?_);exact xbu ⟨rfl,b5,J,j.same λi T Y=>k5 i T⟩
     ·rw[if_neg hs];exact xbu ⟨rfl,y,k,j⟩
    ·rintro c d ⟨rfl,y,k,j⟩;dsimp only;refine xbq (xhp (xbq (xhp (xbu ⟨lo+n,rfl,⟨y.perm,y.kind,y.failed⟩,?_,t,by lia⟩))));refine(?_:Segs R (arrOf d) 0 (((pendingOf d).modify ((pendingOf d).size-1) λx=>(x.1,x.2.1,_)).push (lo,n,0)).toList (lo+n));rw[xfk,Array.toList_modify];exact Segs.append.mpr ⟨lo,k.mod _ _,rfl,v,j,rfl⟩
  ·rw[if_neg c2];have z:=C;have o:=f;have q:=S;have v:=m1;have t:lo+m<=e.size:=by lia
   generalize g=l at z o q ⊢;generalize m=n at q v t ⊢;refine xbq (xix ?_);cases hb:(pendingOf l).back? with
   |none=>
    dsimp only;refine xbq (xhp (xbu ⟨lo+n,rfl,⟨z.perm,z.kind,z.failed⟩,?_,t,by lia⟩));show Segs R (arrOf l) 0 ((pendingOf l).push (lo,n,0)).toList (lo+n);rw[xfk];exact Segs.append.mpr ⟨lo,o,rfl,v,q,rfl⟩
   |some p=>
    obtain⟨s1,n1,p1⟩:=p;dsimp only;refine xbq (xgg (xef (I:=λ_ c a=>c=(none,())/\B κ e a/\Segs R (arrOf a) 0 (pendingOf a).toList lo/\UpA R (arrOf a) lo (lo+n)) (Q:=λc a=>c=(none,())/\B κ e a/\Segs R (arrOf a) 0 (pendingOf a).toList lo/\UpA R (arrOf a) lo (lo+n)) ?_ (λ_ _ hh=>hh) ⟨rfl,z,o,q⟩) ?_)
    ·rintro x' c d _ _ ⟨rfl,y,k,j⟩;refine xbq (xix ?_);by_cases hs:(pendingOf d).size > 1
     ·rw[if_pos hs,getElem?_pos (pendingOf d) ((pendingOf d).size-2) (by lia)];obtain⟨s2,n2,p2⟩:=(pendingOf d)[(pendingOf d).size-2]'(by lia);dsimp only;split
      ·exact xbu ⟨rfl,y,k,j⟩
      ·refine xbq (w_at O y k G (by lia) λa4 b5 J _ k5=>?_);exact xbu ⟨rfl,b5,J,j.same λi T Y=>k5 i T⟩
     ·rw[if_neg hs];exact xbu ⟨rfl,y,k,j⟩
    ·rintro c d ⟨rfl,y,k,j⟩;dsimp only;refine xbq (xhp (xbq (xhp (xbu ⟨lo+n,rfl,⟨y.perm,y.kind,y.failed⟩,?_,t,by lia⟩))));refine(?_:Segs R (arrOf d) 0 (((pendingOf d).modify ((pendingOf d).size-1) λx=>(x.1,x.2.1,_)).push (lo,n,0)).toList (lo+n));rw[xfk,Array.toList_modify];exact Segs.append.mpr ⟨lo,k.mod _ _,rfl,v,j,rfl⟩
 ·rintro c X ⟨lo,rfl,P,u,G,hx⟩;have:lo=e.size:=by lia
  subst this;exact⟨rfl,P,u⟩
 ·rintro c X ⟨rfl,P,u⟩;dsimp only
  refine xbq (xgg (xef (I:=λx c a=>c=(none,())/\B κ e a/\Segs R (arrOf a) 0 (pendingOf a).toList e.size/\(pendingOf a).size+x<=e.size)
   (Q:=λc a=>c=(none,())/\B κ e a/\Segs R (arrOf a) 0 (pendingOf a).toList e.size/\(pendingOf a).size<=1) ?_ ?_ ⟨rfl,P,u,by have:=u.le;simp at this;lia⟩) ?_)
  ·rintro x c g x1 x2 ⟨rfl,C,f,hp⟩;refine xbq (xix ?_);by_cases c1:(pendingOf g).size<=1
   ·rw[if_pos c1];exact xbu ⟨rfl,C,f,c1⟩
   rw[if_neg c1];refine xbq (w_at O C f (xbl _) ?_ λl z o p3 _=>xbu ⟨rfl,z,o,by lia⟩);exact zbtx (by lia) (by lia)
  ·rintro c g ⟨rfl,C,f,hp⟩;exact⟨rfl,C,f,by lia⟩
  ·rintro c g ⟨rfl,C,f,hp⟩;refine xbu (h g C ?_);cases hl:(pendingOf g).toList with
   |nil=>rw[hl] at f;have:0=e.size:=f;lia
   |cons p r=>
    have:r=[]:=by
     have e2:(pendingOf g).size=(pendingOf g).toList.length:=by simp
     rw[e2,hl,xbv] at hp;exact xhh.mp (by lia)
    subst this;rw[hl] at f;obtain⟨_,_,g3,g4⟩:=f;have a3:0+p.2.1=e.size:=g4;rw[a3] at g3;exact g3
end
end TS
namespace Srt
open PySem.W PyProof.Rows
def zti{α β:Type}(f:α->β):∀{l g},l.Perm g->∀m:List α,g=m.map f->∃p:List α,p.Perm m/\l=p.map f:=by
 intro l g h
 induction h with
 |nil=>exact λm e=>⟨[],by rw[List.map_eq_nil_iff.mp e.symm],rfl⟩
 |cons x _ ih=>
  intro m e;cases m with
  |nil=>cases e
  |cons y m=>
   rw[xbr] at e;injection e with i c
   obtain⟨p,j,d⟩:=ih m c;exact⟨y::p,j.cons y,by rw[xbr,←d,i]⟩
 |swap x y l=>
  intro m e
  match m,e with
  |a::b::m,e=>
   rw[xbr,xbr] at e;injection e with i c
   injection c with c k
   exact⟨b::a::m,.swap _ _ _,by rw[xbr,xbr,i,c,k]⟩
 |trans _ _ ih1 ih2=>
  intro m e;obtain⟨p,j,d⟩:=ih2 m e;obtain⟨q,n,o⟩:=ih1 p d;exact⟨q,n.trans j,o⟩
noncomputable def Coh(r:Nat->Nat) (a:List Value):Prop:=∀i j,i<a.length->j<a.length->a.getD i Value.none=a.getD j Value.none->r i=r j
open Classical in
noncomputable def rankV(r:Nat->Nat) (a:List Value) (x:Keyed):Nat:=if h:∃i,i<a.length/\a.getD i Value.none=x.1 then r h.choose else 0
def zpi(a:Coh r xs) (b:i<xs.length)(e:xs.getD i Value.none=x.1):rankV r xs x=r i:=by
 have h:∃i,i<xs.length/\xs.getD i Value.none=x.1:=⟨i,b,e⟩
 unfold rankV;rw[dif_pos h];exact a _ _ h.choose_spec.1 b (h.choose_spec.2.trans e.symm)
def zud(a:List Value):(a.toArray.zip a.toArray).toList=(List.range a.length).map λi=>((a.getD i Value.none,a.getD i Value.none):Keyed):=by
 rw[Array.toList_zip];apply xjs
 ·simp
 ·intro i d b;have c:i<a.length:=by simpa using b
  simp[xbh,c]
def zbhf{xs:List Value}(J:2<=xs.length)(d:Coh r xs)
  (m:∀i j C,i<xs.length->j<xs.length->C (lt r i j) sg->kas_ask P w B κ xs i j C sg):
  wpAny (model P w) B ((sortRuns').run (SortSt.mk' κ (xs.toArray.zip xs.toArray) #[] 7 none)) (λy z=>∃p:Array Nat,(p.Perm (List.toArray (List.range xs.length))/\Up r p xs.length)/\(arrOf y.2).map (·.2)=outOf xs p/\failedOf y.2=none/\z=sg) E sg:=by
 have H:(xs.toArray.zip xs.toArray).size=xs.length:=by simp
 have O:TS.Orc P w B sg κ (xs.toArray.zip xs.toArray) (rankV r xs):=λx v y A C G=>by
  rw[zud] at v A;obtain⟨i,s,rfl⟩:=xbt.mp v;obtain⟨j,g,rfl⟩:=xbt.mp A;rw[xbs] at s g;rw[zpi d s rfl,zpi d g rfl] at G;exact m i j C s g G
 have run:=TS.zbrt (E:=E) (Q:=λ_ y=>∃p:Array Nat,(p.Perm (List.toArray (List.range xs.length))/\Up r p xs.length)/\(arrOf y).map (·.2)=outOf xs p/\failedOf y=none) O (au:=SortSt.mk' κ (xs.toArray.zip xs.toArray) #[] 7 none) ⟨.refl _,rfl,rfl⟩ rfl (by rw[H];exact J) λy b I=>by
  obtain⟨l,t,u⟩:=zti (λi=>((xs.getD i Value.none,xs.getD i Value.none):Keyed)) (xfr.mp b.perm) _ (zud xs);have T:l.length=xs.length:=by rw[t.length_eq,xgn]
  have o:∀k,(n:k<l.length)->l[k]<xs.length:=λk n=>xbs.mp (t.mem_iff.mp (xed n))
  have h:∀k,k<xs.length->TS.kA (rankV r xs) (arrOf y) k=At r l.toArray k:=λk n=>by
   have f:k<l.length:=by lia
   have e:(arrOf y)[k]?=some (xs.getD l[k] Value.none,xs.getD l[k] Value.none):=by
    rw[←xcn,u,xcg,xbf f]
    rfl
   rw[TS.zet e,zpi d (o k f) rfl];unfold At;simp[f]
  refine⟨l.toArray,⟨?_,λi j q g=>?_⟩,?_,b.failed⟩
  ·exact xfr.mpr (by simpa using t)
  ·rw[←h i (by lia),←h j g];exact I i j (xec _) q (by rw[H];exact g)
  ·unfold outOf;apply Array.toList_inj.mp;rw[Array.toList_map,u,xcv]
   rfl
 exact xey run (λy z S=>by
  obtain⟨rfl,p,a,b,c⟩:=S
  exact⟨p,a,b,c,rfl⟩) λ_ _ x=>x
def znf{au:Shared}(r:Nat->Nat) {a:List Value}{W:Fin->Shared->Prop}(q:au.heap.get? d=some (seqObj "list" a.toArray k))(b:a.length<=sizeLine)(l:Coh r a)
  (ask:2<=a.length->Answers P w B r a {au with heap:=midHeap au.heap d a})
  (f:∀p:Array Nat,p.Perm (List.toArray (List.range a.length))->Up r p a.length->W (.done (.ret .none)) {au with heap:=sortedHeap au.heap d a (outOf a p)}):
  wpAny (model P w) B (Builtin.«list.sort» ⟨[.ref d],[]⟩) W E au:=by
 obtain⟨c,u⟩:∃ c,(au.heap.update d (Obj.mapSeq λ_=>(#[]:Array Value))).get? d=some (seqObj "list" #[] c):=⟨_,get?_update_seq q λ_=>#[]⟩
 have g:(midHeap au.heap d a).get? d=some (seqObj "list" #[] c):=xbg _ (xbg _ u)
 have e:a.toArray.size=a.length:=xbw;rw[list_sort_plain];refine xba (listItems_at q rfl (xba (listUpdate_at q rfl (xba (seqEpoch_at u rfl (xba (wpAny_newTuple (xba (wpAny_newList (xeq ?_) (xec _))) (b))))) (by rw[e];exact b) (xec _))));show wpAny (model P w) B _ W E {au with heap:=midHeap au.heap d a};dsimp only;by_cases two:a.toArray.size<2
 ·rw[if_pos two,if_pos two];rw[e] at two;have v:((arrOf (SortSt.mk' general' (a.toArray.zip a.toArray) #[] 7 none)).map (·.2))=outOf a (List.toArray (List.range a.length)):=zzl two
  refine xba (xbe (by
   rw[StateT.run_pure];refine xba (xbe (xba (seqEpoch_at g rfl (xba (listUpdate_at g rfl ?_ (xec _) ?_)))))
   ·rw[if_neg (by simp)];refine xbe ?_;rw[v];exact f _ (.refl _) λi j C H=>xdr (congrArg (At r _) (by lia))
   ·rw[v];refine xgm (xbc (xdr ?_) (b));unfold outOf
    simp))
 ·rw[if_neg two,if_neg two];rw[e] at two;obtain⟨κ,G,o⟩:=ask (by lia);refine xba (xey (G (λm z=>m=κ/\z={au with heap:=midHeap au.heap d a}) ⟨rfl,rfl⟩) (λm z s=>?_) λ_ _ x=>x.elim);obtain⟨rfl,rfl⟩:=s;have run:=zbhf (E:=E) (r:=r) (xs:=a) (κ:=m) (sg:={au with heap:=midHeap au.heap d a}) (by lia) l o;refine xba (xey run (λA z s=>?_) λ_ _ x=>x);obtain⟨⟨⟩,y⟩:=A;obtain⟨p,n,h,t,rfl⟩:=s;dsimp only at h t ⊢;refine xba (seqEpoch_at g rfl (xba (listUpdate_at g rfl ?_ (xec _) ?_)))
  ·rw[t,if_neg (by simp),h];exact xbe (f p n.1 n.2)
  ·rw[h];refine xgm (xbc (xdr ?_) (b));unfold outOf;rw[xbw,xbb,xce,n.1.size_eq];simp
def zpd{B:Around}{au:Shared}(r:Nat->Nat) {a:List Value}{W:Value->Shared->Prop}(i:au.heap.IsList d a.toArray)(c:a.length<=sizeLine)(h:Coh r a)
  (ask:2<=a.length->∀g:Heap,(∀b ob,au.heap.get? b=some ob->g.get? b=some ob)->Answers P w B.in1.in1 r a {au with heap:=g})
  (k:∀p:Array Nat,p.Perm (List.toArray (List.range a.length))->Up r p a.length->W (.ref (au.heap.objs.size+1)) {au with heap:=sortedAll au.heap a (outOf a p)}):
  wpAny (model P w) B (call (.builtin "sorted") [.ref d]) W E au:=by
 let g0:Heap:=(au.heap.push (seqObj "list" #[] 0)).update au.heap.objs.size (Obj.mapSeq (·++a.toArray))
 have l:g0.objs.size=au.heap.objs.size+1:=(Heap.size_update ..).trans (size_push' _ _);have f:(g0.push (seqObj "list" a.toArray 0)).get? (au.heap.objs.size + 1)=some (seqObj "list" a.toArray 0):=by
  have z:=xbz g0 (o:=seqObj "list" a.toArray 0) rfl
  rw[l] at z;exact z
 have j:∀ b ob,au.heap.get? b=some ob->(g0.push (seqObj "list" a.toArray 0)).get? b=some ob:=λb ob e=>by
  have lt:=xbx e;exact xbg _ ((Heap.get?_update_ne _ _ _ _ (xci lt)).trans (xbg _ e))
 have q:argsOk "sorted" ⟨[.ref d],[]⟩:=args_sorted1 _
 refine Calls.call_function_entry kind_sorted plain_sorted entry_sorted q ?_;unfold Builtin.«sorted»;refine xba (m:=checkCount "sorted" 1 1 _) (xbe (xba (collect_list i (xba (wpAny_newList ?_ (c))) (c))))
 show wpAny _ _ _ _ _ { au with heap:=g0.push (seqObj "list" a.toArray 0) }
 have s:(Value.ref g0.objs.size)=Value.ref (au.heap.objs.size+1):=by rw[l]
 rw[show((au.heap.push (seqObj "list" #[] 0)).update au.heap.objs.size (Obj.mapSeq (·++a.toArray))).objs.size=au.heap.objs.size + 1 from l]
 refine xba (xeq (xei slot_list_sort ⟨_,f,rfl⟩ entry_list_sort (znf r (au:={ au with heap:=g0.push (seqObj "list" a.toArray 0) }) f c h (λtwo=>?_) λp t n=>⟨_,rfl,xbe ⟨_,rfl,k p t n⟩⟩) (args_list_sort _)))
 exact ask two _ λb ob e=>zkt (xci (xig (xbx e))) (j b ob e)
def zki{B:Around}{au:Shared}{T:String}{It:Nat->Value->Prop}(S:KdlSrc P w T a d n It OK)(y:B.handled=none)(J:OK au.heap)(k:n<=sizeLine){W:Value->Shared->Prop}
  (ask:∀s:List Value,s.length=n->(∀(j:Nat) (v:Value),s[j]?=some v->It j v)->∃r:Nat->Nat,Coh r s/\(2<=n->∀(g:Heap) (i:Nat),(∀b ob,au.heap.get? b=some ob->g.get? b=some ob)->Answers P w B.in1.in1 r s {au with heap:=g,toks:=i}) /\
   ∀(p:Array Nat) (q:Addr) (g:Heap) (i c:Nat),p.Perm (List.toArray (List.range s.length))->Up r p s.length->(∀ b ob,au.heap.get? b=some ob->g.get? b=some ob)->(∀ b ob,au.heap.get? b=some ob->b≠q)->g.get? q=some (seqObj "list" (outOf s p) c)->W (.ref q) { au with heap:=g,toks:=i }):
  wpAny (model P w) B (call (.builtin "sorted") [.ref a]) W E au:=by
 have C:argsOk "sorted" ⟨[.ref a],[]⟩:=args_sorted1 _
 refine Calls.call_function_entry kind_sorted plain_sorted entry_sorted C ?_;unfold Builtin.«sorted»;refine xba (m:=checkCount "sorted" 1 1 _) (xbe (xba (kdu_collect (A:=B.in1) S y J (k) λg i acc h f=>?_)))
 have t:acc.toList.length=n:=by rw[xce];exact f.1
 obtain⟨r,u,I,x⟩:=ask acc.toList t (λj v e=>f.2 j v (by rw[←xcn];exact e));refine xba (wpAny_newList ?_ (by rw[t];exact k));have l:(g.push (seqObj "list" acc.toList.toArray 0)).get? g.objs.size=some (seqObj "list" acc.toList.toArray 0):=xbz g rfl
 have o:∀ b ob,au.heap.get? b=some ob->(g.push (seqObj "list" acc.toList.toArray 0)).get? b=some ob:=λb ob e=>xbg _ (h b ob e)
 have lt:∀b ob,au.heap.get? b=some ob->b≠g.objs.size:=λb ob e=>xci (xbx (h b ob e))
 show wpAny _ _ _ _ _ { au with heap:=g.push (seqObj "list" acc.toList.toArray 0),toks:=i }
 refine xba (xeq (xei slot_list_sort ⟨_,l,rfl⟩ entry_list_sort (znf r (au:={ au with heap:=g.push (seqObj "list" acc.toList.toArray 0),toks:=i }) l (by rw[t]; exact k) u (λtwo=>?_) λp H z=>⟨_,rfl,xbe ⟨_,rfl,?_⟩⟩) (args_list_sort _)))
 ·exact I (by lia) _ i λb ob e=>zkt (lt b ob e) (o b ob e)
 ·obtain⟨c,G⟩:=sortedHeap_at (n:=0) (vs:=acc.toList) (out:=outOf acc.toList p) l;refine x p g.objs.size _ i c H z (λb ob e=>?_) ?_ G
  ·rw[sortedHeap_old (lt b ob e) (xbx (o b ob e))];exact o b ob e
  ·exact lt
end Srt
namespace L2
open Spec PyProof.Rows PySem.W
def small10000(h:n<=1000000):n<=sizeLine:=xbc h (by rw[xil];lia)
def zkx:∀{c a b},IntsAre c a->IntsAre c b->a=b
 |_,_,_,.nil,.nil=>rfl
 |_,_,_,.cons x t r,.cons _ _ r'=>by rw[zkx r r']
def zxt(a:TupsG g ps):Srt.Coh (Srt.rank (ps.map (·.2))) (ps.map λp=>Value.ref p.1):=λi j h k e=>by
 rw[xbb] at h k;have m:ps[i]?=some ps[i]:=xbf h;have l:ps[j]?=some ps[j]:=xbf k;rw[zk (λp:Addr×List Int=>Value.ref p.1) _ m,zk (λp:Addr×List Int=>Value.ref p.1) _ l] at e;injection e with e
 obtain⟨us,o,n,q,c,w,b⟩:=a _ (xed h);obtain⟨f,v,y,r,t,x,s⟩:=a _ (xed k);rw[e,t] at c;injection c with c
 subst c;rw[s] at b;injection b with b _
 have u:f=us:=by simpa using b
 subst u;have d:=zkx q r;unfold Srt.rank;rw[zk (λp:Addr×List Int=>p.2) _ m,zk (λp:Addr×List Int=>p.2) _ l,d]
def rSortedAL(K:Fg):List V->Hp->VK->Prop:=λe H Q=>∃(l:Addr) (c:List (Addr×List Int)),e=[.ref l]/\SqL K H l (c.map λp=>V.ref p.1)/\c.length<=1000000/\TupsAt K H c /\
 ∀(q:Addr) (d:List (Addr×List Int)),H q=none->d.Perm c->(d.map (·.2)).Pairwise (λa b=>HT.lexLt b a=false)->Q (.ref q) (upd H q (.lst (d.map λp=>V.ref p.1)))
def rSortedDAL:List V->Hp->VK->Prop:=λf H Q=>∃(a:Addr) (b:List (List Key×V)) (d:List (List Int)),f=[.ref a]/\Rd H a (.dT b)/\b.map (·.1)=d.map (λe=>e.map Sum.inl)/\d.length<=1000000 /\
 ∀(q:Addr) (c:List (Addr×List Int)),H q=none->(c.map (·.2)).Perm d->(c.map (·.2)).Pairwise (λx y=>HT.lexLt y x=false)->(∀p∈c,H p.1=some (.tup (p.2.map V.int)))->Q (.ref q) (upd H q (.lst (c.map λp=>V.ref p.1)))
def zom{X:Cx}(hu:X.A.units + 64<cLine):CallR X (.builtin "sorted") (rSortedAL X.K):=by
 intro aU s σ H xs v Q I r h;obtain⟨l,ps,rfl,hl,k,P,q⟩:=h;obtain⟨u,rfl,ru⟩:=vals1 r;cases ru;obtain⟨i,t,U,hz⟩:=I.list hl;have d:i=ps.map λp=>Value.ref p.1:=by
  have e:(ps.map λp=>V.ref p.1)=(ps.map (·.1)).map V.ref:=by rw[xcv];rfl
  rw[e] at t;rw[zqx t,xcv]
  rfl
 subst d;have f:∀g:Heap,(∀b o,s.heap.get? b=some o->g.get? b=some o)->TupsG g ps:=λg c p J=>by
  obtain⟨v,j,⟨o,G,Y,n,E⟩,_⟩:=I.tuple (P p J);exact⟨v,o,n,zfa j,c _ _ G,Y,E⟩
 refine Srt.zpd (Srt.rank (ps.map (·.2))) U.isList (by rw[xbb];exact small10000 k) (zxt (f s.heap λ_ _ z=>z)) (λw g c=>zbep (by show X.A.units+1+1<cLine;lia) (by rw[xbb] at w;exact w) (f g c)) (λp C m=>?_);rw[xbb] at C m;obtain⟨A,y,S,T⟩:=zvr C m;obtain⟨e,x⟩:=sortedAll_at s.heap (ps.map λp=>Value.ref p.1) (Srt.outOf (ps.map λp=>Value.ref p.1) p);rw[T] at x ⊢;refine⟨.ref (s.heap.objs.size+1),_,I.laid (a:=s.heap.objs.size+1) (o:=.lst (A.map λp=>V.ref p.1)) (t':=s.toks) (λ_ _ z=>sortedAll_old z) (xlp _) ⟨?_,_,e,ziv A,x⟩,rfl,q _ _ (I.hok.fresh (xlp _)) y S⟩;rw[xbb,y.length_eq];exact small10000 (by lia)
def zmu{X:Cx}(hc:X.calm=true)(hu:X.A.units + 64<cLine):CallR X (.builtin "sorted") rSortedDAL:=by
 intro aU s σ H xs E Q I r h;obtain⟨a,x,ks,rfl,hd,ek,a0,q⟩:=h;obtain⟨u,rfl,ru⟩:=vals1 r;cases ru;obtain⟨z,ns,ys,k,ob,j,ep,e1,e2,e3,e4,e5⟩:=(show ObjOk X.prog X.w H s.heap a (.dT x) from hd.ok I.hok)
 obtain⟨ps,J,U,a3⟩:=zoh (P:=X.prog) (w:=X.w) k ek;have a5:ps.length=ks.length:=by rw[←J,xbb]
 have e:j.toList.map (·.key)=ps.map λp=>Value.ref p.1:=by rw[e4,xcv];exact a3
 have a4:j.size=ps.length:=by
  have:=congrArg List.length e;rw[xbb,xbb,xce] at this;exact this
 have f:∀g:Heap,(∀b o,s.heap.get? b=some o->g.get? b=some o)->TupsG g ps:=λg d p l=>by
  obtain⟨E,rv,⟨o,b2,b3,n,b4⟩,_⟩:=I.tuple (SqT.of (U p l));exact⟨E,o,n,zfa rv,d _ _ b2,b3,b4⟩
 refine Srt.zki (Dct.zbmc ns j ep) (I.ok.hd hc) ⟨ob,e1,e2,e3⟩ (small10000 (by lia)) λv hl hv=>?_
 have m:v=ps.map λp=>Value.ref p.1:=by
  rw[←e];apply xif;intro i;by_cases hi:i<j.size
  ·have S:v[i]?=some v[i]:=xbf (by lia);obtain⟨en,Y,h3⟩:=hv i _ S;rw[S,h3,xcg,xcn,Y]
   rfl
  ·rw[xfz (by lia),xfz (by rw[xbb,xce];lia)]
 subst m;refine⟨Srt.rank (ps.map (·.2)),zxt (f s.heap λ_ _ z=>z),λY g tk d=>zbep (by show X.A.units+1+1<cLine;lia) (by lia) (f g d),λp t g tk c p1 C d T G=>?_⟩;rw[xbb] at p1 C;obtain⟨A,y,q2,q3⟩:=zvr p1 C;rw[q3] at G;refine⟨.ref t,_,I.laidN (o:=.lst (A.map λp=>V.ref p.1)) d T ⟨?_,_,c,ziv A,G⟩,rfl,q t A (I.away T) ((y.map _).trans (by rw[J])) q2 λp l=>U p (y.mem_iff.mp l)⟩;rw[xbb,y.length_eq];exact small10000 (by lia)
end L2
namespace L2
open Spec PyProof.Rows
def zjo{κ β:Type}[DecidableEq κ]{k:κ}:∀{a:List (κ×β)}{j:Nat}{p:β},(a.map (·.1)).Nodup->a[j]?=some (k,p)->a.eraseIdx j=a.filter λx=>decide (x.1≠k)
 |[],_,_,_,e=>by simp at e
 |x::r,0,p,nd,e=>by
  simp at e;subst e;rw[xbr,xdg] at nd;rw[List.eraseIdx_cons_zero,xco (by simp)]
  symm
  rw[xmn];intro y c;refine xcj λz=>nd.1 ?_
  rw[←z];exact xbt.mpr ⟨y,c,rfl⟩
 |x::r,j+1,p,nd,e=>by
  rw[xbr,xdg] at nd;have b:r[j]?=some (k,p):=by simpa using e
  have d:x.1≠k:=λz=>nd.1 (by rw[z];exact xbt.mpr ⟨_,xbn b,rfl⟩)
  rw[xld,xck (by simpa using d),zjo nd.2 b]
def zsj{α β:Type}(f:α->β):∀(l:List α) (j:Nat),(l.map f).eraseIdx j=(l.eraseIdx j).map f
 |[],_=>rfl
 |_::_,0=>rfl
 |x::l,j+1=>by rw[xbr,xld,xld,xbr,zsj f l j]
section
variable {κ:Type}[DecidableEq κ]
section
variable {prog:Program}{w:World}{knd:HeapKind prog w κ}{A:Around}{E:Value->Shared->Prop}{s:Shared}{d:Addr}{a:Addr}{k:κ}{xs:List (κ×Addr×Value)}{p:Addr×Value}
def zzg{W:Option DictEntry->Shared->Prop}(y:knd.room A)(b:knd.is s.heap k a)(H:s.heap.DictOfH knd d xs)(n:atKey xs k=some p)(P:xs.length<=sizeLine)
  (v:∀e m,e.val=p.2->m.DictOfH knd d (xs.filter λx=>decide (x.1≠k))->Heap.SameBut d s.heap m->W (some e) {s with heap:=m,toks:=s.toks+knd.draws k}):
  wpAny (model prog w) A (Builtin.Dict.takeOut d (.ref a)) W E s:=by
 obtain⟨o,C,J,f,Q,c,i,g,h⟩:=H;unfold Builtin.Dict.takeOut;refine xeq ?_;refine xba (knd.pyHash y b ?_);refine xba (wpAny_dictFind_heap (s:={s with toks:=s.toks+knd.draws k}) y b f c i g h (λz=>?_) λj q r=>?_)
 ·rw[atKey_none_of_get z] at n;cases n
 ·have I:q=p:=by
   have z:=atKey_of_get h r;rw[n] at z;exact(xda z).symm
  subst I;refine xba (xjl (s:={s with toks:=s.toks+knd.draws k}) f c ?_);rw[entry_at i j,r];have u:C.size<=sizeLine:=by have:=size_of_entries i;lia
  refine xba (wpAny_updateDictKeys (hz:=u) (s:={s with toks:=s.toks+knd.draws k}) f c (xbe (v _ _ rfl ⟨_,_,J+1,xfl _ f (Obj.isFreed_of_dict (Obj.data_mapDictKeys c _)),Q.mapDictKeys _,Obj.data_mapDictKeys c _,?_,λx G=>?_,?_⟩ (xew ..))))
  ·rw[←zjo h r];obtain⟨l⟩:=C;have t:l=xs.map (entryOfKey knd):=i;subst t;simp[zsj]
  ·exact knd.keeps (g x (xcp.mp G).1) f c (xew ..)
  ·exact List.Sublist.nodup (List.Sublist.map (λx:κ×Addr×Value=>x.1) xiq) h
end
def zbgc{b:HeapKind prog w κ}{A:Around}{s:Shared}{W:Value->Shared->Prop}(C:b.room A.in1)(f:b.is s.heap k a)(h:s.heap.DictOfH b d xs)(m:atKey xs k=some p)(j:xs.length<=sizeLine)
  (l:∀c,c.DictOfH b d (xs.filter λx=>decide (x.1≠k))->Heap.SameBut d s.heap c->W p.2 {s with heap:=c,toks:=s.toks+b.draws k}):
  wpAny (model prog w) A (call (.builtin "dict.pop") [.ref d,.ref a]) W E s:=by
 have M:MeetsIn prog w (Builtin.«dict.pop» ⟨[.ref d,.ref a],[]⟩) (λB R g=>B=A/\g=s/\∀c,c.DictOfH b d (xs.filter λx=>decide (x.1≠k))->Heap.SameBut d s.heap c->R (.ok (.ret p.2)) {s with heap:=c,toks:=s.toks+b.draws k}):=
  .of_wp λB R g i=>by
   obtain⟨y,J,q⟩:=i;subst y J;unfold Builtin.«dict.pop» Builtin.Dict.keyAndDefault;refine xba (xba (wpAny_notOrdered_dict h.typeIs (xbe ?_)));obtain⟨o,I,T,t,U,u,H,P,S⟩:=id h;have G:I.isEmpty=false:=by
    have:=size_of_entries H;cases xs with
    |nil=>cases m
    |cons x r=>
     rw[xbv] at this;rw[Array.isEmpty_eq_false_iff];intro z;rw[z] at this;simp at this
   simp only[keyPart,Option.isSome_none,xdx,xeu];refine xba (xjl t u (xba (xbe ?_)));rw[G];simp only[xdx,xeu];refine xba (zzg C f h m j λe c v Q n=>?_);simp only[Option.isNone_some,xdx,xeu];exact xba (wpAny_letGo (xbe ⟨e.val,rfl,by rw[v];exact q c Q n⟩))
 exact xml xjn h.typeIs F.entry_dict_pop (F.args_dict_pop_2 _ _) M ⟨rfl,rfl,l⟩
end
def KT.drop(r:KT H kvs xs)(k:List Key):KT H (dropK kvs k) (xs.filter λx=>decide (x.1≠k)):=by
 unfold dropK
 induction r with
 |nil=>exact .nil
 |@cons p q ps qs h t ih=>
  by_cases e:p.1=k
  ·rw[xco (by simp[e]),xco (by simp[←h.1,e])];exact ih
  ·rw[xck (by simp[e]),xck (by simp[←h.1,e])];exact .cons h ih
def zbvj{X:Cx}{k:List Key}(A:X.A.units+1<cLine)(I:Inv X aU σ H s)(e:H a=some (.dT kvs))(u:H b=some (.tup (k.map kV)))(l:valV kvs k=some v)
  (h:∀ w' n,Inv X aU σ (upd H a (.dT (dropK kvs k))) n->RelV v w'->Q w' n):wpAny (model X.prog X.w) X.A (call (.builtin "dict.pop") [.ref a,.ref b]) Q E s:=by
 obtain⟨z,S,m,d,T⟩:=zbxd I.hok e;obtain⟨w',f,i⟩:=RelO.some_of (v:=v) (o:=(atKey m k).map (·.2)) (by rw[←l];exact d.val k);cases hp:atKey m k with
 |none=>rw[hp] at f;cases f
 |some p=>
  rw[hp] at f;have g:p.2=w':=xda f;subst g;refine zbgc (xje A) (ztv I.hok u) T hp (by rw[←xiv d];exact z) λU j x=>h _ _ ?_ i
  obtain⟨q,G,J,r,C,w,P,_,y⟩:=j;refine zog I (by rw[e];exact True.intro) x ⟨q,r⟩ ⟨xbc (xfy _ _) z,S,_,(d.drop k).keeps λc Y t=>?_,q,G,J,r,C,w,P,y⟩;rw[zw (zbwy t e (λz=>nomatch z))];exact t
def tDPopT(e d:TE):TE:=λσ H Q=>e σ H λx H1=>∃a,x=.ref a/\IsD H1 a/\d σ H1 λy H2=>∃c k v b,H2 a=some (.dT c)/\y=.ref b/\H2 b=some (.tup (k.map kV))/\valV c k=some v/\Q v (upd H2 a (.dT (dropK c k)))
def zbgi{X:Cx}(J:X.A.units + 1<cLine)(w:PE X o td)(P:PE X e ty)(m:M1 X o "pop" apos e cpos):PE X (.Call (.Attribute o "pop" apos) [e] [] cpos) (tDPopT td ty):=by
 intro g s σ H Q I h;refine wpAny_Call_method m.base m.few m.line xis xjn F.type_dict_pop (thn (w g s σ H _ I h) λu U c=>?_);obtain⟨x,H1,i,j,a,C,d,Y⟩:=c;subst C;obtain rfl:u=Value.ref a:=j;obtain⟨t,G,_⟩:=zboy i d;refine⟨t,G,?_⟩;rw[m.trees];refine xjg rfl (xma (xiy (thn (P g U σ H1 _ i Y) λq s2 ⟨y,H2,S,z,T,k,v,b,A,r,n,l,E⟩=>xlf ?_)));subst r;cases(show q=Value.ref b from z);exact zbvj J S A n l λw' s3 p f=>⟨v,_,p,f,E⟩
def rCatA(K:Fg):R2:=λx y H Q=>∃a b c d,x=.ref a/\y=.ref b/\SqT K H a c/\SqT K H b d/\c.length+d.length<=sizeLine /\
 (c=[]->Q (.ref b) H)/\(c≠[]->d=[]->Q (.ref a) H)/\(c≠[]->d≠[]->∀p,H p=none->Q (.ref p) (upd H p (.tup (c++d))))
def zbnm:OpR X (binaryOp .Add) (rCatA X.K):=by
 intro J s σ H x y v u Q I l r h;obtain⟨a,b,m,S,rfl,rfl,t,p,hz,q0,q1,T⟩:=h;by_cases hx:m=[]
 ·cases l;cases r;obtain⟨c,G,p1,_⟩:=I.tuple t;obtain⟨i,r2,E,_⟩:=I.tuple p;obtain⟨⟨P,dd,w,U⟩,q,A,n,C⟩:=id p1;obtain⟨⟨o,j,data2,k⟩,g,f,Y,d⟩:=id E;simp only at A C f d;subst A C f d;have e:c=[]:=G.nil_iff.mpr hx;exact concat_meets ⟨_,q,rfl⟩ ⟨_,g,rfl⟩ noFill_tuple_add seq_tuple_add xln xkz (xko _ _)
   (tuple_addW0 a b c.toArray i.toArray n Y dd j U k (by simp[e])) ⟨q,g,⟨.ref b,H,I,rfl,q0 hx⟩⟩
 ·exact zbnl J s σ H _ _ v u Q I l r ⟨a,b,m,S,rfl,rfl,t,p,hx,hz,λz=>q1 hx z,λz=>T hx z⟩
def zbbu{s:Shared}{lo b:Option Int}{W:Value->Shared->Prop}(a:IsTup s.heap t its)(h:s.heap.IsSliceOf sl vl vu .none)(j:IsPart vl lo)(k:IsPart vu b)
  (l:HT.sIx its.size 0 lo=0)(i:HT.sIx its.size its.size b=its.size)(g:W (.ref t) s):wpAny (model prog w) A (getItem (.ref t) (.ref sl)) W E s:=by
 obtain⟨os,f,e,m⟩:=id h;unfold getItem
 try with_reducible refine xeq ?_
 first|refine xba (xbe ?_)|skip
 refine xba (xnm a.typeIs (by decide) ?_);refine xba (wpAny_callSpecial?_slot (name:=Str.ofString "__getitem__") a.typeIs xkv (xei xkv a.typeIs entry_tuple_getitem ?_ (args_tuple_getitem _ _)))
 show wpAny _ _ (Builtin.Tuple.tupleItemsOf (.ref t) >>= _) _ _ s;refine xba (tupleItemsOf_ a ?_);have d:s.TypeIs (.ref sl) "slice":=⟨os,f,e⟩
 refine xba (xmk d ?_);rw[if_pos (by decide)];refine xba (HT.zew h j k ?_);have c:(((HT.sIx its.size 0 lo:Nat):Int)==0&&(1:Int)==1&&(HT.sIx its.size its.size b-HT.sIx its.size 0 lo)==its.size)=true:=by
  rw[l,i];simp
 show wpAny _ _ (if(((HT.sIx its.size 0 lo:Nat):Int)==0&&(1:Int)==1&&(HT.sIx its.size its.size b-HT.sIx its.size 0 lo)==its.size)=true then _ else _) _ _ s;rw[if_pos c];refine xba (?_:wpAny _ _ (Builtin.Tuple.tupleIsExact (.ref t)) _ _ s);unfold Builtin.Tuple.tupleIsExact;refine xba (xmk a.typeIs (xbe ?_));rw[if_pos (by decide)];exact xba (xik (xbe ⟨_,rfl,xbe g⟩))
def rSlA(K:Fg):V->Option Int->Option Int->Hp->VK->Prop:=λx lo c H Q=>∃a b,x=.ref a/\SqT K H a b/\(cutV b lo c=b->Q (.ref a) H)/\∀p,H p=none->Q (.ref p) (upd H p (.tup (cutV b lo c)))
def zblt:SlR X (rSlA X.K):=by
 intro p s σ H x v o m lo j n Q I e k g i h;obtain⟨a,c,rfl,f,q,t⟩:=h;by_cases hw:HT.sIx c.length 0 lo=0/\HT.sIx c.length c.length j=c.length
 ·cases e;obtain⟨d,r,l,u⟩:=I.tuple f;have b:d.toArray.size=c.length:=by rw[xbw];exact r.length.symm
  refine⟨"tuple",_,xkv.lookup,l.typeIs,?_⟩
  refine zbbu l k g i (by rw[b];exact hw.1) (by rw[b];exact hw.2) ⟨.ref a,H,I,rfl,q ?_⟩;unfold cutV;rw[hw.1,hw.2];simp
 ·exact zbrz p s σ H _ v o m lo j n Q I e k g i ⟨a,c,rfl,f,hw,t⟩
def zkn(a:List Int):∀k,k<=a.length->preSum (λi=>a.getD i 0) k=(a.take k).sum
 |0,_=>rfl
 |k+1,h=>by
  show preSum (λi=>a.getD i 0) k+a.getD k 0=_;rw[zkn a k (by lia),xin (by lia),xes,xbh,xbf (by lia)];simp
def zww:∀{a:List Int}{b:List Value}{i:Nat}{v:Value},Vals (a.map V.int) b->b[i]?=some v->∃t,v=.int (a.getD i 0) t
 |[],_,_,_,.nil,e=>by simp at e
 |n::a,_,0,_,.cons r _,e=>by
  simp at e;subst e
  obtain⟨t,rfl⟩:=r;exact⟨t,rfl⟩
 |n::a,_,i+1,v,.cons _ t,e=>by
  have:=zww (i:=i) t (by simpa using e)
  simpa using this
def rSum(K:Fg):List V->Hp->VK->Prop:=λc H Q=>∃(a:Addr) (b:List Int),c=[.ref a]/\(SqL K H a (b.map V.int)\/SqT K H a (b.map V.int))/\Q (.int b.sum) H
def zmt{X:Cx}(hc:X.calm=true):CallR X (.builtin "sum") (rSum X.K):=by
 intro aU s σ H xs us Q I r h;obtain⟨a,ns,rfl,hs,q⟩:=h;obtain⟨u,rfl,ru⟩:=vals1 r;cases ru;have key:∀{its:List Value}(h':Heap) (tk:Nat) (t':Tok) (nn:Nat),nn=ns.length->(∀b o,b≠s.heap.objs.size->s.heap.get? b=some o->h'.get? b=some o) ->
   EP X aU σ Q (.int (preSum (λi=>ns.getD i 0) nn) t') {s with heap:=h',toks:=tk}:=λh' tk t' nn hn hk=>by
  subst hn;rw[zkn ns _ (xbl _),xcb];exact⟨.int ns.sum,H,I.kept (t':=tk) λb o e=>hk b o (xci (xbx e)) e,⟨_,rfl⟩,q⟩
 refine call_sum_walkG ?_;rcases hs with hs|hs
 ·obtain⟨its,rv,pl,hz⟩:=I.list hs;have hlt:a<s.heap.objs.size:=by obtain⟨o,n,e,_⟩:=pl;exact xbx e
  have hl:=rv.length;rw[xbb] at hl;refine xll pl.isList ?_;refine⟨s.heap.objs.size,_,[s.heap.objs.size],_,_,_,λi=>ns.getD i 0,rfl,Walks.list (A:=X.A.in1) (I.ok.hd hc) _ a (xci hlt) its.toArray,⟨⟨_,xbz _ rfl,rfl,rfl⟩,pl.isList.push _⟩,?_,λi v e=>zww rv (by simpa using e),λh' tk t' hk=>?_⟩
  ·intro b hb;show b<(s.heap.push _).objs.size;rw[show ∀o:Obj,(s.heap.push o).objs.size=s.heap.objs.size+1 from λo=>by simp[Heap.push]];rcases xbm.mp hb with rfl|hb
   ·exact xjx _
   ·rcases xbm.mp hb with rfl|hb
    ·exact xig hlt
    ·cases hb
  ·exact key (its:=its) h' tk t' _ (by simp[hl]) λb o hb e=>hk b o (by simpa using hb) (xbg _ e)
 ·obtain⟨its,rv,pl,hz⟩:=I.tuple hs;have hlt:a<s.heap.objs.size:=pl.lt;have hl:=rv.length;rw[xbb] at hl;have pt:s.heap.IsTuple a its.toArray:=pl;refine xhw pt ?_;refine⟨s.heap.objs.size,_,[s.heap.objs.size],_,_,_,λi=>ns.getD i 0,rfl,Walks.tuple (A:=X.A.in1) (I.ok.hd hc) _ a (xci hlt) its.toArray,⟨⟨_,xbz _ rfl,rfl,rfl⟩,pt.push _⟩,?_,λi v e=>zww rv (by simpa using e),λh' tk t' hk=>?_⟩
  ·intro b hb;show b<(s.heap.push _).objs.size;rw[show ∀o:Obj,(s.heap.push o).objs.size=s.heap.objs.size+1 from λo=>by simp[Heap.push]];rcases xbm.mp hb with rfl|hb
   ·exact xjx _
   ·rcases xbm.mp hb with rfl|hb
    ·exact xig hlt
    ·cases hb
  ·exact key (its:=its) h' tk t' _ (by simp[hl]) λb o hb e=>hk b o (by simpa using hb) (xbg _ e)
def zjc{A:Around}{s:Shared}(h:A.handled=none)(g:s.heap.IsTupleIter it t i)(p:s.heap.IsTuple t items)
  (r:∀x,items[i]?=some x->∀a,a.IsTupleIter it t (i+1)->Heap.SameBut it s.heap a->Q x {s with heap:=a})
  (j:items[i]?=none->∀ a e,Heap.ExtBut it s.heap a->(∃ o,a.get? e=some o/\o.cls=.type "StopIteration")->E (.ref e) { s with heap:=a }):wpAny (model prog w) A (Builtin.SmallTypes.nextOf (.ref it)) Q E s:=by
 rcases g with⟨o,b,f,c⟩
 rcases p with⟨u,k,_,n,m⟩
 refine xba (wpAny_callSpecial?_slot (name:=Str.ofString "__next__") ⟨o,b,f⟩ F.slot_tuple_iterator_next (xei F.slot_tuple_iterator_next ⟨o,b,f⟩ F.entry_tuple_iterator_next ?_ (F.args_tuple_iterator_next_1 _)))
 have q:(#[Value.ref t,.int i 0]:Array Value)[0]?=some (.ref t):=rfl;have l:(#[Value.ref t,.int i 0]:Array Value)[1]?=some (.int i 0):=rfl
 wp_walk using xgt b c q,xgt b c l,xky k m
 rw[xfj];cases hx:items[i]? with
 |some x=>
  exact xba (xim b c (by simp) (xbe ⟨x,rfl,xbe (r x hx _ ⟨_,xfl _ b (xhz (xgw c _)),(xlh ..).trans f,by rw[xgw c];simp[rawInt]⟩ (.update ..))⟩))
 |none=>
  have d:A.in1.handled=none:=h
  wp_walk using xim b c (by simp)
  unfold raiseNew;refine xba (wpAny_handled ?_);rw[d];exact xba (xbe (wpAny_throw (j hx _ _ ((xew ..).extBut.push _ |>.push _) ⟨_,xbz _ rfl,rfl⟩)))
def draws1{A:Around}(p:A.handled=none)(f t:Addr)(l:t≠f)(c:Array Value):
  Draws prog w A f [f,t] (c.size+1) (λj v=>∃i,j=i+1/\c[i]?=some v) (λj h=>∃i,j=i+1/\h.IsTupleIter f t i/\h.IsTuple t c) where
 live:=λ_ _ ⟨_,_,⟨o,r,_⟩,_⟩=>⟨o,r⟩
 frame:=λ_ _ _ ⟨i,e,a,b⟩ n=>⟨i,e,a.at λo e=>n f (by simp) o e,b.at λo e=>n t (by simp) o e⟩
 item:=λj s Q E G m y=>by
  obtain⟨i,e,a,b⟩:=m;have C:i<c.size:=by lia
  refine zjc p a b (λx k q d g=>?_) λz=>absurd z (by simp;lia)
  exact y _ q s.toks ⟨i,e,k⟩ ⟨i+1,by lia,d,b.extBut g.extBut l⟩ g
 done:=λs Q E ⟨i,e,a,b⟩ u=>zjc p a b (λx k=>absurd k (by rw[xhn (by lia)];simp)) λ_=>u
def draws0{A:Around}(g:A.handled=none)(d t:Addr)(c:Array Value)(i:Nat)(n:c.size<=i):
  Draws prog w A d [d,t] (i+1) (λ_ _=>False) (λj h=>j=i+1/\h.IsTupleIter d t i/\h.IsTuple t c) where
 live:=λ_ _ ⟨_,⟨o,l,_⟩,_⟩=>⟨o,l⟩
 frame:=λ_ _ _ ⟨e,a,b⟩ f=>⟨e,a.at λo e=>f d (by simp) o e,b.at λo e=>f t (by simp) o e⟩
 item:=λj s Q E p ⟨e,_⟩ _=>absurd e (by lia)
 done:=λs Q E ⟨_,a,b⟩ k=>zjc g a b (λx m=>absurd m (by rw[xhn n];simp)) λ_=>k
def Inv.turned2{h':Heap}(I:Inv X g σ H s)(k:∀b o,b≠e->b≠it->s.heap.get? b=some o->h'.get? b=some o)(l:H it=none)(i:it≠X.env.locals)
  (E:it∈X.ex\/X.s₀.heap.objs.size<=it)(P:∀x c,X.env.cells.lookup x=some c->c≠it)(j:∀p∈X.pn++g,p.1≠it)(G:H e=none)(h:e≠X.env.locals)
  (J:e∈X.ex\/X.s₀.heap.objs.size<=e)(t:∀x c,X.env.cells.lookup x=some c->c≠e)(C:∀p∈X.pn++g,p.1≠e):Inv X g σ H {s with heap:=h',toks:=t'}:=by
 have f:∀b u,H b=some u->b≠it:=λb u e z=>by rw[z,l] at e;cases e
 have d:∀b u,H b=some u->b≠e:=λb u q z=>by rw[z,G] at q;cases q
 refine I.step (g':=s.gens) (d':=s.drawn) (ch:=[e,it]) (λb w=>?_) (λb o _ _ a e _=>k b o (λz=>a (by simp[z])) (λz=>a (by simp[z])) e) (λb o _ _ a e _=>⟨o.slots,k b o (λz=>a (by simp[z])) (λz=>a (by simp[z])) e⟩) (λ_ _ _ _ n=>n)
  (λb o a e=>⟨o,k b o (λz=>a (by simp[z])) (λz=>a (by simp[z])) e⟩) (λ_ _ e=>e) (λ_ _ _ e=>e) (λb U e=>⟨#[],by rw[e];simp⟩) (λm Q=>?_) (λb u e=>?_) I.bare
 ·rcases xbm.mp w with z|z
  ·subst z;exact⟨J,h,t,C⟩
  ·have A:b=it:=by simpa using z
   subst A;exact⟨E,i,P,j⟩
 ·obtain⟨o,S,T,y,r⟩:=Q;exact⟨o,S,T,k _ o (xdn h) (xdn i) y,r⟩
 ·refine(I.hok b u e).stay (λc v a q=>k c v ?_ ?_ q) (λ_ q=>q) λ_ _ q=>q
  ·rcases a with z|z
   ·rw[z];exact d b u e
   ·exact d c _ z
  ·rcases a with z|z
   ·rw[z];exact f b u e
   ·exact f c _ z
def Ite(K:Fg) (a:Addr):It:=
 ⟨λi H=>∃b x,SqT K H a b/\b[i]?=some x,λi H y c=>∃p,H p=none/\y=.ref p/\∀b x,SqT K H a b->b[i]?=some x->c=upd H p (.tup [.int ((i+1:Nat):Int),x]),λi H=>∃b,SqT K H a b/\b.length<=i⟩
def zul{P:Program}{w:World}{K:Fg}{a1:List Expr}{k:Nat}{a0:Pos}(e it a:Addr)(S:e≠it):
  Turn P w K (.Tuple a1 k a0) (Ite K a) [e,it] e (λi h=>(∃f,IsEnum h e it ((i+1:Nat):Int) f)/\h.IsTupleIter it a i) where
 mem:=by simp
 obj:=λi h m b hb=>by
  obtain⟨⟨f,l⟩,o,e',c,d⟩:=m;rcases xbm.mp hb with rfl|hb
  ·exact⟨_,l,λv z=>by
    have z':Data.fields _=Data.cell v:=z
    cases z'⟩
  ·have:b=it:=by simpa using hb
   subst this;exact⟨o,e',λv z=>by rw[d] at z;cases z⟩
 keep:=λi h h' m k=>⟨let ⟨f,l⟩:=m.1;⟨f,k e (by simp) _ l⟩,m.2.at λo z=>k it (by simp) o z⟩
 item:=by
  intro X U hw hK hc i aU s σ H E I hf m hg;subst U hw hK;obtain⟨xs,x,hq,hx⟩:=hg;obtain⟨⟨f,l⟩,j⟩:=m;obtain⟨g,rv,p,hz⟩:=I.tuple hq;have ht:s.heap.IsTuple a g.toArray:=p;obtain⟨u,hu,ru⟩:=rv.get hx;have a5:a≠e:=λz=>by
   obtain⟨o,t,n,_⟩:=ht;rw[z,l] at t;cases t;simp at n
  have a4:a≠it:=λz=>by
   obtain⟨o,t,n,_⟩:=ht;obtain⟨o',C,Y,_⟩:=j;rw[z,C] at t;cases t;rw[Y] at n;simp at n
  have hi:i<g.length:=(xbd.mp hu).1;have D:=draws1 (prog:=X.prog) (w:=X.w) (A:=X.A.in1) (I.ok.hd hc) it a a4 g.toArray;refine wpAny_pyNext_enum_itemD D (i:=i+1) l ⟨i,rfl,j,ht⟩ (by simp;lia) S (by simp;exact⟨S,λz=>a5 z.symm⟩) λJ h' r U t a6 hT b0 hk=>?_
  obtain⟨i',e1,e2⟩:=U;cases(show i'=i by lia);have eu:J=u:=by
   rw[xha,hu] at e2;exact(xda e2).symm
  subst eu;refine⟨_,rfl,wpAny_letOwnedTupleGo_enum t λh2 a9 G=>?_⟩;obtain⟨f0,f1,f2,f3,f4,f5⟩:=hf e (by simp);obtain⟨g0,g1,g2,g3,g4,g5⟩:=hf it (by simp);have T:e<s.heap.objs.size:=xbx l;have a3:it<s.heap.objs.size:=by obtain⟨o',C,_⟩:=j;exact xbx C
  have I1:Inv X aU σ (upd H s.heap.objs.size (.tup [.int ((i + 1:Nat):Int),x])) { s with heap:=s.heap.push { cls:=.type "tuple",data:=.seq #[.int ((i + 1:Nat):Int) r,J] },toks:=s.toks }:=
   I.laid (λ_ _ q=>xbg _ q) (xbl _) ⟨by simp;decide,[.int ((i+1:Nat):Int) r,J],.cons ⟨r,rfl⟩ (.cons ru .nil),⟨_,xbz _ rfl,rfl,_,rfl⟩⟩
  have T2:h2.get? s.heap.objs.size=some { cls:=.type "tuple",data:=.seq #[.int ((i + 1:Nat):Int) r,J] }:=(G.2 _ (xhq T)).trans hT
  have I2:Inv X aU σ (upd H s.heap.objs.size (.tup [.int ((i+1:Nat):Int),x])) {s with heap:=h2,toks:=r+1}:=by
   refine Inv.turned2 (s:={ s with heap:=s.heap.push { cls:=.type "tuple",data:=.seq #[.int ((i + 1:Nat):Int) r,J] },toks:=s.toks }) (h':=h2) (t':=r + 1) (e:=e) (it:=it) I1 (λb o a2 a7 q=>?_) (by rw[zw (xci a3)]; exact g0) g1 g3 g4 g5 (by rw[zw (xci T)]; exact f0) f1 f3 f4 f5
   have q':(s.heap.push { cls:=.type "tuple",data:=.seq #[.int ((i + 1:Nat):Int) r,J] }).get? b=some o:=q
   rcases Heap.get?_push_cases q' with⟨z,z2⟩|z
   ·rw[z,z2];exact T2
   ·exact(G.2 _ a2).trans (hk b o a2 a7 z)
  refine⟨.ref s.heap.objs.size,_,I2,rfl,⟨s.heap.objs.size,I.fresh,rfl,λys y hy e'=>?_⟩,⟨⟨J,?_⟩,?_⟩,λb hb=>?_⟩
  ·rw[I.tuple_inj hy hq,hx] at e';cases e'
   rfl
  ·have:(((i+1+1:Nat)):Int)=(((i+1:Nat)):Int)+1:=by push_cast;rfl
   rw[this];exact a9
  ·obtain⟨i',e3,e4,_⟩:=a6;cases(show i'=i+1 by lia);exact e4.at λo q=>(G.2 it (xdn S)).trans q
  ·rcases xbm.mp hb with rfl|hb
   ·rw[zw (xci T)];exact f0
   ·have:b=it:=by simpa using hb
    subst this;rw[zw (xci a3)];exact g0
 done:=by
  intro X U hw hK hc i aU s σ H E I hf m hg;subst U hw hK;obtain⟨xs,hq,hx⟩:=hg;obtain⟨⟨f,l⟩,j⟩:=m;obtain⟨g,rv,p,hz⟩:=I.tuple hq;have ht:s.heap.IsTuple a g.toArray:=p;have hl:=rv.length;obtain⟨g0,g1,g2,g3,g4,g5⟩:=hf it (by simp);have D:=draws0 (prog:=X.prog) (w:=X.w) (A:=X.A.in1) (I.ok.hd hc) it a g.toArray i (by simp;lia);exact wpAny_pyNext_enum_endD D l ⟨rfl,j,ht⟩ λh' a8=>⟨rfl,I.turned (t':=s.toks) (λb o hb e=>a8 b o hb e) g0 g1 g3 g4 g5⟩
 self:=λA i s Q E m h=>let ⟨f,l⟩:=m.1;wpAny_pyIter_enum l h
def zbbi(a:Addr)(e:Array Value)(n:Obj)(t:Tok):
  Meets (Builtin.«enumerate.__new__» ⟨[.type "enumerate",.ref a],[(Str.ofString "start",.int 1 t)]⟩) (λ_ R s=>s.heap.get? a=some n/\s.heap.IsTuple a e /\
   R (.ok (.ret (.ref (s.heap.objs.size+1))))
    { s with heap:=(s.heap.push { cls:=.type "tuple_iterator",data:=.fields #[.ref a,.int 0 0] }).push { cls:=.type "enumerate",data:=.fields #[.none,.bool false,.ref s.heap.objs.size,rawInt 1,.none,.none] } }):=by
 refine Meets.of_wp ?_;rintro m w A R ⟨l,g,d,o,os⟩ ⟨h,k,i⟩;have j:=sub_enumerate;have f:(l.push { cls:=.type "tuple_iterator",data:=.fields #[.ref a,.int 0 0] }).objs.size=l.objs.size + 1:=xhb ..
 rw[←f] at i
 wp_walk using xkr h
 refine wpAny_stack_any λ_=>xbe ?_
 split
 ·rename_i c _ _ _ _ _;generalize (c==Value.type "enumerate")=b
  cases b<;>(wp_walk using xkr h,xhw k;exact⟨_,rfl,i⟩)
 ·wp_walk using xkr h,xhw k
  exact⟨_,rfl,i⟩
def zbpa{T e:String}{b a:Value}{c:List Value}{k:Str×Value}{g:List (Str×Value)}(h:typeLookup (.type T) "__init__"=pure (some (.builtin "object.__init__")))(l:Bind.madeBy (.type T)=pure (some e))
  (j:(some e != some "object.__new__")=true):Meets (Builtin.«object.__init__» ⟨b::a::c,k::g⟩) (λ_ R s=>s.TypeIs b T/\R (.ok (.ret .none)) s):=
 .of_wp λ_ _ _ _ _ d=>by
  obtain⟨i,f⟩:=d
  repeat any_goals first|assumption|wp_step
  exact⟨_,rfl,f⟩
def zbha(a:Value)(t:Tok):checkBuiltinCall "enumerate.__new__" ⟨[.type "enumerate",a],[(Str.ofString "start",.int 1 t)]⟩=pure ():=by kernel_rfl
def zbgu(o a:Value)(t:Tok):argsOk "object.__init__" ⟨[o,a],[(Str.ofString "start",.int 1 t)]⟩:=by kernel_rfl
def zxx{f:Program}{w:World}{A:Around}{E:Value->Shared->Prop}{s:Shared}{a:Addr}{d:Array Value}{t:Tok}{Q:Value->Shared->Prop}(m:s.heap.IsTuple a d)
  (h:∀l,IsEnum l (s.heap.objs.size+1) s.heap.objs.size 1 .none->l.IsTupleIter s.heap.objs.size a 0->(∀b o,s.heap.get? b=some o->l.get? b=some o)->Q (.ref (s.heap.objs.size+1)) {s with heap:=l}):
  wpAny (model f w) A (call (.type "enumerate") [.ref a] [(Str.ofString "start",.int 1 t)]) Q E s:=by
 rcases id m with⟨u,k,_⟩
 have g:=F.called_enumerate;rcases g.mro with⟨c,I,J⟩
 have v:=g.made;have H:=g.sub;have C:=g.notType;have P:=g.canCreate;have z:=g.init.lookup;have i:(s.heap.push { cls:=.type "tuple_iterator",data:=.fields #[.ref a,.int 0 0] }).objs.size=s.heap.objs.size + 1:=xhb ..
 have n:IsEnum ((s.heap.push { cls:=.type "tuple_iterator",data:=.fields #[.ref a,.int 0 0] }).push { cls:=.type "enumerate",data:=.fields #[.none,.bool false,.ref s.heap.objs.size,rawInt 1,.none,.none] }) (s.heap.objs.size + 1) s.heap.objs.size 1 .none:=by
  rw[←i];exact xbz _ rfl
 have done:=h _ n ⟨_,xbg _ (xbz _ rfl),rfl,rfl⟩ λb o x=>xbg _ (xbg _ x)
 refine wpAny_call (codeAny_of_tree (xbe ⟨Code.quiet_builtin _ (by decide +kernel),xkk F.entry_type_call ?_⟩));rw[Around.under_plain (weight_type_call_type _ _ _) (units_type_call_type _ _ _)]
 repeat any_goals first|assumption|wp_step
 refine xjr (xmm g.plain F.entry_enumerate_new (wpAny_of_eq (zbha _ t) (zbbi a d u t f w A.in1 (wants (λx p=>p.TypeIs x "enumerate"/\Q x p) E) s ⟨k,m,⟨_,n,rfl⟩,done⟩))) ?_
 clear done n i h m k;rintro(e|_|_|_|x) p j
 case ok.ret=>
  obtain⟨T,q⟩:=j;have G:=g.init.bind x
  repeat any_goals first|assumption|wp_step
  refine xjr (xmm g.init.plain F.entry_object_init (g.init.check _ _ _ _ _ _ _ _ T (zbgu _ _ t) (zbpa z v (by decide) f w A.in1 (wants (λy r=>y=.none/\Q x r) E) _ ⟨T,rfl,q⟩))) ?_;rintro(e|_|_|_|y) r j
  case ok.ret=>
   obtain⟨rfl,q⟩:=j
   repeat any_goals first|assumption|wp_step
  all_goals first|exact j|exact j.elim
 all_goals first|exact j|exact j.elim
def cw_kw{M:Model}{T:String}{b:List (Bool×Sem Value)}{c:List (Option Str×Sem Value)}(e:b.any (·.1)=false)(f:c.any (·.1.isNone)=false)
  (h:wpAny M A (evalArgs (.type T) true b c) (λa d=>wpAny M A (call (.type T) (first++a.pos) a.kw) Q E d) E s):wpAny M A (callWith pos (.type T) first b c) Q E s:=by
 unfold callWith;refine xba (xeq (xey h ?_ λ_ _=>id));intro a d k;rw[e,f];exact xba (xnd (xba (xbe (xba (xey k (λ_ _ q=>xba (xeq (wpAny_point (xbe q)))) λ_ _=>id)))))
def iEnum1(K:Fg) (b:TE):TI:=λσ H R=>b σ H λx H1=>∃a,x=.ref a/\(∃c,SqT K H1 a c)/\R (Ite K a) H1
def zbge(P:Gl X "enumerate")(G:X.mg "enumerate"=none)(S:PE X l tl)
  (o:starEach [l] X.env=[(false,eval l X.env)]:=by rfl):
  PI X (.Tuple elts k tpos) (.Call (.Name "enumerate" p) [l] [⟨some "start",.Constant (.int 1) j cpos,kpos⟩] pos) (iEnum1 X.K tl):=by
 intro A s σ H R I h;refine xku (zpv I P G PyProof.Rows.boot_enumerate ?_);refine cw_kw (by rw[o];rfl) rfl ?_;rw[o];refine evalArgs_kwB rfl ?_;refine xiy (thn (S A s σ H _ I h) λv c g=>?_);obtain⟨x,H1,m,w,Q⟩:=g;refine xlf ?_;refine kws_cons ?_;refine wpAny_Constant_int (kws_nil ?_);obtain⟨a,rfl,⟨T,J⟩,q⟩:=Q;cases w;have r:=m.tok (c.toks+1);obtain⟨t,U,y,Y⟩:=r.tuple J;refine zxx (show _ from y) λn e f E=>?_
 refine wpAny_pyIter_enum e ?_;have u:=r.kept (h':=n) (t':=c.toks+1) E;refine⟨c.heap.objs.size+1,[c.heap.objs.size+1,c.heap.objs.size],_,_,H1,rfl,u,zul _ c.heap.objs.size a (Nat.succ_ne_self _),⟨⟨_,e⟩,f⟩,λb C=>?_,q⟩;have d:c.heap.objs.size<=b:=by
  have i:b=c.heap.objs.size+1\/b=c.heap.objs.size:=by simpa using C
  cases i with
  |inl z=>exact z ▸ xlp _
  |inr z=>exact z ▸ xbl _
 exact m.fpOk d (m.hok.fresh d)
noncomputable def bestI(b:Bool) (n:Int) (a:List Int):Int:=a.foldl (λi j=>if(if b then decide (j > i) else decide (j<i))=true then j else i) n
def zqk:∀(ns:List Int) (n:Int),bestI true n ns∈n::ns/\∀a∈n::ns,a<=bestI true n ns
 |[],n=>⟨by simp[bestI],by simp[bestI]⟩
 |m::ns,n=>by
  have e:bestI true n (m::ns)=bestI true (if m > n then m else n) ns:=by simp[bestI]
  obtain⟨d,b⟩:=zqk ns (if m > n then m else n);rw[e];refine⟨?_,λa ha=>?_⟩
  ·rcases xbm.mp d with z|z
   ·rw[z];split<;>simp
   ·simp[z]
  ·have c:=b _ xby;rcases xbm.mp ha with rfl|ha
   ·refine xmc ?_ c;split<;>lia
   ·rcases xbm.mp ha with rfl|ha
    ·refine xmc ?_ c;split<;>lia
    ·exact b a (xbi _ ha)
def zye{ns:List Int}(c:k=ns.length):(n::ns).getD (argBest (λi j=>decide ((n::ns).getD i 0 >(n::ns).getD j 0)) k) 0=bestI true n ns:=by
 subst c;obtain⟨m,h⟩:=argBest_gt (λi=>(n::ns).getD i 0) ns.length;obtain⟨g,l⟩:=zqk ns n;have b:argBest (λi j=>decide ((n::ns).getD i 0 >(n::ns).getD j 0)) ns.length<(n::ns).length:=by rw[xbv];lia
 obtain⟨j,a,f⟩:=xev g;have d:=h j (by simp at a;lia);have o:=l ((n::ns).getD (argBest (λi j=>decide ((n::ns).getD i 0 >(n::ns).getD j 0)) ns.length) 0) (by rw[xbh,xbf b];exact xed b);have e:(n::ns).getD j 0=bestI true n ns:=by rw[xbh,xbf a,f];rfl
 rw[e] at d;lia
section
def Inv.turnedL{h:List (Addr×Obj)}{σ:St}{H:Hp}{s:Shared}{h':Heap}{t':Nat}{ch:List Addr}(I:Inv X h σ H s)(k:∀b o,b∉ch->s.heap.get? b=some o->h'.get? b=some o)(g:∀b∈ch,FpOk X h H b):Inv X h σ H {s with heap:=h',toks:=t'}:=by
 have d:∀b u,H b=some u->b∉ch:=λb u e z=>by have:=(g b z).1;rw[e] at this;cases this
 have f:X.env.locals∉ch:=λz=>(g _ z).2.1 rfl
 refine I.step (g':=s.gens) (d':=s.drawn) (ch:=ch) (λb i=>?_) (λb o _ _ a e _=>k b o a e) (λb o _ _ a e _=>⟨o.slots,k b o a e⟩) (λ_ _ _ _ n=>n)
  (λb o a e=>⟨o,k b o a e⟩) (λ_ _ e=>e) (λ_ _ _ e=>e) (λb C e=>⟨#[],by rw[e];simp⟩) (λm w=>?_) (λb u e=>?_) I.bare
 ·obtain⟨G,t,E,p,y,A⟩:=g b i;exact⟨p,t,y,A⟩
 ·obtain⟨o,x,l,j,r⟩:=w;exact⟨o,x,l,k _ o f j,r⟩
 ·refine(I.hok b u e).stay (λc v a q=>k c v ?_ q) (λ_ q=>q) λ_ _ q=>q
  rcases a with z|z
  ·rw[z];exact d b u e
  ·exact d c _ z
end
structure ZRec (z TI TO i1 i2 t1 t2:Addr):Prop where
 nd:[z,TI,TO,i1,i2].Nodup
 o1:t1∉[z,TI,TO,i1,i2]
 o2:t2∉[z,TI,TO,i1,i2]
structure ZAt (h:Heap) (z TI TO i1 i2 t1 t2:Addr) (f0:Value) (j:Nat):Prop where
 zip:IsZip h z TI TO f0
 its:IsPair h TI (.ref i1) (.ref i2)
 out:∃a b,IsPair h TO a b
 it1:h.IsTupleIter i1 t1 j
 it2:h.IsTupleIter i2 t2 j
def zbci(a b c d e x:Addr)(h:[a,b,c,d,e].Nodup):a≠b/\a≠c/\a≠d/\a≠e/\b≠c/\b≠d/\b≠e/\c≠d/\c≠e/\d≠e:=by
 simp at h;obtain⟨⟨j,p,o,l⟩,⟨k,i,m⟩,⟨g,n⟩,f⟩:=h;exact⟨j,p,o,l,k,i,m,g,n,f⟩
section
variable {prog:Program}{w:World}{A:Around}{E:Value->Shared->Prop}{s:Shared}{z:Addr}{TI:Addr}{TO:Addr}{i1:Addr}{i2:Addr}{t1:Addr}{t2:Addr}{xs:Array Value}{ys:Array Value}{j:Nat}
def zbeu{Q:Fin->Shared->Prop}(hh:A.handled=none)(R:ZRec z TI TO i1 i2 t1 t2)(Z:ZAt s.heap z TI TO i1 i2 t1 t2 .none j)(hx:s.heap.IsTuple t1 xs)(hy:s.heap.IsTuple t2 ys)
  (hQ:∀x y,xs[j]?=some x->ys[j]?=some y->∀g,ZAt g z TI TO i1 i2 t1 t2 (rawInt s.heap.objs.size) (j+1)->IsPair g s.heap.objs.size x y->g.objs.size=s.heap.objs.size+1 ->
   (∀c o,c∉[z,TO,i1,i2]->s.heap.get? c=some o->g.get? c=some o)->Q (.done (.ret (.ref s.heap.objs.size))) {s with heap:=g})
  (hE:xs[j]?=none\/ys[j]?=none->∀ g e,(∀ c o,c∉[z,TO,i1,i2]->s.heap.get? c=some o->g.get? c=some o)->(∃ o,g.get? e=some o/\o.cls=.type "StopIteration")->E (.ref e) { s with heap:=g }):wpAny (model prog w) A (Builtin.«zip.__next__» ⟨[.ref z],[]⟩) Q E s:=by
 obtain⟨n1,P,H,n4,n5,n6,n7,n8,n9,S⟩:=zbci z TI TO i1 i2 0 R.nd;have a1:=R.o1;have a2:=R.o2;simp only[xbm,xgf,xkw,not_or] at a1 a2;obtain⟨p1,p2,p3,p4,p5⟩:=a1;obtain⟨q1,q2,q3,q4,q5⟩:=a2;obtain⟨T,hI,⟨a,b,hO⟩,k1,k2⟩:=Z;refine(?_:wpAny _ _ (field (.ref z) 2 >>= _) Q E s);refine xba (xgt T rfl (x:=.bool false) rfl (?_:wpAny _ _ (field (.ref z) 3 >>= _) _ _ _));refine xba (xgt T rfl (x:=.ref TI) rfl (xba (xky hI rfl (?_:wpAny _ _ (Builtin.SmallTypes.ownedTupleIsFree (.ref z) >>= _) _ _ _))));refine xba (m:=Builtin.SmallTypes.ownedTupleIsFree (.ref z)) (show wpAny _ _ (field (.ref z) 0 >>= _) _ _ _ from xba (xgt T rfl (x:=.none) rfl (xbe ?_)));simp only[xgb];refine xba (xik (xba (xgt T rfl (x:=.ref TO) rfl (xba (xjf T (by simp) λg1 b2 n=>?_)))));have k:IsZip g1 z TI TO .ellipsis:=b2;simp only[xod,List.zipIdx_cons,List.forIn_nil,List.zipIdx_nil];refine xba (xba (xba (wpAny_onRaise (?_:wpAny _ _ (Builtin.SmallTypes.nextOf (.ref i1) >>= _) _ _ _))));refine xba (zjc hh (s:={s with heap:=g1}) (k1.extBut n.extBut (xdn H)) (hx.extBut n.extBut p1) (λx v g2 k3 p=>xbe ?_) λv g2 ee G he=>?_)
 ·have U:IsPair g2 TO a b:=p.extBut _ _ n8 (n.extBut _ _ (xdn P) hO);refine xba (xky U rfl (xba (wpAny_updateSeq_pair (s:={s with heap:=g2}) U λg3 a6 i=>xba (wpAny_letGo (xbe ?_)))));have I:IsPair g3 TO x b:=a6;refine xba (xba (wpAny_onRaise (?_:wpAny _ _ (Builtin.SmallTypes.nextOf (.ref i2) >>= _) _ _ _)));refine xba (zjc hh (s:={s with heap:=g3}) (((k2.extBut n.extBut (xdn n4)).extBut p.extBut (xdn S)).extBut i.extBut (xdn n9)) (((hy.extBut n.extBut q1).extBut p.extBut q4).extBut i.extBut q3) (λy C g4 k4 e4=>xbe ?_) λC g4 ee G he=>?_)
  ·have J:IsPair g4 TO x b:=e4.extBut _ _ n9 I;refine xba (xky J rfl (xba (wpAny_updateSeq_pair (s:={s with heap:=g4}) J λf a5 u=>xba (wpAny_letGo (xbe (xbe ?_))))));have t:IsPair f TO x y:=a5;refine xba (xky t rfl (xba (wpAny_newTuple ?_)));have sz:f.objs.size=s.heap.objs.size:=by rw[u.1,e4.1,i.1,p.1,n.1]
   have a0:IsZip f z TI TO .ellipsis:=u.extBut _ _ P (e4.extBut _ _ n4 (i.extBut _ _ P (p.extBut _ _ H k)));have kp:∀c o,c∉[z,TO,i1,i2]->s.heap.get? c=some o->f.get? c=some o:=λc o d e=>by
    simp only[xbm,xgf,xkw,not_or] at d;exact u.extBut _ _ d.2.1 (e4.extBut _ _ d.2.2.2 (i.extBut _ _ d.2.1 (p.extBut _ _ d.2.2.1 (n.extBut _ _ d.1 e))))
   have m1:f.IsTupleIter i1 t1 (j+1):=((k3.extBut i.extBut (xdn n8)).extBut e4.extBut S).extBut u.extBut (xdn n8);have m2:f.IsTupleIter i2 t2 (j+1):=k4.extBut u.extBut (xdn n9);have lz:z<f.objs.size:=xbx a0;have a8:IsZip (f.push { cls:=.type "tuple",data:=.seq #[x,y] }) z TI TO .ellipsis:=xbg _ a0
   refine xba (m:=Builtin.SmallTypes.ownedTupleHandOut (.ref z) (.ref f.objs.size)) (xba (xjf a8 (by simp) λg7 a7 e7=>?_));have X:IsZip g7 z TI TO (rawInt f.objs.size):=a7;refine xjf X (by simp) λY b1 e8=>xbe ?_
   have r:IsZip Y z TI TO (rawInt f.objs.size):=b1;have up:∀c o,c≠z->f.get? c=some o->Y.get? c=some o:=λc o d e=>e8.extBut _ _ d (e7.extBut _ _ d (xbg _ e))
   have hT:IsPair Y f.objs.size x y:=e8.extBut _ _ (xhq lz) (e7.extBut _ _ (xhq lz) (xbz _ rfl));have s8:Y.objs.size=f.objs.size+1:=by rw[e8.1,e7.1,xhb]
   rw[sz] at r hT s8;have b0:IsPair f TI (.ref i1) (.ref i2):=kp _ _ (by simp[xdn n1,n5,n6,n7]) hI;have a9:=hQ x y v C Y ⟨r,up _ _ (xdn n1) b0,⟨x,y,up _ _ (xdn P) t⟩,m1.at λo e=>up _ o (xdn H) e,m2.at λo e=>up _ o (xdn n4) e⟩ hT s8 λc o d e=>up c o (λq=>d (by simp[q])) (kp c o d e)
   show Q (.done (.ret (.ref f.objs.size))) _;rw[sz];exact a9
  ·obtain⟨oe,h,l⟩:=he;have a3:IsZip g4 z TI TO .ellipsis:=G _ _ n4 (i.extBut _ _ P (p.extBut _ _ H k));have nz:ee≠z:=λq=>by rw[q,a3] at h;cases h;simp at l
   refine xjf a3 (by simp) λf _ u=>hE (.inr C) f ee (λc o d e=>?_) ⟨oe,u.extBut _ _ nz h,l⟩
   simp only[xbm,xgf,xkw,not_or] at d;exact u.extBut _ _ d.1 (G _ _ d.2.2.2 (i.extBut _ _ d.2.1 (p.extBut _ _ d.2.2.1 (n.extBut _ _ d.1 e))))
 ·obtain⟨oe,h,l⟩:=he;have a4:IsZip g2 z TI TO .ellipsis:=G _ _ H k;have nz:ee≠z:=λq=>by rw[q,a4] at h;cases h;simp at l
  refine xjf a4 (by simp) λg3 _ i=>hE (.inl v) g3 ee (λc o d e=>?_) ⟨oe,i.extBut _ _ nz h,l⟩
  simp only[xbm,xgf,xkw,not_or] at d;exact i.extBut _ _ d.1 (G _ _ d.2.2.1 (n.extBut _ _ d.1 e))
end
section
variable {prog:Program}{w:World}{A:Around}{E:Value->Shared->Prop}{s:Shared}{z:Addr}{TI:Addr}{TO:Addr}{i1:Addr}{i2:Addr}{t1:Addr}{t2:Addr}{xs:Array Value}{ys:Array Value}{j:Nat}
def zuc{Q:Option Value->Shared->Prop}(d:A.handled=none)(R:ZRec z TI TO i1 i2 t1 t2)(Z:ZAt s.heap z TI TO i1 i2 t1 t2 .none j)(i:s.heap.IsTuple t1 xs)(n:s.heap.IsTuple t2 ys)
  (v:∀x y,xs[j]?=some x->ys[j]?=some y->∀g,ZAt g z TI TO i1 i2 t1 t2 (rawInt s.heap.objs.size) (j+1)->IsPair g s.heap.objs.size x y->g.objs.size=s.heap.objs.size+1 ->
   (∀c o,c∉[z,TO,i1,i2]->s.heap.get? c=some o->g.get? c=some o)->Q (some (.ref s.heap.objs.size)) {s with heap:=g})
  (f:xs[j]?=none\/ys[j]?=none->∀g,(∀c o,c∉[z,TO,i1,i2]->s.heap.get? c=some o->g.get? c=some o)->Q none {s with heap:=g}):wpAny (model prog w) A (pyNext (.ref z)) Q E s:=by
 have T:s.TypeIs (.ref z) "zip":=⟨_,Z.zip,rfl⟩
 unfold pyNext;refine xba (xkd (wpAny_callSpecial?_slot (name:=Str.ofString "__next__") T F.slot_zip_next (xei F.slot_zip_next T F.entry_zip_next (zbeu d R Z i n (λx y a p g u t l m=>⟨_,rfl,xbe (v x y a p g u t l m)⟩) λa g e k q=>?_) (F.args_zip_next_1 _))))
 obtain⟨o,h,r⟩:=q;exact xba (xlu (T:="StopIteration") (b:=true) ⟨o,h,r⟩ isSubtype_stop (xbe (f a g k)))
end
def Itz(K:Fg) (a b:Addr):It:=
 ⟨λi H=>∃c d x y,SqT K H a c/\SqT K H b d/\c[i]?=some x/\d[i]?=some y,
  λi H u e=>∃p,H p=none/\u=.ref p/\∀c d x y,SqT K H a c->SqT K H b d->c[i]?=some x->d[i]?=some y->e=upd H p (.tup [x,y]),
  λi H=>∃c d,SqT K H a c/\SqT K H b d/\(c.length<=i\/d.length<=i)⟩
def zbfd{P:Program}{w:World}{K:Fg}{a3:List Expr}{k:Nat}{a2:Pos}{z TI TO j i2 a b:Addr}(R:ZRec z TI TO j i2 a b):
  Turn P w K (.Tuple a3 k a2) (Itz K a b) [z,TI,TO,j,i2] z (λi h=>ZAt h z TI TO j i2 a b .none i) where
 mem:=by simp
 obj:=λi h f c hc=>by
  obtain⟨u,v,J⟩:=f.out;obtain⟨o1,e1,_,d1⟩:=f.it1;obtain⟨o2,l,_,d2⟩:=f.it2;have d:c=z\/c=TI\/c=TO\/c=j\/c=i2:=by simpa using hc
  rcases d with rfl|rfl|rfl|rfl|rfl
  ·exact⟨_,f.zip,λv q=>by cases(show Data.fields _=Data.cell v from q)⟩
  ·exact⟨_,f.its,λv q=>by cases(show Data.seq _ _=Data.cell v from q)⟩
  ·exact⟨_,J,λv q=>by cases(show Data.seq _ _=Data.cell v from q)⟩
  ·exact⟨o1,e1,λv q=>by rw[d1] at q;cases q⟩
  ·exact⟨o2,l,λv q=>by rw[d2] at q;cases q⟩
 keep:=λi h h' f Y=>by
  obtain⟨u,v,J⟩:=f.out;exact⟨Y z (by simp) _ f.zip,Y TI (by simp) _ f.its,⟨u,v,Y TO (by simp) _ J⟩,f.it1.at λo e=>Y j (by simp) o e,f.it2.at λo e=>Y i2 (by simp) o e⟩
 item:=by
  intro X hP hw hK hc i aU s σ H E I hf f hg;subst hP hw hK;obtain⟨xs,ys,x,y,t,r,hx,hy⟩:=hg;obtain⟨p,C,p1,a9⟩:=I.tuple t;obtain⟨n,G,p2,a8⟩:=I.tuple r;obtain⟨u1,a5,b2⟩:=C.get hx;obtain⟨u2,a4,b1⟩:=G.get hy;refine zuc (I.ok.hd hc) R f (show s.heap.IsTuple a p.toArray from p1) (show s.heap.IsTuple b n.toArray from p2) (λT S e1 l g Z hT b3 kp=>?_) λe=>?_
  ·have f1:T=u1:=by rw[xha,a5] at e1;exact(xda e1).symm
   have f2:S=u2:=by rw[xha,a4] at l;exact(xda l).symm
   subst f1 f2;refine⟨_,rfl,wpAny_letOwnedTupleGo_zip Z.zip λg2 a7 U=>?_⟩;have a1:∀c∈[z,TI,TO,j,i2],c<s.heap.objs.size:=λc d=>by
    obtain⟨uu,vv,J⟩:=f.out;obtain⟨o1,e1,_⟩:=f.it1;obtain⟨o2,l,_⟩:=f.it2;have a6:c=z\/c=TI\/c=TO\/c=j\/c=i2:=by simpa using d
    rcases a6 with rfl|rfl|rfl|rfl|rfl
    ·exact xbx f.zip
    ·exact xbx f.its
    ·exact xbx J
    ·exact xbx e1
    ·exact xbx l
   have b0:=a1 z (by simp);have I1:Inv X aU σ (upd H s.heap.objs.size (.tup [x,y])) { s with heap:=s.heap.push { cls:=.type "tuple",data:=.seq #[T,S] },toks:=s.toks }:=
    I.laid (λ_ _ q=>xbg _ q) (xbl _) ⟨by simp;decide,[T,S],.cons b2 (.cons b1 .nil),⟨_,xbz _ rfl,rfl,_,rfl⟩⟩
   have a0:∀c∈[z,TI,TO,j,i2],FpOk X aU (upd H s.heap.objs.size (.tup [x,y])) c:=λc d=>by
    obtain⟨f0,fr⟩:=hf c d;exact⟨by rw[zw (xci (a1 c d))];exact f0,fr⟩
   have I2:Inv X aU σ (upd H s.heap.objs.size (.tup [x,y])) {s with heap:=g2,toks:=s.toks}:=by
    refine Inv.turnedL (s:={ s with heap:=s.heap.push { cls:=.type "tuple",data:=.seq #[T,S] },toks:=s.toks }) (h':=g2) (t':=s.toks) (ch:=[z,TI,TO,j,i2]) I1 (λc o d q=>?_) a0
    have q':(s.heap.push { cls:=.type "tuple",data:=.seq #[T,S] }).get? c=some o:=q
    have cz:c≠z:=λe=>d (by simp[e])
    rcases Heap.get?_push_cases q' with⟨e1,l⟩|e1
    ·rw[e1,l];exact U.extBut _ _ (xhq b0) hT
    ·exact U.extBut _ _ cz (kp c o (λm=>d (by simp at m ⊢;rcases m with m|m|m|m<;>simp[m])) e1)
   obtain⟨d1,d2,d3,d4,_⟩:=zbci z TI TO j i2 0 R.nd;obtain⟨uu,vv,J⟩:=Z.out;refine⟨.ref s.heap.objs.size,_,I2,rfl,⟨s.heap.objs.size,I.fresh,rfl,λas bs x' y' ha hb ex ey=>?_⟩,⟨a7,U.extBut _ _ (xdn d1) Z.its,⟨uu,vv,U.extBut _ _ (xdn d2) J⟩,Z.it1.extBut U.extBut (xdn d3),Z.it2.extBut U.extBut (xdn d4)⟩,λc d=>(a0 c d).1⟩;rw[I.tuple_inj ha t,hx] at ex;rw[I.tuple_inj hb r,hy] at ey;cases ex;cases ey
   rfl
  ·rcases e with e|e
   ·rw[xha,a5] at e;cases e
   ·rw[xha,a4] at e;cases e
 done:=by
  intro X hP hw hK hc i aU s σ H E I hf f hg;subst hP hw hK;obtain⟨xs,ys,t,r,hl⟩:=hg;obtain⟨p,C,p1,a9⟩:=I.tuple t;obtain⟨n,G,p2,a8⟩:=I.tuple r;have l1:=C.length;have l2:=G.length;refine zuc (I.ok.hd hc) R f (show s.heap.IsTuple a p.toArray from p1) (show s.heap.IsTuple b n.toArray from p2) (λT S e1 l g Z hT b3 kp=>?_) λ_ g kp=>⟨rfl,I.turnedL (t':=s.toks) (ch:=[z,TI,TO,j,i2]) (λc o d e=>kp c o (λm=>d (by simp at m ⊢;rcases m with m|m|m|m<;>simp[m])) e) hf⟩
  rw[xha] at e1 l;have g1:=(xbd.mp e1).1;have g2:=(xbd.mp l).1;lia
 self:=λA i s Q E f h=>wpAny_pyIter_zip f.zip h
noncomputable abbrev tupIt(l:Addr):Obj:={ cls:=.type "tuple_iterator",data:=.fields #[.ref l,.int 0 0] }
noncomputable abbrev two(a b:Value):Obj:={ cls:=.type "tuple",data:=.seq #[a,b] }
noncomputable abbrev zipOb(a b:Addr):Obj:={ cls:=.type "zip",data:=.fields #[.none,.bool false,.bool false,.ref a,.ref b] }
abbrev lay1(h:Heap) (a:Addr):Heap:=h.push (tupIt a)
abbrev lay2(h:Heap) (b a:Addr):Heap:=(lay1 h b).push (tupIt a)
abbrev lay3(h:Heap) (a b:Addr):Heap:=(lay2 h a b).push (two (.ref h.objs.size) (.ref (lay1 h a).objs.size))
abbrev lay4(h:Heap) (b a:Addr):Heap:=(lay3 h b a).push (two .none .none)
abbrev lay5(h:Heap) (b a:Addr):Heap:=(lay4 h b a).push (zipOb (lay2 h b a).objs.size (lay3 h b a).objs.size)
def zbev(a b:Addr)(xs ys:Array Value):
  Meets (Builtin.«zip.__new__» ⟨[.type "zip",.ref a,.ref b],[]⟩) (λ_ R s=>s.heap.IsTuple a xs/\s.heap.IsTuple b ys/\R (.ok (.ret (.ref (lay4 s.heap a b).objs.size))) { s with heap:=lay5 s.heap a b }):=
 .of_wp λi w A R s h=>by
  obtain⟨f,g,d,j,os⟩:=s;obtain⟨l,k,h⟩:=h;have sub:=sub_zip;have e:Heap.IsTuple (Shared.heap ⟨f,g,d,j,os⟩) a xs:=l;have c:Heap.IsTuple (Shared.heap ⟨f.push (tupIt a),g,d,j,os⟩) b ys:=k.push _
  wp_walk using xhw e,xhw c
  exact⟨_,rfl,h⟩
def zvd{n b a:Nat}(d:b<n)(e:a<n):ZRec (n+4) (n+2) (n+3) n (n+1) b a/\∀c∈[n+4,n+2,n+3,n,n+1],n<=c:=
 have q:∀{l},l<n->l∉[n+4,n+2,n+3,n,n+1]:=λ{l} h m=>by
  simp only[xbm,xgf,xkw] at m;lia
 ⟨⟨by simp,q d,q e⟩,λc f=>by simp at f;lia⟩
def zbbz{s:Shared}(r:s.heap.IsTuple l1 xs)(n:s.heap.IsTuple l2 ys)
  (h:∀g z TI TO l m,ZRec z TI TO l m l1 l2->ZAt g z TI TO l m l1 l2 .none 0->(∀c∈[z,TI,TO,l,m],s.heap.objs.size<=c) ->
   (∀ c o,s.heap.get? c=some o->g.get? c=some o)->Q (.ref z) { s with heap:=g }):wpAny (model prog w) A (call (.type "zip") [.ref l1,.ref l2]) Q E s:=by
 have b:l1<s.heap.objs.size:=by obtain⟨_,e,_⟩:=r;exact xbx e
 have a:l2<s.heap.objs.size:=by obtain⟨_,e,_⟩:=n;exact xbx e
 refine callType_new F.called_zip (by decide) (F.typeCall_zip_2 _ _) (F.newCall_zip_2 _ _) (λj=>F.args_object_init_3 j _ _) F.entry_zip_new (zbev l1 l2 xs ys) ⟨r,n,?_⟩;have k:(lay1 s.heap l1).objs.size=s.heap.objs.size+1:=xhb ..
 have d:(lay2 s.heap l1 l2).objs.size=s.heap.objs.size+2:=(xhb ..).trans (by rw[k]);have f:(lay3 s.heap l1 l2).objs.size=s.heap.objs.size+3:=(xhb ..).trans (by rw[d]);have q:(lay4 s.heap l1 l2).objs.size=s.heap.objs.size+4:=(xhb ..).trans (by rw[f]);have p:(lay5 s.heap l1 l2).get? (lay4 s.heap l1 l2).objs.size=some _:=xbz _ rfl;have x:(lay5 s.heap l1 l2).get? (lay3 s.heap l1 l2).objs.size=some _:=xbg _ (xbz _ rfl);have u:(lay5 s.heap l1 l2).get? (lay2 s.heap l1 l2).objs.size=some _:=xbg _ (xbg _ (xbz _ rfl));have v:(lay5 s.heap l1 l2).get? (lay1 s.heap l1).objs.size=some _:=xbg _ (xbg _ (xbg _ (xbz _ rfl)));have t:(lay5 s.heap l1 l2).get? s.heap.objs.size=some _:=xbg _ (xbg _ (xbg _ (xbg _ (xbz _ rfl))));have i:=h (lay5 s.heap l1 l2) (lay4 s.heap l1 l2).objs.size (lay2 s.heap l1 l2).objs.size (lay3 s.heap l1 l2).objs.size s.heap.objs.size (lay1 s.heap l1).objs.size
  (by rw[q,f,d,k];exact(zvd b a).1) ⟨p,u,⟨_,_,x⟩,⟨_,t,rfl,rfl⟩,⟨_,v,rfl,rfl⟩⟩
  (by rw[q,f,d,k];exact(zvd b a).2) λc o e=>xbg _ (xbg _ (xbg _ (xbg _ (xbg _ e))))
 exact⟨⟨_,p,rfl⟩,i⟩
def iZip(K:Fg) (d:TA):TI:=λσ H R=>d σ H λe H1=>∃a b,e=[.ref a,.ref b]/\(∃c,SqT K H1 a c)/\(∃c,SqT K H1 b c)/\R (Itz K a b) H1
section
def zbsu{j:List Expr}{k:Nat}{i p d:Pos}{a b:Expr}{u:TA}(hg:Gl X "zip")(Y:X.mg "zip"=none)(P:PA X [a,b] u)
  (A:starEach [a,b] X.env=[(false,eval a X.env),(false,eval b X.env)]:=by rfl)(l:starEach [b] X.env=[(false,eval b X.env)]:=by rfl):
  PI X (.Tuple j k i) (.Call (.Name "zip" p) [a,b] [] d) (iZip X.K u):=by
 intro y s σ H R I h;refine Call_ (zpv I hg Y PyProof.Rows.boot_zip (xhr (thn (P d y s σ H _ I h) λus r ⟨vs,H1,m,x,q1⟩=>?_) (by rw[A,l]) (by rw[l];rfl)));obtain⟨a,b,e,⟨xs,G⟩,⟨ys,Q⟩,q⟩:=q1;subst e;obtain⟨u1,u2,rfl,e1,J⟩:=vals2 x;cases e1;cases J;obtain⟨n,C,p1,T⟩:=m.tuple G;obtain⟨o,U,w,S⟩:=m.tuple Q;refine zbbz (show r.heap.IsTuple a n.toArray from p1) (show r.heap.IsTuple b o.toArray from w) λg z TI TO E i2 R Z f v=>?_
 refine wpAny_pyIter_zip Z.zip ?_;exact⟨z,[z,TI,TO,E,i2],_,_,H1,rfl,m.kept (t':=r.toks) v,zbfd R,Z,λc t=>m.fpOk (f c t) (m.hok.fresh (f c t)),q⟩
end
end L2
namespace Dd
open L2
set_option genInjectivity true in
inductive D where
 |non|bl (b:Bool)|int (i:Int)|str (x:Str)|ty (n:String)|ref (n:Nat)|tup (ds:List D)|lst (ds:List D)|scr (ds:List D)|exn (c:Str) (l:List Int)
set_option genInjectivity true in
inductive O where
 /-- a list that may change;a dict by tuples of ints;one that is only read;gone -/
 |lst (xs:List D)|dT (kvs:List (List Int×D))|fT (kvs:List (List Int×D))|dead
 /-- a dict by ints -/
 |dI (kvs:List (Int×D))
 /-- a dict by tuples of tuples of ints,each True -/
 |dP (ks:List (List (List Int)))
 /-- the law's table of codes -/
 |tab
noncomputable abbrev Store:=List O
structure Exc where
 cls:Str
 at_:List Int
set_option genInjectivity true in
inductive Res (α:Type) where
 |ok (a:α) (au:Store)|exc (x:Exc) (au:Store)|stuck
def Res.bind{α β:Type}:Res α->(α->Store->Res β)->Res β
 |.ok a au,f=>f a au
 |.exc x au,_=>.exc x au
 |.stuck,_=>.stuck
@[simp] theorem zbf {α β:Type}(a:α) (au:Store) (f:α->Store->Res β):(Res.ok a au).bind f=f a au:=rfl
@[simp] theorem zbvz {α β:Type}(x:Exc) (au:Store) (f:α->Store->Res β):(Res.exc x au:Res α).bind f=.exc x au:=rfl
@[simp] theorem zbqy {α β:Type}(f:α->Store->Res β):(Res.stuck:Res α).bind f=.stuck:=rfl
def za{α β:Type}{r:Res α}{f:α->Store->Res β}{b:β}{st':Store}(h:r.bind f=.ok b st'):∃a c,r=.ok a c/\f a c=.ok b st':=by
 cases r with
 |ok a c=>exact⟨a,c,rfl,h⟩
 |exc x c=>cases h
 |stuck=>cases h
noncomputable abbrev DS:=List (Option D)
abbrev SE:=DS->Store->Res D
abbrev ST:=DS->Store->Res Bool
abbrev SA:=DS->Store->Res (List D)
set_option genInjectivity true in
inductive Fl where
 |nx (σ:DS)|ret (v:D)|brk (σ:DS)|ct (σ:DS)
abbrev SS:=DS->Store->Res Fl
abbrev DFn:=List D->Store->Res D
structure Loc where
 m:List (Option Addr)
 g:List Addr
def Out(ρ:Loc) (a:Addr):Prop:=some a∉ρ.m/\a∉ρ.g
def Ls(K:Fg) (ρ:Loc) (H:Hp) (a:Addr) (b:List V):Prop:=(Rd H a (.lst b)/\Out ρ a)\/∀c:Hp,SqL K c a b
def XAt(K:Fg) (ρ:Loc) (H:Hp) (c:Str) (l:List Int) (a:Addr):Prop:=∃C o,W.nsIn K mainGlobals c=some (some (.ref C))/\(H a=some (.frz o (.ext λ_=>True))/\Out ρ a)/\o.cls=.ref C/\(∃d,o.data=.fields d/\d[2]?=some .none) /\
 ((l=[]/\o.dict=none)\/∃ i b e,l=[i]/\o.dict=some b/\H b=some (.frz e (.xd [("at",.int i)]))/\Out ρ b)
def XAt.map{K:Fg}(h:XAt K ρ H c l a)(f:∀b k u,H b=some (.frz k u)->Out ρ b->H' b=some (.frz k u)/\Out ρ' b):XAt K ρ' H' c l a:=by
 obtain⟨C,o,n,j,r,p,d⟩:=h;refine⟨C,o,n,f _ _ _ j.1 j.2,r,p,?_⟩;rcases d with d|⟨i,s,t,m,q,e,g⟩
 ·exact .inl d
 ·exact .inr ⟨i,s,t,m,q,(f _ _ _ e g).1,(f _ _ _ e g).2⟩
mutual
inductive At (K:Fg) (ρ:Loc) (H:Hp):D->V->Prop
 |non:At K ρ H .non .non
 |bl (b:Bool):At K ρ H (.bl b) (.bl b)
 |int (i:Int):At K ρ H (.int i) (.int i)
 |str (x:Str):At K ρ H (.str x) (.str x)
 |ty (n:String):At K ρ H (.ty n) (.ty n)
 |ref {n:Nat}{v:V}:n < ρ.m.length->(∀a,ρ.m[n]?=some (some a)->v=.ref a)->At K ρ H (.ref n) v
 |tup {a:Addr}{ds:List D}{vs:List V}:H a=some (.tup vs)->Out ρ a->AtAll K ρ H ds vs->At K ρ H (.tup ds) (.ref a)
 |lst {a:Addr}{ds:List D}{vs:List V}:H a=some (.lst vs)->Out ρ a->AtAll K ρ H ds vs->At K ρ H (.lst ds) (.ref a)
 |scr {a:Addr}{ds:List D}{vs:List V}:Ls K ρ H a vs->AtAll K ρ H ds vs->At K ρ H (.scr ds) (.ref a)
 |exn {c:Str}{l:List Int}{a:Addr}:XAt K ρ H c l a->At K ρ H (.exn c l) (.ref a)
inductive AtAll (K:Fg) (ρ:Loc) (H:Hp):List D->List V->Prop
 |nil:AtAll K ρ H [] []
 |cons {d:D}{ds:List D}{v:V}{vs:List V}:At K ρ H d v->AtAll K ρ H ds vs->AtAll K ρ H (d::ds) (v::vs)
end
structure Mv (ρ:Loc) (H:Hp) (ρ':Loc) (H':Hp):Prop where
 out:∀{a o},H a=some o->Out ρ a->H' a=some o/\Out ρ' a
 len:ρ.m.length<=ρ'.m.length
 old:∀(n:Nat) (a:Addr),n < ρ.m.length->ρ'.m[n]?=some (some a)->ρ.m[n]?=some (some a)
def Ls.mv{K:Fg}(x:Mv ρ H ρ' H')(h:Ls K ρ H a vs):Ls K ρ' H' a vs:=by
 rcases h with⟨h|⟨o,h⟩,n⟩|h
 ·exact .inl ⟨.inl (x.out h n).1,(x.out h n).2⟩
 ·exact .inl ⟨.inr ⟨o,(x.out h n).1⟩,(x.out h n).2⟩
 ·exact .inr h
def At.mv{K:Fg}(x:Mv ρ H ρ' H') (h:At K ρ H d v):At K ρ' H' d v:=
 At.rec (motive_1:=λd v _=>At K ρ' H' d v) (motive_2:=λd v _=>AtAll K ρ' H' d v) .non .bl .int .str .ty (λh e=>.ref (xbo h x.len) λa q=>e a (x.old _ a h q)) (λh n _ c=>.tup (x.out h n).1 (x.out h n).2 c) (λh n _ c=>.lst (x.out h n).1 (x.out h n).2 c) (λh _ c=>.scr (h.mv x) c) (λh=>.exn (h.map λ_ _ _ e n=>x.out e n)) .nil (λ_ _ a b=>.cons a b) h
def AtAll.mv{K:Fg}(x:Mv ρ H ρ' H') (h:AtAll K ρ H d v):AtAll K ρ' H' d v:=
 AtAll.rec (motive_1:=λ_ _ _=>True) (motive_2:=λd v _=>AtAll K ρ' H' d v) trivial (λ_=>trivial) (λ_=>trivial) (λ_=>trivial) (λ_=>trivial) (λ_ _=>trivial) (λ_ _ _ _=>trivial) (λ_ _ _ _=>trivial) (λ_ _ _=>trivial) (λ_=>trivial) .nil (λa _ _ b=>.cons (a.mv x) b) h
structure Ext (ρ:Loc) (H:Hp) (ρ':Loc) (H':Hp):Prop where
 len:ρ.m.length<=ρ'.m.length
 old:∀(n:Nat) (a:Addr),n < ρ.m.length->ρ'.m[n]?=some (some a)->ρ.m[n]?=some (some a)
 keep:∀a o,H a=some o->some a∉ρ.m->H' a=some o/\some a∉ρ'.m
 gho:ρ'.g=ρ.g
 frz:∀a ob u,H a=some (.frz ob u)->H' a=some (.frz ob u)
def Ext.out(x:Ext ρ H ρ' H') (h:H a=some o)(n:Out ρ a):H' a=some o/\Out ρ' a:=
 ⟨(x.keep a o h n.1).1,(x.keep a o h n.1).2,by rw[x.gho];exact n.2⟩
def Ext.mv(x:Ext ρ H ρ' H'):Mv ρ H ρ' H':=⟨λh n=>x.out h n,x.len,x.old⟩
def Ls.sq{K:Fg}(h:Ls K ρ H a vs):SqL K H a vs:=by
 rcases h with h|h
 ·exact .inl h.1
 ·exact h H
def Ext.refl(ρ:Loc)(H:Hp):Ext ρ H ρ H:=⟨xbl _,λ_ _ _ e=>e,λ_ _ e n=>⟨e,n⟩,rfl,λ_ _ _ e=>e⟩
def Ext.trans(a:Ext ρ H ρ1 H1)(b:Ext ρ1 H1 ρ2 H2):Ext ρ H ρ2 H2:=
 ⟨xbc a.len b.len,λn c h e=>a.old n c h (b.old n c (xbo h a.len) e),λc o e n=>by
  obtain⟨f,g⟩:=a.keep c o e n
  exact b.keep c o f g,b.gho.trans a.gho,λc d u e=>b.frz c d u (a.frz c d u e)⟩
def At.ext{K:Fg}(x:Ext ρ H ρ' H') (h:At K ρ H d v):At K ρ' H' d v:=h.mv x.mv
def AtAll.ext{K:Fg}(x:Ext ρ H ρ' H') (h:AtAll K ρ H d v):AtAll K ρ' H' d v:=h.mv x.mv
def AtAll.length{K:Fg}:∀{b a},AtAll K ρ H b a->a.length=b.length
 |_,_,.nil=>rfl
 |_,_,.cons _ t=>by rw[xbv,xbv,AtAll.length t]
def AtAll.get{K:Fg}:∀{c:List D}{b:List V}{i:Nat}{d:D},AtAll K ρ H c b->c[i]?=some d->∃v,b[i]?=some v/\At K ρ H d v
 |_,_,_,_,.nil,e=>by simp at e
 |_,_,0,_,.cons a _,e=>by simp at e;subst e;exact⟨_,rfl,a⟩
 |_,_,i+1,d,.cons _ t,e=>by
  obtain⟨u,g,f⟩:=AtAll.get (i:=i) (d:=d) t (by simpa using e);exact⟨u,by simpa using g,f⟩
def AtAll.append{K:Fg}:∀{f d c e},AtAll K ρ H f c->AtAll K ρ H d e->AtAll K ρ H (f++d) (c++e)
 |_,_,_,_,.nil,b=>b
 |_,_,_,_,.cons a t,b=>.cons a (AtAll.append t b)
def AtAll.take{K:Fg}:∀{c:List D}{b:List V}(n:Nat),AtAll K ρ H c b->AtAll K ρ H (c.take n) (b.take n)
 |_,_,0,_=>.nil
 |_,_,_+1,.nil=>.nil
 |_,_,n+1,.cons a t=>.cons a (AtAll.take n t)
def AtAll.drop{K:Fg}:∀{c:List D}{b:List V}(n:Nat),AtAll K ρ H c b->AtAll K ρ H (c.drop n) (b.drop n)
 |_,_,0,h=>h
 |_,_,_+1,.nil=>.nil
 |_,_,n+1,.cons a t=>AtAll.drop n t
def AtAll.set{K:Fg}(a:At K ρ H d v):∀{e:List D}{c:List V}(n:Nat),AtAll K ρ H e c->AtAll K ρ H (e.set n d) (c.set n v)
 |_,_,_,.nil=>.nil
 |_,_,0,.cons _ t=>.cons a t
 |_,_,n+1,.cons b t=>.cons b (AtAll.set a n t)
def KvAt(K:Fg) (ρ:Loc) (H:Hp):List (List Int×D)->List (List Key×V)->Prop:=Paired λp q=>q.1=p.1.map Sum.inl/\At K ρ H p.2 q.2
def KvAt.ext{K:Fg}(x:Ext ρ H ρ' H') (h:KvAt K ρ H a b):KvAt K ρ' H' a b:=Paired.mapP h λp q z=>⟨z.1,z.2.ext x⟩
noncomputable abbrev lamQ:Str:=(("law" : Str)++".<locals>.")++"<lambda>"
def TabOk(H:Hp) (b:Array Value):Prop:=TriplesOk b.toList/\∀a d,codeAmong a b.toList=some d->∃c e f t,d=.ref c/\H c=some (.frz e (.ext λ_=>True))/\e.data=.fields f/\f[1]?=some (.str lamQ t)
def TabOk.map(h:TabOk H ps)(f:∀b d u,H b=some (.frz d u)->H' b=some (.frz d u)):TabOk H' ps:=
 ⟨h.1,λa i e=>by obtain⟨c,k,l,t,m,g,j⟩:=h.2 a i e;exact⟨c,k,l,t,m,f _ _ _ g,j⟩⟩
def KiAt(K:Fg) (ρ:Loc) (H:Hp):List (Int×D)->List (Key×V)->Prop:=Paired λp q=>q.1=Sum.inl p.1/\At K ρ H p.2 q.2
def KiAt.ext{K:Fg}(x:Ext ρ H ρ' H') (h:KiAt K ρ H a b):KiAt K ρ' H' a b:=Paired.mapP h λp q z=>⟨z.1,z.2.ext x⟩
noncomputable def PDict(a:Addr) (c:List DictEntry):Heap->Prop:=λh=>∃o b d,h.get? a=some o/\o.ExactDict/\o.data=.dict b d/\b.toList=c
noncomputable def hashP(k:List (List Int)):Int:=reduceHash (Builtin.Tuple.tupleHashOf (k.map λr=>reduceHash (Builtin.Tuple.tupleHashOf (r.map hashInt))))
noncomputable def nestD(k:List (List Int)):D:=.tup (k.map λr=>.tup (r.map .int))
def KpAt(K:Fg) (ρ:Loc) (H:Hp):List (List (List Int))->List DictEntry->Prop:=Paired λk e=>e.hash=hashP k/\e.val=.bool true/\∃b,e.key=.ref b/\At K ρ H (nestD k) (.ref b)
def KpAt.map{K:Fg}(k:∀d v,At K ρ H d v->At K ρ' H' d v) (h:KpAt K ρ H a b):KpAt K ρ' H' a b:=Paired.mapP h λp q ⟨f,g,c,i,e⟩=>⟨f,g,c,i,k _ _ e⟩
def OAt(K:Fg) (ρ:Loc) (H:Hp):O->Addr->Prop
 |.lst xs,a=>∃b,H a=some (.lst b)/\AtAll K ρ H xs b
 |.dT kvs,a=>∃b,H a=some (.dT b)/\KvAt K ρ H kvs b
 |.fT kvs,a=>∃b f,H a=some (.frz f (.dT b))/\KvAt K ρ H kvs b
 |.dI kvs,a=>∃b,H a=some (.dK b)/\KiAt K ρ H kvs b
 |.dP ks,a=>∃d,H a=some (.ext (PDict a d))/\(a==sysModules)=false/\ks.length<=sizeLine/\ks.Nodup/\KpAt K ρ H ks d
 |.dead,_=>False
 |.tab,a=>(∃ c,W.tabIn K "law"=some (c,a))/\∃ e,H a=some (.tbl e)/\TabOk H e
structure Rep (K:Fg) (ρ:Loc) (au:Store) (H:Hp):Prop where
 len:ρ.m.length=au.length
 inj:∀(n m:Nat) (a:Addr),ρ.m[n]?=some (some a)->ρ.m[m]?=some (some a)->n=m
 obj:∀(n:Nat) (a:Addr) (o:O),ρ.m[n]?=some (some a)->au[n]?=some o->OAt K ρ H o a
 gh:∀a∈ρ.g,(∃vs,H a=some (.lst vs))/\some a∉ρ.m
 live:∀(n:Nat) (o:O),au[n]?=some o->o≠.dead->∃a,ρ.m[n]?=some (some a)
def AtO(K:Fg) (ρ:Loc) (H:Hp) (o:Option D) (v:Option V):Prop:=∀d,o=some d->∃u,v=some u/\At K ρ H d u
abbrev AtS(K:Fg) (ρ:Loc) (H:Hp):DS->St->Prop:=Paired (AtO K ρ H)
def AtS.ext{K:Fg}(x:Ext ρ H ρ' H') (h:AtS K ρ H σ τ):AtS K ρ' H' σ τ:=Paired.mapP h λo v z d e=>by
 obtain⟨u,b,a⟩:=z d e;exact⟨u,b,a.ext x⟩
def AtS.get{K:Fg}:∀{σ:DS}{τ:St}{i:Nat}{d:D},AtS K ρ H σ τ->σ[i]?=some (some d)->∃u,τ[i]?=some (some u)/\At K ρ H d u
 |_,_,_,_,.nil,e=>by simp at e
 |_,_,0,_,.cons a _,e=>by
  simp at e;subst e
  obtain⟨u,c,h⟩:=a _ rfl;exact⟨u,by simp[c],h⟩
 |_,_,i+1,d,.cons _ t,e=>by
  obtain⟨u,f,b⟩:=AtS.get (i:=i) (d:=d) t (by simpa using e);exact⟨u,by simpa using f,b⟩
def AtS.set{K:Fg}(a:At K ρ H d v):∀{σ:DS}{τ:St}(i:Nat),AtS K ρ H σ τ->AtS K ρ H (σ.set i (some d)) (τ.set i (some v))
 |_,_,_,.nil=>.nil
 |_,_,0,.cons _ t=>.cons (λb e=>by cases e;exact⟨v,rfl,a⟩) t
 |_,_,i+1,.cons q t=>.cons q (AtS.set a i t)
def tD(K:Fg) (f:SE):TE:=λτ H Q=>∃ρ σ d v a,AtS K ρ H σ τ/\Rep K ρ d H/\f σ d=.ok v a/\∀c b u,Ext ρ H c b->Rep K c a b->At K c b v u->Q u b
def tDT(K:Fg) (f:ST):TT:=λτ H Q=>∃ρ σ c v a,AtS K ρ H σ τ/\Rep K ρ c H/\f σ c=.ok v a/\∀d b,Ext ρ H d b->Rep K d a b->Q v b
def tDA(K:Fg) (f:SA):TA:=λτ H Q=>∃ρ σ d v a,AtS K ρ H σ τ/\Rep K ρ d H/\f σ d=.ok v a/\∀c b u,Ext ρ H c b->Rep K c a b->AtAll K c b v u->Q u b
def FlOk(K:Fg) (ρ:Loc) (H:Hp) (c:Store) (E:Ends):Fl->Prop
 |.nx σ=>∀b a τ,Ext ρ H b a->Rep K b c a->AtS K b a σ τ->E.nx τ a
 |.brk σ=>∀b a τ,Ext ρ H b a->Rep K b c a->AtS K b a σ τ->E.bk τ a
 |.ct σ=>∀b a τ,Ext ρ H b a->Rep K b c a->AtS K b a σ τ->E.ct τ a
 |.ret v=>∀b a u,Ext ρ H b a->Rep K b c a->At K b a v u->E.rt u a
def FlOk.ext{K:Fg}(x:Ext ρ H ρ1 H1)(h:FlOk K ρ H st' E fl):FlOk K ρ1 H1 st' E fl:=by
 cases fl with
 |nx σ=>exact λb a τ e=>h b a τ (x.trans e)
 |brk σ=>exact λb a τ e=>h b a τ (x.trans e)
 |ct σ=>exact λb a τ e=>h b a τ (x.trans e)
 |ret v=>exact λb a τ e=>h b a τ (x.trans e)
def tDS(K:Fg) (f:SS):TS:=λE τ H=>∃ρ σ b c a,AtS K ρ H σ τ/\Rep K ρ b H/\f σ b=.ok c a/\FlOk K ρ H a E c
abbrev DE(X:Cx) (e:Expr) (f:SE):Prop:=PE X e (tD X.K f)
abbrev DT(X:Cx) (e:Expr) (f:ST):Prop:=PT X e (tDT X.K f)
abbrev DW(X:Cx) (e:Expr) (f:ST):Prop:=PW X e (tDT X.K f)
abbrev DA(X:Cx) (a:List Expr) (f:SA):Prop:=PA X a (tDA X.K f)
abbrev DSt(X:Cx) (s:Stmt) (f:SS):Prop:=PS X s (tDS X.K f)
abbrev DSs(X:Cx) (s:List Stmt) (f:SS):Prop:=PSs X s (tDS X.K f)
def zgj(h:PE X e t)(k:∀σ H Q,t' σ H Q->t σ H Q):PE X e t':=λa s σ H Q I q=>h a s σ H Q I (k _ _ _ q)
def zbko(h:PT X e t)(k:∀σ H Q,t' σ H Q->t σ H Q):PT X e t':=λa s σ H Q I q=>h a s σ H Q I (k _ _ _ q)
def pw_to(h:PW X e t)(k:∀σ H Q,t' σ H Q->t σ H Q):PW X e t':=λb a s σ H Q I q=>h b a s σ H Q I (k _ _ _ q)
def zbwv(h:PA X es t)(k:∀σ H Q,t' σ H Q->t σ H Q):PA X es t':=λa b s σ H Q I q=>h a b s σ H Q I (k _ _ _ q)
def zrl(h:PS X s t)(k:∀E σ H,t' E σ H->t E σ H):PS X s t':=λa z σ H E I q=>h a z σ H E I (k _ _ _ q)
def zbfx(h:PSs X ss t)(k:∀E σ H,t' E σ H->t E σ H):PSs X ss t':=λa z σ H E I q=>h a z σ H E I (k _ _ _ q)
def aA(i:Nat):SE:=λσ a=>match σ[i]? with
 |some (some d)=>.ok d a
 |_=>.stuck
def eC(d:D):SE:=λ_ a=>.ok d a
def zbyo(h:PE X e (tVar i)):DE X e (aA i):=zgj h λτ H Q b=>by
 obtain⟨ρ,σ,k,v,f,a,r,e,q⟩:=b;unfold aA at e;split at e
 ·rename_i d g;cases e;obtain⟨u,j,c⟩:=a.get g;exact⟨u,j,q ρ H u (.refl _ _) r c⟩
 ·cases e
def zbvp(h:PE X e (tC v))(k:∀ρ H,At X.K ρ H d v):DE X e (eC d):=zgj h λτ H Q b=>by
 obtain⟨ρ,σ,f,v,c,a,r,e,q⟩:=b;cases e;exact q ρ H _ (.refl _ _) r (k _ _)
def zbyw{i j pos}:DE X (.Constant (.int i) j pos) (eC (.int i)):=zbvp zbtb λ_ _=>.int i
def d_bl{b j pos}:DE X (.Constant (.bool b) j pos) (eC (.bl b)):=zbvp zbxr λ_ _=>.bl b
def aS(g:D->D->Store->Res D) (f d:SE):SE:=λσ c=>(f σ c).bind λx b=>(d σ b).bind λy a=>g x y a
def eUn(g:D->Store->Res D) (f:SE):SE:=λσ b=>(f σ b).bind λx a=>g x a
def OpD(K:Fg) (g:D->D->Store->Res D) (r:R2):Prop:=
 ∀ρ H d x y u v z a (Q:VK),Rep K ρ d H->At K ρ H x u->At K ρ H y v->g x y d=.ok z a->(∀c b w,Ext ρ H c b->Rep K c a b->At K c b z w->Q w b)->r u v H Q
def zbrk{K:Fg}(A:OpD K g r):∀τ H Q,tD K (aS g f f') τ H Q->tOp r (tD K f) (tD K f') τ H Q:=λτ H Q i=>by
 obtain⟨ρ,σ,o,v,k,a,G,e,q⟩:=i;obtain⟨x,b,J,e⟩:=za e;obtain⟨y,c,p,e⟩:=za e;refine⟨ρ,σ,o,x,b,a,G,J,λn H1 u m j C=>?_⟩;refine⟨n,σ,b,y,c,a.ext m,j,p,λs H2 w l d I=>?_⟩;exact A s H2 c x y u w v k Q d (C.ext l) I e λP t z E h S=>q P t z (m.trans (l.trans E)) h S
def d_op(h:OpR X (binaryOp op) r)(c:OpD X.K g r)(e:DE X a f)(d:DE X b f'):DE X (.BinOp a op b pos) (aS g f f'):=zgj (zbxp h e d) (zbrk c)
def zbyy(e:OpR X (compareOp op) r)(c:OpD X.K g r)(h:DE X a f)(d:DE X b f')(i:behindInMarks op b=false):DE X (.Compare a [op] [b] pos) (aS g f f'):=zgj (zbna e h d i) (zbrk c)
def eB(f:SE):ST:=λσ c=>(f σ c).bind λv a=>match v with
 |.bl b=>.ok b a
 |_=>.stuck
def eB_t{K:Fg}:∀τ H Q,tDT K (eB f) τ H Q->tD K f τ H λx H1=>∃c,x=.bl c/\Q c H1:=λτ H Q b=>by
 obtain⟨ρ,σ,k,v,j,a,i,e,q⟩:=b;obtain⟨x,d,l,e⟩:=za e;refine⟨ρ,σ,k,x,d,a,i,l,λn H1 u m g h=>?_⟩;cases x<;>try (cases e;done)
 cases e;cases h;exact⟨_,rfl,q _ _ m g⟩
def zbux(e:OpR X (compareOp op) r)(c:OpD X.K g r)(i:DE X a f)(d:DE X b f')(j:behindInMarks op b=false):DT X (.Compare a [op] [b] pos) (eB (aS g f f')):=
 zbko (zbmf e i d j) λτ H Q h=>zbrk c _ _ _ (eB_t _ _ _ h)
def eChain(g i:D->D->Store->Res D) (f h b:SE):SE:=λσ j=>(f σ j).bind λx d=>(h σ d).bind λy e=>(g x y e).bind λz a=>match z with
 |.bl true=>(b σ a).bind λw c=>i y w c
 |.bl false=>.ok (.bl false) a
 |_=>.stuck
def zbqt{K:Fg}(hr:OpD K g r)(s:OpD K g' r'):∀τ H Q,tD K (eChain g g' f f' f'') τ H Q->tChain r r' (tD K f) (tD K f') (tD K f'') τ H Q:=λτ H Q n=>by
 obtain⟨ρ,σ,au,v,A,a,rp,e,q⟩:=n;obtain⟨x,i,e1,e⟩:=za e;obtain⟨y,j,e2,e⟩:=za e;obtain⟨z,d,T,e⟩:=za e;refine⟨ρ,σ,au,x,i,a,rp,e1,λU H1 u S p a1=>?_⟩;refine⟨U,σ,i,y,j,a.ext S,p,e2,λρ2 H2 w C k J=>?_⟩;refine hr ρ2 H2 j x y u w z d _ k (a1.ext C) J T λE H3 P I c a3=>?_
 have m:=S.trans (C.trans I);cases z<;>try (cases e;done)
 rename_i b;cases a3;refine⟨b,rfl,?_⟩;cases b with
 |true=>
  obtain⟨t,h,e4,e⟩:=za e;rw[if_pos rfl];refine⟨E,σ,d,t,h,a.ext m,c,e4,λY H4 tt G o a4=>?_⟩;exact s Y H4 h y t w tt v A Q o (J.ext (I.trans G)) a4 e λρ' H' P X l a5=>q ρ' H' P (m.trans (G.trans X)) l a5
 |false=>
  cases e;rw[if_neg (by decide)];exact q E H3 _ m c (.bl false)
end Dd
namespace Dd
open L2
def Ext.new(a:H p=none)(o:HO):Ext ρ H ρ (upd H p o):=⟨xbl _,λ_ _ _ e=>e,λb u e m=>⟨by rw[zw (zl e a)];exact e,m⟩,rfl,λb c u e=>by rw[zw (zl e a)];exact e⟩
section
variable {H:Hp}{a:Addr}
def zey{c:List V}(h:H a=some (.lst c)):∀b u,H a≠some (.frz b u):=λb u z=>by rw[h] at z;cases z
def zks{c:List (List Key×V)}(h:H a=some (.dT c)):∀b u,H a≠some (.frz b u):=λb u z=>by rw[h] at z;cases z
end
def Ext.wr{ρ:Loc}{n:Nat}(h:ρ.m[n]?=some (some a))(d:∀c u,H a≠some (.frz c u))(o:HO):Ext ρ H ρ (upd H a o):=⟨xbl _,λ_ _ _ e=>e,λb u e m=>⟨by
 rw[zw]
 ·exact e
 ·rintro rfl
  exact m (xbn h),m⟩,rfl,λb c u e=>by
 rw[zw]
 ·exact e
 ·rintro rfl
  exact d _ _ e⟩
def OAt.has{K:Fg}(h:OAt K ρ H x a):∃u,H a=some u:=by
 cases x with
 |lst xs=>obtain⟨b,e,_⟩:=h;exact⟨_,e⟩
 |dT kvs=>obtain⟨b,e,_⟩:=h;exact⟨_,e⟩
 |fT kvs=>obtain⟨b,d,e,_⟩:=h;exact⟨_,e⟩
 |dI kvs=>obtain⟨b,e,_⟩:=h;exact⟨_,e⟩
 |dP ks=>obtain⟨b,e,_⟩:=h;exact⟨_,e⟩
 |dead=>exact h.elim
 |tab=>obtain⟨_,c,e,_⟩:=h;exact⟨_,e⟩
def OAt.ext{K:Fg}(e:Ext ρ H ρ' H')(same:H' a=H a)(h:OAt K ρ H x a):OAt K ρ' H' x a:=by
 cases x with
 |lst xs=>obtain⟨b,q,r⟩:=h;exact⟨b,by rw[same];exact q,r.ext e⟩
 |dT kvs=>obtain⟨b,q,r⟩:=h;exact⟨b,by rw[same];exact q,r.ext e⟩
 |fT kvs=>obtain⟨b,f,q,r⟩:=h;exact⟨b,f,by rw[same];exact q,r.ext e⟩
 |dI kvs=>obtain⟨b,q,r⟩:=h;exact⟨b,by rw[same];exact q,r.ext e⟩
 |dP ks=>obtain⟨b,q,n,l,u,r⟩:=h;exact⟨b,by rw[same];exact q,n,l,u,r.map λ_ _ z=>z.ext e⟩
 |dead=>exact h.elim
 |tab=>obtain⟨c,d,q,r⟩:=h;exact⟨c,d,by rw[same];exact q,r.map e.frz⟩
def Rep.has{K:Fg}{n:Nat}(r:Rep K ρ au H)(h:ρ.m[n]?=some (some a)):∃x,au[n]?=some x/\OAt K ρ H x a:=by
 have b:n<au.length:=by rw[←r.len];exact(xbd.mp h).1
 exact⟨au[n],xbf b,r.obj n a _ h (xbf b)⟩
def Rep.new{K:Fg}(r:Rep K ρ au H)(c:H p=none)(o:HO):Rep K ρ au (upd H p o):=⟨r.len,r.inj,λm b x f e=>by
 have q:=r.obj m b x f e;obtain⟨u,a⟩:=q.has;exact q.ext (Ext.new c o) (zw (zl a c)),λb d=>by
 obtain⟨⟨u,a⟩,n⟩:=r.gh b d
 exact⟨⟨u,by rw[zw (zl a c)];exact a⟩,n⟩,r.live⟩
def Rep.wr{K:Fg}(r:Rep K ρ au H)(h:ρ.m[n]?=some (some a))(i:∀l u,H a≠some (.frz l u)) (q:OAt K ρ (upd H a o) x a):Rep K ρ (au.set n x) (upd H a o):=⟨by rw[r.len,xcx],r.inj,λm b y d c=>by
 by_cases hm:m=n
 ·subst hm;have f:b=a:=by rw[h] at d;exact(xda (xda d)).symm
  subst f;have p:m<au.length:=by rw[←r.len];exact(xbd.mp h).1
  rw[xfg p] at c;cases c;exact q
 ·rw[xbp (xdn hm)] at c;refine(r.obj m b y d c).ext (Ext.wr h i o) (zw λz=>hm ?_);subst z;exact r.inj m n b d h,λb f=>by
 obtain⟨⟨u,j⟩,g⟩:=r.gh b f;refine⟨⟨u,?_⟩,g⟩;rw[zw]
 ·exact j
 ·rintro rfl;exact g (xbn h),λm y e k=>by
 by_cases hm:m=n
 ·subst hm;exact⟨a,h⟩
 ·rw[xbp (xdn hm)] at e
  exact r.live m y e k⟩
def Rep.alloc{K:Fg}(r:Rep K ρ au H)(d:H p=none) (q:Ext ρ H ⟨ρ.m++[some p],ρ.g⟩ (upd H p o)->OAt K ⟨ρ.m++[some p],ρ.g⟩ (upd H p o) x p):Ext ρ H ⟨ρ.m++[some p],ρ.g⟩ (upd H p o)/\Rep K ⟨ρ.m++[some p],ρ.g⟩ (au++[x]) (upd H p o):=by
 have g:∀(m:Nat) (b:Addr),(ρ.m++[some p])[m]?=some (some b)->(m < ρ.m.length/\ρ.m[m]?=some (some b))\/(m=ρ.m.length/\b=p):=λm b e=>by
  rcases xge m ρ.m.length with z|z
  ·rw[xbj z] at e;exact .inl ⟨z,e⟩
  ·rw[xcw z] at e;have l:m-ρ.m.length=0:=by
    have:=(xbd.mp e).1;simp at this;lia
   rw[l] at e;simp at e;exact .inr ⟨by lia,e.symm⟩
 have v:∀(m:Nat),ρ.m[m]?≠some (some p):=λm e=>by
  obtain⟨x,_,q⟩:=r.has e;obtain⟨u,a⟩:=q.has;rw[d] at a;cases a
 have E:Ext ρ H ⟨ρ.m++[some p],ρ.g⟩ (upd H p o):=⟨by rw[xbk];lia,λm b h e=>by
   rw[xbj h] at e;exact e,λb u e m=>⟨by rw[zw (zl e d)];exact e,λz=>by
   rcases xcc.mp z with z|z
   ·exact m z
   ·simp at z;subst z;rw[d] at e;cases e⟩,rfl,λb G u e=>by rw[zw (zl e d)];exact e⟩
 refine⟨E,⟨by rw[xbk,xbk,r.len];rfl,λm k b s c=>?_,λm b y s c=>?_,λb j=>?_,λm y e w=>?_⟩⟩
 ·rcases g m b s with⟨f,i⟩|⟨f,rfl⟩
  ·rcases g k b c with⟨n,t⟩|⟨n,rfl⟩
   ·exact r.inj m k b i t
   ·exact absurd i (v m)
  ·rcases g k b c with⟨n,t⟩|⟨n,_⟩
   ·exact absurd t (v k)
   ·lia
 ·rcases g m b s with⟨f,i⟩|⟨f,rfl⟩
  ·rw[xbj (by rw[←r.len];exact f)] at c;have q:=r.obj m b y i c;obtain⟨u,a⟩:=q.has;exact q.ext E (zw (zl a d))
  ·rw[f,r.len,xcw (xbl _)] at c;simp at c;subst c;exact q E
 ·obtain⟨⟨u,a⟩,C⟩:=r.gh b j;refine⟨⟨u,by rw[zw (zl a d)];exact a⟩,λz=>?_⟩;rcases xcc.mp z with z|z
  ·exact C z
  ·simp at z;subst z;rw[d] at a;cases a
 ·rcases xge m au.length with z|z
  ·rw[xbj z] at e;obtain⟨b,j⟩:=r.live m y e w;exact⟨b,by rw[xbj (by rw[r.len];exact z)];exact j⟩
  ·have l:=(xbd.mp e).1;simp at l;have A:m=ρ.m.length:=by rw[r.len];lia
   exact⟨p,by rw[A,xcw (xbl _)];simp⟩
def Rep.kill{K:Fg}(r:Rep K ρ au H)(h:n < ρ.m.length):Ext ρ H ⟨ρ.m.set n none,ρ.g⟩ H/\Rep K ⟨ρ.m.set n none,ρ.g⟩ (au.set n .dead) H:=by
 have c:∀(m:Nat) (b:Addr),(ρ.m.set n none)[m]?=some (some b)->m≠n/\ρ.m[m]?=some (some b):=λm b e=>by
  by_cases z:m=n
  ·subst z;rw[xfg h] at e;simp at e
  ·rw[xbp (xdn z)] at e;exact⟨z,e⟩
 have E:Ext ρ H ⟨ρ.m.set n none,ρ.g⟩ H:=⟨by rw[xcx];exact xbl _,λm b _ e=>(c m b e).2,λb o e m=>⟨e,λz=>by
  obtain⟨i,f,a⟩:=xev z;have:(ρ.m.set n none)[i]?=some (some b):=by rw[xbf f,a]
  exact m (xbn (c i b this).2)⟩,rfl,λ_ _ _ e=>e⟩
 refine⟨E,⟨by rw[xcx,xcx,r.len],λm k b g a=>r.inj m k b (c m b g).2 (c k b a).2,λm b y g a=>?_,λb d=>⟨(r.gh b d).1,λz=>?_⟩,λm y e j=>?_⟩⟩
 rotate_left
 ·obtain⟨i,f,a⟩:=xev z;have:(ρ.m.set n none)[i]?=some (some b):=by rw[xbf f,a]
  exact(r.gh b d).2 (xbn (c i b this).2)
 ·have z:m≠n:=by
   rintro rfl;rw[xfg (by rw[←r.len];exact h)] at e;cases e;exact j rfl
  rw[xbp (xdn z)] at e;obtain⟨b,d⟩:=r.live m y e j;exact⟨b,by rw[xbp (xdn z)];exact d⟩
 obtain⟨z,q⟩:=c m b g;rw[xbp (xdn z)] at a;exact(r.obj m b y q a).ext E rfl
def zma{K:Fg}(r:Rep K ρ au H)(c:H p=none):Out ρ p:=by
 refine⟨λz=>?_,λz=>?_⟩
 ·obtain⟨i,d,e⟩:=xev z;obtain⟨x,_,q⟩:=r.has (n:=i) (a:=p) (by rw[xbf d,e]);obtain⟨u,b⟩:=q.has;rw[c] at b;cases b
 ·obtain⟨⟨u,b⟩,_⟩:=r.gh p z;rw[c] at b;cases b
def At.newT{K:Fg}(r:Rep K ρ au H)(a:H p=none) (h:AtAll K ρ H ds vs):At K ρ (upd H p (.tup vs)) (.tup ds) (.ref p):=.tup zu (zma r a) (h.ext (Ext.new a _))
def At.newL{K:Fg}(r:Rep K ρ au H)(a:H p=none) (h:AtAll K ρ H ds vs):At K ρ (upd H p (.lst vs)) (.lst ds) (.ref p):=.lst zu (zma r a) (h.ext (Ext.new a _))
def eAnd(f c:SE):SE:=λσ b=>(f σ b).bind λv a=>match v with
 |.bl true=>c σ a
 |.bl false=>.ok (.bl false) a
 |_=>.stuck
def eOr(f c:SE):SE:=λσ b=>(f σ b).bind λv a=>match v with
 |.bl true=>.ok (.bl true) a
 |.bl false=>c σ a
 |_=>.stuck
def eNot(f:SE):SE:=λσ c=>(f σ c).bind λv a=>match v with
 |.bl b=>.ok (.bl (!b)) a
 |_=>.stuck
def bAnd(f d:ST):ST:=λσ c=>(f σ c).bind λb a=>if b=true then d σ a else .ok false a
def bOr(f d:ST):ST:=λσ c=>(f σ c).bind λb a=>if b=true then .ok true a else d σ a
def bNot(f:ST):ST:=λσ c=>(f σ c).bind λb a=>.ok (!b) a
def eIf(c:ST) (f e:SE):SE:=λσ d=>(c σ d).bind λb a=>if b=true then f σ a else e σ a
def zbys{op}(h:DE X a f):DE X (.BoolOp op [a] pos) f:=zbsz h
section
def zbyz(s:DE X a f)(r:DE X (.BoolOp .And (b::g) i) C):DE X (.BoolOp .And (a::b::g) i) (eAnd f C):=zgj (zbte s r) λτ H Q j=>by
 obtain⟨ρ,σ,p,v,l,h,y,e,q⟩:=j;obtain⟨x,c,z,e⟩:=za e;refine⟨ρ,σ,p,x,c,h,y,z,λo H1 u k d w=>?_⟩;cases x<;>try (cases e;done)
 rename_i m;cases w;refine⟨m,rfl,?_⟩;cases m with
 |true=>
  rw[if_pos rfl];exact⟨o,σ,c,v,l,h.ext k,d,e,λA t u n=>q A t u (k.trans n)⟩
 |false=>
  rw[if_neg (by decide)];cases e;exact q _ _ _ k d (.bl false)
end
def zbyt(j:DE X a f):DE X (.UnaryOp .Not a pos) (eNot f):=zgj (zbta j) λτ H Q b=>by
 obtain⟨ρ,σ,m,v,l,d,k,e,q⟩:=b;obtain⟨x,c,n,e⟩:=za e;refine⟨ρ,σ,m,x,c,d,k,n,λp H1 u o g h=>?_⟩;cases x<;>try (cases e;done)
 rename_i i;cases h;cases e;exact⟨i,rfl,q _ _ _ o g (.bl _)⟩
def zbus{op}(h:DT X a t)(b:op=.And\/op=.Or):DW X (.BoolOp op [a] pos) t:=by
 rcases b with rfl|rfl
 ·exact pw_and1 h
 ·exact pw_or1 h
section
def zbut(n:DT X a t)(l:DW X (.BoolOp .And (b::g) j) s):DW X (.BoolOp .And (a::b::g) j) (bAnd t s):=pw_to (pw_and n l) λτ H Q h=>by
 obtain⟨ρ,σ,u,v,i,f,p,e,q⟩:=h;obtain⟨x,c,y,e⟩:=za e;refine⟨ρ,σ,u,x,c,f,p,y,λo H1 k d=>?_⟩;cases x with
 |true=>exact iteT ⟨o,σ,c,v,i,f.ext k,d,e,λr w m=>q r w (k.trans m)⟩
 |false=>cases e;exact iteF (q _ _ k d)
def zbyl(n:DT X a t)(l:DW X (.BoolOp .Or (b::g) j) s):DW X (.BoolOp .Or (a::b::g) j) (bOr t s):=pw_to (pw_or n l) λτ H Q h=>by
 obtain⟨ρ,σ,u,v,i,f,p,e,q⟩:=h;obtain⟨x,c,y,e⟩:=za e;refine⟨ρ,σ,u,x,c,f,p,y,λo H1 k d=>?_⟩;cases x with
 |false=>exact iteF ⟨o,σ,c,v,i,f.ext k,d,e,λr w m=>q r w (k.trans m)⟩
 |true=>cases e;exact iteT (q _ _ k d)
end
def zbuv(f:DT X a t):DT X (.UnaryOp .Not a pos) (bNot t):=zbko (zbsm f) λτ H Q b=>by
 obtain⟨ρ,σ,j,v,i,c,g,e,q⟩:=b;obtain⟨x,h,k,e⟩:=za e;cases e;exact⟨ρ,σ,j,x,_,c,g,k,λm H1 l d=>q _ _ l d⟩
def d_if(y:DT X c t)(r:DE X a f)(p:DE X b f'):DE X (.IfExp c a b pos) (eIf t f f'):=zgj (zbgh y r p) λτ H Q l=>by
 obtain⟨ρ,σ,w,v,h,g,s,e,q⟩:=l;obtain⟨x,d,z,e⟩:=za e;refine⟨ρ,σ,w,x,d,g,s,z,λo H1 j i=>?_⟩;cases x with
 |true=>exact iteT ⟨o,σ,d,v,h,g.ext j,i,e,λm n u k=>q m n u (j.trans k)⟩
 |false=>exact iteF ⟨o,σ,d,v,h,g.ext j,i,e,λm n u k=>q m n u (j.trans k)⟩
def aC:SA:=λ_ a=>.ok [] a
def aB(f:SE) (g:SA):SA:=λσ c=>(f σ c).bind λx b=>(g σ b).bind λd a=>.ok (x::d) a
def aR(g:SA):SE:=λσ c=>(g σ c).bind λb a=>if b.length<=sizeLine then .ok (.tup b) a else .stuck
def eLst(g:SA):SE:=λσ c=>(g σ c).bind λb a=>if b.length<=sizeLine then .ok (.lst b) a else .stuck
def eLstM(g:SA):SE:=λσ c=>(g σ c).bind λb a=>if b.length<=sizeLine then .ok (.ref a.length) (a++[.lst b]) else .stuck
def zbvi:DA X [] aC:=zbwv zbne λτ H Q b=>by
 obtain⟨ρ,σ,f,v,d,a,c,e,q⟩:=b;cases e;exact q _ _ _ (.refl _ _) c .nil
def zbqg(o:DE X e f)(p:DA X es g)(m:starEach (e::es) X.env=(false,eval e X.env)::starEach es X.env:=by rfl):DA X (e::es) (aB f g):=zbwv (zbdd o p m) λτ H Q d=>by
 obtain⟨ρ,σ,l,v,A,a,s,e,q⟩:=d;obtain⟨x,b,z,e⟩:=za e;obtain⟨y,C,n,e⟩:=za e;cases e;refine⟨ρ,σ,l,x,b,a,s,z,λk H1 u j h r=>?_⟩;exact⟨k,σ,b,y,_,a.ext j,h,n,λE H2 w i c t=>q _ _ _ (j.trans i) c (.cons (r.ext i) t)⟩
def zbyp{f}(h:DA X es g):DE X (.Tuple es f pos) (aR g):=zgj (zbsy h) λτ H Q c=>by
 obtain⟨ρ,σ,n,v,m,a,k,e,q⟩:=c;obtain⟨x,l,o,e⟩:=za e;split at e
 ·rename_i r;cases e;refine⟨ρ,σ,n,x,_,a,k,o,λj H1 u f b i=>⟨by rw[i.length];exact r,λp d=>?_⟩⟩;exact q j _ _ (f.trans (Ext.new d _)) (b.new d _) (.newT b d i)
 ·cases e
def zbyv(h:DA X es g):DE X (.List es pos) (eLst g):=zgj (zbmx h) λτ H Q c=>by
 obtain⟨ρ,σ,m,v,l,a,j,e,q⟩:=c;obtain⟨x,k,n,e⟩:=za e;split at e
 ·rename_i o;cases e;refine⟨ρ,σ,m,x,_,a,j,n,λi H1 u r b f=>⟨by rw[f.length];exact o,λp d=>?_⟩⟩;exact q i _ _ (r.trans (Ext.new d _)) (b.new d _) (.newL b d f)
 ·cases e
def At.last{K:Fg}{ρ:Loc}(h:n=ρ.m.length):At K ⟨ρ.m++[some p],ρ.g⟩ H (.ref n) (.ref p):=by
 subst h;refine .ref (by simp) λa e=>?_
 simp at e;rw[e]
def zbvk(h:DA X es g):DE X (.List es pos) (eLstM g):=zgj (zbmx h) λτ H Q c=>by
 obtain⟨ρ,σ,k,v,j,a,f,e,q⟩:=c;obtain⟨x,i,m,e⟩:=za e;split at e
 ·rename_i n;cases e;refine⟨ρ,σ,k,x,_,a,f,m,λs H1 u r b d=>⟨by rw[d.length];exact n,λp l=>?_⟩⟩;obtain⟨E,R⟩:=b.alloc l (x:=.lst x) (o:=.lst u) λE=>⟨u,zu,d.ext E⟩
  exact q _ _ _ (r.trans E) R (.last b.len.symm)
 ·cases e
def asL(a:Store):D->Option (List D)
 |.lst xs=>some xs
 |.ref n=>match a[n]? with
  |some (.lst xs)=>some xs
  |_=>none
 |_=>none
def zdq{K:Fg}(c:Rep K ρ au H) (a:At K ρ H (.ref n) u)(e:au[n]?=some o)(d:o≠.dead):∃p,u=.ref p/\ρ.m[n]?=some (some p)/\OAt K ρ H o p:=by
 cases a with
 |ref h1 h2=>
  obtain⟨p,b⟩:=c.live n o e d;exact⟨p,h2 p b,b,c.obj n p o b e⟩
def zhc{K:Fg}(c:Rep K ρ au H)(a:At K ρ H d u)(e:asL au d=some xs):∃p vs,u=.ref p/\H p=some (.lst vs)/\AtAll K ρ H xs vs:=by
 cases d<;>try (cases e;done)
 ·rename_i n;unfold asL at e;dsimp only at e;split at e
  ·rename_i h b;cases e;obtain⟨p,rfl,i,vs,f,g⟩:=zdq c a b (by intro z;cases z);exact⟨p,vs,rfl,f,g⟩
  ·cases e
 ·cases e;cases a with
  |lst h1 h2 h3=>exact⟨_,_,rfl,h1,h3⟩
def oI(C:Int->Int->Prop) [DecidableRel C] (h:Int->Int->D) (x y:D) (a:Store):Res D:=match x,y with
 |.int i,.int j=>if C i j then .ok (h i j) a else .stuck
 |_,_=>.stuck
def oI_D{K:Fg} [DecidableRel C] (k:∀i j ρ H,At K ρ H (h i j) (g i j)):OpD K (oI C h) (rI C g):=λρ H l x y u v z f Q c a b e q=>by
 unfold oI at e;split at e
 ·cases a;cases b;split at e
  ·rename_i d;cases e;exact⟨_,_,rfl,rfl,d,q _ _ _ (.refl _ _) c (k _ _ _ _)⟩
  ·cases e
 ·cases e
def zou{K:Fg}(k:∀i j ρ H,At K ρ H (h i j) (g i j)):OpD K (oI (λ_ _=>True) h) (rI0 g):=λρ H m x y u v z c Q l a b e q=>by
 obtain⟨i,j,n,d,_,f⟩:=oI_D (C:=λ_ _=>True) k ρ H m x y u v z c Q l a b e q;exact⟨i,j,n,d,f⟩
instance:DecidableRel CMul:=λi j=>by unfold CMul;infer_instance
instance:DecidableRel CDivP:=λi j=>by unfold CDivP;infer_instance
instance:DecidableRel CPow:=λi j=>by unfold CPow;infer_instance
abbrev oSub:=oI (λ_ _=>True) λi j=>.int (i-j)
abbrev oFdiv:=oI CDivP λi j=>.int (i/j)
abbrev oMod:=oI (λ_ j=>0<j) λi j=>.int (i%j)
abbrev oAndI:=oI (λ_ _=>True) λi j=>.int (Builtin.bitAnd i j)
abbrev oPow:=oI CPow λi j=>.int (i^j.toNat)
abbrev oMulI:=oI CMul λi j=>.int (i*j)
def aM(x y:D) (c:Store):Res D:=match x,y with
 |.int i,.int j=>.ok (.int (i+j)) c
 |.tup a,.tup b=>if a.length+b.length<=sizeLine then .ok (.tup (a++b)) c else .stuck
 |.str a,.str b=>if a.length+b.length<=sizeLine then .ok (.str (a++b)) c else .stuck
 |x,y=>match asL c x,asL c y with
  |some a,some b=>if a.length+b.length<=sizeLine then .ok (.lst (a++b)) c else .stuck
  |_,_=>.stuck
abbrev rAddA(K:Fg):R2:=λx y H Q=>rI0 (λi j=>.int (i+j)) x y H Q\/rCatA K x y H Q\/(∃i j,x=.str i/\y=.str j/\i.length+j.length<=sizeLine/\Q (.str (i++j)) H)\/rCat x y H Q
def zbnn:OpR X (binaryOp .Add) (rAddA X.K):=zbtl.or (zbnm.or (zvt.or zbtk))
def zbtp{K:Fg}:OpD K aM (rAddA K):=λρ H w x y u v z r Q c a b e q=>by
 unfold aM at e;split at e
 ·cases a;cases b;cases e;exact .inl ⟨_,_,rfl,rfl,q _ _ _ (.refl _ _) c (.int _)⟩
 ·rename_i s E;split at e
  ·rename_i d;cases e;refine .inr (.inl ?_);cases a with
   |tup g k h3=>
    cases b with
    |tup f h k3=>
     refine⟨_,_,_,_,rfl,rfl,SqT.of g,SqT.of f,by rw[h3.length,k3.length];exact d,λz=>?_,λn m=>?_,λn m p i=>?_⟩
     ·subst z;cases h3;exact q _ _ _ (.refl _ _) c (.tup f h k3)
     ·subst m;cases k3;rw[xdt] at q;exact q _ _ _ (.refl _ _) c (.tup g k h3)
     ·exact q _ _ _ (Ext.new i _) (c.new i _) (.newT c i (h3.append k3))
  ·cases e
 ·split at e
  ·rename_i d;cases a;cases b;cases e;exact .inr (.inr (.inl ⟨_,_,rfl,rfl,d,q _ _ _ (.refl _ _) c (.str _)⟩))
  ·cases e
 ·split at e
  ·rename_i g k;split at e
   ·rename_i d;cases e;obtain⟨p,C,rfl,o,l⟩:=zhc c a g;obtain⟨A,G,rfl,f,h⟩:=zhc c b k;exact .inr (.inr (.inr ⟨_,_,_,_,rfl,rfl,o,f,by rw[l.length,h.length];exact d,λt j=>q _ _ _ (Ext.new j _) (c.new j _) (.newL c j (l.append h))⟩))
   ·cases e
  ·cases e
abbrev oLe:=oI (λ_ _=>True) λi j=>.bl (decide (i<=j))
abbrev oGt:=oI (λ_ _=>True) λi j=>.bl (decide (j<i))
abbrev oGe:=oI (λ_ _=>True) λi j=>.bl (decide (j<=i))
mutual
noncomputable def toData:D->Option PyData
 |.non=>some .none
 |.bl b=>some (.bool b)
 |.int i=>some (.int i)
 |.str x=>some (.str x)
 |.tup ds=>(toDatas ds).map .tuple
 |.lst ds=>(toDatas ds).map .list
 |_=>none
noncomputable def toDatas:List D->Option (List PyData)
 |[]=>some []
 |d::ds=>(toData d).bind λx=>(toDatas ds).map λa=>x::a
end
mutual
def zbej{K:Fg}{ρ:Loc}{H:Hp}:∀{d v p},At K ρ H d v->toData d=some p->DAt K H v p
 |_,_,_,.non,e=>by cases e;exact .non
 |_,_,_,.bl b,e=>by cases e;exact .bl b
 |_,_,_,.int i,e=>by cases e;exact .int i
 |_,_,_,.str x,e=>by cases e;exact .str x
 |_,_,_,.ty n,e=>by cases e
 |_,_,_,.exn _,e=>by cases e
 |_,_,_,.ref _ _,e=>by cases e
 |_,_,_,.tup h _ al,e=>by
  rw[toData] at e;obtain⟨c,a,rfl⟩:=xdh.mp e;exact .tup (SqT.of h) (zmo al a)
 |_,_,_,.lst h _ al,e=>by
  rw[toData] at e;obtain⟨c,a,rfl⟩:=xdh.mp e;exact .lst (SqL.of h) (zmo al a)
 |_,_,_,.scr _ _,e=>by cases e
def zmo{K:Fg}{ρ:Loc}{H:Hp}:∀{d v p},AtAll K ρ H d v->toDatas d=some p->DAll K H v p
 |_,_,_,.nil,e=>by cases e;exact .nil
 |_,_,_,.cons a b,e=>by
  rw[toDatas] at e;obtain⟨x,c,e⟩:=xfp.mp e;obtain⟨g,f,rfl⟩:=xdh.mp e;exact .cons (zbej a c) (zmo b f)
end
def now(a:Store) (d:D):D:=match asL a d with
 |some xs=>.lst xs
 |none=>d
def dataOf(a:Store) (d:D):Option PyData:=toData (now a d)
def zfs{K:Fg}(f:Rep K ρ au H) (a:At K ρ H d u)(e:dataOf au d=some p):DAt K H u p:=by
 unfold dataOf now at e;split at e
 ·rename_i k b;obtain⟨q,j,rfl,c,g⟩:=zhc f a b;rw[toData] at e;obtain⟨i,h,rfl⟩:=xdh.mp e;exact .lst (SqL.of c) (zmo g h)
 ·exact zbej a e
def oEqG(c:Bool) (x y:D) (d:Store):Res D:=match dataOf d x,dataOf d y with
 |some a,some b=>if PySem.SeqAt.shaped a=true/\PySem.SeqAt.shaped b=true then .ok (.bl (if c then !PyData.eqv a b else PyData.eqv a b)) d else .stuck
 |_,_=>.stuck
def zub{K:Fg}:OpD K (oEqG neg) (rEqX K neg):=λρ H j x y u v z g Q c a b e q=>by
 unfold oEqG at e;split at e
 ·rename_i k i f h;split at e
  ·rename_i d;cases e;exact⟨_,_,zfs c a f,zfs c b h,d.1,d.2,q _ _ _ (.refl _ _) c (.bl _)⟩
  ·cases e
 ·cases e
abbrev oEq:=oEqG false
abbrev oNe:=oEqG true
noncomputable def asInts:List D->Option (List Int)
 |[]=>some []
 |.int i::r=>(asInts r).map (i::·)
 |_::_=>none
def zem{K:Fg}:∀{c f g},AtAll K ρ H c f->asInts c=some g->f=g.map V.int
 |_,_,_,.nil,e=>by cases e;rfl
 |_,_,_,.cons (d:=d) a b,e=>by
  cases d<;>try (cases e;done)
  rw[asInts] at e;obtain⟨i,h,rfl⟩:=xdh.mp e;cases a;rw[zem b h]
  rfl
def oLtT(x y:D) (c:Store):Res D:=match x,y with
 |.int i,.int j=>.ok (.bl (decide (i<j))) c
 |.tup a,.tup b=>match asInts a,asInts b with
  |some ns,some ms=>.ok (.bl (HT.lexLt ns ms)) c
  |_,_=>.stuck
 |_,_=>.stuck
abbrev rLtA(K:Fg):R2:=λx y H Q=>rI0 (λi j=>.bl (decide (i<j))) x y H Q\/rLtT K x y H Q
def znq{X:Cx}(a:X.A.units<cLine):OpR X (compareOp .Lt) (rLtA X.K):=zbxt.or (zbti a)
def znv{K:Fg}:OpD K oLtT (rLtA K):=λρ H j x y u v z g Q c a b e q=>by
 unfold oLtT at e;split at e
 ·cases a;cases b;cases e
  exact .inl ⟨_,_,rfl,rfl,q _ _ _ (.refl _ _) c (.bl _)⟩
 ·split at e
  ·rename_i f h;cases e;cases a with
   |tup g1 g2 g3=>
    cases b with
    |tup k1 k2 k3=>
     have i:=zem g3 f;have d:=zem k3 h;subst i d;exact .inr ⟨_,_,_,_,rfl,rfl,SqT.of g1,SqT.of k1,q _ _ _ (.refl _ _) c (.bl _)⟩
  ·cases e
 ·cases e
def seqOf(a:Store):D->Option (List D)
 |.tup xs=>some xs
 |.scr xs=>some xs
 |d=>asL a d
def zlm{K:Fg}(f:Rep K ρ au H) (a:At K ρ H d u)(e:seqOf au d=some xs):
  ∃p vs,u=.ref p/\(SqL K H p vs\/SqT K H p vs)/\AtAll K ρ H xs vs:=by
 unfold seqOf at e;split at e
 ·cases e;cases a with
  |tup b c h3=>exact⟨_,_,rfl,.inr (SqT.of b),h3⟩
 ·cases e;cases a with
  |scr b h3=>exact⟨_,_,rfl,.inl b.sq,h3⟩
 ·obtain⟨p,vs,rfl,b,c⟩:=zhc f a e;exact⟨p,vs,rfl,.inl (SqL.of b),c⟩
def AtAll.atI{K:Fg}(h:AtAll K ρ H ds vs)(e:L2.atI ds i=some d):∃v,L2.atI vs i=some v/\At K ρ H d v:=by
 unfold L2.atI at e ⊢;rw[h.length];cases hi:ixN ds.length i with
 |none=>rw[hi] at e;cases e
 |some j=>
  rw[hi] at e;obtain⟨v,a,b⟩:=h.get (i:=j) e;exact⟨v,a,b⟩
def oIx(x y:D) (a:Store):Res D:=match seqOf a x,y with
 |some xs,.int i=>match L2.atI xs i with
  |some v=>.ok v a
  |none=>.stuck
 |_,_=>.stuck
def zbxx{K:Fg}:OpD K oIx (rIx K):=λρ H l x y u v z i Q c a b e q=>by
 unfold oIx at e;split at e
 ·rename_i g;split at e
  ·rename_i w j;cases e;cases b;obtain⟨p,m,rfl,h2,h⟩:=zlm c a g;obtain⟨k,d,f⟩:=h.atI j;rcases h2 with h2|h2
   ·exact .inl ⟨_,_,_,_,rfl,rfl,h2,d,q _ _ _ (.refl _ _) c f⟩
   ·exact .inr (.inl ⟨_,_,_,_,rfl,rfl,h2,d,q _ _ _ (.refl _ _) c f⟩)
  ·cases e
 ·cases e
def cutD(a:List D) (lo b:Option Int):List D:=(a.drop (HT.sIx a.length 0 lo)).take (HT.sIx a.length a.length b-HT.sIx a.length 0 lo)
def AtAll.cut{K:Fg}(h:AtAll K ρ H ds vs)(lo a:Option Int):AtAll K ρ H (cutD ds lo a) (cutV vs lo a):=by
 unfold cutD cutV;rw[h.length];exact(h.drop _).take _
def pNone:DS->Store->Res (Option Int):=λ_ a=>.ok none a
def pSome(f:SE):DS->Store->Res (Option Int):=λσ b=>(f σ b).bind λv a=>match v with
 |.int i=>.ok (some i) a
 |_=>.stuck
def eSl(f:SE) (lo e:DS->Store->Res (Option Int)):SE:=λσ d=>(f σ d).bind λx b=>(lo σ b).bind λl c=>(e σ c).bind λh a=>match x with
 |.tup xs=>.ok (.tup (cutD xs l h)) a
 |x=>match asL a x with
  |some xs=>.ok (.lst (cutD xs l h)) a
  |none=>.stuck
def tDO(K:Fg) (f:DS->Store->Res (Option Int)):TO:=λτ H Q=>∃ρ σ c v a,AtS K ρ H σ τ/\Rep K ρ c H/\f σ c=.ok v a/\∀d b,Ext ρ H d b->Rep K d a b->Q v b
abbrev DO(X:Cx) (e:Option Expr) (f:DS->Store->Res (Option Int)):Prop:=PO X e (tDO X.K f)
def zbws(h:PO X e t)(k:∀σ H Q,t' σ H Q->t σ H Q):PO X e t':=λa s σ H Q I q=>h a s σ H Q I (k _ _ _ q)
def zbpx:DO X none pNone:=zbws zbmp λτ H Q b=>by
 obtain⟨ρ,σ,f,v,d,a,c,e,q⟩:=b;cases e;exact q _ _ (.refl _ _) c
def zbpw(k:DE X e f):DO X (some e) (pSome f):=zbws (zbmo k) λτ H Q b=>by
 obtain⟨ρ,σ,j,v,i,a,h,e,q⟩:=b;obtain⟨x,c,l,e⟩:=za e;refine⟨ρ,σ,j,x,c,a,h,l,λn H1 u m d g=>?_⟩;cases x<;>try (cases e;done)
 cases e;cases g;exact⟨_,rfl,q _ _ m d⟩
def d_ix(c:DE X a f)(d:DE X b f')(e:PlainIx b):DE X (.Subscript a b pos) (aS oIx f f'):=zgj (zbxq zbug c d e) (zbrk zbxx)
section
def d_sl{w:Pos}(he:DE X e f)(hl:DO X lo l)(Y:DO X hi h):DE X (.Subscript e (.Slice lo hi none w) I) (eSl f l h):=zgj (zbgg (zblt.or zblu) he hl Y) λτ H Q n=>by
 obtain⟨ρ,σ,E,v,a0,a,rp,e,q⟩:=n;obtain⟨x,d,e1,e⟩:=za e;obtain⟨y,g,P,e⟩:=za e;obtain⟨z,k,A,e⟩:=za e;refine⟨ρ,σ,E,x,d,a,rp,e1,λC H1 u r o T=>?_⟩;refine⟨C,σ,d,y,g,a.ext r,o,P,λS H2 j i=>?_⟩;refine⟨S,σ,g,z,k,a.ext (r.trans j),i,A,λρ3 H3 s b=>?_⟩;have t:=T.ext (j.trans s);have m:=r.trans (j.trans s);split at e
 ·cases e;refine .inl ?_;cases t with
  |tup h1 h2 h3=>
   refine⟨_,_,rfl,SqT.of h1,λec=>?_,λp c=>?_⟩
   ·refine q _ _ _ m b (.tup h1 h2 ?_);have:=h3.cut y z;rw[ec] at this;exact this
   ·exact q _ _ _ (m.trans (Ext.new c _)) (b.new c _) (.newT b c (h3.cut y z))
 ·split at e
  ·rename_i xs J;cases e;obtain⟨p,vs,rfl,U,G⟩:=zhc b t J;exact .inr ⟨_,_,rfl,SqL.of U,λp c=>q _ _ _ (m.trans (Ext.new c _)) (b.new c _) (.newL b c (G.cut y z))⟩
  ·cases e
end
end Dd
namespace Dd
open L2
def aE(g:List D->Store->Res D) (f:SA):SE:=λσ b=>(f σ b).bind λc a=>g c a
def CaD(K:Fg) (g:List D->Store->Res D) (r:List V->Hp->VK->Prop):Prop:=
 ∀ρ H d e f z a (Q:VK),Rep K ρ d H->AtAll K ρ H e f->g e d=.ok z a->(∀c b w,Ext ρ H c b->Rep K c a b->At K c b z w->Q w b)->r f H Q
def zbvt{K:Fg}(i:CaD K g r):∀τ H Q,tD K (aE g f) τ H Q->tCB r (tDA K f) τ H Q:=λτ H Q c=>by
 obtain⟨ρ,σ,o,v,d,a,m,e,q⟩:=c;obtain⟨x,b,s,e⟩:=za e;exact⟨ρ,σ,o,x,b,a,m,s,λl H1 u t h j=>i l H1 b x u v d Q h j e λn p w k=>q n p w (t.trans k)⟩
def zbqn{x:Str}{id:String}(m:CallR X (.builtin id) r)(c:CaD X.K g r)(d:Gl X x)(j:X.mg x=none)(i:bootBuiltins x=some (.builtin id))(h:DA X (e::es) f)(l:x≠"__name__":=by decide)(a:(x==("__debug__" : Str))=false:=by decide)
 (k:starEach (e::es) X.env=(false,eval e X.env)::starEach es X.env:=by rfl)(b:(backTo pos (starEach es X.env)).any (·.1)=false:=by rfl):DE X (.Call (.Name x p) (e::es) [] pos) (aE g f):=zgj (zvq m d j i h l a k b) (zbvt c)
def zbjo{T:String}(m:CallR X (.type T) r)(c:CaD X.K g r)(d:Gl X x)(j:X.mg x=none)(i:bootBuiltins x=some (.type T))(h:DA X (e::es) f)(l:x≠"__name__":=by decide)(a:(x==("__debug__" : Str))=false:=by decide)
 (k:starEach (e::es) X.env=(false,eval e X.env)::starEach es X.env:=by rfl)(b:(backTo pos (starEach es X.env)).any (·.1)=false:=by rfl):DE X (.Call (.Name x p) (e::es) [] pos) (aE g f):=zgj (zrp m d j i h l a k b) (zbvt c)
def AtAll.one{K:Fg}(h:AtAll K ρ H [d] us):∃u,us=[u]/\At K ρ H d u:=by
 cases h with
 |cons a b=>cases b;exact⟨_,rfl,a⟩
def AtAll.two{K:Fg}(h:AtAll K ρ H [d,e] us):∃u v,us=[u,v]/\At K ρ H d u/\At K ρ H e v:=by
 cases h with
 |cons a b=>
  obtain⟨v,rfl,c⟩:=b.one;exact⟨_,_,rfl,a,c⟩
def bLen:List D->Store->Res D:=λb a=>match b with
 |[x]=>match seqOf a x with
  |some ys=>.ok (.int ys.length) a
  |none=>.stuck
 |_=>.stuck
def zoq{K:Fg}:CaD K bLen (λd H Q=>∃p b,d=[.ref p]/\(SqL K H p b\/SqT K H p b)/\Q (.int b.length) H):=λρ H l d m z i Q c g e q=>by
 unfold bLen at e;split at e
 ·split at e
  ·rename_i h;cases e;obtain⟨u,rfl,a⟩:=g.one;obtain⟨p,k,rfl,f,j⟩:=zlm c a h;refine⟨p,k,rfl,f,?_⟩;rw[j.length];exact q _ _ _ (.refl _ _) c (.int _)
  ·cases e
 ·cases e
def bAbs:List D->Store->Res D:=λb a=>match b with
 |[.int i]=>.ok (.int (if i<0 then -i else i)) a
 |_=>.stuck
def zbwh{K:Fg}:CaD K bAbs (λb H Q=>∃i,b=[.int i]/\Q (.int (if i<0 then -i else i)) H):=λρ H g b h z f Q c d e q=>by
 unfold bAbs at e;split at e
 ·cases e;obtain⟨u,rfl,a⟩:=d.one;cases a;exact⟨_,rfl,q _ _ _ (.refl _ _) c (.int _)⟩
 ·cases e
def b2I(g:Int->Int->Int):List D->Store->Res D:=λb a=>match b with
 |[.int i,.int j]=>.ok (.int (g i j)) a
 |_=>.stuck
def zbrp{K:Fg}:CaD K (b2I g) (λc H Q=>∃i j,c=[.int i,.int j]/\Q (.int (g i j)) H):=λρ H k c l z h Q d f e q=>by
 unfold b2I at e;split at e
 ·cases e;obtain⟨u,v,rfl,a,b⟩:=f.two;cases a;cases b;exact⟨_,_,rfl,q _ _ _ (.refl _ _) d (.int _)⟩
 ·cases e
abbrev bMin2:=b2I λi j=>if j<i then j else i
def bSum:List D->Store->Res D:=λb a=>match b with
 |[x]=>match (seqOf a x).bind asInts with
  |some ns=>.ok (.int ns.sum) a
  |none=>.stuck
 |_=>.stuck
def zbkb{K:Fg}:CaD K bSum (rSum K):=λρ H l n o z f Q b d e q=>by
 unfold bSum at e;split at e
 ·split at e
  ·rename_i i h;cases e;obtain⟨k,j,h⟩:=xfp.mp h;obtain⟨u,rfl,a⟩:=d.one;obtain⟨p,m,rfl,c,g⟩:=zlm b a j;have e:=zem g h;subst e;exact⟨p,i,rfl,c,q _ _ _ (.refl _ _) b (.int _)⟩
  ·cases e
 ·cases e
noncomputable def asBools:List D->Option (List Bool)
 |[]=>some []
 |.bl i::r=>(asBools r).map (i::·)
 |_::_=>none
def zos{K:Fg}:∀{c f g},AtAll K ρ H c f->asBools c=some g->f=g.map V.bl
 |_,_,_,.nil,e=>by cases e;rfl
 |_,_,_,.cons (d:=d) a b,e=>by
  cases d<;>try (cases e;done)
  rw[asBools] at e;obtain⟨i,h,rfl⟩:=xdh.mp e;cases a;rw[zos b h]
  rfl
def bAny(b:Bool):List D->Store->Res D:=λc a=>match c with
 |[x]=>match (asL a x).bind asBools with
  |some bs=>.ok (.bl (if b then bs.all id else bs.any id)) a
  |none=>.stuck
 |_=>.stuck
def zbkd{K:Fg}:CaD K (bAny al) (rAny K al):=λρ H l n o z f Q b d e q=>by
 unfold bAny at e;split at e
 ·split at e
  ·rename_i i h;cases e;obtain⟨k,j,h⟩:=xfp.mp h;obtain⟨u,rfl,a⟩:=d.one;obtain⟨p,m,rfl,c,g⟩:=zhc b a j;have e:=zos g h;subst e;exact⟨p,i,rfl,SqL.of c,q _ _ _ (.refl _ _) b (.bl _)⟩
  ·cases e
 ·cases e
def tyName(a:Store):D->Option String
 |.non=>some "NoneType"
 |.bl _=>some "bool"
 |.int _=>some "int"
 |.str _=>some "str"
 |.tup _=>some "tuple"
 |.lst _=>some "list"
 |.ref n=>match a[n]? with
  |some (.lst _)=>some "list"
  |some (.dT _)=>some "dict"
  |_=>none
 |_=>none
noncomputable def isTy(t T:String):Bool:=t==T||(t=="bool"&&T=="int")
def bIsinst:List D->Store->Res D:=λb a=>match b with
 |[x,.ty T]=>match tyName a x with
  |some t=>if["int","bool","str","tuple","list","dict"].contains T=true then .ok (.bl (isTy t T)) a else .stuck
  |none=>.stuck
 |_=>.stuck
def zzb{K:Fg}(c:Rep K ρ au H) (a:At K ρ H d u)(e:tyName au d=some t):TyOf K H u (.type t)/\t∈["NoneType","bool","int","str","tuple","list","dict"]:=by
 cases d<;>try (cases e;done)
 ·cases e;cases a;exact⟨.non,by simp⟩
 ·cases e;cases a;exact⟨.bl _,by simp⟩
 ·cases e;cases a;exact⟨.int _,by simp⟩
 ·cases e;cases a;exact⟨.str _,by simp⟩
 ·unfold tyName at e;dsimp only at e;split at e
  ·rename_i h;cases e;obtain⟨p,rfl,g,f,b,i⟩:=zdq c a h (by intro z;cases z);exact⟨.lst b,by simp⟩
  ·rename_i h;cases e;obtain⟨p,rfl,g,f,b,i⟩:=zdq c a h (by intro z;cases z);exact⟨.dT b,by simp⟩
  ·cases e
 ·cases e;cases a with
  |tup h1 h2 h3=>exact⟨.tup h1,by simp⟩
 ·cases e;cases a with
  |lst h1 h2 h3=>exact⟨.lst h1,by simp⟩
def zbtz{K:Fg}{T:String}(b:t∈["NoneType","bool","int","str","tuple","list","dict"])(a:T∈["int","bool","str","tuple","list","dict"]):W.kitOne K (.type t) (.type T)=some (isTy t T):=by
 simp only[xbm,xgf,xkw] at b a;rcases b with rfl|rfl|rfl|rfl|rfl|rfl|rfl<;>rcases a with rfl|rfl|rfl|rfl|rfl|rfl<;>rfl
def zct{K:Fg}:CaD K bIsinst (λd H Q=>∃x T t b,d=[x,.ty T]/\TyOf K H x t/\W.kitOne K t (.type T)=some b/\Q (.bl b) H):=λρ H l d m z i Q c g e q=>by
 unfold bIsinst at e;split at e
 ·split at e
  ·rename_i h;split at e
   ·rename_i k;cases e;obtain⟨u,v,rfl,a,b⟩:=g.two;cases b;obtain⟨f,j⟩:=zzb c a h;exact⟨_,_,_,_,rfl,f,zbtz j (by simpa using k),q _ _ _ (.refl _ _) c (.bl _)⟩
   ·cases e
  ·cases e
 ·cases e
def bTuple:List D->Store->Res D:=λb a=>match b with
 |[.tup ys]=>.ok (.tup ys) a
 |[x]=>match asL a x with
  |some ys=>.ok (.tup ys) a
  |none=>.stuck
 |_=>.stuck
def zek{K:Fg}:CaD K bTuple (λj H Q=>∃p d,j=[.ref p]/\((SqL K H p d/\∀l,H l=none->Q (.ref l) (upd H l (.tup d)))\/(SqT K H p d/\Q (.ref p) H))):=λρ H m j o z k Q c i e q=>by
 unfold bTuple at e;split at e
 ·cases e;obtain⟨u,rfl,a⟩:=i.one;cases a with
  |tup b f h3=>exact⟨_,_,rfl,.inr ⟨SqT.of b,q _ _ _ (.refl _ _) c (.tup b f h3)⟩⟩
 ·split at e
  ·rename_i h;cases e;obtain⟨u,rfl,a⟩:=i.one;obtain⟨p,n,rfl,b,f⟩:=zhc c a h;exact⟨_,_,rfl,.inl ⟨SqL.of b,λl g=>q _ _ _ (Ext.new g _) (c.new g _) (.newT c g f)⟩⟩
  ·cases e
 ·cases e
def bList:List D->Store->Res D:=λb a=>match b with
 |[x]=>match seqOf a x with
  |some ys=>.ok (.lst ys) a
  |none=>.stuck
 |_=>.stuck
def zbrc{K:Fg}:CaD K bList (λf H Q=>∃p b,f=[.ref p]/\(SqL K H p b\/SqT K H p b)/\∀l,H l=none->Q (.ref l) (upd H l (.lst b))):=λρ H m f o z j Q c i e q=>by
 unfold bList at e;split at e
 ·split at e
  ·rename_i h;cases e;obtain⟨u,rfl,a⟩:=i.one;obtain⟨p,n,rfl,g,k⟩:=zlm c a h;exact⟨_,_,rfl,g,λl d=>q _ _ _ (Ext.new d _) (c.new d _) (.newL c d k)⟩
  ·cases e
 ·cases e
noncomputable abbrev aL(a:List Int):D:=.tup (a.map .int)
abbrev aJ(l:List (List Int)):List D:=l.map aL
def insR(a:List Int):List (List Int)->List (List Int)
 |[]=>[a]
 |b::r=>if HT.lexLt b a=true then b::insR a r else a::b::r
def sortR:List (List Int)->List (List Int)
 |[]=>[]
 |a::r=>insR a (sortR r)
abbrev UpR(l:List (List Int)):Prop:=l.Pairwise λa b=>HT.lexLt b a=false
def zmk(a:List Int):∀l,(insR a l).Perm (a::l)
 |[]=>.refl _
 |b::r=>by
  unfold insR;split
  ·exact(List.Perm.cons b (zmk a r)).trans (.swap a b r)
  ·exact .refl _
def zm:∀l,(sortR l).Perm l
 |[]=>.refl _
 |a::r=>(zmk a _).trans (.cons a (zm r))
def zpt(e:HT.lexLt b a=false)(d:HT.lexLt c b=false):HT.lexLt c a=false:=by
 cases h:HT.lexLt c a with
 |false=>rfl
 |true=>
  rcases Srt.znz a b with z|z|z
  ·have:=Srt.zgv h z;rw[d] at this;cases this
  ·subst z;rw[d] at h;cases h
  ·rw[e] at z;cases z
def zbdy(a:List Int):∀l,UpR l->UpR (insR a l)
 |[],_=>xlb _ _
 |b::r,h=>by
  obtain⟨e,f⟩:=xff.mp h;unfold insR;split
  ·rename_i c;refine xff.mpr ⟨λx hx=>?_,zbdy a r f⟩;rcases xbm.mp ((zmk a r).mem_iff.mp hx) with rfl|hx
   ·exact Srt.zry c
   ·exact e x hx
  ·rename_i c;have d:HT.lexLt b a=false:=by simpa using c
   refine xff.mpr ⟨λx hx=>?_,h⟩;rcases xbm.mp hx with rfl|hx
   ·exact d
   ·exact zpt d (e x hx)
def zlk:∀l,UpR (sortR l)
 |[]=>.nil
 |a::r=>zbdy a _ (zlk r)
def zqz:∀{l m},l.Perm m->UpR l->UpR m->l=m
 |[],m,p,_,_=>by rw[List.nil_perm.mp p]
 |a::l,[],p,_,_=>by cases List.perm_nil.mp p
 |a::l,b::m,p,h1,h2=>by
  obtain⟨i,c⟩:=xff.mp h1;obtain⟨f,h⟩:=xff.mp h2;have e:a=b:=by
   rcases xbm.mp (p.mem_iff.mp xby) with z|z
   ·exact z
   ·rcases xbm.mp (p.mem_iff.mpr (xby (a:=b) (l:=m))) with y|y
    ·exact y.symm
    ·have g:=f a z;have d:=i b y;rcases Srt.znz a b with w|w|w
     ·rw[g] at w;cases w
     ·exact w
     ·rw[d] at w;cases w
  subst e;rw[zqz (List.Perm.cons_inv p) c h]
def zll{m:List (List Int)}(p:m.Perm l)(h:UpR m):m=sortR l:=zqz (p.trans (zm l).symm) h (zlk l)
def zee(l:List (List Int)):(sortR l).length=l.length:=(zm l).length_eq
def asRows:List D->Option (List (List Int))
 |[]=>some []
 |.tup ds::r=>(asInts ds).bind λa=>(asRows r).map (a::·)
 |_::_=>none
def zsy{K:Fg}:∀{f g l},AtAll K ρ H f g->asRows f=some l ->
  ∃c:List (Addr×List Int),g=c.map (λp=>V.ref p.1)/\c.map (·.2)=l/\∀p∈c,H p.1=some (.tup (p.2.map V.int))/\Out ρ p.1
 |_,_,_,.nil,e=>by cases e;exact⟨[],rfl,rfl,λ_ h=>nomatch h⟩
 |_,_,_,.cons (d:=d) a b,e=>by
  cases d<;>try (cases e;done)
  rw[asRows] at e;obtain⟨o,q,e⟩:=xfp.mp e;obtain⟨l,j,rfl⟩:=xdh.mp e;obtain⟨c,k,n,m⟩:=zsy b j;cases a with
  |tup g1 g2 g3=>
   rename_i ad r;have i:=zem g3 q;subst i;refine⟨(ad,o)::c,by rw[k];rfl,by rw[←n];rfl,λp hp=>?_⟩;rcases xbm.mp hp with rfl|hp
   ·exact⟨g1,g2⟩
   ·exact m p hp
def zjl{K:Fg}:∀a:List Int,AtAll K ρ H (a.map .int) (a.map V.int)
 |[]=>.nil
 |n::a=>.cons (.int n) (zjl a)
def zph{K:Fg}:∀a:List (Addr×List Int),(∀p∈a,H p.1=some (.tup (p.2.map V.int))/\Out ρ p.1)->AtAll K ρ H (aJ (a.map (·.2))) (a.map λp=>V.ref p.1)
 |[],_=>.nil
 |p::a,h=>.cons (.tup (h p xby).1 (h p xby).2 (zjl _)) (zph a λq b=>h q (xbi _ b))
def zru{K:Fg}(r:Rep K ρ au H) (b:H p=some (.tup vs)):Out ρ p:=by
 refine⟨λz=>?_,λz=>?_⟩
 ·obtain⟨i,d,e⟩:=xev z;obtain⟨x,_,q⟩:=r.has (n:=i) (a:=p) (by rw[xbf d,e]);cases x with
  |lst xs=>obtain⟨_,e,_⟩:=q;rw[b] at e;cases e
  |dT kvs=>obtain⟨_,e,_⟩:=q;rw[b] at e;cases e
  |fT kvs=>obtain⟨_,_,e,_⟩:=q;rw[b] at e;cases e
  |dI kvs=>obtain⟨_,e,_⟩:=q;rw[b] at e;cases e
  |dP ks=>obtain⟨_,e,_⟩:=q;rw[b] at e;cases e
  |dead=>exact q
  |tab=>obtain⟨_,_,e,_⟩:=q;rw[b] at e;cases e
 ·obtain⟨⟨u,c⟩,_⟩:=r.gh p z;rw[b] at c;cases c
noncomputable def valD(a:List (List Int×D)) (k:List Int):Option D:=(a.find? λb=>decide (b.1=k)).map (·.2)
noncomputable def putD(a:List (List Int×D)) (k:List Int) (v:D):List (List Int×D):=
 if(a.any λb=>decide (b.1=k))=true then a.map (λb=>if b.1=k then(b.1,v) else b) else a++[(k,v)]
noncomputable def dropD(a:List (List Int×D)) (k:List Int):List (List Int×D):=a.filter λb=>decide (b.1≠k)
def zsc{a b:List Int}:a.map (Sum.inl:Int->Key)=b.map Sum.inl↔a=b:=by
 constructor
 ·intro h;exact(List.map_inj_right (f:=(Sum.inl:Int->Key)) λx y e=>Sum.inl.inj e).mp h
 ·rintro rfl;rfl
def KvAt.val{K:Fg}(h:KvAt K ρ H kvs vs)(k:List Int):match valD kvs k with
  |some d=>∃v,valV vs (k.map Sum.inl)=some v/\At K ρ H d v
  |none=>valV vs (k.map Sum.inl)=none:=by
 induction h with
 |nil=>rfl
 |@cons p q ps qs h t ih=>
  obtain⟨b,c⟩:=h;by_cases e:p.1=k
  ·have a:valD (p::ps) k=some p.2:=by simp[valD,xfc,e]
   rw[a];exact⟨q.2,ziw (by rw[b,e]),c⟩
  ·have a:valD (p::ps) k=valD ps k:=by simp[valD,xfc,e]
   have f:valV (q::qs) (k.map Sum.inl)=valV qs (k.map Sum.inl):=zix (by rw[b,zsc];exact e);rw[a,f];exact ih
def KvAt.keys{K:Fg}(h:KvAt K ρ H kvs vs):vs.map (·.1)=(kvs.map (·.1)).map λa=>a.map Sum.inl:=by
 induction h with
 |nil=>rfl
 |@cons p q ps qs h t ih=>rw[xbr,xbr,xbr,ih,h.1]
def KvAt.put{K:Fg}(h:KvAt K ρ H b c)(k:List Int) (a:At K ρ H d v):KvAt K ρ H (putD b k d) (putK c (k.map Sum.inl) v):=by
 have f:∀{b c},KvAt K ρ H b c->(b.any λi=>decide (i.1=k))=(c.any λi=>decide (i.1=k.map Sum.inl)):=λh=>by
  induction h with
  |nil=>rfl
  |@cons p q ps qs h t ih=>
   rw[xiw,xiw,ih,h.1]
   congr 1
   simp only[zsc]
 unfold putD putK;rw[f h];split
 ·rename_i l;clear l f
  induction h with
  |nil=>exact .nil
  |@cons p q ps qs h t ih=>
   refine .cons ?_ ih;obtain⟨g,m⟩:=h;dsimp only;by_cases e:p.1=k
   ·rw[if_pos e,if_pos (by rw[g,e])];exact⟨g,a⟩
   ·rw[if_neg e,if_neg (by rw[g,zsc];exact e)];exact⟨g,m⟩
 ·have j:∀{b c},KvAt K ρ H b c->KvAt K ρ H (b++[(k,d)]) (c++[(k.map Sum.inl,v)]):=λh=>by
   induction h with
   |nil=>exact .cons ⟨rfl,a⟩ .nil
   |cons h t ih=>exact .cons h ih
  exact j h
def KvAt.drop{K:Fg}(h:KvAt K ρ H kvs vs)(k:List Int):KvAt K ρ H (dropD kvs k) (dropK vs (k.map Sum.inl)):=by
 unfold dropD dropK
 induction h with
 |nil=>exact .nil
 |@cons p q ps qs h t ih=>
  by_cases e:p.1=k
  ·rw[xco (by simp[e]),xco (by simp[h.1,e])];exact ih
  ·rw[xck (by simp[e]),xck (by simp[h.1,zsc,e])];exact .cons h ih
def KvAt.length{K:Fg}(h:KvAt K ρ H kvs vs):kvs.length=vs.length:=xiv h
def pairsOf(a:Store):D->Option (List (List Int×D))
 |.ref n=>match a[n]? with
  |some (.dT kvs)=>some kvs
  |some (.fT kvs)=>some kvs
  |_=>none
 |_=>none
def zpk{K:Fg}(f:Rep K ρ au H) (a:At K ρ H d u)(e:pairsOf au d=some kvs):∃p vs,u=.ref p/\Rd H p (.dT vs)/\KvAt K ρ H kvs vs:=by
 unfold pairsOf at e;split at e
 ·split at e
  ·rename_i h;cases e;obtain⟨p,rfl,g,vs,b,c⟩:=zdq f a h (by intro z;cases z);exact⟨p,vs,rfl,.inl b,c⟩
  ·rename_i h;cases e;obtain⟨p,rfl,g,vs,i,b,c⟩:=zdq f a h (by intro z;cases z);exact⟨p,vs,rfl,.inr ⟨i,b⟩,c⟩
  ·cases e
 ·cases e
def keyOf:D->Option (List Int)
 |.tup ds=>asInts ds
 |_=>none
def zbhs{K:Fg}(a:At K ρ H d u)(e:keyOf d=some k):∃p,u=.ref p/\H p=some (.tup ((k.map (Sum.inl:Int->Key)).map kV)):=by
 unfold keyOf at e;split at e
 ·cases a with
  |tup h1 h2 h3=>
   have:=zem h3 e;subst this;exact⟨_,rfl,by rw[zbdw];exact h1⟩
 ·cases e
def zxk{K:Fg}(h:Rep K ρ au H) (a:At K ρ H d u)(b:At K ρ H y w)(e:pairsOf au d=some kvs)(f:keyOf y=some k):
  ∃p o,u=.ref p/\DGet H p w o/\match valD kvs k with
   |some z=>∃v,o=some v/\At K ρ H z v
   |none=>o=none:=by
 obtain⟨p,c,rfl,g,j⟩:=zpk h a e;obtain⟨q,rfl,i⟩:=zbhs b f;refine⟨p,valV c (k.map Sum.inl),rfl,.inr ⟨c,_,q,g,rfl,i,rfl⟩,?_⟩;have:=j.val k;cases hv:valD kvs k with
 |none=>rw[hv] at this;exact this
 |some z=>rw[hv] at this;exact this
def oDIn(a:Bool) (y x:D) (b:Store):Res D:=match keyOf y,pairsOf b x with
 |some k,some kvs=>.ok (.bl (if a then !(valD kvs k).isSome else(valD kvs k).isSome)) b
 |_,_=>.stuck
def oDGet(x y:D) (a:Store):Res D:=match pairsOf a x,keyOf y with
 |some kvs,some k=>match valD kvs k with
  |some v=>.ok v a
  |none=>.stuck
 |_,_=>.stuck
def eDGet2(f g h:SE):SE:=λσ d=>(f σ d).bind λx b=>match pairsOf b x with
 |some _=>(g σ b).bind λy c=>(h σ c).bind λz a=>match pairsOf a x,keyOf y with
  |some kvs,some k=>.ok ((valD kvs k).getD z) a
  |_,_=>.stuck
 |none=>.stuck
def eDPop(f g:SE):SE:=λσ c=>(f σ c).bind λx b=>match pairsOf b x with
 |some _=>(g σ b).bind λy a=>match x,keyOf y with
  |.ref n,some k=>match a[n]? with
   |some (.dT kvs)=>match valD kvs k with
    |some v=>.ok v (a.set n (.dT (dropD kvs k)))
    |none=>.stuck
   |_=>.stuck
  |_,_=>.stuck
 |none=>.stuck
def sDPut(f g h:SE):SS:=λσ d=>(h σ d).bind λv c=>(f σ c).bind λx b=>(g σ b).bind λy a=>match x,keyOf y with
 |.ref n,some k=>match a[n]? with
  |some (.dT kvs)=>if kvs.length<sizeLine then .ok (.nx σ) (a.set n (.dT (putD kvs k v))) else .stuck
  |_=>.stuck
 |_,_=>.stuck
def eDNew:SE:=λ_ a=>.ok (.ref a.length) (a++[.dT []])
def zbox{K:Fg}(c:Rep K ρ au H) (a:At K ρ H d u)(e:pairsOf au d=some kvs):∃p,u=.ref p/\IsD H p:=by
 obtain⟨p,b,rfl,f,_⟩:=zpk c a e;exact⟨p,rfl,.inr ⟨b,f⟩⟩
def zbvn:DE X (.Dict [] [] pos) eDNew:=zgj zbgj λτ H Q b p f=>by
 obtain⟨ρ,σ,g,v,d,a,c,e,q⟩:=b;cases e;obtain⟨E,R⟩:=c.alloc f (x:=.dT []) (o:=.dT []) λE=>⟨[],zu,.nil⟩
 exact q _ _ _ E R (.last c.len.symm)
def zbxs{X:Cx}(U:X.A.units+1<cLine)(hi:DE X i g)(E:DE X o f):PC X .In i o (tD X.K (aS (oDIn false) g f)):=λA s σ H Q I hq=>by
 refine zbtf U hi E A s σ H Q I ?_;obtain⟨ρ,l,z,v,a0,a,Y,e,q⟩:=hq;obtain⟨x,c,e1,e⟩:=za e;obtain⟨y,j,G,e⟩:=za e;refine⟨ρ,l,z,x,c,a,Y,e1,λt H1 u m h P=>?_⟩;refine⟨t,l,c,y,j,a.ext m,h,G,λρ2 H2 w k b a2=>?_⟩;unfold oDIn at e;split at e
 ·rename_i r J S h2;cases e;obtain⟨p,n,rfl,T,C⟩:=zxk b a2 (P.ext k) h2 S;refine⟨p,n,rfl,T,?_⟩;have:n.isSome=(valD J r).isSome:=by
   revert C;split
   ·rename_i d;rintro⟨v,rfl,_⟩;rw[d];rfl
   ·rename_i d;rintro rfl;rw[d];rfl
  rw[this];exact q _ _ _ (m.trans k) b (.bl _)
 ·cases e
def d_in(h:PC X op a b (tD X.K t))(c:behindInMarks op b=false:=by first|exact nobehind _ (by decide) (by decide)|rfl):DE X (.Compare a [op] [b] pos) t:=zbtc h c
def zbym(h:PC X op a b (tD X.K t))(d:behindInMarks op b=false:=by first|exact nobehind _ (by decide) (by decide)|rfl):DT X (.Compare a [op] [b] pos) (eB t):=zbko (zbso h d) λτ H Q c=>eB_t _ _ _ c
def zbvo{X:Cx}(S:X.A.units+1<cLine)(t:DE X o f)(hi:DE X i g)(s:NoSl i):DE X (.Subscript o i pos) (aS oDGet f g):=zgj (zbmz S t hi s) λτ H Q d=>by
 obtain⟨ρ,σ,r,v,a0,a,T,e,q⟩:=d;obtain⟨x,c,e1,e⟩:=za e;obtain⟨y,j,A,e⟩:=za e;refine⟨ρ,σ,r,x,c,a,T,e1,λn H1 u m h I=>?_⟩;refine⟨n,σ,c,y,j,a.ext m,h,A,λρ2 H2 w k b U=>?_⟩;unfold oDGet at e;split at e
 ·rename_i J Y;split at e
  ·rename_i z C;cases e;obtain⟨p,oo,rfl,P,l⟩:=zxk b (I.ext k) U J Y;rw[C] at l;obtain⟨E,rfl,G⟩:=l;exact⟨p,E,rfl,P,q _ _ _ (m.trans k) b G⟩
  ·cases e
 ·cases e
def zbqk{X:Cx}(hu:X.A.units + 1<cLine)(P:DE X o f)(he:DE X e g)(Y:DE X f' h)(m:M2 X o "get" apos e f' cpos):DE X (.Call (.Attribute o "get" apos) [e,f'] [] cpos) (eDGet2 f g h):=zgj (zbgl hu P he Y m) λτ H Q n=>by
 obtain⟨ρ,σ,I,v,a0,a,rp,e,q⟩:=n;obtain⟨x,c,e1,e⟩:=za e;refine⟨ρ,σ,I,x,c,a,rp,e1,λG H1 u A d C=>?_⟩;split at e
 ·rename_i h0;obtain⟨p,rfl,hd⟩:=zbox d C h0;obtain⟨y,i,S,e⟩:=za e;obtain⟨z,l,E,e⟩:=za e;refine⟨p,rfl,hd,?_⟩;refine⟨G,σ,c,y,i,a.ext A,d,S,λT H2 w k j a2=>?_⟩;refine⟨T,σ,i,z,l,a.ext (A.trans k),j,E,λρ3 H3 t s b a3=>?_⟩;split at e
  ·rename_i h1 h2;cases e;obtain⟨p',oo,ep,g1,J⟩:=zxk b (C.ext (k.trans s)) (a2.ext s) h1 h2;cases ep;refine⟨oo,g1,q _ _ _ (A.trans (k.trans s)) b ?_⟩;revert J;split
   ·rename_i r;rintro⟨vv,rfl,U⟩;rw[r];exact U
   ·rename_i r;rintro rfl;rw[r];exact a3
  ·cases e
 ·cases e
def zbvm{X:Cx}(hu:X.A.units + 1<cLine)(U:DE X o f)(he:DE X e g)(m:M1 X o "pop" apos e cpos):DE X (.Call (.Attribute o "pop" apos) [e] [] cpos) (eDPop f g):=zgj (zbgi hu U he m) λτ H Q i=>by
 obtain⟨ρ,σ,S,v,a3,a,rp,e,q⟩:=i;obtain⟨x,d,e1,e⟩:=za e;refine⟨ρ,σ,S,x,d,a,rp,e1,λP H1 u I h C=>?_⟩;split at e
 ·rename_i h0;obtain⟨p,rfl,hd⟩:=zbox h C h0;obtain⟨y,j,Y,e⟩:=za e;refine⟨p,rfl,hd,?_⟩;refine⟨P,σ,d,y,j,a.ext I,h,Y,λt H2 w r c a2=>?_⟩;split at e
  ·rename_i n k hk _;split at e
   ·rename_i a0 T;split at e
    ·rename_i z hv;cases e;obtain⟨p',ep,A,G,l,s⟩:=zdq c (C.ext r) T (by intro z;cases z);cases ep;obtain⟨b,rfl,g3⟩:=zbhs a2 hk;have J:=s.val k;rw[hv] at J;obtain⟨vv,g5,g6⟩:=J;have E:Ext t H2 t (upd H2 p (.dT (dropK G (k.map Sum.inl)))):=Ext.wr A (zks l) _;exact⟨G,_,vv,b,l,rfl,g3,g5,q _ _ _ ((I.trans r).trans E) (c.wr A (zks l) ⟨_,zu,(s.drop k).ext E⟩) (g6.ext E)⟩
    ·cases e
   ·cases e
  ·cases e
 ·cases e
def zbps{X:Cx}{d:Pos}(hu:X.A.units+1<cLine)(ho:DE X o f)(hi:DE X i g)(hv:DE X value h)(hs:swapsWith value (some (.Subscript o i pos')) d.line X.env=pure false):
  DSt X (.Assign [.Subscript o i pos'] value d) (sDPut f g h):=zrl (zbml hu ho hi hv hs) λE τ H G=>by
 obtain⟨ρ,σ,Y,fl,a4,a,rp,e,q⟩:=G;obtain⟨v,j,e1,e⟩:=za e;obtain⟨x,l,e2,e⟩:=za e;obtain⟨y,C,T,e⟩:=za e;refine⟨ρ,σ,Y,v,j,a,rp,e1,λU H1 u s J a1=>?_⟩;refine⟨U,σ,j,x,l,a.ext s,J,e2,λρ2 H2 w m A a2=>?_⟩;refine⟨ρ2,σ,l,y,C,a.ext (s.trans m),A,T,λP H3 t r c a3=>?_⟩;split at e
 ·rename_i n k hk _;split at e
  ·rename_i a0 hn;split at e
   ·rename_i hl;cases e;obtain⟨p,rfl,S,vs,I,Q⟩:=zdq c (a2.ext r) hn (by intro z;cases z);obtain⟨b,rfl,g3⟩:=zbhs a3 hk;have E:Ext P H3 P (upd H3 p (.dT (putK vs (k.map Sum.inl) u))):=Ext.wr S (zks I) _;refine⟨p,_,rfl,DPut.t I g3 (by rw[←Q.length];exact hl),?_⟩;exact q _ _ _ ((s.trans (m.trans r)).trans E) (c.wr S (zks I) ⟨_,zu,(Q.put k (a1.ext (m.trans r))).ext E⟩) (a.ext ((s.trans (m.trans r)).trans E))
   ·cases e
  ·cases e
 ·cases e
def bSorted:List D->Store->Res D:=λb a=>match b with
 |[x]=>match (asL a x).bind asRows with
  |some l=>if l.length<=1000000 then .ok (.lst (aJ (sortR l))) a else .stuck
  |none=>match pairsOf a x with
   |some kvs=>if kvs.length<=1000000 then .ok (.lst (aJ (sortR (kvs.map (·.1))))) a else .stuck
   |none=>.stuck
 |_=>.stuck
def zel{K:Fg}:CaD K bSorted (λj H Q=>rSortedAL K j H Q\/rSortedDAL j H Q):=λρ H I j P z G Q d A e q=>by
 unfold bSorted at e;split at e
 ·obtain⟨u,rfl,a⟩:=A.one;split at e
  ·rename_i l r;obtain⟨J,E,r⟩:=xfp.mp r;split at e
   ·rename_i b;cases e;obtain⟨p,w,rfl,n,o⟩:=zhc d a E;obtain⟨s,rfl,rfl,v⟩:=zsy o r;rw[xbb] at b;refine .inl ⟨p,s,rfl,SqL.of n,b,λx f=>SqT.of (v x f).1,λt h c i k=>?_⟩;have m:h.map (·.2)=sortR (s.map (·.2)):=zll (i.map _) k;refine q _ _ _ (Ext.new c _) (d.new c _) (.newL d c ?_);rw[←m];exact zph h λx f=>v x (i.mem_iff.mp f)
   ·cases e
  ·split at e
   ·rename_i g C;split at e
    ·rename_i b;cases e;obtain⟨p,w,rfl,n,o⟩:=zpk d a C;refine .inr ⟨p,w,g.map (·.1),rfl,n,o.keys,by rw[xbb];exact b,λt h c i k y=>?_⟩;have m:h.map (·.2)=sortR (g.map (·.1)):=zll i k;refine q _ _ _ (Ext.new c _) (d.new c _) (.newL d c ?_);rw[←m];exact zph h λx f=>⟨y x f,zru d (y x f)⟩
    ·cases e
   ·cases e
 ·cases e
def zbw{X:Cx}(c:X.calm=true)(b:X.A.units + 64<cLine):CallR X (.builtin "sorted") (λa H Q=>rSortedAL X.K a H Q\/rSortedDAL a H Q):=(zom b).or (zmu c b)
def eAppend(f:SE) (g:SA):SE:=λσ c=>(f σ c).bind λx b=>match x,asL b x with
 |.ref n,some _=>(g σ b).bind λd a=>match d,a[n]? with
  |[y],some (.lst xs)=>if xs.length<sizeLine then .ok .non (a.set n (.lst (xs++[y]))) else .stuck
  |_,_=>.stuck
 |_,_=>.stuck
def eExtend(f:SE) (g:SA):SE:=λσ c=>(f σ c).bind λx b=>match x,asL b x with
 |.ref n,some _=>(g σ b).bind λd a=>match d,a[n]? with
  |[y],some (.lst xs)=>match asL a y with
   |some zs=>if xs.length+zs.length<=sizeLine then .ok .non (a.set n (.lst (xs++zs))) else .stuck
   |none=>.stuck
  |_,_=>.stuck
 |_,_=>.stuck
def eClear(f:SE):SE:=λσ b=>(f σ b).bind λx a=>match x with
 |.ref n=>match a[n]? with
  |some (.lst _)=>.ok .non (a.set n (.lst []))
  |_=>.stuck
 |_=>.stuck
def zbjp{c:Pos}(Y:DE X o f)(ha:DA X (e::es) ga)(g:attributeBase o "append" X.env (eval o X.env)=eval o X.env:=by rfl)
  (i:((backTo cpos (starEach (e::es) X.env)).all (λx=>!x.1)&&(backToKw cpos (keywordEach [] X.env)).all (λx=>x.1.isSome)
   && decide ((e::es).length+([]:List Keyword).length+(if([]:List Keyword).isEmpty then 0 else 1)<30))=true:=by rfl)
  (d:(c.endLine==cpos.line)=true:=by rfl)(U:starEach (e::es) X.env=(false,eval e X.env)::starEach es X.env:=by rfl)(b:(backTo cpos (starEach es X.env)).any (·.1)=false:=by rfl):
  DE X (.Call (.Attribute o "append" c) (e::es) [] cpos) (eAppend f ga):=zgj (zbrj xle F.slot_list_append F.type_list_append zrx Y ha g i d U b) λτ H Q m=>by
 obtain⟨ρ,σ,S,v,a0,a,rp,e,q⟩:=m;obtain⟨x,j,e1,e⟩:=za e;refine⟨ρ,σ,S,x,j,a,rp,e1,λP H1 u I k G=>?_⟩;split at e
 ·rename_i n _ hL;obtain⟨ys,s,e2,e⟩:=za e;obtain⟨p,vs,rfl,g1,g2⟩:=zhc k G hL;refine⟨.inl ⟨rfl,_,SqL.of g1⟩,P,σ,j,ys,s,a.ext I,k,e2,λA H2 ws t h a2=>?_⟩;split at e
  ·rename_i y xs T;split at e
   ·rename_i hl;cases e;obtain⟨w,rfl,a3⟩:=a2.one;obtain⟨p',ep,C,l,r,J⟩:=zdq h (G.ext t) T (by intro z;cases z);cases ep;have E:Ext A H2 A (upd H2 p (.lst (l++[w]))):=Ext.wr C (zey r) _;exact⟨p,l,w,rfl,rfl,r,by rw[J.length];exact hl,q _ _ _ ((I.trans t).trans E) (h.wr C (zey r) ⟨_,zu,(J.append (.cons a3 .nil)).ext E⟩) .non⟩
   ·cases e
  ·cases e
 ·cases e
def zbjj{d:Pos}(ho:DE X o f)(ha:DA X (e::es) ga)(i:attributeBase o "extend" X.env (eval o X.env)=eval o X.env:=by rfl)
  (j:((backTo cpos (starEach (e::es) X.env)).all (λx=>!x.1)&&(backToKw cpos (keywordEach [] X.env)).all (λx=>x.1.isSome)
   && decide ((e::es).length+([]:List Keyword).length+(if([]:List Keyword).isEmpty then 0 else 1)<30))=true:=by rfl)
  (h:(d.endLine==cpos.line)=true:=by rfl)(hs:starEach (e::es) X.env=(false,eval e X.env)::starEach es X.env:=by rfl)(c:(backTo cpos (starEach es X.env)).any (·.1)=false:=by rfl):
  DE X (.Call (.Attribute o "extend" d) (e::es) [] cpos) (eExtend f ga):=zgj (zbrj xle F.slot_list_extend F.type_list_extend zbao ho ha i j h hs c) λτ H Q s=>by
 obtain⟨ρ,σ,Y,v,a0,a,rp,e,q⟩:=s;obtain⟨x,l,e1,e⟩:=za e;refine⟨ρ,σ,Y,x,l,a,rp,e1,λU H1 u S m J=>?_⟩;split at e
 ·rename_i n _ hL;obtain⟨ys,A,e2,e⟩:=za e;obtain⟨p,vs,rfl,g1,g2⟩:=zhc m J hL;refine⟨.inl ⟨rfl,_,SqL.of g1⟩,U,σ,l,ys,A,a.ext S,m,e2,λG H2 ws C g a2=>?_⟩;split at e
  ·rename_i y xs hn;split at e
   ·rename_i zs hz;split at e
    ·rename_i hl;cases e;obtain⟨w,rfl,a3⟩:=a2.one;obtain⟨p',ep,I,r,t,T⟩:=zdq g (J.ext C) hn (by intro z;cases z);cases ep;obtain⟨b,k,rfl,m1,P⟩:=zhc g a3 hz;have E:Ext G H2 G (upd H2 p (.lst (r++k))):=Ext.wr I (zey t) _;exact⟨p,b,r,k,rfl,rfl,t,m1,by rw[T.length,P.length];exact hl,q _ _ _ ((S.trans C).trans E) (g.wr I (zey t) ⟨_,zu,(T.append P).ext E⟩) .non⟩
    ·cases e
   ·cases e
  ·cases e
 ·cases e
def zbqm{c:Pos}{b:Pos}(w:DE X o f)(g:attributeBase o "clear" X.env (eval o X.env)=eval o X.env:=by rfl)(d:(c.endLine==b.line)=true:=by rfl):DE X (.Call (.Attribute o "clear" c) [] [] b) (eClear f):=
 zgj (zbtd xle F.slot_list_clear F.type_list_clear zbhb w g d) λτ H Q j=>by
 obtain⟨ρ,σ,s,v,I,a,A,e,q⟩:=j;obtain⟨x,k,C,e⟩:=za e;refine⟨ρ,σ,s,x,k,a,A,C,λm H1 u G h y=>?_⟩;split at e
 ·split at e
  ·rename_i n _ J t;cases e;obtain⟨p,rfl,r,l,i,P⟩:=zdq h y t (by intro z;cases z);have E:Ext m H1 m (upd H1 p (.lst [])):=Ext.wr r (zey i) _;exact⟨.inl ⟨rfl,_,SqL.of i⟩,p,l,rfl,rfl,i,q _ _ _ (G.trans E) (h.wr r (zey i) ⟨_,zu,.nil⟩) .non⟩
  ·cases e
 ·cases e
def eFz(f:SE):SE:=λσ b=>(f σ b).bind λx a=>match x with
 |.ref n=>match a[n]? with
  |some (.lst xs)=>.ok (.lst xs) (a.set n .dead)
  |_=>.stuck
 |_=>.stuck
def d_fz(r:DE X o f):DE X o (eFz f):=zgj r λτ H Q g=>by
 obtain⟨ρ,σ,l,v,I,a,y,e,q⟩:=g;obtain⟨x,j,A,e⟩:=za e;refine⟨ρ,σ,l,x,j,a,y,A,λk H1 u C b w=>?_⟩;split at e
 ·rename_i n;split at e
  ·rename_i S m;cases e;obtain⟨p,rfl,h,G,t,P⟩:=zdq b w m (by intro z;cases z);have c:=(xbd.mp h).1;obtain⟨E,R⟩:=b.kill c;refine q _ _ _ (C.trans E) R (.lst t ⟨λz=>?_,λz=>(b.gh p z).2 (xbn h)⟩ (P.ext E));obtain⟨i,J,s⟩:=xev z;have d:(k.m.set n none)[i]?=some (some p):=by rw[xbf J,s]
   by_cases hin:i=n
   ·subst hin;rw[xfg c] at d;simp at d
   ·rw[xbp (xdn hin)] at d;exact hin (b.inj i n p d h)
  ·cases e
 ·cases e
def sNx:SS:=λσ a=>.ok (.nx σ) a
def sBrk:SS:=λσ a=>.ok (.brk σ) a
def sCt:SS:=λσ a=>.ok (.ct σ) a
def sRet(f:SE):SS:=λσ b=>(f σ b).bind λv a=>.ok (.ret v) a
def sRetN:SS:=λ_ a=>.ok (.ret .non) a
def sDrop(f:SE):SS:=λσ b=>(f σ b).bind λ_ a=>.ok (.nx σ) a
def aF(i:Nat) (f:SE):SS:=λσ b=>(f σ b).bind λv a=>.ok (.nx (σ.set i (some v))) a
def aD(s t:SS):SS:=λσ a=>match s σ a with
 |.ok (.nx σ1) st1=>t σ1 st1
 |r=>r
def sIf(c:ST) (s t:SS):SS:=λσ d=>(c σ d).bind λb a=>if b=true then s σ a else t σ a
def sAug(i:Nat) (g:D->D->Store->Res D) (f:SE):SS:=λσ c=>match σ[i]? with
 |some (some x)=>(f σ c).bind λy b=>(g x y b).bind λz a=>.ok (.nx (σ.set i (some z))) a
 |_=>.stuck
def sSetIx(f g h:SE):SS:=λσ d=>(h σ d).bind λv c=>(f σ c).bind λx b=>(g σ b).bind λy a=>match x,y with
 |.ref n,.int k=>match a[n]? with
  |some (.lst xs)=>match ixN xs.length k with
   |some j=>.ok (.nx σ) (a.set n (.lst (xs.set j v)))
   |none=>.stuck
  |_=>.stuck
 |_,_=>.stuck
def zbvb:DSs X [] sNx:=zbfx zbmh λE τ H b=>by
 obtain⟨ρ,σ,f,g,d,a,c,e,q⟩:=b;cases e;exact q _ _ _ (.refl _ _) c a
def zbiw:DSt X (.Break pos) sBrk:=zrl zbga λE τ H b=>by
 obtain⟨ρ,σ,f,g,d,a,c,e,q⟩:=b;cases e;exact q _ _ _ (.refl _ _) c a
def zbuz(k:DE X e f):DSt X (.Return (some e) pos) (sRet f):=zrl (zbss k) λE τ H b=>by
 obtain⟨ρ,σ,j,o,i,a,g,e,q⟩:=b;obtain⟨x,h,l,e⟩:=za e;cases e;exact⟨ρ,σ,j,x,_,a,g,l,λn H1 u m c d=>q _ _ _ m c d⟩
def zbpr{b:Pos}(l:DE X e f)(m:swapsWith e none b.line X.env=pure false:=by rfl):DSt X (.Expr e b) (sDrop f):=zrl (zbmk l m) λE τ H c=>by
 obtain⟨ρ,σ,k,r,j,a,h,e,q⟩:=c;obtain⟨x,i,n,e⟩:=za e;cases e;exact⟨ρ,σ,k,x,_,a,h,n,λp H1 u g d o=>q _ _ _ g d (a.ext g)⟩
def zbxk{K:Fg}:∀E τ H,tDS K (aF i f) E τ H->tAsg (tD K f) (gName i) E τ H:=λE τ H b=>by
 obtain⟨ρ,σ,l,o,k,a,h,e,q⟩:=b;obtain⟨x,j,m,e⟩:=za e;cases e;exact⟨ρ,σ,l,x,_,a,h,m,λn H1 u d c g=>q _ _ _ d c ((a.ext d).set g i)⟩
def zbuy{X:Cx}{a:Pos}(j:X.N.Nodup)(g:X.N[i]?=some x)(c:L2.Loc X.env.scope x)(d:DE X e f)(h:swapsWith e (some (.Name x pos')) a.line X.env=pure false:=by rfl)(b:X.fn x=true\/X.env.scope.names.lookup x=some .local:=by first|exact .inl rfl|exact .inr rfl|assumption):
 DSt X (.Assign [.Name x pos'] e a) (aF i f):=zrl (zbsr j g c d h b) zbxk
def zbva(a:DSt X sm s):DSs X [sm] s:=zbmg a
section
def zbpt(n:DSt X w s)(p:DSs X d t):DSs X (w::d) (aD s t):=zbfx (zbfy n p) λE τ H g=>by
 obtain⟨ρ,σ,k,i,b,a,j,e,q⟩:=g;unfold aD at e;split at e
 ·rename_i m c r;exact⟨ρ,σ,k,_,c,a,j,r,λo H1 x u h l=>⟨o,m,c,i,b,l,h,e,q.ext u⟩⟩
 ·rename_i f;refine⟨ρ,σ,k,i,b,a,j,e,?_⟩;cases i with
  |nx σ'=>exact absurd e (f σ' b)
  |brk σ'=>exact q
  |ct σ'=>exact q
  |ret v=>exact q
end
def zbyn(p:DT X c b)(m:DSs X a' s)(l:DSs X b' t):DSt X (.If c a' b' pos) (sIf b s t):=zrl (zbxn p m l) λE τ H i=>by
 obtain⟨ρ,σ,o,k,f,a,n,e,q⟩:=i;obtain⟨x,d,r,e⟩:=za e;refine⟨ρ,σ,o,x,d,a,n,r,λj H1 h g=>?_⟩;cases x with
 |true=>exact iteT ⟨j,σ,d,k,f,a.ext h,g,e,q.ext h⟩
 |false=>exact iteF ⟨j,σ,d,k,f,a.ext h,g,e,q.ext h⟩
def IpD(K:Fg) (g:D->D->Store->Res D) (r:TIp):Prop:=
 ∀ρ H d x y u v z a (Q:VK),Rep K ρ d H->At K ρ H x u->At K ρ H y v->g x y d=.ok z a->(∀c b w,Ext ρ H c b->Rep K c a b->At K c b z w->Q w b)->r u v H Q
def zbvd{X:Cx}(p:X.N.Nodup)(T:X.N[i]?=some x)(s:L2.Loc X.env.scope x)(Q:DE X e f)(r:PIp X op ti)(A:IpD X.K g ti)(G:X.fn x=true\/X.env.scope.names.lookup x=some .local:=by first|exact .inl rfl|exact .inr rfl|assumption):
  DSt X (.AugAssign (.Name x pos') op e pos) (sAug i g f):=zrl (zbst p T s Q r G) λE τ H h=>by
 obtain⟨ρ,σ,o,fl,l,a,J,e,q⟩:=h;unfold sAug at e;split at e
 ·rename_i d U;obtain⟨y,b,S,e⟩:=za e;obtain⟨z,Y,t,e⟩:=za e;cases e;obtain⟨u,I,v⟩:=a.get U;refine⟨u,I,ρ,σ,o,y,b,a,J,S,λn H1 w k j C=>?_⟩;exact A n H1 b d y u w z l _ j (v.ext k) C t λρ2 H2 zz m c P=>q _ _ _ (k.trans m) c ((a.ext (k.trans m)).set P i)
 ·cases e
def ip_D{K:Fg}:IpD K (oI (λ_ _=>True) λi j=>.int (p i j)) (ipI p):=λρ H f x y u v z d Q c a b e q=>by
 unfold oI at e;split at e
 ·cases a;cases b;rw[if_pos True.intro] at e;cases e;exact⟨_,_,rfl,rfl,q _ _ _ (.refl _ _) c (.int _)⟩
 ·cases e
def zbis{c:Pos}(he:DE X value h)(ho:DE X o f)(hi:DE X i g)(ha:∀v,assign (.Subscript o i pos') X.env v=(do
   let ov ←holding [v] (eval o X.env)
   let iv ←holding [v,ov] (eval i X.env)
   standAt pos'
   holding [v,ov,iv] (setItem ov iv v)
   release [v,ov,iv] []):=by intro _;rfl)
  (hs:swapsWithSole [.Subscript o i pos'] value c.line X.env=pure false:=by rfl)(hw:swappedStores [.Subscript o i pos'] value X.env=pure none:=by rfl)
  (h1:(assignEach [.Subscript o i pos'] X.env).map (·.2)=[assign (.Subscript o i pos') X.env]:=by rfl):DSt X (.Assign [.Subscript o i pos'] value c) (sSetIx f g h):=
 zrl (zbmm he (zbsw ho hi zbfo ha) hs hw h1) λE τ H G=>by
 obtain⟨ρ,σ,au,fl,a0,a,rp,e,q⟩:=G;obtain⟨v,d,e1,e⟩:=za e;obtain⟨x,l,e2,e⟩:=za e;obtain⟨y,C,U,e⟩:=za e;refine⟨ρ,σ,au,v,d,a,rp,e1,λY H1 u s J a1=>?_⟩;refine⟨Y,σ,d,x,l,a.ext s,J,e2,λρ2 H2 w m A a2=>?_⟩;refine⟨ρ2,σ,l,y,C,a.ext (s.trans m),A,U,λP H3 t r b a3=>?_⟩;split at e
 ·rename_i n k _;split at e
  ·rename_i xs hn;split at e
   ·rename_i j hj;cases e;cases a3;obtain⟨p,rfl,S,T,I,Q⟩:=zdq b (a2.ext r) hn (by intro z;cases z);have E:Ext P H3 P (upd H3 p (.lst (T.set j u))):=Ext.wr S (zey I) _;refine⟨p,T,k,j,rfl,rfl,I,by rw[Q.length];exact hj,?_⟩;exact q _ _ _ ((s.trans (m.trans r)).trans E) (b.wr S (zey I) ⟨_,zu,(Q.set (a1.ext (m.trans r)) j).ext E⟩) (a.ext ((s.trans (m.trans r)).trans E))
   ·cases e
  ·cases e
 ·cases e
abbrev SG:=D->DS->Option DS
def gN(i:Nat):SG:=λd σ=>some (σ.set i (some d))
def gsNil:List D->DS->Option DS:=λa σ=>match a with
 |[]=>some σ
 |_=>none
def gsCons(t:SG) (u:List D->DS->Option DS):List D->DS->Option DS:=λb σ=>match b with
 |d::r=>(t d σ).bind λa=>u r a
 |_=>none
def gT(n:Nat) (u:List D->DS->Option DS):SG:=λd σ=>match d with
 |.tup ds=>if ds.length=n then u ds σ else none
 |_=>none
def gD(K:Fg) (b:SG):TG:=λv τ H Q=>∃ρ σ d a,AtS K ρ H σ τ/\At K ρ H d v/\b d σ=some a/\∀c,AtS K ρ H a c->Q c H
def gDs(K:Fg) (b:List D->DS->Option DS):TGs:=λe τ H Q=>∃ρ σ d a,AtS K ρ H σ τ/\AtAll K ρ H d e/\b d σ=some a/\∀c,AtS K ρ H a c->Q c H
abbrev DG(X:Cx) (a:Expr) (b:SG):Prop:=PG X a (gD X.K b)
abbrev DGs(X:Cx) (a:List Expr) (b:List D->DS->Option DS):Prop:=PGs X a (gDs X.K b)
def zbwu(h:PG X e g)(k:∀v τ H Q,g' v τ H Q->g v τ H Q):PG X e g':=λa s σ H v u Q I r q=>h a s σ H v u Q I r (k _ _ _ _ q)
def zbmu(h:PGs X es g)(k:∀v τ H Q,g' v τ H Q->g v τ H Q):PGs X es g':=λa s σ H v u Q I r q=>h a s σ H v u Q I r (k _ _ _ _ q)
def zbqd{X:Cx}(j:X.N.Nodup)(h:X.N[i]?=some x)(g:L2.Loc X.env.scope x)(f:X.fn x=true\/X.env.scope.names.lookup x=some .local:=by first|exact .inl rfl|exact .inr rfl|assumption):DG X (.Name x pos) (gN i):=
 zbwu (zbmw j h g f) λv τ H Q c=>by
 obtain⟨ρ,σ,d,k,a,b,e,q⟩:=c;cases e;exact q _ (a.set b i)
def zbqc:DGs X [] gsNil:=zbmu zbmv λv τ H Q c=>by
 obtain⟨ρ,σ,d,f,a,b,e,q⟩:=c;unfold gsNil at e;split at e
 ·cases e;cases b;exact⟨rfl,q _ a⟩
 ·cases e
def zbje(j:DG X e t)(k:DGs X es u)(l:(assignEach (e::es) X.env).map (·.2)=assign e X.env::(assignEach es X.env).map (·.2):=by rfl):DGs X (e::es) (gsCons t u):=
 zbmu (zbgf j k l) λv τ H Q c=>by
 obtain⟨ρ,σ,d,h,a,b,e,q⟩:=c;unfold gsCons at e;split at e
 ·obtain⟨f,m,i⟩:=xfp.mp e;cases b with
  |cons b1 b2=>exact⟨_,_,rfl,ρ,σ,_,f,a,b1,m,λn g=>⟨ρ,f,_,h,g,b2,i,q⟩⟩
 ·cases e
def zbvh{X:Cx}(l:X.calm=true)(h:DGs X es u)(i:(assignEach es X.env).length=n:=by rfl)(f:(assignEach es X.env).findIdx? (·.1)=none:=by rfl):DG X (.Tuple es k pos) (gT n u):=
 zbwu (zbsv l h i f) λv τ H Q c=>by
 obtain⟨ρ,σ,d,g,a,b,e,q⟩:=c;unfold gT at e;split at e
 ·split at e
  ·rename_i j;cases b with
   |tup h1 h2 h3=>exact⟨_,_,rfl,SqT.of h1,by rw[h3.length];exact j,ρ,σ,_,g,a,h3,e,q⟩
  ·cases e
 ·cases e
structure ExtG (ρ:Loc) (H:Hp) (ρ':Loc) (H':Hp):Prop where
 len:ρ.m.length<=ρ'.m.length
 old:∀(n:Nat) (a:Addr),n < ρ.m.length->ρ'.m[n]?=some (some a)->ρ.m[n]?=some (some a)
 keep:∀a o,H a=some o->some a∉ρ.m->H' a=some o/\some a∉ρ'.m
 gho:∀a∈ρ'.g,a∈ρ.g\/H a=none
 frz:∀a ob u,H a=some (.frz ob u)->H' a=some (.frz ob u)
def Ext.toG(x:Ext ρ H ρ' H'):ExtG ρ H ρ' H':=⟨x.len,x.old,x.keep,λa h=>.inl (by rw[←x.gho];exact h),x.frz⟩
def ExtG.then(a:ExtG ρ H ρ1 H1)(b:Ext ρ1 H1 ρ2 H2):ExtG ρ H ρ2 H2:=
 ⟨xbc a.len b.len,λn c h e=>a.old n c h (b.old n c (xbo h a.len) e),λc o e n=>by
  obtain⟨f,g⟩:=a.keep c o e n
  exact b.keep c o f g,λc h=>a.gho c (by rw[←b.gho];exact h),λc d u e=>b.frz c d u (a.frz c d u e)⟩
def ExtG.out(x:ExtG ρ H ρ' H') (h:H a=some o)(n:Out ρ a):H' a=some o/\Out ρ' a:=
 ⟨(x.keep a o h n.1).1,(x.keep a o h n.1).2,λz=>by
  rcases x.gho a z with q|q
  ·exact n.2 q
  ·rw[h] at q;cases q⟩
def ExtG.mv(x:ExtG ρ H ρ' H'):Mv ρ H ρ' H':=⟨λh n=>x.out h n,x.len,x.old⟩
def At.extG{K:Fg}(x:ExtG ρ H ρ' H') (h:At K ρ H d v):At K ρ' H' d v:=h.mv x.mv
def Ls.extG{K:Fg}(x:ExtG ρ H ρ' H')(h:Ls K ρ H a vs):Ls K ρ' H' a vs:=h.mv x.mv
structure ItOk (K:Fg) (ρ:Loc) (H:Hp) (J:It) (xs:List D):Prop where
 item:∀ρ2 H2,ExtG ρ H ρ2 H2->∀(i:Nat) (x:D),xs[i]?=some x->J.go i H2/\∀y H3,J.yld i H2 y H3->Ext ρ2 H2 ρ2 H3/\∀au,Rep K ρ2 au H2->Rep K ρ2 au H3/\At K ρ2 H3 x y
 done:∀ρ2 H2,ExtG ρ H ρ2 H2->∀i:Nat,xs.length<=i->J.stop i H2
def iD(K:Fg) (f:SA):TI:=λτ H R=>∃ρ σ d e a,AtS K ρ H σ τ/\Rep K ρ d H/\f σ d=.ok e a/\∀c b J,Ext ρ H c b->Rep K c a b->ItOk K c b J e->R J b
abbrev DI(X:Cx) (b a:Expr) (f:SA):Prop:=PI X b a (iD X.K f)
noncomputable def seqV:D->Option (List D)
 |.tup xs=>some xs
 |.lst xs=>some xs
 |.scr xs=>some xs
 |_=>none
def aH(f:SE):SA:=λσ b=>(f σ b).bind λx a=>match seqV x with
 |some xs=>.ok xs a
 |none=>.stuck
noncomputable def rng(lo:Int) (n:Nat):List D:=(List.range n).map λ(i:Nat)=>D.int (lo+i)
def iR1(g:SA):SA:=λσ b=>(g σ b).bind λc a=>match c with
 |[.int j]=>if -(2^62)<=j/\j<2^62 then .ok (rng 0 j.toNat) a else .stuck
 |_=>.stuck
def iR2(g:SA):SA:=λσ b=>(g σ b).bind λc a=>match c with
 |[.int i,.int j]=>if -(2^62)<=i/\i<2^62/\-(2^62)<=j/\j<2^62 then .ok (rng i (j-i).toNat) a else .stuck
 |_=>.stuck
def zfy{lo:Int}(h:(rng lo n)[i]?=some x):i<n/\x=.int (lo+i):=by
 unfold rng at h;rw[xcg] at h;rcases xge i n with z|z
 ·rw[xkf z] at h;exact⟨z,(xda h).symm⟩
 ·rw[xfz (by rw[xgn];exact z)] at h;cases h
def zbow{K:Fg}{lo:Int}:ItOk K ρ H (Itr lo n) (rng lo n) where
 item:=λb H2 x i d e=>by
  obtain⟨c,rfl⟩:=zfy e;refine⟨c,λy H3 a=>?_⟩;obtain⟨rfl,rfl⟩:=a;exact⟨.refl _ _,λ_ r=>⟨r,.int _⟩⟩
 done:=λb H2 x i h=>by
  unfold rng at h;rw[xbb,xgn] at h;exact h
def zbkp(h:PI X tg l t)(k:∀τ H R,t' τ H R->t τ H R):PI X tg l t':=λa s σ H R I q=>h a s σ H R I (k _ _ _ q)
def zbwt(h:PI X tg l t)(b:PI X tg l t'):PI X tg l (λτ H R=>t τ H R\/t' τ H R):=λa s σ H R I q=>by
 rcases q with q|q
 ·exact h a s σ H R I q
 ·exact b a s σ H R I q
def zbet{K:Fg}(c:∀b H2,ExtG ρ H b H2->SqL K H2 p vs)(g:AtAll K ρ H xs vs):ItOk K ρ H (Itl K p) xs where
 item:=λb H2 x i d e=>by
  obtain⟨v,f,a⟩:=g.get e;refine⟨⟨vs,v,c _ _ x,f⟩,λy H3 j=>?_⟩;obtain⟨rfl,k⟩:=j;have:=k vs (c _ _ x);rw[f] at this;cases this;exact⟨.refl _ _,λ_ r=>⟨r,a.extG x⟩⟩
 done:=λb H2 x i h=>⟨vs,c _ _ x,by rw[g.length];exact h⟩
def zbwk{K:Fg}(c:∀b H2,ExtG ρ H b H2->SqT K H2 p vs)(g:AtAll K ρ H xs vs):ItOk K ρ H (Itt K p) xs where
 item:=λb H2 x i d e=>by
  obtain⟨v,f,a⟩:=g.get e;refine⟨⟨vs,v,c _ _ x,f⟩,λy H3 j=>?_⟩;obtain⟨rfl,k⟩:=j;have:=k vs (c _ _ x);rw[f] at this;cases this;exact⟨.refl _ _,λ_ r=>⟨r,a.extG x⟩⟩
 done:=λb H2 x i h=>⟨vs,c _ _ x,by rw[g.length];exact h⟩
def zbvg(o:DE X l f):DI X tg l (aH f):=zbkp (zbwt (zbdb o) (zbms o)) λτ H R h=>by
 obtain⟨ρ,σ,j,s,r,a,i,e,q⟩:=h;obtain⟨x,p,k,e⟩:=za e;cases x with
 |tup ys=>
  cases e;refine .inr ⟨ρ,σ,j,_,_,a,i,k,λm H1 u g b c=>?_⟩;cases c with
  |tup h1 h2 h3=>exact⟨_,rfl,⟨_,SqT.of h1⟩,q _ _ _ g b (zbwk (λn H2 d=>SqT.of (d.out h1 h2).1) h3)⟩
 |lst ys=>
  cases e;refine .inl ⟨ρ,σ,j,_,_,a,i,k,λm H1 u g b c=>?_⟩;cases c with
  |lst h1 h2 h3=>exact⟨_,rfl,⟨_,SqL.of h1⟩,q _ _ _ g b (zbet (λn H2 d=>SqL.of (d.out h1 h2).1) h3)⟩
 |scr ys=>
  cases e;refine .inl ⟨ρ,σ,j,_,_,a,i,k,λm H1 u g b c=>?_⟩;cases c with
  |scr h1 h3=>exact⟨_,rfl,⟨_,h1.sq⟩,q _ _ _ g b (zbet (λn H2 d=>(h1.extG d).sq) h3)⟩
 |_=>cases e
def zbbo(h:Gl X "range")(o:X.mg "range"=none)(i:DA X [a] g)(r:starEach [a] X.env=[(false,eval a X.env)]:=by rfl):DI X tg (.Call (.Name "range" p) [a] [] pos) (iR1 g):=
 zbkp (zbaa h o i r) λτ H R b=>by
 obtain⟨ρ,σ,n,y,m,a,j,e,q⟩:=b;obtain⟨x,k,s,e⟩:=za e;split at e
 ·split at e
  ·rename_i d;cases e;refine⟨ρ,σ,n,_,_,a,j,s,λv H1 u t c f=>?_⟩;obtain⟨w,rfl,l⟩:=f.one;cases l;exact⟨_,rfl,d.1,d.2,q _ _ _ t c zbow⟩
  ·cases e
 ·cases e
def zbbn(v:Gl X "range")(r:X.mg "range"=none)(j:DA X [a,b] g)(i:starEach [a,b] X.env=[(false,eval a X.env),(false,eval b X.env)]:=by rfl)(d:starEach [b] X.env=[(false,eval b X.env)]:=by rfl):DI X tg (.Call (.Name "range" p) [a,b] [] pos) (iR2 g):=
 zbkp (zzz v r j i d) λτ H R c=>by
 obtain⟨ρ,σ,h,E,z,a,m,e,q⟩:=c;obtain⟨x,n,s,e⟩:=za e;split at e
 ·split at e
  ·rename_i k;cases e;refine⟨ρ,σ,h,_,_,a,m,s,λA H1 u t f l=>?_⟩;obtain⟨w,C,rfl,o,y⟩:=l.two;cases o;cases y;exact⟨_,_,rfl,k,q _ _ _ t f zbow⟩
  ·cases e
 ·cases e
def iDict(f:SE):SA:=λσ b=>(f σ b).bind λx a=>match x with
 |.ref n=>match a[n]? with
  |some (.dT kvs)=>.ok (aJ (kvs.map (·.1))) (a.set n (.fT kvs))
  |_=>.stuck
 |_=>.stuck
def zbqb(hl:DE X l f):DI X tg l (iDict f):=zbkp (zbmt hl) λτ H R t=>by
 obtain⟨ρ,σ,P,xs,a0,a,Y,e,q⟩:=t;obtain⟨x,j,e1,e⟩:=za e;refine⟨ρ,σ,P,x,j,a,Y,e1,λm H1 u x1 b U=>?_⟩;split at e
 ·rename_i n;split at e
  ·rename_i c Q;cases e;obtain⟨p,rfl,G,s,w,C⟩:=zdq b U Q (by intro z;cases z);refine⟨p,s,c.map (·.1),rfl,w,C.keys,λv A J h2=>?_⟩;have E:Ext m H1 m (upd H1 p (.frz v (.dT s))):=Ext.wr G (zks w) _;have R:Rep X.K m (j.set n (.fT c)) (upd H1 p (.frz v (.dT s))):=b.wr G (zks w) ⟨s,v,zu,C.ext E⟩;refine q _ _ _ (x1.trans E) R ⟨λS H2 k i d e=>?_,λS H2 k i h=>?_⟩
   ·have o:(A.map (·.2))[i]?=(c.map (·.1))[i]?:=by rw[J]
    unfold aJ at e;rw[xcg,←o,xcg] at e;cases hi:A[i]? with
    |none=>rw[hi] at e;cases e
    |some x=>
     rw[hi] at e;cases e;refine⟨⟨(xbd.mp hi).1,k.frz _ _ _ zu⟩,λy H3 T=>?_⟩;obtain⟨rfl,x',g,rfl⟩:=T;rw[hi] at g;cases g;have I:=h2 x (xbn hi);have a3:At X.K m H1 (aL x.2) (.ref x.1):=.tup I (zru b I) (zjl _);exact⟨.refl _ _,λ_ r=>⟨r,(a3.ext E).extG k⟩⟩
   ·have o:=congrArg List.length J;rw[xbb] at o;unfold aJ at h;rw[xbb,←o] at h;exact⟨h,k.frz _ _ _ zu⟩
  ·cases e
 ·cases e
def forF(b:SG) (a:SS):List D->SS
 |[],σ,au=>.ok (.nx σ) au
 |x::xs,σ,au=>match b x σ with
  |none=>.stuck
  |some σ1=>match a σ1 au with
   |.ok (.nx σ2) st2=>forF b a xs σ2 st2
   |.ok (.ct σ2) st2=>forF b a xs σ2 st2
   |.ok (.brk σ2) st2=>.ok (.nx σ2) st2
   |r=>r
def sFor(f:SA) (c:SG) (a:SS):SS:=λσ d=>(f σ d).bind λe b=>forF c a e σ b
def whileF(c:ST) (a:SS):Nat->SS
 |0,_,_=>.stuck
 |n+1,σ,au=>(c σ au).bind λb d=>if b=true then(match a σ d with
  |.ok (.nx σ2) st2=>whileF c a n σ2 st2
  |.ok (.ct σ2) st2=>whileF c a n σ2 st2
  |.ok (.brk σ2) st2=>.ok (.nx σ2) st2
  |r=>r) else .ok (.nx σ) d
noncomputable def wCap:Nat:=1000000
def sWhile(c:ST) (a:SS):SS:=whileF c a wCap
def zsn{α:Type}{a:List α}(h:i<a.length):∃x,a[i]?=some x/\a.drop i=x::a.drop (i+1):=⟨a[i],xbf h,xde h⟩
def zbvc{X:Cx}(hp:PassesOwn (model X.prog X.w) X.A X.env X.xe)(hc:X.calm=true)(hi:DI X tg iter it)(hg:DG X tg bd)(hb:DSs X body b)(hs:∀x,foldedSetIterable iter X.env x=pure x:=by intro _;rfl):
  DSt X (.For tg iter body [] pos) (sFor it bd b):=zrl (zbmj hp hc hi hg hb hs) λE τ H T=>by
 obtain⟨ρ,σ,au,fl,G,a,rp,e,q⟩:=T;obtain⟨o,A,e1,e⟩:=za e;refine⟨ρ,σ,au,o,A,a,rp,e1,λS H1 J x1 U ok=>?_⟩;have Y:=q.ext x1;refine⟨λi m τ' p=>i+m=o.length/\∃j t g,Ext S H1 j p/\AtS X.K j p t τ'/\Rep X.K j g p/\forF bd b (o.drop i) t g=.ok fl G,⟨o.length,by lia,S,σ,A,.refl _ _,a.ext x1,U,e⟩,?_⟩;rintro i m τ' p ⟨a0,j,t,g,I,a2,r,c⟩;rcases xge i o.length with Q|hge
 ·obtain⟨x,hx,hd⟩:=zsn Q;rw[hd] at c;obtain⟨go,yl⟩:=ok.item j p I.toG i x hx;refine .inr ⟨go,λτ3 H3=>∃s h d,Ext S H1 s H3/\AtS X.K s H3 h τ3/\Rep X.K s d H3/\forF bd b (o.drop (i+1)) h d=.ok fl G,λτ3 H3 ⟨s,h,d,n1,n2,n3,n4⟩=>⟨m-1,by lia,by lia,s,h,d,n1,n2,n3,n4⟩,λy H3 hy=>?_⟩;obtain⟨y1,y4⟩:=yl y H3 hy;obtain⟨y2,y3⟩:=y4 _ r;unfold forF at c;cases hbd:bd x t with
  |none=>rw[hbd] at c;cases c
  |some σ1=>
   rw[hbd] at c;dsimp only at c;have P:=I.trans y1;refine⟨j,t,x,σ1,a2.ext y1,y3,hbd,λτ4 a4=>?_⟩;cases hr:b σ1 g with
   |stuck=>rw[hr] at c;cases c
   |exc z w=>rw[hr] at c;cases c
   |ok fb d=>
    rw[hr] at c;refine⟨j,σ1,g,fb,d,a4,y2,hr,?_⟩;cases fb with
    |nx h=>exact λC n τ5 k f l=>⟨C,h,d,P.trans k,l,f,c⟩
    |ct h=>exact λC n τ5 k f l=>⟨C,h,d,P.trans k,l,f,c⟩
    |brk h=>
     dsimp only at c;cases c;exact λC n τ5 k f l=>Y _ _ _ (P.trans k) f l
    |ret v=>
     dsimp only at c;cases c;exact λC n u k f l=>Y _ _ _ (P.trans k) f l
 ·rw[xgs hge] at c;unfold forF at c;cases c;exact .inl ⟨ok.done j p I.toG i hge,Y _ _ _ I r a2⟩
def zbir{X:Cx}(hp:PassesOwn (model X.prog X.w) X.A X.env X.xe)(hc:DT X c t)(hb:DSs X body b):DSt X (.While c body [] pos) (sWhile t b):=zrl (zbfz hp hc hb) λE τ H Q=>by
 obtain⟨ρ,σ,au,fl,A,a,rp,e,q⟩:=Q;unfold sWhile at e;generalize wCap=n at e;refine⟨λm U G=>∃s l g,Ext ρ H s G/\AtS X.K s G l U/\Rep X.K s g G/\whileF t b m l g=.ok fl A,⟨n,ρ,σ,au,.refl _ _,a,rp,e⟩,?_⟩;rintro m U G ⟨s,l,g,x2,T,J,C⟩;cases m with
 |zero=>unfold whileF at C;cases C
 |succ m=>
  unfold whileF at C;obtain⟨x,i,e3,f⟩:=za C;refine⟨s,l,g,x,i,T,J,e3,λρ3 H3 S o=>?_⟩;have p:=x2.trans S;cases x with
  |false=>
   rw[if_neg (by decide)] at f;cases f;exact iteF (q _ _ _ p o (T.ext S))
  |true=>
   rw[if_pos rfl] at f;refine iteT ⟨λτ4 I=>∃P σ4 r,Ext ρ H P I/\AtS X.K P I σ4 τ4/\Rep X.K P r I/\whileF t b m σ4 r=.ok fl A,λτ4 I hh=>⟨m,xjx m,hh⟩,?_⟩;cases hr:b l i with
   |stuck=>rw[hr] at f;cases f
   |exc z w=>rw[hr] at f;cases f
   |ok fb st5=>
    rw[hr] at f;refine⟨ρ3,l,i,fb,st5,T.ext S,o,hr,?_⟩;cases fb with
    |nx σ3=>exact λy k Y h d j=>⟨y,σ3,st5,p.trans h,j,d,f⟩
    |ct σ3=>exact λy k Y h d j=>⟨y,σ3,st5,p.trans h,j,d,f⟩
    |brk σ3=>
     dsimp only at f;cases f;exact λy k Y h d j=>q _ _ _ (p.trans h) d j
    |ret v=>
     dsimp only at f;cases f;exact λy k u h d j=>q _ _ _ (p.trans h) d j
def compF(e:SG) (c:ST) (f:SE):List D->DS->Store->Res (List D)
 |[],_,au=>.ok [] au
 |x::xs,σ,au=>match e x σ with
  |none=>.stuck
  |some σ1=>(c σ1 au).bind λb a=>if b=true then(f σ1 a).bind λy g=>(compF e c f xs σ1 g).bind λh d=>.ok (y::h) d else compF e c f xs σ1 a
def aT(k:Nat) (is:List Nat) (σ:DS):DS:=List.replicate k none++is.map λi=>(σ[i]?).getD none
def aG(i:SA) (k:Nat) (is:List Nat) (e:SG) (c:ST) (f:SE):SE:=λσ h=>(i σ h).bind λd a=>if d.length<=sizeLine then(compF e c f d (aT k is σ) a).bind λg b=>.ok (.lst g) b else .stuck
def aI:ST:=λ_ a=>.ok true a
def AtS.start{K:Fg}(h:AtS K ρ H σ τ)(k:Nat)(is:List Nat):AtS K ρ H (aT k is σ) (startC k is τ):=by
 have f:∀{a c:DS}{b d:St},AtS K ρ H a b->AtS K ρ H c d->AtS K ρ H (a++c) (b++d):=λg l=>by
  induction g with
  |nil=>exact l
  |cons r t ih=>exact .cons r ih
 refine f ?_ ?_
 ·induction k with
  |zero=>exact .nil
  |succ k ih=>exact .cons (λd e=>nomatch e) ih
 ·induction is with
  |nil=>exact .nil
  |cons i is ih=>
   refine .cons (λd e=>?_) ih;have e:(σ[i]?).getD none=some d:=e;have m:σ[i]?=some (some d):=by
    cases q:σ[i]? with
    |none=>rw[q] at e;cases e
    |some o=>rw[q] at e;exact congrArg some e
   obtain⟨u,j,a⟩:=h.get m;exact⟨u,by show(τ[i]?).getD none=some u;rw[j];rfl,a⟩
def Loc.with(ρ:Loc) (p:Addr):Loc:=⟨ρ.m,p::ρ.g⟩
def zbkx(a:H p=none):Mv ρ H (ρ.with p) (upd H p o):=⟨λe n=>⟨by rw[zw (zl e a)];exact e,n.1,λz=>by
 rcases xbm.mp z with z|z
 ·exact zl e a z
 ·exact n.2 z⟩,xbl _,λ_ _ _ e=>e⟩
def At.with{K:Fg}(a:H p=none) (h:At K ρ H d v):At K (ρ.with p) (upd H p o) d v:=h.mv (zbkx a)
def zbec{ρ c:Loc}(b:c.m=ρ.m)(d:p∈ρ.g)(f:∀a,a∈c.g->a∈ρ.g):Mv ρ H c (upd H p o):=⟨λe n=>⟨by rw[zw (by rintro rfl;exact n.2 d)];exact e,by rw[b];exact n.1,λz=>n.2 (f _ z)⟩,by rw[b];exact xbl _,λ_ _ _ e=>by rw[b] at e;exact e⟩
def At.grow{K:Fg}{ρ ρ':Loc}(b:ρ'.m=ρ.m)(c:p∈ρ.g)(e:∀a,a∈ρ'.g->a∈ρ.g) (h:At K ρ H d v):At K ρ' (upd H p o) d v:=h.mv (zbec b c e)
def AtAll.grow{K:Fg}{ρ ρ':Loc}(b:ρ'.m=ρ.m)(c:p∈ρ.g)(e:∀a,a∈ρ'.g->a∈ρ.g) (h:AtAll K ρ H d v):AtAll K ρ' (upd H p o) d v:=h.mv (zbec b c e)
def OAt.map{K:Fg}(k:∀d v,At K ρ H d v->At K ρ' H' d v)(j:∀b f u,H b=some (.frz f u)->H' b=some (.frz f u))(same:H' a=H a)(h:OAt K ρ H x a):OAt K ρ' H' x a:=by
 have i:∀{d v},AtAll K ρ H d v->AtAll K ρ' H' d v:=λ{d v} h=>by
  induction d generalizing v with
  |nil=>cases h;exact .nil
  |cons x xs ih=>cases h with|cons a b=>exact .cons (k _ _ a) (ih b)
 cases x with
 |lst xs=>obtain⟨e,q,r⟩:=h;exact⟨e,by rw[same];exact q,i r⟩
 |dT kvs=>obtain⟨e,q,r⟩:=h;exact⟨e,by rw[same];exact q,Paired.mapP r λp q z=>⟨z.1,k _ _ z.2⟩⟩
 |fT kvs=>obtain⟨e,f,q,r⟩:=h;exact⟨e,f,by rw[same];exact q,Paired.mapP r λp q z=>⟨z.1,k _ _ z.2⟩⟩
 |dI kvs=>obtain⟨e,q,r⟩:=h;exact⟨e,by rw[same];exact q,Paired.mapP r λp q z=>⟨z.1,k _ _ z.2⟩⟩
 |dP ks=>obtain⟨e,q,n,l,u,r⟩:=h;exact⟨e,by rw[same];exact q,n,l,u,r.map k⟩
 |dead=>exact h.elim
 |tab=>obtain⟨c,g,q,r⟩:=h;exact⟨c,g,by rw[same];exact q,r.map j⟩
def Rep.with{K:Fg}(r:Rep K ρ au H)(c:H p=none)(g:List V):Rep K (ρ.with p) au (upd H p (.lst g)):=
 ⟨r.len,r.inj,λm b y n i=>by
  have q:=r.obj m b y n i;obtain⟨u,j⟩:=q.has;exact q.map (λd v h=>h.with c) (λb o u e=>by rw[zw (zl e c)];exact e) (zw (zl j c)),λa ha=>by
  rcases xbm.mp ha with rfl|ha
  ·exact⟨⟨g,zu⟩,(zma r c).1⟩
  ·obtain⟨⟨k,f⟩,l⟩:=r.gh a ha
   exact⟨⟨k,by rw[zw (zl f c)];exact f⟩,l⟩,r.live⟩
def Rep.grow{K:Fg}{ρ':Loc}(r:Rep K ρ au H)(c:ρ'.m=ρ.m)(f:p∈ρ.g)(j:∀a,a∈ρ'.g->a∈ρ.g)(i:List V):Rep K ρ' au (upd H p (.lst i)):=
 ⟨by rw[c];exact r.len,by rw[c];exact r.inj,λm b y g k=>by
  rw[c] at g;refine(r.obj m b y g k).map (λd v h=>h.grow c f j) (λb s u e=>by rw[zw (by rintro rfl;obtain⟨⟨_,z⟩,_⟩:=r.gh _ f;rw[e] at z;cases z)];exact e) (zw ?_);rintro rfl;exact(r.gh b f).2 (xbn g),λa n=>by
  obtain⟨⟨o,l⟩,q⟩:=r.gh a (j a n);refine⟨?_,by rw[c];exact q⟩;by_cases e:a=p
  ·subst e;exact⟨i,zu⟩
  ·exact⟨o,by rw[zw e];exact l⟩,by rw[c];exact r.live⟩
def AtS.map{K:Fg}(k:∀d v,At K ρ H d v->At K ρ' H' d v)(h:AtS K ρ H σ τ):AtS K ρ' H' σ τ:=Paired.mapP h λo v z d e=>by
 obtain⟨u,b,a⟩:=z d e;exact⟨u,b,k _ _ a⟩
inductive CI (K:Fg) (bd:SG) (c:ST) (f:SE) (xs ys:List D) (st2:Store) (ρ1:Loc) (H1:Hp) (p:Addr) (i:Nat) (τ:St) (H':Hp):Prop where
 |mk {ρ2:Loc}{σ2:DS}{st3:Store}{acc:List D}{accV:List V}{zs:List D}(x2:ExtG ρ1 H1 ρ2 H') (hg:ρ2.g=p::ρ1.g) (hpp:H' p=some (.lst accV)) (hal:AtAll K ρ2 H' acc accV) (hli:acc.length<=i) (a2:AtS K ρ2 H' σ2 τ) (rp2:Rep K ρ2 st3 H') (e3:compF bd c f (xs.drop i) σ2 st3=.ok zs st2) (hac:acc++zs=ys):CI K bd c f xs ys st2 ρ1 H1 p i τ H'
def zbqs{k:Nat}{is:List Nat}{K:Fg}(a:AtS K ρ H σ τ)(rp:Rep K ρ au H)(e1:it σ au=.ok xs st1)(a8:xs.length<=sizeLine)(e2:compF bd c f xs (aT k is σ) st1=.ok ys st2)
 (b4:∀j H1 p q t g,Ext ρ H j H1->Rep K j st1 H1->H1 p=none->ExtG j H1 q t->q.g=p::j.g->t p=some (.lst g)->AtAll K q t ys g->Rep K q st2 t->Q (.ref p) t):tComp (iD K it) k is (gD K bd) (tDT K c) (tD K f) τ H Q:=by
 refine⟨ρ,σ,au,xs,st1,a,rp,e1,λj H1 J x1 a9 ok p T=>?_⟩
 refine⟨λi m τ' t=>i+m=xs.length/\CI K bd c f xs ys st2 j H1 p i τ' t,
  ⟨xs.length,by lia,.mk ?_ rfl zu .nil (xec _) (((a.ext x1).start k is).map λd v h=>h.with T) (a9.with T []) e2 rfl⟩,?_⟩
 ·have E:Ext j H1 j (upd H1 p (.lst [])):=Ext.new T _
  exact⟨E.len,E.old,E.keep,λa h=>by
   rcases xbm.mp h with rfl|h
   ·exact .inr T
   ·exact .inl h,E.frz⟩
 rintro i m τ' t ⟨b7,@⟨q,σ2,b1,acc,g,zs,Y,hg,a3,U,P,a2,I,l,s⟩⟩;have b2:p∈q.g:=by rw[hg];exact xby
 rcases xge i xs.length with a0|hge
 ·obtain⟨x,hx,hd⟩:=zsn a0;rw[hd] at l;obtain⟨go,yl⟩:=ok.item q t Y i x hx
  refine .inr ⟨go,CI K bd c f xs ys st2 j H1 p (i+1),
   λτ4 H4 hh=>⟨m-1,by lia,by lia,hh⟩,λy H3 hy=>?_⟩
  obtain⟨y1,y4⟩:=yl y H3 hy;obtain⟨y2,y3⟩:=y4 _ I;unfold compF at l;cases hbd:bd x σ2 with
  |none=>rw[hbd] at l;cases l
  |some σ1=>
   rw[hbd] at l;dsimp only at l;obtain⟨bb,a7,e4,e5⟩:=za l;refine⟨q,σ2,x,σ1,a2.ext y1,y3,hbd,λτ4 a4=>?_⟩;have S:some p∉q.m:=(I.gh p b2).2;have C:=(y1.keep p _ a3 S).1;refine⟨q,σ1,b1,bb,a7,a4,y2,e4,λρ5 H5 r a5=>?_⟩;have A:=(r.keep p _ C S).1;have z:=(U.ext y1).ext r;have g5:ρ5.g=p::j.g:=r.gho.trans hg;cases bb with
   |false=>
    rw[if_neg (by decide)] at e5;exact iteF (.mk ((Y.then y1).then r) g5 A z (xgm P) (a4.ext r) a5 e5 s)
   |true=>
    rw[if_pos rfl] at e5;obtain⟨w,b5,e6,e7⟩:=za e5;obtain⟨b9,b8,e8,e9⟩:=za e7;cases e9;refine iteT ⟨ρ5,σ1,a7,w,b5,a4.ext r,a5,e6,λρ6 H6 u x6 b6 a6=>?_⟩;have a1:some p∉ρ5.m:=(r.keep p _ C S).2;have b0:=(x6.keep p _ A a1).1;have g6:ρ6.g=p::j.g:=x6.gho.trans g5;have X:p∈ρ6.g:=by rw[g6];exact xby
    have b3:g.length<=i:=by rw[U.length];exact P
    refine⟨g,b0,xdl b3 (xbo a0 a8),.mk (acc:=acc++[w]) (accV:=g++[u]) ?_ g6 zu ?_ (by rw[xbk];exact xfi P) ?_ (b6.grow rfl X (λ_ h=>h) _) e8 (by rw[←s,xch];rfl)⟩
    ·have G:=((Y.then y1).then r).then x6;refine⟨G.len,G.old,λb o e n=>?_,G.gho,λb ob uu e=>?_⟩
     ·rw[zw (zl e T)];exact G.keep b o e n
     ·rw[zw (zl e T)];exact G.frz b ob uu e
    ·exact((z.ext x6).append (.cons a6 .nil)).grow rfl X (λ_ h=>h)
    ·exact(a4.ext (r.trans x6)).map λd v h=>h.grow rfl X (λ_ h=>h)
 ·rw[xgs hge] at l;unfold compF at l;cases l;rw[xdt] at s;subst s;exact .inl ⟨ok.done _ _ Y i hge,b4 _ _ _ _ _ _ x1 a9 T Y hg a3 U I⟩
def zbqr{K:Fg}:∀τ H Q,tD K (aG it k is bd c f) τ H Q->tComp (iD K it) k is (gD K bd) (tDT K c) (tD K f) τ H Q:=λτ H Q u=>by
 obtain⟨ρ,σ,Y,v,U,a,J,e,q⟩:=u;obtain⟨xs,P,S,e⟩:=za e;split at e
 ·rename_i n;obtain⟨ys,X,G,e⟩:=za e;cases e;refine zbqs a J S n G λl H1 p h H' d T w I s A m x j=>?_
  have i:p∈h.g:=by rw[A];exact xby
  have t:some p∉h.m:=(j.gh p i).2;have r:upd H' p (.lst d)=H':=zbfc m;have sub:∀a,a∈(⟨h.m,l.g⟩:Loc).g->a∈h.g:=λb C=>by rw[A];exact xbi _ C
  have E:Ext l H1 ⟨h.m,l.g⟩ H':=⟨s.len,s.old,s.keep,rfl,s.frz⟩
  have R:=j.grow (ρ':=⟨h.m,l.g⟩) rfl i sub d;have L:=AtAll.grow (ρ:=h) (ρ':=⟨h.m,l.g⟩) (o:=.lst d) rfl i sub x;rw[r] at R L;refine q _ _ _ (T.trans E) R (.lst m ⟨t,λz=>?_⟩ L);obtain⟨⟨ws,y⟩,_⟩:=w.gh p z;rw[I] at y;cases y
 ·cases e
def zbvq{X:Cx}{N:List Str}(a:X.calm=true)(h:DI X tg iter it)(e:∀b C d s H,DG (cxC X N scope b C d s H) tg bd)(j:∀b C d s H,PIf (cxC X N scope b C d s H) ifs (tDT X.K c))(g:∀b C d s H,DE (cxC X N scope b C d s H) elt f)
 (S:CompScope X N k is scope)(i:∀x,foldedSetIterable iter X.env x=pure x:=by intro _;rfl):DE X (.ListComp elt [⟨tg,iter,ifs,0⟩] scope pos) (aG it k is bd c f):=zgj (zbdc a h e j g S i) zbqr
def zbpq{X:Cx}{N:List Str}{b:Pos}(d:X.calm=true)(p:X.N.Nodup)(m:X.N[i]?=some x)(w:L2.Loc X.env.scope x)(Q:DI X tg iter it)(J:∀g C j s H,DG (cxC X N scope g C j s H) tg bd)
  (T:∀g C j s H,PIf (cxC X N scope g C j s H) ifs (tDT X.K c))(G:∀g C j s H,DE (cxC X N scope g C j s H) elt f)(S:CompScope X N k is scope)
  (l:swapsWith (.ListComp elt [⟨tg,iter,ifs,0⟩] scope pos) (some (.Name x pos')) b.line X.env=pure true:=by rfl)
  (y:X.fn x=true\/X.env.scope.names.lookup x=some .local:=by first|exact .inl rfl|exact .inr rfl|assumption)
  (o:∀x,foldedSetIterable iter X.env x=pure x:=by intro _;rfl):DSt X (.Assign [.Name x pos'] (.ListComp elt [⟨tg,iter,ifs,0⟩] scope pos) b) (aF i (aG it k is bd c f)):=
 zrl (zbmi d p m w Q J T G S l y o) λE τ H h=>by
  obtain⟨ρ,σ,n,Y,P,a,z,e,q⟩:=h;obtain⟨v,A,I,e⟩:=za e;cases e;exact zbqr τ H _ ⟨ρ,σ,n,v,_,a,z,I,λρ' U u x r t=>q _ _ _ x r ((a.ext x).set t i)⟩
def zbqa:PIf X [] (tDT X.K aI):=λf s σ H Q I b=>by
 obtain⟨ρ,g,h,v,d,a,c,e,q⟩:=b;cases e;exact zbmr f s σ H Q I (q _ _ (.refl _ _) c)
def zbpz(h:DT X c t):PIf X [c] (tDT X.K t):=zbmq h
end Dd
namespace Dd
open L2 PyProof.Rows
def spD(K:Fg) (g:Nat) (F:DFn):Sp:=λe H Q _=>∃ρ d f v a,AtAll K ρ H d e/\Rep K ρ f H/\F d f=.ok v a/\e.length=g/\∀c b u,Ext ρ H c b->Rep K c a b->At K c b v u->Q u b
def CalD(P:Program) (w:World) (K:Fg) (c:Str->Option Value) (a:Heap) (x:Str) (k:Nat) (b:List Str) (F:DFn):Prop:=Callee P w K c a x k b (spD K b.length F)
def fnD(n b:Nat) (a:SS):DFn:=λc d=>if c.length=b then(match a (c.map some++List.replicate (n-b) none) d with
 |.ok (.ret v) st'=>.ok v st'
 |.ok (.nx _) st'=>.ok .non st'
 |.exc x st'=>.exc x st'
 |_=>.stuck) else .stuck
section
def zbvs{K:Fg}{h:Nat}{f:SA}(r:∀k g v b,F k g=.ok v b->k.length=h):∀τ H Q,tD K (aE F f) τ H Q->tCall (spD K h F) [] E0 (tDA K f) τ H Q:=λτ H Q d=>by
 obtain⟨ρ,σ,g,v,b,a,n,e,q⟩:=d;obtain⟨x,c,s,e⟩:=za e;refine⟨ρ,σ,g,x,c,a,n,s,λm H1 u t i j=>?_⟩;show spD K h F (u++[]) H1 Q E0;rw[xdt];exact⟨m,x,c,v,b,j,i,e,by rw[j.length];exact r _ _ _ _ e,λo p w l=>q o p w (t.trans l)⟩
end
def zbvr{X:Cx}(c:CalD X.prog X.w X.K X.mg X.base x k ps F)(n:∀ f l v a,F f l=.ok v a->f.length=ps.length)(h:Room k X.A)(i:Gl X x)(j:DA X (e::es) g)(b:(x==("__debug__" : Str))=false:=by decide)
 (m:starEach (e::es) X.env=(false,eval e X.env)::starEach es X.env:=by rfl)(d:(backTo pos (starEach es X.env)).any (·.1)=false:=by rfl):
 DE X (.Call (.Name x p) (e::es) [] pos) (aE F g):=zgj (zbgm c h i j b m d) (zbvs n)
def zse{n np:Nat}{b:SS}{c:List D}{d a:Store}{v:D}(h:fnD n np b c d=.ok v a):c.length=np:=by
 unfold fnD at h;split at h
 ·assumption
 ·cases h
def AtAll.some{K:Fg}{ρ:Loc}{H:Hp}:∀{f c},AtAll K ρ H f c->AtS K ρ H (f.map Option.some) (c.map Option.some)
 |_,_,.nil=>.nil
 |_,_,.cons a b=>.cons (λd e=>by cases e;exact⟨_,rfl,a⟩) (AtAll.some b)
def AtS.append{K:Fg}{ρ:Loc}{H:Hp}:∀{a c b d},AtS K ρ H a b->AtS K ρ H c d->AtS K ρ H (a++c) (b++d)
 |_,_,_,_,.nil,h=>h
 |_,_,_,_,.cons r t,h=>.cons r (AtS.append t h)
def AtS.nones{K:Fg}{ρ:Loc}{H:Hp}:∀n,AtS K ρ H (List.replicate n none) (List.replicate n none)
 |0=>.nil
 |n+1=>.cons (λd e=>nomatch e) (AtS.nones n)
def zbqx{K:Fg}{N:List Str}{np:Nat}{b:SS}{g:List V}{H:Hp}{Q:VK}{E:XK}(h:spD K np (fnD N.length np b) g H Q E):tDS K b {nx:=λ_ d=>Q .non d,rt:=Q} (L2.start N g) H:=by
 obtain⟨ρ,f,l,v,c,a,k,e,m,q⟩:=h;have n:f.length=np:=by rw[←a.length];exact m
 unfold fnD at e;rw[if_pos n] at e;have j:AtS K ρ H (f.map Option.some++List.replicate (N.length-np) none) (L2.start N g):=by
  unfold L2.start;rw[m];exact a.some.append (.nones _)
 refine⟨ρ,f.map Option.some++List.replicate (N.length-np) none,l,?_⟩;cases hr:b (f.map Option.some++List.replicate (N.length-np) none) l with
 |stuck=>rw[hr] at e;cases e
 |exc z w=>rw[hr] at e;cases e
 |ok fl st1=>
  rw[hr] at e;cases fl with
  |ret w=>
   dsimp only at e;cases e;exact⟨.ret v,c,j,k,rfl,λi d u x r t=>q i d u x r t⟩
  |nx σ=>
   dsimp only at e;cases e;exact⟨.nx σ,c,j,k,rfl,λi d τ x r t=>q i d .non x r .non⟩
  |brk σ=>cases e
  |ct σ=>cases e
def zbqw{P:Program}{w:World}{K:Fg}{n:Str->Option Value}{i h:Heap}{x:Str}{g:Stmt}{N l:List Str}{k:Nat}{b:SS}(T:TopF K x g)(X:K.In h)(G:h.Ns mainGlobals n)(S:FnScope N l (defScope g))
  (r:∀(kV m C:Value) (y:Option Addr) (d z:Value) (o:List Value),o.length=l.length->bindArgs (W.fnOf x x (defArgs g) (defBody g) (defScope g) .none kV m C y d z) ⟨o,[]⟩=pure (l.zip o))
  (j:∀(f:Addr) (d:Value) (A:Around) (c:List Env) (s:Shared) (H:Hp) (E:XK),Room k (A.deeper (envOfC x (defScope g) s.heap.objs.size f d)) ->
   DSs (cxOf CX0 P w K n i N x (defScope g) f d A c s H E).nox (defBody g) b):CalD P w K n i x (k+1) l (fnD N.length l.length b):=
 zss T X G S r (λu H Q E p=>by obtain⟨ρ,U,g,v,I,a,Y,e,J,q⟩:=p;exact J) λf d A c s H u Q E t p=>⟨_,j f d A c s H E t,zbqx p⟩
def spLaw(K:Fg):Sp:=λd H Q _=>∃(a:Addr) (b:List Int),d=[.ref a]/\SqL K H a (b.map V.int)/\b.length<=63/\∀c,Q (.bl true) c
def zbty{P:Program}{w:World}{K:Fg}{z:Str->Option Value}{g:Heap}{p:Stmt}{N y:List Str}{k:Nat}{b:SS}{f:Addr}{C:FuncData}(F:Fun K "law" "law" p f C)(S:FnScope N y (defScope p))(T:y.length=1)
  (l:∀(d:Value) (A:Around) (c:List Env) (s:Shared) (H:Hp) (E:XK),Room k (A.deeper (envOfC "law" (defScope p) s.heap.objs.size f d)) ->
   DSs (cxOf CX0 P w K z g N "law" (defScope p) f d A c s H E).nox (defBody p) b)
  (holds:∀j:List Int,j.length<=63->∃i,fnD N.length 1 b [.scr (j.map .int)] []=.ok (.bl true) i):FnOk P w K z g CX0 (k+1) f C y (spLaw K):=by
 refine F.ok S (λJ H Q E v=>?_) (λd A c s H J Q E I v=>⟨_,l d A c s H E I,?_⟩)
 ·obtain⟨a,j,rfl,_⟩:=v;exact T.symm
 ·obtain⟨a,j,rfl,U,X,q⟩:=v;obtain⟨i,e⟩:=holds j X;refine zbqx (np:=1) (E:=E) ⟨⟨[],[]⟩,[.scr (j.map .int)],[],_,i,.cons (.scr ?_ (zjl j)) .nil,⟨rfl,λn m a e _=>by simp at e,λn a o e _=>by simp at e,λa h=>(by cases h),λn o e _=>by simp at e⟩,e,rfl,λY G u x r t=>?_⟩
  ·rcases U with h|h
   ·exact .inl ⟨h,by simp[Out]⟩
   ·exact .inr λG=>.inr h
  ·cases t;exact q G
end Dd
namespace Dd
open L2
def oNeg:D->Store->Res D:=λx a=>match x with
 |.int i=>.ok (.int (-i)) a
 |_=>.stuck
def sStuck:SS:=λ_ _=>.stuck
def tru(c:Store):D->Option Bool
 |.non=>some false
 |.bl b=>some b
 |.int i=>some (i != 0)
 |.tup a=>some !a.isEmpty
 |d=>(asL c d).map λa=>!a.isEmpty
def eTru(f:SE):ST:=λσ c=>(f σ c).bind λv a=>match tru a v with
 |some b=>.ok b a
 |none=>.stuck
def zoc{K:Fg}(h:AtAll K ρ H ds vs):ds.isEmpty=vs.isEmpty:=by
 cases h<;>rfl
def zbrx{K:Fg}(g:Rep K ρ au H) (a:At K ρ H d u)(e:tru au d=some b):TruV K u H b:=by
 unfold tru at e;split at e
 ·cases a;cases e;exact rfl
 ·cases a;cases e;exact rfl
 ·cases a;cases e;exact rfl
 ·cases e;cases a with
  |tup c f h3=>exact .inr (.inl ⟨_,SqT.of c,by rw[zoc h3]⟩)
 ·obtain⟨j,h,rfl⟩:=xdh.mp e;obtain⟨p,i,rfl,c,f⟩:=zhc g a h;exact .inl ⟨_,SqL.of c,by rw[zoc f]⟩
def zbyu(h:DE X a f):DE X (.UnaryOp .USub a pos) (eUn oNeg f):=zgj (zbxo zbrv h) λτ H Q b=>by
 obtain⟨ρ,σ,l,v,k,d,j,e,q⟩:=b;obtain⟨x,c,m,e⟩:=za e;refine⟨ρ,σ,l,x,c,d,j,m,λo H1 u n g i=>?_⟩;cases x<;>try (cases e;done)
 cases e;cases i;exact⟨_,rfl,q _ _ _ n g (.int _)⟩
def zbip(k:OpR X (compareOp op) r)(d:OpR X (compareOp op') r')(i:OpD X.K g r)(e:OpD X.K g' r')(l:DE X a f)(j:DE X b f')(n:DE X c f'')
 (m:lastMarks [op,op'] [b,c]=false:=by with_unfolding_all rfl):DT X (.Compare a [op,op'] [b,c] pos) (eB (eChain g g' f f' f'')):=zbko (zbfw k d l j n m) λτ H Q h=>zbqt i e _ _ _ (eB_t _ _ _ h)
def zbiu:DSt X sm sStuck:=λg s σ H E I ⟨ρ,c,f,h,b,a,d,e,q⟩=>by cases e
def zbuu(h:DE X a f)(o:∀b,isTrue a X.env b=(do let v ←b;standAt a.pos;holding [v] (truthy v)):=by intro _;rfl):DT X a (eTru f):=zbko (zvn h o) λτ H Q d=>by
 obtain⟨ρ,σ,n,v,m,i,l,e,q⟩:=d;obtain⟨x,g,p,e⟩:=za e;refine⟨ρ,σ,n,x,g,i,l,p,λt H1 u r c j=>?_⟩;split at e
 ·rename_i s k;cases e;exact⟨_,zbrx c j k,q _ _ r c⟩
 ·cases e
end Dd
namespace Dd
open Spec PyProof.Rows L2
noncomputable def numF:Int->List D->List D
 |_,[]=>[]
 |n,x::xs=>.tup [.int n,x]::numF (n+1) xs
def iEnum(f:SE):SA:=λσ b=>(f σ b).bind λx a=>match x with
 |.tup xs=>.ok (numF 1 xs) a
 |_=>.stuck
def zpq:∀{a:List D}{n:Int}{i:Nat}{d:D},(numF n a)[i]?=some d->∃x,a[i]?=some x/\d=.tup [.int (n+i),x]
 |[],_,_,_,h=>by simp[numF] at h
 |x::a,n,0,d,h=>by
  simp[numF] at h;exact⟨x,rfl,by rw[←h];simp⟩
 |x::a,n,i+1,d,h=>by
  simp only[numF,xgk] at h;obtain⟨y,c,b⟩:=zpq h;exact⟨y,by simpa using c,by rw[b];congr 3;push_cast;lia⟩
def zfl:∀{xs n},(numF n xs).length=xs.length
 |[],_=>rfl
 |_::xs,n=>by simp[numF,zfl (xs:=xs)]
def zbjc(T:Gl X "enumerate")(P:X.mg "enumerate"=none)(hl:DE X l f)(J:starEach [l] X.env=[(false,eval l X.env)]:=by rfl):
  DI X (.Tuple elts k tpos) (.Call (.Name "enumerate" p) [l] [⟨some "start",.Constant (.int 1) j cpos,kpos⟩] pos) (iEnum f):=zbkp (zbge T P hl J) λτ H R g=>by
 obtain⟨ρ,σ,r,xs,Y,a,I,e,q⟩:=g;obtain⟨x,n,Q,e⟩:=za e;refine⟨ρ,σ,r,x,n,a,I,Q,λρ1 H1 u S o G=>?_⟩;split at e
 ·rename_i ys;cases e;cases G with
  |tup h1 h2 h3=>
   refine⟨_,rfl,⟨_,SqT.of h1⟩,q _ _ _ S o ⟨λA H2 c i d e=>?_,λA H2 c i h=>?_⟩⟩
   ·obtain⟨z,U,rfl⟩:=zpq e;obtain⟨v,s,E⟩:=h3.get U;refine⟨⟨_,v,SqT.of (c.out h1 h2).1,s⟩,λy H3 C=>?_⟩;obtain⟨p,m,rfl,w⟩:=C;rw[w _ _ (SqT.of (c.out h1 h2).1) s];refine⟨Ext.new m _,λr b=>⟨b.new m _,?_⟩⟩;have t:(1:Int)+(i:Int)=((i+1:Nat):Int):=by push_cast;lia
    rw[t];exact At.newT b m (.cons (.int _) (.cons (E.extG c) .nil))
   ·rw[zfl] at h;exact⟨_,SqT.of (c.out h1 h2).1,by rw[h3.length];exact h⟩
 ·cases e
end Dd
namespace Dd
open L2
def bInt:List D->Store->Res D:=λb a=>match b with
 |[.int i]=>.ok (.int i) a
 |[.bl k]=>.ok (.int (if k then 1 else 0)) a
 |_=>.stuck
def zbkc{K:Fg}:CaD K bInt (λb H Q=>(∃i,b=[.int i]/\Q (.int i) H)\/∃k,b=[.bl k]/\Q (.int (if k then 1 else 0)) H):=λρ H g b h z f Q c d e q=>by
 unfold bInt at e;split at e
 ·cases e;obtain⟨u,rfl,a⟩:=d.one;cases a;exact .inl ⟨_,rfl,q _ _ _ (.refl _ _) c (.int _)⟩
 ·cases e;obtain⟨u,rfl,a⟩:=d.one;cases a;exact .inr ⟨_,rfl,q _ _ _ (.refl _ _) c (.int _)⟩
 ·cases e
def zbcf{ρ:Loc}(b:p∈ρ.g)(c:∀a,a∈g'->a∈ρ.g)(n:Out ρ a):Out ⟨ρ.m++[some p],g'⟩ a:=
 ⟨λz=>by
  rcases xcc.mp z with z|z
  ·exact n.1 z
  ·simp at z;subst z
   exact n.2 b,λz=>n.2 (c _ z)⟩
def zyq{ρ:Loc}(c:p∈ρ.g)(d:∀a,a∈g'->a∈ρ.g):Mv ρ H ⟨ρ.m++[some p],g'⟩ H:=⟨λe n=>⟨e,zbcf c d n⟩,by
 show ρ.m.length<=(ρ.m++[some p]).length;rw[xbk];exact xcf _ _,λn a h q=>by
 have b:(ρ.m++[some p])[n]?=some (some a):=q;rw[xbj h] at b
 exact b⟩
def At.adopt{K:Fg}{ρ:Loc}(b:p∈ρ.g)(c:∀a,a∈g'->a∈ρ.g) (h:At K ρ H d v):At K ⟨ρ.m++[some p],g'⟩ H d v:=h.mv (zyq b c)
def AtAll.adopt{K:Fg}{ρ:Loc}(b:p∈ρ.g)(c:∀a,a∈g'->a∈ρ.g) (h:AtAll K ρ H d v):AtAll K ⟨ρ.m++[Option.some p],g'⟩ H d v:=h.mv (zyq b c)
def Rep.adopt{K:Fg}(r:Rep K ρ au H)(n:p∈ρ.g)(s:∀a,a∈g'->a∈ρ.g)(A:p∉g')(C:H p=some (.lst vs))(G:AtAll K ρ H xs vs):
  Rep K ⟨ρ.m++[some p],g'⟩ (au++[.lst xs]) H:=by
 have o:some p∉ρ.m:=(r.gh p n).2;have w:∀(m:Nat),ρ.m[m]?≠some (some p):=λm e=>o (xbn e)
 have j:∀(m:Nat) (b:Addr),(ρ.m++[some p])[m]?=some (some b)->(m < ρ.m.length/\ρ.m[m]?=some (some b))\/(m=ρ.m.length/\b=p):=λm b e=>by
  rcases xge m ρ.m.length with z|z
  ·rw[xbj z] at e;exact .inl ⟨z,e⟩
  ·rw[xcw z] at e;have q:m-ρ.m.length=0:=by
    have:=(xbd.mp e).1;simp at this;lia
   rw[q] at e;simp at e;exact .inr ⟨by lia,e.symm⟩
 refine⟨by simp[r.len],λm k b t c=>?_,λm b y t c=>?_,λb i=>?_,λm y e x=>?_⟩
 ·rcases j m b t with⟨f,l⟩|⟨f,rfl⟩
  ·rcases j k b c with⟨g,u⟩|⟨g,rfl⟩
   ·exact r.inj m k b l u
   ·exact absurd l (w m)
  ·rcases j k b c with⟨g,u⟩|⟨g,_⟩
   ·exact absurd u (w k)
   ·lia
 ·rcases j m b t with⟨f,l⟩|⟨f,rfl⟩
  ·rw[xbj (by rw[←r.len];exact f)] at c;exact(r.obj m b y l c).map (λd v h=>h.adopt n s) (λ_ _ _ e=>e) rfl
  ·rw[f,r.len,xcw (xbl _)] at c;simp at c;subst c;exact⟨vs,C,G.adopt n s⟩
 ·obtain⟨f,g⟩:=r.gh b (s b i);refine⟨f,λz=>?_⟩;rcases xcc.mp z with z|z
  ·exact g z
  ·simp at z;subst z;exact A i
 ·rcases xge m au.length with z|z
  ·rw[xbj z] at e;obtain⟨b,i⟩:=r.live m y e x;exact⟨b,by show(ρ.m++[some p])[m]?=_;rw[xbj (by rw[r.len];exact z)];exact i⟩
  ·have q:=(xbd.mp e).1;simp at q;have E:m=ρ.m.length:=by rw[r.len];lia
   exact⟨p,by show(ρ.m++[some p])[m]?=_;rw[E,xcw (xbl _)];simp⟩
def eCompM(i:SA) (k:Nat) (is:List Nat) (e:SG) (c:ST) (f:SE):SE:=λσ h=>(i σ h).bind λd b=>if d.length<=sizeLine then(compF e c f d (aT k is σ) b).bind λg a=>.ok (.ref a.length) (a++[.lst g]) else .stuck
def zbqq{K:Fg}:∀τ H Q,tD K (eCompM it k is bd c f) τ H Q->tComp (iD K it) k is (gD K bd) (tDT K c) (tD K f) τ H Q:=λτ H Q t=>by
 obtain⟨ρ,σ,au,v,a0,a,T,e,q⟩:=t;obtain⟨xs,U,X,e⟩:=za e;split at e
 ·rename_i l;obtain⟨ys,a1,P,e⟩:=za e;cases e;refine zbqs a T X l P λj H1 p g H' y Y u A i I s w d=>?_
  have r:p∈g.g:=by rw[I];exact xby
  have S:some p∉g.m:=(d.gh p r).2;have sub:∀a,a∈j.g->a∈g.g:=λb J=>by rw[I];exact xbi _ J
  have x:p∉j.g:=λz=>by
   obtain⟨⟨ws,C⟩,_⟩:=u.gh p z;rw[A] at C;cases C
  have R:=d.adopt r sub x s w
  have E:Ext j H1 ⟨g.m++[some p],j.g⟩ H':=⟨by
    show j.m.length<=(g.m++[some p]).length;rw[xbk];exact xbc i.len (xcf _ _),λn b h e=>by
    have G:(g.m++[some p])[n]?=some (some b):=e;rw[xbj (xbo h i.len)] at G
    exact i.old n b h G,λb o e m=>⟨(i.keep b o e m).1,λz=>by
    rcases xcc.mp z with z|z
    ·exact(i.keep b o e m).2 z
    ·simp at z;subst z
     rw[A] at e;cases e⟩,rfl,i.frz⟩
  exact q _ _ _ (Y.trans E) R (.last (ρ:=⟨g.m,j.g⟩) d.len.symm)
 ·cases e
def zbql{X:Cx}{N:List Str}(a:X.calm=true)(h:DI X tg iter it)(e:∀b C d s H,DG (cxC X N scope b C d s H) tg bd)(j:∀b C d s H,PIf (cxC X N scope b C d s H) ifs (tDT X.K c))(g:∀b C d s H,DE (cxC X N scope b C d s H) elt f)
 (S:CompScope X N k is scope)(i:∀x,foldedSetIterable iter X.env x=pure x:=by intro _;rfl):DE X (.ListComp elt [⟨tg,iter,ifs,0⟩] scope pos) (eCompM it k is bd c f):=zgj (zbdc a h e j g S i) zbqq
noncomputable def plainE:Expr->Bool
 |.Starred _ _=>false
 |_=>true
def zne(h:plainE e=true):starEach (e::es) env=(false,eval e env)::starEach es env:=by
 cases e<;>first|rfl|cases h
def zbjg(a:DE X e f)(c:DA X es g)(b:plainE e=true:=by rfl):DA X (e::es) (aB f g):=zbqg a c (zne b)
def bBest(c:Bool):List D->Store->Res D:=λb a=>match b with
 |[x]=>match (seqOf a x).bind asInts with
  |some (n::ns)=>.ok (.int (bestI c n ns)) a
  |_=>.stuck
 |_=>.stuck
noncomputable def pairsF:List D->List D->List D
 |x::xs,y::ys=>.tup [x,y]::pairsF xs ys
 |_,_=>[]
def iZipT(g:SA):SA:=λσ d=>(g σ d).bind λe c=>match e with
 |[.tup a,.tup b]=>.ok (pairsF a b) c
 |_=>.stuck
def znp:∀{b a:List D}{i:Nat}{d:D},(pairsF b a)[i]?=some d->∃x y,b[i]?=some x/\a[i]?=some y/\d=.tup [x,y]
 |[],_,_,_,h=>by simp[pairsF] at h
 |_::_,[],_,_,h=>by simp[pairsF] at h
 |x::b,y::a,0,d,h=>by
  simp[pairsF] at h;exact⟨x,y,rfl,rfl,h.symm⟩
 |x::b,y::a,i+1,d,h=>by
  simp only[pairsF,xgk] at h;obtain⟨e,j,c,g,f⟩:=znp h;exact⟨e,j,by simpa using c,by simpa using g,f⟩
def zex:∀{xs ys},(pairsF xs ys).length=min xs.length ys.length
 |[],_=>by simp[pairsF]
 |_::_,[]=>by simp[pairsF]
 |_::xs,_::ys=>by simp[pairsF,zex (xs:=xs) (ys:=ys)]
def zbvf(hg:Gl X "zip")(Y:X.mg "zip"=none)(J:DA X [a,b] g)(C:starEach [a,b] X.env=[(false,eval a X.env),(false,eval b X.env)]:=by rfl)(o:starEach [b] X.env=[(false,eval b X.env)]:=by rfl):
  DI X (.Tuple elts k tpos) (.Call (.Name "zip" p) [a,b] [] pos) (iZipT g):=zbkp (zbsu hg Y J C o) λτ H R n=>by
 obtain⟨ρ,σ,w,xs,a0,a,U,e,q⟩:=n;obtain⟨x,s,e1,e⟩:=za e;refine⟨ρ,σ,w,x,s,a,U,e1,λρ1 H1 u x1 t T=>?_⟩;split at e
 ·rename_i as bs;cases e;obtain⟨u1,u2,rfl,b1,z⟩:=T.two;cases b1 with
  |tup h1 h2 h3=>
   cases z with
   |tup k1 k2 k3=>
    refine⟨_,_,rfl,⟨_,SqT.of h1⟩,⟨_,SqT.of k1⟩,q _ _ _ x1 t ⟨λP H2 c i d e=>?_,λP H2 c i h=>?_⟩⟩
    ·obtain⟨x',y',S,I,rfl⟩:=znp e;obtain⟨G,l,m⟩:=h3.get S;obtain⟨A,j,v⟩:=k3.get I;refine⟨⟨_,_,G,A,SqT.of (c.out h1 h2).1,SqT.of (c.out k1 k2).1,l,j⟩,λy H3 Q=>?_⟩;obtain⟨p,r,rfl,E⟩:=Q;rw[E _ _ _ _ (SqT.of (c.out h1 h2).1) (SqT.of (c.out k1 k2).1) l j];exact⟨Ext.new r _,λw f=>⟨f.new r _,At.newT f r (.cons (m.extG c) (.cons (v.extG c) .nil))⟩⟩
    ·rw[zex] at h;exact⟨_,_,SqT.of (c.out h1 h2).1,SqT.of (c.out k1 k2).1,by rw[h3.length,k3.length];lia⟩
 ·cases e
def sSetG(c:SG) (f:SE):SS:=λσ b=>(f σ b).bind λv a=>match c v σ with
 |some σ1=>.ok (.nx σ1) a
 |none=>.stuck
def zbpp{b:Pos}(o:DE X e f)(s:DG X tg bd)(k:swapsWithSole [tg] e b.line X.env=pure false:=by rfl)(p:swappedStores [tg] e X.env=pure none:=by rfl)
  (m:(assignEach [tg] X.env).map (·.2)=[assign tg X.env]:=by rfl):DSt X (.Assign [tg] e b) (sSetG bd f):=
 zrl (zbmm o s k p m) λE τ H c=>by
 obtain⟨ρ,σ,j,y,t,a,n,e,q⟩:=c;obtain⟨v,d,r,e⟩:=za e;refine⟨ρ,σ,j,v,d,a,n,r,λi H1 u h g l=>?_⟩;cases hb:bd v σ with
 |none=>rw[hb] at e;cases e
 |some σ1=>
  rw[hb] at e;cases e;exact⟨i,σ,v,σ1,a.ext h,l,hb,λx w=>q _ _ _ h g w⟩
end Dd
namespace Dd
open L2 PyProof.Rows
structure JE (X:Cx) (e:Expr) (f:SE):Prop where out:DE X e f
structure JT (X:Cx) (e:Expr) (f:ST):Prop where out:DT X e f
structure JW (X:Cx) (e:Expr) (f:ST):Prop where out:DW X e f
structure JA (X:Cx) (e:List Expr) (f:SA):Prop where out:DA X e f
structure JS (X:Cx) (s:Stmt) (f:SS):Prop where out:DSt X s f
structure JB (X:Cx) (s:List Stmt) (f:SS):Prop where out:DSs X s f
structure JO (X:Cx) (e:Option Expr) (f:DS->Store->Res (Option Int)):Prop where out:DO X e f
structure JG (X:Cx) (e:Expr) (b:SG):Prop where out:DG X e b
structure JGs (X:Cx) (e:List Expr) (b:List D->DS->Option DS):Prop where out:DGs X e b
structure JI (X:Cx) (tg iter:Expr) (f:SA):Prop where out:DI X tg iter f
structure JIf (X:Cx) (ifs:List Expr) (c:ST):Prop where out:PIf X ifs (tDT X.K c)
structure JC (X:Cx) (op:CmpOp) (a b:Expr) (f:SE):Prop where out:PC X op a b (tD X.K f)
def JW.pt(h:JW X e t):JT X e t:=⟨PW.pt h.out⟩
def zeu(h:PE X e (tVar i)):JE X e (aA i):=⟨zbyo h⟩
def zkf(h:PE X e (tC v))(k:∀ρ H,At X.K ρ H d v):JE X e (eC d):=⟨zbvp h k⟩
def zg{i j pos}:JE X (.Constant (.int i) j pos) (eC (.int i)):=⟨zbyw⟩
def ztz{b j pos}:JE X (.Constant (.bool b) j pos) (eC (.bl b)):=⟨d_bl⟩
def zgo(h:OpR X (binaryOp op) r)(c:OpD X.K g r)(e:JE X a f)(d:JE X b f'):JE X (.BinOp a op b pos) (aS g f f'):=⟨d_op h c e.out d.out⟩
def zqe(e:OpR X (compareOp op) r)(c:OpD X.K g r)(h:JE X a f)(d:JE X b f')(i:behindInMarks op b=false):JE X (.Compare a [op] [b] pos) (aS g f f'):=⟨zbyy e c h.out d.out i⟩
def zbv(e:OpR X (compareOp op) r)(c:OpD X.K g r)(h:JE X a f)(d:JE X b f')(i:behindInMarks op b=false):JT X (.Compare a [op] [b] pos) (eB (aS g f f')):=⟨zbux e c h.out d.out i⟩
def zbbs{op}(h:JE X a f):JE X (.BoolOp op [a] pos) f:=⟨zbys h.out⟩
section
def zxn(h:JE X a f)(e:JE X (.BoolOp .And (b::c) d) g):JE X (.BoolOp .And (a::b::c) d) (eAnd f g):=⟨zbyz h.out e.out⟩
end
def zbji(b:JE X a f):JE X (.UnaryOp .Not a pos) (eNot f):=⟨zbyt b.out⟩
def zjp{op}(h:JT X a t)(b:op=.And\/op=.Or):JW X (.BoolOp op [a] pos) t:=⟨zbus h.out b⟩
section
def zbpn(f:JT X a t)(e:JW X (.BoolOp .And (b::c) d) g):JW X (.BoolOp .And (a::b::c) d) (bAnd t g):=⟨zbut f.out e.out⟩
end
section
def zqa(f:JT X a t)(e:JW X (.BoolOp .Or (b::c) d) g):JW X (.BoolOp .Or (a::b::c) d) (bOr t g):=⟨zbyl f.out e.out⟩
end
def zcp(b:JT X a t):JT X (.UnaryOp .Not a pos) (bNot t):=⟨zbuv b.out⟩
def zbxe(g:JT X c t)(d:JE X a f)(e:JE X b f'):JE X (.IfExp c a b pos) (eIf t f f'):=⟨d_if g.out d.out e.out⟩
def zbj:JA X [] aC:=⟨zbvi⟩
def zcs{x1}(h:JA X es g):JE X (.Tuple es x1 pos) (aR g):=⟨zbyp h.out⟩
def zxm(h:JA X es g):JE X (.List es pos) (eLst g):=⟨zbyv h.out⟩
def zcl(h:JA X es g):JE X (.List es pos) (eLstM g):=⟨zbvk h.out⟩
def zej:JO X none pNone:=⟨zbpx⟩
def zei(a:JE X e f):JO X (some e) (pSome f):=⟨zbpw a.out⟩
def zha(c:JE X a f)(d:JE X b f')(e:PlainIx b):JE X (.Subscript a b pos) (aS oIx f f'):=⟨d_ix c.out d.out e⟩
section
variable {X:Cx}{e:Expr}{f:SE}{pos:Pos}{lo:Option Expr}{hi:Option Expr}{l:DS->Store->Res (Option Int)}{h:DS->Store->Res (Option Int)}
def zbbq{b:Pos}(a:JE X e f)(d:JO X lo l)(c:JO X hi h):JE X (.Subscript e (.Slice lo hi none b) pos) (eSl f l h):=⟨d_sl a.out d.out c.out⟩
end
def zi{x:Str}{id:String}(m:CallR X (.builtin id) r)(c:CaD X.K g r)(d:Gl X x)(j:X.mg x=none)(i:bootBuiltins x=some (.builtin id))(h:JA X (e::es) f)(l:x≠"__name__":=by decide)(a:(x==("__debug__" : Str))=false:=by decide)(k:starEach (e::es) X.env=(false,eval e X.env)::starEach es X.env:=by rfl)(b:(backTo pos (starEach es X.env)).any (·.1)=false:=by rfl):JE X (.Call (.Name x p) (e::es) [] pos) (aE g f):=⟨zbqn m c d j i h.out l a k b⟩
def zbr{T:String}(m:CallR X (.type T) r)(c:CaD X.K g r)(d:Gl X x)(j:X.mg x=none)(i:bootBuiltins x=some (.type T))(h:JA X (e::es) f)(l:x≠"__name__":=by decide)(a:(x==("__debug__" : Str))=false:=by decide)(k:starEach (e::es) X.env=(false,eval e X.env)::starEach es X.env:=by rfl)(b:(backTo pos (starEach es X.env)).any (·.1)=false:=by rfl):JE X (.Call (.Name x p) (e::es) [] pos) (aE g f):=⟨zbjo m c d j i h.out l a k b⟩
def zlb:JE X (.Dict [] [] pos) eDNew:=⟨zbvn⟩
def zbnd{X:Cx}(c:X.A.units+1<cLine)(a:JE X i g)(b:JE X o f):JC X .In i o (aS (oDIn false) g f):=⟨zbxs c a.out b.out⟩
def zbyx(h:JC X op a b t)(c:behindInMarks op b=false:=by first|exact nobehind _ (by decide) (by decide)|rfl):JE X (.Compare a [op] [b] pos) t:=⟨d_in h.out c⟩
def zbuw(h:JC X op a b t)(c:behindInMarks op b=false:=by first|exact nobehind _ (by decide) (by decide)|rfl):JT X (.Compare a [op] [b] pos) (eB t):=⟨zbym h.out c⟩
def zbqj{X:Cx}(c:X.A.units+1<cLine)(b:JE X o f)(a:JE X i g)(d:NoSl i):JE X (.Subscript o i pos) (aS oDGet f g):=⟨zbvo c b.out a.out d⟩
def zbjl{X:Cx}(c:X.A.units + 1<cLine)(b:JE X o f)(a:JE X e g)(d:JE X f' h)(m:M2 X o "get" apos e f' cpos):JE X (.Call (.Attribute o "get" apos) [e,f'] [] cpos) (eDGet2 f g h):=⟨zbqk c b.out a.out d.out m⟩
def zbqi{X:Cx}(c:X.A.units + 1<cLine)(b:JE X o f)(a:JE X e g)(m:M1 X o "pop" apos e cpos):JE X (.Call (.Attribute o "pop" apos) [e] [] cpos) (eDPop f g):=⟨zbvm c b.out a.out m⟩
def zqc{X:Cx}{a:Pos}(c:X.A.units+1<cLine)(b:JE X o f)(e:JE X i g)(d:JE X value h)(j:swapsWith value (some (.Subscript o i pos')) a.line X.env=pure false):JS X (.Assign [.Subscript o i pos'] value a) (sDPut f g h):=⟨zbps c b.out e.out d.out j⟩
def zca{b:Pos}(h:JE X o f)(i:JA X (e::es) ga)(c:attributeBase o "append" X.env (eval o X.env)=eval o X.env:=by rfl)(g:((backTo cpos (starEach (e::es) X.env)).all (λx=>!x.1)&&(backToKw cpos (keywordEach [] X.env)).all (λx=>x.1.isSome)
 && decide ((e::es).length + ([]:List Keyword).length + (if([]:List Keyword).isEmpty then 0 else 1)<30))=true:=by rfl) (d:(b.endLine==cpos.line)=true:=by rfl) (j:starEach (e::es) X.env=(false,eval e X.env)::starEach es X.env:=by rfl) (a:(backTo cpos (starEach es X.env)).any (·.1)=false:=by rfl):JE X (.Call (.Attribute o "append" b) (e::es) [] cpos) (eAppend f ga):=⟨zbjp h.out i.out c g d j a⟩
def zft{b:Pos}(h:JE X o f)(i:JA X (e::es) ga)(c:attributeBase o "extend" X.env (eval o X.env)=eval o X.env:=by rfl)(g:((backTo cpos (starEach (e::es) X.env)).all (λx=>!x.1)&&(backToKw cpos (keywordEach [] X.env)).all (λx=>x.1.isSome)
 && decide ((e::es).length + ([]:List Keyword).length + (if([]:List Keyword).isEmpty then 0 else 1)<30))=true:=by rfl) (d:(b.endLine==cpos.line)=true:=by rfl) (j:starEach (e::es) X.env=(false,eval e X.env)::starEach es X.env:=by rfl) (a:(backTo cpos (starEach es X.env)).any (·.1)=false:=by rfl):JE X (.Call (.Attribute o "extend" b) (e::es) [] cpos) (eExtend f ga):=⟨zbjj h.out i.out c g d j a⟩
def zbjn{b:Pos}{a:Pos}(e:JE X o f)(c:attributeBase o "clear" X.env (eval o X.env)=eval o X.env:=by rfl)(d:(b.endLine==a.line)=true:=by rfl):JE X (.Call (.Attribute o "clear" b) [] [] a) (eClear f):=⟨zbqm e.out c d⟩
def zty(a:JE X o f):JE X o (eFz f):=⟨d_fz a.out⟩
def zbm:JB X [] sNx:=⟨zbvb⟩
def zbbl:JS X (.Break pos) sBrk:=⟨zbiw⟩
def zj(a:JE X e f):JS X (.Return (some e) pos) (sRet f):=⟨zbuz a.out⟩
def zn{a:Pos}(b:JE X e f)(c:swapsWith e none a.line X.env=pure false:=by rfl):JS X (.Expr e a) (sDrop f):=⟨zbpr b.out c⟩
def zsm{X:Cx}{a:Pos}(j:X.N.Nodup)(g:X.N[i]?=some x)(c:L2.Loc X.env.scope x)(d:JE X e f)(h:swapsWith e (some (.Name x pos')) a.line X.env=pure false:=by rfl)(b:X.fn x=true\/X.env.scope.names.lookup x=some .local:=by first|exact .inl rfl|exact .inr rfl|assumption):JS X (.Assign [.Name x pos'] e a) (aF i f):=⟨zbuy j g c d.out h b⟩
def zd(a:JS X sm s):JB X [sm] s:=⟨zbva a.out⟩
section
def zb(c:JS X d s)(b:JB X a t):JB X (d::a) (aD s t):=⟨zbpt c.out b.out⟩
end
def zcn(e:JT X c b)(a:JB X a' s)(d:JB X b' t):JS X (.If c a' b' pos) (sIf b s t):=⟨zbyn e.out a.out d.out⟩
def zbpu{X:Cx}(k:X.N.Nodup)(j:X.N[i]?=some x)(c:L2.Loc X.env.scope x)(h:JE X e f)(b:PIp X op ti)(a:IpD X.K g ti)(d:X.fn x=true\/X.env.scope.names.lookup x=some .local:=by first|exact .inl rfl|exact .inr rfl|assumption):JS X (.AugAssign (.Name x pos') op e pos) (sAug i g f):=⟨zbvd k j c h.out b a d⟩
def zsl{a:Pos}(e:JE X value h)(b:JE X o f)(j:JE X i g)(d:∀v,assign (.Subscript o i pos') X.env v=(do
 let ov ←holding [v] (eval o X.env)
 let iv ←holding [v,ov] (eval i X.env)
 standAt pos'
 holding [v,ov,iv] (setItem ov iv v)
 release [v,ov,iv] []):=by intro _;rfl) (k:swapsWithSole [.Subscript o i pos'] value a.line X.env=pure false:=by rfl) (l:swappedStores [.Subscript o i pos'] value X.env=pure none:=by rfl) (c:(assignEach [.Subscript o i pos'] X.env).map (·.2)=[assign (.Subscript o i pos') X.env]:=by rfl):JS X (.Assign [.Subscript o i pos'] value a) (sSetIx f g h):=⟨zbis e.out b.out j.out d k l c⟩
def zbc{X:Cx}(d:X.N.Nodup)(a:X.N[i]?=some x)(c:L2.Loc X.env.scope x)(b:X.fn x=true\/X.env.scope.names.lookup x=some .local:=by first|exact .inl rfl|exact .inr rfl|assumption):JG X (.Name x pos) (gN i):=⟨zbqd d a c b⟩
def zdo:JGs X [] gsNil:=⟨zbqc⟩
def zt(c:JG X e t)(a:JGs X es u)(b:(assignEach (e::es) X.env).map (·.2)=assign e X.env::(assignEach es X.env).map (·.2):=by rfl):JGs X (e::es) (gsCons t u):=⟨zbje c.out a.out b⟩
def zga{X:Cx}(c:X.calm=true)(h:JGs X es u)(b:(assignEach es X.env).length=n:=by rfl)(a:(assignEach es X.env).findIdx? (·.1)=none:=by rfl):JG X (.Tuple es k pos) (gT n u):=⟨zbvh c h.out b a⟩
def zq(a:JE X l f):JI X tg l (aH f):=⟨zbvg a.out⟩
def zbn(d:Gl X "range")(c:X.mg "range"=none)(b:JA X [a] g)(e:starEach [a] X.env=[(false,eval a X.env)]:=by rfl):JI X tg (.Call (.Name "range" p) [a] [] pos) (iR1 g):=⟨zbbo d c b.out e⟩
def zgz(d:Gl X "range")(f:X.mg "range"=none)(e:JA X [a,b] g)(h:starEach [a,b] X.env=[(false,eval a X.env),(false,eval b X.env)]:=by rfl)(c:starEach [b] X.env=[(false,eval b X.env)]:=by rfl):JI X tg (.Call (.Name "range" p) [a,b] [] pos) (iR2 g):=⟨zbbn d f e.out h c⟩
def zbjd(a:JE X l f):JI X tg l (iDict f):=⟨zbqb a.out⟩
def zbei{X:Cx}(f:PassesOwn (model X.prog X.w) X.A X.env X.xe)(g:X.calm=true)(d:JI X tg iter it)(c:JG X tg bd)(a:JB X body b)(e:∀x,foldedSetIterable iter X.env x=pure x:=by intro _;rfl):JS X (.For tg iter body [] pos) (sFor it bd b):=⟨zbvc f g d.out c.out a.out e⟩
def zio{X:Cx}(d:PassesOwn (model X.prog X.w) X.A X.env X.xe)(e:JT X c t)(a:JB X body b):JS X (.While c body [] pos) (sWhile t b):=⟨zbir d e.out a.out⟩
def zfd{X:Cx}{N:List Str}(d:X.calm=true)(h:JI X tg iter it)(e:∀a C b s H,JG (cxC X N scope a C b s H) tg bd)(j:∀a C b s H,JIf (cxC X N scope a C b s H) ifs c)(g:∀a C b s H,JE (cxC X N scope a C b s H) elt f)(S:CompScope X N k is scope)(i:∀x,foldedSetIterable iter X.env x=pure x:=by intro _;rfl):JE X (.ListComp elt [⟨tg,iter,ifs,0⟩] scope pos) (aG it k is bd c f):=⟨zbvq d h.out (λa C b s H=>(e a C b s H).out) (λa C b s H=>(j a C b s H).out) (λa C b s H=>(g a C b s H).out) S i⟩
def zqb{X:Cx}{N:List Str}{d:Pos}(e:X.calm=true)(r:X.N.Nodup)(g:X.N[i]?=some x)(l:L2.Loc X.env.scope x)(o:JI X tg iter it)(m:∀a C b s H,JG (cxC X N scope a C b s H) tg bd)(q:∀a C b s H,JIf (cxC X N scope a C b s H) ifs c)(n:∀a C b s H,JE (cxC X N scope a C b s H) elt f)(S:CompScope X N k is scope)(h:swapsWith (.ListComp elt [⟨tg,iter,ifs,0⟩] scope pos) (some (.Name x pos')) d.line X.env=pure true:=by rfl)(j:X.fn x=true\/X.env.scope.names.lookup x=some .local:=by first|exact .inl rfl|exact .inr rfl|assumption)(p:∀x,foldedSetIterable iter X.env x=pure x:=by intro _;rfl):JS X (.Assign [.Name x pos'] (.ListComp elt [⟨tg,iter,ifs,0⟩] scope pos) d) (aF i (aG it k is bd c f)):=⟨zbpq e r g l o.out (λa C b s H=>(m a C b s H).out) (λa C b s H=>(q a C b s H).out) (λa C b s H=>(n a C b s H).out) S h j p⟩
def zfc:JIf X [] aI:=⟨zbqa⟩
def zgm(h:JT X c t):JIf X [c] t:=⟨zbpz h.out⟩
def zsq{X:Cx}(c:CalD X.prog X.w X.K X.mg X.base x k ps F)(n:∀ f l v a,F f l=.ok v a->f.length=ps.length)(h:Room k X.A)(i:Gl X x)(j:JA X (e::es) g)(b:(x==("__debug__" : Str))=false:=by decide)(m:starEach (e::es) X.env=(false,eval e X.env)::starEach es X.env:=by rfl)(d:(backTo pos (starEach es X.env)).any (·.1)=false:=by rfl):JE X (.Call (.Name x p) (e::es) [] pos) (aE F g):=⟨zbvr c n h i j.out b m d⟩
def zxz{P:Program}{w:World}{K:Fg}{j:Str->Option Value}{d h:Heap}{x:Str}{e:Stmt}{N i:List Str}{k:Nat}{b:SS}(T:TopF K x e)(X:K.In h)(G:h.Ns mainGlobals j)(S:FnScope N i (defScope e))(o:∀(kV l p:Value) (q:Option Addr) (c n:Value) (m:List Value),m.length=i.length->bindArgs (W.fnOf x x (defArgs e) (defBody e) (defScope e) .none kV l p q c n) ⟨m,[]⟩=pure (i.zip m))(g:∀(f:Addr) (c:Value) (A:Around) (a:List Env) (s:Shared) (H:Hp) (E:XK),Room k (A.deeper (envOfC x (defScope e) s.heap.objs.size f c)) ->
 JB (cxOf CX0 P w K j d N x (defScope e) f c A a s H E).nox (defBody e) b):CalD P w K j d x (k+1) i (fnD N.length i.length b):=zbqw T X G S o (λf c A a s H E r=>(g f c A a s H E r).out)
def zbor{P:Program}{w:World}{K:Fg}{j:Str->Option Value}{d:Heap}{g:Stmt}{N h:List Str}{k:Nat}{b:SS}{f:Addr}{l:FuncData}(F:Fun K "law" "law" g f l)(S:FnScope N h (defScope g))(n:h.length=1)(e:∀(c:Value) (A:Around) (a:List Env) (s:Shared) (H:Hp) (E:XK),Room k (A.deeper (envOfC "law" (defScope g) s.heap.objs.size f c)) ->
 JB (cxOf CX0 P w K j d N "law" (defScope g) f c A a s H E).nox (defBody g) b) (holds:∀ m:List Int,m.length<=63->∃ i,fnD N.length 1 b [.scr (m.map .int)] []=.ok (.bl true) i):FnOk P w K j d CX0 (k + 1) f l h (spLaw K):=zbty F S n (λc A a s H E o=>(e c A a s H E o).out) holds
def ztx(h:JE X a f):JE X (.UnaryOp .USub a pos) (eUn oNeg f):=⟨zbyu h.out⟩
def zsk(j:OpR X (compareOp op) r)(d:OpR X (compareOp op') r')(h:OpD X.K g r)(e:OpD X.K g' r')(k:JE X a f)(i:JE X b f')(m:JE X c f'')(l:lastMarks [op,op'] [b,c]=false:=by with_unfolding_all rfl):JT X (.Compare a [op,op'] [b,c] pos) (eB (eChain g g' f f' f'')):=⟨zbip j d h e k.out i.out m.out l⟩
def ziq:JS X sm sStuck:=⟨zbiu⟩
def zbu(h:JE X a f)(c:∀b,isTrue a X.env b=(do let v ←b;standAt a.pos;holding [v] (truthy v)):=by intro _;rfl):JT X a (eTru f):=⟨zbuu h.out c⟩
def zbbp(c:Gl X "enumerate")(a:X.mg "enumerate"=none)(d:JE X l f)(b:starEach [l] X.env=[(false,eval l X.env)]:=by rfl):JI X (.Tuple elts k tpos) (.Call (.Name "enumerate" p) [l] [⟨some "start",.Constant (.int 1) j cpos,kpos⟩] pos) (iEnum f):=⟨zbjc c a d.out b⟩
def zbjm{X:Cx}{N:List Str}(d:X.calm=true)(h:JI X tg iter it)(e:∀a C b s H,JG (cxC X N scope a C b s H) tg bd)(j:∀a C b s H,JIf (cxC X N scope a C b s H) ifs c)(g:∀a C b s H,JE (cxC X N scope a C b s H) elt f)(S:CompScope X N k is scope)(i:∀x,foldedSetIterable iter X.env x=pure x:=by intro _;rfl):JE X (.ListComp elt [⟨tg,iter,ifs,0⟩] scope pos) (eCompM it k is bd c f):=⟨zbql d h.out (λa C b s H=>(e a C b s H).out) (λa C b s H=>(j a C b s H).out) (λa C b s H=>(g a C b s H).out) S i⟩
def zp(a:JE X e f)(c:JA X es g)(b:plainE e=true:=by rfl):JA X (e::es) (aB f g):=⟨zbjg a.out c.out b⟩
def zxj(d:Gl X "zip")(f:X.mg "zip"=none)(e:JA X [a,b] g)(h:starEach [a,b] X.env=[(false,eval a X.env),(false,eval b X.env)]:=by rfl)(c:starEach [b] X.env=[(false,eval b X.env)]:=by rfl):JI X (.Tuple elts k tpos) (.Call (.Name "zip" p) [a,b] [] pos) (iZipT g):=⟨zbvf d f e.out h c⟩
def zbit{a:Pos}(d:JE X e f)(b:JG X tg bd)(g:swapsWithSole [tg] e a.line X.env=pure false:=by rfl)(h:swappedStores [tg] e X.env=pure none:=by rfl)(c:(assignEach [tg] X.env).map (·.2)=[assign tg X.env]:=by rfl):JS X (.Assign [tg] e a) (sSetG bd f):=⟨zbpp d.out b.out g h c⟩
end Dd
namespace L2
open Spec PyProof.Rows
section
open AutoSeq1
end
end L2
namespace Dd
open L2
end Dd
namespace L2
open Spec PyProof.Rows
end L2
namespace Dd
open L2 PyProof.Rows
end Dd
namespace L2
open Spec PyProof.Rows
def rInX(K:Fg) (b:Bool):R2:=λx c H Q=>∃d p a,DAt K H x d/\DAt K H c p/\(p=.tuple a\/p=.list a)/\PySem.SeqAt.shaped d=true/\PySem.SeqAt.shaped p=true/\Q (.bl (if b then !a.any λy=>PyData.eqv y d else a.any λy=>PyData.eqv y d)) H
def zbsa(h:p=.tuple xs\/p=.list xs)(s:PySem.SeqAt.shaped p=true):PyData.canLayAll0 xs=true/\PyData.depthAll xs<=63:=by
 have:(PyData.canLayAll0 xs&&decide (PyData.depthAll xs+1<=64))=true:=by rcases h with rfl|rfl<;>exact s
 rw[xcs] at this;exact⟨this.1,by have:=xdc this.2;lia⟩
def zbcr(s:PySem.SeqAt.shaped d=true):d.canLay0=true:=by
 unfold PySem.SeqAt.shaped at s;rw[xcs] at s;exact s.1
def zbtj{X:Cx}(t:X.A.units+64<cLine):OpR X (compareOp .In) (rInX X.K false):=by
 intro z s σ H x y v u Q I m k h;obtain⟨d,p,g,j,l,e,f,n,q⟩:=h;obtain⟨r,c⟩:=zgi I j m;obtain⟨o,b⟩:=zgi I l k;obtain⟨i,w⟩:=zbsa e n;have a:X.A.units+1+min (PyData.depthAll g) d.depth<cLine:=by have:=xia (PyData.depthAll g) d.depth;lia
 rcases e with rfl|rfl
 ·exact SeqAt.in_tuple_reads b c i (zbcr f) a ⟨.bl _,H,I,rfl,q⟩
 ·exact SeqAt.in_list_reads b c i (zbcr f) a ⟨.bl _,H,I,rfl,q⟩
section
open AutoSeq1
variable (l:Addr)(items:Array Value)(n:Nat)(dd:Option Addr)(sl:Array (Option Value))(x:Int)(u:Tok)
end
end L2
namespace Dd
open L2 PyProof.Rows
def oInG(a:Bool) (x c:D) (b:Store):Res D:=match dataOf b x,dataOf b c with
 |some d,some (.tuple xs)=>if PySem.SeqAt.shaped d=true/\PySem.SeqAt.shaped (.tuple xs)=true then .ok (.bl (if a then !xs.any λy=>PyData.eqv y d else xs.any λy=>PyData.eqv y d)) b else .stuck
 |some d,some (.list xs)=>if PySem.SeqAt.shaped d=true/\PySem.SeqAt.shaped (.list xs)=true then .ok (.bl (if a then !xs.any λy=>PyData.eqv y d else xs.any λy=>PyData.eqv y d)) b else .stuck
 |_,_=>.stuck
def zbxy{K:Fg}{f:Bool}:OpD K (oInG f) (rInX K f):=λρ H l x y u v z k Q c a b e q=>by
 unfold oInG at e;split at e
 ·rename_i d j h i;split at e
  ·rename_i g;cases e;exact⟨_,_,j,zfs c a h,zfs c b i,.inl rfl,g.1,g.2,q _ _ _ (.refl _ _) c (.bl _)⟩
  ·cases e
 ·rename_i d j h i;split at e
  ·rename_i g;cases e;exact⟨_,_,j,zfs c a h,zfs c b i,.inr rfl,g.1,g.2,q _ _ _ (.refl _ _) c (.bl _)⟩
  ·cases e
 ·cases e
end Dd
namespace L2
open Spec PyProof.Rows PySem.W
def ztd{a:List Int}(r:Vals (a.map V.int) us) (b:i<a.length):∃t,us.getD i Value.none=Value.int (a.getD i 0) t:=by
 have e:(a.map V.int)[i]?=some (V.int a[i]):=by rw[xcg,xbf b];rfl
 obtain⟨u,d,t,c⟩:=r.get e;refine⟨t,?_⟩;rw[xbh,d,xbh,xbf b];exact c
def zbld{c:List Int}(r:Vals (c.map V.int) d):∀v∈d,∃i t,v=Value.int i t:=λv a=>by
 obtain⟨i,b,rfl⟩:=xev a;have f:=r.length;rw[xbb] at f;obtain⟨t,e⟩:=ztd r (i:=i) (by lia);rw[xbh,xbf b] at e;exact⟨_,t,e⟩
def zre(a b:Int):HT.lexLt [a] [b]=decide (a<b):=by
 by_cases h:a=b
 ·subst h;simp[HT.lexLt]
 ·simp[HT.lexLt,h]
noncomputable abbrev ones(a:List Int):List (List Int):=a.map λn=>[n]
def zhl{a:List Int}(b:i<a.length):(ones a).getD i []=[a.getD i 0]:=by
 rw[xbh,xcg,xbf b,xbh,xbf b]
 rfl
def zbki{a:List Int}(h:2<=a.length)(r:Vals (a.map V.int) us):Srt.Answers P w B (Srt.rank (ones a)) us sg:=by
 have g:=r.length;rw[xbb] at g;refine⟨oneType',λR d=>?_,λi j C k l b=>?_⟩
 ·exact kas_kind (T:=.type "int") (by lia) (λv e=>by
   obtain⟨i,t,rfl⟩:=zbld r v e
   exact Looks.now) (by decide) (by decide) d
 ·obtain⟨t,f⟩:=ztd r (i:=i) (by lia);obtain⟨m,c⟩:=ztd r (i:=j) (by lia);unfold kas_ask;rw[f,c];rw[Srt.znl (by rw[xbb];lia) (by rw[xbb];lia),zhl (by lia),zhl (by lia),zre] at b;rw[keyLt'_oneType];exact oneLt_int b
def zbjv{a:List Int}(r:Vals (a.map V.int) us):Srt.Coh (Srt.rank (ones a)) us:=λi j f g e=>by
 have d:=r.length;rw[xbb] at d;obtain⟨t,c⟩:=ztd r (i:=i) (by lia);obtain⟨h,b⟩:=ztd r (i:=j) (by lia);rw[c,b] at e;have:a.getD i 0=a.getD j 0:=by injection e
 unfold Srt.rank;rw[zhl (by lia),zhl (by lia),this]
def zoz{α:Type}{f:α->V}{g:α->Value}:∀{l:List α},(∀a∈l,RelV (f a) (g a))->Vals (l.map f) (l.map g)
 |[],_=>.nil
 |a::l,h=>.cons (h a xby) (zoz λb c=>h b (xbi _ c))
def zbgq{ns:List Int}{h:List Value}(r:Vals (ns.map V.int) h){p:Array Nat}(o:p.Perm (List.toArray (List.range ns.length)))(y:Srt.Up (Srt.rank (ones ns)) p ns.length):
  ∃m:List Int,m.Perm ns/\m.Pairwise (·<=·)/\Vals (m.map V.int) (Srt.outOf h p).toList:=by
 have P:=r.length;rw[xbb] at P;have I:p.size=ns.length:=by rw[o.size_eq];simp
 have d:∀i∈p.toList,i<ns.length:=λi b=>by
  have C:=(o.mem_iff (a:=i)).mp (by rw[←xlz];exact b);exact xbs.mp (List.mem_toArray.mp C)
 refine⟨p.toList.map λi=>ns.getD i 0,?_,?_,?_⟩
 ·have G:p.toList.Perm (List.range ns.length):=by
   have:=xfr.mp o
   simpa using this
  have s:=G.map λi=>ns.getD i 0
  have A:((List.range ns.length).map λi=>ns.getD i 0)=ns:=by
   apply xjs
   ·simp
   ·intro i Q E;simp[xbh,E]
  rw[A] at s;exact s
 ·rw[xfw];intro i j b c n;rw[xjt,xjt];rw[xbb] at b c;have J:i<p.size:=by simpa using b
  have H:j<p.size:=by simpa using c
  have w:=y i j (xcd n) (by lia);have g:∀k,(v:k<p.toList.length)->p.getD k 0=p.toList[k]:=λk v=>by
   have f:k<p.size:=by simpa using v
   rw[xdf,xdp f];simp
  have q:=d _ (xed b);have x:=d _ (xed c);have u:=Srt.znl (ks:=ones ns) (i:=p.toList[j]) (j:=p.toList[i]) (by rw[xbb];exact x) (by rw[xbb];exact q);have l:Srt.lt (Srt.rank (ones ns)) p.toList[j] p.toList[i]=false:=by
   refine xcm λz=>?_
   unfold Srt.At at w;rw[g i b,g j c] at w;lia
  rw[l,zhl x,zhl q,zre] at u;have:=xmz u.symm;lia
 ·unfold Srt.outOf;rw[xcv];show Vals _ (p.toList.map λi=>h.getD i Value.none);refine zoz λi b=>?_
  obtain⟨t,e⟩:=ztd r (d i b);exact⟨t,e⟩
end L2
namespace Dd
open L2 PyProof.Rows
noncomputable def sortI(l:List Int):List Int:=l.mergeSort λa b=>decide (a<=b)
def zja(l:List Int):(sortI l).Perm l:=List.mergeSort_perm _ _
def zbfk(l:List Int):(sortI l).Pairwise (·<=·):=by
 have:=List.pairwise_mergeSort (le:=λa b:Int=>decide (a<=b)) (λa b c e d=>by simp at *;lia) (λa b=>by simp;lia) l;exact this.imp λh=>by simpa using h
def zbfl{a:List Int}(p:a.Perm b)(h:a.Pairwise (·<=·)):a=sortI b:=
 (p.trans (zja b).symm).eq_of_pairwise (λx y _ _ d c=>by lia) h (zbfk b)
end Dd
namespace L2
open Spec PyProof.Rows
end L2
namespace Dd
open L2 PyProof.Rows
end Dd
namespace Dd
variable {α:Type}
section
variable {motive:List α->Prop}
@[elab_as_elim] theorem len0 (us:List α) (a:us.length=0) (h:motive []):motive us:=by rw[List.eq_nil_of_length_eq_zero a];exact h
@[elab_as_elim] theorem lenS {n:Nat}(us:List α) (b:us.length=n+1) (h:∀a us,us.length=n->motive (a::us)):motive us:=by
 cases us with
 |nil=>cases b
 |cons a us=>exact h a us (Nat.succ.inj b)
@[elab_as_elim] theorem len1 (us:List α) (b:us.length=1) (h:∀a,motive [a]):motive us:=lenS us b λa us b=>len0 us b (h a)
@[elab_as_elim] theorem len2 (us:List α) (c:us.length=2) (h:∀a b,motive [a,b]):motive us:=lenS us c λa us c=>len1 us c (h a)
@[elab_as_elim] theorem len3 (us:List α) (d:us.length=3) (h:∀a b c,motive [a,b,c]):motive us:=lenS us d λa us d=>len2 us d (h a)
@[elab_as_elim] theorem len4 (us:List α) (e:us.length=4) (h:∀a b c d,motive [a,b,c,d]):motive us:=lenS us e λa us e=>len3 us e (h a)
end
end Dd
namespace Dd
open L2
def iterF(s:DFn->DFn):Nat->DFn
 |0=>λ_ _=>.stuck
 |n+1=>s (iterF s n)
def zxy{K:Fg}{N:List Str}(T:TopF K x b)(X:K.In h)(G:h.Ns mainGlobals mg)(S:FnScope N ps (defScope b))
  (p:∀(kV i r:Value) (y:Option Addr) (c n:Value) (l:List Value),l.length=ps.length->bindArgs (W.fnOf x x (defArgs b) (defBody b) (defScope b) .none kV i r y c n) ⟨l,[]⟩=pure (ps.zip l)):CalD P w K mg base x (k+1) ps (λ_ _=>.stuck):=
 zss T X G S p (λu H Q E d=>by obtain⟨ρ,o,b,v,j,a,t,e,m,q⟩:=d;exact m) λf c A g s H u Q E z d=>by obtain⟨ρ,o,b,v,j,a,t,e,m,q⟩:=d;cases e
def CalD.iter{K:Fg}{L:Nat}(f:CalD P w K mg base x L ps (λ_ _=>.stuck))(g:∀F b c v a,s F b c=.ok v a->b.length=ps.length)
  (e:∀F j,L<=j->(∀b c v a,F b c=.ok v a->b.length=ps.length)->CalD P w K mg base x j ps F->CalD P w K mg base x (j+1) ps (s F)):∀n,CalD P w K mg base x (L+n) ps (iterF s n):=λn=>by
 have d:∀n,(∀b c v a,iterF s n b c=.ok v a->b.length=ps.length)/\CalD P w K mg base x (L+n) ps (iterF s n):=λn=>by
  induction n with
  |zero=>exact⟨λ_ _ _ _ h=>(by cases h),f⟩
  |succ n ih=>exact⟨g _,e _ _ (xcf _ _) ih.1 ih.2⟩
 exact(d n).2
end Dd
namespace L2
open Spec PyProof.Rows
end L2
namespace Dd
open L2 PyProof.Rows
end Dd
namespace L2
open Spec PyProof.Rows
end L2
namespace Dd
open L2
end Dd
namespace Dd
open L2 PyProof.Rows
end Dd
namespace L2
open Spec PyProof.Rows
def zia{α β:Type}{f:α->Option β}{g:α->β}:∀{l:List α},(∀x∈l,f x=some (g x))->l.filterMap f=l.map g
 |[],_=>rfl
 |x::l,h=>by
  rw[xke,h x xby,xbr,zia λy a=>h y (xbi _ a)]
def zro(a:Array Value):slicePick a none none (some (-1))=a.toList.reverse.toArray:=by
 have e:sliceRange (sliceBounds none none (some (-1)) a.size).1 (sliceBounds none none (some (-1)) a.size).2.1 (sliceBounds none none (some (-1)) a.size).2.2=(List.range a.size).map λk=>a.size-1-k:=by
  unfold sliceRange sliceBounds;simp only[xjy,show ¬ ((-1:Int) > 0) by decide,xeu];have d:(if(a.size:Int)-1 > -1 then((a.size:Int)-1 - -1 - -1-1) / - -1 else 0).toNat=a.size:=by
   rw[Int.neg_neg,xnr];split<;>lia
  rw[d];refine xea λk c=>?_
  have:=xbs.mp c;lia
 unfold slicePick;rw[e,xkp]
 congr 1
 cases hz:a.size with
 |zero=>
  have:a.toList=[]:=xhh.mp (by rw[xce];exact hz);rw[this]
  rfl
 |succ n=>
  have b:∀k,a.size-1-k<a.size:=λk=>by lia
  rw[zia (g:=λk=>a[a.size-1-k]'(b k)) λk _=>by
   show a[n+1-1-k]?=_;rw[←hz]
   exact getElem?_pos a _ (b k)]
  refine xjs (by simp[hz]) λi f h=>?_
  rw[xjt,List.getElem_range,List.getElem_reverse];simp
def tBack(K:Fg) (d c:TE):TE:=λσ H Q=>d σ H λx H1=>c σ H1 λy H2=>∃a b,x=.ref a/\y=.int (-1)/\SqL K H2 a b/\∀p,H2 p=none->Q (.ref p) (upd H2 p (.lst b.reverse))
def zoy:∀{c d},Vals c d->Vals c.reverse d.reverse
 |[],_,h=>by cases h;exact .nil
 |x::c,_,h=>by
  cases h with
  |cons a b=>rw[xlj,xlj];exact(zoy b).append (.cons a .nil)
def zbnc(A:PE X e te)(p:PE X es ts):PE X (.Subscript e (.Slice none none (some es) p2) pos) (tBack X.K te ts):=by
 intro f s σ H Q I h;refine Subscript_ (thn (A f s σ H _ I h) λv G g=>?_);obtain⟨x,H1,C,n,J⟩:=g;refine wpAny_Slice ?_;rw[xne,evalPart_some];refine xbe (xbe (thn (p f G σ H1 _ C J) λP c g=>?_));obtain⟨y,H3,m,w,a,t,rfl,rfl,u,q⟩:=g;obtain⟨j,rfl⟩:=w;cases n;have d:Inv X f σ H3 { c with heap:=c.heap.push { cls:=.type "slice",data:=.fields #[.none,.none,.int (-1) j] } }:=m.kept (t':=c.toks) λb z q=>xbg _ q
 obtain⟨l,r,k,E⟩:=d.list u;have i:=r.length;refine tail_any (ops:=[.ref a,.ref c.heap.objs.size]) k.isList.typeIs xnn.lookup ?_ (by with_unfolding_all rfl);refine wpAny_getItem_list_slice k.isList (xmv ..) .none .none (.int (-1) j) (by simp) ?_ (by rw[xbw]<;>lia);rw[zro];refine⟨.ref _,_,d.laid (t':=c.toks) (o:=.lst t.reverse) (λb z q=>xbg _ q) (xbl _) ?_,rfl,q _ (d.hok.fresh (xbl _))⟩;exact⟨by rw[xkg];exact E,_,0,zoy r,xbz _ rfl⟩
end L2
namespace Dd
open L2
def AtAll.rev{K:Fg}:∀{c e},AtAll K ρ H c e->AtAll K ρ H c.reverse e.reverse
 |[],_,h=>by cases h;exact .nil
 |d::c,_,h=>by
  cases h with
  |cons a b=>rw[xlj,xlj];exact(AtAll.rev b).append (.cons a .nil)
end Dd
namespace L2
open Spec PyProof.Rows
def zqq{s:Shared}{n:Nat}(f:s.heap.IsSliceOf sl .none .none (.int (-1) tk))(h:Q ((n:Int)-1,-1,n) s):wpAny (model prog w) A (Builtin.Slice.sliceApplied (.ref sl) (pure (n:Int))) Q E s:=by
 obtain⟨os,a,d,b⟩:=id f;unfold Builtin.Slice.sliceApplied Builtin.Slice.sliceFields;refine xba (xba (xgt a b (x:=.none) rfl (xba (xgt a b (x:=.none) rfl (xba (xgt a b (x:=.int (-1) tk) rfl (xbe ?_)))))));refine xba (HT.zev (.int (-1) tk) ?_);show wpAny _ _ (if((-1:Int)==0)=true then _ else _) _ _ s;rw[if_neg (by decide)];refine xba (HT.zev .none (xba (HT.zev .none (xba (xbe ?_)))));show wpAny _ _ (match Builtin.Slice.sliceAdjust none none (-1) (n:Int) with|(lo,e)=>pure (lo,(-1:Int),Builtin.Slice.slicePlaces lo e (-1))) _ _ s;have g:Builtin.Slice.sliceAdjust none none (-1) (n:Int)=((n:Int)-1,-1):=by
  unfold Builtin.Slice.sliceAdjust;simp
 have c:Builtin.Slice.slicePlaces ((n:Int)-1) (-1) (-1)=n:=by
  unfold Builtin.Slice.slicePlaces;simp only[show ¬ ((-1:Int) > 0) by decide,xeu,Int.neg_neg,xnr];split<;>lia
 rw[g];show wpAny _ _ (pure ((n:Int)-1,(-1:Int),Builtin.Slice.slicePlaces ((n:Int)-1) (-1) (-1))) _ _ s;rw[c];exact xbe h
def zbfq(a:Array Value):((List.range a.size).filterMap λ(m:Nat)=>a[((a.size:Int)-1+(m:Int)*(-1)).toNat]?).toArray=a.toList.reverse.toArray:=by
 rw[←zro];unfold slicePick;have e:sliceRange (sliceBounds none none (some (-1)) a.size).1 (sliceBounds none none (some (-1)) a.size).2.1 (sliceBounds none none (some (-1)) a.size).2.2=(List.range a.size).map λk:Nat=>((a.size:Int)-1+(k:Int)*(-1)).toNat:=by
  unfold sliceRange sliceBounds;simp only[xjy,show ¬ ((-1:Int) > 0) by decide,xeu];have b:(if(a.size:Int)-1 > -1 then((a.size:Int)-1 - -1 - -1-1) / - -1 else 0).toNat=a.size:=by
   rw[Int.neg_neg,xnr];split<;>lia
  rw[b];refine xea λk c=>?_
  lia
 rw[e,xkp]
 rfl
def zhp{s:Shared}(b:IsTup s.heap t items)(i:s.heap.IsSliceOf sl .none .none (.int (-1) tk))
  (h:Q (.ref s.heap.objs.size) { s with heap:=s.heap.push { cls:=.type "tuple",data:=.seq items.toList.reverse.toArray } })
  (g:items.size<=sizeLine):wpAny (model prog w) A (getItem (.ref t) (.ref sl)) Q E s:=by
 have a:sizeOk (.seq items.toList.reverse.toArray):=by
  show items.toList.reverse.toArray.size<=sizeLine;rw[xbw,xkg,xce];exact g
 obtain⟨os,f,e,j⟩:=id i;have d:s.TypeIs (.ref sl) "slice":=⟨os,f,e⟩
 unfold getItem
 try with_reducible refine xeq ?_
 first|refine xba (xbe ?_)|skip
 refine xba (xnm b.typeIs (by decide) ?_)
 refine xba (wpAny_callSpecial?_slot (name:=Str.ofString "__getitem__") b.typeIs xfa
  (xei xfa b.typeIs PyProof.Rows.entry_tuple_getitem ?_ (PyProof.Rows.args_tuple_getitem _ _)))
 show wpAny _ _ (Builtin.Tuple.tupleItemsOf (.ref t) >>= _) _ _ s;refine xba (PyProof.Rows.tupleItemsOf_ b ?_);refine xba (xmk d ?_);rw[if_pos (by decide)];refine xba (zqq i ?_);have c:¬ ((((items.size:Int)-1)==0&&(-1:Int)==1&&items.size==items.size)=true):=by
  intro q;rw[xcs,xcs] at q;exact absurd (eq_of_beq q.1.2) (by decide)
 show wpAny _ _ (if(((items.size:Int)-1)==0&&(-1:Int)==1&&items.size==items.size)=true then _ else _) _ _ s;rw[if_neg c,zbfq]
 first
  |exact xba (m:=Builtin.Tuple.tupleExact _) (xdv (xbe ⟨_,rfl,xbe h⟩) a)
  |exact xba (m:=Builtin.Tuple.tupleExact _) (xdv (xba (xbe (xbe ⟨_,rfl,xbe h⟩))) a)
  |exact xba (xba (m:=Builtin.Tuple.tupleExact _) (xdv (xbe (xbe ⟨_,rfl,xbe h⟩)) a))
  |exact xba (xba (m:=Builtin.Tuple.tupleExact _) (xdv (xbe ⟨_,rfl,xbe h⟩) a))
def tBackT(K:Fg) (d c:TE):TE:=λσ H Q=>d σ H λx H1=>c σ H1 λy H2=>∃a b,x=.ref a/\y=.int (-1)/\SqT K H2 a b/\∀p,H2 p=none->Q (.ref p) (upd H2 p (.tup b.reverse))
def zbgn(A:PE X e te)(n:PE X es ts):PE X (.Subscript e (.Slice none none (some es) p2) pos) (tBackT X.K te ts):=by
 intro f s σ H Q I h;refine Subscript_ (thn (A f s σ H _ I h) λv G g=>?_);obtain⟨x,H1,C,m,J⟩:=g;refine wpAny_Slice ?_;rw[xne,evalPart_some];refine xbe (xbe (thn (n f G σ H1 _ C J) λP c g=>?_));obtain⟨y,H3,l,u,a,p,rfl,rfl,t,q⟩:=g;obtain⟨z,rfl⟩:=u;cases m;have d:Inv X f σ H3 { c with heap:=c.heap.push { cls:=.type "slice",data:=.fields #[.none,.none,.int (-1) z] } }:=l.kept (t':=c.toks) λb w q=>xbg _ q
 obtain⟨k,r,j,E⟩:=d.tuple t;have i:=r.length;refine tail_any (ops:=[.ref a,.ref c.heap.objs.size]) j.typeIs xfa.lookup ?_ (by with_unfolding_all rfl);refine zhp j (xmv ..) ?_ (by rw[xbw]<;>lia);refine⟨.ref _,_,d.laid (t':=c.toks) (o:=.tup p.reverse) (λb w q=>xbg _ q) (xbl _) ?_,rfl,q _ (d.hok.fresh (xbl _))⟩;exact⟨by rw[xkg];exact E,_,zoy r,⟨_,xbz _ rfl,rfl,_,rfl⟩⟩
def zbab(h:PE X e t)(b:PE X e t'):PE X e (λσ H Q=>t σ H Q\/t' σ H Q):=λa s σ H Q I q=>by
 rcases q with q|q
 ·exact h a s σ H Q I q
 ·exact b a s σ H Q I q
end L2
namespace Dd
open L2
def eBack(f g:SE):SE:=λσ c=>(f σ c).bind λx b=>(g σ b).bind λy a=>match y with
 |.int (-1)=>match x with
  |.tup xs=>.ok (.tup xs.reverse) a
  |x=>match asL a x with
   |some xs=>.ok (.lst xs.reverse) a
   |none=>.stuck
 |_=>.stuck
def zbqo(t:JE X e f)(o:JE X es g):JE X (.Subscript e (.Slice none none (some es) p2) pos) (eBack f g):=⟨zgj (zbab (zbnc t.out o.out) (zbgn t.out o.out)) λτ H Q I=>by
 obtain⟨ρ,σ,n,v,J,a,s,e,q⟩:=I;obtain⟨x,c,z,e⟩:=za e;obtain⟨y,P,r,e⟩:=za e;split at e
 ·split at e
  ·cases e;refine .inr ⟨ρ,σ,n,_,c,a,s,z,λk H1 u j h l=>?_⟩;refine⟨k,σ,c,_,_,a.ext j,h,r,λE H2 w i b m=>?_⟩;cases m;cases l.ext i with
   |tup h1 h2 h3=>exact⟨_,_,rfl,rfl,SqT.of h1,λp d=>q _ _ _ ((j.trans i).trans (Ext.new d _)) (b.new d _) (.newT b d h3.rev)⟩
  ·split at e
   ·rename_i S C;cases e;refine .inl ⟨ρ,σ,n,x,c,a,s,z,λk H1 u j h l=>?_⟩;refine⟨k,σ,c,_,_,a.ext j,h,r,λE H2 w i b m=>?_⟩;cases m;obtain⟨p,T,rfl,G,A⟩:=zhc b (l.ext i) C;exact⟨_,_,rfl,rfl,SqL.of G,λp d=>q _ _ _ ((j.trans i).trans (Ext.new d _)) (b.new d _) (.newL b d A.rev)⟩
   ·cases e
 ·cases e⟩
end Dd
namespace L2
open Spec PyProof.Rows
end L2
namespace Dd
open L2
end Dd
namespace L2
open Spec PyProof.Rows
end L2
namespace L2
namespace St
noncomputable abbrev lt(a b:Nat):Prop:=a<b
def zwy(e:Array Nat)(j:Nat)(f:∀a b,a<=b->b<e.size->e.getD a j<=e.getD b j):∀(fuel lo hi:Nat),lo<=hi->hi<=e.size->hi-lo<=fuel->(∀i,i<lo->e.getD i j<j)->(∀i,hi<=i->i<e.size->j<=e.getD i j) ->
  SetTable.below.go e j fuel lo hi<=e.size/\(∀i,i<SetTable.below.go e j fuel lo hi->e.getD i j<j)/\(∀i,SetTable.below.go e j fuel lo hi<=i->i<e.size->j<=e.getD i j)
 |0,lo,hi,h1,h2,h3,a,b=>by
  have:lo=hi:=by lia
  subst this;unfold SetTable.below.go;exact⟨h2,a,b⟩
 |fuel+1,lo,hi,h1,h2,h3,a,b=>by
  unfold SetTable.below.go;by_cases c:lo<hi
  ·rw[if_pos c];dsimp only;by_cases d:e.getD ((lo+hi)/2) j<j
   ·rw[if_pos d]
    exact zwy e j f fuel _ hi (by lia) h2 (by lia) (λi g=>by
     have:=f i ((lo+hi)/2) (by lia) (by lia)
     lia) b
   ·rw[if_neg d]
    exact zwy e j f fuel lo _ (by lia) (by lia) (by lia) a (λi g h=>by
     have:=f ((lo+hi)/2) i g h
     lia)
  ·rw[if_neg c];have:lo=hi:=by lia
   subst this;exact⟨h2,a,b⟩
def Up(a:Array Nat):Prop:=a.toList.Pairwise lt
def zfq(a:Array Nat)(i d:Nat):a.getD i d=a.toList.getD i d:=by
 rw[xdf,xbh,xcn]
def Up.mono(h:Up xs)(d a b:Nat)(g:a<=b)(i:b<xs.size):xs.getD a d<=xs.getD b d:=by
 rcases xge a b with c|c
 ·have e:b<xs.toList.length:=by simpa using i
  have f:a<xs.toList.length:=by lia
  rw[zfq,zfq,xbh,xbh,xbf f,xbf e];exact xcd (xfw.mp h a b f e c)
 ·have:a=b:=by lia
  subst this;exact xbl _
def zfe(h:Up xs)(j:Nat):SetTable.below xs j<=xs.size/\(∀i,i<SetTable.below xs j->xs.getD i j<j)/\(∀i,SetTable.below xs j<=i->i<xs.size->j<=xs.getD i j):=
 zwy xs j (h.mono j) xs.size 0 xs.size (by lia) (by lia) (by lia) (λi b=>absurd b (by lia)) (λi c a=>absurd a (by lia))
def zop(h:Up a)(j:Nat):∀y∈a.toList.take (SetTable.below a j),y<j:=λy c=>by
 obtain⟨f,d,g⟩:=zfe h j;obtain⟨i,e,rfl⟩:=List.mem_iff_getElem.mp c;rw[xcl] at e;have b:i<a.toList.length:=by lia
 have:=d i (by lia);rw[zfq,xbh,xbf b] at this;rw[xnj];exact this
def zju(h:Up a)(j:Nat):∀y∈a.toList.drop (SetTable.below a j),j<=y:=λy c=>by
 obtain⟨f,g,d⟩:=zfe h j;obtain⟨i,e,rfl⟩:=List.mem_iff_getElem.mp c;rw[xfq] at e;have k:a.toList.length=a.size:=by simp
 have b:SetTable.below a j+i<a.toList.length:=by lia
 have:=d (SetTable.below a j+i) (by lia) (by lia);rw[zfq,xbh,xbf b] at this;rw[xni];exact this
def zbcd(h:Up xs) (hj:j∈xs.toList):xs[SetTable.below xs j]?=some j:=by
 have c:=zop h j;have b:=zju h j;rw[←xdd (SetTable.below xs j) xs.toList] at hj;rcases xcc.mp hj with hj|hj
 ·exact absurd (c j hj) (xhf _)
 ·have a:(xs.toList.drop (SetTable.below xs j)).Pairwise lt:=xgy (xnh _ _) h;have:(xs.toList.drop (SetTable.below xs j))[0]?=some j:=by
   cases e:xs.toList.drop (SetTable.below xs j) with
   |nil=>rw[e] at hj;cases hj
   |cons y l=>
    rw[e] at hj b a;rcases xbm.mp hj with rfl|hj
    ·rfl
    ·have d:=b y (by simp);have f:y<j:=(xff.mp a).1 j hj;lia
  rw[xfo] at this;rw[←xcn]
  simpa using this
def zfp{α:Type}(a:Array α)(p:Nat)(x:α):(SetTable.insertAt a p x).toList=a.toList.take p++x::a.toList.drop p:=by
 unfold SetTable.insertAt;rw[xeb,xfk,xmb,xmb];simp[List.extract];exact xej (by simp)
def Up.insert(h:Up xs) (g:j∉xs.toList):Up (SetTable.insertAt xs (SetTable.below xs j) j):=by
 unfold Up;rw[zfp,xgj];refine⟨xgy (xlg _ _) h,xff.mpr ⟨λy d=>?_,xgy (xnh _ _) h⟩,λa f b hb=>?_⟩
 ·have c:=zju h j y d;have i:y≠j:=λe=>g (e ▸ xfe d)
  show j<y;lia
 ·have c:=zop h j a f;rcases xbm.mp hb with rfl|hb
  ·exact c
  ·have:=zju h j b hb;show a<b;lia
end St
namespace St
structure Tb (t:SetTable):Prop where
 up:Up t.place
 nd:t.dummies=#[]
 inm:∀y∈t.place.toList,y<=t.mask
 pl:t.plain=true
def zwx(j:Nat):SetTable.has #[] j=false:=by
 unfold SetTable.has;simp
def Tb.slot(h:Tb t)(j:Nat):(t.slot j=.empty/\j∉t.place.toList)\/(∃i,t.slot j=.live i)/\j∈t.place.toList:=by
 unfold SetTable.slot;dsimp only;by_cases c:t.place[SetTable.below t.place j]?=some j
 ·right
  rw[if_pos (by rw[c];exact xhl _)];rw[←xcn] at c;exact⟨⟨_,rfl⟩,xbn c⟩
 ·left
  rw[if_neg (by simpa using c),h.nd,zwx];exact⟨rfl,λa=>c (zbcd h.up a)⟩
noncomputable def iAt(a:Nat):Nat->Nat->Nat->Nat
 |0,i,_=>i
 |k+1,i,per=>iAt a k ((i*5+1+per/32)%(a+1)) (per/32)
noncomputable def nextP(a:Nat) (p:SetTable.Probe):SetTable.Probe:={j:=(p.i*5+1+p.perturb/32)%(a+1),more:=SetTable.runEnd a ((p.i*5+1+p.perturb/32)%(a+1))-(p.i*5+1+p.perturb/32)%(a+1),i:=(p.i*5+1+p.perturb/32)%(a+1),perturb:=p.perturb/32,dummy:=p.dummy}
def zbkl{t:SetTable}{p:SetTable.Probe}(h:p.more=m+1):t.advance p={p with j:=p.j+1,more:=m}:=by
 unfold SetTable.advance;rw[if_pos (by lia),h]
 rfl
def zbkm{t:SetTable}{p:SetTable.Probe}(h:p.more=0):t.advance p=nextP t.mask p:=by
 unfold SetTable.advance;rw[if_neg (by lia)]
 rfl
def window(g:Tb t)(h:Int):∀(m d:Nat) (p:SetTable.Probe),p.more=m->p.dummy=none ->
  (∃j,SetTable.probe.go t (λ_=>h+1) h (d+m+1) p=some (.empty j none)/\j∉t.place.toList/\j<=p.j+m) \/
  (p.j∈t.place.toList/\∃l,l.i=p.i/\l.perturb=p.perturb/\l.dummy=none/\SetTable.probe.go t (λ_=>h+1) h (d+m+1) p=SetTable.probe.go t (λ_=>h+1) h d (nextP t.mask l))
 |0,d,p,hm,hd=>by
  have e:SetTable.probe.go t (λ_=>h+1) h (d+0+1) p=match t.slot p.j with
   |.empty=>some (.empty p.j p.dummy)
   |.dummy=>SetTable.probe.go t (λ_=>h+1) h d (t.advance {p with dummy:=some p.j})
   |.live i=>if h+1==h then some (.candidate p.j i (t.advance p)) else SetTable.probe.go t (λ_=>h+1) h d (t.advance p):=rfl
  rw[e];rcases g.slot p.j with⟨k,f⟩|⟨⟨i,k⟩,f⟩
  ·rw[k,hd];exact .inl ⟨p.j,rfl,f,by lia⟩
  ·rw[k];dsimp only;rw[if_neg (by simp;lia)];exact .inr ⟨f,p,rfl,rfl,hd,by rw[zbkm hm]⟩
 |m+1,d,p,hm,hd=>by
  have e:SetTable.probe.go t (λ_=>h+1) h (d+(m+1)+1) p=match t.slot p.j with
   |.empty=>some (.empty p.j p.dummy)
   |.dummy=>SetTable.probe.go t (λ_=>h+1) h (d+(m+1)) (t.advance {p with dummy:=some p.j})
   |.live i=>if h+1==h then some (.candidate p.j i (t.advance p)) else SetTable.probe.go t (λ_=>h+1) h (d+(m+1)) (t.advance p):=rfl
  rw[e];rcases g.slot p.j with⟨k,f⟩|⟨⟨i,k⟩,f⟩
  ·rw[k,hd];exact .inl ⟨p.j,rfl,f,by lia⟩
  ·rw[k];dsimp only;rw[if_neg (by simp;lia),zbkl hm,←xnb];rcases window g h m d {p with j:=p.j+1,more:=m} rfl hd with⟨j,a,b,c⟩|⟨a,l,b⟩
   ·exact .inl ⟨j,a,b,by dsimp only at c;lia⟩
   ·exact .inr ⟨f,l,b⟩
def zrf(h:i<=mask):i<=SetTable.runEnd mask i/\SetTable.runEnd mask i<=mask/\SetTable.runEnd mask i<=i+9:=by
 unfold SetTable.runEnd;split<;>lia
def search(g:Tb t)(h:Int):∀(L d:Nat) (p:SetTable.Probe),10*L<=d->p.j=p.i->p.i<=t.mask->p.more=SetTable.runEnd t.mask p.i-p.i->p.dummy=none->(∃k,k<L/\iAt t.mask k p.i p.perturb∉t.place.toList) ->
  ∃j,SetTable.probe.go t (λ_=>h+1) h d p=some (.empty j none)/\j∉t.place.toList/\j<=t.mask
 |0,_,_,_,_,_,_,_,⟨k,hk,_⟩=>absurd hk (by lia)
 |L+1,d,p,hf,hj,hi,hm,hd,⟨k,hk,hk2⟩=>by
  obtain⟨r,o,q⟩:=zrf hi;have m:d=(d-p.more-1)+p.more+1:=by lia
  have w:=window g h p.more (d-p.more-1) p rfl hd;rw[←m] at w;rcases w with⟨j,a,b,c⟩|⟨a,l,e,i,f,n⟩
  ·exact⟨j,a,b,by lia⟩
  ·rw[n];cases k with
   |zero=>exact absurd a (by rw[hj];exact hk2)
   |succ k=>
    refine search g h L _ (nextP t.mask l) (by lia) rfl (by unfold nextP;exact xdb (xnp _ (by lia))) rfl f ⟨k,by lia,?_⟩;unfold nextP;dsimp only;rw[e,i];exact hk2
/- the leaps meet all places -/
noncomputable def accI(a:Nat):Nat->Nat->Nat->Nat->Nat
 |0,acc,_,_=>acc
 |L+1,acc,i,per=>accI a L (acc ||| 2^i) ((i*5+1+per/32)%(a+1)) (per/32)
def zbes(a j:Nat):∀(L acc i b:Nat),(accI a L acc i b).testBit j=true->acc.testBit j=true\/∃k,k<L/\iAt a k i b=j
 |0,acc,i,b,h=>.inl h
 |L+1,acc,i,b,h=>by
  rcases zbes a j L _ _ _ h with h|⟨k,d,c⟩
  ·rw[Nat.testBit_or,Nat.testBit_two_pow,Bool.or_eq_true,xhx] at h;rcases h with h|h
   ·exact .inl h
   ·exact .inr ⟨0,by lia,h⟩
  ·exact .inr ⟨k+1,by lia,c⟩
def covB(a h:Nat):Bool:=Nat.beq (accI a (a+3) 0 (h%(a+1)) h) (2^(a+1)-1)
def cov7:(List.range 64).all (covB 7)=true:=by decide +kernel
def cov31:(List.range 64).all (covB 31)=true:=by decide +kernel
def cov127:(List.range 64).all (covB 127)=true:=by decide +kernel
noncomputable def MaskOk(m:Nat):Prop:=m=7\/m=31\/m=127
def cov(b:MaskOk mask)(a:h<64)(d:j<=mask):∃k,k<mask+3/\iAt mask k (h%(mask+1)) h=j:=by
 have c:covB mask h=true:=by
  rcases b with rfl|rfl|rfl
  ·exact xca.mp cov7 h (xbs.mpr a)
  ·exact xca.mp cov31 h (xbs.mpr a)
  ·exact xca.mp cov127 h (xbs.mpr a)
 have e:=xhc c;have t:(accI mask (mask+3) 0 (h%(mask+1)) h).testBit j=true:=by
  rw[e,Nat.testBit_two_pow_sub_one];exact xcj (by lia)
 rcases zbes mask j _ _ _ _ t with z|z
 ·simp at z
 ·exact z
def room(g:Tb t)(h:t.place.size<=t.mask):∃j,j<=t.mask/\j∉t.place.toList:=by
 by_cases c:∃j,j<=t.mask/\j∉t.place.toList
 ·exact c
 ·exfalso
  have b:List.range (t.mask+1) ⊆ t.place.toList:=λj a=>by
   by_cases z:j∈t.place.toList
   ·exact z
   ·exact absurd ⟨j,by have:=xbs.mp a;lia,z⟩ c
  have:=xeo (xls) b;simp at this;lia
def zbbg(g:Tb t)(m:MaskOk t.mask){h:Nat}(b:h<64)(a:t.place.size<=t.mask):∃j,t.freeSlot (h:Int)=some (j,false)/\j∉t.place.toList/\j<=t.mask:=by
 obtain⟨p,e,i⟩:=room g a;obtain⟨k,o,n⟩:=cov m b e;have d:SetTable.bits (h:Int)=h:=by
  unfold SetTable.bits;lia
 have s:=search g (h:Int) (t.mask+3) (10*SetTable.turns t.mask) (t.probeStart (h:Int)) (by unfold SetTable.turns;lia) rfl (by unfold SetTable.probeStart;exact xdb (xnp _ (by lia))) rfl rfl ⟨k,o,by
  show iAt t.mask k (SetTable.bits (h:Int)%(t.mask+1)) (SetTable.bits (h:Int))∉_;rw[d,n]
  exact i⟩
 obtain⟨j,c,l,f⟩:=s;refine⟨j,?_,l,f⟩;unfold SetTable.freeSlot SetTable.probe;rw[c]
 rfl
end St
namespace St
def zdv{α:Type}(a:Array α)(p:Nat)(x:α)(h:p<=a.size):(SetTable.insertAt a p x).size=a.size+1:=by
 have:=congrArg List.length (zfp a p x);simp at this;lia
def zboq{b:Array (Int×Value)}{h:Nat}(g:Tb t)(m:MaskOk t.mask)(f:h<64)(e:t.place.size=b.size)(p:t.place.size<t.mask):
  ∃a c,layNew t b (h:Int) x=(a,c,false,false)/\Tb c/\c.mask=t.mask/\c.led=t.led/\c.place.size=a.size/\a.size=b.size+1/\a.toList.Perm (((h:Int),x)::b.toList):=by
 obtain⟨j,l,o,k⟩:=zbbg g m f (by lia);have d:=(zfe g.up j).1;refine⟨SetTable.insertAt b (SetTable.below t.place j) ((h:Int),x),{t with place:=SetTable.insertAt t.place (SetTable.below t.place j) j},?_,?_,rfl,rfl,?_,?_,?_⟩
 ·have n:t.put j=({t with place:=SetTable.insertAt t.place (SetTable.below t.place j) j},SetTable.below t.place j):=by
   unfold SetTable.put;dsimp only;rw[g.nd,zwx]
   rfl
  have i:({t with place:=SetTable.insertAt t.place (SetTable.below t.place j) j}:SetTable).fits (SetTable.insertAt b (SetTable.below t.place j) ((h:Int),x)).size=true:=by
   unfold SetTable.fits SetTable.fill;dsimp only;rw[zdv _ _ _ d,zdv _ _ _ (by lia),g.nd,e];simp;lia
  unfold layNew;rw[l];dsimp only;rw[n];dsimp only;unfold SetTable.orStandIn;rw[i]
  rfl
 ·refine⟨g.up.insert o,g.nd,λy hy=>?_,g.pl⟩;dsimp only at hy ⊢;rw[zfp] at hy;rcases xcc.mp hy with hy|hy
  ·exact g.inm y (xek hy)
  ·rcases xbm.mp hy with rfl|hy
   ·exact k
   ·exact g.inm y (xfe hy)
 ·dsimp only;rw[zdv _ _ _ d,zdv _ _ _ (by lia),e]
 ·rw[zdv _ _ _ (by lia)]
 ·rw[zfp];refine(xnv).trans ?_;rw[xdd]
/- laid anew -/
noncomputable def ownL(a:Array (Option Nat)) (b:Nat):List Nat:=(List.range (b+1)).filterMap λj=>a.getD j none
structure Ow (mask n:Nat) (owner:Array (Option Nat)):Prop where
 size:owner.size=mask+1
 perm:(ownL owner mask).Perm (List.range n)
def zbnh(h:Ow b n owner)(o:n<=b):∃j,j<=b/\owner.getD j (some 0)=none:=by
 by_cases c:∃j,j<=b/\owner.getD j (some 0)=none
 ·exact c
 ·exfalso
  have k:∀j∈List.range (b+1),(owner.getD j none).isSome=true:=λj d=>by
   have d:=xbs.mp d;have i:j<owner.size:=by rw[h.size];exact d
   cases e:owner.getD j none with
   |some x=>rfl
   |none=>
    refine absurd ⟨j,by lia,?_⟩ c;rw[xdf,xdp i] at e ⊢;exact e
  have g:(ownL owner b).length=b+1:=by
   unfold ownL;have:∀l:List Nat,(∀j∈l,(owner.getD j none).isSome=true)->(l.filterMap λj=>owner.getD j none).length=l.length:=λl=>by
    induction l with
    |nil=>intro _;rfl
    |cons a l ih=>
     intro g;obtain⟨x,m⟩:=Option.isSome_iff_exists.mp (g a (by simp));rw[xee (f:=λj=>owner.getD j none) m,xbv,xbv,ih λj d=>g j (xbi _ d)]
   rw[this _ k,xgn]
  have:=h.perm.length_eq;rw[g,xgn] at this;lia
def zbed{owner:Array (Option Nat)}:∀(fuel i b:Nat),i<=mask->(∃k,k<fuel/\owner.getD (iAt mask k i b) (some 0)=none)->∃j,SetTable.layClean.free mask owner fuel i b=some j/\j<=mask/\owner.getD j (some 0)=none
 |0,_,_,_,⟨k,hk,_⟩=>absurd hk (by lia)
 |fuel+1,i,b,hi,⟨k,hk,a⟩=>by
  obtain⟨h,f,g⟩:=zrf hi;unfold SetTable.layClean.free;cases e:(List.range (SetTable.runEnd mask i+1-i)).find? λk=>(owner.getD (i+k) (some 0)).isNone with
  |some z=>
   have d:=xof e;have l:=xbs.mp (xki e);exact⟨i+z,rfl,by lia,by simpa using d⟩
  |none=>
   dsimp only;have c:=xmy.mp e 0 (xbs.mpr (by lia));cases k with
   |zero=>
    exfalso
    rw[xkq] at c;have a:owner.getD i (some 0)=none:=a;rw[a] at c;exact c rfl
   |succ k=>
    exact zbed fuel _ _ (xdb (xnp _ (by lia))) ⟨k,by lia,a⟩
def zml{α β:Type}{f g:α->Option β}:∀{l:List α},(∀x∈l,f x=g x)->l.filterMap f=l.filterMap g
 |[],_=>rfl
 |a::l,h=>by
  have b:=zml (l:=l) λx d=>h x (xbi _ d)
  have c:=h a (by simp);cases e:g a with
  |none=>rw[xet (c.trans e),xet e,b]
  |some z=>rw[xee (c.trans e),xee e,b]
def zhz(b:Array (Option Nat)){j n:Nat}(o:b.getD j (some 0)=none)(k:j<b.size):∀l:List Nat,l.Nodup->j∈l ->
  (l.filterMap λi=>(b.setIfInBounds j (some n)).getD i none).Perm (n::l.filterMap λi=>b.getD i none)
 |[],_,h=>by cases h
 |a::l,nd,h=>by
  have m:∀i,i≠j->(b.setIfInBounds j (some n)).getD i none=b.getD i none:=λi g=>by
   rw[xdf,xdf,xly (xdn g)]
  have r:(b.setIfInBounds j (some n)).getD j none=some n:=by
   rw[xdf,xkb k]
   rfl
  have q:b.getD j none=none:=by
   rw[xdf,xdp k] at o ⊢;exact o
  have d:=xdg.mp nd;by_cases c:a=j
  ·subst c;rw[xee (f:=λi=>(b.setIfInBounds a (some n)).getD i none) r,xet (f:=λi=>b.getD i none) q];have:(l.filterMap λi=>(b.setIfInBounds a (some n)).getD i none)=l.filterMap λi=>b.getD i none:=zml λi g=>m i λe=>d.1 (e ▸ g)
   rw[this]
  ·have s:j∈l:=by
    rcases xbm.mp h with h|h
    ·exact absurd h.symm c
    ·exact h
   have p:=zhz b (n:=n) o k l d.2 s;cases e:b.getD a none with
   |none=>rw[xet (f:=λi=>(b.setIfInBounds j (some n)).getD i none) (by rw[m a c];exact e),xet (f:=λi=>b.getD i none) e];exact p
   |some z=>
    rw[xee (f:=λi=>(b.setIfInBounds j (some n)).getD i none) (by rw[m a c];exact e),xee (f:=λi=>b.getD i none) e];exact(List.Perm.cons z p).trans (List.Perm.swap n z _)
def Ow.step{a n:Nat}{b:Array (Option Nat)}(h:Ow a n b)(l:MaskOk a){hv:Nat}(e:hv<64)(m:n<=a):
  ∃j,SetTable.layClean.free a b (SetTable.turns a) (SetTable.bits (hv:Int)%(a+1)) (SetTable.bits (hv:Int))=some j/\Ow a (n+1) (b.setIfInBounds j (some n)):=by
 have d:SetTable.bits (hv:Int)=hv:=by
  unfold SetTable.bits;lia
 obtain⟨q,c,f⟩:=zbnh h m;obtain⟨k,s,o⟩:=cov l e c;rw[d];obtain⟨j,i,r,g⟩:=zbed (owner:=b) (mask:=a) (SetTable.turns a) (hv%(a+1)) hv (xdb (xnp _ (by lia))) ⟨k,by unfold SetTable.turns;lia,by rw[o];exact f⟩;refine⟨j,i,⟨by rw[Array.size_setIfInBounds];exact h.size,?_⟩⟩;have p:=zhz b (n:=n) g (by rw[h.size];lia) (List.range (a+1)) xls (xbs.mpr (by lia));refine p.trans ((List.Perm.cons n h.perm).trans ?_);rw[xgp];exact(List.perm_append_singleton n _).symm
noncomputable def SmallH(h:Int):Prop:=∃n:Nat,n<64/\h=n
def zwo{b:Nat}(f:MaskOk b):∀(l:List Int) (n:Nat) (a:Array (Option Nat)),Ow b n a->(∀h∈l,SmallH h)->n+l.length<=b ->
  ∃c,l.foldl (λacc h=>do
   let (a,k) ←acc
   let j ←SetTable.layClean.free b a (SetTable.turns b) (SetTable.bits h%(b+1)) (SetTable.bits h)
   pure (a.setIfInBounds j (some k),k+1)) (some (a,n))=some (c,n+l.length)/\Ow b (n+l.length) c
 |[],n,a,o,_,_=>⟨a,rfl,o⟩
 |h::l,n,a,o,hs,hl=>by
  rw[xbv] at hl ⊢;obtain⟨d,m,rfl⟩:=hs h (by simp);obtain⟨j,q,s⟩:=o.step f m (by lia);obtain⟨g,p,r⟩:=zwo f l (n+1) _ s (λx i=>hs x (xbi _ i)) (by lia);refine⟨g,?_,by rw[show n+(l.length+1)=n+1+l.length by lia];exact r⟩;rw[xgr]
  have e:(do
   let (a,k) ←some (a,n)
   let j ←SetTable.layClean.free b a (SetTable.turns b) (SetTable.bits (d:Int)%(b+1)) (SetTable.bits (d:Int))
   pure (a.setIfInBounds j (some k),k+1):Option (Array (Option Nat)×Nat))=some (a.setIfInBounds j (some n),n+1):=by
   show(SetTable.layClean.free b a (SetTable.turns b) (SetTable.bits (d:Int)%(b+1)) (SetTable.bits (d:Int))).bind _=_;rw[q]
   rfl
  rw[e,p,show n+(l.length+1)=n+1+l.length by lia]
def ow0(a:Nat):Ow a 0 (Array.replicate (a+1) none):=by
 refine⟨by simp,?_⟩;unfold ownL;have:(List.range (a+1)).filterMap (λj=>(Array.replicate (a+1) (none:Option Nat)).getD j none)=(List.range (a+1)).filterMap λ_=>(none:Option Nat):=zml λj _=>by
  rw[xdf,Array.getElem?_replicate];split<;>rfl
 rw[this];have:∀l:List Nat,l.filterMap (λ_=>(none:Option Nat))=[]:=λl=>by induction l<;>simp_all
 rw[this];exact xol _
def zbav(a:MaskOk mask){hs:Array Int}(h:∀x∈hs.toList,SmallH x)(b:hs.size<=mask):∃owner,SetTable.layClean mask hs=some owner/\Ow mask hs.size owner:=by
 obtain⟨o,e,w⟩:=zwo a hs.toList 0 _ (ow0 mask) h (by simpa using b);rw[xel] at e w;refine⟨o,?_,by simpa using w⟩;unfold SetTable.layClean;rw[←Array.foldl_toList,e]
 rfl
def zwm(b:Array (Option Nat)):∀l:List Nat,(l.filterMap λj=>(b.getD j none).map λk=>(j,k)).map (·.1)=l.filter λj=>(b.getD j none).isSome
 |[]=>rfl
 |a::l=>by
  have c:=zwm b l;cases e:b.getD a none with
  |none=>rw[xet (f:=λj=>(b.getD j none).map λk=>(j,k)) (by rw[e];rfl),xco (by rw[e];decide),c]
  |some z=>rw[xee (f:=λj=>(b.getD j none).map λk=>(j,k)) (by rw[e];rfl),xck (by rw[e];rfl),xbr,c]
def zwl(b:Array (Option Nat)):∀l:List Nat,(l.filterMap λj=>(b.getD j none).map λk=>(j,k)).map (·.2)=l.filterMap λj=>b.getD j none
 |[]=>rfl
 |a::l=>by
  have c:=zwl b l;cases e:b.getD a none with
  |none=>rw[xet (f:=λj=>(b.getD j none).map λk=>(j,k)) (by rw[e];rfl),xet (f:=λj=>b.getD j none) e,c]
  |some z=>rw[xee (f:=λj=>(b.getD j none).map λk=>(j,k)) (by rw[e];rfl),xee (f:=λj=>b.getD j none) e,xbr,c]
def zzr{α:Type}(es:List α):(List.range es.length).filterMap (λi=>es[i]?)=es:=by
 induction es with
 |nil=>rfl
 |cons a l ih=>
  rw[xbv,List.range_succ_eq_map,xee (f:=λi=>(a::l)[i]?) rfl,xkp]
  congr 1
def relay{t:SetTable}{b:Array (Int×Value)}{wanted:Nat}(g:Tb t)(E:∀e∈b.toList,SmallH e.1)(q:MaskOk (SetTable.sizeAbove wanted-1))(o:b.size<=SetTable.sizeAbove wanted-1):
  ∃f h,relayAll t b wanted=(f,h,false)/\Tb h/\h.mask=SetTable.sizeAbove wanted-1/\h.led=t.led/\h.place.size=f.size/\f.size=b.size/\f.toList.Perm b.toList:=by
 obtain⟨a,r,w⟩:=zbav q (hs:=b.map (·.1)) (λx p=>by
  rw[Array.toList_map] at p;obtain⟨e,C,rfl⟩:=xbt.mp p
  exact E e C) (by simpa using o)
 rw[Array.size_map] at w;generalize hmk:SetTable.sizeAbove wanted-1=mask at r w q o
 let live:=(List.range (mask+1)).filterMap λj=>(a.getD j none).map λk=>(j,k)
 have s:live.map (·.1)=(List.range (mask+1)).filter λj=>(a.getD j none).isSome:=zwm a _
 have u:live.map (·.2)=ownL a mask:=zwl a _;have m:=w.perm;rw[←u] at m;have d:((live.map (·.2)).filterMap λi=>b[i]?).Perm b.toList:=by
  refine(m.filterMap _).trans ?_;have:=zzr b.toList;rw[xce] at this;rw[show(List.range b.size).filterMap (λi=>b[i]?)=b.toList from(zml λi _=>(xcn (xs:=b)).symm).trans this]
 have c:((live.map (·.2)).filterMap λi=>b[i]?).length=b.size:=by rw[d.length_eq,xce]
 have l:live.length=b.size:=by
  have:=m.length_eq;rw[xbb,xgn] at this;exact this
 have A:t.relaid (b.map (·.1)) wanted=some ({mask,place:=(live.map (·.1)).toArray,dummies:=#[],finger:=t.finger,led:=t.led,moves:=t.movedTo mask,plain:=t.plain},(live.map (·.2)).toArray):=by
  unfold SetTable.relaid SetTable.laid;rw[hmk,r]
  rfl
 refine⟨((live.map (·.2)).filterMap λi=>b[i]?).toArray,{mask,place:=(live.map (·.1)).toArray,dummies:=#[],finger:=t.finger,led:=t.led,moves:=t.movedTo mask,plain:=t.plain},?_,⟨?_,rfl,λy n=>?_,g.pl⟩,rfl,rfl,?_,?_,?_⟩
 ·unfold relayAll;rw[A];dsimp only;have G:coversAll (live.map (·.2)).toArray b.size=true:=by
   unfold coversAll;exact List.isPerm_iff.mpr m
  have z:(live.map (·.2)).toArray.filterMap (λx=>b[x]?)=((live.map (·.2)).filterMap λi=>b[i]?).toArray:=by simp
  rw[z,G];have v:({mask,place:=(live.map (·.1)).toArray,dummies:=#[],finger:=t.finger,led:=t.led,moves:=t.movedTo mask,plain:=t.plain}:SetTable).fits ((live.map (·.2)).filterMap λi=>b[i]?).toArray.size=true:=by
   unfold SetTable.fits SetTable.fill;dsimp only;rw[xbw,xbw,c,xbb,l];simp;lia
  rw[v]
  rfl
 ·show(live.map (·.1)).toArray.toList.Pairwise lt;rw[List.toList_toArray,s];exact xgy xiq List.pairwise_lt_range
 ·dsimp only at n ⊢;rw[s] at n;have:=xbs.mp (xcp.mp n).1;lia
 ·dsimp only;rw[xbw,xbw,c,xbb,l]
 ·rw[xbw,c]
 ·rw[List.toList_toArray];exact d
end St
namespace St
def zbgp{α:Type}{l:List α}(h:i<l.length):(l[i]::l.eraseIdx i).Perm l:=by
 rw[List.eraseIdx_eq_take_drop_succ];refine xnv.symm.trans ?_;rw[←xde h,xdd]
def zbda{α:Type}(next:Nat->Nat):∀(fuel k:Nat) (left:List α) (b:Array α),left.length<=fuel->(pickOrder.go next fuel k left b).toList.Perm (b.toList++left)
 |0,k,left,b,h=>by
  have:left=[]:=xhh.mp (by lia);subst this;unfold pickOrder.go;rw[xdt]
 |fuel+1,k,left,b,h=>by
  unfold pickOrder.go;cases e:left[next k%left.length]? with
  |none=>
   have:left=[]:=by
    cases left with
    |nil=>rfl
    |cons a l=>
     have:=List.getElem?_eq_none_iff.mp e;have:=xnp (next k) (show(a::l).length > 0 by simp);lia
   subst this;dsimp only;rw[xdt]
  |some x=>
   dsimp only;obtain⟨c,rfl⟩:=xbd.mp e;have d:=zbda next fuel (k+1) (left.eraseIdx (next k%left.length)) (b.push left[next k%left.length]) (by rw[List.length_eraseIdx_of_lt c];lia);refine d.trans ?_;rw[xfk,xch];exact xgx _ (zbgp c)
def zzy{α:Type}(next:Nat->Nat)(a:Array α):(pickOrder next a).toList.Perm a.toList:=by
 unfold pickOrder;exact zbda next a.size 0 a.toList #[] (by simp)
def zyg(h:Up xs) (n:i<xs.size):SetTable.below xs (xs.getD i 0+1)=i+1:=by
 obtain⟨p,m,l⟩:=zfe h (xs.getD i 0+1);have r:∀a b,a<b->b<xs.size->xs.getD a 0<xs.getD b 0:=λa b k o=>by
  have j:b<xs.toList.length:=by simpa using o
  have f:a<xs.toList.length:=by lia
  rw[zfq,zfq,xbh,xbh,xbf f,xbf j];exact xfw.mp h a b f j k
 have dflt:∀a d,a<xs.size->xs.getD a d=xs.getD a 0:=λa d q=>by
  rw[xdf,xdf,xdp q]
  rfl
 generalize SetTable.below xs (xs.getD i 0+1)=b at p m l;rcases Nat.lt_trichotomy b (i+1) with c|c|c
 ·have:=l i (by lia) n;have e:=dflt i (xs.getD i 0+1) n;lia
 ·exact c
 ·have:=m (i+1) c;have g:i+1<xs.size:=by lia
  have e:=dflt (i+1) (xs.getD i 0+1) g;have:=r i (i+1) (by lia) g;lia
def zyf(h:Up xs):SetTable.below xs 0=0:=by
 obtain⟨b,a,d⟩:=zfe h 0;rcases xjb (SetTable.below xs 0) with c|c
 ·exact c
 ·exact absurd (a 0 c) (by lia)
end St
end L2
namespace L2
open PySem.W PyProof.Rows Spec
namespace St
structure Es (l:List (Int×Value)) (ks:List Nat):Prop where
 all:∀e∈l,∃(n:Nat) (t:Tok),n<64/\e=((n:Int),Value.int (n:Int) t)
 perm:(l.map (·.1)).Perm (ks.map λ(n:Nat)=>(n:Int))
 nd:ks.Nodup
def Es.small(h:Es l c):∀k∈c,k<64:=λk a=>by
 have b:(k:Int)∈l.map (·.1):=h.perm.mem_iff.mpr (xbt.mpr ⟨k,a,rfl⟩);obtain⟨e,d,f⟩:=xbt.mp b;obtain⟨n,t,g,rfl⟩:=h.all e d;dsimp only at f;lia
def Es.len(h:Es l ks):l.length=ks.length:=by
 have:=h.perm.length_eq
 simpa using this
def Es.few(h:Es l ks):l.length<=64:=by
 rw[h.len];have:=xeo h.nd (l₂:=List.range 64) λk a=>xbs.mpr (h.small k a)
 simpa using this
def Es.of_perm{a:List (Int×Value)}(h:Es l ks)(p:a.Perm l):Es a ks:=
 ⟨λe b=>h.all e (p.mem_iff.mp b),(p.map _).trans h.perm,h.nd⟩
def Es.add(h:Es l ks) (a:n<64)(b:n∉ks):Es (((n:Int),Value.int (n:Int) t)::l) (n::ks):=
 ⟨λe he=>by
  rcases xbm.mp he with rfl|he
  ·exact⟨n,t,a,rfl⟩
  ·exact h.all e he,h.perm.cons _,xdg.mpr ⟨b,h.nd⟩⟩
def zod{n:Nat}(h:n<64):hashInt (n:Int)=n:=by
 have e:rawHash (n:Int)=n:=by
  unfold rawHash;have c:(((n:Int).natAbs:Int)%((2^61-1:Nat):Int))=n:=by
   rw[Int.natAbs_natCast];exact Int.emod_eq_of_lt (by lia) (by lia)
  rw[c];dsimp only;have b:¬ ((n:Int)<0):=by lia
  rw[if_neg b];have a:((n:Int)==-1)=false:=by
   rw[xfv];lia
  rw[a]
  rfl
 unfold hashInt;rw[e];have a:((n:Int)==-1)=false:=by
  rw[xfv];lia
 rw[a]
 rfl
structure Tt (w:World) (es:Array (Int×Value)) (t:SetTable) (ks:List Nat):Prop where
 tb:Tb t
 mo:MaskOk t.mask
 ld:t.led=!w.params.followText "set-order"
 sz:t.place.size=es.size
 room:t.place.size*5<t.mask*3
 el:Es es.toList ks
def Tt.fits(h:Tt w es t ks):t.fits es.size=true:=by
 have:=h.room;have a:=h.sz;unfold SetTable.fits SetTable.fill;rw[h.tb.nd];simp;lia
def Tt.few(h:Tt w es t ks):es.size<=64:=by
 have:=h.el.few
 simpa using this
def Tt.elems{c:List Nat}(h:Tt w es t c):ElemsOf (intKind P w) es.toList:=λe b=>by
 obtain⟨m,t,a,rfl⟩:=h.el.all e b;exact⟨⟨(m:Int),intKind_is _ _ _ _,(zod a).symm⟩,rfl⟩
noncomputable def Sn(w:World) (h:Heap) (a:Addr) (d:List Nat):Prop:=∃b c e t,h.get? a=some b/\b.ExactSet/\b.data=.set c e t/\Tt w c t d
def Sn.kept{h':Heap}(x:Sn w h a ks)(k:∀o,h.get? a=some o->h'.get? a=some o):Sn w h' a ks:=
 let ⟨ob,es,ep,t,e,r⟩:=x;⟨ob,es,ep,t,k _ e,r⟩
def zbpg{t:SetTable}(f:t.dummies=#[])(d:MaskOk t.mask)(g:t.place.size=m+1)(room:m*5<t.mask*3)(b:m+1<=64):
  (t.tooFull=false/\(m+1)*5<t.mask*3)\/(t.tooFull=true/\MaskOk (SetTable.sizeAbove (SetTable.grown (m+1))-1)/\m+1<=SetTable.sizeAbove (SetTable.grown (m+1))-1/\(m+1)*5<(SetTable.sizeAbove (SetTable.grown (m+1))-1)*3):=by
 have a:t.fill=m+1:=by
  unfold SetTable.fill;rw[f,g]
  rfl
 rcases d with e|e|e
 ·by_cases c:m=4
  ·subst c
   right
   refine⟨by unfold SetTable.tooFull;rw[a,e];decide,?_,by decide,by decide⟩;exact .inr (.inl (by decide))
  ·left
   refine⟨?_,by lia⟩;unfold SetTable.tooFull;rw[a,e];simp;lia
 ·by_cases c:m=18
  ·subst c
   right
   refine⟨by unfold SetTable.tooFull;rw[a,e];decide,?_,by decide,by decide⟩;exact .inr (.inr (by decide))
  ·left
   refine⟨?_,by lia⟩;unfold SetTable.tooFull;rw[a,e];simp;lia
 ·left
  refine⟨?_,by lia⟩;unfold SetTable.tooFull;rw[a,e];simp;lia
def zbmd{h:Heap}(d:h.get? a=some o)(f:o.data=.set es ep t)(b:Array (Int×Value))(c:SetTable):
  (h.update a (Obj.putSet b c)).get? a=some {o with data:=.set b (ep+1) c}:=by
 have e:=putSet_of b c f;have g:=xfl (Obj.putSet b c) d (by rw[e];rfl)
 rwa [e] at g
def zbwi{s:Shared}{ks:List Nat}{n:Nat}(X:n<64)(S:Sn w s.heap a ks)
  (A:∀o b,Heap.SameBut a s.heap o->Sn w o a (if n∈ks then ks else n::ks)->Q b {s with heap:=o}):
  wpAny (model P w) B (setAddHashed a (.int (n:Int) tok) (hashInt (n:Int))) Q E s:=by
 obtain⟨ob,u,ep,t,G,v,H,T⟩:=id S;have a7:=T.few;have hb:u.size<scanBound:=by unfold scanBound;lia
 unfold setAddHashed setAddHashedIn;refine xeq (xba (xlm G H T.fits ?_));dsimp only;rw[byScan_of (knd:=intKind P w) (x:=.int (n:Int) tok) rfl hb T.elems,if_pos rfl];unfold setAddByScan;refine xba (xba (xik (xba (wpAny_setScan_of (knd:=intKind P w) (k:=(n:Int)) (intKind_is _ _ _ _) G H T.fits T.elems ?_))));cases hr:List.findIdx? (λe=>(intKind P w).is (n:Int) e.2) u.toList with
 |some j=>
  dsimp only;obtain⟨hj,hp,_⟩:=List.findIdx?_eq_some_iff_getElem.mp hr;obtain⟨m,q,hm,e⟩:=T.el.all _ (xed hj);rw[e] at hp;have Y:(n:Int)=(m:Int):=(intKind P w).inj _ _ _ hp (intKind_is P w (m:Int) q);have h1:(n:Int)∈u.toList.map (·.1):=xbt.mpr ⟨_,xed hj,by rw[e];exact Y.symm⟩;obtain⟨k,hk,ek⟩:=xbt.mp (T.el.perm.mem_iff.mp h1);have a4:n∈ks:=by
   have:k=n:=by lia
   exact this ▸ hk
  have f:=A s.heap false (Heap.SameBut.refl a s.heap);rw[if_pos a4] at f;exact xbe (xbe (f S))
 |none=>
  dsimp only;have no:n∉ks:=λhk=>by
   have h1:(n:Int)∈u.toList.map (·.1):=T.el.perm.mem_iff.mpr (xbt.mpr ⟨n,hk,rfl⟩);obtain⟨e,I,J⟩:=xbt.mp h1;obtain⟨m,q,hm,rfl⟩:=T.el.all e I;have z:=List.findIdx?_eq_none_iff.mp hr _ I;dsimp only at J z;rw[J,intKind_is] at z;cases z
  rw[zod X];obtain⟨c,C,J,h,i,y,a3,d,a0⟩:=zboq (x:=Value.int (n:Int) tok) T.tb T.mo X T.sz (by have:=T.room;lia);have g:Es c.toList (n::ks):=(T.el.add (t:=tok) X no).of_perm a0;rw[J];dsimp only;refine xba (xbe ?_);rw[h.pl,if_pos rfl,hashByValue_scannable 8 (x:=Value.int (n:Int) tok) rfl];refine xba (xbe ?_);rw[show plainKind (Value.int (n:Int) tok)=true from rfl,if_pos rfl];have a6:c.size<=64:=by have:=g.few;simpa using this
  refine xba (wpAny_storeSet_of G H ?_ (by rw[xil];lia));have g1:=zbmd G H c C;have p:=xew s.heap a (Obj.putSet c C);have f:=λo b=>A o b
  rw[if_neg no] at f;rcases zbpg (t:=C) (m:=u.size) h.nd (by rw[i];exact T.mo) (by lia) (by have:=T.room;have:=T.sz;rw[i];lia) (by lia) with⟨c1,c2⟩|⟨c1,c2,c3,c4⟩
  ·rw[c1];refine xbe (xbe (f _ _ p ⟨_,c,ep+1,C,g1,v,rfl,h,by rw[i];exact T.mo,y.trans T.ld,a3,?_,g⟩));lia
  ·rw[c1]
   obtain⟨l,q,e2,a1,r,a5,a2,a8,U⟩:=relay (wanted:=SetTable.grown c.size) h (λe I=>by
    obtain⟨m,tt,hm,rfl⟩:=g.all e I
    exact⟨m,hm,rfl⟩) (by rw[d];exact c2) (by rw[d];exact c3)
   rw[e2];refine xba (xbe ?_);refine xba (wpAny_storeSet_of g1 rfl ?_ (by show l.size<=_;rw[xil];lia));refine xbe (xbe (f _ _ (p.trans (xew _ a _)) ⟨_,l,ep+1+1,q,zbmd g1 rfl l q,v,rfl,a1,by rw[r,d];exact c2,a5.trans (y.trans T.ld),a2,?_,g.of_perm U⟩));rw[r,d];lia
end St
namespace St
noncomputable def met:List Nat->List Nat->List Nat
 |[],ks=>ks
 |n::l,ks=>met l (if n∈ks then ks else n::ks)
def zny:entryFor table "set.update.loop"=some Builtin.«set.update.loop»:=entryFor_of_tree (by kernel_rfl)
def zji:plainId "set.update.loop"=true:=by decide +kernel
section
variable {P:Program}{w:World}{B:Around}{R:Result->Shared->Prop}{it:Addr}{fp:List Addr}{wr:List Addr}{G:Array GenState->Array GenState->Prop}{N:Nat}{It:Nat->Value->Prop}{St:Nat->Shared->Prop}
def zbdt(W:WalksS P w B.in1 it fp wr G N It St)(a:Addr)(k:a∉fp)(c:List Nat)(I:c.length=N)(small:∀n∈c,n<64)
  (h:∀i v,It i v->∃t,v=Value.int ((c.getD i 0:Nat):Int) t):∀(r:List Nat) (i:Nat) (p:List Nat) (s:Shared),c.drop i=r->i<=N->St i s->Sn w s.heap a p ->
   (∀ d,Moved (a::wr) G s d->Sn w d.heap a (met r p)->R (.ok (.ret .none)) d)->codeAny (model P w) B (.builtin "set.update.loop" ⟨[.ref a,.ref it],[]⟩) R s
 |[],i,p,s,hr,hi,au,S,fin=>by
  have e:i=N:=by
   have:=congrArg List.length hr;simp at this;lia
  subst e;refine xkk zny ?_;rw[xmd zji _];refine xba (m:=pyNext (.ref it)) (W.done s _ _ au λd j=>?_);have q:a∉wr:=λz=>k (W.sub _ z)
  exact xbe (fin d (j.mono λb f=>xbi _ f) (S.kept λo e=>j.heap a o q e))
 |n::r,i,p,s,hr,hi,au,S,fin=>by
  have g:i<N:=by
   have:=congrArg List.length hr;simp at this;lia
  have u:c.getD i 0=n/\n∈c/\c.drop (i+1)=r:=by
   have C:c[i]?=some n:=by
    have:=congrArg (λl:List Nat=>l[0]?) hr
    simpa using this
   refine⟨by rw[xbh,C];rfl,xbn C,?_⟩;rw[←xmp,hr]
   rfl
  have q:a∉wr:=λz=>k (W.sub _ z)
  refine xkk zny ?_;rw[xmd zji _];refine xba (m:=pyNext (.ref it)) (W.item i s _ _ g au λv d pv x j=>?_);obtain⟨t,rfl⟩:=h i v pv;rw[u.1];refine xba (m:=holding [Value.int (n:Int) t] (setAdd a (.int (n:Int) t))) (xeq ?_);unfold setAdd;refine xeq (xba (wpAny_pyHash_int ?_));refine zbwi (s:={d with toks:=d.toks+1}) (small n u.2.1) (S.kept λo e=>j.heap a o q e) λQ b A H=>?_
  refine xbe ⟨plainId_quiet zji _,zbdt W a k c I small h r (i+1) _ _ u.2.2 g (W.frame _ d _ _ x (xlp _) λb f o e=>?_) H λJ y E=>?_⟩
  ·rw[A.2 b (λz:b=a=>k (z ▸ f))];exact e
  ·refine fin J (Moved.trans W.gtrans ((j.mono λb f=>xbi _ f).then_heap (xlp _) λb o f e=>?_) y) E;rw[A.2 b (λz:b=a=>f (z ▸ xby))];exact e
end
noncomputable def newO(w:World):Obj:={ cls:=.type "set",dict:=none,data:=.set #[] 0 (.fresh 0 0 (!w.params.followText "set-order")) }
def zbtv{s:Shared}(x:Value){W:Value->Shared->Prop}(a:W (.ref s.heap.objs.size) {s with heap:=s.heap.push (newO w)}):
  codeAny (model P w) B (.call (.builtin "set.__new__") ⟨[.type "set",x],[]⟩) (wants W E) s:=by
 refine codeAny_call_builtin_code (plainId_quiet F.plain_set_new _) (wpAny_of_eq (F.newCall_set_1 x) (xkk F.entry_set_new ?_));rw[xmd F.plain_set_new _];have sub:=sub_set_self;unfold Builtin.«set.__new__» Builtin.Frozenset.newClass;obtain⟨c,g,d,b,os⟩:=s
 wp_walk
 refine xka (xbe ?_);simp only[newObj];exact xba (wpAny_alloc (xbe (xbe a)))
def zbtu{h:Heap}(e:h.get? a=some (newO w)):Sn w h a []:=
 ⟨_,#[],0,_,e,⟨rfl,rfl,rfl⟩,rfl,⟨List.Pairwise.nil,rfl,λy c=>(by cases c),rfl⟩,.inl rfl,rfl,rfl,(by show 0*5<7*3;decide),⟨λe b=>(by cases b),xol _,xfs⟩⟩
section
variable {P:Program}{w:World}{B:Around}{E:Value->Shared->Prop}{s:Shared}
def zbqv{l:Addr}{a:List Value}{g:List Nat}{W:Value->Shared->Prop}(hh:B.handled=none)(I:s.heap.IsList l a.toArray)(S:IntsAre a (g.map λ(n:Nat)=>(n:Int)))(small:∀n∈g,n<64)
  (J:∀(f:Heap) (y:Nat),Sn w f s.heap.objs.size (met g [])->(∀b o,s.heap.get? b=some o->f.get? b=some o)->W (.ref s.heap.objs.size) {s with heap:=f,toks:=y}):
  wpAny (model P w) B (call (.type "set") [.ref l]) W E s:=by
 have C:a.length=g.length:=by simpa using S.length
 obtain⟨c,tl,Q⟩:=xio.mro;have A:=xio.made;have a0:=xio.sub;have h1:=xio.notType;have h2:=xio.canCreate;have a5:=F.typeCall_set_1 (.ref l);refine wpAny_call (codeAny_of_tree (show wpAny _ _ (callAny (.type "set") _) _ _ _ from xbe ⟨Code.quiet_builtin _ (by decide +kernel),xkk F.entry_type_call ?_⟩))
 rw[Around.under_plain (weight_type_call_type "set" [.ref l] []) rfl]
 repeat (any_goals (first|assumption|wp_step))
 refine xjr (zbtv (w:=w) (.ref l) (E:=E) (W:=λv s1=>v=.ref s.heap.objs.size/\s1={s with heap:=s.heap.push (newO w)}) ⟨rfl,rfl⟩) λr s1 q=>?_
 match r,q with
 |.error e,q=>exact q
 |.ok (.ret v),q=>
  obtain⟨rfl,rfl⟩:=q;have U:(s.heap.push (newO w)).get? s.heap.objs.size=some (newO w):=xbz _ rfl;have ty:Shared.TypeIs { s with heap:=s.heap.push (newO w) } (.ref s.heap.objs.size) "set":=⟨_,U,rfl⟩
  have a2:=xio.init.lookup;have a4:=xio.init.bind (.ref s.heap.objs.size)
  repeat (any_goals (first|assumption|wp_step))
  refine xjr (xmm (R:=wants (λv p=>v=.none/\∃f y,p={s with heap:=f,toks:=y}/\Sn w f s.heap.objs.size (met g [])/\∀b o,s.heap.get? b=some o->f.get? b=some o) E) xio.init.plain F.entry_set_init (check_set_init_1 ty ?body)) λr2 p d=>?_
  case body=>
   obtain⟨ol,x,u,X,j⟩:=id I;obtain⟨oc,od,a3,H⟩:=ol;simp only at u j;subst u j;have m:(s.heap.push (newO w)).get? l=some { cls:=.type "list",dict:=od,data:=.seq a.toArray X,slots:=H }:=xbg _ x
   have h:(s.heap.push (newO w)).IsList l a.toArray:=⟨_,m,rfl,X,rfl⟩
   have a1:=F.sub_list_set;have a6:=F.sub_list_frozenset;have ne:(Value.type "list"==Value.type "dict")=false:=by decide
   unfold Builtin.«set.__init__» noKeywords Builtin.Frozenset.updateFrom;generalize hPI:pyIter=PI
   wp_walk
   subst hPI;have T:l<s.heap.objs.size:=xbx x;have G:(s.heap.push (newO w)).objs.size=s.heap.objs.size+1:=xhb ..
   refine xll h (xba (wpAny_runValue ?_))
   refine zbdt ((Walks.list (by simp[hh]) _ l (xci (by rw[G];exact xig T)) a.toArray).toS) s.heap.objs.size (λz=>by
    rw[G] at z;rcases xbm.mp z with z|z
    ·exact xci (xjx _) z
    ·exact xhq T (xcu.mp z)) g (by simp[C]) small (λi v hv=>?_) g 0 [] _ rfl (xec _) ⟨⟨_,xbz _ rfl,rfl,rfl⟩,h.push _⟩ (zbtu (xbg _ U)) λp Y S2=>?_
   ·obtain⟨t,e⟩:=IntsAre.int_at S i v (by simpa using hv);refine⟨t,e.trans ?_⟩
    congr 1
    rw[xbh,xcg,xbh];cases g[i]?<;>rfl
   ·rw[Moved.eq_with Y];refine xbe (xbe ⟨rfl,p.heap,p.toks,rfl,S2,λb o e=>?_⟩);have lt:=xbx e
    exact Y.heap b o (λz=>by
     rw[G] at z;rcases xbm.mp z with z|z
     ·exact xci lt z
     ·exact xci (xig lt) (xcu.mp z)) (xbg _ (xbg _ e))
  match r2,d with
  |.error e,d=>exact d
  |.ok (.ret v),d=>
   obtain⟨rfl,f,y,rfl,S',k⟩:=d
   repeat (any_goals (first|assumption|wp_step))
   exact J _ _ S' k
end
end St
namespace St
def zbng:Manifest.owners.lookup (String.ofList ("rotareti_tes".toList).reverse)=some Manifest.sig_set_iterator:=by kernel_rfl
def zkr:Slot "set_iterator" "__next__" "set_iterator.__next__":=by
 refine Slot.of (owner:="set_iterator") (n:="__next__") ?_ (by decide +kernel) (by decide +kernel) (by decide +kernel) ?_ ?_
 ·rw[typeLookup_type,builtinLookup_eq_fast]
  kernel_rfl
 ·first
   |exact .inl (by decide +kernel)
   |exact .inr (by decide +kernel)
 ·rw[isSubtype_type]
  kernel_rfl
def zvy:entryFor table "set_iterator.__next__"=some Builtin.«set_iterator.__next__»:=entryFor_of_tree (by kernel_rfl)
def zbdg(a:Value):argsOk "set_iterator.__next__" ⟨[a],[]⟩:=by
 unfold argsOk;rw[signature?_of (id:="set_iterator.__next__") (n:="__txen__".toList) (o:="rotareti_tes".toList) (by kernel_rfl) zbng]
 kernel_rfl
def zbcq:Slot "set_iterator" "__iter__" "set_iterator.__iter__":=by
 refine Slot.of (owner:="set_iterator") (n:="__iter__") ?_ (by decide +kernel) (by decide +kernel) (by decide +kernel) ?_ ?_
 ·rw[typeLookup_type,builtinLookup_eq_fast]
  kernel_rfl
 ·first
   |exact .inl (by decide +kernel)
   |exact .inr (by decide +kernel)
 ·rw[isSubtype_type]
  kernel_rfl
def zbfm:entryFor table "set_iterator.__iter__"=some Builtin.«dict_keyiterator.__iter__» :=
 entryFor_alias (id':="dict_keyiterator.__iter__") (by kernel_rfl) rfl (by decide +kernel) (by kernel_rfl)
def zblv(a:Value):argsOk "set_iterator.__iter__" ⟨[a],[]⟩:=by
 unfold argsOk;rw[signature?_of (id:="set_iterator.__iter__") (n:="__reti__".toList) (o:="rotareti_tes".toList) (by kernel_rfl) zbng]
 kernel_rfl
def zbhy:entryFor table "set.__iter__"=some Builtin.«frozenset.__iter__» :=
 entryFor_alias (id':="frozenset.__iter__") (by kernel_rfl) rfl (by decide +kernel) (by kernel_rfl)
noncomputable def At(h:Heap) (a:Addr) (c:Array (Int×Value)) (d:Nat) (t:SetTable):Prop:=∃b,h.get? a=some b/\b.ExactSet/\b.data=.set c d t
def At.kept{h':Heap}(x:At h a es ep t)(k:∀o,h.get? a=some o->h'.get? a=some o):At h' a es ep t:=
 let ⟨ob,e,r⟩:=x;⟨ob,k _ e,r⟩
def At.is{s:Shared}(x:At s.heap a es ep t):s.TypeIs (.ref a) "set":=let ⟨ob,e,c,_⟩:=x; ⟨ob,e,c.1⟩
def At.lt(x:At h a es ep t):a<h.objs.size:=let ⟨_,e,_⟩:=x;xbx e
noncomputable def ord(w:World) (a:Addr) (b:Array (Int×Value)) (c:Nat):Array (Int×Value):=if w.params.followText "set-order"=true then pickOrder (w.params.setOrder a c) b else b
def zvs(w:World)(a:Addr)(b:Array (Int×Value))(c:Nat):(ord w a b c).toList.Perm b.toList:=by
 unfold ord;split
 ·exact zzy _ _
 ·exact xol _
def zlp(w:World)(a:Addr)(b:Array (Int×Value))(c:Nat):(ord w a b c).size=b.size:=by
 have:=(zvs w a b c).length_eq
 simpa using this
noncomputable def slotAt(w:World) (t:SetTable):Nat->Nat
 |0=>0
 |i + 1=>if w.params.followText "set-order"=true then 0 else t.place.getD i 0 + 1
def zrd{w:World}(h:w.params.followText "set-order"=true)(t:SetTable):∀ i,slotAt w t i=0
 |0=>rfl
 |i+1=>if_pos h
def zur{w:World}(h:¬ w.params.followText "set-order"=true)(t:SetTable)(i:Nat):slotAt w t (i + 1)=t.place.getD i 0 + 1:=if_neg h
def zus{w:World}(h:¬ w.params.followText "set-order"=true){t:SetTable}(a:Up t.place):∀ i,i<=t.place.size->SetTable.below t.place (slotAt w t i)=i
 |0,_=>zyf a
 |i+1,hi=>by rw[zur h];exact zyg a (by lia)
def zbdp{s:Shared}(x:At s.heap a es ep t)(T:Tt w es t ks)(l:i<=es.size)(b:Q (((ord w a es ep)[i]?).map λe=>(e.2,slotAt w t (i+1))) s):
  wpAny (model P w) B (setNext a (slotAt w t i) i ep) Q E s:=by
 obtain⟨m,f,j,g⟩:=x;unfold setNext setsByText;refine xba (xlm f g T.fits ?_);dsimp only;refine xba (xba (xka (xbe ?_)));show wpAny _ _ (if w.params.followText "set-order"=true then _ else _) _ _ _
 by_cases hb:w.params.followText "set-order"=true
 ·rw[zrd hb] at b;rw[if_pos hb,if_neg (by simp),zrd hb];unfold setWalk setsByText;refine xba (xba (xlm f g T.fits ?_));dsimp only;refine xba (xba (xka (xbe ?_)));show wpAny _ _ (if w.params.followText "set-order"=true then _ else _) _ _ _
  rw[if_pos hb];refine xba (xka (xbe (xbe ?_)));unfold ord at b;rw[if_pos hb] at b;exact b
 ·rw[if_neg hb];have k:t.led=true:=by rw[T.ld];simpa using hb
  have n:=T.sz;refine xkl (λz=>?_) (λ_=>?_)
  ·change (!t.plain&&_)=true at z
   rw[T.tb.pl] at z;cases z
  refine xba (xkl (λz=>?_) (λ_=>xbe ?_))
  ·change (!t.led&&_)=true at z
   rw[k] at z;cases z
  rw[zus hb T.tb.up i (by lia)];unfold ord at b;rw[if_neg hb,zur hb] at b;by_cases c:i<es.size
  ·rw[xdp c] at b ⊢;have d:i<t.place.size:=by lia
   rw[xdp d];have h:t.place.getD i 0=t.place[i]:=by
    rw[xdf,xdp d]
    rfl
   rw[h] at b;exact xbe b
  ·rw[xhn (by lia)] at b ⊢;exact xbe b
def ItAt(w:World) (h:Heap) (b a:Addr) (i n c:Nat) (t:SetTable):Prop:=∃ o,h.get? b=some o/\o.cls=.type "set_iterator"/\o.data=.fields #[.int (slotAt w t i:Nat) 0,.int i 0,.ref a,.int n 0,.int c 0]
def ItAt.kept{h':Heap}(x:ItAt w h it a i n ep t)(k:∀o,h.get? it=some o->h'.get? it=some o):ItAt w h' it a i n ep t:=
 let ⟨o,e,r⟩:=x;⟨o,k _ e,r⟩
def ItAt.is{s:Shared}(x:ItAt w s.heap it a i n ep t):s.TypeIs (.ref it) "set_iterator":=let ⟨o,e,c,_⟩:=x; ⟨o,e,c⟩
noncomputable def itO(a:Addr) (n b:Nat):Obj:={ cls:=.type "set_iterator",data:=.fields #[.int 0 0,.int 0 0,.ref a,.int n 0,.int b 0] }
def zbou{s:Shared}{W:Value->Shared->Prop}(x:At s.heap a es ep t)(T:Tt w es t ks)(c:W (.ref s.heap.objs.size) {s with heap:=s.heap.push (itO a es.size ep)}):wpAny (model P w) B (pyIter (.ref a)) W E s:=by
 obtain⟨f,b,e,d⟩:=id x;refine xno x.is F.slot_set_iter (xei F.slot_set_iter x.is zbhy ?body (F.args_set_iter_1 _))
 case body=>
  unfold Builtin.«frozenset.__iter__» Builtin.Frozenset.sizeOf;refine xba (m:=Builtin.Frozenset.slot0 "__iter__" _) (xbe (xba (xba (xmo b d T.fits (xbe ?_)))))
  unfold setDrawn setsByText;refine xba (xba (xlm b d T.fits ?_));dsimp only;refine xba (xba (xka (xbe (xbe ?_))));refine xkl (λz=>?_) (λ_=>xba (xbe ?_))
  ·change (_&&(!t.plain&&_))=true at z
   rw[T.tb.pl] at z;simp at z
  refine xba (wpAny_setEpoch_of b d T.fits ?_);unfold newFields;exact xba (xdv (xbe ⟨_,rfl, "set_iterator",_,⟨_,xbz _ rfl,rfl⟩,zkr.lookup,c⟩))
def zbsl{h:Heap}{o:Obj}{i n b:Nat}(e:h.get? it=some o)(g:o.cls=.type "set_iterator")(j:o.data=.fields #[.int (slotAt w t i:Nat) 0,.int i 0,.ref a,.int n 0,.int b 0]):
  ItAt w ((h.update it (Obj.mapFields (·.setIfInBounds 0 (rawInt (slotAt w t (i+1):Nat))))).update it (Obj.mapFields (·.setIfInBounds 1 (rawInt ((i:Int)+1))))) it a (i+1) n b t:=by
 have c:=xgw j (·.setIfInBounds 0 (rawInt (slotAt w t (i+1):Nat)));have f:=xfl _ e (xhz c);have d:=xgw c (·.setIfInBounds 1 (rawInt ((i:Int)+1)));refine⟨_,xfl _ f (xhz d),(xlh ..).trans ((xlh ..).trans g),?_⟩;rw[d];simp[rawInt]
def zbov{s:Shared}{W:Option Value->Shared->Prop}(x:At s.heap a es ep t)(T:Tt w es t ks)(d:ItAt w s.heap it a i es.size ep t)(j:(ord w a es ep)[i]?=some e)
  (f:∀g:Heap,ItAt w g it a (i+1) es.size ep t->Heap.SameBut it s.heap g->W (some e.2) {s with heap:=g}):wpAny (model P w) B (pyNext (.ref it)) W E s:=by
 obtain⟨q,c,l,b⟩:=id d;obtain⟨r,k,n,p⟩:=id x;have lt:i<es.size:=by
  have:=(xna.mp j).1
  rwa [zlp] at this
 unfold pyNext;refine xba (xkd (wpAny_callSpecial?_slot (name:=Str.ofString "__next__") d.is zkr (xei zkr d.is zvy ?body (zbdg _))))
 case body=>
  refine xba (m:=slotArgs "__next__" 0 _) (xbe (xba (xmt c b ?_)))
  refine xba (xmo k p T.fits ?_);rw[if_neg (by simp)];refine xba (m:=setNext a (slotAt w t i) i ep) (zbdp x T (xcd lt) ?_);rw[j];dsimp only[Option.map];refine xba (xim c b (by simp) ?_);have h:=xgw b (·.setIfInBounds 0 (rawInt (slotAt w t (i+1):Nat)));have o:=xfl _ c (xhz h);refine xba (xim o h (by simp) ?_);exact xbe ⟨_,rfl,xbe (f _ (zbsl c l b) ((xew ..).trans (xew ..)))⟩
def zbuo{B:Around}{s:Shared}{W:Option Value->Shared->Prop}(h:B.handled=none)(x:At s.heap a es ep t)(T:Tt w es t ks)(c:ItAt w s.heap it a i es.size ep t)(l:i=es.size)
  (d:∀g:Heap,Heap.ExtBut it s.heap g->W none {s with heap:=g}):wpAny (model P w) B (pyNext (.ref it)) W E s:=by
 obtain⟨p,f,o,e⟩:=id c;obtain⟨q,j,k,n⟩:=id x;unfold pyNext;refine xba (xkd (wpAny_callSpecial?_slot (name:=Str.ofString "__next__") c.is zkr (xei zkr c.is zvy ?body (zbdg _))))
 case body=>
  refine xba (m:=slotArgs "__next__" 0 _) (xbe (xba (xmt f e ?_)))
  refine xba (xmo j n T.fits ?_);rw[if_neg (by simp)];refine xba (m:=setNext a (slotAt w t i) i ep) (zbdp x T (xdr l) ?_);rw[xhn (by rw[zlp];lia)];dsimp only[Option.map];refine xba (xim f e (by simp) (xba ?_));simp only[newExc,newTuple];refine xba (xdv (xba (m:=firstArgMember _ _) (wpAny_of_eq (a:=Value.none) (by first|rfl|(simp only[firstArgMember];rfl)) (xdv ?_ (by size_fits)))) (by size_fits));simp only[raiseNew];refine xba (wpAny_handled ?_);rw[show B.in1.handled=none from h];refine xba (xbe (wpAny_throw ?_));refine xba (xlu (T:="StopIteration") (b:=true) ?ty isSubtype_stop (xbe (d _ (((xew ..).extBut.push _).push _))))
  exact⟨_,xbz _ rfl,rfl⟩
def zbfa{B:Around}(u:B.handled=none)(x:a≠it)(T:Tt w es t ks):
  Walks P w B it [it,a] [it] es.size (λi v=>∃e,(ord w a es ep)[i]?=some e/\v=e.2) (λi h=>ItAt w h it a i es.size ep t/\At h a es ep t) where
 sub:=λb s=>xbm.mpr (.inl (xcu.mp s))
 frame:=λ_ _ _ z k=>⟨z.1.kept λo e=>k it xby o e,z.2.kept λo e=>k a (xbi _ (xcu.mpr rfl)) o e⟩
 item:=λi f l n y z d=>by
  have m:(ord w a es ep)[i]?=some ((ord w a es ep)[i]'(by rw[zlp];exact y)):=xdp _;exact zbov z.2 T z.1 m λg p q=>d _ g f.toks ⟨_,m,rfl⟩ ⟨p,z.2.kept λo e=>q.extBut a o x e⟩ λc o j e=>q.extBut c o (λr=>j (xcu.mpr r)) e
 done:=λf l n z d=>zbuo u z.2 T z.1 rfl λg b=>d g f.toks λc o j e=>b c o (λq=>j (xcu.mpr q)) e
 self:=λi f l n z d=>by
  refine xno z.1.is zbcq (xei zbcq z.1.is zbfm ?_ (zblv _));exact xbe ⟨_,rfl, "set_iterator",_,z.1.is,zkr.lookup,d⟩
def zbpf{s:Shared}(d:s.TypeIs (.ref a) "set")(c:Q false s):wpAny (model P w) B (Builtin.List.listLengthHint (.ref a)) Q E s:=by
 unfold Builtin.List.listLengthHint;refine xba (wpAny_specialOf d F.slot_set_len.lookup ?_);generalize hid:("set.__len__" : String)=id0
 wp_delta
 rw[show splitId id0=some ("set","__len__") from by subst hid; decide +kernel]
 subst hid;refine xba (xlu (b:=true) d sub_set_self (xkl (λz=>absurd z (by decide)) (λ_=>xkl (λ_=>xba (xmk d (xbe c))) (λz=>absurd (by decide +kernel) z))))
def zbry(T:Tt w es t ks):KdlSrc P w "set" a a es.size (λi v=>∃ e,(ord w a es ep)[i]?=some e/\v=e.2) (λh=>At h a es ep t) where
 type:=λ_ x=>x.is
 there:=λ_ x=>⟨x.lt,x.lt⟩
 keep:=λ_ _ x c=>x.kept λo e=>c a (.inl rfl) o e
 notList:=by decide
 notTuple:=by decide
 hint:=λ_ _ _ _ x b=>zbpf x.is b
 iter:=λ_ f d x=>⟨_,_,λ_ _ b=>zbou x T b,zbfa d (xci x.lt) T,⟨⟨_,xbz _ rfl,rfl,rfl⟩,x.kept λo e=>xbg _ e⟩⟩
end St
end L2
namespace L2
open Spec PyProof.Rows PySem.W
noncomputable def nats(a:List Nat):List Int:=a.map λ(n:Nat)=>(n:Int)
def setO(w:World) (q:Addr) (a:List Nat):HO:=.ext λh=>St.Sn w h q a
def rSetI(w:World) (K:Fg):List V->Hp->VK->Prop:=λb H Q=>∃(l:Addr) (a:List Nat),b=[.ref l]/\SqL K H l ((nats a).map V.int)/\(∀n∈a,n<64)/\∀q,H q=none->Q (.ref q) (upd H q (setO w q (St.met a [])))
def zbca{X:Cx}(m:X.calm=true):CallR X (.type "set") (rSetI X.w X.K):=by
 intro y s σ H A C Q I r h;obtain⟨l,f,rfl,p,small,q⟩:=h;obtain⟨u,rfl,i⟩:=vals1 r;cases i;obtain⟨c,n,d,w⟩:=I.list p;refine St.zbqv (I.ok.hd m) d.isList (zfa n) small λt j S b=>?_
 refine⟨.ref s.heap.objs.size,_,I.laid (a:=s.heap.objs.size) (o:=setO X.w s.heap.objs.size (St.met f [])) (t':=j) b (xbl _) ⟨S,?_,λv x z k=>z.kept k⟩,rfl,q _ (I.hok.fresh (xbl _))⟩;obtain⟨g,_,_,_,e,_⟩:=S;exact⟨g,e⟩
def rSortedS(w:World):List V->Hp->VK->Prop:=λd H Q=>∃(a:Addr) (c:List Nat),d=[.ref a]/\H a=some (setO w a c) /\
 ∀(q:Addr) (b:List Int),H q=none->b.Perm (nats c)->b.Pairwise (·<=·)->Q (.ref q) (upd H q (.lst (b.map V.int)))
def zqh{X:Cx}(hc:X.calm=true):CallR X (.builtin "sorted") (rSortedS X.w):=by
 intro aU s σ H xs us Q I r h;obtain⟨a,ks,rfl,ha,q⟩:=h;obtain⟨u,rfl,ru⟩:=vals1 r;cases ru;obtain⟨S,_,_⟩:=(show ObjOk X.prog X.w H s.heap a (setO X.w a ks) from I.hok a _ ha)
 obtain⟨ob,j,k,t,U,m,hd,T⟩:=S;have Y:=T.few;refine Srt.zki (St.zbry (P:=X.prog) (ep:=k) T) (I.ok.hd hc) ⟨ob,U,m,hd⟩ (small10000 (by lia)) λvs hl hv=>?_
 have v:=St.zvs X.w a j k;have f:vs=(St.ord X.w a j k).toList.map (·.2):=by
  apply xif;intro i;by_cases hi:i<j.size
  ·have x:vs[i]?=some vs[i]:=xbf (by lia);obtain⟨e,A,J⟩:=hv i _ x;rw[x,J,xcg,xcn,A]
   rfl
  ·rw[xfz (by lia),xfz (by rw[xbb,xce,St.zlp];lia)]
 generalize hL:(St.ord X.w a j k).toList=L at v f;have E:=T.el.of_perm v;have l:Vals ((L.map (·.1)).map V.int) vs:=by
  rw[f,xcv];refine zoz λe he=>?_
  obtain⟨n,t2,hn,rfl⟩:=E.all e he;exact⟨t2,rfl⟩
 have ln:(L.map (·.1)).length=j.size:=by
  rw[xbb,v.length_eq,xce]
 refine⟨Srt.rank (ones (L.map (·.1))),zbjv l,λA g tk d=>zbki (by lia) l,λp b g tk c G w d z eg=>?_⟩;have lv:vs.length=(L.map (·.1)).length:=by lia
 rw[lv] at G w;obtain⟨y,C,q2,q3⟩:=zbgq l G w;refine⟨.ref b,_,I.laidN (o:=.lst (y.map V.int)) d z ⟨?_,_,c,q3,by simpa using eg⟩,rfl,q b y (I.away z) (C.trans E.perm) q2⟩;rw[xbb,C.length_eq,ln];exact small10000 (by lia)
end L2
namespace Dd
open L2 PyProof.Rows
noncomputable def once:List Int->List Int
 |[]=>[]
 |n::l=>if n∈l then once l else n::once l
def zjd:∀{l},k∈once l↔k∈l
 |[]=>Iff.rfl
 |n::l=>by
  unfold once;split
  ·rename_i h;rw[zjd (l:=l),xbm];exact⟨.inr,λz=>z.elim (λe=>e ▸ h) id⟩
  ·rw[xbm,xbm,zjd (l:=l)]
def zrq:∀l:List Int,(once l).Nodup
 |[]=>xfs
 |n::l=>by
  unfold once;split
  ·exact zrq l
  ·rename_i h;exact xdg.mpr ⟨λz=>h (zjd.mp z),zrq l⟩
def zwh:∀{l b},k∈St.met l b↔k∈l\/k∈b
 |[],b=>by simp[St.met]
 |n::l,b=>by
  unfold St.met;rw[zwh (l:=l),xbm];split
  ·rename_i h;exact⟨λz=>z.elim (λa=>.inl (.inr a)) .inr,λz=>z.elim (λa=>a.elim (λe=>.inr (e ▸ h)) .inl) .inr⟩
  ·rw[xbm];exact⟨λz=>z.elim (λa=>.inl (.inr a)) (λa=>a.elim (λe=>.inl (.inl e)) .inr),λz=>z.elim (λa=>a.elim (λe=>.inr (.inl e)) .inl) (λa=>.inr (.inr a))⟩
def zbhd:∀{l a},a.Nodup->(St.met l a).Nodup
 |[],a,h=>h
 |n::l,a,h=>by
  unfold St.met;split
  ·exact zbhd h
  ·rename_i c;exact zbhd (xdg.mpr ⟨c,h⟩)
def zbnz{l:List Nat}(h:l.Nodup):(nats l).Nodup:=by
 unfold nats;rw[xgu] at h ⊢;exact xnk.mpr (h.imp λa e=>a (by lia))
def zbhc:(nats (St.met ns [])).Perm (once (nats ns)):=by
 refine(xnc (zbnz (zbhd xfs)) (zrq _)).mpr λk=>?_
 rw[zjd];unfold nats;rw[xbt,xbt];constructor
 ·rintro⟨n,h,rfl⟩;exact⟨n,(zwh.mp h).elim id (λz=>by cases z),rfl⟩
 ·rintro⟨n,h,rfl⟩;exact⟨n,zwh.mpr (.inl h),rfl⟩
noncomputable def smallI(n:Int):Bool:=decide (0<=n)&&decide (n<64)
def zuq{l:List Int}(h:l.all smallI=true):∃b:List Nat,l=nats b/\∀n∈b,n<64:=by
 refine⟨l.map Int.toNat,?_,λn a=>?_⟩
 ·unfold nats;rw[xcv];refine(xoi l).symm.trans (xea λn a=>?_);have:=xca.mp h n a;simp[smallI] at this;show n=((n.toNat:Nat):Int)
  lia
 ·obtain⟨m,c,rfl⟩:=xbt.mp a;have:=xca.mp h m c;simp[smallI] at this;lia
def bSortSet:List D->Store->Res D:=λb a=>match b with
 |[x]=>match (asL a x).bind asInts with
  |some l=>if l.all smallI=true then .ok (.lst ((sortI (once l)).map .int)) a else .stuck
  |none=>.stuck
 |_=>.stuck
def rSS(w:World) (K:Fg):List V->Hp->VK->Prop:=λa H Q=>rSetI w K a H λu H1=>rSortedS w [u] H1 Q
def zyj{w:World}{K:Fg}:CaD K bSortSet (rSS w K):=λρ H y A E z x Q f m e q=>by
 unfold bSortSet at e;split at e
 ·obtain⟨u,rfl,a⟩:=m.one;split at e
  ·rename_i l g;obtain⟨C,v,g⟩:=xfp.mp g;split at e
   ·rename_i j;cases e;obtain⟨p,G,rfl,o,s⟩:=zhc f a v;have e:=zem s g;subst e;obtain⟨h,rfl,small⟩:=zuq j;refine⟨p,h,rfl,SqL.of o,small,λb c=>⟨b,_,rfl,zu,λt r d n i=>?_⟩⟩;have k:r=sortI (once (nats h)):=zbfl (n.trans zbhc) i;subst k;exact q _ _ _ ((Ext.new c _).trans (Ext.new d _)) ((f.new c _).new d _) (.newL (f.new c _) d (zjl _))
   ·cases e
  ·cases e
 ·cases e
def zbyq{X:Cx}(o:X.calm=true)(q:CaD X.K g (rSS X.w X.K))(j:Gl X x)(i:X.mg x=none)(l:bootBuiltins x=some (.builtin "sorted"))(m:Gl X y)(d:X.mg y=none)(b:bootBuiltins y=some (.type "set"))(r:JA X [e] f)
  (n:x≠"__name__":=by decide)(k:(x==("__debug__" : Str))=false:=by decide)(c:y≠"__name__":=by decide)(a:(y==("__debug__" : Str))=false:=by decide)(s:plainE e=true:=by rfl):
  JE X (.Call (.Name x p) [.Call (.Name y p2) [e] [] pos2] [] pos) (aE g f):=
 ⟨zgj (zvq (zqh o) j i l (zbdd (zrp (zbca o) m d b r.out c a (zne s)) zbne) n k) λτ H Q h=>zbvt q τ H Q h⟩
end Dd
namespace L2
open Spec PyProof.Rows PySem.W
end L2
namespace Dd
open L2 PyProof.Rows
abbrev RXT:=L2.St->Value->Option Addr->Hp->Prop
def XIs(K:Fg) (ρ:Loc) (H:Hp) (x:Exc) (C:Addr) (a:Option Addr):Prop:=W.nsIn K mainGlobals x.cls=some (some (.ref C)) /\
 ((x.at_=[]/\a=none)\/∃ i d b,x.at_=[i]/\a=some d/\H d=some (.frz b (.xd [("at",.int i)]))/\Out ρ d)
def XOk(K:Fg) (ρ:Loc) (H:Hp) (c:Store) (x:Exc) (R:XK):Prop:=∀b a C d,Ext ρ H b a->Rep K b c a->XIs K b a x C d->R (.ref C) d a
def XOk.ext{K:Fg}{ρ c:Loc}{H H1:Hp}{b:Store}{x:Exc}{R:XK}(e:Ext ρ H c H1)(h:XOk K ρ H b x R):XOk K c H1 b x R:=λg d C f a=>h g d C f (e.trans a)
def tXS(K:Fg) (R:RXT) (f:SS):TS:=λE τ H=>∃ρ σ b,AtS K ρ H σ τ/\Rep K ρ b H/\((∃c a,f σ b=.ok c a/\FlOk K ρ H a E c)\/∃x a,f σ b=.exc x a/\XOk K ρ H a x (R τ))
structure JXS (X:Cx) (R:RXT) (s:Stmt) (f:SS):Prop where out:PS X s (tXS X.K R f)
structure JXB (X:Cx) (R:RXT) (s:List Stmt) (f:SS):Prop where out:PSs X s (tXS X.K R f)
def noX{α:Type}(f:DS->Store->Res α):DS->Store->Res α:=λσ a=>match f σ a with
 |.exc _ _=>.stuck
 |r=>r
def zbgz{α:Type}{f:DS->Store->Res α}{σ:DS}{a st':Store}{v:α}(h:noX f σ a=.ok v st'):f σ a=.ok v st':=by
 unfold noX at h;split at h
 ·cases h
 ·exact h
def zbdo{α:Type}{f:DS->Store->Res α}{σ:DS}{b a:Store}{x:Exc}(h:noX f σ b=.exc x a):False:=by
 unfold noX at h;split at h
 ·cases h
 ·rename_i c;exact c x a h
def zyd{α β:Type}{f:DS->Store->Res α}{g:α->Store->Res β}{σ:DS}{b st':Store}{x:Exc}(h:(noX f σ b).bind g=.exc x st'):∃v a,f σ b=.ok v a/\g v a=.exc x st':=by
 cases e:noX f σ b with
 |ok v a=>rw[e] at h;exact⟨v,a,zbgz e,h⟩
 |exc y w=>exact(zbdo e).elim
 |stuck=>rw[e] at h;cases h
def zbpo(h:JB X body s):JXB X R body (noX s):=⟨zbfx h.out λE τ H c=>by
 obtain⟨ρ,σ,f,a,e,q⟩:=c;rcases q with⟨v,b,d,q⟩|⟨x,b,d,_⟩
 ·exact⟨ρ,σ,f,v,b,a,e,zbgz d,q⟩
 ·exact(zbdo d).elim⟩
def Cst(R:RXT):Prop:=∀τ a,R τ=R a
def EndX(K:Fg) (ρ:Loc) (H:Hp) (E:Ends) (R:XK) (r:Res Fl):Prop:=(∃b a,r=.ok b a/\FlOk K ρ H a E b)\/∃x a,r=.exc x a/\XOk K ρ H a x R
section
def EndX.ext{K:Fg}{ρ b:Loc}{H H1:Hp}{E:Ends}{R:XK}{r:Res Fl}(e:Ext ρ H b H1)(h:EndX K ρ H E R r):EndX K b H1 E R r:=by
 rcases h with⟨c,a,h,q⟩|⟨x,a,h,q⟩
 ·exact .inl ⟨c,a,h,q.ext e⟩
 ·exact .inr ⟨x,a,h,q.ext e⟩
end
def EndX.stuck{K:Fg}{ρ:Loc}{H:Hp}{E:Ends}{R:XK}(h:EndX K ρ H E R .stuck):False:=by
 rcases h with⟨_,_,h,_⟩|⟨_,_,h,_⟩<;>cases h
def EndX.okE{K:Fg}{ρ:Loc}{H:Hp}{E:Ends}{R:XK}{fl:Fl}{a:Store}(h:EndX K ρ H E R (.ok fl a)):FlOk K ρ H a E fl:=by
 rcases h with⟨_,_,h,q⟩|⟨_,_,h,_⟩
 ·cases h;exact q
 ·cases h
def EndX.excE{K:Fg}{ρ:Loc}{H:Hp}{E:Ends}{R:XK}{x:Exc}{a:Store}(h:EndX K ρ H E R (.exc x a)):XOk K ρ H a x R:=by
 rcases h with⟨_,_,h,_⟩|⟨_,_,h,q⟩
 ·cases h
 ·cases h;exact q
end Dd
namespace L2
open Spec PyProof.Rows
end L2
namespace Dd
open L2 PyProof.Rows
end Dd
namespace L2
open Spec PyProof.Rows
end L2
namespace Dd
open L2 PyProof.Rows
end Dd
namespace L2
open Spec PyProof.Rows
end L2
namespace Dd
open L2 PyProof.Rows
end Dd
namespace L2
open Spec PyProof.Rows
end L2
namespace L2
open Spec PyProof.Rows Builtin Builtin.ObjectAttr
end L2
namespace L2
open Spec PyProof.Rows
end L2
namespace Dd
open L2 PyProof.Rows
def forG(G:Store->Prop) (b:SG) (a:SS):List D->SS
 |[],σ,au=>@ite (Res Fl) (G au) (Classical.propDecidable _) (.ok (.nx σ) au) .stuck
 |x::xs,σ,au=>@ite (Res Fl) (G au) (Classical.propDecidable _) (match b x σ with
  |none=>.stuck
  |some σ1=>match a σ1 au with
   |.ok (.nx σ2) st2=>forG G b a xs σ2 st2
   |.ok (.ct σ2) st2=>forG G b a xs σ2 st2
   |.ok (.brk σ2) st2=>.ok (.nx σ2) st2
   |r=>r) .stuck
def LsIs(n:Nat) (b:List D) (a:Store):Prop:=a[n]?=some (.lst b)
def sForA(d:Bool) (f:SE) (c:SG) (a:SS):SS:=λσ e=>(f σ e).bind λx b=>match x with
 |.ref n=>(match b[n]? with
  |some (.lst xs)=>forG (LsIs n xs) c a (if d then numF 0 xs else xs) σ b
  |_=>.stuck)
 |.lst xs=>forG (λ_=>True) c a (if d then numF 0 xs else xs) σ b
 |.tup xs=>if d then .stuck else forG (λ_=>True) c a xs σ b
 |_=>.stuck
structure TurnG (K:Fg) (ρ:Loc) (H:Hp) (G:Store->Prop) (J:It) (xs:List D):Prop where
 item:∀ρ2 H2 st2,Ext ρ H ρ2 H2->Rep K ρ2 st2 H2->G st2->∀(i:Nat) (x:D),xs[i]?=some x->J.go i H2/\∀y H3,J.yld i H2 y H3->Ext ρ2 H2 ρ2 H3/\Rep K ρ2 st2 H3/\At K ρ2 H3 x y
 done:∀ρ2 H2 st2,Ext ρ H ρ2 H2->Rep K ρ2 st2 H2->G st2->∀i:Nat,xs.length<=i->J.stop i H2
section
def loopG{K:Fg}{g:Loc}{H1:Hp}{E:Ends}{τ:L2.St}{G:Store->Prop}{J:It}{k:List D}{A:SG}{b:SS}{σ:DS}{s:Store}(hR:Cst R)(T:TurnG K g H1 G J k)(a:AtS K g H1 σ τ)(rp:Rep K g s H1)(q:EndX K g H1 E (R τ) (forG G A b k σ s)):
  ∃W:Nat->Nat->L2.St->Hp->Prop,(∃m,W 0 m τ H1)/\∀i m σ H,W i m σ H->(J.stop i H/\E.nx σ H)\/(J.go i H/\∃N:L2.St->Hp->Prop,(∀σ' f,N σ' f->∃Y,Y<m/\W (i+1) Y σ' f)/\∀x f,J.yld i H x f->gD K A x σ f λp H2=>tXS K R b {E with nx:=N,ct:=N,bk:=E.nx} p H2):=by
 refine⟨λi m X f=>i+m=k.length/\∃l p st2,Ext g H1 l f/\AtS K l f p X/\Rep K l st2 f/\EndX K g H1 E (R τ) (forG G A b (k.drop i) p st2),⟨k.length,by lia,g,σ,s,.refl _ _,a,rp,q⟩,?_⟩;rintro i m X f ⟨a0,l,p,st2,Q,a2,n,c⟩;have S:G st2:=by
  by_cases h:G st2
  ·exact h
  ·generalize k.drop i=ys at c;cases ys<;>(unfold forG at c;rw[if_neg h] at c;exact c.stuck.elim)
 rcases xge i k.length with U|hge
 ·obtain⟨x,hx,hd⟩:=zsn U;rw[hd] at c;obtain⟨go,yl⟩:=T.item l f st2 Q n S i x hx;refine .inr ⟨go,λτ3 H3=>∃C j d,Ext g H1 C H3/\AtS K C H3 j τ3/\Rep K C d H3/\EndX K g H1 E (R τ) (forG G A b (k.drop (i+1)) j d),λτ3 H3 ⟨C,j,d,n1,n2,n3,n4⟩=>⟨m-1,by lia,by lia,C,j,d,n1,n2,n3,n4⟩,λy H3 hy=>?_⟩;obtain⟨y1,y2,y3⟩:=yl y H3 hy;unfold forG at c;rw[if_pos S] at c;cases hbd:A x p with
  |none=>rw[hbd] at c;exact c.stuck.elim
  |some σ1=>
   rw[hbd] at c;dsimp only at c;have I:=Q.trans y1;refine⟨l,p,x,σ1,a2.ext y1,y3,hbd,λτ4 a4=>⟨l,σ1,st2,a4,y2,?_⟩⟩;cases hr:b σ1 st2 with
   |stuck=>rw[hr] at c;exact c.stuck.elim
   |exc z w=>
    rw[hr] at c;exact .inr ⟨z,w,rfl,by rw[hR τ4 τ];exact c.excE.ext I⟩
   |ok fb d=>
    rw[hr] at c;refine .inl ⟨fb,d,rfl,?_⟩;cases fb with
    |nx j=>exact λP t τ5 o e r=>⟨P,j,d,I.trans o,r,e,c⟩
    |ct j=>exact λP t τ5 o e r=>⟨P,j,d,I.trans o,r,e,c⟩
    |brk j=>exact λP t τ5 o e r=>c.okE _ _ _ (I.trans o) e r
    |ret v=>exact λP t u o e r=>c.okE _ _ _ (I.trans o) e r
 ·rw[xgs hge] at c;unfold forG at c;rw[if_pos S] at c;exact .inl ⟨T.done l f st2 Q n S i hge,c.okE _ _ _ Q n a2⟩
end
def zbyb{K:Fg}{ρ c:Loc}{H H2:Hp}{n:Nat}{p:Addr}{e:List D}{a:Store}(f:ρ.m[n]?=some (some p))(x:Ext ρ H c H2)(d:Rep K c a H2)(h:LsIs n e a):∃vs,H2 p=some (.lst vs)/\AtAll K c H2 e vs:=by
 obtain⟨g,b⟩:=d.live n _ h (by intro z;cases z);have:=x.old n g (xbd.mp f).1 b;rw[f] at this;cases this;exact d.obj n p _ b h
section
def zbcl{K:Fg}{ρ:Loc}{H:Hp}{G:Store->Prop}{p:Addr}{o:List D}(h:∀c H2 b,Ext ρ H c H2->Rep K c b H2->G b->∃f,SqL K H2 p f/\AtAll K c H2 o f):TurnG K ρ H G (Itl K p) o where
 item:=λc H2 b x j k i d e=>by
  obtain⟨f,g,m⟩:=h c H2 b x j k;obtain⟨v,n,a⟩:=m.get e;refine⟨⟨f,v,g,n⟩,λy H3 l=>?_⟩;obtain⟨rfl,l⟩:=l;have:=l f g;rw[n] at this;cases this;exact⟨.refl _ _,j,a⟩
 done:=λc H2 b x j k i q=>by
  obtain⟨f,g,m⟩:=h c H2 b x j k;exact⟨f,g,by rw[m.length];exact q⟩
def zblg{K:Fg}{ρ:Loc}{H:Hp}{p:Addr}{m:List D}{vs:List V}(g:H p=some (.tup vs))(l:Out ρ p)(h:AtAll K ρ H m vs):TurnG K ρ H (λ_=>True) (Itt K p) m where
 item:=λo H2 c x j n i d e=>by
  obtain⟨v,k,a⟩:=(h.ext x).get e;have f:SqT K H2 p vs:=SqT.of (x.out g l).1;refine⟨⟨vs,v,f,k⟩,λy H3 b=>?_⟩;obtain⟨rfl,b⟩:=b;have:=b vs f;rw[k] at this;cases this;exact⟨.refl _ _,j,a⟩
 done:=λo H2 c x j n i q=>⟨vs,SqT.of (x.out g l).1,by rw[h.length];exact q⟩
end
section
def zbiq{S e:Expr}{l:SG}{b:SS}(C:Cst R)(hp:PassesOwn (model X.prog X.w) X.A X.env X.xe)(hc:X.calm=true)(T:JE X e f)(J:JG X S l)(hb:JXB X R o b)(Y:∀x,foldedSetIterable e X.env x=pure x:=by intro _;rfl):
  JXS X R (.For S e o [] a0) (sForA false (noX f) l b):=⟨zrl (zbmj hp hc (zbwt (zbdb T.out) (zbms T.out)) J.out hb.out Y) λE τ H G=>by
 obtain⟨ρ,σ,s,a,I,q⟩:=G
 obtain⟨x,c,i,q⟩:∃x c,f σ s=.ok x c/\EndX X.K ρ H E (R τ) (match x with
  |.ref n=>(match c[n]? with
   |some (.lst g)=>forG (LsIs n g) l b g σ c
   |_=>.stuck)
  |.lst g=>forG (λ_=>True) l b g σ c
  |.tup g=>forG (λ_=>True) l b g σ c
  |_=>.stuck):=by
  rcases q with⟨fl,j,i,q⟩|⟨y,j,i,q⟩
  ·obtain⟨v,c,A,t⟩:=za i;exact⟨v,c,zbgz A,.inl ⟨fl,j,t,q⟩⟩
  ·obtain⟨v,c,A,t⟩:=zyd i;exact⟨v,c,A,.inr ⟨y,j,t,q⟩⟩
 cases x with
 |ref n=>
  refine .inl ⟨ρ,σ,s,_,_,a,I,i,λQ H1 u h d m=>?_⟩;dsimp only at q;split at q
  ·rename_i g U;obtain⟨p,rfl,w,vs,k1,k2⟩:=zdq d m U (by intro z;cases z);exact⟨p,rfl,⟨vs,SqL.of k1⟩,loopG C (zbcl λρ2 H2 P r k J=>let ⟨ws,w1,w2⟩:=zbyb w r k J;⟨ws,SqL.of w1,w2⟩) (a.ext h) d (q.ext h)⟩
  ·exact q.stuck.elim
 |lst g=>
  refine .inl ⟨ρ,σ,s,_,_,a,I,i,λQ H1 u h d m=>?_⟩;cases m with
  |lst h1 h2 h3=>exact⟨_,rfl,⟨_,SqL.of h1⟩,loopG C (zbcl λρ2 H2 P r k _=>⟨_,SqL.of (r.out h1 h2).1,h3.ext r⟩) (a.ext h) d (q.ext h)⟩
 |tup g=>
  refine .inr ⟨ρ,σ,s,_,_,a,I,i,λQ H1 u h d m=>?_⟩;cases m with
  |tup h1 h2 h3=>exact⟨_,rfl,⟨_,SqT.of h1⟩,loopG C (zblg h1 h2 h3) (a.ext h) d (q.ext h)⟩
 |_=>exact q.stuck.elim⟩
end
def zbyc(h:JXS X R sm s):JS X sm s:=⟨zrl h.out λE τ H ⟨ρ,σ,d,c,b,a,f,e,q⟩=>⟨ρ,σ,d,a,f,.inl ⟨c,b,e,q⟩⟩⟩
section
def zbiv{e a:Expr}{d:SG}{b:SS}(i:PassesOwn (model X.prog X.w) X.A X.env X.xe)(k:X.calm=true)(m:JE X a f)(h:JG X e d)(g:JB X c b)(j:∀x,foldedSetIterable a X.env x=pure x:=by intro _;rfl):
 JS X (.For e a c [] l) (sForA false (noX f) d (noX b)):=zbyc (R:=λ_ _ _ _=>False) (zbiq (λ_ _=>rfl) i k m h (zbpo g) j)
end
end Dd
namespace L2
open Spec PyProof.Rows
end L2
namespace Dd
open L2 PyProof.Rows
end Dd
namespace L2
open Spec PyProof.Rows
end L2
namespace Dd
open L2 PyProof.Rows
end Dd
namespace L2
open Spec PyProof.Rows
end L2
namespace Dd
open L2 PyProof.Rows
end Dd
namespace L2
open Spec PyProof.Rows
def rSetD(_K:Fg):V->List V->Hp->VK->Prop:=λx c H Q=>∃(a:Addr) (k:Key) (v:V) (b:List (Key×V)),x=.ref a/\c=[kV k,v]/\H a=some (.dK b)/\b.length<sizeLine /\
 (∀u,valV b k=some u->Q u H)/\(valV b k=none->Q v (upd H a (.dK (putK b k v))))
def zboa: MtR X "dict.setdefault" (rSetD X.K):=by
 intro Y s σ H x xs v us Q I p E h;obtain⟨a,k,d,b,rfl,rfl,e,hl,U,J⟩:=h;cases p;obtain⟨u,r,rfl,G,m⟩:=vals2 E;obtain⟨z,n,l,c,o⟩:=zbve I.hok e;have T:l.length<=sizeLine:=by rw[←c.length];exact z
 have j:(putK b k d).length<=sizeLine:=by have:=zho b k d;lia
 refine xml xmr o.typeIs F.entry_dict_setdefault (F.args_dict_setdefault_3 _ _ _) (kt_meets_setdefault (mixKind X.prog X.w) a (zbht G) n r) ⟨l,o,T,λw S=>?_,λA t i C=>?_⟩
 ·have f:=c.val k;rw[S] at f;cases g:valV b k with
  |none=>rw[g] at f;exact f.elim
  |some y=>rw[g] at f;exact⟨y,H,I.tok _,f,U y g⟩
 ·have g:valV b k=none:=by
   have f:=c.val k;rw[A] at f;cases g:valV b k with
   |none=>rfl
   |some y=>rw[g] at f;exact f.elim
  have P:∃q,t.get? a=some q:=let ⟨q,_,_,hq,_⟩:=i;⟨q,hq⟩
  exact⟨d,_,zog I (by rw[e];exact True.intro) C P (zbja j n (c.put k m) i),m,J g⟩
def rMaxDI(d:List V) (H:Hp) (Q:VK):Prop:=∃(a:Addr) (n:Int) (c:List Int) (b:List (Key×V)),d=[.ref a]/\Rd H a (.dK b)/\b.map (·.1)=(n::c).map Sum.inl/\Q (.int (bestI true n c)) H
def zxw{X:Cx}(hc:X.calm=true):CallR X (.builtin "max") rMaxDI:=by
 intro aU s σ H xs us Q I r h;obtain⟨a,n,d,G,rfl,e,Y,q⟩:=h;obtain⟨u,rfl,ru⟩:=vals1 r;cases ru;obtain⟨z,hd,c,A,dd⟩:=zbiz I.hok e;obtain⟨ep,P⟩:∃ep,s.heap.DictAt (mixKind X.prog X.w) a c ep:=by
  obtain⟨o,es,ep,h⟩:=dd;exact⟨ep,o,es,h⟩
 obtain⟨oI,St,l,W,U⟩:=(W.kdl_dict (prog:=X.prog) (w:=X.w) (knd:=mixKind X.prog X.w) (kvs:=c) (ep:=ep) hd).iter X.A.in1 s (I.ok.hd hc) P;have J:c.map (·.1)=(n::d).map Sum.inl:=A.keys.symm.trans Y;have g:c.length=(n::d).length:=by have:=congrArg List.length J;simpa using this
 have f:∀i v,(∃k x,c[i]?=some (k,x)/\(mixKind X.prog X.w).is k v=true)->∃t,v=.int ((n::d).getD i 0) t:=λi v p=>by
  obtain⟨k,x,hi,C⟩:=p;have S:(c.map (·.1))[i]?=some k:=by rw[xcg,hi];rfl
  rw[J,xcg] at S;obtain⟨y,hy,rfl⟩:=xdh.mp S;rw[xbh,hy];rcases zbl (show keyIs (Sum.inl y) v=true from C) with⟨i,t,E,rfl⟩|⟨x,t,E,rfl⟩
  ·cases E;exact⟨t,rfl⟩
  ·cases E
 have j:a<s.heap.objs.size:=P.lt_size;refine call_max_walk (l _ _ ⟨s.heap.objs.size,_,_,_,_,St,_,rfl,W,U,λb hb=>?_,by rw[g];simp,CmpOf.ints_gt (λi=>(n::d).getD i 0) f,λv h' tk T C=>?_⟩)
 ·rw[xhb];have m:b=s.heap.objs.size\/b=a:=by simpa using hb
  rcases m with z|z
  ·rw[z];exact xjx _
  ·rw[z];exact xig j
 ·obtain⟨t,rfl⟩:=f _ _ T;rw[g,zye (by simp)];exact⟨.int (bestI true n d),H,I.kept (t':=tk) λb u e=>C b u (by simp;exact xci (xbx e)) (xbg _ e),⟨_,rfl⟩,q⟩
def rPopI(_K:Fg):V->List V->Hp->VK->Prop:=λx c H Q=>∃(a:Addr) (k:Key) (v:V) (b:List (Key×V)),x=.ref a/\c=[kV k]/\H a=some (.dK b)/\valV b k=some v/\Q v (upd H a (.dK (dropK b k)))
def zbob: MtR X "dict.pop" (rPopI X.K):=by
 intro n s σ H x o v p Q I b i h;obtain⟨a,k,d,c,rfl,rfl,e,l,q⟩:=h;cases b;obtain⟨u,rfl,f⟩:=i.one;exact zbyr I e f l (.inl rfl) λj m g r=>⟨d,_,g,r,q⟩
end L2
namespace Dd
open L2 PyProof.Rows
noncomputable def valI(a:List (Int×D)) (k:Int):Option D:=(a.find? λb=>decide (b.1=k)).map (·.2)
noncomputable def putI(a:List (Int×D)) (k:Int) (v:D):List (Int×D):=
 if(a.any λb=>decide (b.1=k))=true then a.map (λb=>if b.1=k then(b.1,v) else b) else a++[(k,v)]
noncomputable def dropI(a:List (Int×D)) (k:Int):List (Int×D):=a.filter λb=>decide (b.1≠k)
def inlI:(Sum.inl a:Key)=Sum.inl b↔a=b:=⟨λe=>Sum.inl.inj e,λe=>by rw[e]⟩
section
variable {K:Fg}{ρ:Loc}{H:Hp}{kvs:List (Int×D)}{vs:List (Key×V)}
def KiAt.val(h:KiAt K ρ H kvs vs)(k:Int):match valI kvs k with
  |some d=>∃v,valV vs (Sum.inl k)=some v/\At K ρ H d v
  |none=>valV vs (Sum.inl k)=none:=by
 induction h with
 |nil=>rfl
 |@cons p q ps qs h t ih=>
  obtain⟨b,c⟩:=h;by_cases e:p.1=k
  ·have a:valI (p::ps) k=some p.2:=by simp[valI,xfc,e]
   rw[a];exact⟨q.2,ziw (by rw[b,e]),c⟩
  ·have a:valI (p::ps) k=valI ps k:=by simp[valI,xfc,e]
   have f:valV (q::qs) (Sum.inl k)=valV qs (Sum.inl k):=zix (by rw[b,inlI];exact e);rw[a,f];exact ih
def KiAt.keys(h:KiAt K ρ H kvs vs):vs.map (·.1)=(kvs.map (·.1)).map Sum.inl:=by
 induction h with
 |nil=>rfl
 |@cons p q ps qs h t ih=>rw[xbr,xbr,xbr,ih,h.1]
def KiAt.put(h:KiAt K ρ H kvs vs)(k:Int){d:D}{v:V}(a:At K ρ H d v):KiAt K ρ H (putI kvs k d) (putK vs (Sum.inl k) v):=by
 have b:∀{kvs vs},KiAt K ρ H kvs vs->(kvs.any λf=>decide (f.1=k))=(vs.any λf=>decide (f.1=Sum.inl k)):=λh=>by
  induction h with
  |nil=>rfl
  |@cons p q ps qs h t ih=>
   rw[xiw,xiw,ih,h.1]
   congr 1
   simp only[inlI]
 unfold putI putK;rw[b h];split
 ·rename_i i;clear i b
  induction h with
  |nil=>exact .nil
  |@cons p q ps qs h t ih=>
   refine .cons ?_ ih;obtain⟨c,j⟩:=h;dsimp only;by_cases e:p.1=k
   ·rw[if_pos e,if_pos (by rw[c,e])];exact⟨c,a⟩
   ·rw[if_neg e,if_neg (by rw[c,inlI];exact e)];exact⟨c,j⟩
 ·have g:∀{kvs vs},KiAt K ρ H kvs vs->KiAt K ρ H (kvs++[(k,d)]) (vs++[(Sum.inl k,v)]):=λh=>by
   induction h with
   |nil=>exact .cons ⟨rfl,a⟩ .nil
   |cons h t ih=>exact .cons h ih
  exact g h
def KiAt.drop(h:KiAt K ρ H kvs vs)(k:Int):KiAt K ρ H (dropI kvs k) (dropK vs (Sum.inl k)):=by
 unfold dropI dropK
 induction h with
 |nil=>exact .nil
 |@cons p q ps qs h t ih=>
  by_cases e:p.1=k
  ·rw[xco (by simp[e]),xco (by simp[h.1,e])];exact ih
  ·rw[xck (by simp[e]),xck (by simp[h.1,e])];exact .cons h ih
def KiAt.length(h:KiAt K ρ H kvs vs):kvs.length=vs.length:=xiv h
end
section
variable {H:Hp}{vs:List (Key×V)}
def zrv{p:Addr}(g:H p=some (.dK vs)):∀a u,H p≠some (.frz a u):=λa u z=>by rw[g] at z;cases z
end
def eDNewI:SE:=λ_ a=>.ok (.ref a.length) (a++[.dI []])
def ePopI(f:SE) (g:SA):SE:=λσ c=>(f σ c).bind λx b=>match x with
 |.ref n=>match b[n]? with
  |some (.dI _)=>(g σ b).bind λd a=>match d,a[n]? with
   |[.int k],some (.dI kvs)=>match valI kvs k with
    |some v=>.ok v (a.set n (.dI (dropI kvs k)))
    |none=>.stuck
   |_,_=>.stuck
  |_=>.stuck
 |_=>.stuck
def eSetDI(f:SE) (g:SA):SE:=λσ c=>(f σ c).bind λx b=>match x with
 |.ref n=>match b[n]? with
  |some (.dI _)=>(g σ b).bind λe a=>match e,a[n]? with
   |[.int k,d],some (.dI kvs)=>if kvs.length<sizeLine then(match valI kvs k with
    |some v=>.ok v a
    |none=>.ok d (a.set n (.dI (putI kvs k d)))) else .stuck
   |_,_=>.stuck
  |_=>.stuck
 |_=>.stuck
def bMaxI:List D->Store->Res D:=λb a=>match b with
 |[.ref n]=>match a[n]? with
  |some (.dI kvs)=>match kvs.map (·.1) with
   |k::ks=>.ok (.int (bestI true k ks)) a
   |[]=>.stuck
  |_=>.stuck
 |_=>.stuck
def bTruI(f:SE):ST:=λσ b=>(f σ b).bind λv a=>match v with
 |.ref n=>match a[n]? with
  |some (.dI kvs)=>.ok (!kvs.isEmpty) a
  |_=>.stuck
 |_=>.stuck
def zbjk:JE X (.Dict [] [] pos) eDNewI:=⟨zgj zbgk λτ H Q b p f=>by
 obtain⟨ρ,σ,g,v,d,a,c,e,q⟩:=b;cases e;obtain⟨E,R⟩:=c.alloc f (x:=.dI []) (o:=.dK []) λE=>⟨[],zu,.nil⟩
 exact q _ _ _ E R (.last c.len.symm)⟩
section
variable {X:Cx}{o:Expr}{e:Expr}{a:Expr}{es:List Expr}{f:SE}{ga:SA}{apos:Pos}{cpos:Pos}
def zbqh(ho:JE X o f)(ha:JA X (e::es) ga)(d:attributeBase o "pop" X.env (eval o X.env)=eval o X.env:=by rfl)
  (h:((backTo cpos (starEach (e::es) X.env)).all (λx=>!x.1)&&(backToKw cpos (keywordEach [] X.env)).all (λx=>x.1.isSome)
   && decide ((e::es).length+([]:List Keyword).length+(if([]:List Keyword).isEmpty then 0 else 1)<30))=true:=by rfl)
  (c:(apos.endLine==cpos.line)=true:=by rfl)(U:starEach (e::es) X.env=(false,eval e X.env)::starEach es X.env:=by rfl)(b:(backTo cpos (starEach es X.env)).any (·.1)=false:=by rfl):
  JE X (.Call (.Attribute o "pop" apos) (e::es) [] cpos) (ePopI f ga):=⟨zgj (zbrj xis xjn F.type_dict_pop zbob ho.out ha.out d h c U b) λτ H Q m=>by
 obtain⟨ρ,σ,S,v,a5,a,rp,e,q⟩:=m;obtain⟨x,j,e1,e⟩:=za e;refine⟨ρ,σ,S,x,j,a,rp,e1,λP H1 u I l C=>?_⟩;split at e
 ·rename_i n;split at e
  ·rename_i a0 h0;obtain⟨p,rfl,hp,Y,g0,_⟩:=zdq l C h0 (by intro z;cases z);obtain⟨ys,r,e2,e⟩:=za e;refine⟨.inr (.inr (.inl ⟨rfl,.inl ⟨_,g0⟩⟩)),P,σ,j,ys,r,a.ext I,l,e2,λA H2 ws t g a2=>?_⟩;split at e
   ·rename_i k a4 T;split at e
    ·rename_i z hv;cases e;obtain⟨w,rfl,a3⟩:=a2.one;cases a3;obtain⟨p',ep,i,G,s,y⟩:=zdq g (C.ext t) T (by intro z;cases z);cases ep;have J:=y.val k;rw[hv] at J;obtain⟨vv,g5,g6⟩:=J;have E:Ext A H2 A (upd H2 p (.dK (dropK G (Sum.inl k)))):=Ext.wr i (zrv s) _;exact⟨p,Sum.inl k,vv,G,rfl,rfl,s,g5,q _ _ _ ((I.trans t).trans E) (g.wr i (zrv s) ⟨_,zu,(y.drop k).ext E⟩) (g6.ext E)⟩
    ·cases e
   ·cases e
  ·cases e
 ·cases e⟩
def zbjh(ho:JE X o f)(ha:JA X (e::es) ga)(i:attributeBase o "setdefault" X.env (eval o X.env)=eval o X.env:=by rfl)
  (m:((backTo cpos (starEach (e::es) X.env)).all (λx=>!x.1)&&(backToKw cpos (keywordEach [] X.env)).all (λx=>x.1.isSome)
   && decide ((e::es).length+([]:List Keyword).length+(if([]:List Keyword).isEmpty then 0 else 1)<30))=true:=by rfl)
  (g:(apos.endLine==cpos.line)=true:=by rfl)(hs:starEach (e::es) X.env=(false,eval e X.env)::starEach es X.env:=by rfl)(b:(backTo cpos (starEach es X.env)).any (·.1)=false:=by rfl):
  JE X (.Call (.Attribute o "setdefault" apos) (e::es) [] cpos) (eSetDI f ga):=⟨zgj (zbrj xis xmr F.type_dict_setdefault zboa ho.out ha.out i m g hs b) λτ H Q I=>by
 obtain⟨ρ,σ,au,v,a7,a,rp,e,q⟩:=I;obtain⟨x,t,e1,e⟩:=za e;refine⟨ρ,σ,au,x,t,a,rp,e1,λρ1 H1 u U A a1=>?_⟩;split at e
 ·rename_i n;split at e
  ·rename_i a5 h0;obtain⟨p,rfl,hp,a0,g0,_⟩:=zdq A a1 h0 (by intro z;cases z);obtain⟨ys,J,e2,e⟩:=za e;refine⟨.inr (.inr (.inl ⟨rfl,.inl ⟨_,g0⟩⟩)),ρ1,σ,t,ys,J,a.ext U,A,e2,λρ2 H2 ws C c a2=>?_⟩;split at e
   ·rename_i k d a6 hn;split at e
    ·rename_i s;obtain⟨w,Y,rfl,a3,a4⟩:=a2.two;cases a3;obtain⟨p',ep,r,T,S,G⟩:=zdq c (a1.ext C) hn (by intro z;cases z);cases ep;have l:=G.val k;refine⟨p,Sum.inl k,Y,T,rfl,rfl,S,by rw[←G.length];exact s,λy h=>?_,λh=>?_⟩
     ·split at e
      ·rename_i z j;cases e;rw[j] at l;obtain⟨vv,P,g6⟩:=l;rw[P] at h;cases h;exact q _ _ _ (U.trans C) c g6
      ·rename_i j;rw[j] at l;rw[show valV T (Sum.inl k)=none from l] at h;cases h
     ·split at e
      ·rename_i z j;rw[j] at l;obtain⟨vv,P,g6⟩:=l;rw[P] at h;cases h
      ·rename_i j;cases e;have E:Ext ρ2 H2 ρ2 (upd H2 p (.dK (putK T (Sum.inl k) Y))):=Ext.wr r (zrv S) _;exact q _ _ _ ((U.trans C).trans E) (c.wr r (zrv S) ⟨_,zu,(G.put k a4).ext E⟩) (a4.ext E)
    ·cases e
   ·cases e
  ·cases e
 ·cases e⟩
end
section
variable {e:Expr}{a:Expr}
def zbrb{K:Fg}:CaD K bMaxI rMaxDI:=λρ H o r t z h Q b g e q=>by
 unfold bMaxI at e;split at e
 ·split at e
  ·rename_i n d j;split at e
   ·rename_i k i c;cases e;obtain⟨u,rfl,a⟩:=g.one;obtain⟨p,rfl,s,l,f,m⟩:=zdq b a j (by intro z;cases z);exact⟨p,k,i,l,rfl,.inl f,by rw[m.keys,c],q _ _ _ (.refl _ _) b (.int _)⟩
   ·cases e
  ·cases e
 ·cases e
end
section
variable {X:Cx}{e:Expr}{a:Expr}{f:SE}
def zbin(h:JE X a f)(w:∀b,isTrue a X.env b=(do let v ←b;standAt a.pos;holding [v] (truthy v)):=by intro _;rfl):JT X a (bTruI f):=⟨zbko (zvn h.out w) λτ H Q g=>by
 obtain⟨ρ,σ,l,v,C,k,t,e,q⟩:=g;obtain⟨x,i,y,e⟩:=za e;refine⟨ρ,σ,l,x,i,k,t,y,λG H1 u A c r=>?_⟩;split at e
 ·rename_i n;split at e
  ·rename_i d m;cases e;obtain⟨p,rfl,I,j,s,o⟩:=zdq c r m (by intro z;cases z);have E:d.isEmpty=j.isEmpty:=by
    have:=o.length;cases d<;>cases j<;>simp at this ⊢
   exact⟨_,.inr (.inr ⟨j,s,by rw[E]⟩),q _ _ A c⟩
  ·cases e
 ·cases e⟩
end
end Dd
namespace L2
open Spec PyProof.Rows
end L2
namespace Dd
open L2 PyProof.Rows
end Dd
namespace L2
open Spec PyProof.Rows
end L2
namespace Dd
open Spec PyProof.Rows L2
end Dd
namespace L2
open Spec PyProof.Rows PySem.W
end L2
namespace Dd
open Spec PyProof.Rows L2
end Dd
namespace Dd
open L2 PyProof.Rows
def sv{X:Cx}(c:X.N[i]?=some x:=by rfl)(b:Vis X.env.scope x:=by first|exact Or.inl rfl|exact Or.inr (Or.inl rfl)|exact Or.inr (Or.inr rfl))(d:(x==("__debug__" : Str))=false:=by decide)
 (a:(x==("__classdict__" : Str))=false:=by decide):JE X (.Name x pos) (aA i):=zeu (pv i c b d a)
def scl{X:Cx}(c:CalD X.prog X.w X.K X.mg X.base x k ps F)(i:Room j X.A)(n:JA X (e::es) g)(r:∀f o v a,F f o=.ok v a->f.length=ps.length:=by exact λ_ _ _ _ h=>zse h)(l:k<=j:=by first|decide|lia)(m:Gl X x:=by rfl)
 (b:(x==("__debug__" : Str))=false:=by decide)(q:starEach (e::es) X.env=(false,eval e X.env)::starEach es X.env:=by rfl)(d:(backTo pos (starEach es X.env)).any (·.1)=false:=by rfl):JE X (.Call (.Name x p) (e::es) [] pos) (aE F g):=zsq c r (i.mono l) m n b q d
def sst{X:Cx}{a:Pos}(j:X.N.Nodup)(d:JE X e f)(g:X.N[i]?=some x:=by rfl)(c:L2.Loc X.env.scope x:=by first|exact Or.inl rfl|exact Or.inr rfl)(h:swapsWith e (some (.Name x pos')) a.line X.env=pure false:=by rfl)(b:X.fn x=true\/X.env.scope.names.lookup x=some .local:=by first|exact .inl rfl|exact .inr rfl|assumption):
 JS X (.Assign [.Name x pos'] e a) (aF i f):=zsm j g c d h b
def sgn{X:Cx}(d:X.N.Nodup)(a:X.N[i]?=some x:=by rfl)(c:L2.Loc X.env.scope x:=by first|exact Or.inl rfl|exact Or.inr rfl)(b:X.fn x=true\/X.env.scope.names.lookup x=some .local:=by first|exact .inl rfl|exact .inr rfl|assumption):JG X (.Name x pos) (gN i):=zbc d a c b
def sfr(d:JI X tg iter it)(c:JG X tg bd)(a:JB X body b)(f:PassesOwn (model X.prog X.w) X.A X.env X.xe:=by exact xic)(g:X.calm=true:=by rfl)(e:∀x,foldedSetIterable iter X.env x=pure x:=by intro _;rfl):
 JS X (.For tg iter body [] pos) (sFor it bd b):=zbei f g d c a e
def scp(N:List Str) (h:JI X (.Name x p) iter it)(g:∀b C d s H,JE (cxC X N scope b C d s H) elt f)(c:N.Nodup:=by decide +kernel)(S:CompScope X N k is scope:=by exact zdd (by rfl))(a:X.calm=true:=by rfl)
  (e:N.Nodup->∀b C d s H,JG (cxC X N scope b C d s H) (.Name x p) (gN 0):=by exact λc _ _ _ _ _=>sgn c)(i:∀x,foldedSetIterable iter X.env x=pure x:=by intro _;rfl):JE X (.ListComp elt [⟨.Name x p,iter,[],0⟩] scope pos) (aG it k is (gN 0) aI f):=
 zfd a h (e c) (λ_ _ _ _ _=>zfc) g S i
def sa1(b:JE X a f)(c:plainE a=true:=by rfl):JA X [a] (aB f aC):=zp b zbj c
def sa2(c:JE X a f)(d:JE X b g)(e:plainE a=true:=by rfl)(h:plainE b=true:=by rfl):JA X [a,b] (aB f (aB g aC)):=zp c (sa1 d h) e
def sad(c:JE X a f)(d:JE X b g):JE X (.BinOp a .Add b pos) (aS aM f g):=zgo zbnn zbtp c d
def ssb(c:JE X a f)(d:JE X b g):JE X (.BinOp a .Sub b pos) (aS oSub f g):=zgo zbtg (zou λ_ _ _ _=>.int _) c d
structure En where
 P:Program
 w:World
 K:Fg
 mg:Str->Option Value
 base:Heap
 h:Heap
 X:K.In h
 G:h.Ns mainGlobals mg
abbrev Cl(Y:En) (x:Str) (k:Nat) (a:List Str) (F:DFn):Prop:=CalD Y.P Y.w Y.K Y.mg Y.base x k a F
section
def cmk(N:List Str)(T:TopF Y.K x g)(h:N.Nodup->∀(f:Addr) (c:Value) (A:Around) (e:List Env) (s:Shared) (H:Hp) (E:XK),Room k (A.deeper (envOfC x (defScope g) s.heap.objs.size f c))->JB (cxOf CX0 Y.P Y.w Y.K Y.mg Y.base N x (defScope g) f c A e s H E).nox (defBody g) b)
 (S:FnScope N i (defScope g):=by exact⟨rfl,rfl,rfl,by decide +kernel,rfl,by decide +kernel,by decide +kernel⟩)
 (m:∀(kV j n:Value) (o:Option Addr) (c l:Value) (a:List Value),a.length=i.length->bindArgs (W.fnOf x x (defArgs g) (defBody g) (defScope g) .none kV j n o c l) ⟨a,[]⟩=pure (i.zip a):=by
  first|exact λ_ _ _ _ _ _ a d=>len1 a d λ_=>rfl|exact λ_ _ _ _ _ _ a d=>len2 a d λ_ _=>rfl|exact λ_ _ _ _ _ _ a d=>len3 a d λ_ _ _=>rfl|exact λ_ _ _ _ _ _ a d=>len4 a d λ_ _ _ _=>rfl|exact λ_ _ _ _ _ _ a d=>len0 a d rfl):
 Cl Y x (k+1) i (fnD N.length i.length b):=zxz T Y.X Y.G S m (h S.nd)
end
end Dd
namespace L2
open Spec PyProof.Rows PySem.W
end L2
namespace Dd
open L2 PyProof.Rows
end Dd
namespace L2
open Spec PyProof.Rows
end L2
namespace Dd
open L2 PyProof.Rows
end Dd
namespace L2
open Spec PyProof.Rows
end L2
namespace Dd
open L2 PyProof.Rows
end Dd
namespace L2
open Spec PyProof.Rows PySem.W
section
variable {K:Type}[DecidableEq K](knd:PySem.KeyKind prog w K)
end
end L2
namespace Dd
open Spec PyProof.Rows PySem.W L2
end Dd
namespace Dd
open L2
def zhf:DFn:=fnD 5 2 (aD (aF 2 (eC (.int 0)))
 (aD (sIf (eB (aS oLtT (aA 1) (aE bLen (aB (aA 0) aC)))) (aF 2 (aE bAbs (aB (aS oIx (aA 0) (aA 1)) aC))) sNx)
 (aD (aF 3 (aS aM (aS oMulI (eC (.int 7919)) (aA 1)) (eC (.int 17))))
 (aD (sFor (iR1 (aB (aE bMin2 (aB (aE bLen (aB (aA 0) aC)) (aB (eC (.int 60)) aC))) aC)) (gN 4) (aF 3 (aS oMod (aS aM (aS aM (aS oMulI (aA 3) (eC (.int 48271))) (aS oMod (aS oIx (aA 0) (aA 4)) (eC (.int 2147483647)))) (aA 4)) (eC (.int 2147483629)))))
 (aD (sIf (eB (aS oLtT (aA 2) (aS oPow (eC (.int 10)) (eC (.int 18))))) (aF 2 (eC (.int 0))) sNx)
 (sRet (eLstM (aB (aA 2) (aB (aA 3) aC)))))))))
def zy:DFn:=fnD 5 2 (aD (sIf (eB (aS oGt (aS oIx (aA 0) (eC (.int 0))) (eC (.int 0)))) (aD (aF 2 (aS oMod (aS oIx (aA 0) (eC (.int 0))) (aA 1)))
 (aD (sSetIx (aA 0) (eC (.int 0)) (aS oFdiv (aS oIx (aA 0) (eC (.int 0))) (aA 1)))
 (sRet (aA 2)))) sNx)
 (aD (aF 3 (eC (.int 0)))
 (aD (aF 4 (eC (.int 1)))
 (aD (sWhile (eB (aS oLtT (aA 4) (aA 1))) (aD (sSetIx (aA 0) (eC (.int 1)) (aS oMod (aS aM (aS oMulI (aS oIx (aA 0) (eC (.int 1))) (eC (.int 48271))) (eC (.int 7919))) (eC (.int 2147483647))))
 (aD (aF 3 (aS aM (aS oMulI (aA 3) (eC (.int 1073741789))) (aS oMod (aS oMulI (aS oFdiv (aS oIx (aA 0) (eC (.int 1))) (eC (.int 8))) (eC (.int 69621))) (eC (.int 1073741789)))))
 (aF 4 (aS oMulI (aA 4) (eC (.int 1073741789)))))))
 (sRet (aS oMod (aA 3) (aA 1)))))))
def zfw:DFn:=fnD 2 2 (sIf (eB (aS (oDIn false) (aA 1) (aA 0))) (sDrop (eDPop (aA 0) (aA 1))) (sDPut (aA 0) (aA 1) (eC (.bl true))))
def zgn:SS:=(sDPut (aA 1) (aA 2) (eNot (eDGet2 (aA 1) (aA 2) (eC (.bl false)))))
def zbb:DFn:=fnD 3 1 (aD (aF 1 eDNew)
 (aD (sFor (aH (aA 0)) (gN 2) zgn)
 (sRet (aE bTuple (aB (aE bSorted (aB (aG (iDict (aA 1)) 1 [1] (gN 0) (eTru (aS oDGet (aA 1) (aA 0))) (aA 0)) aC)) aC)))))
def zeo:SS:=(sDPut (aA 1) (aA 2) (eC (.bl true)))
def zfv:DFn:=fnD 3 1 (aD (aF 1 eDNew)
 (aD (sFor (aH (aA 0)) (gN 2) zeo)
 (sRet (aA 1))))
def zhd:DFn:=fnD 2 2 (sRet (aS oEq (aS oAndI (aA 0) (aA 1)) (aA 1)))
def zco:SS:=(sIf (eTru (aE zhd (aB (aS oSub (aS oSub (aA 1) (aA 3)) (eC (.int 1))) (aB (aS oSub (aA 0) (aS oMulI (eC (.int 2)) (aA 3))) aC)))) (sDrop (eAppend (aA 2) (aB (eIf (eB (aS oGt (aA 3) (eC (.int 0)))) (aR (aB (aS oSub (aS aM (aA 0) (aA 1)) (aA 3)) (aB (aA 3) aC))) (aR (aB (aS aM (aA 0) (aA 1)) aC))) aC))) sNx)
def zcb:DFn:=fnD 4 2 (aD (aF 2 (eLstM aC))
 (aD (sFor (iR1 (aB (aS aM (aS oFdiv (aA 0) (eC (.int 2))) (eC (.int 1))) aC)) (gN 3) zco)
 (sRet (aE bSorted (aB (aA 2) aC)))))
def zbk:DFn:=fnD 4 2 (aD (aF 2 (eSl (aA 0) pNone (pSome (aA 1))))
 (aD (aF 3 (eSl (aA 0) (pSome (aS aM (aA 1) (eC (.int 2)))) pNone))
 (sRet (aG (aH (aE zcb (aB (aS oIx (aA 0) (aA 1)) (aB (aS oIx (aA 0) (aS aM (aA 1) (eC (.int 1)))) aC)))) 1 [3,2] (gN 0) aI (aS aM (aS aM (aA 2) (aA 0)) (aA 1))))))
def zo:DFn:=fnD 1 1 (sRet (eAnd (aE bIsinst (aB (aA 0) (aB (eC (.ty "int")) aC))) (eNot (aE bIsinst (aB (aA 0) (aB (eC (.ty "bool")) aC))))))
def zdz:DFn:=fnD 2 2 (sRet (eAnd (aE bIsinst (aB (aA 1) (aB (eC (.ty "tuple")) aC))) (eAnd (aE (bAny true) (aB (aG (aH (aA 1)) 1 [] (gN 0) aI (aE zo (aB (aA 0) aC))) aC)) (aS (oDIn false) (aA 1) (aA 0)))))
def zcv:DFn:=fnD 2 2 (sRet (aS oLtT (aA 0) (aS oMulI (eC (.int 2)) (aA 1))))
def zcd:DFn:=fnD 2 2 (aD (sIf (bOr (bNot (eTru (aE zo (aB (aA 1) aC)))) (bNot (eB (eChain oLe oLtT (eC (.int 0)) (aA 1) (aS oSub (aE bLen (aB (aA 0) aC)) (eC (.int 1))))))) (sRet (eC (.bl false))) sNx)
 (sRet (aE zcv (aB (aS oIx (aA 0) (aA 1)) (aB (aS oIx (aA 0) (aS aM (aA 1) (eC (.int 1)))) aC)))))
def zdi:SS:=(sDrop (aE zfw (aB (aA 0) (aB (aA 3) aC))))
def zdn:DFn:=fnD 4 3 (aD (sIf (bNot (eTru (aE zdz (aB (aA 0) (aB (aA 1) aC))))) sStuck sNx)
 (aD (sIf (bNot (eTru (aE zcd (aB (aA 1) (aB (aA 2) aC))))) sStuck sNx)
 (aD (sDrop (aE zfw (aB (aA 0) (aB (aA 1) aC))))
 (sFor (aH (aE zbk (aB (aA 1) (aB (aA 2) aC)))) (gN 3) zdi))))
def zmy:DFn:=fnD 1 1 (sRet (aG (iR1 (aB (aS oSub (aE bLen (aB (aA 0) aC)) (eC (.int 1))) aC)) 1 [0] (gN 0) (eTru (aE zcd (aB (aA 1) (aB (aA 0) aC)))) (aA 0)))
def zhu:DFn:=fnD 1 1 (sRet (aE bSum (aB (aG (iEnum (aA 0)) 2 [] (gT 2 (gsCons (gN 0) (gsCons (gN 1) gsNil))) aI (aS oMulI (aA 0) (aA 1))) aC)))
def zdg:SS:=(aD (sDrop (eAppend (aA 4) (aB (aE zy (aB (aA 0) (aB (aS aM (aA 3) (eC (.int 1))) aC))) aC)))
 (aF 3 (aS oSub (aA 3) (aS oIx (aA 4) (eUn oNeg (eC (.int 1)))))))
def zdm:DFn:=fnD 7 3 (aD (aF 3 (aE zy (aB (aA 0) (aB (aS aM (aA 2) (eC (.int 1))) aC))))
 (aD (sIf (eB (aS oEq (aE zy (aB (aA 0) (aB (eC (.int 2)) aC))) (eC (.int 0)))) (aF 3 (aA 2)) sNx)
 (aD (aF 4 (eLstM aC))
 (aD (sFor (iR1 (aB (aS oSub (aA 1) (eC (.int 1))) aC)) (gN 5) zdg)
 (aD (sDrop (eAppend (aA 4) (aB (aA 3) aC)))
 (aD (aF 6 (aE zy (aB (aA 0) (aB (aA 1) aC))))
 (sRet (aE bTuple (aB (aS aM (eSl (aA 4) (pSome (aA 6)) pNone) (eSl (aA 4) pNone (pSome (aA 6)))) aC)))))))))
def zeq:DFn:=fnD 4 4 (sRet (aE zbb (aB (aG (iR1 (aB (aE zy (aB (aA 0) (aB (aS aM (aA 2) (eC (.int 1))) aC))) aC)) 1 [0,1,3] (gN 0) aI (aE zdm (aB (aA 1) (aB (aA 2) (aB (aA 3) aC))))) aC)))
def zgg:SS:=(aD (sIf (bOr (bNot (eTru (aE bIsinst (aB (aA 2) (aB (eC (.ty "tuple")) aC))))) (eB (aS oNe (aE bLen (aB (aA 2) aC)) (aA 0)))) (sRet (eC (.bl false))) sNx)
 (sIf (bNot (eTru (aE (bAny true) (aB (aG (aH (aA 2)) 1 [] (gN 0) aI (eAnd (aE zo (aB (aA 0) aC)) (aS oGe (aA 0) (eC (.int 0))))) aC)))) (sRet (eC (.bl false))) sNx))
def zer:DFn:=fnD 3 2 (aD (sIf (bNot (eTru (aE bIsinst (aB (aA 1) (aB (eC (.ty "tuple")) aC))))) (sRet (eC (.bl false))) sNx)
 (aD (sFor (aH (aA 1)) (gN 2) zgg)
 (sRet (aE (bAny true) (aB (aG (iZipT (aB (aA 1) (aB (eSl (aA 1) (pSome (eC (.int 1))) pNone) aC))) 2 [] (gT 2 (gsCons (gN 0) (gsCons (gN 1) gsNil))) aI (aS oLtT (aA 0) (aA 1))) aC)))))
def zld:SS:=(aD (sIf (eB (aS oGe (aA 4) (aA 1))) (sDrop (eAppend (aA 3) (aB (aA 4) aC))) sNx)
 (aD (sIf (eB (aS oEq (aA 4) (aA 0))) sBrk sNx)
 (aF 4 (aS oAndI (aS oSub (aA 4) (aA 0)) (aA 0)))))
def zmx:DFn:=fnD 5 3 (aD (aF 3 (eLstM aC))
 (aD (aF 4 (eC (.int 0)))
 (aD (sWhile (eB (aS oLe (aA 4) (aA 2))) zld)
 (sRet (eFz (aA 3))))))
def zeb:SS:=(sDrop (eAppend (aA 3) (aB (aR (aB (aS aM (aA 4) (aR (aB (aS aM (aA 1) (aA 6)) aC))) (aB (aS oSub (aA 5) (aA 6)) aC))) aC)))
def zea:SS:=(sFor (aH (aE zmx (aB (aA 1) (aB (aS oSub (aA 5) (aA 2)) (aB (aA 5) aC))))) (gN 6) zeb)
def zcj:DFn:=fnD 7 3 (aD (aF 3 (eLstM aC))
 (aD (sFor (aH (aA 0)) (gT 2 (gsCons (gN 4) (gsCons (gN 5) gsNil))) zea)
 (sRet (eFz (aA 3)))))
def zdk:SS:=(aD (sAug 3 (oI (λ_ _=>True) λi j=>.int (i-j)) (aA 4))
 (aF 2 (aE zcj (aB (aA 2) (aB (aA 4) (aB (aA 3) aC))))))
def zcc:DFn:=fnD 5 2 (aD (aF 2 (eLst (aB (aR (aB (aR aC) (aB (aA 1) aC))) aC)))
 (aD (aF 3 (aE bSum (aB (aA 0) aC)))
 (aD (sFor (aH (aA 0)) (gN 4) zdk)
 (sRet (aG (aH (aA 2)) 2 [] (gT 2 (gsCons (gN 0) (gsCons (gN 1) gsNil))) aI (aA 0))))))
def zlf:SS:=(sDrop (aE zfw (aB (aA 2) (aB (aA 4) aC))))
def zle:SS:=(sIf (eB (aS oLe (aA 1) (aE bSum (aB (aA 3) aC)))) (sFor (aH (aE zcc (aB (aA 3) (aB (aA 1) aC)))) (gN 4) zlf) sNx)
def zht:DFn:=fnD 5 2 (aD (sIf (bOr (bNot (eTru (aE zo (aB (aA 1) aC)))) (eB (aS oLtT (aA 1) (eC (.int 0))))) sStuck sNx)
 (aD (aF 2 eDNew)
 (aD (sFor (aH (aA 0)) (gN 3) zle)
 (sRet (aE bTuple (aB (aE bSorted (aB (aA 2) aC)) aC))))))
def zid:SS:=(sDrop (aE zfw (aB (aA 1) (aB (aA 2) aC))))
def zhe:DFn:=fnD 3 1 (aD (aF 1 eDNew)
 (aD (sFor (aH (aA 0)) (gN 2) zid)
 (sRet (aE bTuple (aB (aE bSorted (aB (aA 1) aC)) aC)))))
def zot:DFn:=fnD 2 2 (sRet (aE zhe (aB (aS aM (aA 0) (aA 1)) aC)))
def zgc:SS:=(sDrop (aE zfw (aB (aA 2) (aB (aE bTuple (aB (aG (iZipT (aB (aA 3) (aB (aA 4) aC))) 2 [] (gT 2 (gsCons (gN 0) (gsCons (gN 1) gsNil))) aI (aS aM (aA 0) (aA 1))) aC)) aC))))
def zgb:SS:=(sFor (aH (aA 1)) (gN 4) zgc)
def zep:DFn:=fnD 5 2 (aD (aF 2 eDNew)
 (aD (sFor (aH (aA 0)) (gN 3) zgb)
 (sRet (aE bTuple (aB (aE bSorted (aB (aA 2) aC)) aC)))))
def zge:SS:=(sDrop (eExtend (aA 6) (aB (aG (iR1 (aB (aS aM (aE bMin2 (aB (aA 5) (aB (aA 8) aC))) (eC (.int 1))) aC)) 1 [7,8,5] (gN 0) (eB (aS oEq (aS oAndI (aA 3) (aA 0)) (aA 0))) (aR (aB (aS aM (aA 1) (aR (aB (aS aM (aA 3) (aA 0)) aC))) (aB (aS oSub (aA 2) (aA 0)) aC)))) aC)))
def zdp:SS:=(aD (aF 6 (eLstM aC))
 (aD (sFor (aH (aA 4)) (gT 2 (gsCons (gN 7) (gsCons (gN 8) gsNil))) zge)
 (aF 4 (eFz (aA 6)))))
def zgd:SS:=(aD (aF 4 (eLst (aB (aR (aB (aR aC) (aB (aA 1) aC))) aC)))
 (aD (sFor (aH (aA 3)) (gN 5) zdp)
 (sDrop (eExtend (aA 2) (aB (aG (aH (aA 4)) 2 [] (gT 2 (gsCons (gN 0) (gsCons (gN 1) gsNil))) (eB (aS oEq (aA 1) (eC (.int 0)))) (aA 0)) aC)))))
def zdf:DFn:=fnD 9 2 (aD (aF 2 (eLstM aC))
 (aD (sFor (aH (aA 0)) (gN 3) zgd)
 (sRet (aE zbb (aB (eFz (aA 2)) aC)))))
def zta:DFn->SS:=λa=>(aD (aF 4 (aE zht (aB (aA 1) (aB (aA 3) aC))))
 (sIf (eTru (aA 4)) (aD (aF 5 (aG (aH (aA 0)) 1 [3] (gN 0) (bAnd (eTru (aA 0)) (eB (aS oEq (aS oIx (aA 0) (eUn oNeg (eC (.int 1)))) (aA 1)))) (eSl (aA 0) pNone (pSome (eUn oNeg (eC (.int 1)))))))
 (aF 2 (aE zot (aB (aA 2) (aB (aE a (aB (aA 5) (aB (aA 4) aC))) aC))))) sNx))
def zqu:DFn->DFn:=λa=>fnD 6 2 (aD (aF 2 (eIf (eB (aS (oInG false) (aR aC) (aA 0))) (aA 1) (aR aC)))
 (aD (sFor (aH (aE bSortSet (aB (aG (aH (aA 0)) 1 [] (gN 0) (eTru (aA 0)) (aS oIx (aA 0) (eUn oNeg (eC (.int 1))))) aC))) (gN 3) (zta a))
 (sRet (aA 2))))
def zgf:SS:=(sIf (eB (aS oEq (aS oAndI (aS oSub (aS oSub (aA 1) (aA 3)) (eC (.int 1))) (aS oSub (aA 0) (aS oMulI (eC (.int 2)) (aA 3)))) (aS oSub (aA 0) (aS oMulI (eC (.int 2)) (aA 3))))) (sDrop (eAppend (aA 2) (aB (eSl (aR (aB (aS oSub (aS aM (aA 0) (aA 1)) (aA 3)) (aB (aA 3) aC))) pNone (pSome (aS aM (eC (.int 1)) (aE bMin2 (aB (aA 3) (aB (eC (.int 1)) aC)))))) aC))) sNx)
def zec:DFn:=fnD 4 2 (aD (aF 2 (eLstM aC))
 (aD (sFor (iR1 (aB (aS aM (aS oFdiv (aA 0) (eC (.int 2))) (eC (.int 1))) aC)) (gN 3) zgf)
 (sRet (eFz (aA 2)))))
def zde:SS:=(aD (aF 5 (aG (iR1 (aB (aS oSub (aE bLen (aB (aA 4) aC)) (eC (.int 1))) aC)) 1 [4] (gN 0) (eB (aS oLtT (aS oIx (aA 1) (aA 0)) (aS oMulI (eC (.int 2)) (aS oIx (aA 1) (aS aM (aA 0) (eC (.int 1))))))) (aA 0)))
 (sIf (eB (aS oEq (aA 5) (eLst aC))) (sDrop (eAppend (aA 2) (aB (aA 4) aC))) (aD (aF 6 (aS oIx (aA 5) (eUn oNeg (eC (.int 1)))))
 (sDrop (eExtend (aA 3) (aB (aG (aH (aE zec (aB (aS oIx (aA 4) (aA 6)) (aB (aS oIx (aA 4) (aS aM (aA 6) (eC (.int 1)))) aC)))) 1 [4,6] (gN 0) aI (aS aM (aS aM (eSl (aA 1) pNone (pSome (aA 2))) (aA 0)) (eSl (aA 1) (pSome (aS aM (aA 2) (eC (.int 2)))) pNone))) aC))))))
def zfh:SS:=(aD (aF 3 (eLstM aC))
 (aD (sFor (aH (aA 1)) (gN 4) zde)
 (aF 1 (aE zbb (aB (eFz (aA 3)) aC)))))
def zdl:DFn:=fnD 7 1 (aD (aF 1 (aE zbb (aB (aA 0) aC)))
 (aD (aF 2 (eLstM aC))
 (aD (sWhile (eB (aS oGt (aE bLen (aB (aA 1) aC)) (eC (.int 0)))) zfh)
 (sRet (aE zbb (aB (eFz (aA 2)) aC))))))
def zbg:SS:=(sDrop (eExtend (aA 3) (aB (aG (aH (aS oIx (aA 1) (aS oSub (aA 2) (aA 4)))) 1 [4] (gN 0) aI (aS aM (aR (aB (aA 1) aC)) (aA 0))) aC)))
def zcq:SS:=(aD (aF 3 (eLstM aC))
 (aD (sFor (iR2 (aB (eC (.int 1)) (aB (aS aM (aA 2) (eC (.int 1))) aC))) (gN 4) zbg)
 (sDrop (eAppend (aA 1) (aB (aE zdl (aB (eFz (aA 3)) aC)) aC)))))
def zbi:DFn:=fnD 5 1 (aD (aF 1 (eLstM (aB (aR (aB (aR aC) aC)) aC)))
 (aD (sFor (iR2 (aB (eC (.int 1)) (aB (aS aM (aA 0) (eC (.int 1))) aC))) (gN 2) zcq)
 (sRet (eFz (aA 1)))))
def zic:SS:=(sDrop (aE zdn (aB (aA 2) (aB (aA 3) (aB (aA 4) aC)))))
def zis:DFn:=fnD 5 2 (aD (aF 2 (aE zfv (aB (aA 0) aC)))
 (aD (sFor (aH (aA 1)) (gT 2 (gsCons (gN 3) (gsCons (gN 4) gsNil))) zic)
 (sRet (aE bTuple (aB (aE bSorted (aB (aA 2) aC)) aC)))))
def zdh:DFn:=fnD 2 2 (sDrop (aE zfw (aB (eSetDI (aA 0) (aB (aE zhu (aB (aA 1) aC)) (aB eDNew aC))) (aB (aA 1) aC))))
def zmw:SS:=(sDrop (aE zdh (aB (aA 1) (aB (aA 2) aC))))
def zqt:SS:=(sDrop (aE zdh (aB (aA 1) (aB (aA 6) aC))))
def zqs:SS:=(aD (aF 5 (aE zmy (aB (aA 2) aC)))
 (sIf (eTru (aA 5)) (aD (sDrop (eAppend (aA 3) (aB (aR (aB (aA 2) (aB (aS oIx (aA 5) (eC (.int 0))) aC))) aC)))
 (sFor (aH (aE zbk (aB (aA 2) (aB (aS oIx (aA 5) (eC (.int 0))) aC)))) (gN 6) zqt)) sNx))
def zqr:SS:=(aD (aF 4 (ePopI (aA 1) (aB (aE bMaxI (aB (aA 1) aC)) aC)))
 (sFor (aH (aE bSorted (aB (aA 4) aC))) (gN 2) zqs))
def zbrq:DFn:=fnD 7 1 (aD (aF 1 eDNewI)
 (aD (sFor (aH (aA 0)) (gN 2) zmw)
 (aD (aF 3 (eLstM aC))
 (aD (sWhile (bTruI (aA 1)) zqr)
 (sRet (eFz (aA 3)))))))
def zit:DFn:=fnD 1 1 (sRet (aE zis (aB (aA 0) (aB (aE zbrq (aB (aA 0) aC)) aC))))
def zes:SS:=(aD (aF 3 (eLstM aC))
 (aD (sFor (iR2 (aB (eC (.int 1)) (aB (aS aM (aA 2) (eC (.int 1))) aC))) (gN 4) zbg)
 (sDrop (eAppend (aA 1) (aB (aE zit (aB (aE bTuple (aB (aA 3) aC)) aC)) aC)))))
def zcu:DFn:=fnD 5 1 (aD (aF 1 (eLstM (aB (aR (aB (aR aC) aC)) aC)))
 (aD (sFor (iR2 (aB (eC (.int 1)) (aB (aS aM (aA 0) (eC (.int 1))) aC))) (gN 2) zes)
 (sRet (eFz (aA 1)))))
def zen:DFn:=fnD 4 3 (aD (sIf (bOr (bNot (eTru (aE zo (aB (aA 0) aC)))) (bNot (eB (eChain oLe oLe (eC (.int 0)) (aA 0) (eC (.int 8)))))) sStuck sNx)
 (aD (aF 3 (aE zcu (aB (aA 0) aC)))
 (sRet (eCompM (iR1 (aB (aS aM (aA 0) (eC (.int 1))) aC)) 1 [2,1,3,0] (gN 0) aI (aR (aB (aA 0) (aB (aE zep (aB (aE (iterF zqu 8) (aB (aS oIx (aA 3) (aS oSub (aA 4) (aA 0))) (aB (aA 2) aC))) (aB (aA 1) aC))) aC)))))))
def zfi:SS:=(noX (sIf (bOr (bNot (eTru (aE bIsinst (aB (aA 3) (aB (eC (.ty "tuple")) aC))))) (bOr (bNot (eTru (aE zo (aB (aS oIx (aA 3) (eC (.int 0))) aC)))) (bNot (eTru (aE zer (aB (aA 0) (aB (aS oIx (aA 3) (eC (.int 1))) aC))))))) (sRet (eC (.bl false))) sNx))
def zbx:DFn:=fnD 4 3 (aD (sIf (bOr (bNot (eTru (aE bIsinst (aB (aA 1) (aB (eC (.ty "list")) aC))))) (eB (aS oNe (aA 1) (aA 2)))) (sRet (eC (.bl false))) sNx)
 (aD (sForA false (noX (aA 1)) (gN 3) zfi)
 (sRet (eC (.bl true)))))
def zfg:SS:=(sDrop (eAppend (aA 2) (aB (aE bTuple (aB (aG (iZipT (aB (aA 3) (aB (aA 4) aC))) 2 [] (gT 2 (gsCons (gN 0) (gsCons (gN 1) gsNil))) aI (aS aM (aA 0) (aA 1))) aC)) aC)))
def zff:SS:=(sFor (aH (aA 1)) (gN 4) zfg)
def zci:DFn:=fnD 5 2 (aD (aF 2 (eLstM aC))
 (aD (sFor (aH (aA 0)) (gN 3) zff)
 (sRet (aE zbb (aB (eFz (aA 2)) aC)))))
def zfj:SS:=(aF 4 (aE zdf (aB (aA 4) (aB (aA 5) aC))))
def zie:SS:=(aD (aF 4 (aA 1))
 (aD (sFor (aH (eBack (aA 3) (eUn oNeg (eC (.int 1))))) (gN 5) zfj)
 (sDrop (eExtend (aA 2) (aB (aE bList (aB (aA 4) aC)) aC)))))
def zed:DFn:=fnD 6 2 (aD (aF 2 (eLstM aC))
 (aD (sFor (aH (aA 0)) (gN 3) zie)
 (sRet (aE zbb (aB (eFz (aA 2)) aC)))))
def zyt:SS:=(aD (aF 2 (aE zhf (aB (aA 0) (aB (aA 1) aC))))
 (aD (aF 3 (aS aM (aS aM (eC (.int 1)) (aE zy (aB (aA 2) (aB (eC (.int 3)) aC)))) (aS oMulI (eC (.int 3)) (aE bInt (aB (aS oEq (aE zy (aB (aA 2) (aB (eC (.int 4)) aC))) (eC (.int 1))) aC)))))
 (aD (sSetG (gT 2 (gsCons (gN 4) (gsCons (gN 5) gsNil))) (aS oIx (eLst (aB (aR (aB (aS oIx (eLst (aB (eC (.int 4)) (aB (eC (.int 6)) aC))) (aE bInt (aB (aS oEq (aA 1) (eC (.int 0))) aC))) (aB (eC (.int 10)) aC))) (aB (aR (aB (eC (.int 2)) (aB (eC (.int 4)) aC))) aC))) (aE bInt (aB (aS oGt (aA 3) (eC (.int 3))) aC))))
 (aD (aF 6 (aE zeq (aB (aA 2) (aB (aA 3) (aB (aA 4) (aB (aA 5) aC))))))
 (aD (aF 7 (aE zeq (aB (aA 2) (aB (aA 3) (aB (aA 4) (aB (aA 5) aC))))))
 (aD (aF 8 (aE zy (aB (aA 2) (aB (eC (.int 9)) aC))))
 (aD (aF 9 (aE zbi (aB (aA 8) aC)))
 (aD (aF 10 (aG (iR1 (aB (aS aM (aA 8) (eC (.int 1))) aC)) 1 [7,6,9,8] (gN 0) aI (aR (aB (aA 0) (aB (aE zci (aB (aE zed (aB (aS oIx (aA 3) (aS oSub (aA 4) (aA 0))) (aB (aA 2) aC))) (aB (aA 1) aC))) aC)))))
 (aD (aF 11 (aE zen (aB (aA 8) (aB (aA 6) (aB (aA 7) aC)))))
 (aD (sIf (bNot (eTru (aE zbx (aB (aA 3) (aB (aA 11) (aB (aA 10) aC)))))) (sRet (eC (.bl false))) sNx)
 (aD (sDrop (eClear (aA 11)))
 (sIf (bNot (eTru (aE zbx (aB (aA 3) (aB (aE zen (aB (aA 8) (aB (aA 6) (aB (aA 7) aC)))) (aB (aA 10) aC)))))) (sRet (eC (.bl false))) sNx))))))))))))
def zbwl:DFn:=fnD 12 1 (aD (sFor (iR1 (aB (aS aM (aE bMin2 (aB (eC (.int 2)) (aB (aE bLen (aB (aA 0) aC)) aC))) (eC (.int 1))) aC)) (gN 1) zyt)
 (sRet (eC (.bl true))))
noncomputable def RngOk(j:Int):Prop:=-(2^62)<=j/\j<2^62
instance (j:Int):Decidable (RngOk j):=by unfold RngOk;infer_instance
def rngOk(b:-1000000000000<=j)(a:j<=1000000000000):RngOk j:=⟨by lia,by lia⟩
@[simp] theorem eC_v:eC d σ au=.ok d au:=rfl
@[simp] theorem zbpk:aA i σ au=(match σ[i]? with
 |some (some d)=>.ok d au
 |_=>.stuck):=rfl
@[simp] theorem zbyi:aS g f f' σ au=(f σ au).bind λx a=>(f' σ a).bind λy st2=>g x y st2:=rfl
@[simp] theorem zbze:eUn g f σ au=(f σ au).bind λx st1=>g x st1:=rfl
@[simp] theorem zfz:aE g f σ au=(f σ au).bind λa st1=>g a st1:=rfl
@[simp] theorem zbre:aC σ au=.ok [] au:=rfl
@[simp] theorem zjv:aB f g σ au=(f σ au).bind λx a=>(g σ a).bind λb st2=>.ok (x::b) st2:=rfl
@[simp] theorem eB_v:eB f σ au=(f σ au).bind λv a=>(match v with
 |.bl b=>.ok b a
 |_=>.stuck):=rfl
@[simp] theorem zxg:eTru f σ au=(f σ au).bind λv a=>(match tru a v with
 |some b=>.ok b a
 |none=>.stuck):=rfl
@[simp] theorem zbil:eAnd f f' σ au=(f σ au).bind λv a=>(match v with
 |.bl true=>f' σ a
 |.bl false=>.ok (.bl false) a
 |_=>.stuck):=rfl
@[simp] theorem zbyh:eOr f f' σ au=(f σ au).bind λv a=>(match v with
 |.bl true=>.ok (.bl true) a
 |.bl false=>f' σ a
 |_=>.stuck):=rfl
@[simp] theorem zbpl:eNot f σ au=(f σ au).bind λv a=>(match v with
 |.bl b=>.ok (.bl (!b)) a
 |_=>.stuck):=rfl
@[simp] theorem zbwg:bAnd f f' σ au=(f σ au).bind λb st1=>if b=true then f' σ st1 else .ok false st1:=rfl
@[simp] theorem zbzb:bOr f f' σ au=(f σ au).bind λb st1=>if b=true then .ok true st1 else f' σ st1:=rfl
@[simp] theorem zbra:bNot f σ au=(f σ au).bind λb st1=>.ok (!b) st1:=rfl
@[simp] theorem zbza:aI σ au=.ok true au:=rfl
@[simp] theorem zbyj:eIf c f f' σ au=(c σ au).bind λb st1=>if b=true then f σ st1 else f' σ st1:=rfl
@[simp] theorem zbup:aR g σ au=(g σ au).bind λb a=>if b.length<=sizeLine then .ok (.tup b) a else .stuck:=rfl
@[simp] theorem zbuq:eLst g σ au=(g σ au).bind λb a=>if b.length<=sizeLine then .ok (.lst b) a else .stuck:=rfl
@[simp] theorem zbpm:eLstM g σ au=(g σ au).bind λb a=>if b.length<=sizeLine then .ok (.ref a.length) (a++[.lst b]) else .stuck:=rfl
@[simp] theorem zbur:eChain g g' f f' f'' σ au=(f σ au).bind λx d=>(f' σ d).bind λy c=>(g x y c).bind λz a=>(match z with
 |.bl true=>(f'' σ a).bind λw b=>g' y w b
 |.bl false=>.ok (.bl false) a
 |_=>.stuck):=rfl
@[simp] theorem zbxc:eDNew σ au=.ok (.ref au.length) (au++[.dT []]):=rfl
@[simp] theorem zbzd:sNx σ au=.ok (.nx σ) au:=rfl
@[simp] theorem zbxl:sBrk σ au=.ok (.brk σ) au:=rfl
@[simp] theorem zuz:sRet f σ au=(f σ au).bind λv st1=>.ok (.ret v) st1:=rfl
@[simp] theorem zbwq:sRetN σ au=.ok (.ret .non) au:=rfl
@[simp] theorem zbct:sDrop f σ au=(f σ au).bind λ_ st1=>.ok (.nx σ) st1:=rfl
@[simp] theorem zbsf:aF i f σ au=(f σ au).bind λv st1=>.ok (.nx (σ.set i (some v))) st1:=rfl
@[simp] theorem zbsg:aD s t σ au=(match s σ au with
 |.ok (.nx σ1) st1=>t σ1 st1
 |r=>r):=rfl
@[simp] theorem zbsi:sIf c s t σ au=(c σ au).bind λb st1=>if b=true then s σ st1 else t σ st1:=rfl
@[simp] theorem zbsj:sAug i g f σ au=(match σ[i]? with
 |some (some x)=>(f σ au).bind λy b=>(g x y b).bind λz a=>.ok (.nx (σ.set i (some z))) a
 |_=>.stuck):=rfl
@[simp] theorem zblx:sFor it bd body σ au=(it σ au).bind λa st1=>forF bd body a σ st1:=rfl
@[simp] theorem zbpe:aH f σ au=(f σ au).bind λx a=>(match seqV x with
 |some xs=>.ok xs a
 |none=>.stuck):=rfl
@[simp] theorem zbye:iR1 g σ au=(g σ au).bind λb a=>(match b with
 |[.int j]=>if RngOk j then .ok (rng 0 j.toNat) a else .stuck
 |_=>.stuck):=rfl
@[simp] theorem zbyd: iR2 g σ au=(g σ au).bind λb a=>(match b with
  |[.int i,.int j]=>if RngOk i/\RngOk j then .ok (rng i (j-i).toNat) a else .stuck
  |_=>.stuck):=by
  show(g σ au).bind _=_
  congr 1
  funext b a
  split
  · unfold RngOk
    simp only[and_assoc]
  · rename_i h
    first
      |rfl
      | (split
         · rename_i i j
           exact absurd rfl (h i j)
         · rfl)
@[simp] theorem zbwz:iDict f σ au=(f σ au).bind λx a=>(match x with
 |.ref n=>(match a[n]? with
  |some (.dT kvs)=>.ok (aJ (kvs.map (·.1))) (a.set n (.fT kvs))
  |_=>.stuck)
 |_=>.stuck):=rfl
@[simp] theorem zla:aG it k is bd c f σ au=(it σ au).bind λd b=>if d.length<=sizeLine then(compF bd c f d (aT k is σ) b).bind λe a=>.ok (.lst e) a else .stuck:=rfl
@[simp] theorem zbyk:eFz f σ au=(f σ au).bind λx a=>(match x with
 |.ref n=>(match a[n]? with
  |some (.lst xs)=>.ok (.lst xs) (a.set n .dead)
  |_=>.stuck)
 |_=>.stuck):=rfl
@[simp] theorem zbww:pNone σ au=.ok none au:=rfl
@[simp] theorem zbnf:pSome f σ au=(f σ au).bind λv a=>(match v with
 |.int i=>.ok (some i) a
 |_=>.stuck):=rfl
@[simp] theorem zbyg {lo:DS->Store->Res (Option Int)}:eSl f lo hi σ au=(f σ au).bind λx c=>(lo σ c).bind λl b=>(hi σ b).bind λh a=>(match x with
 |.tup xs=>.ok (.tup (cutD xs l h)) a
 |x=>match asL a x with
  |some xs=>.ok (.lst (cutD xs l h)) a
  |none=>.stuck):=rfl
@[simp] theorem zbbk:eAppend f g σ au=(f σ au).bind λx b=>(match x,asL b x with
 |.ref n,some _=>(g σ b).bind λc a=>(match c,a[n]? with
  |[y],some (.lst xs)=>if xs.length<sizeLine then .ok .non (a.set n (.lst (xs++[y]))) else .stuck
  |_,_=>.stuck)
 |_,_=>.stuck):=rfl
@[simp] theorem zbbj:eExtend f g σ au=(f σ au).bind λx b=>(match x,asL b x with
 |.ref n,some _=>(g σ b).bind λc a=>(match c,a[n]? with
  |[y],some (.lst xs)=>(match asL a y with
   |some zs=>if xs.length+zs.length<=sizeLine then .ok .non (a.set n (.lst (xs++zs))) else .stuck
   |none=>.stuck)
  |_,_=>.stuck)
 |_,_=>.stuck):=rfl
@[simp] theorem zbfp:sSetIx f g h σ au=(h σ au).bind λv c=>(f σ c).bind λx b=>(g σ b).bind λy a=>(match x,y with
 |.ref n,.int k=>(match a[n]? with
  |some (.lst xs)=>(match ixN xs.length k with
   |some j=>.ok (.nx σ) (a.set n (.lst (xs.set j v)))
   |none=>.stuck)
  |_=>.stuck)
 |_,_=>.stuck):=rfl
@[simp] theorem zbik:eDGet2 f g h σ au=(f σ au).bind λx b=>(match pairsOf b x with
 |some _=>(g σ b).bind λy c=>(h σ c).bind λz a=>(match pairsOf a x,keyOf y with
  |some kvs,some k=>.ok ((valD kvs k).getD z) a
  |_,_=>.stuck)
 |none=>.stuck):=rfl
@[simp] theorem zbxb:eDPop f g σ au=(f σ au).bind λx b=>(match pairsOf b x with
 |some _=>(g σ b).bind λy a=>(match x,keyOf y with
  |.ref n,some k=>(match a[n]? with
   |some (.dT kvs)=>(match valD kvs k with
    |some v=>.ok v (a.set n (.dT (dropD kvs k)))
    |none=>.stuck)
   |_=>.stuck)
  |_,_=>.stuck)
 |none=>.stuck):=rfl
@[simp] theorem zbcu:sDPut f g h σ au=(h σ au).bind λv c=>(f σ c).bind λx b=>(g σ b).bind λy a=>(match x,keyOf y with
 |.ref n,some k=>(match a[n]? with
  |some (.dT kvs)=>if kvs.length<sizeLine then .ok (.nx σ) (a.set n (.dT (putD kvs k v))) else .stuck
  |_=>.stuck)
 |_,_=>.stuck):=rfl
def zbxa:fnD n np b ds au=if ds.length=np then(match b (ds.map some++List.replicate (n-np) none) au with
 |.ok (.ret v) st'=>.ok v st'
 |.ok (.nx _) st'=>.ok .non st'
 |.exc x st'=>.exc x st'
 |_=>.stuck) else .stuck:=rfl
@[simp] theorem oI_v [DecidableRel C]:oI C h (.int i) (.int j) au=if C i j then .ok (h i j) au else .stuck:=rfl
@[simp] theorem zbya:aM (.int i) (.int j) au=.ok (.int (i+j)) au:=rfl
@[simp] theorem zbns:aM (.tup a) (.tup b) au=if a.length+b.length<=sizeLine then .ok (.tup (a++b)) au else .stuck:=rfl
@[simp] theorem zbxw:oLtT (.int i) (.int j) au=.ok (.bl (decide (i<j))) au:=rfl
@[simp] theorem zbxu:oNeg (.int i) au=.ok (.int (-i)) au:=rfl
@[simp] theorem zcm (ns:List Int):asInts (ns.map .int)=some ns:=by
 induction ns with
 |nil=>rfl
 |cons n ns ih=>rw[xbr,asInts,ih];rfl
@[simp] theorem zbrd (l:List (List Int)):asRows (aJ l)=some l:=by
 induction l with
 |nil=>rfl
 |cons n ns ih=>
  unfold aJ at ih ⊢;rw[xbr,asRows,zcm,ih];rfl
@[simp] theorem zfo (ns:List Int):keyOf (aL ns)=some ns:=zcm ns
def zmq:dataOf au (.int i)=some (.int i):=rfl
@[simp] theorem zbxz:oEq (.int i) (.int j) au=.ok (.bl (decide (i=j))) au:=by
 show oEqG false (.int i) (.int j) au=_;unfold oEqG;rw[zmq,zmq];dsimp only;rw[if_pos ⟨rfl,rfl⟩];show Res.ok (D.bl (i==j)) au=_;rw[show(i==j)=decide (i=j) from by rw[xgq];simp]
@[simp] theorem zbxv:oNe (.int i) (.int j) au=.ok (.bl (!decide (i=j))) au:=by
 show oEqG true (.int i) (.int j) au=_;unfold oEqG;rw[zmq,zmq];dsimp only;rw[if_pos ⟨rfl,rfl⟩];show Res.ok (D.bl (!(i==j))) au=_;rw[show(i==j)=decide (i=j) from by rw[xgq];simp]
def zmp(a:List Int):toDatas (a.map .int)=some (dI a):=by
 induction a with
 |nil=>rfl
 |cons n a ih=>rw[xbr,toDatas,ih];rfl
def zsp(l:List (List Int)):toDatas (aJ l)=some (l.map dRow):=by
 induction l with
 |nil=>rfl
 |cons n ns ih=>
  unfold aJ at ih ⊢;rw[xbr,toDatas,ih,toData,zmp];rfl
abbrev aK(l:List (List Int)):D:=.tup (aJ l)
def zbjf(l:List (List Int)):dataOf au (aK l)=some (.tuple (l.map dRow)):=by
 show(toDatas (aJ l)).map PyData.tuple=_;rw[zsp];rfl
def zxl(l:List Int):dataOf au (aL l)=some (dRow l):=by
 show(toDatas (l.map .int)).map PyData.tuple=_;rw[zmp];rfl
def small(n:Nat)(h:n<=1000000):n<=sizeLine:=by rw[xil];lia
def smallT(n:Nat)(h:n<=1000000):n<sizeLine:=by rw[xil];lia
def zbee(I:Nat->DS->Store->Prop):∀(d:List D) (k:Nat) (σ:DS) (a:Store),I k σ a ->
  (∀i x σ a,d[i]?=some x->I (k+i) σ a->∃g f c,bd x σ=some g/\body g a=.ok (.nx f) c/\I (k+i+1) f c)->∃e b,forF bd body d σ a=.ok (.nx e) b/\I (k+d.length) e b
 |[],k,σ,a,h,_=>⟨σ,a,rfl,h⟩
 |x::d,k,σ,a,h,s=>by
  obtain⟨g,f,c,q,j,o⟩:=s 0 x σ a rfl h;obtain⟨e,b,l,n⟩:=zbee I d (k+1) f c o λi y σ a m p=>by
   have:=s (i+1) y σ a (by simpa using m) (by rw[show k+(i+1)=k+1+i by lia];exact p);rw[show k+(i+1)+1=k+1+i+1 by lia] at this;exact this
  refine⟨e,b,?_,by rw[xbv,show k+(d.length+1)=k+1+d.length by lia];exact n⟩;unfold forF;rw[q];dsimp only;rw[j];exact l
def zxa(I:Nat->DS->Store->Prop) (g:I 0 σ au)
  (s:∀i x σ au,xs[i]?=some x->I i σ au->∃c e a,bd x σ=some c/\body c au=.ok (.nx e) a/\I (i+1) e a):∃b st',forF bd body xs σ au=.ok (.nx b) st'/\I xs.length b st':=by
 have:=zbee I xs 0 σ au g λi x σ au f d=>by
  rw[xel] at d ⊢;exact s i x σ au f d
 rw[xel] at this;exact this
def zbfs{lo:Int}(h:(rng lo n)[i]?=some x):i<n/\x=.int (lo+i):=zfy h
def zx(lo:Int)(n:Nat):(rng lo n).length=n:=by simp[rng]
def zqf(I:Nat->List D->DS->Store->Prop):∀(l:List D) (k:Nat) (acc:List D) (σ:DS) (g:Store),I k acc σ g ->
  (∀i x acc σ g,l[i]?=some x->I (k+i) acc σ g->∃e b a,bd x σ=some e/\c e g=.ok b a/\((b=false/\I (k+i+1) acc e a)\/(b=true/\∃y d,f e a=.ok y d/\I (k+i+1) (acc++[y]) e d))) ->
  ∃m n j,compF bd c f l σ g=.ok m j/\I (k+l.length) (acc++m) n j
 |[],k,acc,σ,g,h,_=>⟨[],σ,g,rfl,by rw[xdt];exact h⟩
 |x::l,k,acc,σ,g,h,s=>by
  have t:∀i y acc σ g,l[i]?=some y->I (k+1+i) acc σ g->∃e b a,bd y σ=some e/\c e g=.ok b a/\((b=false/\I (k+1+i+1) acc e a)\/(b=true/\∃z d,f e a=.ok z d/\I (k+1+i+1) (acc++[z]) e d)):=λi y acc σ g w A=>by
   have:=s (i+1) y acc σ g (by simpa using w) (by rw[show k+(i+1)=k+1+i by lia];exact A);rw[show k+(i+1)+1=k+1+i+1 by lia] at this;exact this
  obtain⟨e,b,a,u,r,o⟩:=s 0 x acc σ g rfl h;rcases o with⟨rfl,o⟩|⟨rfl,y,d,v,o⟩
  ·obtain⟨m,n,j,q,p⟩:=zqf I l (k+1) acc e a o t;refine⟨m,n,j,?_,by rw[xbv,show k+(l.length+1)=k+1+l.length by lia];exact p⟩;unfold compF;rw[u];dsimp only;rw[r];exact q
  ·obtain⟨m,n,j,q,p⟩:=zqf I l (k+1) (acc++[y]) e d o t;refine⟨y::m,n,j,?_,by rw[xbv,show k+(l.length+1)=k+1+l.length by lia];rw[xch] at p;exact p⟩;unfold compF;rw[u];dsimp only;rw[r];dsimp only[zbf];rw[if_pos rfl,v];dsimp only[zbf];rw[q]
   rfl
def zok(I:Nat->List D->DS->Store->Prop) (l:I 0 [] σ au)
  (s:∀i x acc σ au,xs[i]?=some x->I i acc σ au->∃d b a,bd x σ=some d/\c d au=.ok b a/\((b=false/\I (i+1) acc d a)\/(b=true/\∃y e,f d a=.ok y e/\I (i+1) (acc++[y]) d e))):
  ∃g j st',compF bd c f xs σ au=.ok g st'/\I xs.length g j st':=by
 have:=zqf I xs 0 [] σ au l λi x acc σ au k h=>by
  rw[xel] at h ⊢;exact s i x acc σ au k h
 rw[xel] at this
 simpa using this
def zyv(I:Nat->DS->Store->Prop)(a:DS->Store->Prop) (u:I k σ au)(r:k<wCap)
  (s:∀j σ au,I j σ au->∃b d,c σ au=.ok b d/\((b=false/\a σ d)\/(b=true/\∃i l e,body σ d=.ok (.nx l) e/\I i l e/\i<j))):∃f st',sWhile c body σ au=.ok (.nx f) st'/\a f st':=by
 have g:∀n j σ au,I j σ au->j<n->∃f st',whileF c body n σ au=.ok (.nx f) st'/\a f st':=by
  intro n
  induction n with
  |zero=>intro j σ au _ h;lia
  |succ n ih=>
   intro j σ au w o;obtain⟨b,d,v,h⟩:=s j σ au w;unfold whileF;rw[v];dsimp only[zbf];rcases h with⟨rfl,h⟩|⟨rfl,i,l,e,m,t,x⟩
   ·exact⟨σ,d,by rw[if_neg (by decide)],h⟩
   ·obtain⟨f,st',p,q⟩:=ih i l e t (by lia);refine⟨f,st',?_,q⟩;rw[if_pos rfl,m];exact p
 exact g wCap k σ au u r
@[simp] theorem zbrg:seqOf au (.tup xs)=some xs:=rfl
@[simp] theorem zbrh:seqOf au (.scr xs)=some xs:=rfl
@[simp] theorem zbri:seqOf au (.lst xs)=some xs:=rfl
@[simp] theorem zbsc:seqV (.tup xs)=some xs:=rfl
@[simp] theorem zbse:seqV (.lst xs)=some xs:=rfl
@[simp] theorem zbsd:seqV (.scr xs)=some xs:=rfl
@[simp] theorem zbxf:asL au (.lst xs)=some xs:=rfl
def zib(h:au[n]?=some (.lst xs)):asL au (.ref n)=some xs:=by
 unfold asL;dsimp only;rw[h]
def zil(h:au[n]?=some (.lst xs)):seqOf au (.ref n)=some xs:=zib h
def zjh(h:seqOf au x=some xs)(a:L2.atI xs i=some d):oIx x (.int i) au=.ok d au:=by
 unfold oIx;rw[h];dsimp only;rw[a]
@[simp] theorem zbwd:bLen [.tup xs] au=.ok (.int xs.length) au:=rfl
@[simp] theorem zbwf:bLen [.lst xs] au=.ok (.int xs.length) au:=rfl
@[simp] theorem zbwe:bLen [.scr xs] au=.ok (.int xs.length) au:=rfl
@[simp] theorem zbzc:bAbs [.int i] au=.ok (.int (if i<0 then -i else i)) au:=rfl
@[simp] theorem zbzf:b2I g [.int i,.int j] au=.ok (.int (g i j)) au:=rfl
@[simp] theorem zbwc:bSum [aL ns] au=.ok (.int ns.sum) au:=by
 unfold bSum;simp
@[simp] theorem zbqz:bTuple [.tup xs] au=.ok (.tup xs) au:=rfl
@[simp] theorem zyi:bTuple [.lst xs] au=.ok (.tup xs) au:=rfl
def zyh(h:au[n]?=some (.lst xs)):bTuple [.ref n] au=.ok (.tup xs) au:=by
 unfold bTuple;dsimp only;rw[zib h]
def zql{l:List (List Int)}(h:l.length<=1000000):bSorted [.lst (aJ l)] au=.ok (.lst (aJ (sortR l))) au:=by
 unfold bSorted;simp[h]
def zqm(h:au[n]?=some (.dT kvs))(a:kvs.length<=1000000):bSorted [.ref n] au=.ok (.lst (aJ (sortR (kvs.map (·.1))))) au:=by
 unfold bSorted asL pairsOf;simp[h,a]
def zqn{j:Nat}(h:xs[j]?=some d):L2.atI xs (j:Int)=some d:=zyl h
def zcy{a:Store}(h:n<a.length):(a.set n o)[n]?=some o:=xfg h
section
variable {au:Store}{n:Nat}
def zf{o:O}(h:au[n]?=some o):n<au.length:=(xbd.mp h).1
end
def zbfn{a:Store}:(a.set n o).set n p=a.set n p:=List.set_set _
section
variable {au:Store}{n:Nat}{i:Int}
def zbsb{o:O}(h:au[n]?=some o):au.set n o=au:=by
 apply xif;intro i;by_cases e:i=n
 ·subst e;rw[xfg (zf h),h]
 ·rw[xbp (xdn e)]
end
def zgl{a:List D}(h:a.length=np)(e:b (a.map some++List.replicate (n-np) none) au=.ok (.ret v) st'):fnD n np b a au=.ok v st':=by
 rw[zbxa,if_pos h,e]
def zbul{a:List D}(h:a.length=np)(e:b (a.map some++List.replicate (n-np) none) au=.ok (.nx σ) st'):fnD n np b a au=.ok .non st':=by
 rw[zbxa,if_pos h,e]
noncomputable abbrev bagO(c x:Int):O:=.lst [.int c,.int x]
def BagAt(a:Store) (n:Nat):Prop:=∃c x:Int,a[n]?=some (bagO c x)/\0<=c/\0<=x
structure Drew (au st':Store) (n:Nat):Prop where
 len:au.length<=st'.length
 keep:∀ i,i<au.length->i≠n->st'[i]?=au[i]?
 bag:BagAt st' n
def Drew.trans(a:Drew au st1 n)(b:Drew st1 st2 n):Drew au st2 n:=
 ⟨xbc a.len b.len,λi d c=>(b.keep i (xbo d a.len) c).trans (a.keep i d c),b.bag⟩
def Drew.set{a:Store}{n:Nat}{c x:Int}(h:BagAt a n)(f:0<=c)(d:0<=x):Drew a (a.set n (bagO c x)) n:=by
 obtain⟨_,_,e,_⟩:=h;exact⟨by rw[xcx];exact xbl _,λi _ b=>xbp (xdn b),c,x,zcy (zf e),f,d⟩
def Drew.more{a:Store}{n:Nat}(h:BagAt a n)(g:Store):Drew a (a++g) n:=by
 obtain⟨c,x,e,d,b⟩:=h;exact⟨by rw[xbk];lia,λi h _=>xbj h,c,x,by rw[xbj (zf e)];exact e,d,b⟩
def zbln{au:Store}{n:Nat}{m:Int}(l:BagAt au n)(h1:1<=m)(U:m<2^1000):
  ∃r f,zy [.ref n,.int m] au=.ok (.int r) f/\0<=r/\r<m/\Drew au f n/\f.length=au.length:=by
 obtain⟨c,x,i,C,q⟩:=id l;have t:∀{c x au},au[n]?=some (bagO c x)->oIx (.ref n) (.int 0) au=.ok (.int c) au:=λh=>zjh (zil h) rfl
 have A:∀{c x au},au[n]?=some (bagO c x)->oIx (.ref n) (.int 1) au=.ok (.int x) au:=λh=>zjh (zil h) rfl
 by_cases h0:0<c
 ·have d1:CDivP c m:=⟨by lia,U⟩
  have e0:ixN 2 0=some 0:=rfl;refine⟨c%m,au.set n (bagO (c/m) x),zgl rfl ?_,xkj _ (by lia),Int.emod_lt_of_pos _ (by lia),Drew.set l (Int.ediv_nonneg C (by lia)) q,xcx⟩;simp[t i,h0,i,e0,show(0:Int)<m by lia,d1]
 ·have g:=zf i
  have W:=zyv (c:=eB (aS oLtT (aA 4) (aA 1))) (body:=aD (sSetIx (aA 0) (eC (.int 1)) (aS oMod (aS aM (aS oMulI (aS oIx (aA 0) (eC (.int 1))) (eC (.int 48271))) (eC (.int 7919))) (eC (.int 2147483647))))
   (aD (aF 3 (aS aM (aS oMulI (aA 3) (eC (.int 1073741789))) (aS oMod (aS oMulI (aS oFdiv (aS oIx (aA 0) (eC (.int 1))) (eC (.int 8))) (eC (.int 69621))) (eC (.int 1073741789)))))
   (aF 4 (aS oMulI (aA 4) (eC (.int 1073741789)))))) (k:=1000) (σ:=[some (.ref n),some (.int m),none,some (.int 0),some (.int 1)]) (au:=au)
   (λj σ s=>∃b a d rr:Int,σ=[some (.ref n),some (.int m),none,some (.int d),some (.int rr)]/\s=au.set n (bagO b a)/\0<=b/\0<=a/\0<=d/\j<=1000/\2^(1000-j)<=rr)
   (λσ s=>∃b a d:Int,(∃rr,σ=[some (.ref n),some (.int m),none,some (.int d),some (.int rr)])/\s=au.set n (bagO b a)/\0<=b/\0<=a/\0<=d)
   ⟨c,x,0,1,rfl,(zbsb i).symm,C,q,by lia,by lia,by decide⟩ (by decide) (by
    rintro j σ s ⟨b,a,d,rr,rfl,rfl,p,v,w,a4,P⟩;have u:(au.set n (bagO b a))[n]?=some (bagO b a):=zcy g;by_cases hlt:rr<m
    ·have hj:1<=j:=by
      rcases xjb j with z|z
      ·subst z;have J:(2:Int)^1000<=rr:=P;lia
      ·exact z
     have X:ixN 2 1=some 1:=rfl;have Y:CMul a 48271:=.inr ⟨by decide,by decide⟩;have S:CMul d 1073741789:=.inr ⟨by decide,by decide⟩;have I:CMul rr 1073741789:=.inr ⟨by decide,by decide⟩;have G:∀y:Int,(au.set n (bagO b y))[n]?=some (bagO b y):=λy=>zcy g
     have E:∀y:Int,CMul y 69621:=λy=>.inr ⟨by decide,by decide⟩
     have H:∀y:Int,CDivP y 8:=λy=>⟨by decide,by decide +kernel⟩
     refine⟨true,au.set n (bagO b a),by simp[hlt],.inr ⟨rfl,j-1,_,au.set n (bagO b ((a*48271+7919)%2147483647)),?_,⟨b,(a*48271+7919)%2147483647,d*1073741789+(a*48271+7919)%2147483647/8*69621%1073741789,rr*1073741789,rfl,rfl,p,?_,?_,by lia,?_⟩,by lia⟩⟩
     ·simp[A u,u,X,Y,S,I,E,H,A (G _)]
     ·exact xkj _ (by lia)
     ·have p:0<=d*1073741789:=xom w (by lia);have v:=xkj ((a*48271+7919)%2147483647/8*69621) (show(1073741789:Int)≠0 by lia);lia
     ·have e:(2:Int)^(1000-(j-1))=2^(1000-j)*2:=by
       rw[←Int.pow_succ];congr 1;lia
      rw[e];have hp:(0:Int)<=2^(1000-j):=Int.pow_nonneg (by decide);lia
    ·exact⟨false,_,by simp[hlt],.inl ⟨rfl,b,a,d,⟨rr,rfl⟩,rfl,p,v,w⟩⟩)
  obtain⟨σ',f,e,b,a,d,T,o,Q,k2,k3⟩:=W;obtain⟨rr,rfl⟩:=T;subst o;refine⟨d%m,au.set n (bagO b a),zgl rfl ?_,xkj _ (by lia),Int.emod_lt_of_pos _ (by lia),Drew.set l Q k2,xcx⟩;simp[t i,h0,e,show(0:Int)<m by lia]
def zor{a:List Int}(h:j<a.length):L2.atI (a.map D.int) (j:Int)=some (.int a[j]):=zyl (by rw[xcg,xbf h];rfl)
def zbwb{a:List Int}{i:Nat}(A:a.length<=63)(z:i<=100000):∃c x:Int,0<=c/\0<=x/\zhf [.scr (a.map .int),.int i] au=.ok (.ref au.length) (au++[bagO c x]):=by
 have d:∃c:Int,0<=c/\sIf (eB (aS oLtT (aA 1) (aE bLen (aB (aA 0) aC)))) (aF 2 (aE bAbs (aB (aS oIx (aA 0) (aA 1)) aC))) sNx [some (.scr (a.map .int)),some (.int i),some (.int 0),none,none] au
   = .ok (.nx [some (.scr (a.map .int)),some (.int i),some (.int c),none,none]) au:=by
  by_cases h:i<a.length
  ·have e:oIx (.scr (a.map .int)) (.int i) au=.ok (.int a[i]) au:=zjh rfl (zor h);refine⟨if a[i]<0 then -a[i] else a[i],by split<;>lia,?_⟩;simp[h,e]
  ·exact⟨0,by lia,by simp[h]⟩
 obtain⟨c,u,f⟩:=d;have m:(if(60:Int)<(a.length:Int) then(60:Int) else a.length).toNat<=a.length:=by split<;>lia
 have W:=zxa (bd:=gN 4) (body:=aF 3 (aS oMod (aS aM (aS aM (aS oMulI (aA 3) (eC (.int 48271))) (aS oMod (aS oIx (aA 0) (aA 4)) (eC (.int 2147483647)))) (aA 4)) (eC (.int 2147483629))))
  (xs:=rng 0 (if(60:Int)<(a.length:Int) then(60:Int) else a.length).toNat) (σ:=[some (.scr (a.map .int)),some (.int i),some (.int c),some (.int (7919*i+17)),none]) (au:=au)
  (λj σ s=>s=au/\∃(b:Int) (v:Option D),σ=[some (.scr (a.map .int)),some (.int i),some (.int c),some (.int b),v]/\0<=b) ⟨rfl,_,none,rfl,by lia⟩ (by
   rintro j x σ s q ⟨rfl,b,v,rfl,l⟩;obtain⟨w,rfl⟩:=zbfs q;have g:j<a.length:=by lia
   have e:oIx (.scr (a.map .int)) (.int (0+j)) s=.ok (.int a[j]) s:=zjh rfl (by rw[xhe];exact zor g);rw[xhe] at e;have r:CMul b 48271:=.inr ⟨by decide,by decide⟩;refine⟨_,[some (.scr (a.map .int)),some (.int i),some (.int c),some (.int ((b*48271+a[j]%2147483647+j)%2147483629)),some (.int (0+j))],s,rfl,?_,rfl,_,_,rfl,xkj _ (by lia)⟩
   simp[e,r])
 obtain⟨y,t,e,rfl,b,v,rfl,l⟩:=W;have p:CMul 7919 (i:Int):=.inl ⟨by decide,by decide⟩;have o:CPow 10 18:=⟨by decide,by decide,by decide⟩
 have n:RngOk (if(60:Int)<(a.length:Int) then(60:Int) else a.length):=by
  split<;>exact rngOk (by lia) (by lia)
 by_cases hlt:c<1000000000000000000
 ·refine⟨0,b,by lia,l,zgl rfl ?_⟩;have k:=small 2 (by lia);simp at f;simp[f,p,n,e,o,hlt,k]
 ·refine⟨c,b,u,l,zgl rfl ?_⟩;have k:=small 2 (by lia);simp at f;simp[f,p,n,e,o,hlt,k]
def seqN(h:s σ au=.ok (.nx σ1) st1)(k:t σ1 st1=r):aD s t σ au=r:=by
 rw[zbsg,h];exact k
noncomputable def aP(a:List (List Int)) (k:List Int):List (List Int):=if k∈a then a.filter (λx=>decide (x≠k)) else a++[k]
def aN(l:List (List Int)):List (List Int):=l.foldl aP []
def zbz:x∈aP ks k↔(x∈ks/\x≠k)\/(x=k/\k∉ks):=by
 unfold aP;split
 ·rename_i h;simp[xcp,h]
 ·rename_i h;simp only[xcc,xcu];constructor
  ·rintro(z|rfl)
   ·exact .inl ⟨z,λe=>h (e ▸ z)⟩
   ·exact .inr ⟨rfl,h⟩
  ·rintro(⟨z,_⟩|⟨z,_⟩)
   ·exact .inl z
   ·exact .inr z
def zcw{d:List (List Int)}(h:d.Nodup):(aP d k).Nodup:=by
 unfold aP;split
 ·exact h.filter _
 ·rename_i f;rw[xjk];exact⟨h,by simp,λa g b c=>by simp at c;subst c;exact λe=>f (e ▸ g)⟩
def zjm(a:List (List Int))(k:List Int):(aP a k).length<=a.length+1:=by
 unfold aP;split
 ·exact xgm (xfy _ _)
 ·simp
def zkp:∀(l b:List (List Int)),b.Nodup->(l.foldl aP b).Nodup/\(l.foldl aP b).length<=b.length+l.length/\∀x,x∈l.foldl aP b↔(l.count x+if x∈b then 1 else 0)%2=1
 |[],b,h=>⟨h,by simp,λx=>by by_cases e:x∈b<;>simp[e]⟩
 |a::l,b,h=>by
  obtain⟨d,g,f⟩:=zkp l (aP b a) (zcw h);refine⟨d,?_,λx=>?_⟩
  ·have:=zjm b a;rw[xgr,xbv];lia
  ·rw[xgr,f x,xid];by_cases e:x=a
   ·subst e;by_cases k:x∈b
    ·have q:x∉aP b x:=by rw[zbz];simp[k]
     simp only[q,k,xgb,xeu,xhl]<;>lia
    ·have q:x∈aP b x:=by rw[zbz];simp[k]
     simp only[q,k,xgb,xeu,xhl]<;>lia
   ·have c:(a==x)=false:=by simpa using λz:a=x=>e z.symm
    by_cases k:x∈b
    ·have q:x∈aP b a:=by rw[zbz];simp[k,e]
     simp[q,k,c]
    ·have q:x∉aP b a:=by rw[zbz];simp[k,e]
     simp[q,k,c]
def zda(l:List (List Int)):(aN l).Nodup:=(zkp l [] xfs).1
def zcf(l:List (List Int)):(aN l).length<=l.length:=by have:=(zkp l [] xfs).2.1;simpa [aN] using this
def zhm:x∈aN l↔l.count x%2=1:=by have:=(zkp l [] xfs).2.2 x;simpa [aN] using this
def zhj{a b:List (List Int)}(d:a.Nodup)(c:b.Nodup)(h:∀x,x∈a↔x∈b):a.Perm b:=(xnc d c).mpr h
def zkj{a:List (List Int)}(h:a.Perm b):sortR a=sortR b:=zll ((zm a).trans h) (zlk a)
def aO(l:List (List Int)):List (List Int):=sortR (aN l)
def zvx{l m:List (List Int)}(a:m.Nodup)(h:∀x,x∈m↔l.count x%2=1):sortR m=aO l:=zkj (zhj a (zda l) λx=>by rw[h,zhm])
def zbgw:x∈aO l↔l.count x%2=1:=by unfold aO;rw[(zm _).mem_iff,zhm]
def zcz(h:x∈aO l):x∈l:=by
 rw[zbgw] at h;rcases xjb (l.count x) with z|z
 ·rw[z] at h;cases h
 ·exact xht.mp z
def zkq(l:List (List Int)):(aO l).length<=l.length:=by unfold aO;rw[zee];exact zcf l
def zck(l:List (List Int)):(aO l).Nodup:=(zm _).nodup_iff.mpr (zda l)
noncomputable abbrev aQ(a:List (List Int)):List (List Int×D):=a.map λk=>(k,.bl true)
def zlg:valD (aQ ks) k=if k∈ks then some (.bl true) else none:=by
 induction ks with
 |nil=>rfl
 |cons a ks ih=>
  unfold valD aQ at ih ⊢;rw[xbr,xfc];by_cases e:a=k
  ·simp[e]
  ·simp only[xcm e];rw[ih];simp[xbm,show ¬ k=a from λz=>e z.symm]
def zxh:dropD (aQ ks) k=aQ (ks.filter λx=>decide (x≠k)):=by
 unfold dropD aQ;rw[xjc]
 rfl
def zrk(h:k∉ks):putD (aQ ks) k (.bl true)=aQ (ks++[k]):=by
 unfold putD;rw[if_neg]
 ·simp[aQ]
 ·simp only[List.any_map,xlt,not_exists,not_and];intro x a e;have:x=k:=by simpa using e
  exact h (this ▸ a)
def zlo(h:au[n]?=some (.dT kvs)):pairsOf au (.ref n)=some kvs:=by
 unfold pairsOf;dsimp only;rw[h]
def zbgo(h:au[n]?=some (.fT kvs)):pairsOf au (.ref n)=some kvs:=by
 unfold pairsOf;dsimp only;rw[h]
def zbdf(h:pairsOf au (.ref n)=some kvs):oDIn false (aL k) (.ref n) au=.ok (.bl (valD kvs k).isSome) au:=by
 unfold oDIn;rw[zfo,h]
 rfl
def zbgx(h:pairsOf au (.ref n)=some kvs)(a:valD kvs k=some v):oDGet (.ref n) (aL k) au=.ok v au:=by
 unfold oDGet;rw[zfo,h];dsimp only;rw[a]
def zoe(h:au[n]?=some (.dT (aQ ks)))(g:ks.length<=1000000):zfw [.ref n,aL k] au=.ok .non (au.set n (.dT (aQ (aP ks k)))):=by
 have a:=zbdf (k:=k) (zlo h);rw[zlg] at a;by_cases hk:k∈ks
 ·refine zbul (σ:=[some (.ref n),some (aL k)]) rfl ?_;rw[if_pos hk] at a;have e:valD (aQ ks) k=some (.bl true):=by rw[zlg,if_pos hk]
  have b:aP ks k=ks.filter λx=>decide (x≠k):=by unfold aP;rw[if_pos hk]
  rw[b,←zxh];have f:=zlo h;have d:=zfo k;simp only[aL,aQ] at *
  simp[a,f,d,h,e]
 ·refine zbul (σ:=[some (.ref n),some (aL k)]) rfl ?_;rw[if_neg hk] at a;have b:aP ks k=ks++[k]:=by unfold aP;rw[if_neg hk]
  rw[b,←zrk hk];have d:=zfo k;have c:(aQ ks).length<sizeLine:=by rw[xbb];exact smallT _ g
  simp only[aL,aQ] at *
  simp[a,d,h,c];rw[xbb] at c;exact c
def zba{l:List (List Int)}{i:Nat}(h:(aJ l)[i]?=some x):∃k,l[i]?=some k/\x=aL k:=by
 unfold aJ at h;rw[xcg] at h;cases e:l[i]? with
 |none=>rw[e] at h;cases h
 |some k=>rw[e] at h;exact⟨k,rfl,(xda h).symm⟩
def zc(l:List (List Int)):(aJ l).length=l.length:=xbb _
def ze{α:Type}{l:List α}{i:Nat}{k:α}(h:l[i]?=some k):l.take (i+1)=l.take i++[k]:=by
 obtain⟨a,e⟩:=xbd.mp h;rw[xin a,e]
def zbjs(a:List D)(k:Nat):cutD a none (some (k:Int))=a.take k:=by
 unfold cutD;rw[HT.zva,HT.zbcs,xok,xnw];rcases Nat.le_total k a.length with h|h
 ·rw[xeg h]
 ·rw[xju h,xcb,xej h]
def zxp(a:List D)(k:Nat):cutD a (some (k:Int)) none=a.drop k:=by
 unfold cutD;rw[HT.zva,HT.zbcs];rcases Nat.le_total k a.length with h|h
 ·rw[xeg h,xej (by rw[xfq];exact xbl _)]
 ·rw[xju h,xnx,List.drop_of_length_le h];simp
def zgy(l a:List (List Int))(h:a.Nodup):(l.foldl aP a).length<=a.length+l.length:=(zkp l a h).2.1
def zblz{a b:List Int}:(a.map D.int)++(b.map D.int)=(a++b).map D.int:=xdi.symm
def zhh(h:au[n]?=some (.dT (aQ ks)))(a:ks.length<=1000000):bSorted [.ref n] au=.ok (.lst (aJ (sortR ks))) au:=by
 rw[zqm h (by rw[xbb];exact a),xcv]
 congr 2
 exact congrArg (λl=>aJ (sortR l)) (xoi ks)
end Dd
namespace K07
open L2
noncomputable def oddW(e k:Int):Bool:=decide (V.int (Builtin.bitAnd e k)=V.int k)
def zoo(a b:Nat):Builtin.bitAnd (a:Int) (b:Int)=((a&&&b:Nat):Int):=rfl
def zbgv(a b:Nat):oddW a b=decide (a&&&b=b):=by
 unfold oddW;rw[zoo];by_cases h:a&&&b=b
 ·rw[h];simp
 ·rw[xcm h];refine xcm λe=>h ?_
  injection e with e
  exact_mod_cast e
def zbay(a b:Nat):(a&&&b=b)↔((a/2&&&b/2=b/2)/\¬ (b%2=1/\a%2=0)):=by
 have f:(a&&&b)/2=a/2&&&b/2:=Nat.and_div_two;have e:(a&&&b)%2=(a%2)*(b%2):=by
  have q:=@Nat.and_mod_two_eq_one a b;rcases xep a with h|h<;>rcases xep b with h'|h'<;>rw[h,h'] at q ⊢<;>lia
 constructor
 ·intro h;refine⟨by rw[←f,h],?_⟩;rintro⟨c,d⟩;rw[h,c,d] at e;lia
 ·rintro⟨c,d⟩;rw[←f] at c;have g:(a&&&b)%2=b%2:=by
   rw[e];rcases xep a with h|h<;>rcases xep b with h'|h'<;>simp[h,h']
   exact d ⟨h',h⟩
  lia
end K07
namespace K23
open L2 K07
noncomputable def rowC(a b c:Int):List Int:=if 0<c then[a+b-c,c] else[a+b]
def rowsL(a b:Int) (n:Nat):List (List Int):=((List.range n).filter λ(c:Nat)=>oddW (b-c-1) (a-2*c)).map λ(c:Nat)=>rowC a b c
def zrg{a b:Int}{n:Nat}(h:oddW (b-n-1) (a-2*n)=true):rowsL a b (n+1)=rowsL a b n++[rowC a b n]:=by
 unfold rowsL;rw[xgp,xdz,xdi];simp[xlq,h]
def zvc{a b:Int}{n:Nat}(h:¬ oddW (b-n-1) (a-2*n)=true):rowsL a b (n+1)=rowsL a b n:=by
 unfold rowsL;rw[xgp,xdz];simp[xlq,h]
def zef(a b:Int)(n:Nat):(rowsL a b n).length<=n:=by
 unfold rowsL;rw[xbb];exact xbc (xfy _ _) (by simp)
end K23
namespace Dd
open L2 K07 K23
def ztr:zhd [.int e,.int k] au=.ok (.bl (oddW e k)) au:=by
 refine zgl rfl ?_;have:decide (Builtin.bitAnd e k=k)=oddW e k:=by
  unfold oddW;rw[xgq];simp
 simp[this]
def zdu:zo [.int i] au=.ok (.bl true) au:=rfl
def zbih:zcv [.int a,.int b] au=.ok (.bl (decide (a<2*b))) au:=by
 refine zgl rfl ?_;have m:CMul 2 b:=.inl ⟨by decide,by decide⟩;simp[m]
def znj(r:List Int):(r.map D.int).length=r.length:=xbb _
def zhx{r:List Int}{i:Nat}{x:Int}(h:r[i]?=some x):oIx (aL r) (.int i) au=.ok (.int x) au:=zjh rfl (zyl (by rw[xcg,h];rfl))
def zyk:bLen [aL r] au=.ok (.int r.length) au:=by show Res.ok (D.int ((r.map D.int).length:Nat)) au=_;rw[xbb]
def zjw(I:1<=a)(p:a<=60)(H:-1000<=b)(z:b<=1000):∃g,zcb [.int a,.int b] au=.ok (.lst (aJ (sortR (rowsL a b (a/2+1).toNat)))) (au++g):=by
 have W:=zxa (bd:=gN 3) (body:=zco) (xs:=rng 0 (a/2+1).toNat) (σ:=[some (.int a),some (.int b),some (.ref au.length),none]) (au:=au++[.lst []])
  (λi σ s=>(∃v,σ=[some (.int a),some (.int b),some (.ref au.length),v])/\s=au++[.lst (aJ (rowsL a b i))]) ⟨⟨none,rfl⟩,rfl⟩ (by
   rintro i y σ s r ⟨⟨v,rfl⟩,rfl⟩;obtain⟨P,rfl⟩:=zbfs r;have A:i<=60:=by lia
   have Q:=zef a b i;have m:CMul 2 (0+(i:Int)):=.inl ⟨by decide,by decide⟩;have h:=ztr (au:=au++[.lst (aJ (rowsL a b i))]) (e:=b-(0+(i:Int))-1) (k:=a-2*(0+(i:Int)));have l:(au++[O.lst (aJ (rowsL a b i))])[au.length]?=some (.lst (aJ (rowsL a b i))):=by simp
   have o:=zib l;have f:(aJ (rowsL a b i)).length<sizeLine:=by rw[zc];exact smallT _ (by lia)
   have C:=small 1 (by lia);have u:=small 2 (by lia);refine⟨[some (.int a),some (.int b),some (.ref au.length),some (.int (0+i))],[some (.int a),some (.int b),some (.ref au.length),some (.int (0+i))],au++[.lst (aJ (rowsL a b (i+1)))],rfl,?_,⟨_,rfl⟩,rfl⟩;unfold zco;rw[xhe] at *
   by_cases c:oddW (b-i-1) (a-2*i)=true
   ·rw[zrg c];rw[c] at h;by_cases c2:0<i
    ·have j:rowC a b i=[a+b-i,(i:Int)]:=by unfold rowC;rw[if_pos (by lia)]
     have d:(rowsL a b i).length<sizeLine:=by rw[zc] at f;exact f
     simp[h,m,o,d,c2,u,j,tru,aJ]
    ·have t:i=0:=by lia
     subst t;have j:rowC a b 0=[a+b]:=by unfold rowC;rw[if_neg (by lia)]
     have d:(rowsL a b 0).length<sizeLine:=by rw[zc] at f;exact f
     simp at h m;simp[h,m,o,d,C,j,tru,aJ]
   ·have G:oddW (b-i-1) (a-2*i)=false:=by simpa using c
    rw[zvc c];rw[G] at h
    simp[h,m,tru])
 obtain⟨J,E,e,⟨v,rfl⟩,rfl⟩:=W;rw[zx] at e;refine⟨[.lst (aJ (rowsL a b (a/2+1).toNat))],zgl rfl ?_⟩;have q:CDivP a 2:=⟨by decide,by decide +kernel⟩
 have w:RngOk (a/2+1):=rngOk (by lia) (by lia);have n:(rowsL a b (a/2+1).toNat).length<=1000000:=by have:=zef a b (a/2+1).toNat;lia
 have l:(au++[O.lst (aJ (rowsL a b (a/2+1).toNat))])[au.length]?=some (.lst (aJ (rowsL a b (a/2+1).toNat))):=by simp
 have x:bSorted [.ref au.length] (au++[.lst (aJ (rowsL a b (a/2+1).toNat))])=.ok (.lst (aJ (sortR (rowsL a b (a/2+1).toNat)))) (au++[.lst (aJ (rowsL a b (a/2+1).toNat))]):=by
  unfold bSorted;simp[zib l,n]
 simp[q,w,e,x]
noncomputable def slowAt(r:List Int) (p:Nat):Prop:=∃a b:Int,r[p]?=some a/\r[p+1]?=some b/\a<2*b
instance (r:List Int) (p:Nat):Decidable (slowAt r p):=
 match h1:r[p]?,h2:r[p+1]? with
 |some a,some b=>if h:a<2*b then .isTrue ⟨a,b,h1,h2,h⟩ else .isFalse λ⟨x,y,e1,e2,e3⟩=>by rw[h1] at e1;rw[h2] at e2;cases e1;cases e2;exact h e3
 |none,_=>.isFalse λ⟨x,y,e1,_⟩=>by rw[h1] at e1;cases e1
 |some _,none=>.isFalse λ⟨x,y,_,e2,_⟩=>by rw[h2] at e2;cases e2
def zkw{r:List Int}{p:Int}:zcd [aL r,.int p] au=.ok (.bl (decide (0<=p/\slowAt r p.toNat))) au:=by
 have m:=zdu (au:=au) (i:=p);have d:=zyk (au:=au) (r:=r);by_cases h:0<=p/\p<r.length-1
 ·obtain⟨k,rfl⟩:∃k:Nat,p=k:=⟨p.toNat,by lia⟩
  have q:k<r.length:=by lia
  have u:k+1<r.length:=by lia
  have e:r[k]?=some r[k]:=xbf q;have g:r[k+1]?=some r[k+1]:=xbf u;have n:=zhx (au:=au) e;have j:=zhx (au:=au) g;rw[xjd] at j;have s:=zbih (au:=au) (a:=r[k]) (b:=r[k+1]);have o:(r[k]<2*r[k+1])↔slowAt r k:=⟨λz=>⟨_,_,e,g,z⟩,λ⟨a,b,l,c,z⟩=>by rw[e] at l;rw[g] at c;cases l;cases c;exact z⟩
  refine zgl rfl ?_;have t:(k:Int)<r.length-1:=h.2;simp only[aL] at *
  generalize D.tup (r.map D.int)=R at *
  simp[m,d,n,t,tru];simp at j;simp[j,s,o]
 ·have v:¬ (0<=p/\slowAt r p.toNat):=λf=>by
   obtain⟨z,a,b,l,c,_⟩:=f;have:=(xbd.mp c).1;exact h ⟨z,by lia⟩
  refine zgl rfl ?_;rw[xcm v];simp only[aL] at *
  generalize D.tup (r.map D.int)=R at *
  by_cases z:0<=p
  ·have c:¬ p<(r.length:Int)-1:=λy=>h ⟨z,y⟩
   simp[m,d,z,c,tru]
  ·simp[m,d,z,tru]
def exRow(r:List Int) (p:Nat):List (List Int):=(sortR (rowsL (r.getD p 0) (r.getD (p+1) 0) (r.getD p 0/2+1).toNat)).map λtwo=>r.take p++two++r.drop (p+2)
def zjn(r:List Int)(p:Nat):(exRow r p).length<=(r.getD p 0/2+1).toNat:=by
 unfold exRow;rw[xbb,zee];exact zef _ _ _
def zkl:∀r∈rowsL a b n,r.length<=2:=λr d=>by
 unfold rowsL at d;obtain⟨c,_,rfl⟩:=xbt.mp d;show(rowC a b c).length<=2;unfold rowC;split<;>simp
def zrs{a b:List Int}(h:a.length+b.length<=1000000):aM (aL a) (aL b) au=.ok (aL (a++b)) au:=by
 rw[zbns,if_pos (by rw[xbb,xbb];exact small _ h),zblz]
def zxq(r:List Int)(k:Nat):cutD (r.map .int) none (some (k:Int))=(r.take k).map .int:=by rw[zbjs,List.map_take]
def zms(r:List Int)(k:Nat):cutD (r.map .int) (some (k:Int)) none=(r.drop k).map .int:=by rw[zxp,List.map_drop]
def zfx{r:List Int}{p:Nat}(I:p+1<r.length)(T:r.length<=100)(u:1<=r.getD p 0)(j:r.getD p 0<=60)(t:-1000<=r.getD (p+1) 0)(m:r.getD (p+1) 0<=1000):
  ∃g,zbk [aL r,.int p] au=.ok (.lst (aJ (exRow r p))) (au++g):=by
 have z:r[p]?=some (r.getD p 0):=by rw[xbh,xbf (by lia)];rfl
 have q:r[p+1]?=some (r.getD (p+1) 0):=by rw[xbh,xbf (by lia)];rfl
 generalize hA:r.getD p 0=a at *
 generalize hB:r.getD (p+1) 0=b at *
 obtain⟨g,e⟩:=zjw (au:=au) u j t m;have J:(sortR (rowsL a b (a/2+1).toNat)).length<=100:=by
  rw[zee];have:=zef a b (a/2+1).toNat;lia
 have W:=zok (bd:=gN 0) (c:=aI) (f:=aS aM (aS aM (aA 2) (aA 0)) (aA 1)) (xs:=aJ (sortR (rowsL a b (a/2+1).toNat))) (σ:=[none,some (aL (r.drop (p+2))),some (aL (r.take p))]) (au:=au++g)
  (λi acc σ s=>s=au++g/\(∃v,σ=[v,some (aL (r.drop (p+2))),some (aL (r.take p))])/\acc=aJ (((sortR (rowsL a b (a/2+1).toNat)).take i).map λtwo=>r.take p++two++r.drop (p+2))) ⟨rfl,⟨none,rfl⟩,rfl⟩ (by
   rintro i y acc σ s w ⟨rfl,⟨v,rfl⟩,rfl⟩;obtain⟨two,n,rfl⟩:=zba w;have Q:two.length<=2:=zkl two ((zm _).mem_iff.mp (xbn n));have S:(r.take p).length<=100:=by rw[xcl];lia
   have G:(r.drop (p+2)).length<=100:=by rw[xfq];lia
   have A:=zrs (au:=au++g) (a:=r.take p) (b:=two) (by lia);have h:=zrs (au:=au++g) (a:=r.take p++two) (b:=r.drop (p+2)) (by rw[xbk];lia);refine⟨[some (aL two),some (aL (r.drop (p+2))),some (aL (r.take p))],true,au++g,rfl,rfl,.inr ⟨rfl,aL (r.take p++two++r.drop (p+2)),au++g,?_,rfl,⟨_,rfl⟩,?_⟩⟩
   ·show(aM (aL (r.take p)) (aL two) (au++g)).bind _=_;rw[A];exact h
   ·rw[ze n,xdi]
    simp[aJ])
 obtain⟨H,P,C,h,rfl,_,rfl⟩:=W;rw[zc,xcb] at h;refine⟨g,zgl rfl ?_⟩;have d:(aJ (sortR (rowsL a b (a/2+1).toNat))).length<=sizeLine:=by rw[zc];exact small _ (by lia)
 have o:=zhx (au:=au) z;have k:=zhx (au:=au) q;rw[xjd] at k;have E:=zxq r p;have l:=zms r (p+2);rw[xjd] at l;refine seqN (σ1:=[some (aL r),some (.int p),some (aL (r.take p)),none]) (st1:=au) (by simp[E]) ?_;refine seqN (σ1:=[some (aL r),some (.int p),some (aL (r.take p)),some (aL (r.drop (p+2)))]) (st1:=au) ?_ ?_
 ·simp at l;simp[l]
 ·have x:aH (aE zcb (aB (aS oIx (aA 0) (aA 1)) (aB (aS oIx (aA 0) (aS aM (aA 1) (eC (.int 1)))) aC))) [some (aL r),some (.int p),some (aL (r.take p)),some (aL (r.drop (p+2)))] au=.ok (aJ (sortR (rowsL a b (a/2+1).toNat))) (au++g):=by
   simp only[aL] at *
   generalize D.tup (r.map D.int)=R at *
   simp at k;simp[o,k,e]
  rw[zuz,zla,x,zbf,if_pos d];show((compF _ _ _ _ [none,some (aL (r.drop (p+2))),some (aL (r.take p))] _).bind _).bind _=_;rw[h];unfold exRow;rw[hA,hB]
  rfl
def zpg{l:List (List Int)}(d:l.Nodup)(p:l.length<=1000000):zfv [aK l] au=.ok (.ref au.length) (au++[.dT (aQ l)]):=by
 have W:=zxa (bd:=gN 2) (body:=zeo) (xs:=aJ l) (σ:=[some (aK l),some (.ref au.length),none]) (au:=au++[.dT []])
  (λi σ s=>(∃v,σ=[some (aK l),some (.ref au.length),v])/\s=au++[.dT (aQ (l.take i))]) ⟨⟨none,rfl⟩,rfl⟩ (by
   rintro i y σ s g ⟨⟨v,rfl⟩,rfl⟩;obtain⟨k,a,rfl⟩:=zba g;have m:(au++[O.dT (aQ (l.take i))])[au.length]?=some (.dT (aQ (l.take i))):=by simp
   have o:=(xbd.mp a).1;have h:k∉l.take i:=λz=>by
    have e:(l.take (i+1)).Nodup:=(xlg (i+1) l).nodup d;rw[ze a,xjk] at e;exact e.2.2 k z k (by simp) rfl
   have b:(aQ (l.take i)).length<sizeLine:=by
    rw[xbb,xcl];exact smallT _ (by lia)
   have f:=zfo k;have c:=zrk h;refine⟨[some (aK l),some (.ref au.length),some (aL k)],[some (aK l),some (.ref au.length),some (aL k)],au++[.dT (aQ (l.take (i+1)))],rfl,?_,⟨_,rfl⟩,rfl⟩;rw[ze a,←c];unfold zeo;simp only[aL] at *
   rw[zbcu];simp only[eC_v,zbf,zbpk,xgk,xlc,f,m,b,xgb]
   simp)
 obtain⟨n,j,e,⟨v,rfl⟩,rfl⟩:=W;rw[zc,xcb] at e;refine zgl rfl ?_;refine seqN (σ1:=[some (aK l),some (.ref au.length),none]) (st1:=au++[.dT []]) (by simp) ?_;refine seqN (σ1:=[some (aK l),some (.ref au.length),v]) (st1:=au++[.dT (aQ l)]) (by rw[zblx];exact e) rfl
def zbce{r:List Int}(d:r.length<=1000000)(τ:DS):aG (aH (aA 1)) 1 [] (gN 0) aI (aE zo (aB (aA 0) aC)) [some τ0,some (aL r)] au=.ok (.lst (r.map λ_=>D.bl true)) au:=by
 have W:=zok (bd:=gN 0) (c:=aI) (f:=aE zo (aB (aA 0) aC)) (xs:=r.map D.int) (σ:=[none]) (au:=au)
  (λi acc σ s=>s=au/\(∃v,σ=[v])/\acc=(r.take i).map λ_=>D.bl true) ⟨rfl,⟨none,rfl⟩,rfl⟩ (by
   rintro i y acc σ s a ⟨rfl,⟨v,rfl⟩,rfl⟩;rw[xcg] at a;cases hx:r[i]? with
   |none=>rw[hx] at a;cases a
   |some x=>
    rw[hx] at a;cases a;refine⟨[some (.int x)],true,s,rfl,rfl,.inr ⟨rfl,.bl true,s,rfl,rfl,⟨_,rfl⟩,?_⟩⟩;rw[ze hx]
    simp)
 obtain⟨h,g,b,e,rfl,_,rfl⟩:=W;rw[znj,xcb] at e;rw[zla];show(if(r.map D.int).length<=sizeLine then _ else _)=_;rw[if_pos (by rw[znj];exact small _ d)];show((compF _ _ _ _ [none] _).bind _)=_;rw[e]
 rfl
def zqp(r:List Int):asBools (r.map λ_=>D.bl true)=some (r.map λ_=>true):=by
 induction r with
 |nil=>rfl
 |cons a r ih=>rw[xbr,asBools,ih];rfl
def zpc(h:au[n]?=some (.dT (aQ ks)))(b:r∈ks)(i:r.length<=1000000):zdz [.ref n,aL r] au=.ok (.bl true) au:=by
 refine zgl rfl ?_;have f:=zbce (au:=au) (τ0:=.ref n) i [];have a:=zbdf (k:=r) (zlo h);rw[zlg,if_pos b] at a;have c:bAny true [.lst (r.map λ_=>D.bl true)] au=.ok (.bl true) au:=by
  unfold bAny;simp[zqp]
 have d:aE bIsinst (aB (aA 1) (aB (eC (.ty "tuple")) aC)) [some (.ref n),some (aL r)] au=.ok (.bl true) au:=rfl
 have g:aE (bAny true) (aB (aG (aH (aA 1)) 1 [] (gN 0) aI (aE zo (aB (aA 0) aC))) aC) [some (.ref n),some (aL r)] au=.ok (.bl true) au:=by
  rw[zfz,zjv,f];exact c
 have e:aS (oDIn false) (aA 1) (aA 0) [some (.ref n),some (aL r)] au=.ok (.bl true) au:=a;show sRet _ [some (.ref n),some (aL r)] au=_;rw[zuz,zbil,d,zbf];show(eAnd _ _ [some (.ref n),some (aL r)] au).bind _=_;rw[zbil,g,zbf];show(aS (oDIn false) (aA 1) (aA 0) [some (.ref n),some (aL r)] au).bind _=_;rw[e]
 rfl
def zmn(h:au[n]?=some (.dT (aQ ks)))(Q:ks.Nodup)(X:ks.length<=500000)(I:r∈ks)(T:r.length<=100)(q:slowAt r p)
  (C:1<=r.getD p 0)(d:r.getD p 0<=60)(x:-1000<=r.getD (p+1) 0)(m:r.getD (p+1) 0<=1000):
  ∃g,zdn [.ref n,aL r,.int p] au=.ok .non ((au.set n (.dT (aQ ((r::exRow r p).foldl aP ks))))++g):=by
 have G:p+1<r.length:=by
  obtain⟨a,b,_,z,_⟩:=q;exact(xbd.mp z).1
 have f:=zf h;have P:=zpc h I (by lia);have t:=zkw (au:=au) (r:=r) (p:=p);rw[xcj (p:=0<=(p:Int)/\slowAt r (p:Int).toNat) ⟨by lia,by rw[xfj];exact q⟩] at t;have w:=zoe (k:=r) h (by lia);obtain⟨g,H⟩:=zfx (au:=au.set n (.dT (aQ (aP ks r)))) G T C d x m;have U:=zjn r p;have l:=zcw (k:=r) Q;have J:=zjm ks r;have W:=zxa (bd:=gN 3) (body:=zdi) (xs:=aJ (exRow r p)) (σ:=[some (.ref n),some (aL r),some (.int p),none]) (au:=au.set n (.dT (aQ (aP ks r)))++g)
  (λi σ s=>(∃v,σ=[some (.ref n),some (aL r),some (.int p),v])/\s=au.set n (.dT (aQ (((exRow r p).take i).foldl aP (aP ks r))))++g) ⟨⟨none,rfl⟩,rfl⟩ (by
   rintro i y σ s E ⟨⟨v,rfl⟩,rfl⟩;obtain⟨k,j,rfl⟩:=zba E;have o:(au.set n (.dT (aQ (((exRow r p).take i).foldl aP (aP ks r))))++g)[n]?=some (.dT (aQ (((exRow r p).take i).foldl aP (aP ks r)))):=by
    rw[xbj (by rw[xcx];exact f),zcy f]
   have c:(((exRow r p).take i).foldl aP (aP ks r)).length<=1000000:=by
    have:=zgy ((exRow r p).take i) (aP ks r) l;rw[xcl] at this;lia
   have u:=zoe (k:=k) o c;have A:(au.set n (.dT (aQ (((exRow r p).take i).foldl aP (aP ks r))))++g).set n (.dT (aQ (aP (((exRow r p).take i).foldl aP (aP ks r)) k)))=au.set n (.dT (aQ (((exRow r p).take (i+1)).foldl aP (aP ks r))))++g:=by
    rw[ze j,xez,List.set_append_left _ _ (by rw[xcx];exact f),zbfn]
    rfl
   rw[A] at u;refine⟨[some (.ref n),some (aL r),some (.int p),some (aL k)],[some (.ref n),some (aL r),some (.int p),some (aL k)],_,rfl,?_,⟨_,rfl⟩,rfl⟩;unfold zdi;rw[zbct,zfz];show((zfw [.ref n,aL k] _).bind _)=_;rw[u]
   rfl)
 obtain⟨Y,S,e,⟨v,rfl⟩,rfl⟩:=W;rw[zc,xcb] at e;refine⟨g,zbul (σ:=[some (.ref n),some (aL r),some (.int p),v]) rfl ?_⟩;refine seqN (σ1:=[some (.ref n),some (aL r),some (.int p),none]) (st1:=au) ?_ ?_
 ·rw[zbsi,zbra,zxg,zfz];show((((zdz [.ref n,aL r] au).bind _).bind _).bind _)=_;rw[P]
  rfl
 refine seqN (σ1:=[some (.ref n),some (aL r),some (.int p),none]) (st1:=au) ?_ ?_
 ·rw[zbsi,zbra,zxg,zfz];show((((zcd [aL r,.int p] au).bind _).bind _).bind _)=_;rw[t]
  rfl
 refine seqN (σ1:=[some (.ref n),some (aL r),some (.int p),none]) (st1:=au.set n (.dT (aQ (aP ks r)))) ?_ ?_
 ·rw[zbct,zfz];show((zfw [.ref n,aL r] au).bind _)=_;rw[w]
  rfl
 ·rw[zblx,zbpe,zfz];show((((zbk [aL r,.int p] _).bind _)).bind _)=_;rw[H];exact e
structure CntG (f:Nat->D) (kvs:List (List Int×D)) (l:List (List Int)):Prop where
 nd:(kvs.map (·.1)).Nodup
 mem:∀k,k∈kvs.map (·.1)↔k∈l
 val:∀p∈kvs,p.2=f (l.count p.1)
 len:kvs.length<=l.length
def CntG.nil(f:Nat->D):CntG f [] []:=⟨xfs,λk=>by simp,λp h=>(by cases h),by simp⟩
def CntG.at(h:CntG f b l)(k:List Int):valD b k=if k∈l then some (f (l.count k)) else none:=by
 have d:∀b:List (List Int×D),(∀p∈b,p.2=f (l.count p.1))->valD b k=if k∈b.map (·.1) then some (f (l.count k)) else none:=by
  intro b
  induction b with
  |nil=>intro _;rfl
  |cons a b c=>
   intro g;have c:=c λp i=>g p (xbi _ i)
   unfold valD at c ⊢;rw[xfc];by_cases e:a.1=k
   ·have:=g a xby;simp only[e,xji,Option.map_some,xbr,xbm,true_or,xgb];rw[this,e]
   ·simp only[xcm e];rw[c];simp only[xbr,xbm,show ¬ k=a.1 from λz=>e z.symm,false_or]
 rw[d b h.val];simp only[h.mem]
def CntG.put(h:CntG f kvs l)(k:List Int):CntG f (putD kvs k (f (l.count k+1))) (l++[k]):=by
 have g:(kvs.any λd=>decide (d.1=k))=decide (k∈l):=by
  rw[xgq,xih,←h.mem,xlt,xbt];constructor
  ·rintro⟨x,j,e⟩;exact⟨x,j,by simpa using e⟩
  ·rintro⟨p,hp,e⟩;exact⟨p,hp,by simpa using e⟩
 unfold putD;rw[g];by_cases hk:k∈l
 ·rw[if_pos (by simpa using hk)];have c:(kvs.map λd=>if d.1=k then(d.1,f (l.count k+1)) else d).map (·.1)=kvs.map (·.1):=by
   rw[xcv]
   congr 1
   funext p
   dsimp only[Function.comp];split<;>rfl
  refine⟨by rw[c];exact h.nd,λx=>?_,λp hp=>?_,?_⟩
  ·rw[c,h.mem,xcc,xcu];exact⟨.inl,λz=>z.elim id λe=>e ▸ hk⟩
  ·obtain⟨q,o,rfl⟩:=xbt.mp hp;have:=h.val q o;by_cases e:q.1=k
   ·rw[if_pos e];dsimp only;rw[e,xer];simp
   ·rw[if_neg e,this,xer];have:List.count q.1 [k]=0:=by rw[xhu];simpa using e
    rw[this];rfl
  ·rw[xbb,xbk];have:=h.len;lia
 ·rw[if_neg (by simpa using hk)];refine⟨?_,λx=>?_,λp hp=>?_,?_⟩
  ·rw[xdi,xjk];refine⟨h.nd,by simp,λa n b i=>?_⟩;simp at i;subst i;exact λe=>hk ((h.mem _).mp (e ▸ n))
  ·rw[xdi,xcc,h.mem,xcc];simp
  ·rcases xcc.mp hp with hp|hp
   ·have r:=h.val p hp;have m:p.1≠k:=λe=>hk ((h.mem _).mp (e ▸ xbt.mpr ⟨p,hp,rfl⟩))
    rw[r,xer];have:List.count p.1 [k]=0:=by rw[xhu];simpa using m
    rw[this];rfl
   ·simp at hp;subst hp;rw[xer,xhu.mpr hk];simp
  ·rw[xbk,xbk];have:=h.len;simp;exact this
noncomputable def oddB(n:Nat):D:=.bl (decide (n%2=1))
def zbal(n:Nat):oddB (n+1)=.bl (!decide (n%2=1)):=by
 unfold oddB
 congr 1
 by_cases h:n%2=1
 ·rw[xcj h,xcm (by lia)];rfl
 ·rw[xcm h,xcj (by lia)];rfl
def zfn(J:seqV x=some (aJ l))(hl:l.length<=1000000)(d:(aN l).length<=1000000):∃g,zbb [x] au=.ok (aK (aO l)) (au++g):=by
 have W:=zxa (bd:=gN 2) (body:=zgn) (xs:=aJ l) (σ:=[some x,some (.ref au.length),none]) (au:=au++[.dT []])
  (λi σ s=>∃(v:Option D) (a:List (List Int×D)),σ=[some x,some (.ref au.length),v]/\s=au++[.dT a]/\CntG oddB a (l.take i)) ⟨none,[],rfl,rfl,CntG.nil _⟩ (by
   rintro i y σ s t ⟨v,a,rfl,rfl,b⟩;obtain⟨k,n,rfl⟩:=zba t;have C:=b.put k;have o:(au++[O.dT a])[au.length]?=some (.dT a):=by simp
   have j:(valD a k).getD (.bl false)=.bl (decide ((l.take i).count k%2=1)):=by
    rw[b.at];split
    ·rfl
    ·rename_i z;rw[xhu.mpr z];rfl
   have q:=zfo k;have Q:=zlo o;have u:a.length<sizeLine:=by
    have h1:=b.len;have h2:(l.take i).length<=l.length:=by rw[xcl];exact xhk _ _
    exact smallT _ (by lia)
   refine⟨[some x,some (.ref au.length),some (aL k)],[some x,some (.ref au.length),some (aL k)],au++[.dT (putD a k (oddB ((l.take i).count k+1)))],rfl,?_,some (aL k),_,rfl,rfl,by rw[ze n];exact C⟩;rw[zbal];unfold zgn;simp only[aL] at *
   simp only[zbcu,zbpl,zbik,zbpk,eC_v,xgk,xlc,zbf,Q,q,j,o,u,xgb]
   simp)
 obtain⟨Y,S,e,v,a,rfl,rfl,b⟩:=W;rw[zc,xcb] at b;have V:=zok (bd:=gN 0) (c:=eTru (aS oDGet (aA 1) (aA 0))) (f:=aA 0) (xs:=aJ (a.map (·.1))) (σ:=[none,some (.ref au.length)]) (au:=au++[.fT a])
  (λi acc σ s=>s=au++[.fT a]/\(∃w:Option D,σ=[w,some (.ref au.length)])/\acc=aJ (((a.map (·.1)).take i).filter λk=>decide (l.count k%2=1))) ⟨rfl,⟨none,rfl⟩,rfl⟩ (by
   rintro i y acc σ s t ⟨rfl,⟨w,rfl⟩,rfl⟩;obtain⟨k,n,rfl⟩:=zba t;have o:(au++[O.fT a])[au.length]?=some (.fT a):=by simp
   have A:k∈l:=(b.mem k).mp (xbn n);have j:valD a k=some (oddB (l.count k)):=by rw[b.at,if_pos A]
   have q:oDGet (.ref au.length) (aL k) (au++[O.fT a])=.ok (oddB (l.count k)) _:=zbgx (zbgo o) j;refine⟨[some (aL k),some (.ref au.length)],decide (l.count k%2=1),au++[.fT a],rfl,?_,?_⟩
   ·rw[zxg];show((oDGet (.ref au.length) (aL k) (au++[O.fT a])).bind _)=_;rw[q]
    rfl
   ·by_cases d:l.count k%2=1
    ·refine .inr ⟨xcj d,aL k,_,rfl,rfl,⟨_,rfl⟩,?_⟩;rw[ze n,xdz];simp[d,aJ]
    ·refine .inl ⟨xcm d,rfl,⟨_,rfl⟩,?_⟩;rw[ze n,xdz]
     simp[d,aJ])
 obtain⟨U,X,T,j,rfl,⟨w,rfl⟩,rfl⟩:=V;rw[zc,xcb] at j;refine⟨[.fT a],zgl rfl ?_⟩;have H:((a.map (·.1)).filter λk=>decide (l.count k%2=1)).Nodup:=b.nd.filter _;have E:∀k,k∈((a.map (·.1)).filter λk=>decide (l.count k%2=1))↔l.count k%2=1:=λk=>by
  rw[xcp,b.mem,xih];refine⟨λh=>h.2,λh=>⟨?_,h⟩⟩;rcases xjb (l.count k) with z|z
  ·rw[z] at h;cases h
  ·exact xht.mp z
 have u:sortR ((a.map (·.1)).filter λk=>decide (l.count k%2=1))=aO l:=zvx H E;have r:((a.map (·.1)).filter λk=>decide (l.count k%2=1)).length<=1000000:=by
  have p:=zhj H (zda l) λk=>by rw[E,zhm]
  rw[p.length_eq];exact d
 have G:=zql (au:=au++[.fT a]) r;rw[u] at G;have m:(aJ (a.map (·.1))).length<=sizeLine:=by
  rw[zc,xbb];exact small _ (by have:=b.len;lia)
 refine seqN (σ1:=[some x,some (.ref au.length),none]) (st1:=au++[.dT []]) (by simp) ?_;refine seqN (σ1:=[some x,some (.ref au.length),v]) (st1:=au++[.dT a]) (by simp[J,e]) ?_;have I:aG (iDict (aA 1)) 1 [1] (gN 0) (eTru (aS oDGet (aA 1) (aA 0))) (aA 0) [some x,some (.ref au.length),v] (au++[.dT a])=.ok (.lst (aJ ((a.map (·.1)).filter λk=>decide (l.count k%2=1)))) (au++[.fT a]):=by
  rw[zla];have P:iDict (aA 1) [some x,some (.ref au.length),v] (au++[.dT a])=.ok (aJ (a.map (·.1))) (au++[.fT a]):=by
   simp
  rw[P,zbf,if_pos m];show(compF _ _ _ _ [none,some (.ref au.length)] _).bind _=_;rw[j]
  rfl
 rw[zuz,zfz,zjv,zfz,zjv,I];simp only[zbf,zbre,G,zyi]
def zbpy(a:0<j)(b:j<=1000):CDivP i j:=⟨a,Int.lt_of_le_of_lt b (by decide +kernel)⟩
def mulR(b:-10000<=j)(a:j<=10000):CMul i j:=.inr ⟨by lia,by lia⟩
def rngN(b:-10000<=j)(a:j<=10000):RngOk j:=rngOk (by lia) (by lia)
structure RowOk (r:List Int) (most:Int) (long:Nat):Prop where
 pos:∀p∈r,1<=p
 sum:r.sum<=most
 len:r.length<=long
def zcx{r:List Int}(h:∀p∈r,1<=p):0<=r.sum:=by
 induction r with
 |nil=>simp
 |cons a r ih=>
  rw[xcz];have:=h a xby;have:=ih λp b=>h p (xbi _ b)
  lia
def Drew.over(d:Drew au s n)(j:n<au.length)(h:au.length<=k):Drew au (s.set k o) n:=by
 obtain⟨c,x,a,b,g⟩:=d.bag;exact⟨by rw[xcx];exact d.len,λi e f=>by rw[xbp (by lia)];exact d.keep i e f,c,x,by rw[xbp (by lia)];exact a,b,g⟩
def zqo(a:List D)(y:D):L2.atI (a++[y]) (-1)=some y:=by
 unfold L2.atI ixN;rw[xbk];have e:((-1:Int)+((a.length+[y].length:Nat):Int)).toNat=a.length:=by simp;lia
 rw[if_neg (by lia),if_pos (by simp;lia),e];simp
end Dd
namespace Dd
open L2
def WP{α:Type}(r:Res α) (Q:α->Store->Prop):Prop:=match r with
 |.ok a au=>Q a au
 |_=>False
def WP.get{α:Type}{r:Res α}{Q:α->Store->Prop}(h:WP r Q):∃a au,r=.ok a au/\Q a au:=by
 cases r with
 |ok a au=>exact⟨a,au,rfl,h⟩
 |exc x au=>exact h.elim
 |stuck=>exact h.elim
def WP.of{α:Type}{r:Res α}{Q:α->Store->Prop}{a:α}(e:r=.ok a au)(h:Q a au):WP r Q:=by rw[e];exact h
def WP.mono{α:Type}{r:Res α}{Q Q':α->Store->Prop}(h:WP r Q)(k:∀a b,Q a b->Q' a b):WP r Q':=by
 obtain⟨a,b,rfl,q⟩:=h.get;exact k a b q
def zh{α β:Type}{r:Res α}{f:α->Store->Res β}{Q:β->Store->Prop}:WP (r.bind f) Q=WP r (λa b=>WP (f a b) Q):=by
 cases r<;>rfl
def seqK(t:SS) (Q:Fl->Store->Prop):Fl->Store->Prop:=λfl a=>match fl with
 |.nx σ=>WP (t σ a) Q
 |fl=>Q fl a
def ztb:WP (aD s t σ au) Q=WP (s σ au) (seqK t Q):=by
 unfold aD;cases s σ au with
 |ok fl st1=>cases fl<;>rfl
 |exc x au=>rfl
 |stuck=>rfl
def zyu{α:Type} [Decidable c]{a b:Res α}{Q:α->Store->Prop}:WP (if c then a else b) Q=if c then WP a Q else WP b Q:=by
 split<;>rfl
def zow{α:Type} [Decidable c]{a:Res α}{Q:α->Store->Prop}:WP (if c then a else .stuck) Q=(c/\WP a Q):=by
 by_cases h:c
 ·rw[if_pos h];simp[h]
 ·rw[if_neg h];simp[h,WP]
def retK(Q:D->Store->Prop):Fl->Store->Prop:=λb a=>match b with
 |.ret v=>Q v a
 |.nx _=>Q .non a
 |_=>False
def zif{n c:Nat}{b:SS}{a:List D}{d:Store}{Q:D->Store->Prop}(h:a.length=c)(k:WP (b (a.map some++List.replicate (n-c) none) d) (retK Q)):WP (fnD n c b a d) Q:=by
 obtain⟨g,f,e,q⟩:=k.get;unfold fnD;rw[if_pos h,e];cases g<;>first|exact q|exact q.elim
def bK(Q:Bool->Store->Prop):D->Store->Prop:=λv a=>match v with
 |.bl b=>Q b a
 |_=>False
def gK(b:SG) (Q:Fl->Store->Prop) (σ:DS):D->Store->Prop:=λv a=>match b v σ with
 |some σ1=>Q (.nx σ1) a
 |none=>False
def W:(∀{α:Type}{a:α}{e:Store}{Q:α->Store->Prop},WP (.ok a e) Q=Q a e)
 /\ (∀{s t:SS}{σ:DS}{e:Store}{Q:Fl->Store->Prop},WP (aD s t σ e) Q=WP (s σ e) (seqK t Q))
 /\ (∀{t:SS}{σ:DS}{e:Store}{Q:Fl->Store->Prop},seqK t Q (.nx σ) e=WP (t σ e) Q)
 /\ (∀{t:SS}{v:D}{e:Store}{Q:Fl->Store->Prop},seqK t Q (.ret v) e=Q (.ret v) e)
 /\ (∀{t:SS}{σ:DS}{e:Store}{Q:Fl->Store->Prop},seqK t Q (.brk σ) e=Q (.brk σ) e)
 /\ (∀{t:SS}{σ:DS}{e:Store}{Q:Fl->Store->Prop},seqK t Q (.ct σ) e=Q (.ct σ) e)
 /\ (∀{v:D}{e:Store}{Q:D->Store->Prop},retK Q (.ret v) e=Q v e)
 /\ (∀{σ:DS}{e:Store}{Q:D->Store->Prop},retK Q (.nx σ) e=Q .non e)
 /\ (∀{b:Bool}{e:Store}{Q:Bool->Store->Prop},bK Q (.bl b) e=Q b e)
 /\ (∀{d:D}{σ:DS}{e:Store}{Q:D->Store->Prop},WP (eC d σ e) Q=Q d e)
 /\ (∀{g:D->D->Store->Res D}{f n:SE}{σ:DS}{e:Store}{Q:D->Store->Prop},WP (aS g f n σ e) Q=WP (f σ e) (λx l=>WP (n σ l) (λy p=>WP (g x y p) Q)))
 /\ (∀{g:D->Store->Res D}{f:SE}{σ:DS}{e:Store}{Q:D->Store->Prop},WP (eUn g f σ e) Q=WP (f σ e) (λx l=>WP (g x l) Q))
 /\ (∀{g:List D->Store->Res D}{f:SA}{σ:DS}{e:Store}{Q:D->Store->Prop},WP (aE g f σ e) Q=WP (f σ e) (λx l=>WP (g x l) Q))
 /\ (∀{σ:DS}{e:Store}{Q:List D->Store->Prop},WP (aC σ e) Q=Q [] e)
 /\ (∀{f:SE}{g:SA}{σ:DS}{e:Store}{Q:List D->Store->Prop},WP (aB f g σ e) Q=WP (f σ e) (λx l=>WP (g σ l) (λm p=>Q (x::m) p)))
 /\ (∀{f:SE}{σ:DS}{e:Store}{Q:Bool->Store->Prop},WP (eB f σ e) Q=WP (f σ e) (bK Q))
 /\ (∀{f n:ST}{σ:DS}{e:Store}{Q:Bool->Store->Prop},WP (bAnd f n σ e) Q=WP (f σ e) (λb l=>if b=true then WP (n σ l) Q else Q false l))
 /\ (∀{f n:ST}{σ:DS}{e:Store}{Q:Bool->Store->Prop},WP (bOr f n σ e) Q=WP (f σ e) (λb l=>if b=true then Q true l else WP (n σ l) Q))
 /\ (∀{f:ST}{σ:DS}{e:Store}{Q:Bool->Store->Prop},WP (bNot f σ e) Q=WP (f σ e) (λb l=>Q (!b) l))
 /\ (∀{σ:DS}{e:Store}{Q:Bool->Store->Prop},WP (aI σ e) Q=Q true e)
 /\ (∀{f n:SE}{σ:DS}{e:Store}{Q:D->Store->Prop},WP (eAnd f n σ e) Q=WP (f σ e) (bK λb l=>if b=true then WP (n σ l) Q else Q (.bl false) l))
 /\ (∀{f n:SE}{σ:DS}{e:Store}{Q:D->Store->Prop},WP (eOr f n σ e) Q=WP (f σ e) (bK λb l=>if b=true then Q (.bl true) l else WP (n σ l) Q))
 /\ (∀{f:SE}{σ:DS}{e:Store}{Q:D->Store->Prop},WP (eNot f σ e) Q=WP (f σ e) (bK λb l=>Q (.bl (!b)) l))
 /\ (∀{c:ST}{f n:SE}{σ:DS}{e:Store}{Q:D->Store->Prop},WP (eIf c f n σ e) Q=WP (c σ e) (λb l=>if b=true then WP (f σ l) Q else WP (n σ l) Q))
 /\ (∀{g:SA}{σ:DS}{e:Store}{Q:D->Store->Prop},WP (aR g σ e) Q=WP (g σ e) (λm l=>m.length<=sizeLine/\Q (.tup m) l))
 /\ (∀{g:SA}{σ:DS}{e:Store}{Q:D->Store->Prop},WP (eLst g σ e) Q=WP (g σ e) (λm l=>m.length<=sizeLine/\Q (.lst m) l))
 /\ (∀{g:SA}{σ:DS}{e:Store}{Q:D->Store->Prop},WP (eLstM g σ e) Q=WP (g σ e) (λm l=>m.length<=sizeLine/\Q (.ref l.length) (l++[.lst m])))
 /\ (∀{σ:DS}{e:Store}{Q:D->Store->Prop},WP (eDNew σ e) Q=Q (.ref e.length) (e++[.dT []]))
 /\ (∀{σ:DS}{e:Store}{Q:Fl->Store->Prop},WP (sNx σ e) Q=Q (.nx σ) e)
 /\ (∀{σ:DS}{e:Store}{Q:Fl->Store->Prop},WP (sBrk σ e) Q=Q (.brk σ) e)
 /\ (∀{σ:DS}{e:Store}{Q:Fl->Store->Prop},WP (sCt σ e) Q=Q (.ct σ) e)
 /\ (∀{σ:DS}{e:Store}{Q:Fl->Store->Prop},WP (sRetN σ e) Q=Q (.ret .non) e)
 /\ (∀{f:SE}{σ:DS}{e:Store}{Q:Fl->Store->Prop},WP (sRet f σ e) Q=WP (f σ e) (λv l=>Q (.ret v) l))
 /\ (∀{f:SE}{σ:DS}{e:Store}{Q:Fl->Store->Prop},WP (sDrop f σ e) Q=WP (f σ e) (λ_ l=>Q (.nx σ) l))
 /\ (∀{i:Nat}{f:SE}{σ:DS}{e:Store}{Q:Fl->Store->Prop},WP (aF i f σ e) Q=WP (f σ e) (λv l=>Q (.nx (σ.set i (some v))) l))
 /\ (∀{r:SG}{f:SE}{σ:DS}{e:Store}{Q:Fl->Store->Prop},WP (sSetG r f σ e) Q=WP (f σ e) (gK r Q σ))
 /\ (∀{c:ST}{s t:SS}{σ:DS}{e:Store}{Q:Fl->Store->Prop},WP (sIf c s t σ e) Q=WP (c σ e) (λb l=>if b=true then WP (s σ l) Q else WP (t σ l) Q))
 /\ (∀{w:SA}{r:SG}{u:SS}{σ:DS}{e:Store}{Q:Fl->Store->Prop},WP (sFor w r u σ e) Q=WP (w σ e) (λm l=>WP (forF r u m σ l) Q))
 /\ (∀{w:SA}{k:Nat}{is:List Nat}{r:SG}{c:ST}{f:SE}{σ:DS}{e:Store}{Q:D->Store->Prop},WP (aG w k is r c f σ e) Q=WP (w σ e) (λm l=>m.length<=sizeLine/\WP (compF r c f m (aT k is σ) l) (λE p=>Q (.lst E) p)))
 /\ (∀{w:SA}{k:Nat}{is:List Nat}{r:SG}{c:ST}{f:SE}{σ:DS}{e:Store}{Q:D->Store->Prop},WP (eCompM w k is r c f σ e) Q=WP (w σ e) (λm l=>m.length<=sizeLine/\WP (compF r c f m (aT k is σ) l) (λE p=>Q (.ref p.length) (p++[.lst E]))))
 /\ (∀{C:Int->Int->Prop} [DecidableRel C] {h:Int->Int->D}{i j:Int}{e:Store}{Q:D->Store->Prop},WP (oI C h (.int i) (.int j) e) Q=(C i j/\Q (h i j) e))
 /\ (∀{i j:Int}{e:Store}{Q:D->Store->Prop},WP (aM (.int i) (.int j) e) Q=Q (.int (i+j)) e)
 /\ (∀{a b:List D}{e:Store}{Q:D->Store->Prop},WP (aM (.tup a) (.tup b) e) Q=(a.length+b.length<=sizeLine/\Q (.tup (a++b)) e))
 /\ (∀{i j:Int}{e:Store}{Q:D->Store->Prop},WP (oLtT (.int i) (.int j) e) Q=Q (.bl (decide (i<j))) e)
 /\ (∀{i j:Int}{e:Store}{Q:D->Store->Prop},WP (oEqG false (.int i) (.int j) e) Q=Q (.bl (decide (i=j))) e)
 /\ (∀{i j:Int}{e:Store}{Q:D->Store->Prop},WP (oEqG true (.int i) (.int j) e) Q=Q (.bl (!decide (i=j))) e)
 /\ (∀{i:Int}{e:Store}{Q:D->Store->Prop},WP (oNeg (.int i) e) Q=Q (.int (-i)) e)
 /\ (∀{i j:Int}{g:Int->Int->Int}{e:Store}{Q:D->Store->Prop},WP (b2I g [.int i,.int j] e) Q=Q (.int (g i j)) e)
 /\ (∀{i:Int}{e:Store}{Q:D->Store->Prop},WP (bAbs [.int i] e) Q=Q (.int (if i<0 then -i else i)) e)
 /\ (∀{b:Bool}{e:Store}{Q:D->Store->Prop},WP (bInt [.bl b] e) Q=Q (.int (if b=true then 1 else 0)) e)
 /\ (∀{m:List D}{e:Store}{Q:D->Store->Prop},WP (bLen [.tup m] e) Q=Q (.int m.length) e)
 /\ (∀{m:List D}{e:Store}{Q:D->Store->Prop},WP (bLen [.lst m] e) Q=Q (.int m.length) e)
 /\ (∀{m:List D}{e:Store}{Q:D->Store->Prop},WP (bLen [.scr m] e) Q=Q (.int m.length) e)
 /\ (∀{m:List D}{e:Store}{Q:D->Store->Prop},WP (bTuple [.tup m] e) Q=Q (.tup m) e)
 /\ (∀{m:List D}{e:Store}{Q:D->Store->Prop},WP (bTuple [.lst m] e) Q=Q (.tup m) e)
 /\ (∀{m:List D}{e:Store}{Q:D->Store->Prop},WP (bList [.tup m] e) Q=Q (.lst m) e)
 /\ (∀{m:List D}{e:Store}{Q:D->Store->Prop},WP (bList [.lst m] e) Q=Q (.lst m) e)
 /\ (∀{d:D}{σ:DS}{e:Store}{Q:D->Store->Prop},WP (aA 0 (some d::σ) e) Q=Q d e)
 /\ (∀{i:Nat}{σ:DS}{e:Store}{Q:D->Store->Prop}{o:Option D},WP (aA (i+1) (o::σ) e) Q=WP (aA i σ e) Q)
 /\ (∀{f:SE}{σ:DS}{e:Store}{Q:List D->Store->Prop},WP (aH f σ e) Q=WP (f σ e) (λx l=>∃m,seqV x=some m/\Q m l))
 /\ (∀{f:SE}{σ:DS}{e:Store}{Q:Bool->Store->Prop},WP (eTru f σ e) Q=WP (f σ e) (λx l=>∃b,tru l x=some b/\Q b l))
 /\ (∀{g:SA}{σ:DS}{e:Store}{Q:List D->Store->Prop},WP (iR1 g σ e) Q=WP (g σ e) (λm l=>∃j,m=[.int j]/\RngOk j/\Q (rng 0 j.toNat) l))
 /\ (∀{g:SA}{σ:DS}{e:Store}{Q:List D->Store->Prop},WP (iR2 g σ e) Q=WP (g σ e) (λm l=>∃i j,m=[.int i,.int j]/\RngOk i/\RngOk j/\Q (rng i (j-i).toNat) l)):=by
 have A:∀{α:Type}{c:Prop} [Decidable c] {a:α}{e:Store}{Q:α->Store->Prop},WP (if c then .ok a e else .stuck) Q=(c/\Q a e):=λ{α c _ a e Q}=>zow
 refine⟨rfl,ztb,rfl,rfl,rfl,rfl,rfl,rfl,rfl,rfl,?_⟩;refine⟨?_,?_⟩
 ·intros;rw[zbyi,zh];congr;funext x l;rw[zh]
 refine⟨zh,zh,rfl,?_⟩;refine⟨?_,?_⟩
 ·intros;rw[zjv,zh];congr;funext x l;rw[zh];rfl
 refine⟨?_,?_⟩
 ·intros;rw[eB_v,zh];congr;funext x l;cases x<;>rfl
 refine⟨?_,?_⟩
 ·intros;rw[zbwg,zh];congr;funext x l;rw[zyu];rfl
 refine⟨?_,?_⟩
 ·intros;rw[zbzb,zh];congr;funext x l;rw[zyu];rfl
 refine⟨zh,rfl,?_⟩;refine⟨?_,?_⟩
 ·intros;rw[zbil,zh];congr;funext x l;cases x<;>try rfl
  rename_i b;cases b<;>rfl
 refine⟨?_,?_⟩
 ·intros;rw[zbyh,zh];congr;funext x l;cases x<;>try rfl
  rename_i b;cases b<;>rfl
 refine⟨?_,?_⟩
 ·intros;rw[zbpl,zh];congr;funext x l;cases x<;>rfl
 refine⟨?_,?_⟩
 ·intros;rw[zbyj,zh];congr;funext x l;rw[zyu]
 refine⟨?_,?_⟩
 ·intros;rw[zbup,zh];congr;funext x l;rw[A]
 refine⟨?_,?_⟩
 ·intros;rw[zbuq,zh];congr;funext x l;rw[A]
 refine⟨?_,?_⟩
 ·intros;rw[zbpm,zh];congr;funext x l;rw[A]
 refine⟨rfl,rfl,rfl,rfl,rfl,zh,zh,zh,?_⟩;refine⟨?_,?_⟩
 ·intro r f σ e Q;unfold sSetG;rw[zh];congr;funext x l;unfold gK;cases r x σ<;>rfl
 refine⟨?_,?_⟩
 ·intros;rw[zbsi,zh];congr;funext x l;rw[zyu]
 refine⟨zh,?_⟩;refine⟨?_,?_⟩
 ·intros;rw[zla,zh];congr;funext x l;rw[zow,zh];rfl
 refine⟨?_,?_⟩
 ·intros;unfold eCompM;rw[zh];congr;funext x l;rw[zow,zh];rfl
 refine⟨?_,?_⟩
 ·intros;rw[oI_v,A]
 refine⟨rfl,?_⟩;refine⟨?_,?_⟩
 ·intros;rw[zbns,A]
 refine⟨rfl,?_⟩;refine⟨?_,?_⟩
 ·intros;rw[show ∀i j e,oEqG false (.int i) (.int j) e=_ from λi j e=>zbxz];rfl
 refine⟨?_,?_⟩
 ·intros;rw[show ∀i j e,oEqG true (.int i) (.int j) e=_ from λi j e=>zbxv];rfl
 refine⟨rfl,rfl,rfl,rfl,rfl,rfl,rfl,rfl,rfl,rfl,rfl,λ{d σ e Q}=>rfl,λ{i σ e Q o}=>rfl,?_⟩;refine⟨?_,?_⟩
 ·intros;rw[zbpe,zh];congr;funext x l
  cases h:seqV x with
  |none=>simp[WP]
  |some m=>simp[WP]
 refine⟨?_,?_⟩
 ·intros;rw[zxg,zh];congr;funext x l
  cases h:tru l x with
  |none=>simp[WP]
  |some m=>simp[WP]
 refine⟨?_,?_⟩
 ·intros;rw[zbye,zh];congr;funext x l
  split
  ·rw[A];simp[RngOk]
  ·rename_i z;have:∀j,x≠[D.int j]:=λj h=>z j h
   simp[WP,this]
 ·intros;rw[zbyd,zh];congr;funext x l
  split
  ·rw[A];simp only[RngOk,List.cons.injEq,D.int.injEq,and_true];apply propext;constructor
   ·rintro⟨h,q⟩;exact⟨_,_,⟨rfl,rfl⟩,h.1,h.2,q⟩
   ·rintro⟨I,J,⟨rfl,rfl⟩,G,H,q⟩;exact⟨⟨G,H⟩,q⟩
  ·rename_i z;have:∀i j,x≠[D.int i,D.int j]:=λi j h=>z i j h
   simp[WP,this]
def loopK(I:DS->Store->Prop) (Q:Fl->Store->Prop):Fl->Store->Prop:=λb a=>match b with
 |.nx σ=>I σ a
 |.ct σ=>I σ a
 |.brk σ=>Q (.nx σ) a
 |.ret v=>Q (.ret v) a
def zkg{g:SG}{b:SS}{Q:Fl->Store->Prop}(I:Nat->DS->Store->Prop):∀(d:List D) (k:Nat) (σ:DS) (a:Store),I k σ a ->
  (∀i x σ a,d[i]?=some x->I (k+i) σ a->∃f,g x σ=some f/\WP (b f a) (loopK (I (k+i+1)) Q))->(∀σ a,I (k+d.length) σ a->Q (.nx σ) a)->WP (forF g b d σ a) Q
 |[],k,σ,a,h,_,q=>q σ a h
 |x::d,k,σ,a,h,s,q=>by
  obtain⟨f,r,w⟩:=s 0 x σ a rfl h;obtain⟨p,e,l,w⟩:=w.get;unfold forF;rw[r];dsimp only;rw[l]
  have j:∀c,I (k+0+1) c e->WP (forF g b d c e) Q:=λc n=>zkg I d (k+1) c e n (λi y σ a m o=>by
   have:=s (i+1) y σ a (by simpa using m) (by rw[show k+(i+1)=k+1+i by lia];exact o);rw[show k+(i+1)+1=k+1+i+1 by lia] at this
   exact this) (λσ a h=>q σ a (by rw[xbv,show k+(d.length+1)=k+1+d.length by lia];exact h))
  cases p with
  |nx c=>exact j c w
  |ct c=>exact j c w
  |brk c=>exact w
  |ret v=>exact w
def zce(I:Nat->DS->Store->Prop) (e:I 0 σ a)
  (s:∀i x σ a,xs[i]?=some x->I i σ a->∃b,bd x σ=some b/\WP (body b a) (loopK (I (i+1)) Q))(q:∀σ a,I xs.length σ a->Q (.nx σ) a):WP (forF bd body xs σ a) Q:=
 zkg I xs 0 σ a e (λi x σ a d c=>by rw[xel] at c ⊢;exact s i x σ a d c) λσ a h=>q σ a (by rw[xel] at h;exact h)
def L:(∀{I:DS->Store->Prop}{Q:Fl->Store->Prop}{σ:DS}{a:Store},loopK I Q (.nx σ) a=I σ a)
 /\ (∀{I:DS->Store->Prop}{Q:Fl->Store->Prop}{σ:DS}{a:Store},loopK I Q (.ct σ) a=I σ a)
 /\ (∀{I:DS->Store->Prop}{Q:Fl->Store->Prop}{σ:DS}{a:Store},loopK I Q (.brk σ) a=Q (.nx σ) a)
 /\ (∀{I:DS->Store->Prop}{Q:Fl->Store->Prop}{v:D}{a:Store},loopK I Q (.ret v) a=Q (.ret v) a):=⟨rfl,rfl,rfl,rfl⟩
def zgh{l:SG}{c:ST}{f:SE}(I:Nat->List D->DS->Store->Prop):∀(e:List D) (k:Nat) (acc:List D) (σ:DS) (au:Store) (Q:List D->Store->Prop),I k acc σ au ->
  (∀i x acc σ au,e[i]?=some x->I (k+i) acc σ au->∃d,l x σ=some d/\WP (c d au) (λb a=>if b=true then WP (f d a) (λy g=>I (k+i+1) (acc++[y]) d g) else I (k+i+1) acc d a)) ->
  (∀j σ au,I (k+e.length) (acc++j) σ au->Q j au)->WP (compF l c f e σ au) Q
 |[],k,acc,σ,au,Q,h,_,q=>q [] σ au (by rw[xdt];exact h)
 |x::e,k,acc,σ,au,Q,h,s,q=>by
  obtain⟨d,v,w⟩:=s 0 x acc σ au rfl h;obtain⟨b,a,p,w⟩:=w.get;have o:∀i y acc σ au,e[i]?=some y->I (k+1+i) acc σ au->∃d,l y σ=some d/\WP (c d au) (λb a=>if b=true then WP (f d a) (λy g=>I (k+1+i+1) (acc++[y]) d g) else I (k+1+i+1) acc d a):=λi y acc σ au t u=>by
   have:=s (i+1) y acc σ au (by simpa using t) (by rw[show k+(i+1)=k+1+i by lia];exact u);rw[show k+(i+1)+1=k+1+i+1 by lia] at this;exact this
  have n:∀(m:List D) σ au,I (k+1+e.length) m σ au->I (k+(x::e).length) m σ au:=λm σ au h=>by rw[xbv,show k+(e.length+1)=k+1+e.length by lia];exact h
  unfold compF;rw[v];dsimp only;rw[p];dsimp only[zbf];cases b with
  |false=>
   rw[if_neg (by decide)] at w ⊢;exact zgh I e (k+1) acc d a Q w o λj σ au h=>q j σ au (n _ _ _ h)
  |true=>
   rw[if_pos rfl] at w ⊢;obtain⟨y,g,r,w⟩:=w.get;rw[r];dsimp only[zbf];rw[zh];exact zgh I e (k+1) (acc++[y]) d g _ w o λj σ au h=>q (y::j) σ au (n _ _ _ (by rw[xch] at h;exact h))
def zqv(I:Nat->List D->DS->Store->Prop) (m:I 0 [] σ a)
  (s:∀i x acc σ a,xs[i]?=some x->I i acc σ a->∃d,bd x σ=some d/\WP (c d a) (λb e=>if b=true then WP (f d e) (λy j=>I (i+1) (acc++[y]) d j) else I (i+1) acc d e))
  (q:∀g σ a,I xs.length g σ a->Q g a):WP (compF bd c f xs σ a) Q:=
 zgh I xs 0 [] σ a Q m (λi x acc σ a l k=>by rw[xel] at k ⊢;exact s i x acc σ a l k) λg σ a h=>q g σ a (by rw[xel] at h;simpa using h)
def ziu{m:SG}{c:ST}{f:SE}{α:Type}(S:DS->Prop)(P:α->Bool)(G:α->D)(E:α->D){as:List α}{σ:DS}{d:Store}{Q:List D->Store->Prop}(t:S σ)
  (s:∀x∈as,∀σ,S σ->∃e,m (E x) σ=some e/\S e/\WP (c e d) (λb a=>a=d/\b=P x)/\(P x=true->WP (f e d) (λy a=>a=d/\y=G x)))
  (q:Q ((as.filter P).map G) d):WP (compF m c f (as.map E) σ d) Q:=by
 refine zqv (λi acc σ j=>S σ/\j=d/\acc=((as.take i).filter P).map G) ⟨t,rfl,rfl⟩ (λi x acc σ j l k=>?_) λA σ j k=>?_
 ·obtain⟨v,rfl,rfl⟩:=k;rw[xcg] at l;obtain⟨z,h,rfl⟩:=xdh.mp l;obtain⟨e,u,g,w,o⟩:=s z (xbn h) σ v;refine⟨e,u,w.mono λb a n=>?_⟩;obtain⟨rfl,rfl⟩:=n;cases hP:P z with
  |false=>
   rw[if_neg (by decide)];refine⟨g,rfl,?_⟩;rw[ze h,xdz,xco (by rw[hP];decide)];simp
  |true=>
   rw[if_pos rfl];refine(o hP).mono λy r p=>?_
   obtain⟨rfl,rfl⟩:=p;refine⟨g,rfl,?_⟩;rw[ze h,xdz,xck hP,xdi];simp
 ·obtain⟨_,rfl,rfl⟩:=k;rw[xbb,xcb];exact q
def V:(∀{α:Type}{a b:α}{l:List α},(a::l).set 0 b=b::l)
 /\ (∀{α:Type}{a b:α}{l:List α}{i:Nat},(a::l).set (i+1) b=a::l.set i b)
 /\ (∀{σ:DS}{k:Nat}{is:List Nat},aT k is σ=List.replicate k none++is.map λi=>(σ[i]?).getD none)
 /\ (∀{α:Type}{a:α}{k:Nat},List.replicate (k+1) a=a::List.replicate k a)
 /\ (∀{α:Type}{a:α},List.replicate 0 a=[])
 /\ (∀{α β:Type}{f:α->β}{a:α}{l:List α},(a::l).map f=f a::l.map f)
 /\ (∀{α β:Type}{f:α->β},([]:List α).map f=[])
 /\ (∀{α:Type}{a:α}{l m:List α},(a::l)++m=a::(l++m))
 /\ (∀{α:Type}{l:List α},[]++l=l)
 /\ (∀{α:Type}{a:α}{l:List α},(a::l)[0]?=some a)
 /\ (∀{α:Type}{a:α}{l:List α}{i:Nat},(a::l)[i+1]?=l[i]?)
 /\ (∀{α:Type}{a:α}{d:α},(some a).getD d=a)
 /\ (∀{i:Nat}{d:D}{σ:DS},gN i d σ=some (σ.set i (some d)))
 /\ (∀{p:Prop} [Decidable p],(decide p=true)=p)
 /\ (∀{p:Prop} [Decidable p],((!decide p)=true)=¬ p)
 /\ (∀{b:Bool},((!b)=true)=(b=false))
 /\ (∀{a b:Prop},(if True then a else b)=a)
 /\ (∀{a b:Prop},(if False then a else b)=b)
 /\ (∀{a b:Prop},(if true=true then a else b)=a)
 /\ (∀{a b:Prop},(if false=true then a else b)=b)
 /\ (∀{α:Type}{a b:α},(if True then a else b)=a)
 /\ (∀{α:Type}{a b:α},(if False then a else b)=b)
 /\ ((true=false)=False)/\((false=true)=False)/\((true=true)=True)/\((false=false)=True)/\((¬ True)=False)/\((¬ False)=True):=by
 refine⟨rfl,rfl,rfl,rfl,rfl,rfl,rfl,rfl,rfl,rfl,?_,rfl,rfl,?_,?_,?_,rfl,rfl,rfl,rfl,rfl,rfl,by simp,by simp,by simp,by simp,by simp,by simp⟩
 ·intros;rfl
 ·intro p _;simp
 ·intro p _;simp
 ·intro b;simp
def M:(∀{f:SE}{σ:DS}{d:Store}{Q:Option Int->Store->Prop},WP (pSome f σ d) Q=WP (f σ d) (λv c=>∃i,v=.int i/\Q (some i) c))
 /\ (∀{σ:DS}{d:Store}{Q:Option Int->Store->Prop},WP (pNone σ d) Q=Q none d)
 /\ (∀{f:SE}{lo G:DS->Store->Res (Option Int)}{σ:DS}{d:Store}{Q:D->Store->Prop},WP (eSl f lo G σ d) Q=WP (f σ d) (λx c=>WP (lo σ c) (λl o=>WP (G σ o) (λh p=>(∃m,x=.tup m/\Q (.tup (cutD m l h)) p)\/(∃m,asL p x=some m/\Q (.lst (cutD m l h)) p)))))
 /\ (∀{f:SE}{σ:DS}{d:Store}{Q:D->Store->Prop},WP (eFz f σ d) Q=WP (f σ d) (λx c=>∃n m,x=.ref n/\c[n]?=some (.lst m)/\Q (.lst m) (c.set n .dead)))
 /\ (∀{f g h:SE}{σ:DS}{d:Store}{Q:Fl->Store->Prop},WP (sSetIx f g h σ d) Q=WP (h σ d) (λv c=>WP (f σ c) (λx o=>WP (g σ o) (λy p=>∃n k m j,x=.ref n/\y=.int k/\p[n]?=some (.lst m)/\ixN m.length k=some j/\Q (.nx σ) (p.set n (.lst (m.set j v)))))))
 /\ (∀{f:SE}{g:SA}{σ:DS}{d:Store}{Q:D->Store->Prop},WP (eAppend f g σ d) Q=WP (f σ d) (λx c=>∃n r,x=.ref n/\c[n]?=some (.lst r)/\WP (g σ c) (λC o=>∃y m,C=[y]/\o[n]?=some (.lst m)/\m.length<sizeLine/\Q .non (o.set n (.lst (m++[y]))))))
 /\ (∀{x:D}{d:Store}{Q:D->Store->Prop},WP (bSum [x] d) Q=∃s,(seqOf d x).bind asInts=some s/\Q (.int s.sum) d)
 /\ (∀{x:D}{E:Bool}{d:Store}{Q:D->Store->Prop},WP (bAny E [x] d) Q=∃u,(asL d x).bind asBools=some u/\Q (.bl (if E then u.all id else u.any id)) d)
 /\ (∀{x:D}{A:Bool}{d:Store}{Q:D->Store->Prop},WP (bBest A [x] d) Q=∃n s,(seqOf d x).bind asInts=some (n::s)/\Q (.int (bestI A n s)) d)
 /\ (∀{g:SA}{σ:DS}{d:Store}{Q:List D->Store->Prop},WP (iZipT g σ d) Q=WP (g σ d) (λm c=>∃a b,m=[.tup a,.tup b]/\Q (pairsF a b) c))
 /\ (∀{i:Nat}{g:D->D->Store->Res D}{f:SE}{σ:DS}{d:Store}{Q:Fl->Store->Prop},WP (sAug i g f σ d) Q=∃x,σ[i]?=some (some x)/\WP (f σ d) (λy c=>WP (g x y c) (λz o=>Q (.nx (σ.set i (some z))) o))):=by
 refine⟨?_,rfl,?_,?_,?_,?_,?_,?_,?_,?_,?_⟩
 ·intros;rw[zbnf,zh];congr;funext x c
  cases x<;>simp[WP]
 ·intros;rw[zbyg,zh];congr;funext x c;rw[zh];congr;funext l o;rw[zh];congr;funext h p
  apply propext;split
  ·constructor
   ·intro q;exact .inl ⟨_,rfl,q⟩
   ·rintro(⟨m,e,q⟩|⟨m,e,q⟩)
    ·cases e;exact q
    ·cases e
  ·rename_i w;constructor
   ·intro q;split at q
    ·rename_i m e;exact .inr ⟨m,e,q⟩
    ·exact q.elim
   ·rintro(⟨m,e,q⟩|⟨m,e,q⟩)
    ·exact absurd e (w m)
    ·rw[e];exact q
 ·intros;rw[zbyk,zh];congr;funext x c
  apply propext;constructor
  ·intro q;split at q
   ·split at q
    ·rename_i m e;exact⟨_,m,rfl,e,q⟩
    ·exact q.elim
   ·exact q.elim
  ·rintro⟨n,m,rfl,e,q⟩;dsimp only;rw[e];exact q
 ·intros;rw[zbfp,zh];congr;funext v c;rw[zh];congr;funext x o;rw[zh];congr;funext y p
  apply propext;constructor
  ·intro q;split at q
   ·split at q
    ·split at q
     ·exact⟨_,_,_,_,rfl,rfl,by assumption,by assumption,q⟩
     ·exact q.elim
    ·exact q.elim
   ·exact q.elim
  ·rintro⟨n,k,m,j,rfl,rfl,I,t,q⟩;dsimp only;rw[I];dsimp only;rw[t];exact q
 ·intros;rw[zbbk,zh];congr;funext x c
  apply propext;constructor
  ·intro q;split at q
   ·rename_i n r e;rw[zh] at q;have H:c[n]?=some (.lst r):=by
     unfold asL at e;dsimp only at e;split at e
     ·cases e;assumption
     ·cases e
    refine⟨n,r,rfl,H,q.mono λC o h=>?_⟩;split at h
    ·split at h
     ·exact⟨_,_,rfl,by assumption,by assumption,h⟩
     ·exact h.elim
    ·exact h.elim
   ·exact q.elim
  ·rintro⟨n,r,rfl,e,q⟩;rw[zib e];dsimp only;rw[zh];refine q.mono λC o h=>?_
   obtain⟨y,m,rfl,t,J,h⟩:=h;rw[t];dsimp only;rw[if_pos J];exact h
 ·intro x d Q;unfold bSum;dsimp only;cases h:(seqOf d x).bind asInts with
  |none=>simp[WP]
  |some s=>simp[WP]
 ·intro x E d Q;unfold bAny;dsimp only;cases h:(asL d x).bind asBools with
  |none=>simp[WP]
  |some s=>simp[WP]
 ·intro x A d Q;unfold bBest;dsimp only;cases h:(seqOf d x).bind asInts with
  |none=>simp[WP]
  |some s=>
   cases s with
   |nil=>simp[WP]
   |cons n s=>
    apply propext;constructor
    ·intro q;exact⟨_,_,rfl,q⟩
    ·rintro⟨a,b,e,q⟩;cases e;exact q
 ·intro g σ d Q;unfold iZipT;rw[zh];congr;funext x c
  apply propext;constructor
  ·intro q;split at q
   ·exact⟨_,_,rfl,q⟩
   ·exact q.elim
  ·rintro⟨a,b,rfl,q⟩;exact q
 ·intro i g f σ d Q;rw[zbsj];apply propext;constructor
  ·intro q;split at q
   ·rename_i x e;rw[zh] at q;exact⟨x,e,q.mono λy c h=>by rw[zh] at h;exact h⟩
   ·exact q.elim
  ·rintro⟨x,e,q⟩;rw[e];dsimp only;rw[zh];exact q.mono λy c h=>by rw[zh];exact h
def N:(∀{g:List D}{P:List D->Prop},(∃f,D.tup g=D.tup f/\P f)=P g)
 /\ (∀{i:Int}{P:Int->Prop},(∃j,D.int i=D.int j/\P j)=P i)
 /\ (∀{g:List D}{h:Store}{P:List D->Prop},(∃f,asL h (.tup g)=some f/\P f)=False)
 /\ (∀{g:List D}{h:Store}{P:List D->Prop},(∃f,asL h (.lst g)=some f/\P f)=P g)
 /\ (∀{g:List D}{P:List D->Prop},(∃f,seqV (.tup g)=some f/\P f)=P g)
 /\ (∀{g:List D}{P:List D->Prop},(∃f,seqV (.lst g)=some f/\P f)=P g)
 /\ (∀{b:Bool}{h:Store}{P:Bool->Prop},(∃c,tru h (.bl b)=some c/\P c)=P b)
 /\ (∀{i:Int}{P:Int->Prop},(∃j,[D.int i]=[D.int j]/\P j)=P i)
 /\ (∀{i j:Int}{P:Int->Int->Prop},(∃k l,[D.int i,D.int j]=[D.int k,D.int l]/\P k l)=P i j)
 /\ (∀{x:D}{P:D->Prop},(∃y,[x]=[y]/\P y)=P x)
 /\ (∀{a b:List D}{P:List D->List D->Prop},(∃c d,[D.tup a,D.tup b]=[.tup c,.tup d]/\P c d)=P a b)
 /\ (∀{p:Prop},(p\/False)=p)/\(∀{p:Prop},(True/\p)=p):=by
 refine⟨?_,?_,?_,?_,?_,?_,?_,?_,?_,?_,?_,by simp,by simp⟩
 ·intros;apply propext;exact⟨λ⟨_,e,p⟩=>by cases e;exact p,λp=>⟨_,rfl,p⟩⟩
 ·intros;apply propext;exact⟨λ⟨_,e,p⟩=>by cases e;exact p,λp=>⟨_,rfl,p⟩⟩
 ·intros;apply propext;exact⟨λ⟨_,e,p⟩=>(by cases e),λp=>p.elim⟩
 ·intros;apply propext;exact⟨λ⟨_,e,p⟩=>by cases e;exact p,λp=>⟨_,rfl,p⟩⟩
 ·intros;apply propext;exact⟨λ⟨_,e,p⟩=>by cases e;exact p,λp=>⟨_,rfl,p⟩⟩
 ·intros;apply propext;exact⟨λ⟨_,e,p⟩=>by cases e;exact p,λp=>⟨_,rfl,p⟩⟩
 ·intros;apply propext;exact⟨λ⟨_,e,p⟩=>by cases e;exact p,λp=>⟨_,rfl,p⟩⟩
 ·intros;apply propext;exact⟨λ⟨_,e,p⟩=>by cases e;exact p,λp=>⟨_,rfl,p⟩⟩
 ·intros;apply propext;exact⟨λ⟨_,_,e,p⟩=>by cases e;exact p,λp=>⟨_,_,rfl,p⟩⟩
 ·intros;apply propext;exact⟨λ⟨_,e,p⟩=>by cases e;exact p,λp=>⟨_,rfl,p⟩⟩
 ·intros;apply propext;exact⟨λ⟨_,_,e,p⟩=>by cases e;exact p,λp=>⟨_,_,rfl,p⟩⟩
def zhw(c:BagAt au n)(d:1<=m)(h:m<=1000000)(k:∀r a,0<=r->r<m->Drew au a n->Q (.int r) a):WP (zy [.ref n,.int m] au) Q:=by
 obtain⟨r,a,e,b,g,f,_⟩:=zbln c d (Int.lt_of_le_of_lt h (by decide +kernel));exact WP.of e (k r a b g f)
def zbhx(h:seqOf au x=some xs)(a:L2.atI xs i=some d)(q:Q d au):WP (oIx x (.int i) au) Q:=WP.of (zjh h a) q
def zbwa{a:List Int}{i:Nat}(h:a.length<=63)(d:i<=100000)(k:∀g,BagAt (au++g) au.length->Q (.ref au.length) (au++g)):WP (zhf [.scr (a.map .int),.int i] au) Q:=by
 obtain⟨c,x,f,b,e⟩:=zbwb (au:=au) h d;exact WP.of e (k _ ⟨c,x,by simp,f,b⟩)
abbrev Rise(l:List (List Int)):Prop:=l.Pairwise λa b=>HT.lexLt a b=true
def Rise.nodup(h:Rise l):l.Nodup:=xnl (λ{a b} q e=>by subst e;rw[Srt.zgw] at q;cases q) h
def Rise.up(h:Rise l):UpR l:=xnl (λ{a b} q=>Srt.zry q) h
def Rise.sort(h:Rise l):sortR l=l:=(zll (.refl l) h.up).symm
def Rise.odd(h:Rise l):aO l=l:=by
 rw[←zvx (m:=l) h.nodup λx=>?_,h.sort];by_cases c:x∈l
 ·have d:l.count x<=1:=xij.mp h.nodup x;have b:0<l.count x:=xht.mpr c;have a:l.count x=1:=by lia
  simp[c,a]
 ·simp[c,List.count_eq_zero_of_not_mem c]
def zbmb(h:UpR l)(c:l.Nodup):Rise l:=xnl (λ{a b} q=>by
 obtain⟨d,e⟩:=q;rcases Srt.znz a b with z|z|z
 ·exact z
 ·exact absurd z e
 ·rw[d] at z;cases z) (h.and c)
def zlv(l:List (List Int)):Rise (aO l):=zbmb (zlk _) (zck l)
structure SumOk (n:Nat) (l:List (List Int)):Prop where
 rise:Rise l
 len:∀r∈l,r.length=n
 pos:∀r∈l,∀x∈r,0<=x
def zlh(h:∀r∈l,r.length=n/\∀x∈r,0<=x):SumOk n (aO l):=⟨zlv l,λr a=>(h r (zcz a)).1,λr a=>(h r (zcz a)).2⟩
def WX{α:Type}(r:Res α) (Q:α->Store->Prop) (E:Exc->Store->Prop):Prop:=match r with
 |.ok a au=>Q a au
 |.exc x au=>E x au
 |.stuck=>False
def WX.wp{α:Type}{r:Res α}{Q:α->Store->Prop}(h:WX r Q λ_ _=>False):WP r Q:=by
 cases r<;>exact h
def zbrr{α:Type}{f:DS->Store->Res α}{Q:α->Store->Prop}:WX (noX f σ au) Q E=WP (f σ au) Q:=by
 unfold noX;cases f σ au<;>rfl
def Drew.lt(d:Drew au st' n)(h:n<au.length):n<st'.length:=xbo h d.len
def BagAt.lt(h:BagAt au n):n<au.length:=by obtain⟨c,x,e,_⟩:=h;exact zf e
def zps{r:List Int}{P:Int->Prop}(h:∀x∈r,P x){y:Int}(a:P y):∀x∈r++[y],P x:=λx hx=>by
 rcases xcc.mp hx with hx|hx
 ·exact h x hx
 ·simp at hx;subst hx;exact a
def zfr{α:Type}(l:List α):(l.filter λ_=>true)=l:=xmn.mpr (by simp)
def zhr{α:Type}(P:α->Bool):∀a:List α,asBools (a.map λx=>.bl (P x))=some (a.map P)
 |[]=>rfl
 |x::a=>by rw[xbr,asBools,zhr P a];rfl
def riseB(l:List (List Int)):Bool:=(l.zip (l.drop 1)).all λp=>HT.lexLt p.1 p.2
def zrh:∀l:List (List Int),riseB l=true↔Rise l
 |[]=>by simp[riseB,Rise]
 |[a]=>by simp[riseB,Rise]
 |a::b::l=>by
  have f:=zrh (b::l);have e:riseB (a::b::l)=(HT.lexLt a b&&riseB (b::l)):=by simp[riseB]
  rw[e,xcs,f];constructor
  ·rintro⟨d,c⟩;refine xff.mpr ⟨λx hx=>?_,c⟩;rcases xbm.mp hx with rfl|hx
   ·exact d
   ·exact Srt.zgv d ((xff.mp c).1 x hx)
  ·intro h;obtain⟨d,c⟩:=xff.mp h;exact⟨d b xby,c⟩
def zko:∀a b:List (List Int),pairsF (aJ a) (aJ b)=(a.zip b).map λp=>.tup [aL p.1,aL p.2]
 |[],b=>by simp[pairsF]
 |_::_,[]=>by simp[pairsF]
 |x::a,y::b=>by
  rw[xkn,xbr,←zko a b]
  rfl
def zbom:oLtT (aL a) (aL b) au=.ok (.bl (HT.lexLt a b)) au:=by
 show(match asInts (a.map D.int),asInts (b.map D.int) with
  |some ns,some ms=>Res.ok (D.bl (HT.lexLt ns ms)) au
  |_,_=>Res.stuck)=_
 rw[zcm,zcm]
def zzp{l:List (List Int)}(q:Q ((l.zip (l.drop 1)).map λp=>.bl (HT.lexLt p.1 p.2)) au):
  WP (compF (gT 2 (gsCons (gN 0) (gsCons (gN 1) gsNil))) aI (aS oLtT (aA 0) (aA 1)) (pairsF (aJ l) (cutD (aJ l) (some 1) none)) [none,none] au) Q:=by
 have e:cutD (aJ l) (some 1) none=aJ (l.drop 1):=by
  have:=zxp (aJ l) 1;rw[show((1:Nat):Int)=1 from rfl] at this;rw[this,aJ,aJ,List.map_drop]
 rw[e,zko];refine ziu (as:=l.zip (l.drop 1)) (λσ=>∃v w,σ=[v,w]) (λ_=>true) (λp=>.bl (HT.lexLt p.1 p.2)) (λp=>.tup [aL p.1,aL p.2]) ⟨_,_,rfl⟩ ?_ (by rw[zfr];exact q);rintro p a σ ⟨v,w,rfl⟩;refine⟨_,rfl,⟨_,_,rfl⟩,by simp only[W,xjj],λ_=>?_⟩;simp only[W,V];exact WP.of zbom ⟨rfl,rfl⟩
def zuk(l:List Int)(j:Nat):(l.drop j++l.take j).length=l.length:=by rw[xbk,xnu,←xbk,xdd]
def zbff{l:List Int}(h:l.length<=sizeLine):aM (.lst ((l.drop j).map .int)) (.lst ((l.take j).map .int)) s=.ok (.lst ((l.drop j++l.take j).map .int)) s:=by
 show(if _<=sizeLine then Res.ok (D.lst _) s else .stuck)=_;rw[if_pos,xdi];rw[xbb,xbb,←xbk,zuk];exact h
def zrr{l:List (List Int)}(a:seqV x=some (aJ l))(b:l.length<=1000000)(k:∀g,Q (aK (aO l)) (au++g)):WP (zbb [x] au) Q:=by
 have c:=zcf l;obtain⟨g,e⟩:=zfn (au:=au) a (by lia) (by lia);exact WP.of e (k g)
def zbum [Decidable p] (q:Q (.int (if p then b else a)) au):WP (oIx (.lst [.int a,.int b]) (.int (if p then 1 else 0)) au) Q:=by
 by_cases h:p
 ·simp only[h,xgb] at q ⊢;exact zbhx (xs:=[.int a,.int b]) rfl rfl q
 ·simp only[h,xeu] at q ⊢;exact zbhx (xs:=[.int a,.int b]) rfl rfl q
def zbbd{N:Int}(h:SumOk N.toNat l)(k:0<=N)(f:N<=1000)(j:l.length<=1000000)(q:Q (.bl true) au):WP (zer [.int N,aK l] au) Q:=by
 refine zif rfl ?_;have c:∀ d:List D,bIsinst [.tup d,.ty "tuple"] au=.ok (.bl true) au:=λd=>rfl
 simp only[W,V];refine WP.of (c _) ⟨true,rfl,?_⟩;simp only[W,V];refine⟨_,rfl,?_⟩;refine zce (λi σ s=>s=au/\∃v,σ=[some (.int N),some (aK l),v]) ⟨rfl,_,rfl⟩ ?_ ?_
 ·rintro i x σ s a ⟨rfl,v,rfl⟩;obtain⟨r,e,rfl⟩:=zba a;have b:=xbn e;refine⟨_,rfl,?_⟩;unfold zgg;simp only[W,V];refine WP.of (c _) ⟨true,rfl,?_⟩;have g:((r.map D.int).length:Int)=N:=by rw[xbb,h.len r b];lia
  simp only[W,V,g];refine⟨_,rfl,by rw[xbb,h.len r b];exact small _ (by lia),?_⟩;refine ziu (as:=r) (λσ=>∃v,σ=[v]) (λ_=>true) (λx=>.bl (decide (0<=x))) .int ⟨_,rfl⟩ ?_ ?_
  ·rintro x a σ ⟨v,rfl⟩;refine⟨_,rfl,⟨_,rfl⟩,by simp only[W,xjj],λ_=>?_⟩;simp only[W,V];exact WP.of (zdu (au:=s) (i:=x)) (by simp only[W,V,xjj])
  ·rw[zfr];simp only[M,W,V];refine⟨_,zhr _ _,true,?_,?_⟩
   ·rw[List.all_map];show some _=_
    congr 1
    rw[xca];intro x a;exact xcj (h.pos r b x a)
   ·simp only[W,V,L];exact⟨True.intro,_,rfl⟩
 ·rintro σ s ⟨rfl,v,rfl⟩;simp only[W,V,M];refine⟨1,rfl,.inl ⟨_,rfl,?_⟩⟩;refine⟨_,_,rfl,by rw[zex,zc];exact small _ (by lia),zzp ?_⟩;refine⟨_,zhr _ _,?_⟩;rw[List.all_map];have:=(zrh l).mpr h.rise;unfold riseB at this;rw[show((id:Bool->Bool) ∘ λp:List Int×List Int=>HT.lexLt p.1 p.2)=λp=>HT.lexLt p.1 p.2 from rfl,this];exact q
def zmz(h:WP (s σ au) R)(k:∀a b,R a b->seqK t Q a b):WP (aD s t σ au) Q:=by
 rw[ztb];exact h.mono k
noncomputable def FewU(l:List (List Int)):Prop:=∀a:List (List Int),a.Nodup->(∀x∈a,x∈l)->a.length<=1000000
def FewU.of{l U:List (List Int)}(h:∀x∈l,x∈U)(d:U.length<=1000000):FewU l:=λe c a=>xbc (xeo c λx b=>h x (a x b)) d
def zbto(h:x∈aN l):x∈l:=by
 rw[zhm] at h;rcases xjb (l.count x) with z|z
 ·rw[z] at h;cases h
 ·exact xht.mp z
def FewU.odd(h:FewU l):(aN l).length<=1000000:=h _ (zda l) λx a=>zbto a
def FewU.sub(h:FewU l)(s:∀x∈m,x∈l):FewU m:=λb c a=>h b c λx d=>s x (a x d)
noncomputable def addR(a b:List Int):List Int:=(a.zip b).map λp=>p.1+p.2
def mulL(c b:List (List Int)):List (List Int):=c.flatMap λa=>b.map (addR a)
def zua{a b:List Int}(h:a.length=b.length):(addR a b).length=a.length:=by unfold addR;simp[h]
def zfm(b other:List (List Int)):(mulL b other).length=b.length*other.length:=by
 induction b with
 |nil=>simp[mulL]
 |cons a b ih=>
  have e:mulL (a::b) other=other.map (addR a)++mulL b other:=by simp[mulL]
  rw[e,xbk,xbb,ih,xbv,xhv];lia
def zrw(c b:List (List Int))(a:List Int):mulL (c++[a]) b=mulL c b++b.map (addR a):=by simp[mulL]
def zfk:∀a b:List Int,pairsF (a.map .int) (b.map .int)=(a.zip b).map λp=>.tup [.int p.1,.int p.2]
 |[],b=>by simp[pairsF]
 |_::_,[]=>by simp[pairsF]
 |x::a,y::b=>by
  have c:=zfk a b;rw[xkn,xbr (f:=λp:Int×Int=>D.tup [.int p.1,.int p.2]),←c]
  rfl
def zxb(h:au[n]?=some (.dT (aQ ks)))(a:ks.length<=1000000)(q:Q .non (au.set n (.dT (aQ (aP ks k))))):WP (zfw [.ref n,aL k] au) Q:=WP.of (zoe h a) q
def zlj(h:au[n]?=some (.dT (aQ ks)))(a:ks.length<=1000000)(q:Q (.lst (aJ (sortR ks))) au):WP (bSorted [.ref n] au) Q:=WP.of (zhh h a) q
def zbch(q:Q ((addR a b).map .int) au):WP (compF (gT 2 (gsCons (gN 0) (gsCons (gN 1) gsNil))) aI (aS aM (aA 0) (aA 1)) (pairsF (a.map .int) (b.map .int)) [none,none] au) Q:=by
 rw[zfk];refine ziu (as:=a.zip b) (λσ=>∃v w,σ=[v,w]) (λ_=>true) (λp=>.int (p.1+p.2)) (λp=>.tup [.int p.1,.int p.2]) ⟨_,_,rfl⟩ ?_ ?_
 ·rintro p c σ ⟨v,w,rfl⟩;refine⟨_,rfl,⟨_,_,rfl⟩,by simp only[W,xjj],λ_=>?_⟩;simp only[W,V,xjj]
 ·rw[zfr];unfold addR at q;rw[xcv] at q;exact q
def znw{c:List (List Int)}(n:∀r∈d,r.length<=1000)(t:d.length*c.length<=1000000)(k:∀g,Q (aK (aO (mulL d c))) (au++g)):WP (zep [aK d,aK c] au) Q:=by
 refine zif rfl ?_;simp only[W,V,N];refine zce (λi σ s=>(∃v w,σ=[some (aK d),some (aK c),some (.ref au.length),v,w])/\s=au++[.dT (aQ (aN (mulL (d.take i) c)))]) ⟨⟨_,_,rfl⟩,rfl⟩ ?_ ?_
 ·rintro i y σ s h ⟨⟨v,w,rfl⟩,rfl⟩;obtain⟨a,f,rfl⟩:=zba h;refine⟨_,rfl,?_⟩;unfold zgb;simp only[W,V,N];have q:i<d.length:=(xbd.mp f).1;have m:(aN (mulL (d.take i) c)).length+c.length<=1000000:=by
   have e:=zcf (mulL (d.take i) c);rw[zfm] at e;have l:(d.take i).length=i:=by rw[xcl];lia
   rw[l] at e;have p:(i+1)*c.length<=d.length*c.length:=xdj _ q;rw[xhv] at p;lia
  refine zce (λj σ s=>(∃w,σ=[some (aK d),some (aK c),some (.ref au.length),some (aL a),w])/\s=au++[.dT (aQ (((c.take j).map (addR a)).foldl aP (aN (mulL (d.take i) c))))]) ⟨⟨_,rfl⟩,rfl⟩ ?_ ?_
  ·rintro j y σ s h ⟨⟨w,rfl⟩,rfl⟩;obtain⟨b,o,rfl⟩:=zba h;refine⟨_,rfl,?_⟩;unfold zgc;simp only[W,V,M,N,L];refine⟨?_,zbch ?_⟩
   ·rw[zfk,xbb,List.length_zip];have:=n a (xbn f);exact small _ (by lia)
   ·have e:=zgy ((c.take j).map (addR a)) (aN (mulL (d.take i) c)) (zda _);have l:(c.take j).length<=c.length:=by rw[xcl];exact xhk _ _
    rw[xbb] at e;refine zxb (k:=addR a b) (ks:=((c.take j).map (addR a)).foldl aP (aN (mulL (d.take i) c))) (by simp) (by lia) ⟨⟨_,rfl⟩,?_⟩;rw[ze o,xdi,xez];simp
  ·rintro σ s ⟨⟨w,rfl⟩,rfl⟩;simp only[L];refine⟨⟨_,_,rfl⟩,?_⟩;rw[zc,xcb,ze f,zrw];unfold aN;rw[xez]
 ·rintro σ s ⟨⟨v,w,rfl⟩,rfl⟩;rw[zc,xcb];simp only[W,V];have e:=zcf (mulL d c);rw[zfm] at e;refine zlj (ks:=aN (mulL d c)) (by simp) (by lia) ?_;simp only[W,V];exact k _
def zbju(a:List Int)(b:Int):cutD ((a++[b]).map D.int) none (some (-1))=a.map D.int:=by
 unfold cutD;have e:((a++[b]).map D.int).length=a.length+1:=by simp
 have c:HT.sIx (a.length+1) 0 none=0:=rfl;have d:HT.sIx (a.length+1) (a.length+1) (some (-1))=a.length:=by
  show(if(-1:Int)<0 then((-1:Int)+((a.length+1:Nat):Int)).toNat else min (-1:Int).toNat (a.length+1))=_;rw[if_pos (by decide)];lia
 rw[e,c,d];simp
end Dd
namespace K03
end K03
namespace K13
open PyProof.Rows
def zbhr(a b:Nat):(a&&&b)/2=a/2&&&b/2:=Nat.and_div_two
def zbhq(a b:Nat):(a&&&b)%2=(a%2)*(b%2):=by
 have q:=@Nat.and_mod_two_eq_one a b;rcases xep a with h|h<;>rcases xep b with h'|h'<;>rw[h,h'] at q ⊢<;>lia
noncomputable abbrev In(e y:Nat):Prop:=e&&&y=y
def zsd:In a b↔(In (a/2) (b/2)/\¬ (b%2=1/\a%2=0)):=K07.zbay a b
def In.le(h:In e y):y<=e:=by rw[←h];exact Nat.and_le_left
def zbdz(e:Nat):In e 0:=Nat.and_zero e
def zbpb(e:Nat):In e e:=Nat.and_self e
def zbpd(e x:Nat):In e (e&&&x):=by unfold In;rw[←Nat.and_assoc,Nat.and_self]
def zbib:∀(e y:Nat),In e y->In e (e-y):=λe=>by
 induction e using Nat.strongRecOn with
 |ind e ih=>
  intro y h;by_cases z:e=0
  ·subst z;rw[Nat.zero_sub];exact zbdz 0
  obtain⟨c,d⟩:=zsd.mp h;have i:=ih (e/2) (by lia) (y/2) c;have f:=c.le;refine zsd.mpr ⟨?_,?_⟩
  ·rw[show(e-y)/2=e/2-y/2 by lia];exact i
  ·rintro⟨a,b⟩;lia
def zbpc:∀(e d q:Nat),In e d->In e q->q<d->q<=e&&&(d-1):=λe=>by
 induction e using Nat.strongRecOn with
 |ind e ih=>
  intro d q b j lt;by_cases z:e=0
  ·subst z;have:=b.le;lia
  obtain⟨a,k⟩:=zsd.mp b;obtain⟨h,l⟩:=zsd.mp j;have f:=zbhr e (d-1);have g:=zbhq e (d-1);rcases xep d with c|c
  ·rw[show(d-1)/2=d/2-1 by lia] at f;rw[show(d-1)%2=1 by lia,Nat.mul_one] at g;have i:=ih (e/2) (by lia) (d/2) (q/2) a h (by lia);have:q%2<=e%2:=by lia
   lia
  ·rw[show(d-1)/2=d/2 by lia,a] at f;lia
noncomputable def nxt(e j:Nat):Nat:=e-(e&&&(e-j-1))
def zbnu(h:j<e):j<nxt e j:=by
 have:=xhj (@Nat.and_le_right e (e-(j+1))) e;rw[Nat.sub_sub_self h] at this;exact this
def zbtq(e j:Nat):nxt e j<=e:=xhd _ _
def zbtr(e j:Nat):In e (nxt e j):=zbib e _ (zbpd e _)
def zbam(b:In e j)(a:In e m)(lt:j<m):nxt e j<=m:=by
 have c:=a.le;have:=zbpc e (e-j) (e-m) (zbib e j b) (zbib e m a) (Nat.sub_lt_sub_left (xbo lt c) lt);exact Nat.sub_le_of_le_add (xnu _ m ▸ Nat.sub_le_iff_le_add.mp this)
def zbnt{e j:Nat}(h:j<e):Builtin.bitAnd ((j:Int)-(e:Int)) (e:Int)=(nxt e j:Nat):=by
 rw[bitAnd_np (by lia) (by lia)];have a:(Builtin.bitNot ((j:Int)-(e:Int))).toNat=e-j-1:=by
  unfold Builtin.bitNot;lia
 rw[a,xfj];have:=@Nat.and_le_left e (e-j-1);unfold nxt;lia
noncomputable def subL(e:Nat) (lo a:Int) (n:Nat):List Nat:=(List.range n).filter λx=>decide (e&&&x=x/\lo<=x/\(x:Int)<=a)
def zli(e:Nat)(lo a:Int)(n:Nat):subL e lo a (n+1)=subL e lo a n++(if e&&&n=n/\lo<=n/\(n:Int)<=a then[n] else[]):=by
 unfold subL;rw[xgp,xdz]
 congr 1
 by_cases c:e&&&n=n/\lo<=n/\(n:Int)<=a
 ·rw[if_pos c];exact xck (p:=λx:Nat=>decide (e&&&x=x/\lo<=x/\(x:Int)<=a)) (xcj c)
 ·rw[if_neg c];exact xco (p:=λx:Nat=>decide (e&&&x=x/\lo<=x/\(x:Int)<=a)) (by rw[xcm c];decide)
def zij{e:Nat}{lo a:Int}{n:Nat}:∀(k:Nat),(∀x,n<=x->x<n+k->¬ (e&&&x=x/\lo<=x/\(x:Int)<=a))->subL e lo a (n+k)=subL e lo a n
 |0,_=>rfl
 |k+1,h=>by
  rw[←xnb,zli,if_neg (h _ (by lia) (by lia)),xdt];exact zij k λx b c=>h x b (by lia)
def ziz(e:Nat)(lo a:Int)(n:Nat):(subL e lo a n).length<=n:=by
 have:=xfy (λx=>decide (e&&&x=x/\lo<=x/\(x:Int)<=a)) (List.range n);rw[xgn] at this;exact this
def sharesL(e:Nat) (lo a:Int):List Nat:=subL e lo a (e+1)
def zds{e j:Nat}{lo a:Int}:j∈sharesL e lo a↔(In e j/\lo<=j/\(j:Int)<=a):=by
 unfold sharesL subL;rw[xcp,xbs,xih];exact⟨λh=>h.2,λh=>⟨xnf h.1.le,h⟩⟩
def zzh{e j:Nat}{lo a:Int}(b:In e j)(lt:j<e)(f:(j:Int)<=a):subL e lo a (nxt e j)=subL e lo a j++(if lo<=j then[j] else[]):=by
 have g:=zbnu lt;obtain⟨k,d⟩:∃k,nxt e j=(j+1)+k:=⟨nxt e j-(j+1),(xcr g).symm⟩
 rw[d,zij k λx h i c=>?_,zli]
 ·congr 1
  by_cases c:lo<=j
  ·rw[if_pos ⟨b,c,f⟩,if_pos c]
  ·rw[if_neg λz=>c z.2.1,if_neg c]
 ·have:=zbam b c.1 (by lia);lia
def zpf{e j:Nat}{lo a:Int}(d:In e j)(f:a<j):sharesL e lo a=subL e lo a j:=by
 have:=d.le;obtain⟨k,b⟩:∃k,e+1=j+k:=⟨e+1-j,(xcr (xgm this)).symm⟩
 unfold sharesL;rw[b];exact zij k λx g h c=>by lia
def ztg{e:Nat}{lo a:Int}(b:(e:Int)<=a):sharesL e lo a=subL e lo a e++(if lo<=e then[e] else[]):=by
 unfold sharesL;rw[zli]
 congr 1
 by_cases c:lo<=e
 ·rw[if_pos ⟨zbpb e,c,b⟩,if_pos c]
 ·rw[if_neg λz=>c z.2.1,if_neg c]
end K13
namespace Dd
open L2 K13
def zov(I:Nat->DS->Store->Prop) (r:I k σ a)(o:k<1000000)
  (s:∀j σ a,I j σ a->WP (c σ a) (λb e=>if b=true then WP (body σ e) (loopK (λf d=>∃i,i<j/\I i f d) Q) else Q (.nx σ) e)):WP (sWhile c body σ a) Q:=by
 have g:∀n j σ a,I j σ a->j<n->WP (whileF c body n σ a) Q:=by
  intro n
  induction n with
  |zero=>intro j σ a _ h;lia
  |succ n ih=>
   intro j σ a u m;obtain⟨b,e,t,w⟩:=(s j σ a u).get;unfold whileF;rw[t];dsimp only[zbf];cases b with
   |false=>exact w
   |true=>
    rw[if_pos rfl] at w ⊢;obtain⟨q,d,l,w⟩:=w.get;rw[l];cases q with
    |nx f=>obtain⟨i,p,h⟩:=w;exact ih i f d h (by lia)
    |ct f=>obtain⟨i,p,h⟩:=w;exact ih i f d h (by lia)
    |brk f=>exact w
    |ret v=>exact w
 exact g wCap k σ a r o
noncomputable def dN(j:Nat):D:=.int (j:Int)
def zzm{e:Nat}{lo a:Int}(q:e<=100000)(k:∀g,Q (.lst ((sharesL e lo a).map dN)) (au++g)):WP (zmx [.int e,.int lo,.int a] au) Q:=by
 refine zif rfl ?_;simp only[W,V];refine⟨small _ (by simp),?_⟩;have b:∀(f:List Nat) (v:Option D),f=sharesL e lo a->WP (sRet (eFz (aA 3)) [some (.int e),some (.int lo),some (.int a),some (.ref au.length),v] (au++[.lst (f.map dN)])) (retK Q):=λf v h=>by
  subst h;simp only[W,V,M];refine⟨_,_,rfl,by simp;rfl,?_⟩;have:=k [.dead]
  simpa using this
 refine zov (λm σ s=>∃j:Nat,m=e-j/\σ=[some (.int e),some (.int lo),some (.int a),some (.ref au.length),some (.int j)]/\In e j/\s=au++[.lst ((subL e lo a j).map dN)]) (k:=e) ⟨0,rfl,rfl,zbdz e,rfl⟩ (by lia) ?_;rintro m σ s ⟨j,rfl,rfl,i,rfl⟩;simp only[W,V,Dd.N];have o:=i.le;split
 ·rename_i d;unfold zld;refine zmz (R:=λl s=>l=.nx [some (.int e),some (.int lo),some (.int a),some (.ref au.length),some (.int j)]/\s=au++[.lst ((subL e lo a j++(if lo<=j then[j] else[])).map dN)]) ?_ ?_
  ·simp only[W,V,M,Dd.N];split
   ·rename_i c;have n:=ziz e lo a j;refine⟨_,_,rfl,by simp;rfl,_,_,rfl,by simp;rfl,by rw[xbb];exact smallT _ (by lia),?_⟩;simp[dN,c]
   ·rename_i c;simp[c]
  ·rintro l s ⟨rfl,rfl⟩;simp only[W,V,L];split
   ·rename_i c;have p:j=e:=by lia
    subst p;have:=b (subL j lo a j++(if lo<=j then[j] else[])) (some (.int j)) (ztg d).symm;simp only[W,V] at this;exact this
   ·rename_i c;have lt:j<e:=by lia
    have g:=zbnu lt;have r:=zbtq e j;refine⟨trivial,trivial,e-nxt e j,by lia,nxt e j,rfl,?_,zbtr e j,?_⟩
    ·rw[zbnt lt]
    ·rw[zzh i lt d]
 ·rename_i d;have:=b (subL e lo a j) (some (.int j)) (zpf i (by lia)).symm;simp only[W,V] at this;exact this
noncomputable abbrev Pt:=List Int×Int
def ptD(p:Pt):D:=.tup [aL p.1,.int p.2]
def letJ(e:Nat) (a:Int) (p:Pt):List Pt:=(sharesL e (p.2-a) p.2).map λj:Nat=>(p.1++[(e:Int)+(j:Int)],p.2-(j:Int))
def letL(e:Nat) (a:Int) (b:List Pt):List Pt:=b.flatMap (letJ e a)
def zbhi(e:Nat)(a:Int)(p:Pt):(letJ e a p).length<=e+1:=by
 unfold letJ;rw[xbb];exact ziz _ _ _ _
def zpu(e:Nat)(a:Int):∀ps:List Pt,(letL e a ps).length<=ps.length*(e+1)
 |[]=>by simp[letL]
 |p::ps=>by
  have b:letL e a (p::ps)=letJ e a p++letL e a ps:=by simp[letL]
  have:=zpu e a ps;have:=zbhi e a p;rw[b,xbk,xbv,xhv];lia
def zbat(e:Nat)(a:Int)(b:List Pt)(p:Pt):letL e a (b++[p])=letL e a b++letJ e a p:=by simp[letL]
def zbhe{e:Nat}{a:Int}:q∈letL e a d↔∃p∈d,∃j:Nat,j∈sharesL e (p.2-a) p.2/\q=(p.1++[(e:Int)+(j:Int)],p.2-(j:Int)):=by
 unfold letL letJ;simp only[xcy,xbt];constructor
 ·rintro⟨p,c,j,b,rfl⟩;exact⟨p,c,j,b,rfl⟩
 ·rintro⟨p,c,j,b,rfl⟩;exact⟨p,c,j,b,rfl⟩
def zkk(o a:O)(g:Store):(au++o::g).set au.length a=au++a::g:=by simp
def zfb(o:O)(g:Store):(au++o::g)[au.length]?=some o:=by simp
def zkv{α:Type}{f:α->D}{l:List α}{i:Nat}{x:D}(h:(l.map f)[i]?=some x):∃a,l[i]?=some a/\x=f a:=by
 rw[xcg] at h;obtain⟨a,c,b⟩:=xdh.mp h;exact⟨a,c,b.symm⟩
section
def zjj{e:Nat}{b:Int}{c:List Pt}(A:e<=1000)(C:c.length*(e+1)<=100000)(o:∀p∈c,p.1.length<=1000)(k:∀g,Q (.lst ((letL e b c).map ptD)) (d++g)):WP (zcj [.lst (c.map ptD),.int e,.int b] d) Q:=by
 refine zif rfl ?_;simp only[W,V,Dd.N];refine⟨small _ (by simp),?_⟩;refine zce (λi σ s=>(∃v w z,σ=[some (.lst (c.map ptD)),some (.int e),some (.int b),some (.ref d.length),v,w,z])/\∃g,s=d++(.lst ((letL e b (c.take i)).map ptD)::g)) ⟨⟨_,_,_,rfl⟩,[],rfl⟩ ?_ ?_
 ·rintro i y σ s f ⟨⟨v,w,z,rfl⟩,g,rfl⟩;obtain⟨p,h,rfl⟩:=zkv f;have u:i<c.length:=(xbd.mp h).1;refine⟨_,rfl,?_⟩;unfold zea;simp only[W,V,Dd.N];have n:(letL e b (c.take i)).length+(e+1)<=100000:=by
   have r:=zpu e b (c.take i);have m:(c.take i).length=i:=by rw[xcl];lia
   rw[m] at r;have l:(i+1)*(e+1)<=c.length*(e+1):=xdj _ u;rw[xhv] at l;lia
  refine zzm (by lia) λx=>?_
  simp only[W,V,Dd.N];rw[xch,xjz];generalize g++x=g3;have q:(sharesL e (p.2-b) p.2).length<=e+1:=ziz _ _ _ _;refine zce (λj σ s=>(∃z,σ=[some (.lst (c.map ptD)),some (.int e),some (.int b),some (.ref d.length),some (aL p.1),some (.int p.2),z])/\s=d++(.lst ((letL e b (c.take i)++((sharesL e (p.2-b) p.2).take j).map λj:Nat=>(p.1++[(e:Int)+j],p.2-(j:Int))).map ptD)::g3)) ⟨⟨_,rfl⟩,by simp⟩ ?_ ?_
  ·rintro j y σ s f ⟨⟨z,rfl⟩,rfl⟩;obtain⟨a,t,rfl⟩:=zkv f;refine⟨_,rfl,?_⟩;unfold zeb dN;simp only[W,V,M,Dd.N,L];have m:((sharesL e (p.2-b) p.2).take j).length<=(sharesL e (p.2-b) p.2).length:=by rw[xcl];exact xhk _ _
   have l:=o p (xbn h);refine⟨_,_,rfl,zfb _ _,small _ (by simp),by rw[xbb];exact small _ (by simp;lia),small _ (by simp),_,_,rfl,zfb _ _,by rw[xbb,xbk,xbb];exact smallT _ (by lia),⟨_,rfl⟩,?_⟩;rw[zkk,ze t];simp[ptD,aL]
  ·rintro σ s ⟨⟨z,rfl⟩,rfl⟩;simp only[L];refine⟨⟨_,_,_,rfl⟩,g3,?_⟩;rw[xbb,xcb,ze h,zbat]
   rfl
 ·rintro σ s ⟨⟨v,w,z,rfl⟩,g,rfl⟩;rw[xbb,xcb];simp only[W,V,M,Dd.N];refine⟨_,_,rfl,zfb _ _,?_⟩;rw[zkk];exact k _
end
def stepP(s:Int×List Pt) (e:Int):Int×List Pt:=(s.1-e,letL e.toNat (s.1-e) s.2)
def prodS(r:List Int) (k:Int) (m:List Int):Int×List Pt:=m.foldl stepP (r.sum,[([],k)])
def prodP(r:List Int) (k:Int):List (List Int):=(prodS r k r).2.map (·.1)
noncomputable def box:List Int->Nat
 |[]=>1
 |e::r=>(e.toNat+1)*box r
def zdy:∀a b:List Int,box (a++b)=box a*box b
 |[],b=>by simp[box]
 |e::a,b=>by rw[xjz,box,box,zdy a b,xkc]
def zben:∀a:List Int,1<=box a
 |[]=>xbl _
 |e::a=>by have:=zben a;unfold box;exact xbc this (xlo _ (by lia))
def zyb(r:List Int)(i:Nat):box (r.take i)<=box r:=by
 have e:=zdy (r.take i) (r.drop i);rw[xdd] at e;rw[e];exact Nat.le_mul_of_pos_right _ (zben _)
def znn(r:List Int)(k:Int)(m:List Int)(e:Int):prodS r k (m++[e])=stepP (prodS r k m) e:=by unfold prodS;rw[xez];rfl
def zrm{r:List Int}{k:Int}{P:List Int->Int×List Pt->Prop}(a:P [] (r.sum,[([],k)]))(h:∀m e s,P m s->P (m++[e]) (stepP s e)):∀(i:Nat),P (r.take i) (prodS r k (r.take i)):=λi=>by
 induction i with
 |zero=>exact a
 |succ i ih=>
  by_cases c:i<r.length
  ·have g:r[i]?=some r[i]:=xbf c;rw[ze g,znn];exact h _ _ _ ih
  ·rw[xej (by lia)] at ih ⊢;exact ih
def zln(r:List Int)(k:Int)(i:Nat):(prodS r k (r.take i)).2.length<=box (r.take i):=by
 refine zrm (P:=λm s=>s.2.length<=box m) (by simp[box]) (λm e s a=>?_) i;have:=zpu e.toNat (s.1-e) s.2;rw[zdy];show(letL e.toNat (s.1-e) s.2).length<=box m*((e.toNat+1)*1)
 rw[Nat.mul_one];exact xbc this (xdj _ a)
def zzu(r:List Int)(k:Int)(i:Nat):∀p∈(prodS r k (r.take i)).2,p.1.length=(r.take i).length:=by
 refine zrm (P:=λm s=>∀p∈s.2,p.1.length=m.length) (by simp) (λm e s a=>?_) i;intro q b;obtain⟨p,c,j,d,rfl⟩:=zbhe.mp b;rw[xbk,xbk,a p c]
 rfl
section
def zig{r:List Int}{t:Int}(f:∀x∈r,0<=x/\x<=1000)(z:r.length<=1000)(m:box r<=20000)(k:∀g,Q (.lst (aJ (prodP r t))) (j++g)):WP (zcc [aL r,.int t] j) Q:=by
 refine zif rfl ?_;simp only[W,V,M,Dd.N];refine⟨small _ (by simp),small _ (by simp),small _ (by simp),r,zcm r,?_⟩;refine zce (λi σ s=>(∃v,σ=[some (aL r),some (.int t),some (.lst ((prodS r t (r.take i)).2.map ptD)),some (.int (prodS r t (r.take i)).1),v])/\∃g,s=j++g) ⟨⟨_,rfl⟩,[],by simp⟩ ?_ ?_
 ·rintro i y σ s o ⟨⟨v,rfl⟩,g,rfl⟩;obtain⟨e,h,rfl⟩:=zkv o;refine⟨_,rfl,?_⟩;unfold zdk;obtain⟨n,u⟩:=f e (xbn h);simp only[W,V,M,Dd.N,L];refine⟨_,rfl,?_⟩;have b:=zln r t i;have d:=zyb r (i+1);rw[ze h,zdy,show box [e]=e.toNat+1 by simp[box]] at d;have l:(prodS r t (r.take i)).2.length*(e.toNat+1)<=20000:=xbc (xdj _ b) (xbc d m);have c:=zzu r t i;rw[ze h,znn];generalize prodS r t (r.take i)=s at l c ⊢;obtain⟨a,rfl⟩:=xdk n;refine zjj (e:=a) (by lia) (by rw[xfj] at l;lia) (λp f=>?_) λq=>?_
  ·rw[c p f,xcl];lia
  ·simp only[W,V,L];exact⟨⟨_,rfl⟩,g++q,by simp⟩
 ·rintro σ s ⟨⟨v,rfl⟩,g,rfl⟩;rw[xbb,xcb];simp only[W,V,M,Dd.N];have b:=zln r t r.length;rw[xcb] at b;refine⟨by rw[xbb];exact small _ (by lia),?_⟩;refine ziu (as:=(prodS r t r).2) (λσ=>∃v w,σ=[v,w]) (λ_=>true) (λp=>aL p.1) ptD ⟨_,_,rfl⟩ ?_ ?_
  ·rintro p f σ ⟨v,w,rfl⟩;exact⟨_,rfl,⟨_,_,rfl⟩,by simp only[W,xjj],λ_=>by simp only[W,V,xjj]⟩
  ·rw[zfr];have:=k g;unfold prodP aJ at this;rw[xcv] at this;exact this
end
def zzv(r:List Int)(k:Int):(prodP r k).length<=box r:=by
 have:=zln r k r.length;rw[xcb] at this;unfold prodP;rw[xbb];exact this
def raiseR(k:Int) (r:List Int):List (List Int):=if k<=r.sum then prodP r k else[]
def raiseL(k:Int) (l:List (List Int)):List (List Int):=l.flatMap (raiseR k)
def zvl(h:box r<=B):(raiseR k r).length<=B:=by
 unfold raiseR;split
 ·exact xbc (zzv r k) h
 ·simp
def zkm(k:Int)(l:List (List Int))(r:List Int):raiseL k (l++[r])=raiseL k l++raiseR k r:=by simp[raiseL]
def zmc:∀{r:List Int},(∀x∈r,0<=x)->0<=r.sum
 |[],_=>by simp
 |x::r,h=>by
  have:=zmc (r:=r) λy a=>h y (xbi _ a)
  have:=h x xby;rw[xcz];lia
def zbtt:∀{r:List Int},(∀x∈r,0<=x)->∀x∈r,x<=r.sum
 |[],_,_,h=>nomatch h
 |y::r,h,x,hx=>by
  have a:=λz b=>h z (xbi y b)
  have c:=zmc a;have d:=h y xby;rw[xcz];rcases xbm.mp hx with rfl|hx
  ·lia
  ·have:=zbtt a x hx;lia
def zzi(e:Int)(a:List Int)(b:List Pt):(e::a).foldl stepP ((e::a).sum,b)=a.foldl stepP (a.sum,letL e.toNat a.sum b):=by
 rw[xgr,xcz];unfold stepP;dsimp only;rw[show e+a.sum-e=a.sum by lia]
end Dd
namespace K13
end K13
namespace Dd
open L2 K13
def zgp:WP (eExtend f g σ au) Q=WP (f σ au) (λx c=>∃n b,x=.ref n/\c[n]?=some (.lst b)/\WP (g σ c) (λj a=>∃y i d,j=[y]/\a[n]?=some (.lst i)/\asL a y=some d/\i.length+d.length<=sizeLine/\Q .non (a.set n (.lst (i++d))))):=by
 rw[zbbj,zh]
 congr
 funext x c
 apply propext;constructor
 ·intro q;split at q
  ·rename_i n b e;rw[zh] at q;have m:c[n]?=some (.lst b):=by
    unfold asL at e;dsimp only at e;split at e
    ·cases e;assumption
    ·cases e
   refine⟨n,b,rfl,m,q.mono λj a h=>?_⟩;split at h
   ·split at h
    ·split at h
     ·exact⟨_,_,_,rfl,by assumption,by assumption,by assumption,h⟩
     ·exact h.elim
    ·exact h.elim
   ·exact h.elim
  ·exact q.elim
 ·rintro⟨n,b,rfl,e,q⟩;rw[zib e];dsimp only;rw[zh];refine q.mono λj a h=>?_
  obtain⟨y,i,d,rfl,k,l,o,h⟩:=h;rw[k];dsimp only;rw[l];dsimp only;rw[if_pos o];exact h
def lawJ(e:Nat) (p:Pt):List Pt:=(sharesL e 0 p.2).map λj:Nat=>(p.1++[(e:Int)+(j:Int)],p.2-(j:Int))
def lawL(e:Nat) (a:List Pt):List Pt:=a.flatMap (lawJ e)
def zws(e:Nat)(p:Pt):(lawJ e p).length<=e+1:=by
 unfold lawJ;rw[xbb];exact ziz _ _ _ _
def zbax(e:Nat)(a:List Pt)(p:Pt):lawL e (a++[p])=lawL e a++lawJ e p:=by simp[lawL]
def zpx(e:Nat):∀ps:List Pt,(lawL e ps).length<=ps.length*(e+1)
 |[]=>by simp[lawL]
 |p::ps=>by
  have a:lawL e (p::ps)=lawJ e p++lawL e ps:=by simp[lawL]
  have:=zpx e ps;have:=zws e p;rw[a,xbk,xbv,xhv];lia
def zwi:q∈lawL e c↔∃p∈c,∃j:Nat,j∈sharesL e 0 p.2/\q=(p.1++[(e:Int)+(j:Int)],p.2-(j:Int)):=by
 unfold lawL lawJ;simp only[xcy,xbt];constructor
 ·rintro⟨p,b,j,a,rfl⟩;exact⟨p,b,j,a,rfl⟩
 ·rintro⟨p,b,j,a,rfl⟩;exact⟨p,b,j,a,rfl⟩
def zut{e:Nat}{left:Int}(h:0<=left):(List.range ((if left<(e:Int) then left else(e:Int))+1).toNat).filter (λx=>decide (e&&&x=x))=sharesL e 0 left:=by
 have a:∀n:Nat,(n:Int)<=left+1->subL e 0 left n=(List.range n).filter (λx=>decide (e&&&x=x)):=λn i=>by
  unfold subL;refine xgo λx g=>?_
  have:=xbs.mp g;have b:(0:Int)<=(x:Int):=by lia
  have d:(x:Int)<=left:=by lia
  simp[b,d]
 rw[←a _ (by split<;>lia)];unfold sharesL;split
 ·rename_i c;obtain⟨k,f⟩:∃k,e+1=(left+1).toNat+k:=⟨e+1-(left+1).toNat,by lia⟩
  rw[f];exact(zij k λx b d z=>by lia).symm
 ·rw[show((e:Int)+1).toNat=e+1 by lia]
def lawStep(a:List Pt) (e:Int):List Pt:=lawL e.toNat a
def lawS(k:Int) (m:List Int):List Pt:=m.foldl lawStep [([],k)]
def lawP(k:Int) (r:List Int):List (List Int):=((lawS k r).filter λp=>decide (p.2=0)).map (·.1)
def zuu(h:0<=left):(sharesL e 0 left).filter (λj:Nat=>decide (left-(j:Int)<=S))=sharesL e (left-S) left:=by
 unfold sharesL subL;rw[xks];refine xgo λx _=>?_
 rw[←xog];exact xhm.mpr ⟨λh=>⟨h.2.1,by lia,h.2.2.2⟩,λh=>⟨by lia,h.1,by lia,h.2.2⟩⟩
def zbau{e:Nat}{S:Int}(h:¬ p.2<=e+S):letJ e S p=[]:=by
 unfold letJ;have:sharesL e (p.2-S) p.2=[]:=by
  refine xme.mpr λj a=>?_
  obtain⟨b,c,d⟩:=zds.mp a;have:=b.le;lia
 rw[this]
 rfl
def zbhn(h:0<=p.2):(lawJ e p).filter (λq=>decide (q.2<=S))=letJ e S p:=by
 unfold lawJ letJ;rw[xjc,←zuu h]
 rfl
def zwr{e:Nat}{S:Int}:∀{ps},(∀p∈ps,0<=p.2)->(lawL e ps).filter (λq=>decide (q.2<=S))=letL e S (ps.filter λp=>decide (p.2<=e+S))
 |[],_=>rfl
 |p::ps,h=>by
  have a:=zwr (e:=e) (S:=S) (ps:=ps) λq d=>h q (xbi _ d)
  have b:lawL e (p::ps)=lawJ e p++lawL e ps:=by simp[lawL]
  rw[b,xdz,a,zbhn (h p xby)];by_cases c:p.2<=e+S
  ·rw[xck (by simpa using c)];simp[letL]
  ·rw[xco (by simpa using c),zbau c]
   rfl
def zst:∀(a:List Int) (b:List Pt),(∀x∈a,0<=x)->(∀p∈b,0<=p.2)->(a.foldl lawStep b).filter (λp=>decide (p.2=0))=(a.foldl stepP (a.sum,b.filter λp=>decide (p.2<=a.sum))).2
 |[],b,_,h=>by
  show b.filter _=b.filter _;refine xgo λp c=>?_
  have:=h p c;exact xhm.mpr ⟨λz=>by simp;lia,λz=>by simp at z;lia⟩
 |e::a,b,hs,h=>by
  have d:=λz f=>hs z (xbi e f)
  have l:=hs e xby;rw[zzi,xgr,zst a (lawStep b e) d (λq g=>?_)]
  ·unfold lawStep;rw[zwr h,xcz,show((e.toNat:Nat):Int)=e by lia]
  ·obtain⟨p,c,j,i,rfl⟩:=zwi.mp g;obtain⟨m,k,n⟩:=zds.mp i;dsimp only;lia
def zrc:∀(a:List Int) (t:Int),(a.foldl stepP (t,[])).2=[]
 |[],_=>rfl
 |e::a,t=>by
  rw[xgr];exact zrc a (t-e)
def zbdv(h:∀x∈r,0<=x)(a:0<=k):lawP k r=raiseR k r:=by
 unfold lawP lawS;rw[zst r [([],k)] h (λp b=>by rw[xcu.mp b];exact a)];unfold raiseR;by_cases c:k<=r.sum
 ·rw[if_pos c,xck (by simpa using c)]
  rfl
 ·rw[if_neg c,xco (by simpa using c)];show(r.foldl stepP (r.sum,[])).2.map _=[]
  rw[zrc]
  rfl
def zmi(k:Int)(m:List Int)(e:Int):lawS k (m++[e])=lawStep (lawS k m) e:=by unfold lawS;rw[xez];rfl
def zwq{k:Int}{P:List Int->List Pt->Prop}(a:P [] [([],k)])(h:∀m e s,P m s->P (m++[e]) (lawStep s e))(r:List Int):∀(i:Nat),P (r.take i) (lawS k (r.take i)):=λi=>by
 induction i with
 |zero=>exact a
 |succ i ih=>
  by_cases c:i<r.length
  ·have g:r[i]?=some r[i]:=xbf c;rw[ze g,zmi];exact h _ _ _ ih
  ·rw[xej (by lia)] at ih ⊢;exact ih
def zwp(r:List Int)(k:Int)(i:Nat):(lawS k (r.take i)).length<=box (r.take i):=by
 refine zwq (P:=λm s=>s.length<=box m) (by simp[box]) (λm e s a=>?_) r i;have:=zpx e.toNat s;rw[zdy];show(lawL e.toNat s).length<=box m*((e.toNat+1)*1)
 rw[Nat.mul_one];exact xbc this (xdj _ a)
def zbhl(r:List Int){k:Int}(a:0<=k)(i:Nat):∀p∈lawS k (r.take i),p.1.length=(r.take i).length/\0<=p.2:=by
 refine zwq (P:=λm s=>∀p∈s,p.1.length=m.length/\0<=p.2) (by simpa using a) (λm e s d=>?_) r i;intro q f;obtain⟨p,c,j,g,rfl⟩:=zwi.mp f;obtain⟨l,h,o⟩:=zds.mp g;obtain⟨b,n⟩:=d p c;dsimp only;rw[xbk,xbk,b];exact⟨rfl,by lia⟩
end Dd
namespace K08
end K08
namespace Dd
open L2 K13
def outL(e:Nat):List Int:=(sharesL e 0 e).map λj:Nat=>(e:Int)+(j:Int)
noncomputable def longL(a:List (List Int)) (c:List Int):List (List Int):=a.flatMap λb=>c.map λx=>b++[x]
def wholeStep(a:List (List Int)) (e:Int):List (List Int):=longL a (outL e.toNat)
def wholeS(m:List Int):List (List Int):=m.foldl wholeStep [[]]
def zkh(m:List Int)(e:Int):wholeS (m++[e])=wholeStep (wholeS m) e:=by unfold wholeS;rw[xez];rfl
def ztf:(sharesL e 0 e).filter (λj:Nat=>decide ((j:Int)<=left))=sharesL e 0 left:=by
 unfold sharesL subL;rw[xks];refine xgo λx a=>?_
 have:=xbs.mp a;rw[←xog];exact xhm.mpr ⟨λh=>⟨h.2.1,h.2.2.1,h.1⟩,λh=>⟨h.2.2,h.1,h.2.1,by lia⟩⟩
def fitP(k M:Int) (b:List (List Int)):List Pt:=(b.filter λa=>decide (a.sum-M<=k)).map λa=>(a,k-(a.sum-M))
def zxd{k M:Int}{e:Nat}:∀rows:List (List Int),fitP k (M+e) (longL rows (outL e))=lawL e (fitP k M rows)
 |[]=>rfl
 |row::rows=>by
  have d:=zxd (k:=k) (M:=M) (e:=e) rows;have n:longL (row::rows) (outL e)=((outL e).map λx=>row++[x])++longL rows (outL e):=by simp[longL]
  have f:fitP k (M+e) (longL (row::rows) (outL e))=fitP k (M+e) ((outL e).map λx=>row++[x])++fitP k (M+e) (longL rows (outL e)):=by
   rw[n];unfold fitP;rw[xdz,xdi]
  have g:fitP k (M+e) ((outL e).map λx=>row++[x])=(sharesL e 0 (k-(row.sum-M))).map λj:Nat=>(row++[(e:Int)+(j:Int)],k-(row.sum-M)-(j:Int)):=by
   unfold fitP outL;rw[xcv,xjc,xcv,show sharesL e 0 (k-(row.sum-M))=_ from ztf.symm];have b:∀j:Nat,(row++[(e:Int)+(j:Int)]).sum-(M+e)=row.sum-M+j:=λj=>by rw[xes];simp;lia
   have i:(sharesL e 0 e).filter ((λr:List Int=>decide (r.sum-(M+e)<=k)) ∘ ((λx=>row++[x]) ∘ λj:Nat=>(e:Int)+(j:Int)))=(sharesL e 0 e).filter λj:Nat=>decide ((j:Int)<=k-(row.sum-M)):=
    xgo λj _=>by
     show decide ((row++[(e:Int)+(j:Int)]).sum-(M+e)<=k)=_;rw[b];exact xhm.mpr ⟨λh=>by lia,λh=>by lia⟩
   rw[i];refine xea λj _=>?_
   show(row++[(e:Int)+(j:Int)],k-((row++[(e:Int)+(j:Int)]).sum-(M+e)))=_;rw[b]
   congr 1
   lia
  rw[f,d,g];by_cases c:row.sum-M<=k
  ·have a:fitP k M (row::rows)=(row,k-(row.sum-M))::fitP k M rows:=by
    unfold fitP;rw[xck (by simpa using c)]
    rfl
   rw[a];simp[lawL,lawJ]
  ·have a:fitP k M (row::rows)=fitP k M rows:=by
    unfold fitP;rw[xco (by simpa using c)]
   have l:sharesL e 0 (k-(row.sum-M))=[]:=xme.mpr λj m=>by
    obtain⟨_,p,o⟩:=zds.mp m;lia
   rw[a,l]
   rfl
def zbhm{r:List Int}{k:Int}(h:∀x∈r,0<=x)(a:0<=k):∀i:Nat,lawS k (r.take i)=fitP k (r.take i).sum (wholeS (r.take i)):=λi=>by
 induction i with
 |zero=>
  show[([],k)]=fitP k 0 [[]];unfold fitP;rw[xck (by simpa using a)];simp
 |succ i ih=>
  by_cases c:i<r.length
  ·have g:r[i]?=some r[i]:=xbf c;have b:=h r[i] (xed c);rw[ze g,zmi,zkh,ih];unfold lawStep wholeStep;rw[←zxd,xes,show(r.take i).sum+[r[i]].sum=(r.take i).sum+(r[i].toNat:Int) by simp;lia]
  ·rw[xej (by lia)] at ih ⊢;exact ih
def znm{r:List Int}{k:Int}(h:∀x∈r,0<=x)(b:0<=k):raiseR k r=(wholeS r).filter λm=>decide (m.sum=r.sum+k):=by
 have e:=zbhm h b r.length;rw[xcb] at e;rw[←zbdv h b];unfold lawP;rw[e];unfold fitP;rw[xjc,xcv,xks];have:∀l:List (List Int),l.map ((λp:Pt=>p.1) ∘ λa=>(a,k-(a.sum-r.sum)))=l:=λl=>by
  show l.map (λa=>a)=l;exact xoi l
 rw[this];refine xgo λm _=>?_
 show(decide (k-(m.sum-r.sum)=0)&&decide (m.sum-r.sum<=k))=_;rw[←xog];exact xhm.mpr ⟨λh=>by lia,λh=>by lia⟩
def zjg{a b:List (List Int)}(h:∀x,a.count x%2=b.count x%2):aO a=aO b:=zvx (zda a) λx=>by rw[zhm,h x]
def zhb(a:List (List Int))(x:List Int):(aO a).count x%2=a.count x%2:=by
 have d:=zck a;have b:x∈aO a↔a.count x%2=1:=by unfold aO;rw[(zm _).mem_iff,zhm]
 by_cases c:x∈aO a
 ·have e:(aO a).count x<=1:=xij.mp d x;have f:0<(aO a).count x:=xht.mpr c;have:=b.mp c;lia
 ·have e:(aO a).count x=0:=xhu.mpr c;have:¬ a.count x%2=1:=λz=>c (b.mpr z)
  lia
def zqw{P:List Int->List (List Int)->Prop}(a:P [] [[]])(h:∀m e s,P m s->P (m++[e]) (wholeStep s e))(r:List Int):∀(i:Nat),P (r.take i) (wholeS (r.take i)):=λi=>by
 induction i with
 |zero=>exact a
 |succ i ih=>
  by_cases c:i<r.length
  ·have g:r[i]?=some r[i]:=xbf c;rw[ze g,zkh];exact h _ _ _ ih
  ·rw[xej (by lia)] at ih ⊢;exact ih
def zbgr(h:y∈outL e):(e:Int)<=y/\y<=2*e:=by
 unfold outL at h;obtain⟨j,a,rfl⟩:=xbt.mp h;obtain⟨b,_,_⟩:=zds.mp a;have:=b.le;lia
def zoj(r x:List Int)(y:Int):∀a:List Int,(a.map λz=>r++[z]).count (x++[y])=if r=x then a.count y else 0
 |[]=>by split<;>rfl
 |z::a=>by
  rw[xbr,xid,zoj r x y a];by_cases c:r=x
  ·subst c;rw[if_pos rfl,if_pos rfl,xid]
   congr 1
   by_cases d:z=y
   ·subst d;simp
   ·simp[d]
  ·rw[if_neg c,if_neg c]
   have:¬ (r++[z]=x++[y]):=λh=>c (by
    have:=congrArg List.dropLast h
    simpa using this)
   simp[c]
def zoi(x:List Int)(y:Int)(xs:List Int):∀a:List (List Int),(longL a xs).count (x++[y])=a.count x*xs.count y
 |[]=>by simp[longL]
 |r::a=>by
  have e:longL (r::a) xs=(xs.map λz=>r++[z])++longL a xs:=by simp[longL]
  rw[e,xer,zoj,zoi x y xs a,xid];by_cases c:r=x
  ·subst c;simp[Nat.add_mul];lia
  ·simp[c]
noncomputable abbrev Row:=List Int
noncomputable def tot{α:Type}(l:List α) (c:α->Nat):Nat:=(l.map c).sum
def zblj{α:Type}(c:α->Nat):tot [] c=0:=rfl
def zbt{α:Type}(a:α)(l:List α)(c:α->Nat):tot (a::l) c=c a+tot l c:=by simp[tot]
def zup{α:Type}(a b:List α)(c:α->Nat):tot (a++b) c=tot a c+tot b c:=by simp[tot]
def zbfg{α:Type}{a b:List α}(h:a.Perm b)(c:α->Nat):tot a c=tot b c:=(h.map c).sum_nat
def zuo(c:Row->Nat):∀(n:Nat) (l:List Row),l.length<=n->(∀x,l.count x%2=0)->tot l c%2=0
 |_,[],_,_=>rfl
 |0,_::_,h,_=>by simp at h
 |n+1,y::l,hn,h=>by
  have d:=h y;rw[List.count_cons_self] at d;have b:y∈l:=xht.mp (by lia);have p:=List.perm_cons_erase b;have e:=zuo c n (l.erase y) (by rw[List.length_erase_of_mem b];simp at hn;lia) λx=>by
   have a:=h x;rw[xid,p.count_eq,xid] at a;split at a<;>lia
  rw[zbt,zbfg p,zbt];lia
def zbli{a b:List Row}(c:Row->Nat)(h:∀x,a.count x%2=b.count x%2):tot a c%2=tot b c%2:=by
 have:=zuo c _ (a++b) (xbl _) λx=>by rw[xer];have:=h x;lia
 rw[zup] at this;lia
def zum{α:Type}{c d:α->Nat}:∀{l},(∀a∈l,c a%2=d a%2)->tot l c%2=tot l d%2
 |[],_=>rfl
 |a::l,h=>by
  have g:=h a xby;have f:=zum (c:=c) (d:=d) (l:=l) λb e=>h b (xbi _ e)
  rw[zbt,zbt];lia
def zzf{α:Type}{c d:α->Nat}{l:List α}(h:∀a∈l,c a=d a):tot l c=tot l d:=by
 unfold tot;rw[xea h]
def zbcn{α:Type}(c d:α->Nat):∀l:List α,tot l (λa=>c a+d a)=tot l c+tot l d
 |[]=>rfl
 |a::l=>by rw[zbt,zbt,zbt,zbcn c d l];lia
def zdx{α:Type}(x:Row)(f:α->List Row):∀l:List α,(l.flatMap f).count x=tot l λa=>(f a).count x
 |[]=>rfl
 |a::l=>by rw[xlk,xer,zdx x f l,zbt]
def zblk{α β:Type}(g:α->β)(c:β->Nat)(l:List α):tot (l.map g) c=tot l λa=>c (g a):=by unfold tot;rw[xcv];rfl
def zri{a b:List Row}(k:Int)(h:∀x,a.count x%2=b.count x%2)(x:Row):(raiseL k a).count x%2=(raiseL k b).count x%2:=by
 unfold raiseL;rw[zdx,zdx];exact zbli _ h
def Rows(n:Nat) (l:List Row):Prop:=∀r∈l,r.length=n/\∀x∈r,0<=x
def zmh{a:List Pt}(z:e<=1000)(E:a.length*(e+1)<=100000)(f:∀p∈a,p.1.length<=1000/\0<=p.2)
  (k:∀o l m g,I [a0,a1,a2,a3,some (.lst ((lawL e a).map ptD)),some (.int e),o,l,m] (au++g)):
  WP (zdp [a0,a1,a2,a3,some (.lst (a.map ptD)),some (.int e),v6,v7,v8] au) (loopK I Q):=by
 unfold zdp;simp only[W,V,Dd.N];refine⟨small _ (by simp),?_⟩;refine zce (λi σ s=>(∃v w,σ=[a0,a1,a2,a3,some (.lst (a.map ptD)),some (.int e),some (.ref au.length),v,w])/\s=au++[.lst ((lawL e (a.take i)).map ptD)]) ⟨⟨_,_,rfl⟩,rfl⟩ ?_ ?_
 ·rintro i y σ s r ⟨⟨v,w,rfl⟩,rfl⟩;obtain⟨p,b,rfl⟩:=zkv r;have u:i<a.length:=(xbd.mp b).1;obtain⟨c,q⟩:=f p (xbn b);refine⟨_,rfl,?_⟩;have d:(lawL e (a.take i)).length+(e+1)<=100000:=by
   have n:=zpx e (a.take i);have t:(a.take i).length=i:=by rw[xcl];lia
   rw[t] at n;have c:(i+1)*(e+1)<=a.length*(e+1):=xdj _ u;rw[xhv] at c;lia
  have C:=zws e p;unfold zge;simp only[W,V,L,zgp];refine⟨_,_,rfl,by simp;rfl,_,rfl,rngN (by split<;>lia) (by split<;>lia),by rw[zx];exact small _ (by split<;>lia),?_⟩;unfold rng;refine ziu (as:=List.range ((if p.2<(e:Int) then p.2 else(e:Int))+1).toNat) (λσ=>∃v,σ=[v,some (aL p.1),some (.int p.2),some (.int e)]) (λx=>decide (e&&&x=x)) (λj:Nat=>ptD (p.1++[(e:Int)+(j:Int)],p.2-(j:Int))) (λi=>.int (0+(i:Int))) ⟨_,rfl⟩ ?_ ?_
  ·rintro j A σ ⟨v,rfl⟩;refine⟨_,rfl,⟨_,rfl⟩,?_,λ_=>?_⟩
   ·simp only[W,V];rw[xhe,K07.zoo];refine⟨trivial,trivial,?_⟩;exact xhm.mpr ⟨λh=>by lia,λh=>by lia⟩
   ·simp only[W,V,Dd.N];rw[xhe];refine⟨small _ (by simp),by rw[xbb];exact small _ (by simp;lia),small _ (by simp),?_⟩;simp[ptD,aL]
  ·rw[zut q];refine⟨_,_,_,rfl,by simp;rfl,rfl,?_,⟨_,_,rfl⟩,?_⟩
   ·rw[xbb,xbb];have:(sharesL e 0 p.2).length<=e+1:=ziz _ _ _ _;exact small _ (by lia)
   ·rw[ze b,zbax];unfold lawJ;simp[xcv,Function.comp_def]
 ·rintro σ s ⟨⟨v,w,rfl⟩,rfl⟩;rw[xbb,xcb];simp only[W,V,M,Dd.N,L];refine⟨_,_,rfl,by simp;rfl,?_⟩;have:=k (some (.ref au.length)) v w [.dead]
  simpa using this
def zbui(a:Row)(b:List Row):oInG neg (aL a) (aK b) au=.ok (.bl (if neg then !decide (a∈b) else decide (a∈b))) au:=by
 unfold oInG;rw[zxl,zbjf];dsimp only;rw[if_pos ⟨zfu a,zjr b⟩];have e:((b.map dRow).any λy=>PyData.eqv y (dRow a))=decide (a∈b):=by
  rw[List.any_map,xgq,xlt,xhx];constructor
  ·rintro⟨x,c,h⟩;have h:PyData.eqv (dRow x) (dRow a)=true:=h;rw[zmr] at h;have:=xdc h;subst this;exact c
  ·intro h;refine⟨a,h,?_⟩;show PyData.eqv (dRow a) (dRow a)=true;rw[zmr];simp
 rw[e]
def zbgs(c:seqV x=some (aJ l))(a:FewU l)(k:∀g,Q (aK (aO l)) (au++g)):WP (zhe [x] au) Q:=by
 refine zif rfl ?_;simp only[W,V];refine⟨_,c,?_⟩;refine zce (λi σ s=>(∃v,σ=[some x,some (.ref au.length),v])/\s=au++[.dT (aQ (aN (l.take i)))]) ⟨⟨_,rfl⟩,rfl⟩ ?_ ?_
 ·rintro i y σ s e ⟨⟨v,rfl⟩,rfl⟩;obtain⟨r,b,rfl⟩:=zba e;refine⟨_,rfl,?_⟩;unfold zid;simp only[W,V,L];refine zxb (ks:=aN (l.take i)) (by simp) (a.sub λz d=>xek d).odd ⟨⟨_,rfl⟩,?_⟩;rw[ze b];unfold aN;rw[xez];simp
 ·rintro σ s ⟨⟨v,rfl⟩,rfl⟩;rw[zc,xcb];simp only[W,V];refine zlj (ks:=aN l) (by simp) a.odd ?_;simp only[W,V];exact k _
def small16(h:n<=16000000):n<=sizeLine:=by rw[xil];lia
def zbcg{b a:List Row}(d:b.length+a.length<=16000000)(c:FewU (b++a))(k:∀g,Q (aK (aO (b++a))) (au++g)):WP (zot [aK b,aK a] au) Q:=by
 refine zif rfl ?_;simp only[W,V];refine⟨by rw[zc,zc];exact small16 d,?_⟩;exact zbgs (l:=b++a) (by simp[seqV,aJ]) c k
def zvj(t:Int)(l:List Row)(i:Nat):∀x∈raiseL t (l.take i),x∈raiseL t l:=λx a=>by
 obtain⟨r,b,a⟩:=xcy.mp a;exact xcy.mpr ⟨r,xek b,a⟩
def zvh(A:0<=t)(q:∀r∈l,∀x∈r,0<=x/\x<=1000)(n:∀r∈l,r.length<=1000)(o:∀r∈l,box r<=20000)(m:FewU (raiseL t l))(k:∀g,Q (aK (aO (raiseL t l))) (au++g)):WP (zht [aK l,.int t] au) Q:=by
 refine zif rfl ?_;simp only[W,V,Dd.N];refine WP.of (zdu (au:=au) (i:=t)) ⟨true,rfl,?_⟩;have p:¬ t<0:=by lia
 simp only[W,V,Dd.N,p,xip];refine zce (λi σ s=>(∃v w,σ=[some (aK l),some (.int t),some (.ref au.length),v,w])/\∃g,s=au++(.dT (aQ (aN (raiseL t (l.take i))))::g)) ⟨⟨_,_,rfl⟩,[],rfl⟩ ?_ ?_
 ·rintro i y σ s h ⟨⟨v,w,rfl⟩,g,rfl⟩;obtain⟨r,a,rfl⟩:=zba h;have e:=xbn a;refine⟨_,rfl,?_⟩;unfold zle;simp only[W,V,M,Dd.N,L];refine⟨r,zcm r,?_⟩;rw[ze a,zkm];split
  ·rename_i c;have d:raiseR t r=prodP r t:=by unfold raiseR;rw[if_pos c]
   rw[d];refine zig (q r e) (n r e) (o r e) λu=>?_
   simp only[W,V,Dd.N];rw[xch,xjz];generalize g++u=g3;refine zce (λj σ s=>(∃w,σ=[some (aK l),some (.int t),some (.ref au.length),some (aL r),w])/\s=au++(.dT (aQ (aN (raiseL t (l.take i)++(prodP r t).take j)))::g3)) ⟨⟨_,rfl⟩,by rw[xmq,xdt]⟩ ?_ ?_
   ·rintro j y σ s h ⟨⟨w,rfl⟩,rfl⟩;obtain⟨b,f,rfl⟩:=zba h;refine⟨_,rfl,?_⟩;unfold zlf;simp only[W,V,L];refine zxb (ks:=aN (raiseL t (l.take i)++(prodP r t).take j)) (zfb _ _) (m.sub λz hz=>?_).odd ⟨⟨_,rfl⟩,?_⟩
    ·rcases xcc.mp hz with hz|hz
     ·exact zvj t l i z hz
     ·exact xcy.mpr ⟨r,e,by rw[d];exact xek hz⟩
    ·rw[zkk,ze f,←xch];unfold aN;rw[xez (l':=[b])]
     rfl
   ·rintro σ s ⟨⟨w,rfl⟩,rfl⟩;simp only[L];refine⟨⟨_,_,rfl⟩,g3,?_⟩;rw[zc,xcb]
  ·rename_i c;have d:raiseR t r=[]:=by unfold raiseR;rw[if_neg c]
   rw[d,xdt]
   try simp only[L]
   exact⟨⟨_,_,rfl⟩,g,rfl⟩
 ·rintro σ s ⟨⟨v,w,rfl⟩,g,rfl⟩;rw[zc,xcb];simp only[W,V];refine zlj (ks:=aN (raiseL t l)) (zfb _ _) m.odd ?_;simp only[W,V];exact k _
def Ge:Row->Row->Prop
 |[],[]=>True
 |p::ps,v::vs=>p<=v/\Ge ps vs
 |_,_=>False
def Ge.refl:∀p:Row,Ge p p
 |[]=>trivial
 |p::ps=>⟨xoj _,Ge.refl ps⟩
def Ge.trans:∀{a b c},Ge a b->Ge b c->Ge a c
 |[],[],[],_,_=>trivial
 |_::_,_::_,_::_,h1,h2=>⟨xmc h1.1 h2.1,Ge.trans h1.2 h2.2⟩
def Ge.len:∀{a b},Ge a b->b.length=a.length
 |[],[],_=>rfl
 |_::_,_::_,h=>by rw[xbv,xbv,Ge.len h.2]
def Ge.append:∀{a b c d},Ge a b->Ge c d->Ge (a++c) (b++d)
 |[],[],_,_,_,h=>h
 |_::_,_::_,_,_,h1,h2=>⟨h1.1,Ge.append h1.2 h2⟩
def Ge.sum:∀{a b},Ge a b->a.sum<=b.sum
 |[],[],_=>xoj _
 |_::_,_::_,h=>by
  have:=Ge.sum h.2;have:=h.1;rw[xcz,xcz];lia
def Ge.pos:∀{a b},Ge a b->(∀x∈a,0<=x)->∀x∈b,0<=x
 |[],[],_,h,x,hx=>h x hx
 |p::a,v::b,h,ha,x,hx=>by
  rcases xbm.mp hx with rfl|hx
  ·have:=ha p xby;have:=h.1;lia
  ·exact Ge.pos h.2 (λy c=>ha y (xbi _ c)) x hx
def vle:Row->Nat->List Row
 |[],_=>[[]]
 |p::ps,K=>(List.range (K+1)).flatMap λj:Nat=>(vle ps (K-j)).map ((p+(j:Int))::·)
noncomputable def cle:Nat->Nat->Nat
 |0,_=>1
 |n+1,K=>((List.range (K+1)).map λj=>cle n j).sum
noncomputable def acc:Nat->List Nat->List Nat
 |_,[]=>[]
 |s,a::l=>(s+a)::acc (s+a) l
def tb:Nat->List Nat
 |0=>List.replicate 17 1
 |n+1=>acc 0 (tb n)
def ctb(n K:Nat):Nat:=(tb n).getD K 0
def zber:∀{l s i},i<l.length->(acc s l)[i]?=some (s+(l.take (i+1)).sum)
 |[],_,_,h=>by simp at h
 |a::l,s,0,_=>by simp[acc]
 |a::l,s,i+1,h=>by
  have:=zber (l:=l) (s:=s+a) (i:=i) (by simpa using h);unfold acc;rw[xgk,this,List.take_succ_cons,xcz,xnb]
def zbeq:∀(l:List Nat) (s:Nat),(acc s l).length=l.length
 |[],_=>rfl
 |a::l,s=>by unfold acc;rw[xbv,xbv,zbeq l]
def zbfh:∀n,(tb n).length=17
 |0=>rfl
 |n+1=>by unfold tb;rw[zbeq,zbfh n]
def zblm:∀n:Nat,tb n=(List.range 17).map (cle n)
 |0=>rfl
 |n+1=>by
  apply xif;intro i;by_cases h:i<17
  ·have e:=zber (l:=tb n) (s:=0) (i:=i) (by rw[zbfh];exact h);unfold tb;rw[e,zblm n,xcg,xkf h,←List.map_take,List.take_range,xeg (by lia),xel]
   rfl
  ·rw[xfz (by rw[zbfh];lia),xfz (by simp;lia)]
def zxr{K:Nat}(h:K<17):ctb n K=cle n K:=by
 unfold ctb;rw[zblm,xbh,xcg,xkf h]
 rfl
def zbfi(f:Nat->Nat):∀K:Nat,((List.range (K+1)).map λj=>f (K-j)).sum=((List.range (K+1)).map f).sum:=λK=>by
 have e:((List.range (K+1)).map λj=>f (K-j))=((List.range (K+1)).map f).reverse:=by
  apply xjs
  ·simp
  ·intro i b a;simp at b a ⊢
 rw[e,List.sum_reverse]
def zpz{α β:Type}(f:α->List β):∀l:List α,(l.flatMap f).length=(l.map λa=>(f a).length).sum
 |[]=>rfl
 |a::l=>by rw[xlk,xbk,zpz f l,xbr,xcz]
def zuf:∀(p:Row) (K:Nat),(vle p K).length=cle p.length K
 |[],_=>rfl
 |p::ps,K=>by
  show((List.range (K+1)).flatMap λj:Nat=>(vle ps (K-j)).map ((p+(j:Int))::·)).length=((List.range (K+1)).map λj=>cle ps.length j).sum;rw[zpz,←zbfi (cle ps.length)]
  congr 1
  refine xea λj _=>?_
  rw[xbb,zuf ps]
def znc:∀{p v:Row}{K:Nat},Ge p v->v.sum<=p.sum+K->v∈vle p K
 |[],[],K,_,_=>by simp[vle]
 |p::ps,v::vs,K,h,hs=>by
  have b:=h.1;have a:=h.2.sum;rw[xcz,xcz] at hs;refine xcy.mpr ⟨(v-p).toNat,xbs.mpr (by lia),xbt.mpr ⟨vs,znc h.2 (by lia),?_⟩⟩;rw[show p+((v-p).toNat:Int)=v by lia]
def ztc:∀{p v K},v∈vle p K->Ge p v/\v.sum<=p.sum+K
 |[],v,K,h=>by
  simp[vle] at h;subst h;exact⟨trivial,by simp⟩
 |p::ps,v,K,h=>by
  obtain⟨j,a,h⟩:=xcy.mp h;obtain⟨w,b,rfl⟩:=xbt.mp h;obtain⟨c,d⟩:=ztc b;have a:=xbs.mp a;refine⟨⟨by lia,c⟩,?_⟩;rw[xcz,xcz];lia
def zbey(r:Row):∀x∈wholeS r,Ge r x:=by
 have:=zqw (P:=λm s=>∀x∈s,Ge m x) (by simp;exact trivial) (λm e s f=>?_) r r.length
 ·rw[xcb] at this;exact this
 ·intro x a;unfold wholeStep longL at a;obtain⟨b,c,a⟩:=xcy.mp a;obtain⟨y,d,rfl⟩:=xbt.mp a;have:=(zbgr d).1;exact(f b c).append ⟨by lia,trivial⟩
def zvk(h:∀y∈r,0<=y)(b:0<=k)(a:x∈raiseR k r):Ge r x/\x.sum=r.sum+k:=by
 rw[znm h b] at a;obtain⟨d,c⟩:=xcp.mp a;exact⟨zbey r x d,by simpa using c⟩
def zblq(e:Nat)(lo a:Int)(n:Nat):(subL e lo a n).Nodup:=List.Pairwise.filter _ xls
def zbni(e:Nat):(outL e).Nodup:=by
 unfold outL;rw[xgu,xnk];have:=zblq e 0 e (e+1);rw[xgu] at this;exact this.imp λh=>by lia
def zbon{c:List Row}{xs:List Int}(e:c.Nodup)(g:xs.Nodup):(longL c xs).Nodup:=by
 rw[xij];intro x;rcases List.eq_nil_or_concat x with rfl|⟨a,b,rfl⟩
 ·have:[]∉longL c xs:=λh=>by
   unfold longL at h;obtain⟨i,_,h⟩:=xcy.mp h;obtain⟨y,_,h⟩:=xbt.mp h;simp at h
  rw[xhu.mpr this];lia
 ·rw[List.concat_eq_append,zoi];have d:=xij.mp e a;have f:=xij.mp g b;exact xbc (xkx d f) (by decide)
def zbex(r:Row):(wholeS r).Nodup:=by
 have:=zqw (P:=λm s=>s.Nodup) (by simp) (λm e s a=>zbon a (zbni _)) r r.length
 rwa [xcb] at this
def zzt{k:Nat}(h:∀y∈r,0<=y):(raiseR (k:Int) r).length<=cle r.length k:=by
 rw[←zuf];refine xeo ?_ λx a=>?_
 ·rw[znm h (by lia)];exact(zbex r).filter _
 ·obtain⟨b,c⟩:=zvk h (by lia) a;exact znc b (by lia)
def zbef:∀e:Nat,3*((e+1)*2^e)<=4*3^e
 |0=>by decide
 |1=>by decide
 |e+2=>by
  have a:=zbef (e+1);rw[xkt 2 (e+1),xkt 3 (e+1)];have h:(e+2+1)*(2^(e+1)*2)<=((e+1+1)*2^(e+1))*3:=by
   rw[xny (2^(e+1)) 2,←xkc,xny ((e+1+1)*2^(e+1)) 3,←xkc];exact xdj _ (by lia)
  lia
def zbeo:∀{r:Row},(∀x∈r,0<=x)->3^r.length*(box r*2^r.sum.toNat)<=4^r.length*3^r.sum.toNat
 |[],_=>by simp[box]
 |e::r,h=>by
  have j:=h e xby;have a:=λx c=>h x (xbi e c)
  have b:=zbeo a;have k:=zmc a;have f:=zbef e.toNat;have g:(e::r).sum.toNat=e.toNat+r.sum.toNat:=by rw[xcz];lia
  rw[g,Nat.pow_add,Nat.pow_add,xbv,xkt,xkt];show 3^r.length*3*((e.toNat+1)*box r*(2^e.toNat*2^r.sum.toNat))<=4^r.length*4*(3^e.toNat*3^r.sum.toNat)
  have m:=xkx b f;have i:3^r.length*3*((e.toNat+1)*box r*(2^e.toNat*2^r.sum.toNat))=3^r.length*(box r*2^r.sum.toNat)*(3*((e.toNat+1)*2^e.toNat)):=by
   simp only[xkc,xny,Nat.mul_left_comm]
  have d:4^r.length*4*(3^e.toNat*3^r.sum.toNat)=4^r.length*3^r.sum.toNat*(4*3^e.toNat):=by
   simp only[xkc,xny,Nat.mul_left_comm]
  rw[i,d];exact m
def zbii:(List.range 11).all (λn=>(List.range 18).all λs=>Nat.blt (4^n*3^s) (3^n*(20001*2^s)))=true:=by decide +kernel
def zbvy{r:Row}(g:r.length<=10)(h:∀x∈r,0<=x)(f:r.sum<=17):box r<=20000:=by
 have d:=zbeo h;have a:=xca.mp (xca.mp zbii r.length (xbs.mpr (by lia))) r.sum.toNat (xbs.mpr (by lia));have a:4^r.length*3^r.sum.toNat<3^r.length*(20001*2^r.sum.toNat):=Nat.blt_eq.mp a;have c:=xdl d a;have b:=Nat.lt_of_mul_lt_mul_left c;have e:=Nat.lt_of_mul_lt_mul_right b;lia
def zyc:(List.range 32).all (λa=>(List.range 32).all λb=>Nat.ble ((a+1)*((b+1)*(31-a-b+1))) 20000)=true:=by decide +kernel
def zhq(h:a+b+c<=31):(a+1)*((b+1)*(c+1))<=20000:=by
 have d:=xca.mp (xca.mp zyc a (xbs.mpr (by lia))) b (xbs.mpr (by lia));have d:(a+1)*((b+1)*(31-a-b+1))<=20000:=xmf.mp d;exact xbc (Nat.mul_le_mul_left _ (Nat.mul_le_mul_left _ (by lia))) d
def zbvx:∀{r},r.length<=3->(∀x∈r,0<=x)->r.sum<=31->box r<=20000
 |[],_,_,_=>by simp[box]
 |[a],_,h,s=>by
  have:=zhq (a:=a.toNat) (b:=0) (c:=0) (by simp at s;lia)
  simpa [box] using this
 |[a,b],_,h,s=>by
  have e:=h a (by simp);have d:=h b (by simp);have:=zhq (a:=a.toNat) (b:=b.toNat) (c:=0) (by simp at s;lia)
  simpa [box] using this
 |[a,b,c],_,h,s=>by
  have e:=h a (by simp);have d:=h b (by simp);have f:=h c (by simp);have:=zhq (a:=a.toNat) (b:=b.toNat) (c:=c.toNat) (by simp at s;lia)
  simpa [box] using this
 |_::_::_::_::_,h,_,_=>by simp at h
structure KX (n K:Nat) (some:List Row):Prop where
 rows:Rows n some
 big:(n<=3/\K<=16/\some.length<=40/\∀p∈some,p.sum+K<=32)\/(n<=10/\K<=8/\some.length<=12/\∀p∈some,p.sum+K<=18)
def UU(some:List Row) (T:Nat):List Row:=some.flatMap λp=>vle p T
def zsz{some:List Row}{T S:Nat}(h:T<=S){x:Row}(a:x∈UU some T):x∈UU some S:=by
 obtain⟨p,b,a⟩:=xcy.mp a;obtain⟨c,d⟩:=ztc a;exact xcy.mpr ⟨p,b,znc c (by lia)⟩
def zys{some:List Row}{x:Row}(h:x∈some):x∈UU some 0:=xcy.mpr ⟨x,h,znc (Ge.refl x) (by lia)⟩
def zbkn{n:Nat}{some:List Row}(h:Rows n some)(T:Nat):(UU some T).length=some.length*cle n T:=by
 unfold UU;rw[zpz];have:∀l:List Row,Rows n l->(l.map λp=>(vle p T).length).sum=l.length*cle n T:=λl=>by
  induction l with
  |nil=>intro _;simp
  |cons a l ih=>
   intro h;rw[xbr,xcz,ih λr b=>h r (xbi _ b),zuf,(h a xby).1,xbv,xhv];lia
 exact this some h
def zhs{n:Nat}{some l:List Row}{T k:Nat}(h:Rows n some)(g:∀x∈l,x∈UU some T){x:Row}(a:x∈raiseL (k:Int) l):x∈UU some (T+k):=by
 obtain⟨r,d,a⟩:=xcy.mp a;obtain⟨p,c,f⟩:=xcy.mp (g r d);obtain⟨b,j⟩:=ztc f;obtain⟨e,i⟩:=zvk (b.pos (h p c).2) (by lia) a;exact xcy.mpr ⟨p,c,znc (b.trans e) (by lia)⟩
def zbjw:(List.range 4).all (λn=>(List.range 17).all λT=>Nat.ble (40*ctb n T) 600000)=true:=by decide +kernel
def zbbx:(List.range 11).all (λn=>(List.range 9).all λT=>Nat.ble (12*ctb n T) 600000)=true:=by decide +kernel
section
variable {n:Nat}{K:Nat}{some:List Row}
def KX.top(h:KX n K some){T:Nat}(e:T<=K):(UU some T).length<=600000:=by
 rw[zbkn h.rows];rcases h.big with⟨b,d,a,c⟩|⟨b,d,a,c⟩
 ·have:=xmf.mp (xca.mp (xca.mp zbjw n (xbs.mpr (by lia))) T (xbs.mpr (by lia)));rw[zxr (by lia)] at this;exact xbc (xdj _ a) this
 ·have:=xmf.mp (xca.mp (xca.mp zbbx n (xbs.mpr (by lia))) T (xbs.mpr (by lia)));rw[zxr (by lia)] at this;exact xbc (xdj _ a) this
def KX.few(h:KX n K some){T:Nat}(a:T<=K){l:List Row}(b:∀x∈l,x∈UU some T):FewU l:=FewU.of b (by have:=h.top a;lia)
def KX.len(h:KX n K some){T:Nat}(a:T<=K){l:List Row}(b:l.Nodup)(d:∀x∈l,x∈UU some T):l.length<=600000:=xbc (xeo b λx c=>d x c) (h.top a)
def KX.item(h:KX n K some){T:Nat}(o:T<K){x:Row}(i:x∈UU some T):x.length=n/\(∀y∈x,0<=y/\y<=1000)/\box x<=20000:=by
 obtain⟨p,d,l⟩:=xcy.mp i;obtain⟨f,m⟩:=ztc l;have a:=f.pos (h.rows p d).2;have c:=f.len.trans (h.rows p d).1;rcases h.big with⟨g,k,j,e⟩|⟨g,k,j,e⟩
 ·have:=e p d;refine⟨c,λy b=>⟨a y b,?_⟩,zbvx (by lia) a (by lia)⟩;have:=zbtt a y b;lia
 ·have:=e p d;refine⟨c,λy b=>⟨a y b,?_⟩,zbvy (by lia) a (by lia)⟩;have:=zbtt a y b;lia
end
def zrj:∀{l},(∀r∈l,(raiseR k r).length<=B)->(raiseL k l).length<=l.length*B
 |[],_=>by simp[raiseL]
 |a::l,h=>by
  have e:=h a xby;have c:=zrj (l:=l) λb d=>h b (xbi _ d)
  unfold raiseL at c ⊢;rw[xlk,xbk,xbv,xhv];lia
section
variable {au:Store}{Q:D->Store->Prop}{n:Nat}{K:Nat}{some:List Row}
def zvi(h:KX n K some){T k:Nat}(f:1<=k)(e:T+k<=K){l:List Row}(c:∀x∈l,x∈UU some T)(q:∀g,Q (aK (aO (raiseL (k:Int) l))) (au++g)):WP (zht [aK l,.int (k:Int)] au) Q:=
 zvh (by lia) (λr a=>(h.item (by lia) (c r a)).2.1) (λr a=>by rw[(h.item (by lia) (c r a)).1];rcases h.big with b|b<;>lia) (λr a=>(h.item (by lia) (c r a)).2.2) (h.few e λx d=>zhs h.rows c d) q
end
def R(a:Row) (l:List Row):List Row:=a.foldr raiseL l
def doneL(a l:List Row):List Row:=a.flatMap λb=>R b l
def zbwj(a:Row)(k:Int)(l:List Row):R (a++[k]) l=R a (raiseL k l):=by unfold R;rw[List.foldr_append];rfl
def zbxg:∀(c:Row) {a b:List Row},(∀x,a.count x%2=b.count x%2)->∀x,(R c a).count x%2=(R c b).count x%2
 |[],_,_,h=>h
 |k::c,_,_,h=>zri k (zbxg c h)
def zbrf:∀a:Row,R a []=[]
 |[]=>rfl
 |k::a=>by show raiseL k (R a [])=[];rw[zbrf a];rfl
def zbbm(b:List Row):doneL b []=[]:=by
 unfold doneL
 induction b with
 |nil=>rfl
 |cons a b ih=>rw[xlk,zbrf,ih];rfl
def zpa{α:Type}:∀l:List α,tot l (λ_=>0)=0
 |[]=>rfl
 |a::l=>by rw[zbt,zpa l]
def zbcm(c:Nat):∀{b:List Int},b.Nodup->k∈b->tot b (λj=>if k=j then c else 0)=c
 |[],_,h=>by cases h
 |j::b,nd,h=>by
  have f:=xdg.mp nd;rw[zbt];by_cases e:k=j
  ·subst e;have:tot b (λj=>if k=j then c else 0)=0:=by
    rw[zzf (d:=λ_=>0) λa g=>if_neg λz:k=a=>f.1 (z ▸ g),zpa]
   rw[if_pos rfl,this];lia
  ·rcases xbm.mp h with h|h
   ·exact absurd h e
   ·rw[if_neg e,zbcm c f.2 h];lia
def zun{α:Type}(d:α->Int)(c:α->Nat){f:List Int}(g:f.Nodup):∀{L:List α},(∀a∈L,d a∈f)->tot L c=tot f λk=>tot (L.filter λa=>decide (d a=k)) c
 |[],_=>(zpa f).symm
 |a::L,h=>by
  have i:=zun d c g (L:=L) λb j=>h b (xbi _ j)
  have e:(λk=>tot ((a::L).filter λb=>decide (d b=k)) c)=λk=>(if d a=k then c a else 0)+tot (L.filter λb=>decide (d b=k)) c:=funext λk=>by
   by_cases q:d a=k
   ·rw[xck (by simpa using q),zbt,if_pos q]
   ·rw[xco (by simpa using q),if_neg q,xel]
  rw[zbt,e,zbcn,zbcm (c a) g (h a xby),i]
def zra{α:Type}(p:α->Bool)(c:α->Nat):∀L:List α,tot L c=tot (L.filter p) c+tot (L.filter λa=>!p a) c
 |[]=>rfl
 |a::L=>by
  rw[zbt,zra p c L];by_cases q:p a=true
  ·rw[xck q,xco (by rw[q];decide),zbt];lia
  ·rw[xco q,xck (by simpa using q),zbt];lia
abbrev full(r:Row):Bool:=!r.isEmpty
abbrev lastD(r:Row):Int:=r.getLastD 0
def lasts(a:List Row):List Int:=sortI (once ((a.filter full).map lastD))
def ahead(k:Int) (a:List Row):List Row:=(a.filter λr=>full r&&decide (lastD r=k)).map List.dropLast
def zbhp(a:List Row):(lasts a).Nodup:=(zja _).nodup_iff.mpr (zrq _)
def zim:k∈lasts b↔∃r∈b,r≠[]/\lastD r=k:=by
 unfold lasts;rw[(zja _).mem_iff,zjd,xbt];constructor
 ·rintro⟨r,h,e⟩;obtain⟨d,c⟩:=xcp.mp h;exact⟨r,d,by rintro rfl;simp[full] at c,e⟩
 ·rintro⟨r,d,c,e⟩;exact⟨r,xcp.mpr ⟨d,by cases r with|nil=>exact absurd rfl c|cons a r=>rfl⟩,e⟩
def zjb(h:r≠[]):r.dropLast++[lastD r]=r:=by
 have:lastD r=r.getLast h:=by
  unfold lastD;rw[List.getLastD_eq_getLast?,List.getLast?_eq_some_getLast h]
  rfl
 rw[this];exact xms h
def zxf{c:List Row}(f:c.Nodup):c.filter (λr=>!full r)=if[]∈c then[[]] else[]:=by
 induction c with
 |nil=>rfl
 |cons a c ih=>
  have d:=xdg.mp f;cases a with
  |nil=>
   rw[xck rfl,ih d.2,if_neg d.1,if_pos xby]
  |cons b a=>
   rw[xco (by simp[full]),ih d.2];have e:([]∈(b::a)::c)=([]∈c):=by simp
   simp only[e]
def zxi{b:List Row}(i:b.Nodup)(x:Row):(doneL b l).count x%2=((if[]∈b then l else[])++(lasts b).flatMap λk=>doneL (ahead k b) (aO (raiseL k l))).count x%2:=by
 unfold doneL;rw[zdx,zra full (λr=>(R r l).count x),zxf i,xer,zdx];have m:tot (if[]∈b then[([]:Row)] else[]) (λr=>(R r l).count x)=(if[]∈b then l else[]).count x:=by
  split
  ·rw[zbt,zblj];rfl
  ·rfl
 have g:tot (b.filter full) (λr=>(R r l).count x)=tot (lasts b) λk=>tot ((b.filter full).filter λr=>decide (lastD r=k)) λr=>(R r l).count x:=zun lastD _ (zbhp b) λr d=>by
  obtain⟨f,c⟩:=xcp.mp d;exact zim.mpr ⟨r,f,by rintro rfl;simp[full] at c,rfl⟩
 have p:(tot (lasts b) λk=>tot ((b.filter full).filter λr=>decide (lastD r=k)) λr=>(R r l).count x)%2=(tot (lasts b) λk=>((ahead k b).flatMap λe=>R e (aO (raiseL k l))).count x)%2:=zum λk o=>by
  rw[zdx];unfold ahead;rw[zblk,xks];have n:(b.filter λa=>decide (lastD a=k)&&full a)=b.filter λr=>full r&&decide (lastD r=k):=xgo λr _=>Bool.and_comm _ _
  rw[n];refine zum λr d=>?_
  obtain⟨f,c⟩:=xcp.mp d;rw[xcs,xhx] at c;have j:r≠[]:=by rintro rfl;simp[full] at c
  have h:R r l=R r.dropLast (raiseL k l):=by
   conv=>lhs;rw[←zjb j]
   rw[zbwj,c.2]
  rw[h];exact zbxg _ (λz=>(zhb _ z).symm) x
 rw[m,g];lia
structure RowsK (K T:Nat) (rows:List Row):Prop where
 pos:∀r∈rows,∀p∈r,1<=p
 sum:∀r∈rows,r.sum+T<=K
def zbxh{n K:Nat}{some:List Row}(h:KX n K some){T:Nat}{l:List Row}(d:∀x∈l,x∈UU some T):∀{row:Row},(∀p∈row,1<=p)->∀x∈R row l,x∈UU some (T+row.sum.toNat)
 |[],_,x,hx=>by simpa using d x hx
 |k::row,hp,x,hx=>by
  have a:=λp a=>hp p (xbi k a)
  have f:=hp k xby;have g:0<=row.sum:=zmc λp b=>by have:=a p b;lia
  have e:=zbxh h d (row:=row) a;obtain⟨c,rfl⟩:=xdk (show 0<=k by lia);have:=zhs h.rows e hx;rw[xcz,show T+((c:Int)+row.sum).toNat=T+row.sum.toNat+c by lia];exact this
def zqd{n K:Nat}{some:List Row}(h:KX n K some){T:Nat}{b l:List Row}(c:RowsK K T b)(g:∀x∈l,x∈UU some T):∀x∈doneL b l,x∈UU some K:=λx d=>by
 obtain⟨a,e,d⟩:=xcy.mp d;have:=c.sum a e;have i:0<=a.sum:=zmc λp f=>by have:=c.pos a e p f;lia
 exact zsz (by lia) (zbxh h g (c.pos a e) x d)
def zgx{K T:Nat}(j:RowsK K T a) (o:k∈lasts a):1<=k/\k+T<=K/\RowsK K (T+k.toNat) (ahead k a):=by
 obtain⟨r,n,l,rfl⟩:=zim.mp o;have part:∀r∈a,r≠[]->1<=lastD r/\(∀p∈r.dropLast,1<=p)/\r.dropLast.sum+lastD r=r.sum:=λr h l=>by
  have e:=zjb l;have d:=j.pos r h;rw[←e] at d;refine⟨d _ (by simp),λp i=>d p (xii _ i),?_⟩
  conv=>rhs;rw[←e]
  rw[xes,List.sum_singleton]
 obtain⟨s,t,w⟩:=part r n l;have x:0<=r.dropLast.sum:=zmc λp d=>by have:=t p d;lia
 have v:=j.sum r n;refine⟨s,by lia,λq m=>?_,λq m=>?_⟩
 ·obtain⟨g,b,rfl⟩:=xbt.mp m;obtain⟨f,c⟩:=xcp.mp b;exact(part g f (by rintro rfl;simp[full] at c)).2.1
 ·obtain⟨g,b,rfl⟩:=xbt.mp m;obtain⟨f,c⟩:=xcp.mp b;rw[xcs,xhx] at c;have u:=(part g f (by rintro rfl;simp[full] at c)).2.2;have y:=j.sum g f;rw[c.2] at u;lia
def zbkk:∀{c},c.Nodup->(ahead k c).Nodup:=λ{c} l=>by
 unfold ahead;rw[xgu,xnk];have d:(c.filter λr=>full r&&decide (lastD r=k)).Nodup:=List.Pairwise.filter _ l;rw[xgu] at d;refine d.imp_of_mem λ{a b} j i m e=>m ?_
 have f:∀{r},r∈c.filter (λr=>full r&&decide (lastD r=k))->r=r.dropLast++[k]:=λ{r} h=>by
  obtain⟨_,g⟩:=xcp.mp h;rw[xcs,xhx] at g;have:=zjb (r:=r) (by rintro rfl;simp[full] at g);rw[g.2] at this;exact this.symm
 rw[f j,f i,e]
def zbic(a:Row)(b:List Row):oInG neg (aL a) (.lst (aJ b)) au=.ok (.bl (if neg then !decide (a∈b) else decide (a∈b))) au:=by
 have d:dataOf au (.lst (aJ b))=some (.list (b.map dRow)):=by
  unfold dataOf now;show toData (.lst (aJ b))=_;rw[toData,zsp]
  rfl
 unfold oInG;rw[zxl,d];dsimp only;rw[if_pos ⟨zfu a,zjr b⟩];have e:((b.map dRow).any λy=>PyData.eqv y (dRow a))=decide (a∈b):=by
  rw[List.any_map,xgq,xlt,xhx];constructor
  ·rintro⟨x,c,h⟩;have h:PyData.eqv (dRow x) (dRow a)=true:=h;rw[zmr] at h;have:=xdc h;subst this;exact c
  ·intro h;refine⟨a,h,?_⟩;show PyData.eqv (dRow a) (dRow a)=true;rw[zmr];simp
 rw[e]
def SeqR(x:D) (a:List Row):Prop:=x=aK a\/x=.lst (aJ a)
def SeqR.in_(h:SeqR x rows)(a:Row):oInG false (aL a) x au=.ok (.bl (decide (a∈rows))) au:=by
 rcases h with rfl|rfl
 ·exact zbui (neg:=false) a rows
 ·exact zbic (neg:=false) a rows
def SeqR.seq(h:SeqR x rows):seqV x=some (aJ rows):=by
 rcases h with rfl|rfl<;>rfl
def zwu(h:r≠[]):oIx (aL r) (.int (-1)) au=.ok (.int (lastD r)) au:=by
 conv=>lhs;rw[←zjb h]
 refine zjh rfl ?_;rw[xdi];exact zqo _ _
def zbbv(h:r≠[]):cutD (r.map D.int) none (some (-1))=r.dropLast.map D.int:=by
 conv=>lhs;rw[←zjb h]
 exact zbju _ _
def zwz:tru au (aL r)=some (full r):=by
 cases r<;>rfl
def zbho(e:SeqR x a)(l:a.length<=1000)(k:∀r∈a,r≠[]->0<=lastD r/\lastD r<64)(q:Q (.lst ((lasts a).map .int)) au):
  WP (aE bSortSet (aB (aG (aH (aA 0)) 1 [] (gN 0) (eTru (aA 0)) (aS oIx (aA 0) (eUn oNeg (eC (.int 1))))) aC) (some x::σ) au) Q:=by
 simp only[W,V];refine⟨_,e.seq,by rw[zc];exact small _ (by lia),?_⟩;refine ziu (as:=a) (λσ=>∃v,σ=[v]) full (λr=>.int (lastD r)) aL ⟨_,rfl⟩ ?_ ?_
 ·rintro r b σ ⟨v,rfl⟩;refine⟨_,rfl,⟨_,rfl⟩,?_,λd=>?_⟩
  ·simp only[W,V];exact⟨_,zwz,trivial,rfl⟩
  ·simp only[W,V];have i:r≠[]:=by rintro rfl;cases d
   exact WP.of (zwu i) ⟨rfl,rfl⟩
 ·have c:=zcm ((a.filter full).map lastD);rw[xcv] at c;have f:bSortSet [.lst ((a.filter full).map λr=>.int (lastD r))] au=.ok (.lst ((lasts a).map .int)) au:=by
   unfold bSortSet;dsimp only;rw[show(asL au (.lst ((a.filter full).map λr=>D.int (lastD r)))).bind asInts=some ((a.filter full).map lastD) from c];dsimp only;rw[if_pos]
   ·rfl
   rw[xca];intro y h;obtain⟨r,b,rfl⟩:=xbt.mp h;obtain⟨g,j⟩:=xcp.mp b;have:=k r g (by rintro rfl;cases j);unfold smallI;rw[xcs];exact⟨xcj this.1,xcj this.2⟩
  exact WP.of f q
def zbkj(c:SeqR x rows)(g:rows.length<=1000)(q:Q (.lst (aJ (ahead k rows))) au):
  WP (aG (aH (aA 0)) 1 [3] (gN 0) (bAnd (eTru (aA 0)) (eB (aS oEq (aS oIx (aA 0) (eUn oNeg (eC (.int 1)))) (aA 1)))) (eSl (aA 0) pNone (pSome (eUn oNeg (eC (.int 1))))) (some x::v1::v2::some (.int k)::v4::σ) au) Q:=by
 simp only[W,V];refine⟨_,c.seq,by rw[zc];exact small _ (by lia),?_⟩;refine ziu (as:=rows) (λσ=>∃v,σ=[v,some (.int k)]) (λr=>full r&&decide (lastD r=k)) (λr=>aL r.dropLast) aL ⟨_,rfl⟩ ?_ ?_
 ·rintro r f σ ⟨v,rfl⟩;refine⟨_,rfl,⟨_,rfl⟩,?_,λb=>?_⟩
  ·simp only[W,V];refine⟨_,zwz,?_⟩;cases r with
   |nil=>exact⟨trivial,rfl⟩
   |cons a r=>
    rw[if_pos (show full (a::r)=true from rfl)];refine WP.of (zwu (by simp)) ?_;simp only[W,V];exact⟨trivial,by simp[full]⟩
  ·simp only[W,V,M,Dd.N];have d:r≠[]:=by rintro rfl;cases b
   rw[zbbv d]
   try exact⟨rfl,rfl⟩
   try exact⟨trivial,rfl⟩
 ·have e:(rows.filter λr=>full r&&decide (lastD r=k)).map (λr=>aL r.dropLast)=aJ (ahead k rows):=by
   unfold ahead aJ;rw[xcv]
   rfl
  rw[e];exact q
def zjf{l U:List Row}(h:∀x∈l,x∈U):∀x∈aO l,x∈U:=λx a=>h x (zcz a)
def zbck(h:WP (E σ au) (λx s=>∃a,seqV x=some a/\WP (forF bd body a σ s) Q)):WP (sFor (aH E) bd body σ au) Q:=by
 simp only[W];exact h
def zbcj(h:WP (E σ au) (λv s=>Q (.nx (σ.set i (some v))) s)):WP (aF i E σ au) Q:=by
 simp only[W];exact h
def zbkw(e:c σ au=.ok t au)(h:if t=true then WP (a σ au) Q else WP (b σ au) Q):WP (sIf c a b σ au) Q:=by
 simp only[W];exact WP.of e h
def zbeh(a:f σ au=.ok v au)(c:tru au v=some b):eTru f σ au=.ok b au:=by
 unfold eTru;rw[a];simp[c]
def zbco(a:Store)(l:List Row):tru a (aK l)=some (!l.isEmpty):=by
 cases l<;>rfl
def soFar(a l:List Row) (i:Nat):List Row:=(if[]∈a then l else[])++((lasts a).take i).flatMap λk=>doneL (ahead k a) (aO (raiseL k l))
def zzk{n K T:Nat}{b a l:List Row}(h:KX n K b)(d:RowsK K T a)(j:T<=K)(c:∀y∈l,y∈UU b T)(i:Nat):∀y∈soFar a l i,y∈UU b K:=λy hy=>by
 rcases xcc.mp hy with hy|hy
 ·split at hy
  ·exact zsz j (c y hy)
  ·cases hy
 ·obtain⟨k,e,hy⟩:=xcy.mp hy;obtain⟨p,o,f⟩:=zgx d (xek e);obtain⟨m,rfl⟩:=xdk (show 0<=k by lia);exact zqd h f (zjf λz g=>zhs h.rows c g) y hy
section
variable {au:Store}{Q:D->Store->Prop}
def zso{n K T:Nat}{J:List Row}(h:KX n K J){S:DFn}{x:D}{b l:List Row}(C:SeqR x b)(nd:b.Nodup)(hl:b.length<=1000)(E:RowsK K T b)(hK:K<=16)(hT:T<=K)(q:Rise l)(H:∀y∈l,y∈UU J T)
  (A:∀k∈lasts b,∀(au:Store) (Q:D->Store->Prop),(∀g,Q (aK (aO (doneL (ahead k b) (aO (raiseL k l))))) (au++g))->WP (S [.lst (aJ (ahead k b)),aK (aO (raiseL k l))] au) Q)
  (k:∀g,Q (aK (aO (doneL b l))) (au++g)):WP (zqu S [x,aK l] au) Q:=by
 show WP (fnD 6 2 _ [x,aK l] au) Q;refine zif rfl ?_;refine zmz (R:=λj s=>j=.nx [some x,some (aK l),some (aK (aO (soFar b l 0))),none,none,none]/\s=au) ?_ ?_
 ·have e0:aO (soFar b l 0)=if[]∈b then l else[]:=by
   unfold soFar;rw[xmq,List.flatMap_nil,xdt];split
   ·exact q.odd
   ·rfl
  rw[e0];simp only[W,V];refine⟨by simp,?_⟩;refine WP.of (C.in_ []) ?_;simp only[W,V];by_cases c:[]∈b
  ·simp only[c,xgb]
   first|exact⟨trivial,trivial⟩|exact⟨rfl,rfl⟩
  ·simp only[c,xeu]
   first|exact⟨by simp,trivial,trivial⟩|exact⟨by simp,rfl,rfl⟩|exact⟨by simp,rfl,trivial⟩|exact⟨by simp,trivial,rfl⟩|simp
 rintro j s ⟨rfl,rfl⟩;show WP _ _;refine zmz (R:=λj f=>(∃p o m,j=.nx [some x,some (aK l),some (aK (aO (soFar b l (lasts b).length))),p,o,m])/\∃g,f=s++g) ?_ ?_
 ·refine zbck (zbho C hl (λr v ne=>?_) ⟨_,rfl,?_⟩)
  ·obtain⟨h1,h2,_⟩:=zgx E (zim.mpr ⟨r,v,ne,rfl⟩);lia
  refine zce (λi σ f=>(∃p o m,σ=[some x,some (aK l),some (aK (aO (soFar b l i))),p,o,m])/\∃g,f=s++g) ⟨⟨_,_,_,rfl⟩,[],by simp⟩ ?_ ?_
  ·rintro i y σ f hy ⟨⟨p,o,m,rfl⟩,g,rfl⟩;obtain⟨d,u,rfl⟩:=zkv hy;have Y:=xbn u;obtain⟨k1,k2,U⟩:=zgx E Y;refine⟨_,rfl,?_⟩;obtain⟨k',P⟩:=xdk (show 0<=d by lia);unfold zta;refine zmz (R:=λj f=>j=.nx [some x,some (aK l),some (aK (aO (soFar b l i))),some (.int d),some (aK (aO (raiseL d l))),m]/\∃g,f=s++g) ?_ ?_
   ·simp only[W,V];rw[P];exact zvi h (by lia) (by lia) H λw=>⟨rfl,g++w,by simp⟩
   rintro j f ⟨rfl,g,rfl⟩;show WP _ _;have nxt:aO (soFar b l (i+1))=aO (aO (soFar b l i)++aO (doneL (ahead d b) (aO (raiseL d l)))):=zjg λz=>by
    have e:soFar b l (i+1)=soFar b l i++doneL (ahead d b) (aO (raiseL d l)):=by
     unfold soFar;rw[ze u,xir,xch];simp
    rw[e,xer,xer];have h1:=zhb (soFar b l i) z;have h2:=zhb (doneL (ahead d b) (aO (raiseL d l))) z;lia
   have hM:∀y∈aO (raiseL d l),y∈UU J (T+k'):=zjf λz hz=>by rw[P] at hz;exact zhs h.rows H hz
   have I:RowsK K (T+k') (ahead d b):=by
    have:d.toNat=k':=by lia
    rw[this] at U;exact U
   by_cases c:aO (raiseL d l)=[]
   ·have e:aO (soFar b l (i+1))=aO (soFar b l i):=by
     rw[nxt,c,zbbm,show aO ([]:List Row)=[] from rfl,xdt,(zlv _).odd]
    refine zbkw (zbeh rfl (zbco _ _)) ?_;rw[c];simp only[W,L,List.isEmpty_nil,Bool.not_true,xeu];exact⟨⟨_,_,_,by rw[e]⟩,g,rfl⟩
   ·have G:(!(aO (raiseL d l)).isEmpty)=true:=by
     cases e:aO (raiseL d l) with
     |nil=>exact absurd e c
     |cons a t=>rfl
    refine zbkw (zbeh rfl (zbco _ _)) ?_;rw[if_pos G];refine zmz (R:=λj f=>j=.nx [some x,some (aK l),some (aK (aO (soFar b l i))),some (.int d),some (aK (aO (raiseL d l))),some (.lst (aJ (ahead d b)))]/\f=s++g) (zbcj (zbkj C hl ⟨rfl,rfl⟩)) ?_;rintro j f ⟨rfl,rfl⟩;simp only[W,V];refine A d Y _ _ λw=>?_
    have m1:=zzk h E hT H i;have X:=zqd h I hM;have l1:=h.len (xbl K) (zck _) (zjf m1);have l2:=h.len (xbl K) (zck _) (zjf X);refine zbcg (by lia) (h.few (xbl K) λz hz=>?_) λg3=>?_
    ·rcases xcc.mp hz with hz|hz
     ·exact zjf m1 z hz
     ·exact zjf X z hz
    ·simp only[L];exact⟨⟨_,_,_,by rw[nxt]⟩,g++w++g3,by simp⟩
  ·rintro σ f ⟨⟨p,o,m,rfl⟩,g,rfl⟩;rw[xbb];exact⟨⟨_,_,_,rfl⟩,g,rfl⟩
 rintro j f ⟨⟨p,o,m,rfl⟩,g,rfl⟩;simp only[W,V];have e:aO (soFar b l (lasts b).length)=aO (doneL b l):=by
  refine zjg λz=>?_
  unfold soFar;rw[xcb];exact(zxi nd z).symm
 rw[e];exact k g
def zbpv{n K:Nat}{A:List Row}(h:KX n K A)(w:K<=16):∀(f:Nat) {T:Nat}{x:D}{a l:List Row}{au:Store}{Q:D->Store->Prop},SeqR x a->a.Nodup->a.length<=1000->(∀r∈a,r.length<=f)->RowsK K T a->T<=K->Rise l->(∀y∈l,y∈UU A T) ->
  (∀g,Q (aK (aO (doneL a l))) (au++g))->WP (iterF zqu (f+1) [x,aK l] au) Q:=λf=>by
 induction f with
 |zero=>
  intro T x a l au Q p e j q d t b i k;refine zso h p e j d w t b i (λu c=>?_) k;obtain⟨r,s,G,_⟩:=zim.mp c;have:=q r s;exact absurd (xhh.mp (by lia)) G
 |succ f ih=>
  intro T x a l au Q p e j q d t b i k;refine zso h p e j d w t b i (λu c J U E=>?_) k;obtain⟨S,X,v⟩:=zgx d c;obtain⟨m,rfl⟩:=xdk (show 0<=u by lia);rw[xfj] at v;refine ih (.inr rfl) (zbkk e) ?_ (λr o=>?_) v (by lia) (zlv _) (zjf λz I=>zhs h.rows i I) E
  ·unfold ahead;rw[xbb];exact xbc (xfy _ _) j
  ·obtain⟨C,s,rfl⟩:=xbt.mp o;obtain⟨H,P⟩:=xcp.mp s;have:=q C H;rw[List.length_dropLast];lia
end
def zbiy{n K:Nat}(h:KX n K S0)(j:K<=16) (e:SeqR x a)(f:a.Nodup)(l:a.length<=1000)(d:∀r∈a,r.length<=7)(c:RowsK K 0 a)(b:Rise S0)
 (k:∀g,Q (aK (aO (doneL a S0))) (au++g)):WP (iterF zqu 8 [x,aK S0] au) Q:=zbpv h j 7 e f l d c (xec _) b (λy i=>zys i) k
def zblo:∀{r:List Int},(∀x∈r,0<=x)->0<=r.sum
 |[],_=>by simp
 |a::r,h=>by
  have d:=h a (by simp);have c:=zblo λx b=>h x (xbi _ b)
  rw[xcz];lia
def zbfe(l:List Int)(j:Nat):(l.drop j++l.take j).sum=l.sum:=by
 have:(l.take j++l.drop j).sum=l.sum:=by rw[xdd]
 rw[xes] at this ⊢;lia
def zth{n:Nat}{N d:Int}(p:BagAt au n)(hN:1<=N)(U:N<=1000)(hd:0<=d)(S:d<=1000)(k:∀r o,r.length=N.toNat->(∀x∈r,0<=x)->r.sum<=d->Drew au o n->Q (aL r) o):WP (zdm [.ref n,.int N,.int d] au) Q:=by
 refine zif rfl ?_;simp only[W,V];refine zhw p (by lia) (by lia) λl0 a9 Y h2 J=>?_
 refine zhw J.bag (by lia) (by lia) λr1 a h3 h4 X=>?_
 have w:=J.trans X
 have b:∀left:Int,0<=left->left<=d->WP (aD (aF 4 (eLstM aC))
   (aD (sFor (iR1 (aB (aS oSub (aA 1) (eC (.int 1))) aC)) (gN 5) zdg)
   (aD (sDrop (eAppend (aA 4) (aB (aA 3) aC)))
   (aD (aF 6 (aE zy (aB (aA 0) (aB (aA 1) aC))))
   (sRet (aE bTuple (aB (aS aM (eSl (aA 4) (pSome (aA 6)) pNone) (eSl (aA 4) pNone (pSome (aA 6)))) aC)))))) [some (.ref n),some (.int N),some (.int d),some (.int left),none,none,none] a) (retK Q):=λleft A z=>by
  simp only[W,V];refine⟨small _ (by simp),True.intro,_,rfl,rngN (by lia) (by lia),?_⟩;have I:au.length<=a.length:=w.len;have f:a.length≠n:=xhq (w.lt p.lt);refine zce (λi σ s=>∃(left:Int) (r:List Int) (v:Option D),σ=[some (.ref n),some (.int N),some (.int d),some (.int left),some (.ref a.length),v,none]/\0<=left/\r.sum+left<=d/\r.length=i/\(∀x∈r,0<=x)/\Drew au s n/\s[a.length]?=some (.lst (r.map .int)))
   ⟨left,[],none,rfl,A,(by rw[List.sum_nil,xhe];exact z),rfl,by simp,w.trans (.more w.bag _),by simp⟩ ?_ ?_
  ·rintro i x σ s hx ⟨left,r,v,rfl,C,a2,G,m,t,e⟩;obtain⟨hi,rfl⟩:=zfy hx;refine⟨_,rfl,?_⟩;unfold zdg;simp only[W,V,M];refine⟨_,_,rfl,e,?_⟩;have a0:=zblo m;refine zhw t.bag (by lia) (by lia) λy u E T h=>?_
   have l:u[a.length]?=some (.lst (r.map .int)):=(h.keep _ (zf e) f).trans e;have E2:=t.trans h;have c:=zf l;refine⟨_,_,rfl,l,by rw[xbb];exact smallT _ (by lia),?_⟩;have g:(u.set a.length (.lst (r.map D.int++[D.int y])))[a.length]?=some (.lst ((r++[y]).map .int)):=by rw[zcy c];simp
   refine zbhx (xs:=(r++[y]).map .int) (d:=.int y) (zil g) (by rw[xdi];exact zqo _ _) ?_;simp only[W,V,L];exact⟨True.intro,left-y,r++[y],_,rfl,by lia,(by rw[xes,xcz,List.sum_nil];lia),by simp[G],zps m E,E2.over p.lt I,g⟩
  ·rintro σ s ⟨left,r,v,rfl,C,a2,G,m,t,e⟩;rw[zx] at G;simp only[W,V,M];have c:=zf e;refine⟨_,_,rfl,e,_,_,rfl,e,by rw[xbb];exact smallT _ (by lia),?_⟩;have g:(s.set a.length (.lst (r.map D.int++[D.int left])))[a.length]?=some (.lst ((r++[left]).map .int)):=by rw[zcy c];simp
   have H:Drew au (s.set a.length (.lst (r.map D.int++[D.int left]))) n:=t.over p.lt I;refine zhw H.bag (by lia) (by lia) λy u E T h=>?_
   have P:u[a.length]?=some (.lst ((r++[left]).map .int)):=(h.keep _ (zf g) f).trans g;refine⟨y,rfl,.inr ⟨_,zib P,y,rfl,.inr ⟨_,zib P,?_⟩⟩⟩;obtain⟨j,rfl⟩:=xdk E;rw[zms,zxq];refine WP.of (zbff (small _ (by rw[xbk,xfx];lia))) ?_;simp only[W,V];refine k _ _ ?_ ?_ ?_ (H.trans h)
   ·rw[zuk,xbk,xfx];lia
   ·intro x hx;rcases xcc.mp hx with hx|hx
    ·exact zps m C x (xfe hx)
    ·exact zps m C x (xek hx)
   ·rw[zbfe,xes,xcz,List.sum_nil];lia
 simp only[W,V];split
 ·have q:=b d hd (xoj _);simp only[W,V] at q;exact q
 ·have q:=b l0 Y (by lia);simp only[W,V] at q;exact q
def zbcp{n:Nat}{N m d:Int}(u:BagAt au n)(t:1<=N)(f:N<=1000)(T:0<=m)(q:m<63)(H:0<=d)(e:d<=1000)(k:∀l b,l.length<=m->SumOk N.toNat l->(∀r∈l,r.sum<=d)->Drew au b n->Q (aK l) b):WP (zeq [.ref n,.int N,.int m,.int d] au) Q:=by
 refine zif rfl ?_;simp only[W,V];refine zhw u (by lia) (by lia) λc y S U E=>?_
 refine⟨c,rfl,rngN (by lia) (by lia),by rw[zx];exact small _ (by lia),?_⟩;refine zqv (λi acc σ s=>∃(l:List (List Int)) (v:Option D),acc=aJ l/\l.length=i/\(∀r∈l,r.length=N.toNat/\∀x∈r,0<=x)/\(∀r∈l,r.sum<=d)/\σ=[v,some (.ref n),some (.int N),some (.int d)]/\Drew au s n) ⟨[],none,rfl,rfl,by simp,by simp,rfl,E⟩ ?_ ?_
 ·rintro i x acc σ s I ⟨l,v,rfl,j,o,h,rfl,a⟩;refine⟨_,rfl,?_⟩;simp only[W,V];refine zth a.bag t f H e λr P C p A G=>⟨l++[r],_,by simp[aJ],by simp[j],λz hz=>?_,λz hz=>?_,rfl,a.trans G⟩
  ·rcases xcc.mp hz with hz|hz
   ·exact o z hz
   ·simp at hz;subst hz;exact⟨C,p⟩
  ·rcases xcc.mp hz with hz|hz
   ·exact h z hz
   ·simp at hz;subst hz;exact A
 ·rintro J σ s ⟨l,v,rfl,j,o,h,rfl,a⟩;rw[zx] at j;refine zrr (l:=l) rfl (by lia) λg=>k _ _ ?_ (zlh o) (λr w=>h r (zcz w)) (a.trans (.more a.bag g))
  have:=zkq l;lia
end Dd
namespace Dd
open L2 K07 K23
def placesL(r:List Int):List Nat:=(List.range (r.length-1)).filter λp=>decide (slowAt r p)
noncomputable abbrev plD(l:List Nat):List D:=l.map λ(p:Nat)=>D.int (p:Int)
def zgs:p∈placesL r↔slowAt r p:=by
 unfold placesL;rw[xcp,xbs,xih];refine⟨λh=>h.2,λh=>⟨?_,h⟩⟩;obtain⟨a,b,_,e,_⟩:=h;have:=(xbd.mp e).1;lia
noncomputable def momR:Int->List Int->Int
 |_,[]=>0
 |n,x::xs=>n*x+momR (n+1) xs
def zdr:∀(a b:List Int) (n:Int),momR n (a++b)=momR n a+momR (n+a.length) b
 |[],b,n=>by simp[momR]
 |x::a,b,n=>by
  rw[xjz,momR,momR,zdr a b (n+1),xbv,show n+1+(a.length:Int)=n+((a.length+1:Nat):Int) by push_cast;lia];lia
def zbdq:∀(a:List Int) (n:Int),momR (n+1) a=momR n a+a.sum
 |[],n=>by simp[momR]
 |x::a,n=>by
  rw[momR,momR,zbdq a (n+1),xcz,xmu];lia
noncomputable def prodL:Int->List Int->List Int
 |_,[]=>[]
 |n,x::xs=>n*x::prodL (n+1) xs
def zrn:∀(a:List Int) (n:Int),(prodL n a).sum=momR n a
 |[],n=>rfl
 |x::a,n=>by rw[prodL,xcz,zrn a,momR]
def zno:∀(a:List Int) (x n:Int),prodL n (a++[x])=prodL n a++[(n+a.length)*x]
 |[],x,n=>by simp[prodL]
 |y::a,x,n=>by
  rw[xjz,prodL,prodL,zno a x (n+1),xbv,show n+1+(a.length:Int)=n+((a.length+1:Nat):Int) by push_cast;lia]
  rfl
def zbka{a:List Int}:bSum [.lst (a.map .int)] au=.ok (.int a.sum) au:=by
 unfold bSum
 show(match ((some (a.map D.int)).bind asInts) with
  |some a=>Res.ok (D.int a.sum) au
  |none=>.stuck)=_
 rw[Option.bind_some,zcm]
def zboe(m:CMul I x):aS oMulI (aA 0) (aA 1) [some (.int I),some (.int x)] s=.ok (.int (I*x)) s:=by simp[m]
def mo_g:gT 2 (gsCons (gN 0) (gsCons (gN 1) gsNil)) (.tup [.int I,.int x]) [v,w]=some [some (.int I),some (.int x)]:=rfl
def zbof(h:∀x∈r,-10000<=x/\x<=10000):compF (gT 2 (gsCons (gN 0) (gsCons (gN 1) gsNil))) aI (aS oMulI (aA 0) (aA 1)) (numF 1 (r.map .int)) [none,none] au=.ok ((prodL 1 r).map D.int) au:=by
 have W:=zok (bd:=gT 2 (gsCons (gN 0) (gsCons (gN 1) gsNil))) (c:=aI) (f:=aS oMulI (aA 0) (aA 1)) (xs:=numF 1 (r.map .int)) (σ:=[none,none]) (au:=au)
  (λi acc σ s=>s=au/\(∃v w:Option D,σ=[v,w])/\acc=(prodL 1 (r.take i)).map D.int) ⟨rfl,⟨none,none,rfl⟩,rfl⟩ (by
   rintro i y acc σ s j ⟨rfl,⟨v,w,rfl⟩,rfl⟩;obtain⟨d,g,rfl⟩:=zpq j;rw[xcg] at g;obtain⟨x,a,rfl⟩:=xdh.mp g;have b:=h x (xbn a);have o:=(xbd.mp a).1;have m:CMul (1+(i:Int)) x:=mulR b.1 b.2;refine⟨[some (.int (1+(i:Int))),some (.int x)],true,s,mo_g,rfl,.inr ⟨rfl,.int ((1+(i:Int))*x),s,zboe m,rfl,⟨_,_,rfl⟩,?_⟩⟩;rw[ze a,zno,xdi,xcl,xeg (by lia)]
   simp)
 obtain⟨n,l,k,e,rfl,_,rfl⟩:=W;rw[zfl,xbb,xcb] at e;exact e
def zbap{r:List Int}(f:r.length<=1000)(b:∀x∈r,-10000<=x/\x<=10000):zhu [aL r] au=.ok (.int (momR 1 r)) au:=by
 have e:=zbof (au:=au) b;refine zgl rfl ?_;have a:(numF 1 (r.map D.int)).length<=sizeLine:=by rw[zfl,xbb];exact small _ (by lia)
 have d:iEnum (aA 0) [some (aL r)] au=.ok (numF 1 (r.map D.int)) au:=rfl;have c:aG (iEnum (aA 0)) 2 [] (gT 2 (gsCons (gN 0) (gsCons (gN 1) gsNil))) aI (aS oMulI (aA 0) (aA 1)) [some (aL r)] au=.ok (.lst ((prodL 1 r).map D.int)) au:=by
  rw[zla,d,zbf,if_pos a];show((compF _ _ _ _ [none,none] au).bind _)=_;rw[e]
  rfl
 show sRet _ [some (aL r)] au=_;rw[zuz,zfz,zjv,c,zbf,zbre,zbf,zbf,zbka,zbf,zrn]
def zzx{r:List Int}(n:r.length<=1000):zmy [aL r] au=.ok (.lst (plD (placesL r))) au:=by
 have W:=zok (bd:=gN 0) (c:=eTru (aE zcd (aB (aA 1) (aB (aA 0) aC)))) (f:=aA 0) (xs:=rng 0 (r.length-1)) (σ:=[none,some (aL r)]) (au:=au)
  (λi acc σ s=>s=au/\(∃w:Option D,σ=[w,some (aL r)])/\acc=plD ((List.range i).filter λp=>decide (slowAt r p))) ⟨rfl,⟨none,rfl⟩,rfl⟩ (by
   rintro i y acc σ s h ⟨rfl,⟨w,rfl⟩,rfl⟩;obtain⟨m,rfl⟩:=zbfs h;rw[xhe];refine⟨[some (.int i),some (aL r)],decide (slowAt r i),s,rfl,?_,?_⟩
   ·rw[zxg,zfz];show((zcd [aL r,.int i] s).bind _)=_;rw[zkw,xfj,show decide (0<=(i:Int)/\slowAt r i)=decide (slowAt r i) by simp]
    rfl
   ·rw[xgp,xdz];by_cases c:slowAt r i
    ·refine .inr ⟨xcj c,.int i,s,rfl,rfl,⟨_,rfl⟩,?_⟩;simp[plD,c]
    ·refine .inl ⟨xcm c,rfl,⟨_,rfl⟩,?_⟩
     simp[plD,c])
 obtain⟨l,k,st',e,rfl,_,rfl⟩:=W;rw[zx] at e;refine zgl rfl ?_;have b:RngOk ((r.length:Int)-1):=rngN (by lia) (by lia);have a:(rng 0 (r.length-1)).length<=sizeLine:=by rw[zx];exact small _ (by lia)
 have j:iR1 (aB (aS oSub (aE bLen (aB (aA 0) aC)) (eC (.int 1))) aC) [some (aL r)] st'=.ok (rng 0 (r.length-1)) st':=by
  have d:=zyk (au:=st') (r:=r);have g:((r.length:Int)-1).toNat=r.length-1:=by lia
  generalize (r.length:Int)=N at *
  simp only[aL] at *
  generalize D.tup (r.map D.int)=R at *
  simp[d,b,g]
 show sRet _ [some (aL r)] st'=_;rw[zuz,zla,j,zbf,if_pos a];show((compF _ _ _ _ [none,some (aL r)] st').bind _).bind _=_;rw[e]
 rfl
def zbnr{ns:List Int}:oEqG false (.lst (ns.map .int)) (.lst []) au=.ok (.bl (decide (ns=[]))) au:=by
 unfold oEqG
 rw[show dataOf au (.lst (ns.map .int))=some (.list (dI ns)) by
  show(toDatas (ns.map .int)).map PyData.list=_
  rw[zmp];rfl,show dataOf au (.lst [])=some (.list (dI [])) from rfl]
 dsimp only;rw[if_pos ⟨zfu ns,zfu []⟩];have e:PyData.eqv (.list (dI ns)) (.list (dI []))=decide (ns=[]):=zbjr ns [];rw[e]
 rfl
def zwg(i:∀x∈r,1<=x)(m:slowAt r p)(k:z∈exRow r p):momR 1 z<momR 1 r:=by
 obtain⟨a,b,j,h,l⟩:=m;have G:p+1<r.length:=(xbd.mp h).1;have C:=i b (xbn h);have E:=i a (xbn j);unfold exRow at k;obtain⟨two,t,rfl⟩:=xbt.mp k;have g:=(zm _).mem_iff.mp t;rw[xbh,j,xbh,h] at g;simp only[xjy] at g;unfold rowsL at g;obtain⟨c,v,q⟩:=xbt.mp g;have A:c<(a/2+1).toNat:=xbs.mp (xcp.mp v).1;have s:r=r.take p++[a,b]++r.drop (p+2):=by
  have u:r.drop p=a::r.drop (p+1):=by
   rw[xde (by lia)]
   congr 1
   exact(xbd.mp j).2
  have o:r.drop (p+1)=b::r.drop (p+2):=by
   rw[xde (by lia)]
   congr 1
   exact(xbd.mp h).2
  calc r=r.take p++r.drop p:=(xdd p r).symm
   _=_:=by rw[u,o];simp
 have w:0<=(r.drop (p+2)).sum:=zcx λx n=>i x (xfe n)
 have f:momR 1 (r.take p++two++r.drop (p+2))<momR 1 (r.take p++[a,b]++r.drop (p+2)):=by
  rw[xch,xch,zdr,zdr (r.take p)];generalize (1:Int)+((r.take p).length:Int)=N;rw[zdr,zdr];generalize r.drop (p+2)=d at w;rw[←q];unfold rowC;split
  ·rename_i y;simp only[momR,xbv,xiz];rw[Int.mul_sub,Int.mul_add,xmu,xmu];lia
  ·rename_i y;have:(c:Int)=0:=by lia
   simp only[momR,xbv,xiz];have e:=zbdq d (N+1);rw[show N+((0+1+1:Nat):Int)=N+1+1 by push_cast;lia,show N+((0+1:Nat):Int)=N+1 by push_cast;lia,e,Int.mul_add,xmu];lia
 rw[←s] at f;exact f
end Dd
namespace Dd
open L2
def zbku(I:List D->DS->Store->Prop)(g:∀d σ c,I d σ c->G c)(i:∀x d σ c,I (x::d) σ c->∃j,bd x σ=some j/\WX (b j c) (λk a=>match k with|.nx f=>I d f a|.ct f=>I d f a|.brk f=>Q (.nx f) a|.ret v=>Q (.ret v) a) E)
  (done:∀σ c,I [] σ c->Q (.nx σ) c):∀d σ c,I d σ c->WX (forG G bd b d σ c) Q E:=by
 intro d
 induction d with
 |nil=>exact λσ c h=>by unfold forG;rw[if_pos (g _ _ _ h)];exact done σ c h
 |cons x d ih=>
  intro σ c h;obtain⟨j,e,w⟩:=i x d σ c h;unfold forG;rw[if_pos (g _ _ _ h),e];dsimp only;revert w;cases b j c with
  |stuck=>exact λw=>w
  |exc y a=>exact λw=>w
  |ok k a=>
   cases k with
   |nx f=>exact λw=>ih f a w
   |ct f=>exact λw=>ih f a w
   |brk f=>exact λw=>w
   |ret v=>exact λw=>w
def zbkv(c:f σ au=.ok (.ref n) au)(a:au[n]?=some (.lst xs))(h:WX (forG (LsIs n xs) bd b (if en then numF 0 xs else xs) σ au) Q E):WX (sForA en (noX f) bd b σ au) Q E:=by
 unfold sForA noX;rw[c]
 show WX (match au[n]? with
  |some (.lst xs)=>forG (LsIs n xs) bd b (if en then numF 0 xs else xs) σ au
  |_=>.stuck) Q E
 rw[a];exact h
def zbew(b:f σ au=.ok (.ref n) au)(a:au[n]?=some (.lst xs))(q:Q .non (au.set n (.lst []))):WP (eClear f σ au) Q:=by
 unfold eClear;rw[b]
 show WP (match au[n]? with
  |some (.lst _)=>Res.ok D.non (au.set n (.lst []))
  |_=>.stuck) Q
 rw[a];exact q
noncomputable def Sh(n:Nat) (d:D):Prop:=∃p,toData d=some p/\p.canLay0=true/\p.depth<=n
def Sh.int:Sh n (.int i):=⟨_,rfl,rfl,xec _⟩
def Sh.all:∀{ds},(∀d∈ds,Sh n d)->∃a,toDatas ds=some a/\PyData.canLayAll0 a=true/\PyData.depthAll a<=n
 |[],_=>⟨[],rfl,rfl,xec _⟩
 |d::ds,h=>by
  obtain⟨p,e,c,j⟩:=h d (by simp);obtain⟨a,g,f,i⟩:=Sh.all (ds:=ds) λx b=>h x (by simp[b])
  refine⟨p::a,by rw[toDatas,e,g];rfl,?_,?_⟩
  ·show(p.canLay0&&PyData.canLayAll0 a)=true;rw[c,f];rfl
  ·show max p.depth (PyData.depthAll a)<=n;lia
def Sh.tup(h:∀d∈f,Sh n d):Sh (n+1) (.tup f):=by
 obtain⟨b,e,c,a⟩:=Sh.all h;exact⟨.tuple b,by rw[toData,e];rfl,c,xfi a⟩
def Sh.lst(h:∀d∈f,Sh n d):Sh (n+1) (.lst f):=by
 obtain⟨b,e,c,a⟩:=Sh.all h;exact⟨.list b,by rw[toData,e];rfl,c,xfi a⟩
def Sh.mono(h:n<=m) (s:Sh n d):Sh m d:=by
 obtain⟨p,e,b,a⟩:=s;exact⟨p,e,b,xbc a h⟩
def Sh.row:Sh (n+1) (aL r):=Sh.tup λd a=>by
 obtain⟨x,_,rfl⟩:=xbt.mp a;exact .int
def Sh.sum:Sh (n+2) (aK l):=Sh.tup λd a=>by
 obtain⟨x,_,rfl⟩:=xbt.mp (show d∈aJ l from a);exact .row
def Sh.ok(e:toData d=some p)(a:p.canLay0=true)(b:p.depth<=64):PySem.SeqAt.shaped p=true/\PyData.eqv p p=true:=by
 refine⟨?_,PySem.SeqAt.eqv_refl p a⟩;show(p.canLay0&&decide (p.depth<=64))=true;rw[a,xcj b];rfl
def zbpi(b:now au x=d)(f:now au y=d)(h:Sh 64 d):oEqG neg x y au=.ok (.bl (!neg)) au:=by
 obtain⟨p,e,c,g⟩:=h;obtain⟨a,i⟩:=Sh.ok e c g;unfold oEqG dataOf;rw[b,f,e];dsimp only;rw[if_pos ⟨a,a⟩,i];cases neg<;>rfl
def zbny(h:au[n]?=some (.lst xs)):now au (.ref n)=.lst xs:=by
 unfold now;rw[show asL au (.ref n)=some xs from by unfold asL;dsimp only;rw[h]]
end Dd
namespace Dd
open L2 K07 K23
def zin{r:List Int}{p:Nat}{m:Int}{L:Nat}(h:RowOk r m L)(l:slowAt r p):∀z∈exRow r p,RowOk z m L:=λz j=>by
 obtain⟨a,b,g,e,k⟩:=l;have E:p+1<r.length:=(xbd.mp e).1;have y:=h.pos b (xbn e);have A:=h.pos a (xbn g);unfold exRow at j;obtain⟨two,s,rfl⟩:=xbt.mp j;have d:=(zm _).mem_iff.mp s;rw[xbh,g,xbh,e] at d;simp only[xjy] at d;unfold rowsL at d;obtain⟨c,u,o⟩:=xbt.mp d;have w:c<(a/2+1).toNat:=xbs.mp (xcp.mp u).1;have q:r=r.take p++[a,b]++r.drop (p+2):=by
  have t:r.drop p=a::r.drop (p+1):=by
   rw[xde (by lia)]
   congr 1
   exact(xbd.mp g).2
  have n:r.drop (p+1)=b::r.drop (p+2):=by
   rw[xde (by lia)]
   congr 1
   exact(xbd.mp e).2
  calc r=r.take p++r.drop p:=(xdd p r).symm
   _=_:=by rw[t,n];simp
 have f:two.sum=a+b/\(∀x∈two,1<=x)/\two.length<=2:=by
  rw[←o];unfold rowC;split
  ·rename_i v;refine⟨by simp<;>lia,λx hx=>?_,by simp⟩;simp only[xbm,xgf,xkw] at hx;rcases hx with rfl|rfl<;>lia
  ·rename_i v;refine⟨by simp<;>lia,λx hx=>?_,by simp⟩;simp only[xbm,xgf,xkw] at hx;subst hx;lia
 have i:r.sum=(r.take p).sum+(a+b)+(r.drop (p+2)).sum:=by
  conv=>lhs;rw[q]
  simp[xes];lia
 refine⟨λx hx=>?_,?_,?_⟩
 ·rcases xcc.mp hx with hx|hx
  ·rcases xcc.mp hx with hx|hx
   ·exact h.pos x (xek hx)
   ·exact f.2.1 x hx
  ·exact h.pos x (xfe hx)
 ·have:=h.sum;rw[xes,xes,f.1];lia
 ·have C:=h.len;rw[xbk,xbk,xcl,xfq];have:=f.2.2;lia
def zbfr{r:List Int}{m:Int}{L:Nat}(h:RowOk r m L):∀x∈r,1<=x/\x<=m:=λx hx=>by
 refine⟨h.pos x hx,?_⟩;have:∀{r:List Int},(∀y∈r,1<=y)->∀x∈r,x<=r.sum:=λ{r}=>by
  induction r with
  |nil=>intro _ x hx;cases hx
  |cons a r ih=>
   intro h x hx;have d:=h a (by simp);have c:0<=r.sum:=zcx λy b=>h y (xbi _ b)
   rw[xcz];rcases xbm.mp hx with rfl|hx
   ·lia
   ·have:=ih (λy b=>h y (xbi _ b)) x hx;lia
 exact xmc (this h.pos x hx) h.sum
def zng{r:List Int}{m:Int}{L p:Nat}(h:RowOk r m L)(e:slowAt r p):(1<=r.getD p 0/\r.getD p 0<=m)/\(1<=r.getD (p+1) 0/\r.getD (p+1) 0<=m):=by
 obtain⟨a,b,c,d,_⟩:=e;rw[xbh,c,xbh,d];exact⟨zbfr h a (xbn c),zbfr h b (xbn d)⟩
noncomputable abbrev Lv:=List (Int×Nat×List (List Int))
def lvD(a:Lv):List (Int×D):=a.map λq=>(q.1,.ref q.2.1)
structure LvAt (au:Store) (L:Nat) (lv:Lv):Prop where
 at_:au[L]?=some (.dI (lvD lv))
 in_:∀q∈lv,au[q.2.1]?=some (.dT (aQ q.2.2))
 nd:(lv.map (·.1)).Nodup
 ix:(lv.map (·.2.1)).Nodup
 rows:∀q∈lv,q.2.2.Nodup
def flipLv(n:Nat) (r:List Int):Lv->Lv
 |[]=>[(momR 1 r,n,[r])]
 |q::lv=>if q.1=momR 1 r then(q.1,q.2.1,aP q.2.2 r)::lv else q::flipLv n r lv
def zuh:valI (lvD lv) m=(lv.find? λq=>decide (q.1=m)).map λq=>D.ref q.2.1:=by
 induction lv with
 |nil=>rfl
 |cons q lv ih=>
  by_cases e:q.1=m
  ·simp[valI,lvD,e]
  ·have a:valI (lvD (q::lv)) m=valI (lvD lv) m:=by simp[valI,lvD,e]
   rw[a,ih,List.find?_cons_of_neg (by simpa using e)]
def zkz:∀{a},(∀q∈a,q.1≠momR 1 r)->flipLv n r a=a++[(momR 1 r,n,[r])]
 |[],_=>rfl
 |q::a,h=>by
  unfold flipLv;rw[if_neg (h q (by simp)),zkz λx b=>h x (xbi _ b)]
  rfl
def zky:∀{a q},(a.map (·.1)).Nodup->q∈a->q.1=momR 1 r->flipLv n r a=a.map λx=>if x.1=momR 1 r then(x.1,x.2.1,aP x.2.2 r) else x
 |[],q,_,h,_=>by cases h
 |x::a,q,nd,h,e=>by
  rw[xbr,xdg] at nd;unfold flipLv;rw[xbr];by_cases c:x.1=momR 1 r
  ·rw[if_pos c,if_pos c]
   congr 1
   symm
   refine(xea (g:=id) λy b=>?_).trans (xoi _);rw[if_neg λz=>nd.1 (xbt.mpr ⟨y,b,z.trans c.symm⟩)]
   rfl
  ·rw[if_neg c,if_neg c];rcases xbm.mp h with rfl|h
   ·exact absurd e c
   ·rw[zky nd.2 h e]
def zuw{L:Nat}{k:Int}(a:f σ au=.ok (.ref L) au)(h:au[L]?=some (.dI kv0))(b:g σ au=.ok [.int k,d] st2)(c:st2[L]?=some (.dI kvs))(i:kvs.length<sizeLine)(e:valI kvs k=some v):eSetDI f g σ au=.ok v st2:=by
 unfold eSetDI;rw[a,zbf];dsimp only;rw[h];dsimp only;rw[b,zbf]
 try dsimp only
 rw[c]
 try dsimp only
 rw[if_pos i,e]
def zux{L:Nat}{k:Int}(a:f σ au=.ok (.ref L) au)(h:au[L]?=some (.dI kv0))(b:g σ au=.ok [.int k,d] st2)(c:st2[L]?=some (.dI kvs))(i:kvs.length<sizeLine)(e:valI kvs k=none):eSetDI f g σ au=.ok d (st2.set L (.dI (putI kvs k d))):=by
 unfold eSetDI;rw[a,zbf];dsimp only;rw[h];dsimp only;rw[b,zbf]
 try dsimp only
 rw[c]
 try dsimp only
 rw[if_pos i,e]
def zwf{α β:Type}{f:α->β}:∀{l:List α},(l.map f).Nodup->∀{x y:α},x∈l->y∈l->f x=f y->x=y
 |[],_,x,y,hx,_,_=>by cases hx
 |a::l,nd,x,y,hx,hy,e=>by
  rw[xbr,xdg] at nd;rcases xbm.mp hx with h1|h1
  ·rcases xbm.mp hy with h2|h2
   ·rw[h1,h2]
   ·exact absurd (xbt.mpr ⟨y,h2,by rw[←e,h1]⟩) nd.1
  ·rcases xbm.mp hy with h2|h2
   ·exact absurd (xbt.mpr ⟨x,h1,by rw[e,h2]⟩) nd.1
   ·exact zwf nd.2 h1 h2 e
def zhy{f:Store}{L:Nat}{g:Lv}{r:List Int}{Q:D->Store->Prop}(h:LvAt f L g)(hl:r.length<=1000)(U:∀x∈r,-10000<=x/\x<=10000)(hz:g.length<=10000)(X:∀q∈g,q.2.2.length<=100000)
  (k:∀s,LvAt s L (flipLv f.length r g)->(∀i,i<f.length->i≠L->(∀q∈g,q.2.1≠i)->s[i]?=f[i]?)->f.length<=s.length->Q .non s):WP (zdh [.ref L,aL r] f) Q:=by
 refine zif rfl ?_;simp only[W,V,M];have em:=zbap (au:=f) hl U;have P:aB (aE zhu (aB (aA 1) aC)) (aB eDNew aC) [some (.ref L),some (aL r)] f=.ok [.int (momR 1 r),.ref f.length] (f++[.dT []]):=by
  rw[zjv,show aE zhu (aB (aA 1) aC) [some (.ref L),some (aL r)] f=.ok (.int (momR 1 r)) f from em]
  rfl
 have T:=zf h.at_;have d:∀{i:Nat}{o:O},f[i]?=some o->(f++[O.dT []])[i]?=some o:=λe=>by rw[xbj (zf e)];exact e
 have m:(lvD g).length<sizeLine:=by unfold lvD;rw[xbb];exact smallT _ (by lia)
 cases hf:g.find? λq=>decide (q.1=momR 1 r) with
 |some q=>
  have l:=xki hf;have n:q.1=momR 1 r:=by simpa using xof hf
  have E:q.2.1≠L:=λz=>by have:=h.in_ q l;rw[z,h.at_] at this;cases this
  refine WP.of (zuw rfl h.at_ P (d h.at_) m (by rw[zuh,hf];rfl)) ?_;refine WP.of (zoe (d (h.in_ q l)) (by have:=X q l;lia)) (k _ ?_ (λi A u v=>?_) (by rw[xcx,xbk];lia))
  ·rw[zky h.nd l n];refine⟨?_,λx hx=>?_,?_,?_,λx hx=>?_⟩
   ·rw[xbp E,d h.at_]
    congr 2
    unfold lvD;rw[xcv];refine(xea λy j=>?_).symm;simp only[Function.comp];split<;>rfl
   ·obtain⟨y,j,rfl⟩:=xbt.mp hx;by_cases c:y.1=momR 1 r
    ·have I:y=q:=zwf h.nd j l (c.trans n.symm);subst I;rw[if_pos c];exact zcy (zf (d (h.in_ y j)))
    ·rw[if_neg c];have H:q.2.1≠y.2.1:=λz=>c (by rw[←zwf h.ix l j z];exact n)
     rw[xbp H];exact d (h.in_ y j)
   ·rw[xcv];have:(g.map ((λx=>x.1) ∘ λx=>if x.1=momR 1 r then(x.1,x.2.1,aP x.2.2 r) else x))=g.map (·.1):=xea λy _=>by simp only[Function.comp];split<;>rfl
    rw[this];exact h.nd
   ·rw[xcv];have:(g.map ((λx=>x.2.1) ∘ λx=>if x.1=momR 1 r then(x.1,x.2.1,aP x.2.2 r) else x))=g.map (·.2.1):=xea λy _=>by simp only[Function.comp];split<;>rfl
    rw[this];exact h.ix
   ·obtain⟨y,j,rfl⟩:=xbt.mp hx;split
    ·exact zcw (h.rows y j)
    ·exact h.rows y j
  ·rw[xbp (v q l),xbj A]
 |none=>
  have C:∀q∈g,q.1≠momR 1 r:=λq l=>by simpa using xmy.mp hf q l
  have S:putI (lvD g) (momR 1 r) (.ref f.length)=lvD (g++[(momR 1 r,f.length,[r])]):=by
   unfold putI;rw[if_neg]
   ·unfold lvD;rw[xdi];rfl
   ·rw[Bool.not_eq_true,List.any_eq_false];intro x hx;obtain⟨y,j,rfl⟩:=xbt.mp hx
    simpa using C y j
  have w:L≠f.length:=xci T;refine WP.of (zux rfl h.at_ P (d h.at_) m (by rw[zuh,hf];rfl)) ?_;rw[S];have J:((f++[O.dT []]).set L (.dI (lvD (g++[(momR 1 r,f.length,[r])]))))[f.length]?=some (.dT (aQ [])):=by
   rw[xbp w,xcw (xbl _),xjo];rfl
  refine WP.of (zoe J (by simp)) (k _ ?_ (λi A u v=>?_) (by rw[xcx,xcx,xbk];lia))
  ·rw[zkz C,show aP [] r=[r] from rfl];have t:∀q∈g,q.2.1<f.length:=λq l=>zf (h.in_ q l)
   refine⟨?_,λx hx=>?_,?_,?_,λx hx=>?_⟩
   ·rw[xbp w.symm,zcy (by rw[xbk];lia)]
   ·rcases xcc.mp hx with hx|hx
    ·have Y:f.length≠x.2.1:=(xci (t x hx)).symm;have h2:L≠x.2.1:=λz=>by have:=h.in_ x hx;rw[←z,h.at_] at this;cases this
     rw[xbp Y,xbp h2];exact d (h.in_ x hx)
    ·simp at hx;subst hx
     exact zcy (zf J)
   ·rw[xdi,xjk];refine⟨h.nd,by simp,λa G b p=>?_⟩;obtain⟨y,j,rfl⟩:=xbt.mp G;simp at p;subst p
    exact C y j
   ·rw[xdi,xjk];refine⟨h.ix,by simp,λa G b p=>?_⟩;obtain⟨y,j,rfl⟩:=xbt.mp G;simp at p;subst p
    exact xci (t y j)
   ·rcases xcc.mp hx with hx|hx
    ·exact h.rows x hx
    ·simp at hx;subst hx;simp
  ·rw[xbp (xci A).symm,xbp u.symm,xbj A]
noncomputable abbrev Lr:=List (Int×List (List Int))
def lvR(a:Lv):Lr:=a.map λq=>(q.1,q.2.2)
def flipR(r:List Int):Lr->Lr
 |[]=>[(momR 1 r,[r])]
 |q::lr=>if q.1=momR 1 r then(q.1,aP q.2 r)::lr else q::flipR r lr
def zmd:∀{a},lvR (flipLv n r a)=flipR r (lvR a)
 |[]=>rfl
 |q::a=>by
  unfold flipLv;show _=flipR r ((q.1,q.2.2)::lvR a);unfold flipR;dsimp only;split
  ·rfl
  ·show(q.1,q.2.2)::lvR (flipLv n r a)=_;rw[zmd]
noncomputable def nuM:List Nat->Nat->Nat
 |[],_=>0
 |t::ts,v=>bif Nat.beq v 0 then 0 else Nat.xor (bif Nat.beq (v%2) 1 then t else 0) (nuM ts (v/2))
noncomputable def nuDec:Nat->Nat->Nat
 |0,_=>0
 |f+1,c=>bif Nat.beq c 0 then 0 else Nat.xor (2^(c%100-1)) (nuDec f (c/100))
noncomputable def nuC:List (List Nat):=[[2,0,5,6,0,0,9,11,0,14,0,16,17,0,19,0,0,23,0,25,27,28,0,30,0,32,0,0,35,0,37,0,40,41,0,43,0,46,47,0,0,50,0,52,54,0,0,57,58,0,60,0,63,0,66,67,0,0,70,0,72,73,0,76,77,0,0,80,81,0,83],[3,4,6,0,908,11,1211,15,15,18,0,19,21,22,0,2524,26,28,30,3130,32,0,3534,36,36,0,4038,41,4241,0,43,46,4846,49,49,0,5251,55,56,55,0,58,60,6160,64,0,65,66,0,7069,71,71,74,75,0,77,8078,81,8281,0,83],[5,6,0,0,11,0,16,19,19,23,0,0,27,28,0,30,32,0,0,37,0,0,41,43,43,0,46,0,50,0,0,0,57,58,58,0,60,66,67,66,0,0,0,72,76,0,77,0,0,81,83,83],[7,8,10,13,14,17,1918,21,252423,2826,3027,3129,32,353432,3633,3735,4038,4238,4340,444342,48,494745,5046,5148,5150,5554,57,5854,595855,57,59,66,6866,696564,6966,68,70,7875,7975,78,7776,78,80,8382],[9,11,14,17,0,0,23,27,30,32,0,3735,0,41,4340,0,46,5046,0,5250,57,5854,0,6057,60,66,0,0,7066,0,70,0,80,817776,81,80],[12,15,18,21,22,26,28,32,3534,0,4038,434241,0,46,4846,525149,0,5855,6055,616058,66,6564,7069,7166,717069,75,8078,8175,8281,8078,8281],[16,19,23,27,28,32,0,0,41,0,46,50,0,0,57,6058,0,66,66,72,0,7776,81,83,8381],[20,24,29,33,34,38,39,45,47,53,54,5856,62,63,6664,706967,73,74,807876,838279],[25,30,35,40,41,46,47,54,0,63,0,67,73,0,76,81],[31,36,42,48,49,55,56,64,65,74,75,77],[37,43,50,57,58,66,67,76,77],[44,51,59,68,69,78,79],[52,60,70,80,81],[61,71,82],[72,83],[84]]
def nuT:List (List Nat):=[]::nuC.map λl=>(l++List.replicate (84-l.length) 0).map (nuDec 3)
noncomputable def nuSt:List (List Int):=[[],[1],[2],[2,1],[3],[3,1],[4],[4,1],[5],[4,2],[5,1],[6],[4,2,1],[5,2],[6,1],[7],[5,2,1],[6,2],[7,1],[8],[6,2,1],[6,3],[7,2],[8,1],[9],[6,3,1],[7,2,1],[7,3],[8,2],[9,1],[10],[7,3,1],[8,2,1],[8,3],[9,2],[10,1],[11],[8,3,1],[8,4],[9,2,1],[9,3],[10,2],[11,1],[12],[8,4,1],[9,3,1],[9,4],[10,2,1],[10,3],[11,2],[12,1],[13],[8,4,2],[9,4,1],[10,3,1],[10,4],[11,2,1],[11,3],[12,2],[13,1],[14],[8,4,2,1],[9,4,2],[10,4,1],[10,5],[11,3,1],[11,4],[12,2,1],[12,3],[13,2],[14,1],[15],[9,4,2,1],[10,4,2],[10,5,1],[11,4,1],[11,5],[12,3,1],[12,4],[13,2,1],[13,3],[14,2],[15,1],[16]]
def nuA(a v:Nat):Nat:=nuM (nuT.getD a []) v
def zlz:∀a,nuM a 0=0
 |[]=>rfl
 |_::_=>rfl
def zdc(t:Nat)(a:List Nat)(v:Nat):nuM (t::a) v=(if v%2=1 then t else 0)^^^nuM a (v/2):=by
 by_cases c:v=0
 ·subst c;rw[zlz,if_neg (by decide),Nat.zero_div,zlz];rfl
 ·have e:Nat.beq v 0=false:=by
   cases h:Nat.beq v 0 with
   |false=>rfl
   |true=>exact absurd (xhc h) c
  have b:(bif Nat.beq (v%2) 1 then t else 0)=if v%2=1 then t else 0:=by
   by_cases d:v%2=1
   ·rw[if_pos d,d];rfl
   ·have:v%2=0:=by lia
    rw[if_neg d,this];rfl
  show(bif Nat.beq v 0 then 0 else Nat.xor (bif Nat.beq (v%2) 1 then t else 0) (nuM a (v/2)))=_;rw[e,b];rfl
def xor4(a b c d:Nat):(a^^^b)^^^(c^^^d)=(a^^^c)^^^(b^^^d):=by
 rw[xfb,xfb,←xfb b,←xfb c,xnz b c]
def zbdl:∀(c:List Nat) (v w:Nat),nuM c (v^^^w)=nuM c v^^^nuM c w
 |[],v,w=>by show 0=0^^^0;rw[xoa]
 |t::c,v,w=>by
  rw[zdc,zdc,zdc,Nat.xor_div_two,zbdl c,xor4]
  congr 1
  have:=Nat.xor_mod_two_eq_one (a:=v) (b:=w);by_cases c1:v%2=1<;>by_cases c2:w%2=1<;>simp[c1,c2,this]
def zwb(b:f 0=0)(c:∀v w,f (v^^^w)=f v^^^f w):∀(a:List Nat) (v:Nat),nuM (a.map f) v=f (nuM a v)
 |[],v=>b.symm
 |t::a,v=>by
  rw[xbr,zdc,zdc,c,zwb b c a]
  congr 1
  split
  ·rfl
  ·exact b.symm
def zbdk:∀(a b:List Nat) (v:Nat),a.length=b.length->nuM (List.zipWith Nat.xor a b) v=nuM a v^^^nuM b v
 |[],[],v,_=>by show 0=0^^^0;rw[xoa]
 |[],_::_,v,h=>by cases h
 |_::_,[],v,h=>by cases h
 |t::a,u::b,v,h=>by
  show nuM (Nat.xor t u::List.zipWith Nat.xor a b) v=_;rw[zdc,zdc,zdc,zbdk a b _ (by simpa using h),xor4]
  congr 1
  split
  ·rfl
  ·rfl
def zbdm:∀(a:List Nat) (i:Nat),nuM a (2^i)=a.getD i 0
 |[],i=>by simp[nuM]
 |t::a,0=>by rw[zdc];simp[zlz]
 |t::a,i+1=>by
  rw[zdc,if_neg (by rw[xkt];lia),show 2^(i+1)/2=2^i by rw[xkt];lia,zbdm a i,xmg]
  rfl
def zpr(a:Nat):nuA a 0=0:=zlz _
def zwd(a v w:Nat):nuA a (v^^^w)=nuA a v^^^nuA a w:=zbdl _ _ _
def nuF(r:List Int) (v:Nat):Nat:=r.foldr (λa v=>nuA a.toNat v) v
def nu(r:List Int):Nat:=nuF r 1
def nuS(l:List (List Int)):Nat:=l.foldr (λr x=>nu r^^^x) 0
def zgr(r s:List Int)(v:Nat):nuF (r++s) v=nuF r (nuF s v):=by unfold nuF;rw[List.foldr_append]
def zwc:∀r,nuF r 0=0
 |[]=>rfl
 |a::r=>by show nuA _ (nuF r 0)=0;rw[zwc r,zpr]
def zbdn:∀r v w,nuF r (v^^^w)=nuF r v^^^nuF r w
 |[],_,_=>rfl
 |a::r,v,w=>by show nuA _ (nuF r _)=nuA _ (nuF r v)^^^nuA _ (nuF r w);rw[zbdn r,zwd]
def zdb:∀l m,nuS (l++m)=nuS l^^^nuS m
 |[],m=>(xmg _).symm
 |r::l,m=>by show nu r^^^nuS (l++m)=(nu r^^^nuS l)^^^nuS m;rw[zdb l m,xfb]
def zlx{l:List (List Int)}(h:l.Perm m):nuS l=nuS m:=by
 induction h with
 |nil=>rfl
 |@cons x a b _ ih=>show nu x^^^nuS a=nu x^^^nuS b;rw[ih]
 |swap x y l=>show nu y^^^(nu x^^^nuS l)=nu x^^^(nu y^^^nuS l);rw[←xfb,←xfb,xnz (nu y)]
 |trans _ _ a b=>exact a.trans b
def zbgy{l:List (List Int)}(b:l.Nodup):nuS (aP l r)=nuS l^^^nu r:=by
 unfold aP;split
 ·rename_i h;have:∀{l},l.Nodup->r∈l->nuS (l.filter λx=>decide (x≠r))=nuS l^^^nu r:=λ{l}=>by
   induction l with
   |nil=>intro _ h;cases h
   |cons a l ih=>
    intro b h;rw[xdg] at b;by_cases c:a=r
    ·subst c;have e:l.filter (λx=>decide (x≠a))=l:=xmn.mpr λx d=>by
      rw[xih];intro z;subst z;exact b.1 d
     rw[xco (by simp),e];show nuS l=(nu a^^^nuS l)^^^nu a;rw[xnz,←xfb,xoa,xmg]
    ·rw[xck (by simpa using c)];show nu a^^^nuS (l.filter λx=>decide (x≠r))=(nu a^^^nuS l)^^^nu r;rw[ih b.2 (by rcases xbm.mp h with z|z;exact absurd z.symm c;exact z),xfb]
  exact this b h
 ·rw[zdb];show nuS l^^^(nu r^^^0)=_;rw[xmh]
def zly:∀(m l:List (List Int)),l.Nodup->nuS (m.foldl aP l)=nuS l^^^nuS m
 |[],l,_=>(xmh _).symm
 |r::m,l,nd=>by
  rw[xgr,zly m _ (zcw nd),zbgy nd];show _=nuS l^^^(nu r^^^nuS m);rw[xfb]
def zwa(l:List (List Int)):nuS (aO l)=nuS l:=by
 unfold aO;rw[zlx (zm _)];unfold aN;rw[zly l [] xfs];exact xmg _
def mt2:List Int->List Nat
 |[x]=>nuT.getD x.toNat []
 |[x,y]=>(nuT.getD y.toNat []).map (nuA x.toNat)
 |_=>[]
noncomputable def twosN(a b n:Nat):List (List Int):=((List.range n).filter λc=>Nat.beq (Nat.land (b-c-1) (a-2*c)) (a-2*c)).map λc=>if c=0 then[((a+b:Nat):Int)] else[((a+b-c:Nat):Int),(c:Int)]
def nuChk(a b:Nat):Bool:=bif Nat.blt a (2*b) then decide ((nuT.getD b []).map (nuA a)=(twosN a b (a/2+1)).foldr (λtwo m=>List.zipWith Nat.xor (mt2 two) m) (List.replicate 84 0)) else true
def zban:((List.range 17).all λa=>(List.range (17-a)).all λb=>bif Nat.blt 0 a&&Nat.blt 0 b then nuChk a b else true)=true:=by decide +kernel
def zbnv:(nuT.all λt=>Nat.beq t.length 84||Nat.beq t.length 0)=true/\((List.range 16).all λi=>Nat.beq (nuT.getD (i+1) []).length 84)=true:=by decide +kernel
def zbnw(h:1<=a)(b:a<=16):(nuT.getD a []).length=84:=by
 have:=xca.mp zbnv.2 (a-1) (xbs.mpr (by lia));rw[show a-1+1=a by lia] at this;exact xhc this
def zrt:∀n v,nuM (List.replicate n 0) v=0
 |0,_=>rfl
 |n+1,v=>by
  rw[List.replicate_succ,zdc,zrt n];split<;>rfl
def zzc{a b n:Nat}{two:List Int}(h:two∈twosN a b n):(two=[((a+b:Nat):Int)])\/∃c:Nat,0<c/\c<n/\two=[((a+b-c:Nat):Int),(c:Int)]:=by
 unfold twosN at h;obtain⟨c,d,rfl⟩:=xbt.mp h;have d:=xbs.mp (xcp.mp d).1;by_cases z:c=0
 ·rw[if_pos z];exact .inl rfl
 ·rw[if_neg z];exact .inr ⟨c,by lia,d,rfl⟩
def zbts(q:1<=a)(o:1<=b)(r:a+b<=16)(k:a<2*b)(v:Nat):(twosN a b (a/2+1)).foldr (λtwo x=>nuF two v^^^x) 0=nuA a (nuA b v):=by
 have h:=zban;have h:=xca.mp h a (xbs.mpr (by lia));have h:=xca.mp h b (xbs.mpr (by lia));rw[show(Nat.blt 0 a&&Nat.blt 0 b)=true by rw[xcs];exact⟨xjq (by lia),xjq (by lia)⟩] at h;have h:nuChk a b=true:=h;unfold nuChk at h;rw[show Nat.blt a (2*b)=true from xjq (by lia)] at h;have h:=xdc h;have g:=congrArg (λm=>nuM m v) h;simp only[zwb (zpr a) (zwd a)] at g;show _=nuA a (nuM (nuT.getD b []) v);rw[g];have f:∀(d:List (List Int)),(∀two∈d,two∈twosN a b (a/2+1))->nuM (d.foldr (λtwo m=>List.zipWith Nat.xor (mt2 two) m) (List.replicate 84 0)) v=d.foldr (λtwo x=>nuF two v^^^x) 0/\(d.foldr (λtwo m=>List.zipWith Nat.xor (mt2 two) m) (List.replicate 84 0)).length=84:=λd=>by
  induction d with
  |nil=>intro _;exact⟨zrt _ _,by simp⟩
  |cons two d ih=>
   intro i;obtain⟨n,j⟩:=ih λt l=>i t (xbi _ l)
   have e:(mt2 two).length=84/\nuM (mt2 two) v=nuF two v:=by
    rcases zzc (i two (by simp)) with rfl|⟨c,p,s,rfl⟩
    ·exact⟨zbnw (by simp;lia) (by simp;lia),rfl⟩
    ·refine⟨?_,?_⟩
     ·show((nuT.getD (c:Int).toNat []).map _).length=_;rw[xbb];exact zbnw (by simp;lia) (by simp;lia)
     ·show nuM ((nuT.getD (c:Int).toNat []).map _) v=_;rw[zwb (zpr _) (zwd _)];rfl
   rw[List.foldr_cons,List.foldr_cons];refine⟨?_,by rw[List.length_zipWith,e.1,j];rfl⟩;rw[zbdk _ _ _ (by rw[e.1,j]),e.2,n]
 exact(f _ λ_ h=>h).1.symm
def zzo{a b:Nat}(i:1<=a)(g:1<=b)(e:a<2*b):∀{n},n<=a/2+1->rowsL a b n=twosN a b n:=λ{n} j=>by
 unfold rowsL twosN;have f:((List.range n).filter λ(c:Nat)=>oddW ((b:Int)-c-1) ((a:Int)-2*c))=(List.range n).filter λc=>Nat.beq (Nat.land (b-c-1) (a-2*c)) (a-2*c):=by
  refine xgo λc d=>?_
  have d:=xbs.mp d;rw[show(b:Int)-c-1=((b-c-1:Nat):Int) by lia,show(a:Int)-2*c=((a-2*c:Nat):Int) by lia,zbgv];generalize b-c-1=x;generalize a-2*c=y;show decide (Nat.land x y=y)=_;cases h:Nat.beq (Nat.land x y) y with
  |true=>exact xcj (xhc h)
  |false=>exact xcm (Nat.ne_of_beq_eq_false h)
 rw[f];refine xea λc d=>?_
 have d:=xbs.mp (xcp.mp d).1;unfold rowC;by_cases z:c=0
 ·subst z;rw[if_pos rfl,if_neg (by lia)];rfl
 ·rw[if_neg z,if_pos (by lia)]
  congr 1
  lia
def zbdi{f:List Int->List Int}{g:List Int->Nat}(w:Nat)(r:List Int)(h:∀two,nu (f two)=nuF r (g two)):∀l:List (List Int),nuS (l.map f)=nuF r (l.foldr (λtwo x=>g two^^^x) 0)
 |[]=>(zwc r).symm
 |two::l=>by
  show nu (f two)^^^nuS (l.map f)=nuF r (g two^^^l.foldr (λtwo x=>g two^^^x) 0);rw[zbdi w r h l,zbdn,h]
def zbnx{r:List Int}{p:Nat}{L:Nat}(h:RowOk r 16 L)(l:slowAt r p):nuS (exRow r p)=nu r:=by
 obtain⟨a,b,e,c,j⟩:=l;have v:p+1<r.length:=(xbd.mp c).1;have q:=h.pos a (xbn e);have n:=h.pos b (xbn c);have i:r=r.take p++([a,b]++r.drop (p+2)):=by
  have m:r.drop p=a::r.drop (p+1):=by
   rw[xde (by lia)]
   congr 1
   exact(xbd.mp e).2
  have k:r.drop (p+1)=b::r.drop (p+2):=by
   rw[xde (by lia)]
   congr 1
   exact(xbd.mp c).2
  calc r=r.take p++r.drop p:=(xdd p r).symm
   _=_:=by rw[m,k];simp
 have f:a+b<=16:=by
  have o:r.sum=(r.take p).sum+(a+(b+(r.drop (p+2)).sum)):=by
   conv=>lhs;rw[i]
   rw[xes,xes];simp;lia
  have u:=h.sum;have t:0<=(r.take p).sum:=zcx λx d=>h.pos x (xek d)
  have s:0<=(r.drop (p+2)).sum:=zcx λx d=>h.pos x (xfe d)
  lia
 obtain⟨a,rfl⟩:=xdk (show 0<=a by lia);obtain⟨b,rfl⟩:=xdk (show 0<=b by lia);unfold exRow;rw[xbh,e,xbh,c];simp only[xjy];rw[zlx ((zm _).map _),show((a:Int)/2+1).toNat=a/2+1 by lia,zzo (by lia) (by lia) (by lia) (xbl _)];rw[zbdi (g:=λtwo=>nuF two (nuF (r.drop (p+2)) 1)) 0 (r.take p) λtwo=>by unfold nu;rw[zgr,zgr]];rw[zbts (by lia) (by lia) (by lia) (by lia)]
 conv=>rhs;rw[i]
 unfold nu;rw[zgr,zgr];rfl
def nuStep(i a:Nat):Bool:=match nuSt[i]? with
 |none=>true
 |some r=>bif decide ((a:Int)+r.sum<=16)&&decide (2*r.headD 0<=(a:Int)) then(match nuSt[nuSt.idxOf ((a:Int)::r)]? with|some b=>decide (b=(a:Int)::r)|none=>false)&&Nat.beq ((nuT.getD a []).getD i 0) (2^nuSt.idxOf ((a:Int)::r)) else true
def zvz:((List.range 84).all λi=>(List.range 17).all λa=>bif Nat.beq a 0 then true else nuStep i a)=true:=by decide +kernel
def zbdh:nuSt.Nodup:=by decide +kernel
def zhn:nuSt.length=84:=by decide +kernel
def Stp(r:List Int):Prop:=∀p,¬ slowAt r p
def zbfj(h:placesL r=[]):Stp r:=λp a=>by
 have:=zgs.mpr a;rw[h] at this;cases this
def Stp.tail(h:Stp (a::r)):Stp r:=λp ⟨x,y,b,c,q⟩=>h (p+1) ⟨x,y,by simpa using b,by simpa using c,q⟩
def Stp.head(h:Stp (a::r))(d:1<=a):2*r.headD 0<=a:=by
 cases r with
 |nil=>simp;lia
 |cons b r=>
  have:=h 0;refine Classical.byContradiction λc=>this ⟨a,b,rfl,rfl,?_⟩
  simp at c;lia
def zlw{L:Nat}:∀{r},RowOk r 16 L->Stp r->∃i,nuSt[i]?=some r/\nu r=2^i
 |[],_,_=>⟨0,by decide +kernel,rfl⟩
 |a::r,h,hs=>by
  have l:=h.pos a (by simp);have b:=h.sum;rw[xcz] at b;have o:0<=r.sum:=zcx λx d=>h.pos x (xbi _ d)
  obtain⟨i,f,j⟩:=zlw (L:=L) (r:=r) ⟨λx d=>h.pos x (xbi _ d),by lia,by have:=h.len;rw[xbv] at this;lia⟩ hs.tail;have m:i<84:=by have:=(xbd.mp f).1;rw[zhn] at this;exact this
  have g:=hs.head l;obtain⟨a,rfl⟩:=xdk (show 0<=a by lia);have k:=xca.mp (xca.mp zvz i (xbs.mpr m)) a (xbs.mpr (by lia));rw[show Nat.beq a 0=false by cases z:Nat.beq a 0 with|false=>rfl|true=>have:=xhc z;lia] at k;have k:nuStep i a=true:=k;unfold nuStep at k;rw[f] at k;have k:(bif decide ((a:Int)+r.sum<=16)&&decide (2*r.headD 0<=(a:Int)) then(match nuSt[nuSt.idxOf ((a:Int)::r)]? with|some e=>decide (e=(a:Int)::r)|none=>false)&&Nat.beq ((nuT.getD a []).getD i 0) (2^nuSt.idxOf ((a:Int)::r)) else true)=true:=k;rw[xcj (show(a:Int)+r.sum<=16 by lia),xcj g] at k;simp only[Bool.and_true,cond_true] at k;rw[xcs] at k;obtain⟨c,n⟩:=k;refine⟨nuSt.idxOf ((a:Int)::r),?_,?_⟩
  ·cases z:nuSt[nuSt.idxOf ((a:Int)::r)]? with
   |none=>rw[z] at c;cases c
   |some e=>
    rw[z] at c;rw[xdc c]
  ·show nuA _ (nu r)=_;rw[j];show nuM (nuT.getD a []) (2^i)=_;rw[zbdm];exact xhc n
def StOk16(l:List (List Int)):Prop:=∀r∈l,RowOk r 16 6/\Stp r
def zbdj(h:StOk16 l) (d:nuSt[i]?=some x):(nuS l).testBit i=decide (l.count x%2=1):=by
 induction l with
 |nil=>simp[nuS]
 |cons r l a=>
  have a:=a λy f=>h y (xbi _ f)
  obtain⟨j,b,e⟩:=zlw (h r (by simp)).1 (h r (by simp)).2;show(nu r^^^nuS l).testBit i=_;rw[Nat.testBit_xor,a,e,Nat.testBit_two_pow,xid];by_cases c:j=i
  ·subst c;rw[d] at b;cases b;rw[xcj rfl,if_pos (by simp)];rcases xep (l.count x) with z|z
   ·rw[xcm (by lia),xcj (by lia)];rfl
   ·rw[xcj z,xcm (by lia)];rfl
  ·have:¬ r=x:=λz=>by
    subst z;obtain⟨m,g⟩:=xbd.mp b;obtain⟨n,k⟩:=xbd.mp d;exact c ((xnq zbdh).mp (g.trans k.symm))
   simp[c,this]
def stl(v:Nat):List (List Int):=sortR (((List.range 84).filter λi=>v.testBit i).map λi=>nuSt.getD i [])
def zbls(h:StOk16 l)(k:l.Nodup):sortR l=stl (nuS l):=by
 unfold stl;refine zkj (zhj k ?_ λx=>?_)
 ·refine List.Pairwise.map _ (R:=λi j=>i≠j/\i<84/\j<84) ?_ ?_
  ·rintro i j ⟨n,q,p⟩ e;rw[xbh,xbh,xbf (by rw[zhn];exact q),xbf (by rw[zhn];exact p)] at e;exact n ((xnq zbdh).mp e)
  ·refine List.Pairwise.imp_of_mem (R:=(·≠·)) (λ{a b} o f h=>⟨h,xbs.mp (xcp.mp o).1,xbs.mp (xcp.mp f).1⟩) (xls.filter _)
 ·constructor
  ·intro g;obtain⟨i,m,r⟩:=zlw (h x g).1 (h x g).2;have d:i<84:=by have:=(xbd.mp m).1;rw[zhn] at this;exact this
   refine xbt.mpr ⟨i,xcp.mpr ⟨xbs.mpr d,?_⟩,by rw[xbh,m];rfl⟩;rw[zbdj h m,xob k,if_pos g];rfl
  ·intro g;obtain⟨i,d,rfl⟩:=xbt.mp g;obtain⟨d,f⟩:=xcp.mp d;have d:=xbs.mp d;have e:nuSt[i]?=some (nuSt.getD i []):=by rw[xbh,xbf (by rw[zhn];exact d)];rfl
   rw[zbdj h e,xob k] at f;by_cases c:nuSt.getD i []∈l
   ·exact c
   ·rw[if_neg c] at f;simp at f
def zrz{α:Type}[DecidableEq α]:∀{l m:List α},l.Nodup->(∀x∈l,x∈m)->l.length<=m.length
 |[],m,_,_=>xec _
 |a::l,m,nd,h=>by
  rw[xdg] at nd;have c:a∈m:=h a (by simp);have d:=zrz (l:=l) (m:=m.erase a) nd.2 λx b=>by
   refine(List.mem_erase_of_ne λe=>?_).mpr (h x (xbi _ b));subst e;exact nd.1 b
  rw[List.length_erase_of_mem c] at d;have:0<m.length:=List.length_pos_of_mem c;rw[xbv];lia
noncomputable def allR:Nat->Nat->List (List Int)
 |0,_=>[[]]
 |k+1,s=>[]::(List.range s).flatMap λa=>(allR k (s-1-a)).map λr=>((a+1:Nat):Int)::r
noncomputable def cntR:Nat->Nat->Nat
 |0,_=>1
 |k+1,s=>1+((List.range s).map λa=>cntR k (s-1-a)).sum
def zyo:∀k s,(allR k s).length=cntR k s
 |0,_=>rfl
 |k+1,s=>by
  unfold allR cntR;rw[xbv,List.length_flatMap,xnu]
  congr 2
  refine xea λa _=>?_
  rw[xbb,zyo k]
def zyn:∀(k s:Nat) (r:List Int),RowOk r s k->r∈allR k s
 |0,s,r,h=>by
  have:=h.len;have:r=[]:=xhh.mp (by lia);subst this;simp[allR]
 |k+1,s,[],_=>by simp[allR]
 |k+1,s,a::r,h=>by
  have e:=h.pos a (by simp);have c:=h.sum;rw[xcz] at c;have d:0<=r.sum:=zcx λx b=>h.pos x (xbi _ b)
  obtain⟨a,rfl⟩:=xdk (show 0<=a by lia);unfold allR;refine xbi _ (xcy.mpr ⟨a-1,xbs.mpr (by lia),xbt.mpr ⟨r,zyn k _ r ⟨λx b=>h.pos x (xbi _ b),?_,?_⟩,?_⟩⟩)
  ·lia
  ·have:=h.len;rw[xbv] at this;lia
  ·rw[show a-1+1=a by lia]
def zvb{l:List (List Int)}(c:l.Nodup)(h:∀r∈l,RowOk r 16 6):l.length<=15000:=by
 have d:=zrz c λr b=>zyn 6 16 r (h r b)
 rw[zyo] at d;have a:Nat.ble (cntR 6 16) 15000=true:=by decide +kernel
 have a:=xga a;lia
def zboc:∀{r k},0<=k->(∀x∈r,1<=x)->0<=momR k r
 |[],k,_,_=>by simp[momR]
 |x::r,k,hk,h=>by
  have c:=zboc (r:=r) (k:=k+1) (by lia) λy a=>h y (xbi _ a)
  have b:=h x (by simp);have d:0<=k*x:=xom hk (by lia);unfold momR;lia
def zbod:∀{r k},0<=k->(∀x∈r,1<=x)->momR k r<=(k+r.length)*r.sum
 |[],k,_,_=>by simp[momR]
 |x::r,k,hk,h=>by
  have b:=zbod (r:=r) (k:=k+1) (by lia) λy c=>h y (xbi _ c)
  have f:=h x (by simp);have e:0<=((r.length:Int)+1)*x:=xom (by lia) (by lia);rw[xcz,xbv,Int.mul_add];unfold momR;have d:(k+((r.length+1:Nat):Int))*x=k*x+((r.length:Int)+1)*x:=by rw[←xmu];congr 1;try lia
  have a:(k+1+(r.length:Int))*r.sum=(k+((r.length+1:Nat):Int))*r.sum:=by congr 1;push_cast;lia
  rw[d];rw[a] at b
  lia
def zbaq(h:RowOk r 16 6):0<=momR 1 r/\momR 1 r<=112:=by
 refine⟨zboc (by lia) h.pos,xmc (zbod (by lia) h.pos) ?_⟩;have c:=h.len;have b:=h.sum;have a:0<=r.sum:=zcx h.pos
 calc (1+(r.length:Int))*r.sum<=7*r.sum:=Int.mul_le_mul_of_nonneg_right (by lia) a
  _<=112:=by lia
structure LvG (lr:Lr):Prop where
 nd:(lr.map (·.1)).Nodup
 row:∀q∈lr,∀r∈q.2,RowOk r 16 6/\momR 1 r=q.1
 key:∀q∈lr,0<=q.1/\q.1<=112
 rnd:∀q∈lr,q.2.Nodup
def LvG.few(h:LvG b):b.length<=113/\∀q∈b,q.2.length<=15000:=by
 refine⟨?_,λq a=>zvb (h.rnd q a) λr c=>(h.row q a r c).1⟩;have:=zrz (m:=(List.range 113).map λ(i:Nat)=>(i:Int)) h.nd λx d=>by
  obtain⟨q,a,rfl⟩:=xbt.mp d;have:=h.key q a;exact xbt.mpr ⟨q.1.toNat,xbs.mpr (by lia),by lia⟩
 simpa using this
def zdw:∀{a:Lr}(q:Int×List (List Int)),q∈flipR r a->q∈a\/(q.1=momR 1 r/\((q.2=[r]/\∀x∈a,x.1≠momR 1 r)\/∃l,(q.1,l)∈a/\q.2=aP l r))
 |[],q,h=>by
  unfold flipR at h;simp at h;subst h;exact .inr ⟨rfl,.inl ⟨rfl,λx f=>by cases f⟩⟩
 |x::a,q,h=>by
  unfold flipR at h;split at h
  ·rename_i c;rcases xbm.mp h with rfl|h
   ·exact .inr ⟨c,.inr ⟨x.2,by simp,rfl⟩⟩
   ·exact .inl (xbi _ h)
  ·rename_i c;rcases xbm.mp h with rfl|h
   ·exact .inl (by simp)
   ·rcases zdw q h with h|⟨e,⟨d,b⟩|⟨l,d,b⟩⟩
    ·exact .inl (xbi _ h)
    ·refine .inr ⟨e,.inl ⟨d,λy hy=>?_⟩⟩;rcases xbm.mp hy with rfl|hy
     ·exact c
     ·exact b y hy
    ·exact .inr ⟨e,.inr ⟨l,xbi _ d,b⟩⟩
def zxc:∀{a},(a.map (·.1)).Nodup->((flipR r a).map (·.1)).Nodup
 |[],_=>by simp[flipR]
 |x::a,nd=>by
  rw[xbr,xdg] at nd;unfold flipR;split
  ·rw[xbr,xdg];exact nd
  ·rename_i c;rw[xbr,xdg];refine⟨λz=>?_,zxc nd.2⟩;obtain⟨q,b,e⟩:=xbt.mp z;rcases zdw q b with h|⟨h,_⟩
   ·exact nd.1 (xbt.mpr ⟨q,h,e⟩)
   ·exact c (e.symm.trans h)
def LvG.flip(h:LvG lr)(f:RowOk r 16 6):LvG (flipR r lr):=by
 refine⟨zxc h.nd,λq e x b=>?_,λq e=>?_,λq e=>?_⟩
 ·rcases zdw q e with a|⟨a,⟨c,d⟩|⟨l,c,d⟩⟩
  ·exact h.row q a x b
  ·rw[c,xcu] at b;subst b;exact⟨f,a.symm⟩
  ·rw[d,zbz] at b;rcases b with⟨b,_⟩|⟨rfl,_⟩
   ·exact h.row _ c x b
   ·exact⟨f,a.symm⟩
 ·rcases zdw q e with a|⟨a,_⟩
  ·exact h.key q a
  ·rw[a];exact zbaq f
 ·rcases zdw q e with a|⟨a,⟨c,d⟩|⟨l,c,d⟩⟩
  ·exact h.rnd q a
  ·rw[c];simp
  ·rw[d];exact zcw (h.rnd _ c)
def inM(a:Lr) (x:List Int):Prop:=∃q∈a,x∈q.2
def zbid(h:LvG b)(o:RowOk r 16 6):inM (flipR r b) x↔(inM b x/\x≠r)\/(x=r/\¬ inM b r):=by
 have k:∀{b},(b.map (·.1)).Nodup->(∀q∈b,∀r∈q.2,momR 1 r=q.1)->(inM (flipR r b) x↔(inM b x/\x≠r)\/(x=r/\¬ inM b r)):=λ{b}=>by
  induction b with
  |nil=>
   intro _ _;unfold flipR inM;simp
  |cons a b ih=>
   intro l g;rw[xbr,xdg] at l;have f:∀y,inM (a::b) y↔y∈a.2\/inM b y:=λy=>by unfold inM;simp
   unfold flipR;split
   ·rename_i c;have n:¬ inM b r:=λ⟨q,d,j⟩=>l.1 (xbt.mpr ⟨q,d,by rw[c];exact(g q (xbi _ d) r j).symm⟩)
    have i:inM ((a.1,aP a.2 r)::b) x↔x∈aP a.2 r\/inM b x:=by unfold inM;simp
    rw[i,zbz,f,f];by_cases e:x=r
    ·subst e;simp[n]
    ·simp[e]
   ·rename_i c;have i:inM (a::flipR r b) x↔x∈a.2\/inM (flipR r b) x:=by unfold inM;simp
    have m:r∉a.2:=λz=>c (g a (by simp) r z).symm
    rw[i,ih l.2 λq d=>g q (xbi _ d),f,f];by_cases e:x=r
    ·subst e;simp[m]
    ·simp[e]
 exact k h.nd λq d x j=>(h.row q d x j).2
def stepK(a:List (List Int)) (z:List Int×Nat):List (List Int):=(z.1::exRow z.1 z.2).foldl aP a
def Wke(a:List (List Int)) (q:List (List Int×Nat)):List (List Int):=q.foldl stepK a
def Wkd:List (List Int)->List (List Int×Nat)->Prop
 |_,[]=>True
 |ks,z::q=>z.1∈ks/\slowAt z.1 z.2/\Wkd (stepK ks z) q
def Wkd.snoc:∀{q b z},Wkd b q->z.1∈Wke b q->slowAt z.1 z.2->Wkd b (q++[z])
 |[],b,z,_,h1,h2=>⟨h1,h2,trivial⟩
 |a::q,b,z,h,h1,h2=>⟨h.1,h.2.1,Wkd.snoc h.2.2 h1 h2⟩
def Wke.snoc:Wke ks (q++[z])=stepK (Wke ks q) z:=by unfold Wke;rw[xez];rfl
def zbbh{m:List (List Int)}(h:x∈m.foldl aP ks):x∈ks\/x∈m:=by
 induction m generalizing ks with
 |nil=>exact .inl h
 |cons a m ih=>
  rcases ih h with h|h
  ·rw[zbz] at h;rcases h with⟨h,_⟩|⟨rfl,_⟩
   ·exact .inl h
   ·exact .inr (by simp)
  ·exact .inr (xbi _ h)
def zbif{m b:List (List Int)}(h:b.Nodup):(m.foldl aP b).Nodup:=by
 induction m generalizing b with
 |nil=>exact h
 |cons a m ih=>exact ih (zcw h)
structure RwsOk (ks:List (List Int)):Prop where
 nd:ks.Nodup
 row:∀r∈ks,RowOk r 16 6
def RwsOk.few(h:RwsOk ks):ks.length<=15000:=zvb h.nd h.row
def RwsOk.step(h:RwsOk ks)(a:z.1∈ks)(b:slowAt z.1 z.2):RwsOk (stepK ks z)/\nuS (stepK ks z)=nuS ks:=by
 refine⟨⟨zbif h.nd,λr hr=>?_⟩,?_⟩
 ·rcases zbbh hr with hr|hr
  ·exact h.row r hr
  ·rcases xbm.mp hr with rfl|hr
   ·exact h.row _ a
   ·exact zin (h.row _ a) b r hr
 ·unfold stepK;rw[zly _ _ h.nd];show nuS ks^^^(nu z.1^^^nuS (exRow z.1 z.2))=_;rw[zbnx (h.row _ a) b,xoa,xmh]
def RwsOk.walk:∀{q e},RwsOk e->Wkd e q->RwsOk (Wke e q)/\nuS (Wke e q)=nuS e
 |[],e,h,_=>⟨h,rfl⟩
 |z::q,e,h,w=>by
  obtain⟨a,b⟩:=h.step w.1 w.2.1;obtain⟨c,d⟩:=RwsOk.walk a w.2.2;exact⟨c,d.trans b⟩
def zbfb(h:RwsOk c)(w:Wkd c q)(s:∀x∈Wke c q,Stp x):sortR (Wke c q)=stl (nuS c):=by
 obtain⟨a,b⟩:=h.walk w;rw[zbls (λr d=>⟨a.row r d,s r d⟩) a.nd,b]
def foldR(b:List (List Int)) (c:Lr):Lr:=b.foldl (λa r=>flipR r a) c
structure LvTo (au:Store) (L:Nat) (lv:Lv) (ms:List (List Int)) (s:Store) (lv':Lv):Prop where
 at_:LvAt s L lv'
 eq:lvR lv'=foldR ms (lvR lv)
 keep:∀i,i<au.length->i≠L->(∀q∈lv,q.2.1≠i)->s[i]?=au[i]?
 len:au.length<=s.length
 ix:∀q∈lv',au.length<=q.2.1\/∃q0∈lv,q0.2.1=q.2.1
def LvTo.refl{L:Nat}(h:LvAt au L lv):LvTo au L lv [] au lv:=⟨h,rfl,λ_ _ _ _=>rfl,xbl _,λq a=>.inr ⟨q,a,rfl⟩⟩
def zsg:∀{b},∀q∈flipLv n r b,q.2.1=n\/∃a∈b,a.2.1=q.2.1
 |[],q,hq=>by
  unfold flipLv at hq;simp at hq;subst hq;exact .inl rfl
 |x::b,q,hq=>by
  unfold flipLv at hq;split at hq
  ·rcases xbm.mp hq with rfl|hq
   ·exact .inr ⟨x,by simp,rfl⟩
   ·exact .inr ⟨q,xbi _ hq,rfl⟩
  ·rcases xbm.mp hq with rfl|hq
   ·exact .inr ⟨q,by simp,rfl⟩
   ·rcases zsg q hq with h|⟨a,d,c⟩
    ·exact .inl h
    ·exact .inr ⟨a,xbi _ d,c⟩
def LvTo.snoc{L:Nat}{m:List (List Int)}{r:List Int}(a:LvTo au L lv m s b)(h:LvAt s2 L (flipLv s.length r b))(k:∀i,i<s.length->i≠L->(∀q∈b,q.2.1≠i)->s2[i]?=s[i]?)(l:s.length<=s2.length):
  LvTo au L lv (m++[r]) s2 (flipLv s.length r b):=by
 refine⟨h,?_,λi p n e=>?_,xbc a.len l,λq e=>?_⟩
 ·rw[zmd,a.eq];unfold foldR;rw[xez];rfl
 ·have u:=a.len;rw[k i (by lia) n λq f=>?_,a.keep i p n e];rcases a.ix q f with c|⟨j,c,d⟩
  ·lia
  ·rw[←d];exact e j c
 ·rcases zsg q e with c|⟨j,c,d⟩
  ·exact .inl (by rw[c];exact a.len)
  ·rcases a.ix j c with g|⟨t,g,o⟩
   ·exact .inl (by rw[←d];exact g)
   ·exact .inr ⟨t,g,o.trans d⟩
def zbds(h:LvG (lvR a)):a.length<=113/\∀q∈a,q.2.2.length<=15000:=by
 refine⟨by have:=h.few.1;unfold lvR at this;rwa [xbb] at this,λq b=>h.few.2 (q.1,q.2.2) (xbt.mpr ⟨q,b,rfl⟩)⟩
def zbly(h:RowOk r 16 6):r.length<=1000/\∀x∈r,-10000<=x/\x<=10000:=⟨by have:=h.len;lia,λx a=>by have:=zbfr h x a;lia⟩
def zbol{L:Nat}{f:List (List Int)}(h:LvAt au L lv)(u:LvG (lvR lv))(g:∀r∈f,RowOk r 16 6)
  (k:∀s a d,LvTo au L lv f s a->LvG (lvR a)->Q (.nx [S0,some (.ref L),S2,S3,S4,S5,d]) s):WP (forF (gN 6) zqt (aJ f) [S0,some (.ref L),S2,S3,S4,S5,v6] au) Q:=by
 refine zce (λi σ s=>∃a d,σ=[S0,some (.ref L),S2,S3,S4,S5,d]/\LvTo au L lv (f.take i) s a/\LvG (lvR a)) ⟨lv,v6,rfl,.refl h,u⟩ ?_ ?_
 ·rintro i x σ s j ⟨a,d,rfl,t,c⟩;obtain⟨r,e,rfl⟩:=zba j;have v:=(xbd.mp e).1;have b:=zbly (g r (xbn e));have z:=zbds c;have l:=g r (xbn e);refine⟨[S0,some (.ref L),S2,S3,S4,S5,some (aL r)],rfl,?_⟩;unfold zqt;simp only[W,V,M];refine zhy t.at_ b.1 b.2 (by lia) (λq o=>by have:=z.2 q o;lia) λw n p m=>?_
  simp only[W,V,Dd.L];refine⟨flipLv s.length r a,_,rfl,?_,?_⟩
  ·rw[ze e];exact t.snoc n p m
  ·rw[zmd];exact c.flip l
 ·rintro σ s ⟨a,d,rfl,t,c⟩;rw[zc] at t;rw[xcb] at t;exact k s a d t c
def zbig{L:Nat}{f:List (List Int)}(h:LvAt au L lv)(u:LvG (lvR lv))(g:∀r∈f,RowOk r 16 6)
  (k:∀s a d,LvTo au L lv f s a->LvG (lvR a)->Q (.nx [S0,some (.ref L),d,S3,S4,S5,S6]) s):WP (forF (gN 2) zmw (aJ f) [S0,some (.ref L),v2,S3,S4,S5,S6] au) Q:=by
 refine zce (λi σ s=>∃a d,σ=[S0,some (.ref L),d,S3,S4,S5,S6]/\LvTo au L lv (f.take i) s a/\LvG (lvR a)) ⟨lv,v2,rfl,.refl h,u⟩ ?_ ?_
 ·rintro i x σ s j ⟨a,d,rfl,t,c⟩;obtain⟨r,e,rfl⟩:=zba j;have v:=(xbd.mp e).1;have b:=zbly (g r (xbn e));have z:=zbds c;have l:=g r (xbn e);refine⟨[S0,some (.ref L),some (aL r),S3,S4,S5,S6],rfl,?_⟩;unfold zmw;simp only[W,V,M];refine zhy t.at_ b.1 b.2 (by lia) (λq o=>by have:=z.2 q o;lia) λw n p m=>?_
  simp only[W,V,Dd.L];refine⟨flipLv s.length r a,_,rfl,?_,?_⟩
  ·rw[ze e];exact t.snoc n p m
  ·rw[zmd];exact c.flip l
 ·rintro σ s ⟨a,d,rfl,t,c⟩;rw[zc] at t;rw[xcb] at t;exact k s a d t c
def stpD(q:List (List Int×Nat)):List D:=q.map λz=>.tup [aL z.1,.int z.2]
def rowW(a:Lr×List (List Int×Nat)) (r:List Int):Lr×List (List Int×Nat):=match placesL r with
 |[]=>a
 |p::_=>(foldR (exRow r p) a.1,a.2++[(r,p)])
structure Wy (s0:Store) (b:Nat) (L M:Nat) (s:Store) (lv:Lv) (q:List (List Int×Nat)):Prop where
 at_:LvAt s L lv
 stp:s[M]?=some (.lst (stpD q))
 ne:M≠L
 ni:∀x∈lv,x.2.1≠M
 bL:b<=L
 bM:b<=M
 bI:∀x∈lv,b<=x.2.1
 low:∀i,i<b->s[i]?=s0[i]?
 bs:b<=s.length
def LvAt.more{L:Nat}(h:LvAt s L lv)(g:Store):LvAt (s++g) L lv:=
 ⟨by rw[xbj (zf h.at_)];exact h.at_,λq a=>by rw[xbj (zf (h.in_ q a))];exact h.in_ q a,h.nd,h.ix,h.rows⟩
def Wy.more{b L M:Nat}(h:Wy s0 b L M s lv q)(g:Store):Wy s0 b L M (s++g) lv q:=
 ⟨h.at_.more g,by rw[xbj (zf h.stp)];exact h.stp,h.ne,h.ni,h.bL,h.bM,h.bI,λi a=>by rw[xbj (xbo a h.bs)];exact h.low i a,by rw[xbk];have:=h.bs;lia⟩
def Wy.put{b L M:Nat}(h:Wy s0 b L M s lv q):Wy s0 b L M (s.set M (.lst (stpD q++[.tup [aL z.1,.int z.2]]))) lv (q++[z]):=by
 refine⟨⟨?_,λx a=>?_,h.at_.nd,h.at_.ix,h.at_.rows⟩,?_,h.ne,h.ni,h.bL,h.bM,h.bI,λi c=>?_,by rw[xcx];exact h.bs⟩
 ·rw[xbp h.ne];exact h.at_.at_
 ·rw[xbp (h.ni x a).symm];exact h.at_.in_ x a
 ·rw[zcy (zf h.stp)];unfold stpD;rw[xdi];rfl
 ·have:=h.bM;rw[xbp (by lia)];exact h.low i c
def Wy.to{b L M:Nat}{f:List (List Int)}(h:Wy s0 b L M s lv q)(t:LvTo s L lv f s2 lv'):Wy s0 b L M s2 lv' q:=by
 have e:=zf h.stp;refine⟨t.at_,?_,h.ne,λx c=>?_,h.bL,h.bM,λx c=>?_,λi g=>?_,xbc h.bs t.len⟩
 ·rw[t.keep M e h.ne h.ni];exact h.stp
 ·rcases t.ix x c with a|⟨y,a,d⟩
  ·lia
  ·rw[←d];exact h.ni y a
 ·rcases t.ix x c with a|⟨y,a,d⟩
  ·exact xbc h.bs a
  ·rw[←d];exact h.bI y a
 ·have a:=h.bs;have d:=h.bL;rw[t.keep i (by lia) (by lia) λx c=>by have:=h.bI x c;lia];exact h.low i g
def zbhh{b L M:Nat}{n:List (List Int)}(h:Wy s0 b L M au lv q)(U:LvG (lvR lv))(hq:q.length+n.length<=10000000)(Y:∀r∈n,RowOk r 16 6)
  (k:∀s c d t l o,Wy s0 b L M s c d->(lvR c,d)=n.foldl rowW (lvR lv,q)->LvG (lvR c)->d.length<=q.length+n.length->Q (.nx [S0,some (.ref L),t,some (.ref M),S4,l,o]) s):
  WP (forF (gN 2) zqs (aJ n) [S0,some (.ref L),v2,some (.ref M),S4,v5,v6] au) Q:=by
 refine zce (λi σ s=>∃c d t l o,σ=[S0,some (.ref L),t,some (.ref M),S4,l,o]/\Wy s0 b L M s c d/\(lvR c,d)=(n.take i).foldl rowW (lvR lv,q)/\LvG (lvR c)/\d.length<=q.length+i) ⟨lv,q,v2,v5,v6,rfl,h,rfl,U,xbl _⟩ ?_ ?_
 ·rintro i x σ s X ⟨c,d,t,l,o,rfl,u,w,f,H⟩;obtain⟨r,I,rfl⟩:=zba X;have hi:=(xbd.mp I).1;have m:=Y r (xbn I);have rl:=m.len;refine⟨[S0,some (.ref L),some (aL r),some (.ref M),S4,l,o],rfl,?_⟩;have S:(n.take (i+1)).foldl rowW (lvR lv,q)=rowW (lvR c,d) r:=by rw[ze I,xez,←w];rfl
  unfold zqs;simp only[W,V,Dd.M];refine WP.of (zzx (by lia)) ?_
  try simp only[W,V,Dd.M]
  cases hp:placesL r with
  |nil=>
   refine⟨false,rfl,?_⟩;rw[if_neg (by decide)];refine⟨c,d,_,_,_,rfl,u,?_,f,by lia⟩;rw[S];unfold rowW;rw[hp]
  |cons p ps=>
   refine⟨true,rfl,?_⟩;rw[if_pos rfl];have y:slowAt r p:=zgs.mp (by rw[hp];simp);have A:=zng m y;have J:p+1<r.length:=by obtain⟨a,b,_,z,_⟩:=y;exact(xbd.mp z).1
   have a1:=zjn r p;have T:∀s:Store,oIx (.lst (plD (p::ps))) (.int 0) s=.ok (.int p) s:=λs=>zjh rfl (zqn (j:=0) rfl)
   refine⟨_,_,rfl,u.stp,WP.of (T s) ⟨small _ (by simp),_,_,rfl,u.stp,by unfold stpD;rw[xbb,xil];lia,WP.of (T _) ?_⟩⟩;have E:=u.put (z:=(r,p));obtain⟨g,e⟩:=zfx (au:=s.set M (.lst (stpD d++[.tup [aL r,.int p]]))) (r:=r) (p:=p) J (by lia) A.1.1 (by lia) (by lia) (by lia);refine WP.of e ⟨_,rfl,?_⟩;have v:=E.more g;refine zbol v.at_ f (zin m y) λs2 C a0 P G=>?_
   refine⟨C,d++[(r,p)],_,_,_,rfl,v.to P,?_,G,by rw[xbk,xfx];lia⟩;rw[S];unfold rowW;rw[hp]
   show _=(foldR (exRow r p) (lvR c),d++[(r,p)])
   rw[P.eq]
 ·rintro σ s ⟨c,d,t,l,o,rfl,u,w,f,H⟩;rw[zc] at w H;rw[xcb] at w;exact k s c d t l o u w f H
def topL(a:Lr):Int:=match a.map (·.1) with
 |[]=>0
 |k::ks=>bestI true k ks
def lessR(a:Lr) (m:Int):Lr:=a.filter λq=>decide (q.1≠m)
def lessV(a:Lv) (m:Int):Lv:=a.filter λq=>decide (q.1≠m)
def zboo:lvR (lessV lv m)=lessR (lvR lv) m:=by
 unfold lvR lessV lessR;rw[xjc];rfl
def zbop:dropI (lvD lv) m=lvD (lessV lv m):=by
 unfold dropI lvD lessV;rw[xjc];rfl
def Wy.less{b L M:Nat}{m:Int}(h:Wy s0 b L M s lv q):Wy s0 b L M (s.set L (.dI (lvD (lessV lv m)))) (lessV lv m) q:=by
 have sub:∀x∈lessV lv m,x∈lv:=λx a=>(xcp.mp a).1
 have d:∀x∈lv,x.2.1≠L:=λx a z=>by have:=h.at_.in_ x a;rw[z,h.at_.at_] at this;cases this
 refine⟨⟨zcy (zf h.at_.at_),λx a=>?_,?_,?_,λx a=>h.at_.rows x (sub x a)⟩,?_,h.ne,λx a=>h.ni x (sub x a),h.bL,h.bM,λx a=>h.bI x (sub x a),λi c=>?_,by rw[xcx];exact h.bs⟩
 ·rw[xbp (d x (sub x a)).symm];exact h.at_.in_ x (sub x a)
 ·exact h.at_.nd.sublist (xiq.map _)
 ·exact h.at_.ix.sublist (xiq.map _)
 ·rw[xbp h.ne.symm];exact h.stp
 ·have:=h.bL;rw[xbp (by lia)];exact h.low i c
structure Iv (k0:List (List Int)) (m:Int) (lr:Lr) (rs:List (List Int)) (q:List (List Int×Nat)):Prop where
 wk:Wkd k0 q
 g:LvG lr
 lt:∀x∈lr,x.1<m
 low:∀x,momR 1 x<m->(x∈Wke k0 q↔inM lr x)
 rs_:∀x∈rs,momR 1 x=m/\x∈Wke k0 q
 rn:rs.Nodup
 high:∀x∈Wke k0 q,m<=momR 1 x->x∈rs\/Stp x
def zbcc(G:LvG lr)(a:RowOk r 16 6)(b:momR 1 r<m)(h:∀x,momR 1 x<m->(x∈ks↔inM lr x)):∀x,momR 1 x<m->(x∈aP ks r↔inM (flipR r lr) x):=λx c=>by
 rw[zbz,zbid G a,h x c,h r b]
def zjt:∀{ms lr ks},LvG lr->(∀r∈ms,RowOk r 16 6/\momR 1 r<m)->(∀x,momR 1 x<m->(x∈ks↔inM lr x))->LvG (foldR ms lr)/\∀x,momR 1 x<m->(x∈ms.foldl aP ks↔inM (foldR ms lr) x)
 |[],lr,ks,G,_,h=>⟨G,h⟩
 |r::ms,lr,ks,G,hm,h=>zjt (ms:=ms) (G.flip (hm r (by simp)).1) (λx a=>hm x (xbi _ a)) (zbcc G (hm r (by simp)).1 (hm r (by simp)).2 h)
def zsf:∀{ms a:List (List Int)},(∀r∈ms,x≠r)->(x∈ms.foldl aP a↔x∈a)
 |[],a,_=>Iff.rfl
 |r::ms,a,h=>by
  rw[xgr,zsf (ms:=ms) λy b=>h y (xbi _ b),zbz];have:=h r (by simp);simp[this]
def zpy:∀{ms a},(∀r∈ms,momR 1 r<m)->(∀x∈a,x.1<m)->∀x∈foldR ms a,x.1<m
 |[],a,_,h=>h
 |r::ms,a,hm,h=>zpy (ms:=ms) (λx b=>hm x (xbi _ b)) λx b=>by
  rcases zdw x b with c|⟨c,_⟩
  ·exact h x c
  ·rw[c];exact hm r (by simp)
def Iv.row(K:RwsOk k0)(h:Iv k0 m lr (r::rs) q):Iv k0 m (rowW (lr,q) r).1 rs (rowW (lr,q) r).2:=by
 obtain⟨o,_⟩:=K.walk h.wk;have c:=h.rs_ r (by simp);have k:=xdg.mp h.rn;unfold rowW;cases hp:placesL r with
 |nil=>
  refine⟨h.wk,h.g,h.lt,h.low,λx a=>h.rs_ x (xbi _ a),k.2,λx a i=>?_⟩;rcases h.high x a i with z|z
  ·rcases xbm.mp z with rfl|z
   ·exact .inr (zbfj hp)
   ·exact .inl z
  ·exact .inr z
 |cons p ps=>
  have n:slowAt r p:=zgs.mp (by rw[hp];simp);have d:=o.row r c.2;have l:∀z∈exRow r p,RowOk z 16 6/\momR 1 z<m:=λz g=>⟨zin d n z g,by rw[←c.1];exact zwg d.pos n g⟩
  have u:∀x,momR 1 x<m->(x∈aP (Wke k0 q) r↔inM lr x):=λx a=>by
   rw[zbz,←h.low x a];have:x≠r:=λe=>by rw[e,c.1] at a;lia
   simp[this]
  obtain⟨v,t⟩:=zjt h.g l u;have f:∀x,m<=momR 1 x->(x∈stepK (Wke k0 q) (r,p)↔x∈Wke k0 q/\x≠r):=λx a=>by
   show x∈(exRow r p).foldl aP (aP (Wke k0 q) r)↔_;rw[zsf λy s e=>by have:=(l y s).2;rw[←e] at this;lia,zbz];have:=c.2;constructor
   ·rintro(z|⟨rfl,z⟩)
    ·exact z
    ·exact absurd this z
   ·exact λz=>.inl z
  refine⟨h.wk.snoc c.2 n,v,zpy (λz g=>(l z g).2) h.lt,λx a=>?_,λx a=>?_,k.2,λx a i=>?_⟩
  ·rw[Wke.snoc];exact t x a
  ·have b:=h.rs_ x (xbi _ a);rw[Wke.snoc];refine⟨b.1,(f x (by rw[b.1];exact xoj _)).mpr ⟨b.2,λe=>?_⟩⟩;subst e;exact k.1 a
  ·rw[Wke.snoc] at a;obtain⟨a,j⟩:=(f x i).mp a;rcases h.high x a i with z|z
   ·rcases xbm.mp z with e|z
    ·exact absurd e j
    ·exact .inl z
   ·exact .inr z
def Iv.rows(K:RwsOk k0):∀{rs a q},Iv k0 m a rs q->Iv k0 m (rs.foldl rowW (a,q)).1 [] (rs.foldl rowW (a,q)).2
 |[],a,q,h=>h
 |r::rs,a,q,h=>Iv.rows (rs:=rs) K (h.row K)
def zbll:∀{b},b≠[]->(∃l,(topL b,l)∈b)/\∀x∈b,x.1<=topL b
 |[],h=>absurd rfl h
 |a::b,_=>by
  obtain⟨c,g⟩:=zqk (b.map (·.1)) a.1;have e:topL (a::b)=bestI true a.1 (b.map (·.1)):=rfl;rw[e];refine⟨?_,λx d=>g _ (by rw[←xbr (f:=λq:Int×List (List Int)=>q.1)];exact xbt.mpr ⟨x,d,rfl⟩)⟩;rw[←xbr (f:=λq:Int×List (List Int)=>q.1)] at c;obtain⟨q,i,e⟩:=xbt.mp c;exact⟨q.2,by rw[←e];exact i⟩
def Iv.next(h:Iv k0 m lr [] q)(d:(topL lr,l)∈lr):Iv k0 (topL lr) (lessR lr (topL lr)) (sortR l) q:=by
 have j:lr≠[]:=λe=>by rw[e] at d;cases d
 have top:=(zbll j).2;have n:topL lr<m:=h.lt _ d;have sub:∀x∈lessR lr (topL lr),x∈lr/\x.1≠topL lr:=λx a=>by
  obtain⟨f,g⟩:=xcp.mp a;exact⟨f,xdc g⟩
 have i:∀x∈lr,x.1=topL lr->x.2=l:=λx a e=>by
  have:=zwf h.g.nd a d e;rw[this]
 refine⟨h.wk,⟨h.g.nd.sublist (xiq.map _),λx a=>h.g.row x (sub x a).1,λx a=>h.g.key x (sub x a).1,λx a=>h.g.rnd x (sub x a).1⟩,λx a=>?_,λx a=>?_,λx a=>?_,?_,λx a p=>?_⟩
 ·have f:=sub x a;have g:=top x f.1;have o:=f.2;lia
 ·rw[h.low x (by lia)];constructor
  ·rintro⟨y,c,b⟩;refine⟨y,xcp.mpr ⟨c,xcj λe=>?_⟩,b⟩;have:=(h.g.row y c x b).2;lia
  ·rintro⟨y,c,b⟩;exact⟨y,(sub y c).1,b⟩
 ·have a:=(zm l).mem_iff.mp a;have e:=(h.g.row _ d x a).2;have e:momR 1 x=topL lr:=e;exact⟨e,(h.low x (by lia)).mpr ⟨_,d,a⟩⟩
 ·exact(zm l).nodup_iff.mpr (h.g.rnd _ d)
 ·rcases Int.lt_or_le (momR 1 x) m with z|z
  ·obtain⟨y,c,b⟩:=(h.low x z).mp a;have e:=(h.g.row y c x b).2;have k:=top y c;exact .inl ((zm l).mem_iff.mpr (by rw[←i y c (by lia)];exact b))
  ·rcases h.high x a z with z|z
   ·cases z
   ·exact .inr z
def Iv.end_(h:Iv b m [] [] q):∀x∈Wke b q,Stp x:=λx a=>by
 rcases Int.lt_or_le (momR 1 x) m with z|z
 ·obtain⟨y,c,_⟩:=(h.low x z).mp a;cases c
 ·rcases h.high x a z with z|z
  ·cases z
  ·exact z
def Iv.start(K:RwsOk k0):Iv k0 113 (foldR k0 []) [] []:=by
 have d:∀r∈k0,RowOk r 16 6/\momR 1 r<113:=λr f=>⟨K.row r f,by have:=zbaq (K.row r f);lia⟩
 obtain⟨g,h⟩:=zjt (m:=113) (ms:=k0) (lr:=[]) (ks:=[]) ⟨by simp,λq b=>(by cases b),λq b=>(by cases b),λq b=>(by cases b)⟩ d λx _=>by unfold inM;simp
 have e:∀x,x∈k0.foldl aP []↔x∈k0:=λx=>by
  have:=(zkp k0 [] xfs).2.2 x;rw[this,xob K.nd];by_cases c:x∈k0<;>simp[c]
 refine⟨trivial,g,zpy (λz i=>(d z i).2) (λx a=>(by cases a)),λx a=>?_,λx a=>(by cases a),xfs,λx a j=>?_⟩
 ·rw[←h x a,e];rfl
 ·have:=(d x a).2;lia
def zblh{L:Nat}(a:f σ au=.ok (.ref L) au)(h:au[L]?=some (.dI kvs)):bTruI f σ au=.ok (!kvs.isEmpty) au:=by
 unfold bTruI;rw[a,zbf];dsimp only;rw[h]
def zbok{L:Nat}(h:au[L]?=some (.dI (lvD lv)))(b:lv≠[]):bMaxI [.ref L] au=.ok (.int (topL (lvR lv))) au:=by
 unfold bMaxI;dsimp only;rw[h];cases lv with
 |nil=>exact absurd rfl b
 |cons a lv=>
  show Res.ok (D.int (bestI true a.1 ((lvD lv).map (·.1)))) au=.ok (D.int (bestI true a.1 ((lvR lv).map (·.1)))) au
  congr 3
  unfold lvD lvR;rw[xcv,xcv];rfl
def zbmn{L:Nat}{k:Int}(b:f σ au=.ok (.ref L) au)(h:au[L]?=some (.dI kvs))(c:g σ au=.ok [.int k] au)(a:valI kvs k=some v):ePopI f g σ au=.ok v (au.set L (.dI (dropI kvs k))):=by
 unfold ePopI;rw[b,zbf];dsimp only
 rw[h];dsimp only
 rw[c,zbf];try dsimp only
 rw[h];try dsimp only
 rw[a]
def zik{au:Store}(h:∀i,i<au.length->s[i]?=au[i]?)(a:au.length<=s.length):s=au++s.drop au.length:=by
 refine xif λi=>?_
 rcases xge i au.length with z|z
 ·rw[h i z,xbj z]
 ·rw[xcw z,xfo];congr 1;lia
structure Way (ks:List (List Int)) (q:List (List Int×Nat)):Prop where
 wk:Wkd ks q
 fin:∀x∈Wke ks q,Stp x
 len:q.length<=2000000
def zbez{c:Store}{g:List (List Int)}{T:SS}(K:RwsOk g)(k:∀q M s h u o v,Way g q->s[M]?=some (.lst (stpD q))->c.length<=M->(∀i,i<c.length->s[i]?=c[i]?)->WP (T [some (aK g),some (.ref c.length),h,some (.ref M),u,o,v] s) QQ):
  WP (aD (aF 1 eDNewI) (aD (sFor (aH (aA 0)) (gN 2) zmw) (aD (aF 3 (eLstM aC)) (aD (sWhile (bTruI (aA 1)) zqr) T))) [some (aK g),none,none,none,none,none,none] c) QQ:=by
 simp only[W,V];refine WP.of (show eDNewI _ c=.ok (.ref c.length) (c++[.dI []]) from rfl) ?_
 try simp only[W,V]
 refine⟨_,rfl,?_⟩;have a0:LvAt (c++[O.dI []]) c.length []:=⟨by simp;rfl,λq e=>(by cases e),by simp,by simp,λq e=>(by cases e)⟩
 refine zbig (lv:=[]) a0 ⟨by simp[lvR],λq e=>(by cases e),λq e=>(by cases e),λq e=>(by cases e)⟩ K.row λs b h t G=>?_
 simp only[W,V];refine⟨small _ (by simp),?_⟩;have E:=t.len;rw[xbk,xfx] at E;have X:∀x∈b,c.length+1<=x.2.1:=λx C=>by
  rcases t.ix x C with z|⟨y,p,_⟩
  ·rw[xbk,xfx] at z;exact z
  ·cases p
 have d:Wy c c.length c.length s.length (s++[.lst []]) b []:=by
  refine⟨t.at_.more _,by simp;rfl,by lia,λx C=>xci (zf (t.at_.in_ x C)),xbl _,by lia,λx C=>by have:=X x C;lia,λi hi=>?_,by rw[xbk];lia⟩;rw[xbj (by lia),t.keep i (by rw[xbk];lia) (by lia) λq e=>(by cases e),xbj hi]
 have f:Iv g (113:Nat) (lvR b) [] []:=by
  rw[t.eq];exact Iv.start K
 generalize s.length=M at d;refine zov (λj σ s=>∃b q h u o v,σ=[some (aK g),some (.ref c.length),h,some (.ref M),u,o,v]/\Wy c c.length c.length M s b q/\Iv g (j:Int) (lvR b) [] q/\q.length+15000*j<=15000*113) (k:=113) ⟨b,[],_,_,_,_,rfl,d,f,by simp⟩ (by lia) ?_;rintro j σ s ⟨b,q,h,u,o,v,rfl,d,f,ql⟩;refine WP.of (zblh rfl d.at_.at_) ?_;cases b with
 |nil=>
  rw[if_neg (by simp[lvD])];simp only[W];exact k q M s _ _ _ _ ⟨f.wk,f.end_,by lia⟩ d.stp d.bM d.low
 |cons a lv0=>
  rw[if_pos (by simp[lvD])];generalize hlv:a::lv0=b at *
  have Q:b≠[]:=by rw[←hlv];simp
  have H:lvR b≠[]:=by rw[←hlv];simp[lvR]
  clear hlv a lv0;obtain⟨⟨l,w⟩,_⟩:=zbll H;obtain⟨y,p,Y⟩:=xbt.mp (show(topL (lvR b),l)∈b.map λq=>(q.1,q.2.2) from w);have e1:y.1=topL (lvR b):=congrArg Prod.fst Y;have e2:y.2.2=l:=congrArg Prod.snd Y;have ev:valI (lvD b) (topL (lvR b))=some (.ref y.2.1):=by
   rw[zuh];cases hf:b.find? λq=>decide (q.1=topL (lvR b)) with
   |none=>exact absurd e1 (by simpa using xmy.mp hf y p)
   |some z=>
    have h1:z.1=topL (lvR b):=by simpa using xof hf
    rw[zwf d.at_.nd (xki hf) p (h1.trans e1.symm)];rfl
  have eg:aB (aE bMaxI (aB (aA 1) aC)) aC [some (aK g),some (.ref c.length),h,some (.ref M),u,o,v] s=.ok [.int (topL (lvR b))] s:=by
   rw[zjv,show aE bMaxI (aB (aA 1) aC) [some (aK g),some (.ref c.length),h,some (.ref M),u,o,v] s=_ from zbok d.at_.at_ Q]
   rfl
  unfold zqr;simp only[W,V];refine WP.of (zbmn rfl d.at_.at_ eg ev) ?_;rw[zbop]
  try simp only[W,V]
  have S:y.2.1≠c.length:=λz=>by have:=d.at_.in_ y p;rw[z,d.at_.at_] at this;cases this
  have J:(s.set c.length (.dI (lvD (lessV b (topL (lvR b))))))[y.2.1]?=some (.dT (aQ l)):=by
   rw[xbp S.symm,←e2];exact d.at_.in_ y p
  have fl:=f.g.few.2 _ w;have fl:l.length<=15000:=fl;refine WP.of (zhh J (by lia)) ⟨_,rfl,?_⟩;have n:=f.next w;have P:=d.less (m:=topL (lvR b));rw[←zboo] at n;have sl:(sortR l).length=l.length:=zee l;have tj:topL (lvR b)<j:=f.lt _ w;have t0:0<=topL (lvR b):=(f.g.key _ w).1;refine zbhh P n.g (by lia) (λr hr=>(f.g.row _ w r ((zm l).mem_iff.mp hr)).1) λs3 I q3 x2 x5 x6 U ee g3 a1=>?_
  refine⟨(topL (lvR b)).toNat,by lia,I,q3,_,_,_,_,rfl,U,?_,by lia⟩;have A:=n.rows K;rw[←ee] at A;rw[Int.toNat_of_nonneg t0];exact A
def zbrs(K:RwsOk ks)(k:∀q g,Way ks q->Q (.lst (stpD q)) (au++g)):WP (zbrq [aK ks] au) Q:=by
 refine zif rfl ?_;refine zbez K λq M s l h j f w b d a=>?_
 simp only[W,V,Dd.M];refine⟨_,_,rfl,b,?_⟩;have e:=zik (s:=s.set M .dead) (au:=au) (λi c=>by rw[xbp (by lia)];exact a i c) (by rw[xcx];have:=zf b;lia);rw[e];exact k q _ w
def zue(K:RwsOk ks)(w:Wkd ks q)(k:∀g,Q (aK (sortR (Wke ks q))) (au++g)):WP (zis [aK ks,.lst (stpD q)] au) Q:=by
 refine zif rfl ?_;simp only[W,V];refine WP.of (zpg K.nd (by have:=K.few;lia)) ?_
 try simp only[W,V]
 refine⟨_,rfl,?_⟩;refine zce (λi σ s=>∃l m g,σ=[some (aK ks),some (.lst (stpD q)),some (.ref au.length),l,m]/\s=au++.dT (aQ (Wke ks (q.take i)))::g/\RwsOk (Wke ks (q.take i))/\Wkd (Wke ks (q.take i)) (q.drop i)) ⟨_,_,[],rfl,rfl,K,w⟩ ?_ ?_
 ·rintro i x σ s f ⟨l,m,g,rfl,rfl,a,d⟩;unfold stpD at f;rw[xcg] at f;obtain⟨z,j,rfl⟩:=xdh.mp f;have u:=(xbd.mp j).1;have v:q.drop i=z::q.drop (i+1):=by
   rw[xde u];congr 1;exact(xbd.mp j).2
  have o:q.take (i+1)=q.take i++[z]:=ze j;rw[v] at d;obtain⟨c,h,t⟩:=d;have b:=a.row _ c;have r:=zng b h;refine⟨[some (aK ks),some (.lst (stpD q)),some (.ref au.length),some (aL z.1),some (.int z.2)],rfl,?_⟩;unfold zic;simp only[W,V];obtain⟨y,e⟩:=zmn (au:=au++.dT (aQ (Wke ks (q.take i)))::g) (n:=au.length) (p:=z.2) (by simp) a.nd (by have:=a.few;lia) c (by have:=b.len;lia) h r.1.1 (by lia) (by lia) (by lia);refine WP.of e ?_;simp only[L];refine⟨_,_,g++y,rfl,?_,?_,?_⟩
  ·rw[o,Wke.snoc];unfold stepK;simp
  ·rw[o,Wke.snoc];exact(a.step c h).1
  ·rw[o,Wke.snoc];exact t
 ·rintro σ s ⟨l,m,g,rfl,rfl,a,d⟩;rw[show(stpD q).length=q.length from xbb ..,xcb] at *
  simp only[W,V];refine WP.of (zhh (n:=au.length) (ks:=Wke ks q) (by simp) (by have:=a.few;lia)) ?_;exact WP.of (show bTuple [.lst (aJ (sortR (Wke ks q)))] _=.ok (aK (sortR (Wke ks q))) _ from rfl) (k _)
def zuv(K:RwsOk ks)(k:∀g,Q (aK (stl (nuS ks))) (au++g)):WP (zit [aK ks] au) Q:=by
 refine zif rfl ?_;simp only[W,V];refine zbrs K λq g w=>?_
 refine zue K w.wk λa=>?_
 rw[zbfb K w.wk w.fin,xch];exact k _
def zbjt{a b:Int}{i:Nat}:cutD [D.int (a+b-i),D.int i] none (some (1+if(1:Int)<i then 1 else(i:Int)))=(rowC a b i).map D.int:=by
 unfold rowC;by_cases c:i=0
 ·subst c;rw[if_neg (by decide)];have:=zbjs [D.int (a+b-(0:Nat)),D.int (0:Nat)] 1;refine this.trans ?_;simp
 ·have h:(1+if(1:Int)<i then 1 else(i:Int))=((2:Nat):Int):=by split<;>lia
  rw[h,if_pos (by lia)];exact zbjs _ 2
def zvw:oddW e k=true↔Builtin.bitAnd e k=k:=by
 unfold oddW;rw[xih];exact⟨λh=>by injection h,λh=>by rw[h]⟩
def zpw(o:1<=a)(e:a<=40)(n:1<=b)(l:b<=40)(f:a<2*b)(k:∀g,Q (.lst (aJ (rowsL a b (a/2+1).toNat))) (au++g)):WP (zec [.int a,.int b] au) Q:=by
 refine zif rfl ?_;simp only[W,V];refine⟨small _ (by simp),zbpy (by lia) (by lia),_,rfl,rngN (by lia) (by lia),?_⟩;refine zce (λi σ s=>(∃v,σ=[some (.int a),some (.int b),some (.ref au.length),v])/\s=au++[.lst (aJ (rowsL a b i))]) ⟨⟨_,rfl⟩,rfl⟩ ?_ ?_
 ·rintro i x σ s h ⟨⟨v,rfl⟩,rfl⟩;obtain⟨p,rfl⟩:=zfy h;have j:2*(i:Int)<=a:=by lia
  refine⟨[some (.int a),some (.int b),some (.ref au.length),some (.int (0+i))],rfl,?_⟩;rw[xhe];have q:=zef a b i;have d:(au++[O.lst (aJ (rowsL a b i))])[au.length]?=some (.lst (aJ (rowsL a b i))):=by simp
  have m:CMul 2 (i:Int):=.inl ⟨by decide,by decide⟩;unfold zgf;simp only[W,V,M];refine⟨trivial,trivial,m,trivial,trivial,m,trivial,?_⟩;split
  ·rename_i c;refine⟨_,_,rfl,d,trivial,small _ (by simp),_,rfl,.inl ⟨_,rfl,_,_,rfl,d,by rw[zc];exact smallT _ (by lia),?_⟩⟩;simp only[L];refine⟨⟨_,rfl⟩,?_⟩;rw[zbjt,zrg (zvw.mpr c)];simp[aJ]
  ·rename_i c;simp only[L];refine⟨⟨_,rfl⟩,?_⟩;rw[zvc λz=>c (zvw.mp z)]
 ·rintro σ s ⟨⟨v,rfl⟩,rfl⟩;rw[zx];simp only[W,V,M];refine⟨_,_,rfl,by simp;rfl,?_⟩;have:=k [.dead]
  simpa using this
def exU(r:List Int) (p:Nat):List (List Int):=(rowsL (r.getD p 0) (r.getD (p+1) 0) (r.getD p 0/2+1).toNat).map λtwo=>r.take p++two++r.drop (p+2)
def zxe(r:List Int)(p:Nat):(exRow r p).Perm (exU r p):=(zm _).map _
def zbeg(r:List Int)(p:Nat):(exU r p).length<=(r.getD p 0/2+1).toNat:=by unfold exU;rw[xbb];exact zef _ _ _
structure Two (au:Store) (A B:Nat) (xs ys:List D) (s:Store):Prop where
 a:s[A]?=some (.lst xs)
 b:s[B]?=some (.lst ys)
 ne:A≠B
 bA:au.length<=A
 bB:au.length<=B
 low:∀i,i<au.length->s[i]?=au[i]?
def Two.more{A B:Nat}(h:Two au A B xs ys s)(g:Store):Two au A B xs ys (s++g):=by
 have b:=zf h.a;refine⟨by rw[xbj b];exact h.a,by rw[xbj (zf h.b)];exact h.b,h.ne,h.bA,h.bB,λi a=>?_⟩;rw[xbj (by have:=h.bA;lia)];exact h.low i a
def Two.putA{A B:Nat}(h:Two au A B xs ys s):Two au A B zs ys (s.set A (.lst zs)):=by
 refine⟨zcy (zf h.a),by rw[xbp h.ne];exact h.b,h.ne,h.bA,h.bB,λi a=>?_⟩;rw[xbp (by have:=h.bA;lia)];exact h.low i a
def Two.putB{A B:Nat}(h:Two au A B xs ys s):Two au A B xs zs (s.set B (.lst zs)):=by
 refine⟨by rw[xbp h.ne.symm];exact h.a,zcy (zf h.b),h.ne,h.bA,h.bB,λi a=>?_⟩;rw[xbp (by have:=h.bB;lia)];exact h.low i a
def zbpj:oEqG false (.lst (plD l)) (.lst []) s=.ok (.bl (decide (l=[]))) s:=by
 have h:=zbnr (au:=s) (ns:=l.map λp:Nat=>(p:Int));rw[xcv] at h;refine Eq.trans h ?_
 congr 2
 simp
def zbac{r:List Int}(j:r.length<=1000)(k:Q (.lst (plD (placesL r))) au):WP (aG (iR1 (aB (aS oSub (aE bLen (aB (aA 4) aC)) (eC (.int 1))) aC)) 1 [4] (gN 0) (eB (aS oLtT (aS oIx (aA 1) (aA 0)) (aS oMulI (eC (.int 2)) (aS oIx (aA 1) (aS aM (aA 0) (eC (.int 1))))))) (aA 0) [a0,a1,a2,a3,some (aL r),a5,a6] au) Q:=by
 simp only[W,V];rw[show(((r.map D.int).length:Nat):Int)=(r.length:Int) by simp];have i:(r.length:Int)<=1000:=by lia
 refine⟨trivial,_,rfl,rngN (by lia) (by lia),by rw[zx];exact small _ (by lia),?_⟩;have h:((r.length:Int)-1).toNat=r.length-1:=by lia
 rw[h];unfold rng;refine ziu (λσ=>∃v,σ=[v,some (aL r)]) (λp:Nat=>decide (slowAt r p)) (λp:Nat=>D.int p) (λp:Nat=>D.int (0+p)) ⟨_,rfl⟩ ?_ k;rintro p d σ ⟨v,rfl⟩;have d:=xbs.mp d;have a:r[p]?=some r[p]:=xbf (by lia);have b:r[p+1]?=some r[p+1]:=xbf (by lia);have g:=λs=>zhx (au:=s) a
 have e:=λs=>zhx (au:=s) b
 rw[xjd] at e;rw[xhe];refine⟨_,rfl,⟨_,rfl⟩,?_,λ_=>?_⟩
 ·simp only[W,V];refine WP.of (g _) (WP.of (e _) ?_);simp only[W,V];refine⟨.inl ⟨by decide,by decide⟩,trivial,?_⟩;rw[xhm];exact⟨λz=>⟨_,_,a,b,z⟩,λ⟨x,y,f,c,z⟩=>by rw[a] at f;rw[b] at c;cases f;cases c;exact z⟩
 ·simp only[W,V];exact⟨trivial,trivial⟩
def zbun(c:RowOk r 16 6)(e:slowAt r p)(k:∀g,Q (.lst (aJ (exU r p))) (s++g)):WP (aG (aH (aE zec (aB (aS oIx (aA 4) (aA 6)) (aB (aS oIx (aA 4) (aS aM (aA 6) (eC (.int 1)))) aC)))) 1 [4,6] (gN 0) aI (aS aM (aS aM (eSl (aA 1) pNone (pSome (aA 2))) (aA 0)) (eSl (aA 1) (pSome (aS aM (aA 2) (eC (.int 2)))) pNone)) [a0,a1,a2,a3,some (aL r),a5,some (.int p)] s) Q:=by
 have q:=zng c e;have y:p+1<r.length:=by obtain⟨a,b,_,z,_⟩:=e;exact(xbd.mp z).1
 have d:r.getD p 0<2*r.getD (p+1) 0:=by
  obtain⟨a,b,u,j,h⟩:=e;rw[xbh,u,xbh,j];exact h
 have m:r[p]?=some (r.getD p 0):=by rw[xbh,xbf (by lia)];rfl
 have t:r[p+1]?=some (r.getD (p+1) 0):=by rw[xbh,xbf (by lia)];rfl
 have l:=λs=>zhx (au:=s) m
 have i:=λs=>zhx (au:=s) t
 rw[xjd] at i;have C:=c.len;unfold exU at k;generalize r.getD p 0=a at *
 generalize r.getD (p+1) 0=b at *
 simp only[W,V];refine WP.of (l _) (WP.of (i _) ?_);refine zpw (by lia) (by lia) (by lia) (by lia) d λg=>⟨_,rfl,by rw[zc];exact small _ (by have:=zef a b (a/2+1).toNat;lia),?_⟩
 have n:=zxq r p;have f:=zms r (p+2);rw[xjd] at f;unfold aJ;refine ziu (λσ=>∃v,σ=[v,some (aL r),some (.int p)]) (λ_=>true) (λtwo=>aL (r.take p++two++r.drop (p+2))) aL ⟨_,rfl⟩ ?_ ?_
 ·rintro two o σ ⟨v,rfl⟩;have w:two.length<=2:=zkl two o;refine⟨_,rfl,⟨_,rfl⟩,by simp only[W,xjj],λ_=>?_⟩;simp only[W,V,M];refine⟨_,rfl,.inl ⟨_,rfl,?_⟩⟩;rw[n];have A:(r.take p).length<=100:=by rw[xcl];lia
  have x:(r.drop (p+2)).length<=100:=by rw[xfq];lia
  refine⟨by rw[xbb,xbb];exact small _ (by lia),_,rfl,.inl ⟨_,rfl,?_⟩⟩;rw[show(p:Int)+2=(p:Int)+(2:Nat) from rfl,f];refine⟨by rw[xbk,xbb,xbb,xbb];exact small _ (by lia),trivial,?_⟩;simp[aL]
 ·rw[zfr];have:=k g;rw[show aJ ((rowsL a b (a/2+1).toNat).map λtwo=>r.take p++two++r.drop (p+2))=(rowsL a b (a/2+1).toNat).map λtwo=>aL (r.take p++two++r.drop (p+2)) from by unfold aJ;rw[xcv];rfl] at this;exact this
def zbwm:WP (aB f aC σ au) Q=WP (f σ au) (λx s=>Q [x] s):=by simp only[W]
def stB(r:List Int):Bool:=decide (placesL r=[])
def zbos(h:l≠[])(s:Store):∃p∈l,oIx (.lst (plD l)) (.int (-1)) s=.ok (.int p) s:=by
 refine⟨l.getLast h,List.getLast_mem h,zjh (xs:=plD l) rfl ?_⟩;have a:0<l.length:=List.length_pos_iff.mpr h;have e:plD l=plD l.dropLast++[D.int (l.getLast h)]:=by
  conv=>lhs;rw[←xms h]
  simp
 rw[e];exact zqo _ _
structure Fur (m:Int) (ws fu:List (List Int)):Prop where
 row:∀r∈fu,RowOk r 16 6/\momR 1 r<m
 nus:nuS (ws.filter stB)^^^nuS fu=nuS ws
 len:fu.length<=9*ws.length
def Fur.steep(h:Fur m ws fu)(a:placesL r=[]):Fur m (ws++[r]) fu:=by
 refine⟨h.row,?_,by rw[xbk];have:=h.len;lia⟩;rw[xdz,xck (by unfold stB;exact xcj a),xmi,zdb,zdb,←h.nus,xfb,xnz (nuS [r]),←xfb]
def Fur.ex(h:Fur m ws fu)(a:RowOk r 16 6)(b:slowAt r p)(g:momR 1 r<=m):Fur m (ws++[r]) (fu++exU r p):=by
 have c:¬ placesL r=[]:=λz=>zbfj z p b
 refine⟨λx hx=>?_,?_,?_⟩
 ·rcases xcc.mp hx with hx|hx
  ·exact h.row x hx
  ·have hx:=(zxe r p).mem_iff.mpr hx;have:=zwg a.pos b hx;exact⟨zin a b x hx,by lia⟩
 ·rw[xdz,xco (by unfold stB;rw[xcm c];decide),xmi,xdt,zdb,zdb,←h.nus,←zlx (zxe r p),zbnx a b,xfb];show _=nuS _^^^(nuS fu^^^(nu r^^^0));rw[xmh]
 ·have d:=h.len;have f:=zbeg r p;have e:=(zng a b).1.2;rw[xbk,xbk,xfx];lia
def zblf(K:RwsOk a)(J:∀r∈a,momR 1 r<=m)(t:Two au A B (aJ sp) [] s)(I:sp.length<=100000)
  (k:∀b n h f d,Fur m a b->Two au A B (aJ (sp++a.filter stB)) (aJ b) n->QQ (.nx [a0,some (aK a),some (.ref A),some (.ref B),h,f,d]) n):
  WP (forF (gN 4) zde (aJ a) [a0,some (aK a),some (.ref A),some (.ref B),v4,v5,v6] s) QQ:=by
 have G:=K.few;refine zce (λi σ s=>∃b h f d,σ=[a0,some (aK a),some (.ref A),some (.ref B),h,f,d]/\Fur m (a.take i) b/\Two au A B (aJ (sp++(a.take i).filter stB)) (aJ b) s) ⟨[],_,_,_,rfl,⟨λr H=>(by cases H),by simp[nuS],by simp⟩,by simpa using t⟩ ?_ ?_
 ·rintro i x σ s E ⟨b,h,f,d,rfl,F,t⟩;obtain⟨r,j,rfl⟩:=zba E;have U:=(xbd.mp j).1;have l:=xbn j;have c:=K.row r l;have T:=c.len;refine⟨[a0,some (aK a),some (.ref A),some (.ref B),some (aL r),f,d],rfl,?_⟩;have X:(sp++(a.take i).filter stB).length<=200000:=by
   have:=xfy stB (a.take i);rw[xcl] at this;rw[xbk];lia
  have C:=F.len;rw[xcl] at C;unfold zde;rw[ztb];obtain⟨P,n,z,w,o⟩:=(zbac (au:=s) (a0:=a0) (a1:=some (aK a)) (a2:=some (.ref A)) (a3:=some (.ref B)) (a5:=f) (a6:=d) (r:=r) (Q:=λv n=>v=.lst (plD (placesL r))/\n=s) (by lia) ⟨rfl,rfl⟩).get;rw[w,o] at z;clear w o;refine WP.of (show aF 5 _ _ _=.ok (.nx [a0,some (aK a),some (.ref A),some (.ref B),some (aL r),some (.lst (plD (placesL r))),d]) _ from by rw[zbsf,z];rfl) ?_;simp only[W,V];refine⟨small _ (by simp),WP.of zbpj ?_⟩;simp only[W,V];by_cases hp:placesL r=[]
  ·rw[if_pos hp];simp only[W,V,M];refine⟨_,_,rfl,t.a,_,_,rfl,t.a,by rw[zc];exact smallT _ (by lia),?_⟩;simp only[L];refine⟨b,_,_,_,rfl,by rw[ze j];exact F.steep hp,?_⟩;rw[ze j,xdz,xck (by unfold stB;exact xcj hp),xmi,←xch];have:=t.putA (zs:=aJ (sp++(a.take i).filter stB)++[aL r]);rw[show aJ (sp++(a.take i).filter stB)++[aL r]=aJ (sp++(a.take i).filter stB++[r]) from by simp[aJ]] at this;rw[show aJ (sp++(a.take i).filter stB)++[aL r]=aJ (sp++(a.take i).filter stB++[r]) from by simp[aJ]];exact this
  ·rw[if_neg hp];obtain⟨p,u,e⟩:=zbos hp s;have q:=zgs.mp u
   try simp only[W,V]
   refine WP.of e ?_
   try simp only[W,V]
   rw[zgp];refine WP.of (show aA 3 [a0,some (aK a),some (.ref A),some (.ref B),some (aL r),some (.lst (plD (placesL r))),some (.int p)] _=.ok (.ref B) _ from rfl) ⟨_,_,rfl,t.b,?_⟩;rw[zbwm];refine zbun c q λg=>?_
   have y:=t.more g;have Y:=zbeg r p;have S:=(zng c q).1.2;refine⟨_,_,_,rfl,y.b,rfl,by rw[zc,zc];exact small _ (by lia),?_⟩;simp only[L];refine⟨b++exU r p,_,_,_,rfl,by rw[ze j];exact F.ex c q (J r l),?_⟩;rw[ze j,xdz,xco (by unfold stB;rw[xcm hp];decide),xmi,xdt];have:=y.putB (zs:=aJ b++aJ (exU r p));rw[show aJ (b++exU r p)=aJ b++aJ (exU r p) from by simp[aJ]];exact this
 ·rintro σ s ⟨b,h,f,d,rfl,F,t⟩;rw[zc,xcb] at F t;exact k b s h f d F t
def zzj{l:List (List Int)}(b:l.Nodup)(h:StOk16 l):l.length<=84:=by
 have:=zrz b λr a=>by
  obtain⟨i,e,_⟩:=zlw (h r a).1 (h r a).2;exact xbn e
 rwa [zhn] at this
def zme(X:seqV x=some (aJ l))(c:∀r∈l,RowOk r 16 6)(hl:l.length<=1000000)(k:∀g,Q (aK (stl (nuS l))) (au++g)):WP (zdl [x] au) Q:=by
 refine zif rfl ?_;simp only[W,V];obtain⟨g0,e0⟩:=zfn (au:=au) X hl (by have:=zcf l;lia);refine WP.of e0 ⟨small _ (by simp),?_⟩;generalize hA:(au++g0).length=A;have y:au.length<=A:=by rw[←hA,xbk];lia
 refine zov (λj σ s=>∃a sp P G C I,σ=[some x,some (aK a),some (.ref A),P,G,C,I]/\RwsOk a/\(∀r∈a,momR 1 r<j)/\StOk16 sp/\nuS sp^^^nuS a=nuS l/\sp.length+84*j<=84*113/\s[A]?=some (.lst (aJ sp))/\∀i,i<au.length->s[i]?=au[i]?) (k:=113) ?_ (by lia) ?_
 ·refine⟨aO l,[],_,_,_,_,rfl,⟨zck l,λr h=>c r (zcz h)⟩,λr h=>?_,λr h=>(by cases h),?_,by simp,by rw[←hA];simp,λi d=>?_⟩
  ·have:=zbaq (c r (zcz h));lia
  ·rw[zwa];exact xmg _
  ·rw[xch,xbj d]
 ·rintro j σ s ⟨a,sp,P,G,C,I,rfl,K,J,S,z,H,p,e⟩;simp only[W,V];rw[show(((aJ a).length:Nat):Int)=(a.length:Int) by rw[zc]];refine⟨trivial,?_⟩;cases a with
  |nil=>
   rw[if_neg (by simp)];simp only[W,V,M];refine⟨_,_,rfl,p,?_⟩;obtain⟨g1,v⟩:=zfn (au:=s.set A .dead) (x:=.lst (aJ sp)) (l:=sp) rfl (by lia) (by have:=zcf sp;lia);refine WP.of v ?_;have w:au.length<=s.length:=by have:=zf p;lia
   have Y:=zik (s:=s.set A .dead) (au:=au) (λi d=>by rw[xbp (by lia)];exact e i d) (by rw[xcx];exact w);have T:aO sp=stl (nuS l):=by
    have q:StOk16 (aN sp):=λr h=>S r (zcz (by unfold aO;rw[(zm _).mem_iff];exact h))
    have n:=zbls q (zda sp);have U:nuS (aN sp)=nuS sp:=by rw[←zwa sp];unfold aO;exact(zlx (zm _)).symm
    rw[U,show nuS sp=nuS l by rw[←z];exact(xmh _).symm] at n;exact n
   rw[Y,T,xch];exact k _
  |cons r0 ws0=>
   generalize hws:r0::ws0=a at *
   have f:0<a.length:=by rw[←hws];simp
   clear hws r0 ws0;rw[if_pos (by lia)];have hj:0<j:=by
    obtain⟨r,c⟩:=List.exists_mem_of_length_pos f;have q:=J r c;have n:=zbaq (K.row r c);lia
   unfold zfh;simp only[W,V];refine⟨small _ (by simp),_,rfl,?_⟩;have u:=zf p;have t:Two au A s.length (aJ sp) [] (s++[.lst []]):=⟨by rw[xbj u];exact p,by simp,by lia,y,by lia,λi d=>by rw[xbj (by lia)];exact e i d⟩
   generalize s.length=B at t;refine zblf (m:=(j:Int)-1) K (λr c=>by have:=J r c;lia) t (by lia) λo s' w4 w5 w6 F b=>?_
   simp only[W,V,M];refine⟨_,_,rfl,b.b,?_⟩;have a0:=K.few;have fl:=F.len;obtain⟨g1,v⟩:=zfn (au:=s'.set B .dead) (x:=.lst (aJ o)) (l:=o) rfl (by lia) (by have:=zcf o;lia);refine WP.of v ?_;simp only[L];have E:StOk16 (a.filter stB):=λr h=>by
    obtain⟨q,n⟩:=xcp.mp h;exact⟨K.row r q,zbfj (xdc n)⟩
   have sl:=zzj (K.nd.filter stB) E;have a1:=zf b.b;refine⟨j-1,by lia,aO o,sp++a.filter stB,_,_,_,_,rfl,⟨zck o,λr h=>(F.row r (zcz h)).1⟩,λr h=>?_,λr h=>?_,?_,?_,?_,λi d=>?_⟩
   ·have:=(F.row r (zcz h)).2;lia
   ·rcases xcc.mp h with h|h
    ·exact S r h
    ·exact E r h
   ·rw[zwa,zdb,xfb,F.nus,z]
   ·rw[xbk];lia
   ·rw[xbj (by rw[xcx];exact zf b.a),xbp b.ne.symm];exact b.a
   ·have:=b.bB;rw[xbj (by rw[xcx];lia),xbp (by lia)];exact b.low i d
end Dd
namespace Dd
open L2 K13
def zmf(I:0<=t)(o:∀r∈l,∀x∈r,0<=x/\x<=1000)(T:∀r∈l,r.length<=1000)(A:∀r∈l,box r<=20000)(hT:(raiseL t l).length<=900000)(k:∀g,Q (aK (aO (raiseL t l))) (au++g)):WP (zdf [aK l,.int t] au) Q:=by
 refine zif rfl ?_;simp only[W,V,Dd.N];refine⟨small _ (by simp),?_⟩;have c:∀i,(raiseL t (l.take i)).length<=900000:=λi=>by
  have e:raiseL t l=raiseL t (l.take i)++raiseL t (l.drop i):=by
   unfold raiseL;rw[←xir,xdd]
  rw[e,xbk] at hT;lia
 refine zce (λi σ s=>(∃v w x y z a,σ=[some (aK l),some (.int t),some (.ref au.length),v,w,x,y,z,a])/\∃g,s=au++(.lst (aJ (raiseL t (l.take i)))::g)) ⟨⟨_,_,_,_,_,_,rfl⟩,[],rfl⟩ ?_ ?_
 ·rintro i y σ s C ⟨⟨v,w,x,G,z,a,rfl⟩,g,rfl⟩;obtain⟨r,n,rfl⟩:=zba C;have f:=xbn n;have u:∀x∈r,0<=x:=λx P=>(o r f x P).1
  refine⟨_,rfl,?_⟩;unfold zgd;simp only[W,V,Dd.N];refine⟨small _ (by simp),small _ (by simp),small _ (by simp),?_⟩;refine zce (λj σ s=>(∃x y z a,σ=[some (aK l),some (.int t),some (.ref au.length),some (aL r),some (.lst ((lawS t (r.take j)).map ptD)),x,y,z,a])/\∃g,s=au++(.lst (aJ (raiseL t (l.take i)))::g)) ⟨⟨_,_,_,_,rfl⟩,g,rfl⟩ ?_ ?_
  ·rintro j y σ s C ⟨⟨x,G,z,a,rfl⟩,g,rfl⟩;obtain⟨e,E,rfl⟩:=zkv C;refine⟨_,rfl,?_⟩;obtain⟨q,U⟩:=o r f e (xbn E);have b:=zwp r t j;have m:=zyb r (j+1);rw[ze E,zdy,show box [e]=e.toNat+1 by simp[box]] at m;have h:(lawS t (r.take j)).length*(e.toNat+1)<=20000:=xbc (xdj _ b) (xbc m (A r f));have d:=zbhl r I j;have a0:=T r f;rw[ze E,zmi];unfold lawStep;generalize lawS t (r.take j)=ps at h d ⊢;obtain⟨X,rfl⟩:=xdk q;simp only[V];refine zmh (e:=X) (by lia) (by rw[xfj] at h;lia) (λp o=>?_) λw6 w7 w8 H=>?_
   ·obtain⟨q1,S⟩:=d p o;rw[q1,xcl];exact⟨by lia,S⟩
   ·refine⟨⟨_,_,_,_,rfl⟩,g++H,by simp⟩
  ·rintro σ s ⟨⟨x,G,z,a,rfl⟩,g,rfl⟩;rw[xbb,xcb];simp only[W,V,Dd.N,L,zgp];have b:=zwp r t r.length;rw[xcb] at b;have J:=A r f;refine⟨_,_,rfl,zfb _ _,by rw[xbb];exact small _ (by lia),?_⟩;refine ziu (as:=lawS t r) (λσ=>∃v w,σ=[v,w]) (λp=>decide (p.2=0)) (λp=>aL p.1) ptD ⟨_,_,rfl⟩ ?_ ?_
   ·rintro p o σ ⟨v,w,rfl⟩;exact⟨_,rfl,⟨_,_,rfl⟩,by simp only[W,V,xjj],λ_=>by simp only[W,V,xjj]⟩
   ·have Y:((lawS t r).filter λp=>decide (p.2=0)).map (λp=>aL p.1)=aJ (raiseR t r):=by
     rw[←zbdv u I];unfold lawP aJ;rw[xcv]
     rfl
    rw[Y];have q:=c i;have U:=zvl (k:=t) (A r f);refine⟨_,_,_,rfl,zfb _ _,rfl,by rw[zc,zc];exact small _ (by lia),⟨_,_,_,_,_,_,rfl⟩,g,?_⟩;rw[zkk,ze n,zkm];simp[aJ]
 ·rintro σ s ⟨⟨v,w,x,G,z,a,rfl⟩,g,rfl⟩;rw[zc,xcb];have q:=c l.length;rw[xcb] at q;simp only[W,V,M,Dd.N];refine⟨_,_,rfl,zfb _ _,?_⟩;refine zrr (l:=raiseL t l) rfl (by lia) λH=>?_
  rw[zkk,xch];exact k _
def zbby:(List.range 7).all (λn=>(List.range 9).all λT=>(List.range 9).all λk=>Nat.ble (T+k) 8==false||Nat.ble ((bif Nat.ble n 3 then 6 else 2)*(ctb n T*ctb n k)) 600000)=true:=by decide +kernel
structure KZ (n K:Nat) (S0:List Row):Prop where
 kx:KX n K S0
 n6:n<=6
 k8:K<=8
 len:S0.length<=bif Nat.ble n 3 then 6 else 2
def KZ.total{n K:Nat}(h:KZ n K S0){T k:Nat}(t:T+k<=K){l:List Row}(g:l.Nodup)(d:∀x∈l,x∈UU S0 T):(raiseL (k:Int) l).length<=600000:=by
 have s:(raiseL (k:Int) l).length<=l.length*cle n k:=zrj λr e=>by
  obtain⟨p,b,i⟩:=xcy.mp (d r e);obtain⟨a,j⟩:=ztc i;have:=zzt (k:=k) (a.pos (h.kx.rows p b).2)
  rwa [a.len,(h.kx.rows p b).1] at this
 have a:l.length<=(UU S0 T).length:=xeo g λx f=>d x f
 rw[zbkn h.kx.rows] at a;have j:l.length*cle n k<=S0.length*(cle n T*cle n k):=by
  rw[←xkc];exact xdj _ a
 have q:=h.k8;have m:=h.n6;have:=xca.mp (xca.mp (xca.mp zbby n (xbs.mpr (by lia))) T (xbs.mpr (by lia))) k (xbs.mpr (by lia));have c:Nat.ble (T+k) 8=true:=xmf.mpr (by lia);rw[c] at this;have:=xmf.mp (by simpa using this);rw[zxr (by lia),zxr (by lia)] at this;have o:=xdj (cle n T*cle n k) h.len;lia
def KZ.top{n K:Nat}(h:KZ n K S0){T:Nat}(j:T<=K){l:List Row}(d:l.Nodup)(e:∀x∈l,x∈UU S0 T):l.length<=20000:=by
 have c:l.length<=(UU S0 T).length:=xeo d λx b=>e x b
 rw[zbkn h.kx.rows] at c;have i:=h.k8;have f:=h.n6;have a:(List.range 7).all (λn=>(List.range 9).all λT=>Nat.ble ((bif Nat.ble n 3 then 6 else 2)*ctb n T) 20000)=true:=by decide +kernel
 have:=xmf.mp (xca.mp (xca.mp a n (xbs.mpr (by lia))) T (xbs.mpr (by lia)));rw[zxr (by lia)] at this;have g:=xdj (cle n T) h.len;lia
def zmg{n K:Nat}(h:KZ n K S0){T k:Nat}(e:1<=k)(d:T+k<=K){l:List Row}(c:l.Nodup)(b:∀x∈l,x∈UU S0 T)(q:∀g,Q (aK (aO (raiseL (k:Int) l))) (au++g)):WP (zdf [aK l,.int (k:Int)] au) Q:=
 zmf (by lia) (λr a=>(h.kx.item (by lia) (b r a)).2.1) (λr a=>by rw[(h.kx.item (by lia) (b r a)).1];have:=h.n6;lia) (λr a=>(h.kx.item (by lia) (b r a)).2.2) (by have:=h.total d c b;lia) q
def zbhj{T:SS}(G:T=sFor (aH (eBack (aA 3) (eUn oNeg (eC (.int 1))))) (gN 5) zfj){n K f:Nat}{x d:List Row}(h:KZ n K x)(Y:∀y∈d,y∈UU x f){r t v C:Option D}{a:Row}{s0:Store}{Q:Fl->Store->Prop}(q:∀p∈a,1<=p)(ps:a.sum+f<=K)(rl:a.length<=100)(U:d.Nodup)
  (o:∀l i g,l.Nodup->(∀y∈l,y∈UU x K)->(∀y,l.count y%2=(R a d).count y%2)->Q (.nx [r,t,v,some (aL a),some (aK l),i]) (s0++g)):
  WP (T [r,t,v,some (aL a),some (aK d),C] s0) Q:=by
 subst G;have H:eBack (aA 3) (eUn oNeg (eC (.int 1))) [r,t,v,some (aL a),some (aK d),C] s0=.ok (.tup (a.map D.int).reverse) s0:=rfl;refine zbck (WP.of H ⟨_,rfl,?_⟩);refine zce (λj σ s=>∃i l g,σ=[r,t,v,some (aL a),some (aK l),i]/\s=s0++g/\l.Nodup/\(∀y∈l,y∈UU x (f+(a.drop (a.length-j)).sum.toNat))/\∀y,l.count y%2=(R (a.drop (a.length-j)) d).count y%2) ⟨_,d,[],rfl,by simp,U,λy b=>?_,λy=>?_⟩ ?_ ?_
 ·rw[xnw,xnx];exact zsz (xcf _ _) (Y y b)
 ·rw[xnw,xnx]
  rfl
 ·rintro j y σ s b ⟨i,l,g,rfl,rfl,A,k,u⟩;have P:j<a.length:=by have:=(xbd.mp b).1;simpa using this
  have S:a.length-j=a.length-(j+1)+1:=by lia
  have c:a.length-(j+1)<a.length:=by lia
  have J:y=.int a[a.length-(j+1)]:=by
   rw[List.getElem?_reverse (by simpa using P),xbb,xcg,show a.length-1-j=a.length-(j+1) by lia,xbf c] at b
   simpa using b.symm
  subst J;refine⟨_,rfl,?_⟩;unfold zfj;have w:a.drop (a.length-(j+1))=a[a.length-(j+1)]::a.drop (a.length-j):=by
   rw[xde c,S]
  generalize hk:a[a.length-(j+1)]=kk at w;have k1:1<=kk:=q kk (by rw[←hk];exact xed c);obtain⟨E,rfl⟩:=xdk (show 0<=kk by lia);have z:0<=(a.drop (a.length-j)).sum:=zmc λp m=>by have:=q p (xfe m);lia
  have X:(a.drop (a.length-(j+1))).sum<=a.sum:=by
   have e:=xdd (a.length-(j+1)) a;have e2:a.sum=(a.take (a.length-(j+1))).sum+(a.drop (a.length-(j+1))).sum:=by rw[←xes,e]
   have:0<=(a.take (a.length-(j+1))).sum:=zmc λp m=>by have:=q p (xek m);lia
   lia
  rw[w,xcz] at X;simp only[W,V];refine zmg h (T:=f+(a.drop (a.length-j)).sum.toNat) (by lia) (by lia) A k λI=>?_
  simp only[L];refine⟨_,_,g++I,rfl,by simp,zck _,λy b=>?_,λy=>?_⟩
  ·have:=zhs h.kx.rows k (zcz b);rw[w,xcz,show f+((E:Int)+(a.drop (a.length-j)).sum).toNat=f+(a.drop (a.length-j)).sum.toNat+E by lia];exact this
  ·rw[zhb,w];exact zri _ u y
 ·rintro σ s ⟨i,l,g,rfl,rfl,A,k,u⟩;rw[xkg,xbb,xjo,xok] at k u;have z:0<=a.sum:=zmc λp m=>by have:=q p m;lia
  exact o l i g A (λy b=>zsz (by lia) (k y b)) u
section
def ztu{n K:Nat}{c:List Row}(h:KZ n K c){a:List Row}(S:a.length<=20)(z:∀r∈a,r.length<=100)(u:RowsK K 0 a)(A:c.Nodup)(k:∀g,Q (aK (aO (doneL a c))) (d++g)):WP (zed [aK a,aK c] d) Q:=by
 have E:∀y∈c,y∈UU c 0:=λy m=>zys m
 refine zif rfl ?_;simp only[W,V];refine⟨small _ (by simp),_,rfl,?_⟩;refine zce (λi σ s=>∃p f e F g,σ=[some (aK a),some (aK c),some (.ref d.length),p,f,e]/\s=d++.lst (aJ F)::g/\F.length<=20000*i/\∀y,F.count y%2=(doneL (a.take i) c).count y%2) ⟨_,_,_,[],[],rfl,rfl,by simp,λy=>rfl⟩ ?_ ?_
 ·rintro i y σ s m ⟨p,f,e,F,g,rfl,rfl,v,j⟩;obtain⟨b,q,rfl⟩:=zba m;have o:=xbn q;have P:=(xbd.mp q).1;refine⟨[some (aK a),some (aK c),some (.ref d.length),some (aL b),f,e],rfl,?_⟩;unfold zie;rw[ztb];refine WP.of (show aF 4 (aA 1) [some (aK a),some (aK c),some (.ref d.length),some (aL b),f,e] (d++O.lst (aJ F)::g)=.ok (.nx [some (aK a),some (aK c),some (.ref d.length),some (aL b),some (aK c),e]) (d++.lst (aJ F)::g) from rfl) ?_;show WP (aD _ _ _ _) _;rw[ztb];refine zbhj rfl h E (u.pos b o) (by have:=u.sum b o;lia) (z b o) A λl G t C w x=>?_
  show WP (sDrop _ _ _) _;simp only[W,V,zgp];have H:=h.top (xbl _) C w;refine⟨_,_,rfl,by simp;rfl,_,_,_,rfl,by simp;rfl,rfl,by rw[zc,zc];exact small16 (by lia),?_⟩;simp only[L];refine⟨_,_,_,F++l,g++t,rfl,by simp[aJ],by rw[xbk];lia,λy=>?_⟩;rw[ze q];unfold doneL at j ⊢;rw[xir,List.flatMap_singleton,xer,xer];have I:=j y;have J:=x y;lia
 ·rintro σ s ⟨p,f,e,F,g,rfl,rfl,v,j⟩;rw[zc] at v;rw[zc,xcb] at j;simp only[W,V,M];refine⟨_,_,rfl,zfb _ _,?_⟩;refine zrr (l:=F) rfl (by lia) λt=>?_
  rw[zkk,zjg j,xch];exact k _
end
def zoa{c:List Row}(u:∀r∈d,r.length<=1000)(A:d.length*c.length<=1000000)(k:∀g,Q (aK (aO (mulL d c))) (au++g)):WP (zci [aK d,aK c] au) Q:=by
 refine zif rfl ?_;simp only[W,V];refine⟨small _ (by simp),_,rfl,?_⟩;have e:∀i,(mulL (d.take i) c).length+(if i<d.length then c.length else 0)<=1000000:=λi=>by
  rw[zfm,xcl];split
  ·rename_i h;have t:(i+1)*c.length<=d.length*c.length:=xdj _ h;rw[xhv] at t;rw[xeg (by lia)];lia
  ·have t:min i d.length*c.length<=d.length*c.length:=xdj _ (by lia);lia
 refine zce (λi σ s=>∃o f,σ=[some (aK d),some (aK c),some (.ref au.length),o,f]/\s=au++[.lst (aJ (mulL (d.take i) c))]) ⟨_,_,rfl,rfl⟩ ?_ ?_
 ·rintro i y σ s n ⟨o,f,rfl,rfl⟩;obtain⟨a,m,rfl⟩:=zba n;have v:=(xbd.mp m).1;have x:=u a (xbn m);have p:=e i;rw[if_pos v] at p;refine⟨_,rfl,?_⟩;unfold zff;simp only[W,V];refine⟨_,rfl,?_⟩;refine zce (λj σ s=>∃f,σ=[some (aK d),some (aK c),some (.ref au.length),some (aL a),f]/\s=au++[.lst (aJ (mulL (d.take i) c++(c.take j).map (addR a)))]) ⟨_,rfl,by simp⟩ ?_ ?_
  ·rintro j y σ s n ⟨f,rfl,rfl⟩;obtain⟨b,q,rfl⟩:=zba n;have z:=(xbd.mp q).1;refine⟨_,rfl,?_⟩;unfold zfg;simp only[W,V,M,Dd.N];refine⟨_,_,rfl,zfb _ [],by rw[zfk,xbb,List.length_zip];exact small _ (by lia),?_⟩;refine zbch ?_;refine⟨_,_,rfl,zfb _ [],by rw[zc,xbk,xbb,xcl];exact smallT _ (by lia),?_⟩;simp only[L];refine⟨_,rfl,?_⟩;rw[ze q];simp[aJ,aL]
  ·rintro σ s ⟨f,rfl,rfl⟩;rw[zc,xcb];simp only[L];refine⟨_,_,rfl,?_⟩;rw[ze m,zrw]
 ·rintro σ s ⟨o,f,rfl,rfl⟩;rw[zc,xcb];simp only[W,V,M];refine⟨_,_,rfl,by simp;rfl,?_⟩;have p:=e d.length;rw[xcb] at p;refine zrr (l:=mulL d c) rfl (by lia) λw=>?_
  have:=k (.dead::w)
  simpa using this
end Dd
namespace Dd
open L2 K07 K23
noncomputable def ptT:List (List (List Int)):=[[[]],[[1]],[[2]],[[2,1]],[[3,1],[4]],[[4,1]],[[4,2]],[[4,2,1]],[[5,2,1],[6,2],[7,1],[8]],[[6,2,1],[8,1]],[[6,3,1],[7,3],[8,2]],[[7,3,1],[8,2,1]],[[8,3,1],[8,4]],[[8,4,1]],[[8,4,2]],[[8,4,2,1]],[[9,4,2,1],[10,4,2],[11,4,1],[12,3,1],[12,4],[13,2,1],[14,2],[15,1],[16]]]
def ptR(k:Nat):List (List Int):=(List.range k).flatMap λi=>(ptT.getD (k-1-i) []).map λr=>((i+1:Nat):Int)::r
noncomputable def rowQ(r:List Int):Bool:=(r.all λx=>decide (1<=x))&&decide (r.sum<=16)&&Nat.ble r.length 6
def zbsq:((List.range 16).all λk=>decide (stl (nuS (ptR (k+1)))=ptT.getD (k+1) [])&&(ptR (k+1)).all rowQ&&decide (ptR (k+1)).Nodup&&Nat.ble (ptR (k+1)).length 1000)=true:=by decide +kernel
def zbcz:ptT.length=17/\(ptT.all λl=>Nat.ble l.length 100&&l.all λr=>Nat.ble r.length 6)=true:=by decide +kernel
def zbma(h:rowQ r=true):RowOk r 16 6:=by
 unfold rowQ at h;rw[xcs,xcs] at h;exact⟨λx a=>xdc (xca.mp h.1.1 x a),xdc h.1.2,xga h.2⟩
structure Ptk (k:Nat):Prop where
 eq:stl (nuS (ptR k))=ptT.getD k []
 ok:RwsOk (ptR k)
 len:(ptR k).length<=1000
def zbsp(h:1<=k)(f:k<=16):Ptk k:=by
 have:=xca.mp zbsq (k-1) (xbs.mpr (by lia));rw[show k-1+1=k by lia,xcs,xcs,xcs] at this;obtain⟨⟨⟨a,b⟩,c⟩,d⟩:=this;exact⟨xdc a,⟨xdc c,λr e=>zbma (xca.mp b r e)⟩,xga d⟩
def zvo(h:k<=16):ptT[k]?=some (ptT.getD k []):=by
 rw[xbh,xbf (by rw[zbcz.1];lia)];rfl
def zbfv(h:k<=16):(ptT.getD k []).length<=100/\∀r∈ptT.getD k [],r.length<=6:=by
 have:=xca.mp zbcz.2 _ (xbn (zvo h));rw[xcs] at this;exact⟨xga this.1,λr a=>xga (xca.mp this.2 r a)⟩
def zbcy(g:1<=k)(h:k<=16)(t:Two au A B ((ptT.take k).map aK) [] s)
  (q:∀d a,Two au A B ((ptT.take k).map aK) (aJ (ptR k)) d->QQ (.nx [a0,some (.ref A),some (.int k),some (.ref B),a]) d):
  WP (forF (gN 4) zbg (rng 1 k) [a0,some (.ref A),some (.int k),some (.ref B),v4] s) QQ:=by
 have P:=zbsp g h;have c:∀i,i<=k->(((List.range i).flatMap λi=>(ptT.getD (k-1-i) []).map λr=>((i+1:Nat):Int)::r)).length<=1000:=λi j=>by
  refine xbc ?_ P.len;unfold ptR;rw[show k=i+(k-i) by lia,List.range_add,xir,xbk,show i+(k-i)=k by lia];lia
 refine zce (λi σ s=>∃a,σ=[a0,some (.ref A),some (.int k),some (.ref B),a]/\Two au A B ((ptT.take k).map aK) (aJ ((List.range i).flatMap λi=>(ptT.getD (k-1-i) []).map λr=>((i+1:Nat):Int)::r)) s) ⟨_,rfl,t⟩ ?_ ?_
 ·rintro i x σ s f ⟨a,rfl,t⟩;obtain⟨j,rfl⟩:=zfy f;refine⟨[a0,some (.ref A),some (.int k),some (.ref B),some (.int (1+i))],rfl,?_⟩;unfold zbg;have l:oIx (.ref A) (.int ((k:Int)-(1+i))) s=.ok (aK (ptT.getD (k-1-i) [])) s:=by
   rw[show(k:Int)-(1+i)=((k-1-i:Nat):Int) by lia];refine zjh (xs:=(ptT.take k).map aK) (zil t.a) (zqn ?_);rw[xcg,xkm (by lia),zvo (by lia)];rfl
  have b:=zbfv (k:=k-1-i) (by lia);have m:=c i (by lia);simp only[W,V];rw[zgp];refine WP.of (show aA 3 [a0,some (.ref A),some (.int k),some (.ref B),some (.int (1+i))] s=.ok (.ref B) s from rfl) ⟨_,_,rfl,t.b,?_⟩;rw[zbwm];simp only[W,V];refine⟨trivial,WP.of l ⟨_,rfl,by rw[zc];exact small _ (by lia),?_⟩⟩;refine ziu (as:=ptT.getD (k-1-i) []) (λσ=>∃v,σ=[v,some (.int (1+i))]) (λ_=>true) (λr=>aL (((i+1:Nat):Int)::r)) aL ⟨_,rfl⟩ ?_ ?_
  ·rintro r e σ ⟨v,rfl⟩;refine⟨_,rfl,⟨_,rfl⟩,by simp only[W,xjj],λ_=>?_⟩;have:=b.2 r e;simp only[W,V];refine⟨small _ (by simp),by rw[xbb];exact small _ (by simp;lia),trivial,?_⟩;rw[show(1:Int)+i=((i+1:Nat):Int) by lia]
   rfl
  ·rw[zfr];refine⟨_,_,_,rfl,t.b,rfl,by rw[zc,xbb];exact small _ (by lia),?_⟩;simp only[L];refine⟨_,rfl,?_⟩;rw[xgp,xir,List.flatMap_singleton];have:=t.putB (zs:=aJ ((List.range i).flatMap λi=>(ptT.getD (k-1-i) []).map λr=>((i+1:Nat):Int)::r)++(ptT.getD (k-1-i) []).map λr=>aL (((i+1:Nat):Int)::r));rw[show aJ ((List.range i).flatMap (λi=>(ptT.getD (k-1-i) []).map λr=>((i+1:Nat):Int)::r)++(ptT.getD (k-1-i) []).map λr=>((i+1:Nat):Int)::r)=aJ ((List.range i).flatMap λi=>(ptT.getD (k-1-i) []).map λr=>((i+1:Nat):Int)::r)++(ptT.getD (k-1-i) []).map λr=>aL (((i+1:Nat):Int)::r) from by unfold aJ;rw[xdi,xcv];rfl];exact this
 ·rintro σ s ⟨a,rfl,t⟩;rw[zx] at t;exact q s a t
def zbcw(h:k<=16):(ptT.take (k+1)).map aK=(ptT.take k).map aK++[aK (ptT.getD k [])]:=by
 rw[ze (zvo h),xdi];rfl
def zbaw{k:Nat}{o:Int}(y:o=k)(h:k<=16)(q:∀g,Q (.lst ((ptT.take (k+1)).map aK)) (au++g)):WP (zbi [.int o] au) Q:=by
 refine zif rfl ?_;subst y;simp only[W,V];refine⟨small _ (by simp),small _ (by simp),small _ (by simp),_,_,rfl,rngN (by lia) (by lia),rngN (by lia) (by lia),?_⟩;rw[show((k:Int)+1-1).toNat=k by lia];refine zce (λi σ s=>∃m e f,σ=[some (.int k),some (.ref au.length),m,e,f]/\s[au.length]?=some (.lst ((ptT.take (i+1)).map aK))/\∀j,j<au.length->s[j]?=au[j]?) ⟨_,_,_,rfl,by simp;rfl,λj d=>by rw[xbj d]⟩ ?_ ?_
 ·rintro i x σ s u ⟨m,e,f,rfl,c,b⟩;obtain⟨p,rfl⟩:=zfy u;refine⟨[some (.int k),some (.ref au.length),some (.int ((i+1:Nat):Int)),e,f],by rw[show(1:Int)+i=((i+1:Nat):Int) by lia];rfl,?_⟩;unfold zcq;simp only[W,V];refine⟨small _ (by simp),_,_,rfl,rngN (by lia) (by lia),rngN (by lia) (by lia),?_⟩;rw[show(((i+1:Nat):Int)+1-1).toNat=i+1 by lia];have r:=zf c;have t:Two au au.length s.length ((ptT.take (i+1)).map aK) [] (s++[.lst []]):=⟨by rw[xbj r];exact c,by simp,by lia,xbl _,by lia,λj d=>by rw[xbj (by lia)];exact b j d⟩
  refine zbcy (k:=i+1) (by lia) (by lia) t λw z a=>?_
  have P:=zbsp (k:=i+1) (by lia) (by lia);simp only[W,V,M];refine⟨_,_,rfl,a.a,_,_,rfl,a.b,?_⟩;refine zme (l:=ptR (i+1)) rfl P.ok.row (by have:=P.len;lia) λg=>?_
  have n:(w.set s.length .dead++g)[au.length]?=some (.lst ((ptT.take (i+1)).map aK)):=by
   rw[xbj (by rw[xcx];exact zf a.a),xbp a.ne.symm];exact a.a
  refine⟨_,_,rfl,n,by rw[xbb,xcl];exact smallT _ (by lia),?_⟩;simp only[L];refine⟨_,_,_,rfl,?_,λj d=>?_⟩
  ·rw[zcy (zf n),zbcw (k:=i+1) (by lia),P.eq]
  ·have:=zf a.b;have:=a.bB;rw[xbp (by lia),xbj (by rw[xcx];lia),xbp (by lia)];exact a.low j d
 ·rintro σ s ⟨m,e,f,rfl,c,b⟩;rw[zx] at c;simp only[W,V,M];refine⟨_,_,rfl,c,?_⟩;have v:=zik (s:=s.set au.length .dead) (au:=au) (λi p=>by rw[xbp (by lia)];exact b i p) (by rw[xcx];have:=zf c;lia);rw[v];exact q _
def zbxm{k:Nat}{n:Int}(w:n=k)(h:k<=16)(q:∀g,Q (.lst ((ptT.take (k+1)).map aK)) (au++g)):WP (zcu [.int n] au) Q:=by
 refine zif rfl ?_;subst w;simp only[W,V];refine⟨small _ (by simp),small _ (by simp),small _ (by simp),_,_,rfl,rngN (by lia) (by lia),rngN (by lia) (by lia),?_⟩;rw[show((k:Int)+1-1).toNat=k by lia];refine zce (λi σ s=>∃l e f,σ=[some (.int k),some (.ref au.length),l,e,f]/\s[au.length]?=some (.lst ((ptT.take (i+1)).map aK))/\∀j,j<au.length->s[j]?=au[j]?) ⟨_,_,_,rfl,by simp;rfl,λj d=>by rw[xbj d]⟩ ?_ ?_
 ·rintro i x σ s r ⟨l,e,f,rfl,c,a⟩;obtain⟨o,rfl⟩:=zfy r;refine⟨[some (.int k),some (.ref au.length),some (.int ((i+1:Nat):Int)),e,f],by rw[show(1:Int)+i=((i+1:Nat):Int) by lia];rfl,?_⟩;unfold zes;simp only[W,V];refine⟨small _ (by simp),_,_,rfl,rngN (by lia) (by lia),rngN (by lia) (by lia),?_⟩;rw[show(((i+1:Nat):Int)+1-1).toNat=i+1 by lia];have p:=zf c;have t:Two au au.length s.length ((ptT.take (i+1)).map aK) [] (s++[.lst []]):=⟨by rw[xbj p];exact c,by simp,by lia,xbl _,by lia,λj d=>by rw[xbj (by lia)];exact a j d⟩
  refine zbcy (k:=i+1) (by lia) (by lia) t λv y b=>?_
  have P:=zbsp (k:=i+1) (by lia) (by lia);simp only[W,V,M];refine⟨_,_,rfl,b.a,WP.of (zyh b.b) ?_⟩;refine zuv (ks:=ptR (i+1)) P.ok λg=>?_
  have m:(v++g)[au.length]?=some (.lst ((ptT.take (i+1)).map aK)):=by
   rw[xbj (zf b.a)];exact b.a
  refine⟨_,_,rfl,m,by rw[xbb,xcl];exact smallT _ (by lia),?_⟩;simp only[L];refine⟨_,_,_,rfl,?_,λj d=>?_⟩
  ·rw[zcy (zf m),zbcw (k:=i+1) (by lia),P.eq]
  ·have:=zf b.b;have:=b.bB;rw[xbp (by lia),xbj (by lia)];exact b.low j d
 ·rintro σ s ⟨l,e,f,rfl,c,a⟩;rw[zx] at c;simp only[W,V,M];refine⟨_,_,rfl,c,?_⟩;have u:=zik (s:=s.set au.length .dead) (au:=au) (λi o=>by rw[xbp (by lia)];exact a i o) (by rw[xcx];have:=zf c;lia);rw[u];exact q _
def chain45(d:f σ au=.ok (.int i) au):eChain oLe oLe (eC (.int a)) f (eC (.int b)) σ au=.ok (.bl (decide (a<=i)&&decide (i<=b))) au:=by
 have e:eC (.int a) σ au=.ok (.int a) au:=rfl;have c:eC (.int b) σ au=.ok (.int b) au:=rfl;unfold eChain;rw[e,zbf,d,zbf];by_cases h:a<=i
 ·simp[oI,h,c]
 ·simp[oI,h]
end Dd
namespace K45
end K45
namespace Dd
open L2 K13
def zbcx:((List.range 17).all λk=>(ptT.getD k []).all λr=>decide (r.sum=(k:Int))&&r.all λx=>decide (1<=x))=true/\(ptT.all λl=>decide l.Nodup&&Nat.ble l.length 20)=true:=by decide +kernel
def zbme(h:k<=16):∀r∈ptT.getD k [],r.sum=k/\∀x∈r,1<=x:=λr a=>by
 have:=xca.mp (xca.mp zbcx.1 k (xbs.mpr (by lia))) r a;rw[xcs] at this;exact⟨xdc this.1,λx b=>xdc (xca.mp this.2 x b)⟩
def zbsn(h:k<=16):(ptT.getD k []).Nodup/\(ptT.getD k []).length<=20:=by
 have:=xca.mp zbcx.2 _ (xbn (zvo h));rw[xcs] at this;exact⟨xdc this.1,xga this.2⟩
def zpj{K:Nat}(h:k<=K)(b:K<=16):RowsK K 0 (ptT.getD k []):=⟨λr a=>(zbme (by lia) r a).2,λr a=>by have:=(zbme (k:=k) (by lia) r a).1;lia⟩
def shL(k:Nat) (f g:List Row) (i:Nat):List Row:=aO (mulL (aO (doneL (ptT.getD (k-i) []) f)) g)
def shD(k:Nat) (f g:List Row):List D:=(List.range (k+1)).map λi:Nat=>.tup [.int (i:Int),aK (shL k f g i)]
structure Sft (N k:Nat) (f g:List Row):Prop where
 kz:KZ N k f
 f1:SumOk N f
 g1:SumOk N g
 gl:g.length<=6
def Sft.done{N k i:Nat}(h:Sft N k f g)(n:i<=k):(aO (doneL (ptT.getD (k-i) []) f)).length<=20000/\SumOk N (aO (doneL (ptT.getD (k-i) []) f)):=by
 have o:=h.kz.k8;have a:=zqd h.kz.kx (T:=0) (zpj (k:=k-i) (K:=k) (by lia) (by lia)) λy j=>zys j
 refine⟨h.kz.top (xbl _) (zck _) λx e=>a x (zcz e),zlh λr d=>?_⟩;obtain⟨p,c,l⟩:=xcy.mp (a r d);obtain⟨b,m⟩:=ztc l;exact⟨b.len.trans (h.kz.kx.rows p c).1,b.pos (h.kz.kx.rows p c).2⟩
def Sft.mul{N k i:Nat}(h:Sft N k f g)(o:i<=k):(shL k f g i).length<=120000/\SumOk N (shL k f g i):=by
 obtain⟨a,b⟩:=h.done o;refine⟨?_,?_⟩
 ·have e:=zkq (mulL (aO (doneL (ptT.getD (k-i) []) f)) g);rw[zfm] at e;have n:=xkx a h.gl;unfold shL;lia
 ·refine zlh λr c=>?_
  obtain⟨x,d,c⟩:=xcy.mp c;obtain⟨y,j,rfl⟩:=xbt.mp c;refine⟨(zua ((b.len x d).trans (h.g1.len y j).symm)).trans (b.len x d),λz m=>?_⟩;obtain⟨q,l,rfl⟩:=xbt.mp m;have e:=b.pos x d q.1 (xkh l).1;have n:=h.g1.pos y j q.2 (xkh l).2;lia
def zblw(h:k<=16)(a:i<=k):oIx (.lst ((ptT.take (k+1)).map aK)) (.int ((k:Int)-(0+i))) s=.ok (aK (ptT.getD (k-i) [])) s:=by
 rw[show(k:Int)-(0+i)=((k-i:Nat):Int) by lia];refine zjh rfl (zqn ?_);rw[xcg,xkm (by lia),zvo (by lia)];rfl
def zni{c:Store}{N k:Nat}{e:Int}(m:e=k) (h:Sft N k f g)(q:∀s,(∀i,i<c.length->s[i]?=c[i]?)->c.length<=s.length->Q (.ref s.length) (s++[.lst (shD k f g)])):WP (zen [.int e,aK f,aK g] c) Q:=by
 have y:=h.kz.k8;refine zif rfl ?_;simp only[W,V];refine WP.of zdu ⟨true,rfl,?_⟩;rw[if_neg (by decide)];refine WP.of (chain45 (i:=e) rfl) ?_;simp only[W,V];rw[xcj (by lia:(0:Int)<=e),xcj (by lia:e<=8)];simp only[W,V,Bool.and_self,Bool.not_true];refine zbxm m (by lia) λo=>?_
 subst m;refine⟨_,rfl,rngN (by lia) (by lia),by rw[zx];exact small _ (by lia),?_⟩;rw[show((k:Int)+1).toNat=k+1 by lia];refine zqv (λi acc σ s=>(∃v,σ=[v,some (aK g),some (aK f),some (.lst ((ptT.take (k+1)).map aK)),some (.int k)])/\(∃d,s=c++d)/\acc=(List.range i).map λi:Nat=>.tup [.int (i:Int),aK (shL k f g i)]) ⟨⟨_,rfl⟩,⟨o,rfl⟩,rfl⟩ ?_ ?_
 ·rintro i x acc σ s n ⟨⟨v,rfl⟩,⟨d,rfl⟩,rfl⟩;obtain⟨l,rfl⟩:=zfy n;refine⟨_,rfl,?_⟩;simp only[W,V];refine⟨trivial,WP.of (zblw (k:=k) (i:=i) (by lia) (by lia)) ?_⟩;refine zbiy h.kz.kx (by lia) (.inl rfl) (zbsn (k:=k-i) (by lia)).1 (by have:=(zbsn (k:=k-i) (by lia)).2;lia) (λr j=>by have:=(zbfv (k:=k-i) (by lia)).2 r j;lia) (zpj (by lia) (by lia)) h.f1.rise λt=>?_
  obtain⟨a,b⟩:=h.done (i:=i) (by lia);have u:=h.kz.n6;refine znw (λr j=>by rw[b.len r j];lia) (by have:=xkx a h.gl;lia) λp=>⟨small _ (by simp),⟨_,rfl⟩,⟨d++(t++p),by simp⟩,?_⟩
  rw[xgp,xdi,List.map_singleton];rw[show(0:Int)+i=i by lia]
  rfl
 ·rintro w σ s ⟨_,⟨d,rfl⟩,rfl⟩;rw[zx];exact q (c++d) (λi l=>xbj l) (by rw[xbk];lia)
def zbim{N k:Nat}{e:Int}(l:e=k) (h:Sft N k f g)(q:∀c,Q (.lst (shD k f g)) (au++c)):WP (aG (iR1 (aB (aS aM (aA 8) (eC (.int 1))) aC)) 1 [7,6,9,8] (gN 0) aI (aR (aB (aA 0) (aB (aE zci (aB (aE zed (aB (aS oIx (aA 3) (aS oSub (aA 4) (aA 0))) (aB (aA 2) aC))) (aB (aA 1) aC))) aC))) [a0,a1,a2,a3,a4,a5,some (aK f),some (aK g),some (.int e),some (.lst ((ptT.take (k+1)).map aK)),a10,a11] au) Q:=by
 have t:=h.kz.k8;simp only[W,V];subst l;refine⟨_,rfl,rngN (by lia) (by lia),by rw[zx];exact small _ (by lia),?_⟩;rw[show((k:Int)+1).toNat=k+1 by lia];refine zqv (λi acc σ s=>(∃v,σ=[v,some (aK g),some (aK f),some (.lst ((ptT.take (k+1)).map aK)),some (.int k)])/\(∃c,s=au++c)/\acc=(List.range i).map λi:Nat=>.tup [.int (i:Int),aK (shL k f g i)]) ⟨⟨_,rfl⟩,⟨[],by simp⟩,rfl⟩ ?_ ?_
 ·rintro i x acc σ s j ⟨⟨v,rfl⟩,⟨c,rfl⟩,rfl⟩;obtain⟨u,rfl⟩:=zfy j;refine⟨_,rfl,?_⟩;simp only[W,V];refine⟨trivial,WP.of (zblw (k:=k) (i:=i) (by lia) (by lia)) ?_⟩;refine ztu h.kz (zbsn (k:=k-i) (by lia)).2 (λr d=>by have:=(zbfv (k:=k-i) (by lia)).2 r d;lia) (zpj (by lia) (by lia)) h.f1.rise.nodup λm=>?_
  obtain⟨a,b⟩:=h.done (i:=i) (by lia);have o:=h.kz.n6;refine zoa (λr d=>by rw[b.len r d];lia) (by have:=xkx a h.gl;lia) λn=>⟨small _ (by simp),⟨_,rfl⟩,⟨c++(m++n),by simp⟩,?_⟩
  rw[xgp,xdi,List.map_singleton];rw[show(0:Int)+i=i by lia]
  rfl
 ·rintro p σ s ⟨_,⟨c,rfl⟩,rfl⟩;rw[zx];exact q c
def znk{N k m:Nat}{j:Int}(u:j=N) (h:Sft N k f g)(e:au[m]?=some (.lst (shD k f g)))(q:Q (.bl true) au):WP (zbx [.int j,.ref m,.lst (shD k f g)] au) Q:=by
 have G:=h.kz.n6;refine zif rfl ?_;simp only[W,V];have C:bIsinst [D.ref m,D.ty "list"] au=.ok (.bl true) au:=by
  unfold bIsinst tyName;dsimp only;rw[e]
  rfl
 refine WP.of C ⟨true,rfl,?_⟩;rw[if_neg (by decide)]
 have t:Sh 64 (.lst (shD k f g)):=(Sh.lst (n:=6) λd r=>by
  obtain⟨i,_,rfl⟩:=xbt.mp r;refine Sh.tup (n:=5) λx c=>?_
  simp only[xbm,xgf,xkw] at c;rcases c with rfl|rfl
  ·exact .int
  ·exact Sh.sum).mono (by lia)
 refine WP.of (zbpi (zbny e) rfl t) ?_;dsimp only[bK];rw[if_neg (by decide)];refine WX.wp (zbkv (n:=m) rfl e ?_);refine zbku (λp σ s=>∃i v,i<=k+1/\p=(shD k f g).drop i/\σ=[some (.int j),some (.ref m),some (.lst (shD k f g)),v]/\s=au) ?_ ?_ ?_ _ _ _ ⟨0,_,xec _,rfl,rfl,rfl⟩
 ·rintro p σ s ⟨i,v,_,_,_,rfl⟩;exact e
 ·rintro x p σ s ⟨i,v,y,c,rfl,rfl⟩;have E:(shD k f g).length=k+1:=by unfold shD;rw[xbb,xgn]
  have l:i<(shD k f g).length:=by
   rcases xge i (shD k f g).length with z|z
   ·exact z
   ·rw[xgs z] at c;cases c
  obtain⟨w,o,r⟩:=zsn l;rw[r] at c;obtain⟨rfl,rfl⟩:=List.cons.inj c;have A:x=.tup [.int (i:Int),aK (shL k f g i)]:=by
   unfold shD at o;rw[xcg,xkf (by lia)] at o
   simpa using o.symm
  subst A;refine⟨_,rfl,?_⟩;unfold zfi;rw[zbrr];simp only[W,V];refine WP.of (show bIsinst [D.tup [.int (i:Int),aK (shL k f g i)],D.ty "tuple"] s=.ok (.bl true) s from rfl) ⟨true,rfl,?_⟩
  rw[if_neg (by decide)];refine zbhx (d:=.int (i:Int)) rfl rfl ?_;refine WP.of zdu ⟨true,rfl,?_⟩;rw[if_neg (by decide)];refine zbhx (d:=aK (shL k f g i)) rfl rfl ?_;obtain⟨a,b⟩:=h.mul (i:=i) (by lia);refine zbbd (by rw[u];exact b) (by lia) (by lia) (by lia) ⟨true,rfl,?_⟩;rw[if_neg (by decide)];simp only[W,V];exact⟨i+1,_,by lia,by first|rfl|trivial,by first|rfl|trivial,by first|rfl|trivial⟩
 ·rintro σ s ⟨i,v,y,c,rfl,rfl⟩;simp only[W,V];exact q
def pick50 [Decidable c1][Decidable c2] (q:Q (.tup (if c2 then[.int 2,.int 4] else[.int (if c1 then 6 else 4),.int 10])) s):WP (oIx (.lst [.tup [.int (if c1 then 6 else 4),.int 10],.tup [.int 2,.int 4]]) (.int (if c2 then 1 else 0)) s) Q:=by
 by_cases h:c2
 ·simp only[h,xgb] at q ⊢;exact zbhx rfl rfl q
 ·simp only[h,xeu] at q ⊢;exact zbhx rfl rfl q
def k50U:SS:=(aD (aF 10 (aG (iR1 (aB (aS aM (aA 8) (eC (.int 1))) aC)) 1 [7,6,9,8] (gN 0) aI (aR (aB (aA 0) (aB (aE zci (aB (aE zed (aB (aS oIx (aA 3) (aS oSub (aA 4) (aA 0))) (aB (aA 2) aC))) (aB (aA 1) aC))) aC)))))
 (aD (aF 11 (aE zen (aB (aA 8) (aB (aA 6) (aB (aA 7) aC)))))
 (aD (sIf (bNot (eTru (aE zbx (aB (aA 3) (aB (aA 11) (aB (aA 10) aC)))))) (sRet (eC (.bl false))) sNx)
 (aD (sDrop (eClear (aA 11)))
 (sIf (bNot (eTru (aE zbx (aB (aA 3) (aB (aE zen (aB (aA 8) (aB (aA 6) (aB (aA 7) aC)))) (aB (aA 10) aC)))))) (sRet (eC (.bl false))) sNx)))))
def k50T:SS:=(aD (aF 6 (aE zeq (aB (aA 2) (aB (aA 3) (aB (aA 4) (aB (aA 5) aC))))))
 (aD (aF 7 (aE zeq (aB (aA 2) (aB (aA 3) (aB (aA 4) (aB (aA 5) aC))))))
 (aD (aF 8 (aE zy (aB (aA 2) (aB (eC (.int 9)) aC))))
 (aD (aF 9 (aE zbi (aB (aA 8) aC))) k50U))))
def zbhv{N p:Nat}{c e:Int}(l:c=N)(d:e=p) (h:Sft N p f g) (k:∀a b s,QQ (.nx [S,v1,v2,some (.int c),v4,v5,some (aK f),some (aK g),some (.int e),some (.lst ((ptT.take (p+1)).map aK)),a,b]) s):
  WP (k50U [S,v1,v2,some (.int c),v4,v5,some (aK f),some (aK g),some (.int e),some (.lst ((ptT.take (p+1)).map aK)),a,b] au) QQ:=by
 unfold k50U;rw[ztb];refine zbcj ?_;refine zbim d h λt=>?_
 simp only[W,V];refine zni d h λs q u=>?_
 have j:(s++[O.lst (shD p f g)])[s.length]?=some (.lst (shD p f g)):=by simp
 try simp only[W,V]
 refine znk l h j ⟨true,rfl,?_⟩;rw[if_neg (by decide)]
 try simp only[W,V]
 refine zbew (n:=s.length) rfl j ?_;refine zni d h λo m r=>?_
 have i:(o++[O.lst (shD p f g)])[o.length]?=some (.lst (shD p f g)):=by simp
 refine znk l h i ⟨true,rfl,?_⟩;rw[if_neg (by decide)];exact k _ _ _
def zbhu{n:Nat}{N m d:Int}(A:BagAt au n)(v:1<=N)(Q:N<=6)(w:0<=m)(m6:m<=6)(q:0<=d)(G:d<=10)(o:3<N->m<=2/\d<=4) (k:∀u x y l e b s,QQ (.nx [S,v1,some (.ref n),some (.int N),some (.int m),some (.int d),u,x,y,l,e,b]) s):
  WP (k50T [S,v1,some (.ref n),some (.int N),some (.int m),some (.int d),u,x,y,l,e,b] au) QQ:=by
 unfold k50T;generalize hU:k50U=U;simp only[W,V];refine zbcp A v (by lia) w (by lia) q (by lia) λf s1 fl h j H=>?_
 refine zbcp H.bag v (by lia) w (by lia) q (by lia) λg Y T E gd C=>?_
 refine zhw C.bag (by lia) (by lia) λp s3 I J d3=>?_
 obtain⟨p,rfl⟩:=xdk I;have t:p<=8:=by lia
 have i:Sft N.toNat p f g:=by
  refine⟨⟨⟨λr a=>⟨h.len r a,h.pos r a⟩,?_⟩,by lia,t,?_⟩,h,E,by lia⟩
  ·by_cases c:3<N
   ·have:=o c;exact .inr ⟨by lia,t,by lia,λr a=>by have:=j r a;lia⟩
   ·exact .inl ⟨by lia,by lia,by lia,λr a=>by have:=j r a;lia⟩
  ·by_cases c:3<N
   ·have:=o c;rw[show Nat.ble N.toNat 3=false from by cases z:Nat.ble N.toNat 3 with|false=>rfl|true=>have:=xga z;lia];show _<=2;lia
   ·rw[show Nat.ble N.toNat 3=true from xjq (by lia)];show _<=6;lia
 generalize eP:(p:Int)=P;refine zbaw eP.symm (by lia) λX=>?_
 rw[←hU];refine zbhv (by lia) eP.symm i λ_ _ s=>?_
 exact k _ _ _ _ _ _ _
def zbhw{r:List Int}(Q:r.length<=63) (c:Nat)(hc:c<=20)(k:∀σ s,QQ (.nx σ) s):
  WP (forF (gN 1) zyt (rng 0 c) [some (.scr (r.map .int)),t,q,w,v,u,o,p,l,n,j,h] au) QQ:=by
 refine zce (λi σ s=>∃t q w v u o p l n j h:Option D,σ=[some (.scr (r.map .int)),t,q,w,v,u,o,p,l,n,j,h]) ⟨_,_,_,_,_,_,_,_,_,_,_,rfl⟩ ?_ λσ s _=>k σ s
 rintro i x σ s G ⟨t,q,w,v,u,o,p,l,n,j,h,rfl⟩;obtain⟨hi,rfl⟩:=zfy G;refine⟨_,rfl,?_⟩;show WP (aD _ (aD _ (aD _ k50T)) _ _) _;generalize hT:k50T=T;simp only[W,V];rw[xhe];refine zbwa Q (by lia) λg E=>?_
 refine zhw E (by lia) (by lia) λJ s1 Y X P=>?_
 refine zhw P.bag (by lia) (by lia) λC I S U H=>?_
 simp only[W,V];refine⟨.inl ⟨by decide,by decide⟩,small _ (by simp),zbum ?_⟩;refine⟨small _ (by simp),small _ (by simp),small _ (by simp),?_⟩;generalize hN:1+J+3*(if C=1 then 1 else 0)=N;have A:1<=N/\N<=6:=by rw[←hN];split<;>lia
 refine⟨trivial,pick50 (c1:=(i:Int)=0) (c2:=3<N) ?_⟩;have y:∀m d:Int,0<=m->m<=6->0<=d->d<=10->(3<N->m<=2/\d<=4)->WP (T [some (.scr (r.map .int)),some (.int i),some (.ref s.length),some (.int N),some (.int m),some (.int d),o,p,l,n,j,h] I) (loopK (λσ s=>∃t q w v u o p l n j h:Option D,σ=[some (.scr (r.map .int)),t,q,w,v,u,o,p,l,n,j,h]) QQ):=λm d a b c e f=>by
  rw[←hT];refine zbhu H.bag A.1 A.2 a b c e f λ_ _ _ _ _ _ s=>?_
  simp only[L];exact⟨_,_,_,_,_,_,_,_,_,_,_,rfl⟩
 by_cases c3:3<N
 ·rw[if_pos c3];exact y 2 4 (by lia) (by lia) (by lia) (by lia) λ_=>⟨by lia,by lia⟩
 ·rw[if_neg c3];exact y (if(i:Int)=0 then 6 else 4) 10 (by split<;>lia) (by split<;>lia) (by lia) (by lia) λz=>absurd z c3
def zbbb(b:List Int)(g:b.length<=63)(f:Store):∃st',zbwl [.scr (b.map .int)] f=.ok (.bl true) st':=by
 have:WP (zbwl [.scr (b.map .int)] f) (λv _=>v=.bl true):=by
  refine zif rfl ?_;simp only[W,V];have c:((b.map D.int).length:Int)<=63:=by rw[xbb];lia
  have d:(0:Int)<=((b.map D.int).length:Int):=by lia
  generalize ((b.map D.int).length:Int)=len at c d;refine⟨_,rfl,rngN (by split<;>lia) (by split<;>lia),?_⟩;refine zbhw g _ (by split<;>lia) λσ s=>?_
  simp only[W,V]
 obtain⟨a,st',e,rfl⟩:=this.get;exact⟨st',e⟩
end Dd
namespace K50
def holds:∀a:List Int,a.length<=63->∃st',Dd.zbwl [.scr (a.map .int)] []=.ok (.bl true) st':=λa b=>Dd.zbbb a b _
end K50
namespace K50
open L2 Dd
noncomputable def top(i:Nat):Stmt:=PySem.Challenge.pw_raisedsums_k50_parts_shifted.main.body.getD i (.Pass ⟨0,0,0,0⟩)
def ztq{Y:En}(T:TopF Y.K "_law_bag" (top 41))(e:Y.mg "len"=none)(a:Y.mg "abs"=none)(h:Y.mg "min"=none)(i:Y.mg "range"=none):Cl Y "_law_bag" 1 ["_law_script","_law_at"] zhf:=cmk ["_law_script","_law_at","_law_cell","_law_mix","_law_k"] T λb f g A c s H E d=>(zb (sst b zg)
 (zb (zcn (zbv (znq d.units0) znv sv (zi zbo zoq rfl e zon (sa1 sv)) (nomark _)) (zd (sst b (zi zbjx zbwh rfl a zbvw (sa1 (zha sv sv (λ_ _=>rfl)))))) zbm)
 (zb (sst b (sad (zgo zhk (oI_D λ_ _ _ _=>.int _) zg sv) zg))
 (zb (sfr (zbn rfl i (sa1 (zi (zir rfl) zbrp rfl h zbcb (sa2 (zi zbo zoq rfl e zon (sa1 sv)) zg)))) (sgn b)
 (zd (sst b (zgo ztj (oI_D λ_ _ _ _=>.int _) (sad (sad (zgo zhk (oI_D λ_ _ _ _=>.int _) sv zg) (zgo ztj (oI_D λ_ _ _ _=>.int _) (zha sv sv (λ_ _=>rfl)) zg)) sv) zg))))
 (zb (zcn (zbv (znq d.units0) znv sv (zgo zbth (oI_D λ_ _ _ _=>.int _) zg zg) (nomark _)) (zd (sst b zg)) zbm)
 (zd (zj (zcl (sa2 sv sv)))))))))
def ztp{Y:En}(T:TopF Y.K "_law_odd" (top 43))(g:Y.mg "sorted"=none)(d:Y.mg "tuple"=none):Cl Y "_law_odd" 1 ["_law_things"] zbb:=cmk ["_law_things","_law_odd_here","_law_thing"] T λc f e A b s H E a=>(zb (sst c zlb)
 (zb (sfr (zq sv) (sgn c)
 (zd (zqc (zbea a) sv sv (zbji (zbjl (zbea a) sv sv ztz ⟨rfl,rfl,rfl,rfl⟩)) rfl)))
 (zd (zj (zbr zbd zek rfl d zch (sa1 (zi (zbw rfl a.units) zel rfl g zdj (sa1 (zfd rfl (zbjd sv) (λ_ _ _ _ _=>(zbc (i:=0) (show(["_law_thing","_law_odd_here"]:List Str).Nodup from by decide +kernel) rfl (Or.inl rfl))) (λ_ _ _ _ _=>(zgm (zbu (zbqj (zbea a) sv sv (λ_ _=>rfl))))) (λ_ _ _ _ _=>sv) (N:=["_law_thing","_law_odd_here"]) (k:=1) (is:=[1]) (zdd (by rfl)))))))))))
def zpn{Y:En}(T:TopF Y.K "_law_take" (top 42)): Cl Y "_law_take" 1 ["_law_bag_here","_law_many"] zy:=cmk ["_law_bag_here","_law_many","_law_digit","_law_number_here","_law_room"] T λa f d A b s H E c=>(zb (zcn (zbv zbrl (zou λ_ _ _ _=>.bl _) (zha sv zg (λ_ _=>rfl)) zg (nomark _)) (zb (sst a (zgo ztj (oI_D λ_ _ _ _=>.int _) (zha sv zg (λ_ _=>rfl)) sv))
 (zb (zsl (zgo zlq (oI_D λ_ _ _ _=>.int _) (zha sv zg (λ_ _=>rfl)) sv) sv zg)
 (zd (zj sv)))) zbm)
 (zb (sst a zg)
 (zb (sst a zg)
 (zb (zio xic (zbv (znq c.units0) znv sv sv (nomark _)) (zb (zsl (zgo ztj (oI_D λ_ _ _ _=>.int _) (sad (zgo zhk (oI_D λ_ _ _ _=>.int _) (zha sv zg (λ_ _=>rfl)) zg) zg) zg) sv zg)
 (zb (sst a (sad (zgo zhk (oI_D λ_ _ _ _=>.int _) sv zg) (zgo ztj (oI_D λ_ _ _ _=>.int _) (zgo zhk (oI_D λ_ _ _ _=>.int _) (zgo zlq (oI_D λ_ _ _ _=>.int _) (zha sv zg (λ_ _=>rfl)) zg) zg) zg)))
 (zd (sst a (zgo zhk (oI_D λ_ _ _ _=>.int _) sv zg))))))
 (zd (zj (zgo ztj (oI_D λ_ _ _ _=>.int _) sv sv)))))))
def zkd{Y:En}(T:TopF Y.K "_law_product" (top 46))(h:Y.mg "range"=none)(e:Y.mg "tuple"=none)(c:Cl Y "_law_take" 1 ["_law_bag_here","_law_many"] zy):Cl Y "_law_product" 2 ["_law_bag_here","_law_n","_law_degree"] zdm:=cmk ["_law_bag_here","_law_n","_law_degree","_law_left","_law_exponents","_law_k","_law_at"] T λa f g A d s H E b=>(zb (sst a (scl c b (sa2 sv (sad sv zg))))
 (zb (zcn (zbv (zjx b.units) zub (scl c b (sa2 sv zg)) zg (nomark _)) (zd (sst a sv)) zbm)
 (zb (sst a (zcl zbj))
 (zb (sfr (zbn rfl h (sa1 (ssb sv zg))) (sgn a)
 (zb (zn (zca sv (sa1 (scl c b (sa2 sv (sad sv zg))))))
 (zd (sst a (ssb sv (zha sv (ztx zg) (λ_ _=>rfl)))))))
 (zb (zn (zca sv (sa1 sv)))
 (zb (sst a (scl c b (sa2 sv sv)))
 (zd (zj (zbr zbd zek rfl e zch (sa1 (sad (zbbq sv (zei sv) zej) (zbbq sv zej (zei sv)))))))))))))
def zto{Y:En}(T:TopF Y.K "_law_sum" (top 47))(g:Y.mg "range"=none)(e:Cl Y "_law_odd" 1 ["_law_things"] zbb)(h:Cl Y "_law_take" 1 ["_law_bag_here","_law_many"] zy)(d:Cl Y "_law_product" 2 ["_law_bag_here","_law_n","_law_degree"] zdm):Cl Y "_law_sum" 3 ["_law_bag_here","_law_n","_law_many","_law_degree"] zeq:=cmk ["_law_bag_here","_law_n","_law_many","_law_degree"] T λi f c A b s H E a=>(zd (zj (scl e a (sa1 (scp ["_law_k","_law_bag_here","_law_n","_law_degree"] (zbn rfl g (sa1 (scl h a (sa2 sv (sad sv zg))))) (λ_ _ _ _ _=>(scl d a (zp sv (sa2 sv sv)))))))))
def zpo{Y:En}(T:TopF Y.K "_law_pair" (top 50))(g:Y.mg "range"=none)(e:Y.mg "min"=none):Cl Y "_law_pair" 1 ["_law_a","_law_b"] zec:=cmk ["_law_a","_law_b","_law_found","_law_c"] T λb f d A a s H E c=>(zb (sst b (zcl zbj))
 (zb (sfr (zbn rfl g (sa1 (sad (zgo zlq (oI_D λ_ _ _ _=>.int _) sv zg) zg))) (sgn b)
 (zd (zcn (zbv (zjx c.units) zub (zgo zbad (zou λ_ _ _ _=>.int _) (ssb (ssb sv sv) zg) (ssb sv (zgo zhk (oI_D λ_ _ _ _=>.int _) zg sv))) (ssb sv (zgo zhk (oI_D λ_ _ _ _=>.int _) zg sv)) (nomark _)) (zd (zn (zca sv (sa1 (zbbq (zcs (sa2 (ssb (sad sv sv) sv) sv)) zej (zei (sad zg (zi (zir rfl) zbrp rfl e zbcb (sa2 sv zg))))))))) zbm)))
 (zd (zj (zty sv)))))
def zkc{Y:En}(T:TopF Y.K "_law_settled" (top 51))(e:Y.mg "len"=none)(h:Y.mg "range"=none)(d:Cl Y "_law_odd" 1 ["_law_things"] zbb)(j:Cl Y "_law_pair" 1 ["_law_a","_law_b"] zec):Cl Y "_law_settled" 2 ["_law_rows"] zdl:=cmk ["_law_rows","_law_waiting","_law_steep","_law_further","_law_row","_law_opened","_law_at"] T λa f g A c s H E b=>(zb (sst a (scl d b (sa1 sv)))
  (zb (sst a (zcl zbj))
  (zb (zio xic (zbv zbrl (zou λ_ _ _ _=>.bl _) (zi zbo zoq rfl e zon (sa1 sv)) zg (nomark _)) (zb (sst a (zcl zbj))
  (zb (sfr (zq sv) (sgn a)
  (zb (zqb (i:=5) rfl a rfl (Or.inl rfl) (zbn rfl h (sa1 (ssb (zi zbo zoq rfl e zon (sa1 sv)) zg))) (λ_ _ _ _ _=>(zbc (i:=0) (show(["_law_k","_law_row"]:List Str).Nodup from by decide +kernel) rfl (Or.inl rfl))) (λ_ _ _ _ _=>(zgm (zbv (znq b.units0) znv (zha sv sv (λ_ _=>rfl)) (zgo zhk (oI_D λ_ _ _ _=>.int _) zg (zha sv (sad sv zg) (λ_ _=>rfl))) (nomark _)))) (λ_ _ _ _ _=>sv) (N:=["_law_k","_law_row"]) (k:=1) (is:=[4]) (zdd (by rfl)))
  (zd (zcn (zbv (zjx b.units) zub sv (zxm zbj) (nomark _)) (zd (zn (zca sv (sa1 sv)))) (zb (sst a (zha sv (ztx zg) (λ_ _=>rfl)))
  (zd (zn (zft sv (sa1 (scp ["_law_two","_law_row","_law_at"] (zq (scl j b (sa2 (zha sv sv (λ_ _=>rfl)) (zha sv (sad sv zg) (λ_ _=>rfl))))) (λ_ _ _ _ _=>(sad (sad (zbbq sv zej (zei sv)) sv) (zbbq sv (zei (sad sv zg)) zej)))))))))))))
  (zd (sst a (scl d b (sa1 (zty sv))))))))
  (zd (zj (scl d b (sa1 (zty sv))))))))
def zgk{Y:En}(T:TopF Y.K "_law_parts_turned" (top 52))(c:Y.mg "range"=none)(g:Cl Y "_law_settled" 2 ["_law_rows"] zdl):Cl Y "_law_parts_turned" 3 ["_law_most"] zbi:=cmk ["_law_most","_law_found","_law_k","_law_rows","_law_i"] T λa f e A b s H E d=>(zb (sst a (zcl (sa1 (zcs (sa1 (zcs zbj))))))
 (zb (sfr (zgz rfl c (sa2 zg (sad sv zg))) (sgn a)
 (zb (sst a (zcl zbj))
 (zb (sfr (zgz rfl c (sa2 zg (sad sv zg))) (sgn a)
 (zd (zn (zft sv (sa1 (scp ["_law_row","_law_i"] (zq (zha sv (ssb sv sv) (λ_ _=>rfl))) (λ_ _ _ _ _=>(sad (zcs (sa1 sv)) sv))))))))
 (zd (zn (zca sv (sa1 (scl g d (sa1 (zty sv))))))))))
 (zd (zj (zty sv)))))
def zpm{Y:En}(T:TopF Y.K "rows_kept" (top 27)): Cl Y "rows_kept" 1 ["rows"] zfv:=cmk ["rows","kept","row"] T λb f d A a s H E c=>(zb (sst b zlb)
 (zb (sfr (zq sv) (sgn b)
 (zd (zqc (zbea c) sv sv ztz rfl)))
 (zd (zj sv))))
def zbno{Y:En}(T:TopF Y.K "flip" (top 7)): Cl Y "flip" 1 ["kept","thing"] zfw:=cmk ["kept","thing"] T λd f c A b s H E a=>(zd (zcn (zbuw (zbnd (zbea a) sv sv)) (zd (zn (zbqi (zbea a) sv sv ⟨rfl,rfl,rfl,rfl⟩))) (zd (zqc (zbea a) sv sv ztz rfl))))
def ztk{Y:En}(T:TopF Y.K "odd_ways" (top 10)): Cl Y "odd_ways" 1 ["e","k"] zhd:=cmk ["e","k"] T λd f c A a s H E b=>(zd (zj (zqe (zjx b.units) zub (zgo zbad (zou λ_ _ _ _=>.int _) sv sv) sv (nomark _))))
def zjy{Y:En}(T:TopF Y.K "rows_for_two" (top 22))(g:Y.mg "range"=none)(h:Y.mg "sorted"=none)(e:Cl Y "odd_ways" 1 ["e","k"] zhd):Cl Y "rows_for_two" 2 ["a","b"] zcb:=cmk ["a","b","told","c"] T λc f d A a s H E b=>(zb (sst c (zcl zbj))
 (zb (sfr (zbn rfl g (sa1 (sad (zgo zlq (oI_D λ_ _ _ _=>.int _) sv zg) zg))) (sgn c)
 (zd (zcn (zbu (scl e b (sa2 (ssb (ssb sv sv) zg) (ssb sv (zgo zhk (oI_D λ_ _ _ _=>.int _) zg sv))))) (zd (zn (zca sv (sa1 (zbxe (zbv zbrl (zou λ_ _ _ _=>.bl _) sv zg (nomark _)) (zcs (sa2 (ssb (sad sv sv) sv) sv)) (zcs (sa1 (sad sv sv)))))))) zbm)))
 (zd (zj (zi (zbw rfl b.units) zel rfl h zdj (sa1 sv))))))
def zjz{Y:En}(T:TopF Y.K "rows_for_row" (top 23))(e:Cl Y "rows_for_two" 2 ["a","b"] zcb):Cl Y "rows_for_row" 3 ["row","place"] zbk:=cmk ["row","place","ahead","rest"] T λb f d A a s H E c=>(zb (sst b (zbbq sv zej (zei sv)))
 (zb (sst b (zbbq sv (zei (sad sv zg)) zej))
 (zd (zj (scp ["two","rest","ahead"] (zq (scl e c (sa2 (zha sv sv (λ_ _=>rfl)) (zha sv (sad sv zg) (λ_ _=>rfl))))) (λ_ _ _ _ _=>(sad (sad sv sv) sv)))))))
def ztm{Y:En}(T:TopF Y.K "is_whole" (top 6))(d:Y.mg "bool"=none)(b:Y.mg "isinstance"=none)(e:Y.mg "int"=none):Cl Y "is_whole" 1 ["thing"] zo:=cmk ["thing"] T λh f c A a s H E g=>(zd (zj (zxn (zi zbs zct rfl b zbe (sa2 sv (zkf (zgq (v:=.ty "int") rfl e zya rfl) (λ_ _=>.ty _)))) (zbbs (zbji (zi zbs zct rfl b zbe (sa2 sv (zkf (zgq (v:=.ty "bool") rfl d zbem rfl) (λ_ _=>.ty _)))))))))
def zpl{Y:En}(T:TopF Y.K "stands_in" (top 24))(e:Y.mg "all"=none)(c:Y.mg "tuple"=none)(h:Y.mg "isinstance"=none)(g:Cl Y "is_whole" 1 ["thing"] zo):Cl Y "stands_in" 2 ["kept","row"] zdz:=cmk ["kept","row"] T λi f d A a s H E b=>(zd (zj (zxn (zi zbs zct rfl h zbe (sa2 sv (zkf (zgq (v:=.ty "tuple") rfl c zch rfl) (λ_ _=>.ty _)))) (zxn (zi (zqj rfl) zbkd rfl e zbjz (sa1 (scp ["part"] (zq sv) (λ_ _ _ _ _=>(scl g b (sa1 sv)))))) (zbbs (zbyx (zbnd (zbea b) sv sv)))))))
def zkb{Y:En}(T:TopF Y.K "falls_slowly" (top 21)): Cl Y "falls_slowly" 1 ["a","b"] zcv:=cmk ["a","b"] T λd f c A a s H E b=>(zd (zj (zqe (znq b.units0) znv sv (zgo zhk (oI_D λ_ _ _ _=>.int _) zg sv) (nomark _))))
def ztn{Y:En}(T:TopF Y.K "is_place" (top 25))(d:Y.mg "len"=none)(g:Cl Y "is_whole" 1 ["thing"] zo)(c:Cl Y "falls_slowly" 1 ["a","b"] zcv):Cl Y "is_place" 2 ["row","place"] zcd:=cmk ["row","place"] T λh f e A b s H E a=>(zb (zcn (JW.pt (zqa (zcp (zbu (scl g a (sa1 sv)))) (zjp (zcp (zsk zbnk (znq a.units0) (zou λ_ _ _ _=>.bl _) znv zg sv (ssb (zi zbo zoq rfl d zon (sa1 sv)) zg))) (by first|exact Or.inl rfl|exact Or.inr rfl)))) (zd (zj ztz)) zbm)
 (zd (zj (scl c a (sa2 (zha sv sv (λ_ _=>rfl)) (zha sv (sad sv zg) (λ_ _=>rfl)))))))
def zlr{Y:En}(T:TopF Y.K "exchange_in" (top 26))(e:Cl Y "stands_in" 2 ["kept","row"] zdz)(i:Cl Y "is_place" 2 ["row","place"] zcd)(c:Cl Y "flip" 1 ["kept","thing"] zfw)(h:Cl Y "rows_for_row" 3 ["row","place"] zbk):Cl Y "exchange_in" 4 ["kept","row","place"] zdn:=cmk ["kept","row","place","made"] T λg f d A b s H E a=>(zb (zcn (zcp (zbu (scl e a (sa2 sv sv)))) (zd ziq) zbm)
 (zb (zcn (zcp (zbu (scl i a (sa2 sv sv)))) (zd ziq) zbm)
 (zb (zn (scl c a (sa2 sv sv)))
 (zd (sfr (zq (scl h a (sa2 sv sv))) (sgn g)
 (zd (zn (scl c a (sa2 sv sv)))))))))
def zbae{Y:En}(T:TopF Y.K "walked" (top 33))(g:Y.mg "sorted"=none)(d:Y.mg "tuple"=none)(i:Cl Y "rows_kept" 1 ["rows"] zfv)(h:Cl Y "exchange_in" 4 ["kept","row","place"] zdn):Cl Y "walked" 5 ["rows","steps"] zis:=cmk ["rows","steps","kept","row","place"] T λc f e A b s H E a=>(zb (sst c (scl i a (sa1 sv)))
 (zb (sfr (zq sv) (zga rfl (zt (sgn c) (zt (sgn c) zdo)))
 (zd (zn (scl h a (zp sv (sa2 sv sv))))))
 (zd (zj (zbr zbd zek rfl d zch (sa1 (zi (zbw rfl a.units) zel rfl g zdj (sa1 sv))))))))
def zbai{Y:En}(T:TopF Y.K "moment" (top 30))(d:Y.mg "enumerate"=none)(b:Y.mg "sum"=none):Cl Y "moment" 1 ["row"] zhu:=cmk ["row"] T λg f c A a s H E e=>(zd (zj (zi (zmt rfl) zbkb rfl b zbjy (sa1 (zfd rfl (zbbp rfl d sv) (λ_ _ _ _ _=>(zga rfl (zt (zbc (i:=0) (show(["number","part"]:List Str).Nodup from by decide +kernel) rfl (Or.inl rfl)) (zt (zbc (i:=1) (show(["number","part"]:List Str).Nodup from by decide +kernel) rfl (Or.inl rfl)) zdo)))) (λ_ _ _ _ _=>zfc) (λ_ _ _ _ _=>(zgo zhk (oI_D λ_ _ _ _=>.int _) sv sv)) (N:=["number","part"]) (k:=2) (is:=[]) (zdd (by rfl)))))))
def zns{Y:En}(T:TopF Y.K "flip_level" (top 31))(d:Cl Y "flip" 1 ["kept","thing"] zfw)(e:Cl Y "moment" 1 ["row"] zhu):Cl Y "flip_level" 2 ["levels","row"] zdh:=cmk ["levels","row"] T λg f c A a s H E b=>(zd (zn (scl d b (sa2 (zbjh sv (sa2 (scl e b (sa1 sv)) zlb)) sv))))
def zbah{Y:En}(T:TopF Y.K "places" (top 29))(c:Y.mg "len"=none)(e:Y.mg "range"=none)(g:Cl Y "is_place" 2 ["row","place"] zcd):Cl Y "places" 3 ["row"] zmy:=cmk ["row"] T λh f d A a s H E b=>(zd (zj (zfd rfl (zbn rfl e (sa1 (ssb (zi zbo zoq rfl c zon (sa1 sv)) zg))) (λ_ _ _ _ _=>(zbc (i:=0) (show(["place","row"]:List Str).Nodup from by decide +kernel) rfl (Or.inl rfl))) (λ_ _ _ _ _=>(zgm (zbu (scl g b (sa2 sv sv))))) (λ_ _ _ _ _=>sv) (N:=["place","row"]) (k:=1) (is:=[0]) (zdd (by rfl)))))
def zbtm{Y:En}(T:TopF Y.K "way" (top 32))(a:Y.mg "max"=none)(i:Y.mg "sorted"=none)(e:Cl Y "flip_level" 2 ["levels","row"] zdh)(j:Cl Y "places" 3 ["row"] zmy)(h:Cl Y "rows_for_row" 3 ["row","place"] zbk):Cl Y "way" 4 ["rows"] zbrq:=cmk ["rows","levels","row","steps","level","slow","made"] T λb f g A d s H E c=>(zb (sst b zbjk)
 (zb (sfr (zq sv) (sgn b)
 (zd (zn (scl e c (sa2 sv sv)))))
 (zb (sst b (zcl zbj))
 (zb (zio xic (zbin sv) (zb (sst b (zbqh sv (sa1 (zi (zxw rfl) zbrb rfl a zbvv (sa1 sv)))))
 (zd (sfr (zq (zi (zbw rfl c.units) zel rfl i zdj (sa1 sv))) (sgn b)
 (zb (sst b (scl j c (sa1 sv)))
 (zd (zcn (zbu sv) (zb (zn (zca sv (sa1 (zcs (sa2 sv (zha sv zg (λ_ _=>rfl)))))))
 (zd (sfr (zq (scl h c (sa2 sv (zha sv zg (λ_ _=>rfl))))) (sgn b)
 (zd (zn (scl e c (sa2 sv sv))))))) zbm)))))))
 (zd (zj (zty sv)))))))
def zvv{Y:En}(T:TopF Y.K "settled" (top 34))(d:Cl Y "walked" 5 ["rows","steps"] zis)(a:Cl Y "way" 4 ["rows"] zbrq):Cl Y "settled" 6 ["rows"] zit:=cmk ["rows"] T λg f e A b s H E c=>(zd (zj (scl d c (sa2 sv (scl a c (sa1 sv))))))
def zka{Y:En}(T:TopF Y.K "parts_turned" (top 36))(c:Y.mg "range"=none)(e:Y.mg "tuple"=none)(h:Cl Y "settled" 6 ["rows"] zit):Cl Y "parts_turned" 7 ["most"] zcu:=cmk ["most","told","k","rows","i"] T λa f g A b s H E d=>(zb (sst a (zcl (sa1 (zcs (sa1 (zcs zbj))))))
 (zb (sfr (zgz rfl c (sa2 zg (sad sv zg))) (sgn a)
 (zb (sst a (zcl zbj))
 (zb (sfr (zgz rfl c (sa2 zg (sad sv zg))) (sgn a)
 (zd (zn (zft sv (sa1 (scp ["rest","i"] (zq (zha sv (ssb sv sv) (λ_ _=>rfl))) (λ_ _ _ _ _=>(sad (zcs (sa1 sv)) sv))))))))
 (zd (zn (zca sv (sa1 (scl h d (sa1 (zbr zbd zek rfl e zch (sa1 sv)))))))))))
 (zd (zj (zty sv)))))
def znr{Y:En}(T:TopF Y.K "multiplied" (top 17))(h:Y.mg "zip"=none)(d:Y.mg "tuple"=none)(j:Y.mg "sorted"=none)(g:Cl Y "flip" 1 ["kept","thing"] zfw):Cl Y "multiplied" 2 ["one","other"] zep:=cmk ["one","other","kept","product","factor"] T λb f e A a s H E c=>(zb (sst b zlb)
 (zb (sfr (zq sv) (sgn b)
 (zd (sfr (zq sv) (sgn b)
 (zd (zn (scl g c (sa2 sv (zbr zbd zek rfl d zch (sa1 (zfd rfl (zxj rfl h (sa2 sv sv)) (λ_ _ _ _ _=>(zga rfl (zt (zbc (i:=0) (show(["e","f"]:List Str).Nodup from by decide +kernel) rfl (Or.inl rfl)) (zt (zbc (i:=1) (show(["e","f"]:List Str).Nodup from by decide +kernel) rfl (Or.inl rfl)) zdo)))) (λ_ _ _ _ _=>zfc) (λ_ _ _ _ _=>(sad sv sv)) (N:=["e","f"]) (k:=2) (is:=[]) (zdd (by rfl))))))))))))
 (zd (zj (zbr zbd zek rfl d zch (sa1 (zi (zbw rfl c.units) zel rfl j zdj (sa1 sv))))))))
def zbaf{Y:En}(T:TopF Y.K "shares" (top 11)): Cl Y "shares" 1 ["e","least","most"] zmx:=cmk ["e","least","most","told","j"] T λa f d A b s H E c=>(zb (sst a (zcl zbj))
 (zb (sst a zg)
 (zb (zio xic (zbv zbnk (zou λ_ _ _ _=>.bl _) sv sv (nomark _)) (zb (zcn (zbv zbwx (zou λ_ _ _ _=>.bl _) sv sv (nomark _)) (zd (zn (zca sv (sa1 sv)))) zbm)
 (zb (zcn (zbv (zjx c.units) zub sv sv (nomark _)) (zd zbbl) zbm)
 (zd (sst a (zgo zbad (zou λ_ _ _ _=>.int _) (ssb sv sv) sv))))))
 (zd (zj (zty sv))))))
def zje{Y:En}(T:TopF Y.K "letter_raised" (top 12))(e:Cl Y "shares" 1 ["e","least","most"] zmx):Cl Y "letter_raised" 2 ["partly","e","rest"] zcj:=cmk ["partly","e","rest","told","made","left","j"] T λa f d A b s H E c=>(zb (sst a (zcl zbj))
 (zb (sfr (zq sv) (zga rfl (zt (sgn a) (zt (sgn a) zdo)))
 (zd (sfr (zq (scl e c (zp sv (sa2 (ssb sv sv) sv)))) (sgn a)
 (zd (zn (zca sv (sa1 (zcs (sa2 (sad sv (zcs (sa1 (sad sv sv)))) (ssb sv sv))))))))))
 (zd (zj (zty sv)))))
def zih{Y:En}(T:TopF Y.K "product_raised" (top 13))(d:Y.mg "sum"=none)(g:Cl Y "letter_raised" 2 ["partly","e","rest"] zcj):Cl Y "product_raised" 3 ["product","k"] zcc:=cmk ["product","k","partly","rest","e"] T λa f e A b s H E c=>(zb (sst a (zxm (sa1 (zcs (sa2 (zcs zbj) sv)))))
 (zb (sst a (zi (zmt rfl) zbkb rfl d zbjy (sa1 sv)))
 (zb (sfr (zq sv) (sgn a)
 (zb (zbpu (i:=3) a rfl (Or.inl rfl) sv zbuh ip_D)
 (zd (sst a (scl g c (zp sv (sa2 sv sv)))))))
 (zd (zj (zfd rfl (zq sv) (λ_ _ _ _ _=>(zga rfl (zt (zbc (i:=0) (show(["made","left"]:List Str).Nodup from by decide +kernel) rfl (Or.inl rfl)) (zt (zbc (i:=1) (show(["made","left"]:List Str).Nodup from by decide +kernel) rfl (Or.inl rfl)) zdo)))) (λ_ _ _ _ _=>zfc) (λ_ _ _ _ _=>sv) (N:=["made","left"]) (k:=2) (is:=[]) (zdd (by rfl))))))))
def zbag{Y:En}(T:TopF Y.K "raised" (top 14))(e:Y.mg "sum"=none)(j:Y.mg "sorted"=none)(g:Y.mg "tuple"=none)(k:Cl Y "is_whole" 1 ["thing"] zo)(d:Cl Y "product_raised" 3 ["product","k"] zcc)(i:Cl Y "flip" 1 ["kept","thing"] zfw):Cl Y "raised" 4 ["some","k"] zht:=cmk ["some","k","kept","product","made"] T λc f h A b s H E a=>(zb (zcn (JW.pt (zqa (zcp (zbu (scl k a (sa1 sv)))) (zjp (zbv (znq a.units0) znv sv zg (nomark _)) (by first|exact Or.inl rfl|exact Or.inr rfl)))) (zd ziq) zbm)
 (zb (sst c zlb)
 (zb (sfr (zq sv) (sgn c)
 (zd (zcn (zbv zbnk (zou λ_ _ _ _=>.bl _) sv (zi (zmt rfl) zbkb rfl e zbjy (sa1 sv)) (nomark _)) (zd (sfr (zq (scl d a (sa2 sv sv))) (sgn c)
 (zd (zn (scl i a (sa2 sv sv)))))) zbm)))
 (zd (zj (zbr zbd zek rfl g zch (sa1 (zi (zbw rfl a.units) zel rfl j zdj (sa1 sv)))))))))
def ztl{Y:En}(T:TopF Y.K "odd_ones" (top 8))(h:Y.mg "sorted"=none)(d:Y.mg "tuple"=none)(g:Cl Y "flip" 1 ["kept","thing"] zfw):Cl Y "odd_ones" 2 ["things"] zhe:=cmk ["things","kept","thing"] T λc f e A a s H E b=>(zb (sst c zlb)
 (zb (sfr (zq sv) (sgn c)
 (zd (zn (scl g b (sa2 sv sv)))))
 (zd (zj (zbr zbd zek rfl d zch (sa1 (zi (zbw rfl b.units) zel rfl h zdj (sa1 sv))))))))
def zbgt{Y:En}(T:TopF Y.K "added" (top 16))(d:Cl Y "odd_ones" 2 ["things"] zhe):Cl Y "added" 3 ["one","other"] zot:=cmk ["one","other"] T λe f c A a s H E b=>(zd (zj (scl d b (sa1 (sad sv sv)))))
def zuy:FnScope ["rows","some","told","last","made","ahead"] ["rows","some"] (defScope (top 19)):=⟨rfl,rfl,rfl,by decide +kernel,rfl,by decide +kernel,by decide +kernel⟩
def zbaj{Y:En}(w:5<=j)(b:∀ l n v g,fF l n=.ok v g->l.length=2)(T:TopF Y.K "done" (top 19))(o:Y.mg "sorted"=none)(a:Y.mg "set"=none)(p:Cl Y "raised" 4 ["some","k"] zht)(r:Cl Y "added" 3 ["one","other"] zot)(u:Cl Y "done" j ["rows","some"] fF):Cl Y "done" (j + 1) ["rows","some"] (zqu fF):=
  have d:=zuy.nd
  zxz (k:=j) T Y.X Y.G zuy (λ_ _ _ _ _ _ q t=>len2 q t λ_ _=>rfl) λf m A e s H E c=>(zb (zsm (i:=2) d rfl (Or.inl rfl) (zbxe (zbv (zbtj c.units) zbxy (zcs zbj) (zeu (pv 0)) rfl) (zeu (pv 1)) (zcs zbj)))
  (zb (zbei xic rfl (zq (zbyq rfl zyj rfl o zdj rfl a zbvu (zp (zfd rfl (zq (zeu (pv 0))) (λ_ _ _ _ _=>(zbc (i:=0) (show(["row"]:List Str).Nodup from by decide +kernel) rfl (Or.inl rfl))) (λ_ _ _ _ _=>(zgm (zbu (zeu (pv 0))))) (λ_ _ _ _ _=>(zha (zeu (pv 0)) (ztx zg) (λ_ _=>rfl))) (N:=["row"]) (k:=1) (is:=[]) (zdd (by rfl))) zbj))) (zbc (i:=3) d rfl (Or.inr rfl))
  (zb (zsm (i:=4) d rfl (Or.inl rfl) (zsq p (λ_ _ _ _ h=>zse h) (c.mono (by lia)) rfl (zp (zeu (pv 1)) (zp (zeu (pv 3)) zbj))))
  (zd (zcn (zbu (zeu (pv 4))) (zb (zqb (i:=5) rfl d rfl (Or.inl rfl) (zq (zeu (pv 0))) (λ_ _ _ _ _=>(zbc (i:=0) (show(["row","last"]:List Str).Nodup from by decide +kernel) rfl (Or.inl rfl))) (λ_ _ _ _ _=>(zgm (JW.pt (zbpn (zbu (zeu (pv 0))) (zjp (zbv (zjx c.units) zub (zha (zeu (pv 0)) (ztx zg) (λ_ _=>rfl)) (zeu (pv 1)) (nomark _)) (by first|exact Or.inl rfl|exact Or.inr rfl)))))) (λ_ _ _ _ _=>(zbbq (zeu (pv 0)) zej (zei (ztx zg)))) (N:=["row","last"]) (k:=1) (is:=[3]) (zdd (by rfl)))
  (zd (zsm (i:=2) d rfl (Or.inl rfl) (zsq r (λ_ _ _ _ h=>zse h) (c.mono (by lia)) rfl (zp (zeu (pv 2)) (zp (zsq u b c rfl (zp (zeu (pv 5)) (zp (zeu (pv 4)) zbj))) zbj)))))) zbm))))
  (zd (zj (zeu (pv 2))))))
def zbnp{Y:En}(T:TopF Y.K "done" (top 19))(b:Y.mg "sorted"=none)(a:Y.mg "set"=none)(d:Cl Y "raised" 4 ["some","k"] zht)(g:Cl Y "added" 3 ["one","other"] zot):Cl Y "done" 13 ["rows","some"] (iterF zqu 8):=CalD.iter (L:=5) (zxy T Y.X Y.G zuy (λ_ _ _ _ _ _ f k=>len2 f k λ_ _=>rfl)) (λ_ _ _ _ _ h=>zse h) (λF j i e c=>zbaj i e T b a d g c) 8
def zvu{Y:En}(T:TopF Y.K "shifted" (top 39))(h:Y.mg "range"=none) (a:Y.mg "MOST_SHIFTED"=some (.int 8 k_MOST_SHIFTED))(j:Cl Y "is_whole" 1 ["thing"] zo)(l:Cl Y "parts_turned" 7 ["most"] zcu)(e:Cl Y "multiplied" 2 ["one","other"] zep)(m:Cl Y "done" 13 ["rows","some"] (iterF zqu 8)):Cl Y "shifted" 14 ["k","f","g"] zen:=cmk ["k","f","g","parts"] T λg f d A c s H E b=>(zb (zcn (JW.pt (zqa (zcp (zbu (scl j b (sa1 sv)))) (zjp (zcp (zsk zbnk zbnk (zou λ_ _ _ _=>.bl _) (zou λ_ _ _ _=>.bl _) zg sv (zkf (zbmy (v:=.int 8) rfl a ⟨_,rfl⟩) (λ_ _=>.int _)))) (by first|exact Or.inl rfl|exact Or.inr rfl)))) (zd ziq) zbm)
 (zb (sst g (scl l b (sa1 sv)))
 (zd (zj (zbjm rfl (zbn rfl h (sa1 (sad sv zg))) (λ_ _ _ _ _=>(zbc (i:=0) (show(["i","g","f","parts","k"]:List Str).Nodup from by decide +kernel) rfl (Or.inl rfl))) (λ_ _ _ _ _=>zfc) (λ_ _ _ _ _=>(zcs (sa2 sv (scl e b (sa2 (scl m b (sa2 (zha sv (ssb sv sv) (λ_ _=>rfl)) sv)) sv))))) (N:=["i","g","f","parts","k"]) (k:=1) (is:=[2,1,3,0]) (zdd (by rfl)))))))
def zlt{Y:En}(T:TopF Y.K "_law_number" (top 44))(d:Y.mg "bool"=none)(b:Y.mg "isinstance"=none)(e:Y.mg "int"=none):Cl Y "_law_number" 1 ["_law_thing"] zo:=cmk ["_law_thing"] T λh f c A a s H E g=>(zd (zj (zxn (zi zbs zct rfl b zbe (sa2 sv (zkf (zgq (v:=.ty "int") rfl e zya rfl) (λ_ _=>.ty _)))) (zbbs (zbji (zi zbs zct rfl b zbe (sa2 sv (zkf (zgq (v:=.ty "bool") rfl d zbem rfl) (λ_ _=>.ty _)))))))))
def zlu{Y:En}(T:TopF Y.K "_law_is_sum" (top 45))(c:Y.mg "tuple"=none)(e:Y.mg "isinstance"=none)(h:Y.mg "len"=none)(d:Y.mg "all"=none)(l:Y.mg "zip"=none)(m:Cl Y "_law_number" 1 ["_law_thing"] zo):Cl Y "_law_is_sum" 2 ["_law_n","_law_thing"] zer:=cmk ["_law_n","_law_thing","_law_product_here"] T λj f g A b s H E a=>(zb (zcn (zcp (zbu (zi zbs zct rfl e zbe (sa2 sv (zkf (zgq (v:=.ty "tuple") rfl c zch rfl) (λ_ _=>.ty _)))))) (zd (zj ztz)) zbm)
 (zb (sfr (zq sv) (sgn j)
 (zb (zcn (JW.pt (zqa (zcp (zbu (zi zbs zct rfl e zbe (sa2 sv (zkf (zgq (v:=.ty "tuple") rfl c zch rfl) (λ_ _=>.ty _)))))) (zjp (zbv (zbnj a.units) zub (zi zbo zoq rfl h zon (sa1 sv)) sv (nomark _)) (by first|exact Or.inl rfl|exact Or.inr rfl)))) (zd (zj ztz)) zbm)
 (zd (zcn (zcp (zbu (zi (zqj rfl) zbkd rfl d zbjz (sa1 (scp ["_law_e"] (zq sv) (λ_ _ _ _ _=>(zxn (scl m a (sa1 sv)) (zbbs (zqe zbwx (zou λ_ _ _ _=>.bl _) sv zg (nomark _)))))))))) (zd (zj ztz)) zbm))))
 (zd (zj (zi (zqj rfl) zbkd rfl d zbjz (sa1 (zfd rfl (zxj rfl l (sa2 sv (zbbq sv (zei zg) zej))) (λ_ _ _ _ _=>(zga rfl (zt (zbc (i:=0) (show(["_law_one","_law_other"]:List Str).Nodup from by decide +kernel) rfl (Or.inl rfl)) (zt (zbc (i:=1) (show(["_law_one","_law_other"]:List Str).Nodup from by decide +kernel) rfl (Or.inl rfl)) zdo)))) (λ_ _ _ _ _=>zfc) (λ_ _ _ _ _=>(zqe (znq a.units0) znv sv sv (nomark _))) (N:=["_law_one","_law_other"]) (k:=2) (is:=[]) (zdd (by rfl)))))))))
def znu{Y:En}(T:TopF Y.K "_law_right" (top 54))(g:Y.mg "list"=none)(c:Y.mg "isinstance"=none)(d:Y.mg "tuple"=none)(i:Cl Y "_law_is_sum" 2 ["_law_n","_law_thing"] zer)(j:Cl Y "_law_number" 1 ["_law_thing"] zo):Cl Y "_law_right" 3 ["_law_n","_law_found","_law_due"] zbx:=cmk ["_law_n","_law_found","_law_due","_law_duo"] T λh f e A b s H E a=>(zb (zcn (JW.pt (zqa (zcp (zbu (zi zbs zct rfl c zbe (sa2 sv (zkf (zgq (v:=.ty "list") rfl g zbel rfl) (λ_ _=>.ty _)))))) (zjp (zbv (zbnj a.units) zub sv sv (nomark _)) (by first|exact Or.inl rfl|exact Or.inr rfl)))) (zd (zj ztz)) zbm)
 (zb (zbiv xic rfl sv (sgn h)
 (zd (zcn (JW.pt (zqa (zcp (zbu (zi zbs zct rfl c zbe (sa2 sv (zkf (zgq (v:=.ty "tuple") rfl d zch rfl) (λ_ _=>.ty _)))))) (zqa (zcp (zbu (scl j a (sa1 (zha sv zg (λ_ _=>rfl)))))) (zjp (zcp (zbu (scl i a (sa2 sv (zha sv zg (λ_ _=>rfl)))))) (by first|exact Or.inl rfl|exact Or.inr rfl))))) (zd (zj ztz)) zbm)))
 (zd (zj ztz))))
def znt{Y:En}(T:TopF Y.K "_law_times" (top 53))(h:Y.mg "zip"=none)(d:Y.mg "tuple"=none)(g:Cl Y "_law_odd" 1 ["_law_things"] zbb):Cl Y "_law_times" 2 ["_law_one","_law_other"] zci:=cmk ["_law_one","_law_other","_law_found","_law_product_here","_law_factor"] T λb f e A a s H E c=>(zb (sst b (zcl zbj))
 (zb (sfr (zq sv) (sgn b)
 (zd (sfr (zq sv) (sgn b)
 (zd (zn (zca sv (sa1 (zbr zbd zek rfl d zch (sa1 (zfd rfl (zxj rfl h (sa2 sv sv)) (λ_ _ _ _ _=>(zga rfl (zt (zbc (i:=0) (show(["_law_e","_law_f"]:List Str).Nodup from by decide +kernel) rfl (Or.inl rfl)) (zt (zbc (i:=1) (show(["_law_e","_law_f"]:List Str).Nodup from by decide +kernel) rfl (Or.inl rfl)) zdo)))) (λ_ _ _ _ _=>zfc) (λ_ _ _ _ _=>(sad sv sv)) (N:=["_law_e","_law_f"]) (k:=2) (is:=[]) (zdd (by rfl))))))))))))
 (zd (zj (scl g c (sa1 (zty sv)))))))
def zls{Y:En}(T:TopF Y.K "_law_raised" (top 48))(g:Y.mg "min"=none)(h:Y.mg "range"=none)(e:Cl Y "_law_odd" 1 ["_law_things"] zbb):Cl Y "_law_raised" 2 ["_law_some","_law_k"] zdf:=cmk ["_law_some","_law_k","_law_found","_law_product_here","_law_ways","_law_e","_law_further","_law_grown","_law_left"] T λa f d A c s H E b=>(zb (sst a (zcl zbj))
 (zb (sfr (zq sv) (sgn a)
 (zb (sst a (zxm (sa1 (zcs (sa2 (zcs zbj) sv)))))
 (zb (sfr (zq sv) (sgn a)
 (zb (sst a (zcl zbj))
 (zb (sfr (zq sv) (zga rfl (zt (sgn a) (zt (sgn a) zdo)))
 (zd (zn (zft sv (sa1 (zfd rfl (zbn rfl h (sa1 (sad (zi (zir rfl) zbrp rfl g zbcb (sa2 sv sv)) zg))) (λ_ _ _ _ _=>(zbc (i:=0) (show(["_law_j","_law_grown","_law_left","_law_e"]:List Str).Nodup from by decide +kernel) rfl (Or.inl rfl))) (λ_ _ _ _ _=>(zgm (zbv (zjx b.units) zub (zgo zbad (zou λ_ _ _ _=>.int _) sv sv) sv (nomark _)))) (λ_ _ _ _ _=>(zcs (sa2 (sad sv (zcs (sa1 (sad sv sv)))) (ssb sv sv)))) (N:=["_law_j","_law_grown","_law_left","_law_e"]) (k:=1) (is:=[7,8,5]) (zdd (by rfl))))))))
 (zd (sst a (zty sv))))))
 (zd (zn (zft sv (sa1 (zfd rfl (zq sv) (λ_ _ _ _ _=>(zga rfl (zt (zbc (i:=0) (show(["_law_grown","_law_left"]:List Str).Nodup from by decide +kernel) rfl (Or.inl rfl)) (zt (zbc (i:=1) (show(["_law_grown","_law_left"]:List Str).Nodup from by decide +kernel) rfl (Or.inl rfl)) zdo)))) (λ_ _ _ _ _=>(zgm (zbv (zjx b.units) zub sv zg (nomark _)))) (λ_ _ _ _ _=>sv) (N:=["_law_grown","_law_left"]) (k:=2) (is:=[]) (zdd (by rfl))))))))))
 (zd (zj (scl e b (sa1 (zty sv)))))))
def zpp{Y:En}(T:TopF Y.K "_law_done" (top 49))(h:Y.mg "list"=none)(d:Cl Y "_law_raised" 2 ["_law_some","_law_k"] zdf)(g:Cl Y "_law_odd" 1 ["_law_things"] zbb):Cl Y "_law_done" 3 ["_law_rows","_law_some"] zed:=cmk ["_law_rows","_law_some","_law_found","_law_row","_law_grown","_law_part"] T λa f e A b s H E c=>(zb (sst a (zcl zbj))
 (zb (sfr (zq sv) (sgn a)
 (zb (sst a sv)
 (zb (sfr (zq (zbqo sv (ztx zg))) (sgn a)
 (zd (sst a (scl d c (sa2 sv sv)))))
 (zd (zn (zft sv (sa1 (zbr zqi zbrc rfl h zbel (sa1 sv)))))))))
 (zd (zj (scl g c (sa1 (zty sv)))))))
def zbtn{Y:En}(F:Fun Y.K "law" "law" (top 55) f fd)(n:Y.mg "len"=none)(q:Y.mg "min"=none)(l:Y.mg "range"=none)(d:Y.mg "int"=none)(u:Cl Y "_law_bag" 1 ["_law_script","_law_at"] zhf)(e:Cl Y "_law_take" 1 ["_law_bag_here","_law_many"] zy)(m:Cl Y "_law_sum" 3 ["_law_bag_here","_law_n","_law_many","_law_degree"] zeq)(r:Cl Y "_law_parts_turned" 3 ["_law_most"] zbi)(o:Cl Y "_law_times" 2 ["_law_one","_law_other"] zci)(t:Cl Y "_law_done" 3 ["_law_rows","_law_some"] zed)(h:Cl Y "shifted" 14 ["k","f","g"] zen)(g:Cl Y "_law_right" 3 ["_law_n","_law_found","_law_due"] zbx):FnOk Y.P Y.w Y.K Y.mg Y.base CX0 15 f fd ["_law_script"] (spLaw Y.K):=
  have j:FnScope ["_law_script","_law_k","_law_bag_here","_law_n","_law_many","_law_most","_law_f","_law_g","_law_part","_law_parts","_law_due","_law_found"] ["_law_script"] (defScope (top 55)):=⟨rfl,rfl,rfl,by decide +kernel,rfl,by decide +kernel,by decide +kernel⟩
  have b:=j.nd
  zbor (k:=14) F j rfl (λp A c s H E a=>(zb (sfr (zbn rfl l (sa1 (sad (zi (zir rfl) zbrp rfl q zbcb (sa2 zg (zi zbo zoq rfl n zon (sa1 sv)))) zg))) (sgn b)
  (zb (sst b (scl u a (sa2 sv sv)))
  (zb (sst b (sad (sad zg (scl e a (sa2 sv zg))) (zgo zhk (oI_D λ_ _ _ _=>.int _) zg (zbr zmv zbkc rfl d zya (sa1 (zqe (zjx a.units) zub (scl e a (sa2 sv zg)) zg (nomark _)))))))
  (zb (zbit (zha (zxm (sa2 (zcs (sa2 (zha (zxm (sa2 zg zg)) (zbr zmv zbkc rfl d zya (sa1 (zqe (zjx a.units) zub sv zg (nomark _)))) (λ_ _=>rfl)) zg)) (zcs (sa2 zg zg)))) (zbr zmv zbkc rfl d zya (sa1 (zqe zbrl (zou λ_ _ _ _=>.bl _) sv zg (nomark _)))) (λ_ _=>rfl)) (zga rfl (zt (sgn b) (zt (sgn b) zdo))))
  (zb (sst b (scl m a (zp sv (zp sv (sa2 sv sv)))))
  (zb (sst b (scl m a (zp sv (zp sv (sa2 sv sv)))))
  (zb (sst b (scl e a (sa2 sv zg)))
  (zb (sst b (scl r a (sa1 sv)))
  (zb (zqb (i:=10) rfl b rfl (Or.inl rfl) (zbn rfl l (sa1 (sad sv zg))) (λ_ _ _ _ _=>(zbc (i:=0) (show(["_law_i","_law_g","_law_f","_law_parts","_law_part"]:List Str).Nodup from by decide +kernel) rfl (Or.inl rfl))) (λ_ _ _ _ _=>zfc) (λ_ _ _ _ _=>(zcs (sa2 sv (scl o a (sa2 (scl t a (sa2 (zha sv (ssb sv sv) (λ_ _=>rfl)) sv)) sv))))) (N:=["_law_i","_law_g","_law_f","_law_parts","_law_part"]) (k:=1) (is:=[7,6,9,8]) (zdd (by rfl)))
  (zb (sst b (scl h a (zp sv (sa2 sv sv))))
  (zb (zcn (zcp (zbu (scl g a (zp sv (sa2 sv sv))))) (zd (zj ztz)) zbm)
  (zb (zn (zbjn sv))
  (zd (zcn (zcp (zbu (scl g a (zp sv (sa2 (scl h a (zp sv (sa2 sv sv))) sv))))) (zd (zj ztz)) zbm))))))))))))))
  (zd (zj ztz)))) K50.holds
def all_mk{l:W.OpenLaw}{K:Fg}(X:K.In h)(G:h.Ns mainGlobals mg)(hfa:mg "law"=some (.ref fa))
  (t1:TopF K "_law_bag" (top 41))(t2:TopF K "_law_odd" (top 43))(t3:TopF K "_law_take" (top 42))(t4:TopF K "_law_product" (top 46))(t5:TopF K "_law_sum" (top 47))(t6:TopF K "_law_pair" (top 50))(t7:TopF K "_law_settled" (top 51))(t8:TopF K "_law_parts_turned" (top 52))(t9:TopF K "rows_kept" (top 27))(t10:TopF K "flip" (top 7))(t11:TopF K "odd_ways" (top 10))(t12:TopF K "rows_for_two" (top 22))(t13:TopF K "rows_for_row" (top 23))(t14:TopF K "is_whole" (top 6))(t15:TopF K "stands_in" (top 24))(t16:TopF K "falls_slowly" (top 21))(t17:TopF K "is_place" (top 25))(t18:TopF K "exchange_in" (top 26))(t19:TopF K "walked" (top 33))(t20:TopF K "moment" (top 30))(t21:TopF K "flip_level" (top 31))(t22:TopF K "places" (top 29))(t23:TopF K "way" (top 32))(t24:TopF K "settled" (top 34))(t25:TopF K "parts_turned" (top 36))(t26:TopF K "multiplied" (top 17))(t27:TopF K "shares" (top 11))(t28:TopF K "letter_raised" (top 12))(t29:TopF K "product_raised" (top 13))(t30:TopF K "raised" (top 14))(t31:TopF K "odd_ones" (top 8))(t32:TopF K "added" (top 16))(t33:TopF K "done" (top 19))(t34:TopF K "shifted" (top 39))(t35:TopF K "_law_number" (top 44))(t36:TopF K "_law_is_sum" (top 45))(t37:TopF K "_law_right" (top 54))(t38:TopF K "_law_times" (top 53))(t39:TopF K "_law_raised" (top 48))(t40:TopF K "_law_done" (top 49))(t41:TopF K "law" (top 55)) (z0:W.nsIn K mainGlobals "len"=some none)(z1:W.nsIn K mainGlobals "abs"=some none)(z2:W.nsIn K mainGlobals "min"=some none)(z3:W.nsIn K mainGlobals "range"=some none)(z4:W.nsIn K mainGlobals "sorted"=some none)(z5:W.nsIn K mainGlobals "tuple"=some none)(z6:W.nsIn K mainGlobals "bool"=some none)(z7:W.nsIn K mainGlobals "isinstance"=some none)(z8:W.nsIn K mainGlobals "int"=some none)(z9:W.nsIn K mainGlobals "all"=some none)(z10:W.nsIn K mainGlobals "enumerate"=some none)(z11:W.nsIn K mainGlobals "sum"=some none)(z12:W.nsIn K mainGlobals "max"=some none)(z13:W.nsIn K mainGlobals "zip"=some none)(z14:W.nsIn K mainGlobals "set"=some none)(z15:W.nsIn K mainGlobals "list"=some none)(y0:W.nsIn K mainGlobals "MOST_SHIFTED"=some (some (.int 8 u0))):
  ∃ fd:FuncData,(∀(s:Shared) (v:Value),BindsTo s fd ⟨[v],[]⟩ [("_law_script",v)])/\∀ base:Heap,K.In base->base.Ns mainGlobals mg->FnOk l.prog w K mg base CX0 15 fa fd ["_law_script"] (spLaw K):=by
 have Ad:=xdm X G z0;have z_abs:=xdm X G z1;have Ai:=xdm X G z2;have Aa:=xdm X G z3;have Ac:=xdm X G z4;have Ab:=xdm X G z5;have Ao:=xdm X G z6;have Ae:=xdm X G z7;have Ak:=xdm X G z8;have An:=xdm X G z9;have Ba:=xdm X G z10;have Al:=xdm X G z11;have z_max:=xdm X G z12;have Am:=xdm X G z13;have z_set:=xdm X G z14;have As:=xdm X G z15;have m_MOST_SHIFTED:=W.mg_of X G y0;obtain⟨f,fd,a,F⟩:=t41;have e:=hfa.symm.trans (W.mg_of X G a);cases e;obtain⟨oc,od,kV,doc,pm,an,cdv,ct,osl,rfl,lk,hcd⟩:=id F.ex;refine⟨W.fnOf "law" "law" (defArgs (top 55)) (defBody (top 55)) (defScope (top 55)) .none kV doc pm an cdv ct,λs v=>.of_eq rfl,λbase _ _=>?_⟩
 let Y:En:=⟨l.prog,w,K,mg,base,h,X,G⟩
 have Bn:=ztq (Y:=Y) t1 Ad z_abs Ai Aa;have Af:=ztp (Y:=Y) t2 Ac Ab;have Ah:=zpn (Y:=Y) t3;have A1:=zkd (Y:=Y) t4 Aa Ab Ah;have Ay:=zto (Y:=Y) t5 Aa Af Ah A1;have A2:=zpo (Y:=Y) t6 Aa Ai;have A3:=zkc (Y:=Y) t7 Ad Aa Af A2;have Bo:=zgk (Y:=Y) t8 Aa A3;have A8:=zpm (Y:=Y) t9;have Ag:=zbno (Y:=Y) t10;have A4:=ztk (Y:=Y) t11;have A5:=zjy (Y:=Y) t12 Aa Ac A4;have Aq:=zjz (Y:=Y) t13 A5;have Aj:=ztm (Y:=Y) t14 Ao Ae Ak;have A7:=zpl (Y:=Y) t15 An Ab Ae Aj;have A6:=zkb (Y:=Y) t16;have Ap:=ztn (Y:=Y) t17 Ad Aj A6;have A9:=zlr (Y:=Y) t18 A7 Ap Ag Aq;have Bd:=zbae (Y:=Y) t19 Ac Ab A8 A9;have Bb:=zbai (Y:=Y) t20 Ba Al;have Ax:=zns (Y:=Y) t21 Ag Bb;have Bc:=zbah (Y:=Y) t22 Ad Aa Ap;have c_way:=zbtm (Y:=Y) t23 z_max Ac Ax Bc Aq;have Be:=zvv (Y:=Y) t24 Bd c_way;have Bj:=zka (Y:=Y) t25 Aa Ab Be;have Bk:=znr (Y:=Y) t26 Am Ab Ac Ag;have Bf:=zbaf (Y:=Y) t27
 have Bg:=zje (Y:=Y) t28 Bf;have Bh:=zih (Y:=Y) t29 Al Bg;have Au:=zbag (Y:=Y) t30 Al Ac Ab Aj Bh Ag;have Bi:=ztl (Y:=Y) t31 Ac Ab Ag;have Av:=zbgt (Y:=Y) t32 Bi;have Aw:=zbnp (Y:=Y) t33 Ac z_set Au Av;have Az:=zvu (Y:=Y) t34 Aa m_MOST_SHIFTED Aj Bj Bk Aw;have Ar:=zlt (Y:=Y) t35 Ao Ae Ak;have Bl:=zlu (Y:=Y) t36 Ab Ae Ad An Am Ar;have A0:=znu (Y:=Y) t37 As Ae Ab Bl Ar;have Bp:=znt (Y:=Y) t38 Am Ab Af;have Bm:=zls (Y:=Y) t39 Ai Aa Af;have Bq:=zpp (Y:=Y) t40 As Bm Af;exact zbtn (Y:=Y) F Ad Ai Aa Ak Bn Ah Ay Bo Bp Bq Az A0
end K50
end
open PySem PySem.W PyProof.Rows
set_option maxRecDepth 100000 in
set_option maxHeartbeats 0 in
theorem PySem.Challenge.cw_raisedsums_k50_parts_shifted_holds : PySem.Challenge.rw_raisedsums_k50_parts_shifted.Holds := by
  w_on; o_law; k_head; (case hw => w_witness2)
  k_fill
  refine L2.zbky (l := PySem.Challenge.rw_raisedsums_k50_parts_shifted) (n := 63) (k := 15) (x := "_law_script") (CX := fun _ => L2.CX0) (sp := fun w => Dd.spLaw _) rfl (by decide) rfl ⟨rfl, by decide, by decide⟩ (fun w h Y => PySem.W.kIn_of Y) ?F (fun _ _ a ns hl _ hS => ⟨a, ns, rfl, hS, hl, fun _ => rfl⟩) (fun _ _ _ _ _ z => z)
  case F =>
    intro w mg fa h KX G hmg
    refine' K50.all_mk KX G hmg ?t1 ?t2 ?t3 ?t4 ?t5 ?t6 ?t7 ?t8 ?t9 ?t10 ?t11 ?t12 ?t13 ?t14 ?t15 ?t16 ?t17 ?t18 ?t19 ?t20 ?t21 ?t22 ?t23 ?t24 ?t25 ?t26 ?t27 ?t28 ?t29 ?t30 ?t31 ?t32 ?t33 ?t34 ?t35 ?t36 ?t37 ?t38 ?t39 ?t40 ?t41 ?z0 ?z1 ?z2 ?z3 ?z4 ?z5 ?z6 ?z7 ?z8 ?z9 ?z10 ?z11 ?z12 ?z13 ?z14 ?z15 ?y0
    all_goals first|k_is|kernel_rfl|(refine' L2.zbh ?a ?l ?c ?k;(case a=>k_is);(case l=>k_is);(case c=>k_is);(case k=>k_is))|skip
#print axioms PySem.Challenge.cw_raisedsums_k50_parts_shifted_holds
