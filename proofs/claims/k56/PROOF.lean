import PyProof.Rows.All
import Wide.All
import OpenK.AllK
import Wide.FinOn
import PyProof.EqAt
import PyProof.EqKinds
import PyProof.TupleCall
import PySem.Challenge.RW_raisedsums_k56_sums_judged_raised
set_option Elab.async false
set_option linter.all false
set_option maxRecDepth 100000
noncomputable section
namespace PySem.W.Fast
theorem tw3757657438635700116:True:=⟨⟩
theorem tw3913122122258042815:True:=⟨⟩
theorem tw10252945989252803629:True:=⟨⟩
theorem tw16323409561184679780:True:=⟨⟩
theorem tw16942417809569071858:True:=⟨⟩
theorem tw9011200410120822662:True:=⟨⟩
theorem tw17268161049868275851:True:=⟨⟩
theorem tw12399984552141390787:True:=⟨⟩
theorem tw2234685965494570114:True:=⟨⟩
theorem tw259327650074576106:True:=⟨⟩
theorem tw16500766112673209799:True:=⟨⟩
theorem tw111793679035536998:True:=⟨⟩
theorem tw5926962843271023308:True:=⟨⟩
theorem tw12040473768501857508:True:=⟨⟩
theorem tw1333837985307416289:True:=⟨⟩
theorem tw6641299024924842526:True:=⟨⟩
theorem tw7921881737843434461:True:=⟨⟩
theorem tw11427531906414693516:True:=⟨⟩
theorem tw9066648787545737247:True:=⟨⟩
theorem tw3396241110539308332:True:=⟨⟩
theorem tw2956188806958689839:True:=⟨⟩
theorem tw1531878790073155612:True:=⟨⟩
theorem tw16214789836195428510:True:=⟨⟩
theorem tw17633744667799941905:True:=⟨⟩
theorem tw2839504211457555633:True:=⟨⟩
theorem tw15917870974997647842:True:=⟨⟩
theorem tw5187184908519733297:True:=⟨⟩
theorem tw10956839141648098677:True:=⟨⟩
theorem tw10127401337156166462:True:=⟨⟩
theorem tw4396738269333751634:True:=⟨⟩
theorem tw17394687212379244509:True:=⟨⟩
theorem tw9542875461624186572:True:=⟨⟩
theorem tw2008838008000939671:True:=⟨⟩
theorem tw11619886800420188267:True:=⟨⟩
theorem tw696766705042091284:True:=⟨⟩
theorem tw9339306173818226567:True:=⟨⟩
theorem tw1926282440575777883:True:=⟨⟩
theorem tw9392167174639503656:True:=⟨⟩
theorem tw16425159973612523534:True:=⟨⟩
theorem tw2994180454766008880:True:=⟨⟩
theorem tw6782263005273418799:True:=⟨⟩
theorem tw16240076047341242936:True:=⟨⟩
theorem tw11574918904613797574:True:=⟨⟩
theorem tw2247307801894140895:True:=⟨⟩
theorem tw1501468872964104509:True:=⟨⟩
theorem tw12910176417522007193:True:=⟨⟩
theorem tw1813303016553630831:True:=⟨⟩
theorem tw11053599679803591464:True:=⟨⟩
theorem tw4808059337674674068:True:=⟨⟩
theorem tw7936646425444020331:True:=⟨⟩
theorem tw5491878591851437345:True:=⟨⟩
theorem tw12736557377873170504:True:=⟨⟩
theorem tw3628204208433343273:True:=⟨⟩
theorem tw1115809154364107226:True:=⟨⟩
theorem tw18374506936865272413:True:=⟨⟩
theorem tw7937586853865827813:True:=⟨⟩
theorem tw15351710341249689298:True:=⟨⟩
theorem tw3169161227966642871:True:=⟨⟩
theorem tw6455953176357615959:True:=⟨⟩
theorem tw14965067474321368038:True:=⟨⟩
theorem tw13993679448741239429:True:=⟨⟩
theorem tw2010588724706687747:True:=⟨⟩
theorem tw16355879852691068680:True:=⟨⟩
theorem tw9183599631463592933:True:=⟨⟩
theorem tw3898577993968118653:True:=⟨⟩
theorem tw10982321683317917717:True:=⟨⟩
theorem tw14054998700676265730:True:=⟨⟩
theorem tw6583363192983332939:True:=⟨⟩
theorem tw9356104276154400245:True:=⟨⟩
theorem tw13222632320977740451:True:=⟨⟩
theorem tw3189972927082392574:True:=⟨⟩
theorem tw9666097289504001274:True:=⟨⟩
theorem tw16634620319133175048:True:=⟨⟩
theorem tw1597690407815517820:True:=⟨⟩
theorem tw14746013506779313123:True:=⟨⟩
theorem tw4879710167832226370:True:=⟨⟩
theorem tw13177822325862802858:True:=⟨⟩
theorem tw87583275068746469:True:=⟨⟩
theorem tw4034768819167369352:True:=⟨⟩
theorem tw3618936852389567261:True:=⟨⟩
theorem tw4175194317297999717:True:=⟨⟩
theorem tw3931720539692270524:True:=⟨⟩
theorem tw4730684519454491937:True:=⟨⟩
theorem tw752609350579044973:True:=⟨⟩
theorem tw7338231131876313079:True:=⟨⟩
theorem tw14097431599977657636:True:=⟨⟩
end PySem.W.Fast
set_option genSizeOfSpec false
set_option genInjectivity false
abbrev Fg:=PySem.W.Frag
abbrev xba:=@PySem.wpAny_bind
abbrev xbb:=@List.length_map
abbrev xbc:=@Nat.le_trans
abbrev xbd:=@PySem.wpAny_pure
abbrev xbe:=@List.getElem?_eq_getElem
abbrev xbf:=@PySem.Heap.get?_push_of_some
abbrev xbg:=@Nat.le_refl
abbrev xbh:=@List.length_append
abbrev xbi:=@List.getD_eq_getElem?_getD
abbrev xbj:=@List.getElem?_eq_some_iff
abbrev xbk:=@Nat.lt_of_lt_of_le
abbrev xbl:=@PyProof.Rows.wpS_bind
abbrev xbm:=@List.mem_cons
abbrev xbn:=@PyProof.Rows.wpS_pure
abbrev xbo:=@List.mem_cons_of_mem
abbrev xbp:=@List.mem_map
abbrev xbq:=@List.mem_cons_self
abbrev xbr:=@PySem.Heap.lt_size
abbrev xbs:=@List.map_cons
abbrev xbt:=@List.mem_singleton
abbrev xbu:=@PySem.Heap.get?_push_size
abbrev xbv:=@List.size_toArray
abbrev xbw:=@decide_eq_true
abbrev xbx:=@List.mem_append
abbrev xby:=@List.mem_range
abbrev xbz:=@decide_eq_false
abbrev xca:=@Nat.le_of_lt
abbrev xcb:=@List.mem_of_getElem?
abbrev xcc:=@List.length_cons
abbrev xcd:=@Array.length_toList
abbrev xce:=@Nat.ne_of_lt
abbrev xcf:=@Nat.le_add_right
abbrev xcg:=@List.getElem?_append_left
abbrev xch:=@List.take_length
abbrev xci:=@Array.getElem?_toList
abbrev xcj:=@Nat.le_of_not_lt
abbrev xck:=@List.append_assoc
abbrev xcl:=@Nat.add_sub_cancel'
abbrev xcm:=@List.getElem?_set_ne
abbrev xcn:=@Nat.add_le_add_left
abbrev xco:=@Bool.false_eq_true
abbrev xcp:=@List.getElem?_map
abbrev xcq:=@List.filter_cons_of_pos
abbrev xcr:=@of_decide_eq_true
abbrev xcs:=@Option.some.inj
abbrev xct:=@Nat.le_of_lt_succ
abbrev xcu:=@List.all_eq_true
abbrev xcv:=@List.map_map
abbrev xcw:=@Array.getD_eq_getD_getElem?
abbrev xcx:=@Ne.symm
abbrev xcy:=@List.filter_cons_of_neg
abbrev xcz:=@List.length_take
abbrev xda:=@List.getElem_mem
abbrev xdb:=@PySem.W.mg_none_of
abbrev xdc:=@Nat.add_sub_cancel_left
abbrev xdd:=@Array.getElem?_eq_getElem
abbrev xde:=@List.mem_append_right
abbrev xdf:=@Nat.lt_of_le_of_lt
abbrev xdg:=@Nat.lt_of_le_of_ne
abbrev xdh:=@Option.map_eq_some_iff
abbrev xdi:=@Nat.le_of_eq
abbrev xdj:=@List.take_of_length_le
abbrev xdk:=@List.getElem?_append_right
abbrev xdl:=@Nat.le_sub_one_of_lt
abbrev xdm:=@List.append_nil
abbrev xdn:=@List.find?_cons
abbrev xdo:=@Nat.le_of_succ_le
abbrev xdp:=@Nat.le_of_add_left_le
abbrev xdq:=@List.take_append_drop
abbrev xdr:=@Array.toList_append
abbrev xds:=@Nat.xor_assoc
abbrev xdt:=@List.getElem?_set_self
abbrev xdu:=@Nat.zero_le
abbrev xdv:=@List.filterMap_cons_some
abbrev xdw:=@List.map_append
abbrev xdx:=@PyProof.Rows.wpS_forRange
abbrev xdy:=@List.mem_filter
abbrev xdz:=@Nat.sub_lt_left_of_lt_add
abbrev xea:=@Int.toNat_natCast
abbrev xeb:=@List.mem_append_left
abbrev xec:=@if_false
abbrev xed:=@PySem.Heap.get?_update_self
abbrev xee:=@Nat.le_antisymm
abbrev xef:=@Nat.add_lt_of_lt_sub'
abbrev xeg:=@List.Nodup.length_le_of_subset
abbrev xeh:=@List.getElem_of_mem
abbrev xei:=@List.mem_flatMap
abbrev xej:=@PySem.wpAny_call_entry
abbrev xek:=@Option.bind_eq_some_iff
abbrev xel:=@PySem.wpAny_newObj_type
abbrev xem:=@List.nodup_cons
abbrev xen:=@List.sum_append
abbrev xeo:=@PySem.wpAny_holding
abbrev xep:=@Nat.zero_add
abbrev xeq:=@List.filterMap_cons_none
abbrev xer:=@Nat.xor_zero
abbrev xes:=@PySem.Heap.SameBut.update
abbrev xet:=@Nat.add_lt_add_left
abbrev xeu:=@if_true
abbrev xev:=@List.length_range
abbrev xew:=@Nat.mod_two_eq_zero_or_one
abbrev xex:=@List.length_set
abbrev xey:=@Nat.sub_lt_sub_right
abbrev xez:=@Nat.min_eq_left
abbrev xfa:=@List.pairwise_cons
abbrev xfb:=@Nat.mul_le_mul_right
abbrev xfc:=@Nat.not_lt_of_le
abbrev xfd:=@Array.toList_push
abbrev xfe:=@PySem.wpAny_mono
abbrev xff:=@Nat.le_sub_of_add_le'
abbrev xfg:=@PySem.W.kia_one
abbrev xfh:=@List.filter_append
abbrev xfi:=@Nat.succ_le_succ
abbrev xfj:=@List.mem_of_mem_take
abbrev xfk:=@List.not_mem_nil
abbrev xfl:=@Nat.pow_le_pow_right
abbrev xfm:=@Array.perm_iff_toList_perm
abbrev xfn:=@Nat.lt_of_succ_lt
abbrev xfo:=@beq_eq_false_iff_ne
abbrev xfp:=@Bool.eq_iff_iff
abbrev xfq:=@List.pairwise_iff_getElem
abbrev xfr:=@List.drop_eq_getElem_cons
abbrev xfs:=@List.length_filter_le
abbrev xft:=@Bool.false_ne_true
abbrev xfu:=@Nat.min_le_right
abbrev xfv:=@Bool.and_eq_true
abbrev xfw:=@List.lookup_cons
abbrev xfx:=@List.getElem?_drop
abbrev xfy:=@Nat.xor_self
abbrev xfz:=@decide_false
abbrev xga:=@PyProof.Rows.wpS_mono
abbrev xgb:=@and_self
abbrev xgc:=@PySem.F.slot_dict_keyiterator_next
abbrev xgd:=@Nat.sub_le_sub_right
abbrev xge:=@List.pairwise_append
abbrev xgf:=@Int.eq_ofNat_of_zero_le
abbrev xgg:=@Nat.sub_pos_of_lt
abbrev xgh:=@Nat.le_succ_of_le
abbrev xgi:=@PySem.wpAny_truthy_bool
abbrev xgj:=@PyProof.Rows.callWith_type1
abbrev xgk:=@List.idxOf_lt_length_of_mem
abbrev xgl:=@Nat.lt_or_ge
abbrev xgm:=@decide_true
abbrev xgn:=@Nat.lt_irrefl
abbrev xgo:=@Nat.lt_of_not_le
abbrev xgp:=@decide_eq_decide
abbrev xgq:=@PySem.Obj.data_mapFields
abbrev xgr:=@List.Perm.append_left
abbrev xgs:=@List.Pairwise.sublist
abbrev xgt:=@Nat.lt_of_lt_of_eq
abbrev xgu:=@List.getElem?_toArray
abbrev xgv:=@List.count_eq_zero
abbrev xgw:=@Nat.sub_le
abbrev xgx:=@PySem.wpAny_typeNameOfWhole_keyiter
abbrev xgy:=@PySem.mem_of_lookup
abbrev xgz:=@Nat.sub_le_sub_left
abbrev xha:=@List.length_drop
abbrev xhb:=@List.nodup_nil
abbrev xhc:=@beq_self_eq_true
abbrev xhd:=@PySem.Heap.get?_update_other
abbrev xhe:=@Nat.testBit_lt_two_pow
abbrev xhf:=@beq_iff_eq
abbrev xhg:=@PyProof.Rows.wpS_modify
abbrev xhh:=@PySem.wpAny_rule
abbrev xhi:=@Nat.ne_of_gt
abbrev xhj:=@Nat.sub_add_cancel
abbrev xhk:=@Int.zero_add
abbrev xhl:=@Nat.zero_xor
abbrev xhm:=@List.length_replicate
abbrev xhn:=@PySem.Obj.isFreed_of_fields
abbrev xho:=@Nat.min_le_left
abbrev xhp:=@List.perm_append_comm
abbrev xhq:=@List.foldl_cons
abbrev xhr:=@List.getElem?_eq_none
abbrev xhs:=@PySem.PassesOwn.never
abbrev xht:=@PySem.wpAny_passesOwn
abbrev xhu:=@List.any_cons
abbrev xhv:=@List.sum_cons
abbrev xhw:=@Nat.lt_succ_of_lt
abbrev xhx:=@List.foldl_append
abbrev xhy:=@List.filter_congr
abbrev xhz:=@List.mem_of_mem_drop
abbrev xia:=@PySem.Around.under_plainId
abbrev xib:=@PySem.wpAny_field
abbrev xic:=@PySem.Heap.size_push
abbrev xid:=@PySem.wpAny_setField
abbrev xie:=@PySem.wpAny_seqItems
abbrev xig:=@List.any_eq_true
abbrev xih:=@List.take_succ_eq_append_getElem
abbrev xii:=@PySem.F.plain_max_loop
abbrev xij:=@PySem.F.called_set
abbrev xik:=@Nat.testBit_two_pow
abbrev xil:=@Nat.pow_le_pow_left
abbrev xim:=@PyProof.Rows.slot_tuple_getitem
abbrev xin:=@List.countP_cons_of_pos
abbrev xio:=@Nat.lt_add_of_pos_right
abbrev xip:=@List.getElem?_cons_succ
abbrev xiq:=@PySem.Paired.length
abbrev xir:=@PyProof.Rows.wpS_get
abbrev xis:=@PySem.Calls.spliced_cons
abbrev xit:=@List.range_succ
abbrev xiu:=@Nat.sub_lt
abbrev xiv:=@List.nil_append
abbrev xiw:=@List.find?_eq_none
abbrev xix:=@Nat.eq_zero_or_pos
abbrev xiy:=@List.count_pos_iff
abbrev xiz:=@Nat.testBit_xor
abbrev xja:=@PySem.wpAny_pyIter_tuple
abbrev xjb:=@PySem.wpAny_Call_Name_kw
abbrev xjc:=@PySem.tupleKind_room_in1
abbrev xjd:=@PySem.wpAny_setField_rec
abbrev xje:=@PySem.codeAny_builtin
abbrev xjf:=@PySem.Calls.callWith_builtin
abbrev xjg:=@List.Perm.append_right
abbrev xjh:=@List.drop_eq_nil_of_le
abbrev xji:=@PySem.sizeLine_eq
abbrev xjj:=@List.nodup_append
abbrev xjk:=@List.count_append
abbrev xjl:=@PySem.wpAny_pyIter_list
abbrev xjm:=@PySem.wpAny_dictEntries
abbrev xjn:=@Nat.lt_trans
abbrev xjo:=@Array.extract_eq_empty_of_le
abbrev xjp:=@List.set_append_right
abbrev xjq:=@Nat.min_eq_right
abbrev xjr:=@Array.toList_reverse
abbrev xjs:=@List.reverse_reverse
abbrev xjt:=@Nat.lt_succ_self
abbrev xju:=@List.cons_append
abbrev xjv:=@List.map_flatMap
abbrev xjw:=@or_false
abbrev xjx:=@PySem.wpAny_askSetting
abbrev xjy:=@Array.getElem?_setIfInBounds_self_of_lt
abbrev xjz:=@Bool.not_true
abbrev xka:=@PySem.wpAny_attempt
abbrev xkb:=@PySem.plainId_quiet
abbrev xkc:=@PySem.wpAny_letGo
abbrev xkd:=@List.map_congr_left
abbrev xke:=@List.mem_of_find?_eq_some
abbrev xkf:=@Int.emod_nonneg
abbrev xkg:=@PySem.wpAny_ite_split
abbrev xkh:=@PySem.F.args_tuple_add_2
abbrev xki:=@Nat.sub_self
abbrev xkj:=@Nat.add_zero
abbrev xkk:=@Nat.succ_mul
abbrev xkl:=@PyProof.Rows.slot_tuple_getitem
abbrev xkm:=@PySem.F.entry_tuple_add
abbrev xkn:=@PySem.F.plainAttrs_dict
abbrev xko:=@List.countP_cons_of_neg
abbrev xkp:=@List.pairwise_singleton
abbrev xkq:=@List.length_eq_zero_iff
abbrev xkr:=@List.eraseIdx_cons_succ
abbrev xks:=@PySem.Calls.spliced_nil
abbrev xkt:=@List.take_sublist
abbrev xku:=@PySem.Obj.cls_mapFields
abbrev xkv:=@Nat.zero_lt_of_lt
abbrev xkw:=@List.drop_sublist
abbrev xkx:=@List.ext_getElem?
abbrev xky:=@List.flatMap_cons
abbrev xkz:=@PySem.wpAny_setState_of
abbrev xla:=@PySem.F.slot_tuple_add
abbrev xlb:=@Array.getElem?_eq_none
abbrev xlc:=@Nat.le_mul_of_pos_left
abbrev xld:=@Nat.le_succ
abbrev xle:=@List.getElem_map
abbrev xlf:=@List.mem_reverse
abbrev xlg:=@PySem.wpAny_isInstance
abbrev xlh:=@PyProof.Rows.wpS_lift
abbrev xli:=@PySem.F.slot_tuple_lt
abbrev xlj:=@List.length_singleton
abbrev xlk:=@PySem.F.slot_dict_get
abbrev xll:=@Array.getElem?_setIfInBounds_ne
abbrev xlm:=@Array.mem_toList_iff
abbrev xln:=@List.length_nil
abbrev xlo:=@PySem.Calls.evalArgs_plain
abbrev xlp:=@Array.toList_extract
abbrev xlq:=@List.count_cons
abbrev xlr:=@List.filter_map
abbrev xls:=@Nat.and_div_two
abbrev xlt:=@Nat.pow_succ
abbrev xlu:=@Bool.decide_and
abbrev xlv:=@List.eq_nil_iff_forall_not_mem
abbrev xlw:=@PySem.wpAny_execs_nil
abbrev xlx:=@PySem.codeAny_mono
abbrev xly:=@List.filterMap_cons
abbrev xlz:=@PySem.wpAny_setEntries_of
abbrev xma:=@List.drop_drop
abbrev xmb:=@PySem.F.slot_dict_setdefault
abbrev xmc:=@List.dropLast_concat_getLast
abbrev xmd:=@PySem.wpAny_fieldsOf
abbrev xme:=@List.zip_cons_cons
abbrev xmf:=@Array.append_empty
abbrev xmg:=@Nat.pos_of_ne_zero
abbrev xmh:=@List.filter_filter
abbrev xmi:=@Nat.one_le_two_pow
abbrev xmj:=@Nat.xor_lt_two_pow
abbrev xmk:=@List.sum_singleton
abbrev xml:=@List.getElem_idxOf
abbrev xmm:=@List.set_cons_succ
abbrev xmn:=@of_decide_eq_false
abbrev xmo:=@Int.fdiv_eq_ediv_of_nonneg
abbrev xmp:=@PySem.W.mg_of
abbrev xmq:=@Array.getElem?_eq_some_iff
abbrev xmr:=@List.perm_ext_iff_of_nodup
abbrev xms:=@Nat.lt_succ_of_le
abbrev xmt:=@List.mapM_toArray
abbrev xmu:=@List.getElem_drop
abbrev xmv:=@List.getElem_take
abbrev xmw:=@List.Pairwise.imp
abbrev xmx:=@PySem.wpAny_pyIter_slot
abbrev xmy:=@decide_eq_true_eq
abbrev xmz:=@Nat.mod_lt
abbrev xna:=@List.map_nil
abbrev xnb:=@Option.getD_none
abbrev xnc:=@List.ext_getElem
abbrev xnd:=@Nat.max_eq_right
abbrev xne:=@List.perm_middle
abbrev xnf:=@List.nodup_range
abbrev xng:=@Nat.zero_testBit
abbrev xnh:=@map_eq_pure_bind
abbrev xni:=@List.of_mem_zip
abbrev xnj:=@List.forIn_cons
abbrev xnk:=@Nat.le_add_left
abbrev xnl:=@List.find?_some
abbrev xnm:=@Nat.two_pow_pos
abbrev xnn:=@Nat.two_pos
abbrev xno:=@List.map_id
abbrev xnp:=@Bool.and_false
abbrev xnq:=@List.Perm.refl
set_option maxHeartbeats 0
namespace L2
open PySem PySem.Spec PyProof.Rows
noncomputable abbrev Key:=Sum Int Str
def keyIs:Key->Value->Bool
 | .inl k,v=>Value.isInt k v
 | .inr x,v=>Value.isStrOf x v
def keyH (w:World):Key->Int
 | .inl k=>hashInt k
 | .inr x=>hashStr w x
theorem zbh:∀{k:Key} {v:Value},keyIs k v=true->(∃i t,k=Sum.inl i/\v=Value.int i t)\/(∃x t,k=Sum.inr x/\v=Value.str x t)
 | .inl i,v,h=>by
  obtain⟨t,e⟩:=Value.isInt_shape (k:=i) (v:=v) h;exact .inl ⟨i,t,rfl,e⟩
 | .inr x,v,h=>by
  obtain⟨t,e⟩:=Value.isStrOf_shape (x:=x) (v:=v) h;exact .inr ⟨x,t,rfl,e⟩
theorem zzw (i:Int)(t:Tok):keyIs (.inl i) (.int i t)=true:=by simp[keyIs,Value.isInt]
theorem zzv (x:Str)(t:Tok):keyIs (.inr x) (.str x t)=true:=by simp[keyIs,Value.isStrOf]
theorem zbqe (a b:Int):decide ((Sum.inl a:Key)=Sum.inl b)=(a==b):=by
 by_cases e:a=b
 ·subst e;simp
 ·have h:¬ (Sum.inl a:Key)=Sum.inl b:=λq=>e (Sum.inl.inj q)
  rw[xbz h];exact(xfo.mpr e).symm
theorem zbqb (a b:Str):decide ((Sum.inr a:Key)=Sum.inr b)=decide (a=b):=by
 by_cases e:a=b
 ·subst e;simp
 ·have h:¬ (Sum.inr a:Key)=Sum.inr b:=λq=>e (Sum.inr.inj q)
  rw[xbz h,xbz e]
theorem zbqd (a:Int)(b:Str):decide ((Sum.inl a:Key)=Sum.inr b)=false:=xbz (λq=>nomatch q)
theorem zbqc (a:Str)(b:Int):decide ((Sum.inr a:Key)=Sum.inl b)=false:=xbz (λq=>nomatch q)
def mixKind (prog:Program) (w:World):PySem.KeyKind prog w Key where
 is:=keyIs
 hash:=keyH w
 inj:=λv a b ha hb=>by
  rcases zbh ha with⟨i,t,rfl,rfl⟩ | ⟨x,t,rfl,rfl⟩
  ·rcases zbh hb with⟨j,u,rfl,e⟩ | ⟨y,u,rfl,e⟩
   ·injection e with e1 _;rw[e1]
   ·exact nomatch e
  ·rcases zbh hb with⟨j,u,rfl,e⟩ | ⟨y,u,rfl,e⟩
   ·exact nomatch e
   ·injection e with e1 _;rw[e1]
 byValue:=λk v h=>by
  rcases zbh h with⟨i,t,rfl,rfl⟩ | ⟨x,t,rfl,rfl⟩<;>rfl
 pyHash:=λhv h=>by
  rcases zbh hv with⟨i,t,rfl,rfl⟩ | ⟨x,t,rfl,rfl⟩
  ·exact wpAny_pyHash_int h
  ·exact wpAny_pyHash_str h
 eqBool:=λhu hv h=>by
  rcases zbh hu with⟨i,t,rfl,rfl⟩ | ⟨x,t,rfl,rfl⟩
  ·rcases zbh hv with⟨j,u,rfl,rfl⟩ | ⟨y,u,rfl,rfl⟩
   ·rw[zbqe] at h;exact wpAny_eqBool_int h
   ·rw[zbqd] at h;exact SeqAt.EqAt.int_str i t y u _ _ _ _ h
  ·rcases zbh hv with⟨j,u,rfl,rfl⟩ | ⟨y,u,rfl,rfl⟩
   ·rw[zbqc] at h;exact SeqAt.EqAt.str_int x t j u _ _ _ _ h
   ·rw[zbqb] at h;exact wpAny_eqBool_str h
 «strs»:=λk x t v h=>by
  rcases zbh h with⟨i,u,rfl,e⟩ | ⟨y,u,rfl,e⟩
  ·exact nomatch e
  ·injection e with e1 _
   subst e1;cases v<;>rfl
theorem zsm (prog:Program)(w:World)(i:Int)(t:Tok):(mixKind prog w).is (.inl i) (.int i t)=true:=zzw i t
theorem zsl (prog:Program)(w:World)(x:Str)(t:Tok):(mixKind prog w).is (.inr x) (.str x t)=true:=zzv x t
set_option genInjectivity true in
inductive V where
 | non | bl (b:Bool) | int (i:Int) | str (x:Str) | byt (b:Array UInt8) | flt (b:UInt64) | ref (a:Addr) | ty (n:String)
 deriving DecidableEq
noncomputable def RelV:V->Value->Prop
 | .non,u=>u=Value.none
 | .bl b,u=>u=Value.bool b
 | .int i,u=>∃t,u=Value.int i t
 | .str x,u=>∃t,u=Value.str x t
 | .byt b,u=>∃t,u=Value.bytes b t
 | .flt b,u=>∃t,u=Value.float b t
 | .ref a,u=>u=Value.ref a
 | .ty n,u=>u=Value.type n
abbrev Vals:List V->List Value->Prop:=Paired RelV
theorem Vals.length   (r:Vals xs us):xs.length=us.length:=xiq r
theorem Vals.get:∀{xs:List V} {us:List Value} {i:Nat} {x:V},Vals xs us->xs[i]?=some x->∃u,us[i]?=some u/\RelV x u
 | _,_,_,_,.nil,e=>by simp at e
 | _,_,0,_,.cons r _,e=>by simp at e;subst e;exact⟨_,rfl,r⟩
 | _,_,i+1,x,.cons _ t,e=>by
  obtain⟨u,h1,h2⟩:=Vals.get (i:=i) (x:=x) t (by simpa using e);exact⟨u,by simpa using h1,h2⟩
theorem Vals.set   (r:RelV x u):∀{xs:List V} {us:List Value} (i:Nat),Vals xs us->Vals (xs.set i x) (us.set i u)
 | _,_,_,.nil=>.nil
 | _,_,0,.cons _ t=>.cons r t
 | _,_,i+1,.cons q t=>.cons q (Vals.set r i t)
theorem Vals.append:∀{xs ys:List V} {us ws:List Value},Vals xs us->Vals ys ws->Vals (xs++ys) (us++ws)
 | _,_,_,_,.nil,s=>s
 | _,_,_,_,.cons r t,s=>.cons r (Vals.append t s)
theorem Vals.take:∀{xs:List V} {us:List Value} (n:Nat),Vals xs us->Vals (xs.take n) (us.take n)
 | _,_,0,_=>.nil
 | _,_,_+1,.nil=>.nil
 | _,_,n+1,.cons r t=>.cons r (Vals.take n t)
theorem Vals.drop:∀{xs:List V} {us:List Value} (n:Nat),Vals xs us->Vals (xs.drop n) (us.drop n)
 | _,_,0,r=>r
 | _,_,_+1,.nil=>.nil
 | _,_,n+1,.cons _ t=>Vals.drop n t
def RelO:Option V->Option Value->Prop
 | some v,some u=>RelV v u
 | none,none=>True
 | _,_=>False
def KV {κ:Type}:List (κ×V)->List (κ×Value)->Prop:=Paired λ(p:κ×V) (q:κ×Value)=>p.1=q.1/\RelV p.2 q.2
def kV:Key->V
 | .inl i=>.int i
 | .inr x=>.str x
set_option genInjectivity true in
inductive HO where
 /-- a list -/
 | lst (xs:List V)
 /-- a tuple (never changes) -/
 | tup (xs:List V)
 /-- a dict whose keys are ints and texts;one whose keys are tuples of ints and texts (the empty one is both) -/
 | dK (kvs:List (Key×V)) | dT (kvs:List (List Key×V))
 /-- a set of ints: its members,its size -/
 | set (S:Int->Bool) (n:Nat)
 /-- an instance of the class at C,its dict at dx,its attributes -/
 | ins (C dx:Addr) (fs:List (Str×V))
 /-- the dict of the instance at x -/
 | own (x:Addr)
 /-- the dict of an exception -/
 | xd (fs:List (Str×V))
 /-- a bound method,f of x -/
 | met (f x:Addr)
 /-- a range object lo,lo+1,.. below hi -/
 | rng (lo hi:Int)
 /-- a thing that is known to the object (the script;a dict while a loop walks it): read,never written while it is so -/
 | frz (o:Obj) (u:HO)
 /-- a code object's table -/
 | tbl (ps:Array Value)
 /-- any other thing,by what is true of its one object (a def of one's own: SetO a S n:=HO.ext λh=>..) -/
 | ext (φ:Heap->Prop)
noncomputable abbrev Hp:=Addr->Option HO
def upd (H:Hp) (a:Addr) (o:HO):Hp:=λb=>if b=a then some o else H b
theorem zw   :upd H a o a=some o:=by unfold upd;rw[if_pos rfl]
theorem zx    (h:b≠a):upd H a o b=H b:=by unfold upd;rw[if_neg h]
theorem zbtc {H:Hp}{a b:Addr}{o u:HO}(h:H a=some o)(h':H b=some u)(d:o≠u):a≠b:=by
 intro e;subst e;rw[h] at h';exact d (xcs h')
theorem zn {H:Hp}{a b:Addr}{o:HO}(h:H a=some o)(h':H b=none):a≠b:=by
 intro e;subst e;rw[h] at h';cases h'
section
variable (P:Program)(w:World)
def ObjOk (H:Hp) (h:Heap) (a:Addr):HO->Prop
 | .lst xs=>xs.length<=sizeLine/\∃(its:List Value) (n:Nat),Vals xs its/\h.get? a=some { cls:=.type "list", data:=.seq its.toArray n }
 | .tup xs=>xs.length<=sizeLine/\∃its:List Value,Vals xs its/\IsTup h a its.toArray
 | .dK kvs=>kvs.length<=sizeLine/\(a==sysModules)=false/\∃vs,KV kvs vs/\h.DictOf (mixKind P w) a vs
 | .dT kvs=>kvs.length<=sizeLine/\(a==sysModules)=false/\∃xs:List (List Key×Addr×Value),
  Paired (λ(p:List Key×V) (q:List Key×Addr×Value)=>p.1=q.1/\H q.2.1=some (.tup (p.1.map kV))/\RelV p.2 q.2.2) kvs xs /\
  ∃o es ep,h.get? a=some o/\o.ExactDict/\o.data=.dict es ep/\es.toList=xs.map (entryOfKey (tupleKind (mixKind P w)))/\(xs.map (·.1)).Nodup
 | .set S n=>h.SetOf (intKind P w) a S n
 | .ins C dx fs=>H dx=some (.own a)/\fs.length<=1000/\dx≠a/\h.get? a=some (W.instObj C dx) /\
  ∃mA,h.Ns1 dx mA/\(∀f,RelO (fs.lookup f) (mA f))/\PySem.Within mA (fs.map (·.1))
 | .own _=>∃o,h.get? a=some o
 | .xd fs=>∃mA,h.Ns1 a mA/\∀f,RelO (fs.lookup f) (mA f)
 | .rng lo hi=>∃ t u v,h.get? a=some { cls:=.type "range", data:=.fields #[.int lo t,.int hi u,.int 1 v] }
 | .frz o u=>h.get? a=some o/\ObjOk H h a u
 | .tbl ps=>h.get? a=some {cls:=.none,data:=.fields ps}
 | .met f x=>h.get? a=some (W.methodObj (.ref f) (.ref x))
 | .ext φ=>φ h/\(∃o,h.get? a=some o)/\∀h1 h2:Heap,φ h1->(∀o,h1.get? a=some o->h2.get? a=some o)->φ h2
def HOk (H:Hp) (h:Heap):Prop:=∀a o,H a=some o->ObjOk P w H h a o
end
section
theorem ObjOk.lt (x:ObjOk P w H h a o):a < h.objs.size:=by
 cases o with
 | lst xs=>obtain⟨_,_,_,_,e⟩:=x;exact xbr e
 | tup xs=>obtain⟨_,_,_,p⟩:=x;exact p.lt
 | dK kvs=>obtain⟨_,_,_,_,o,_,_,e,_⟩:=x;exact xbr e
 | dT kvs=>obtain⟨_,_,_,_,o,_,_,e,_⟩:=x;exact xbr e
 | set S n=>obtain⟨o,_,_,_,e,_⟩:=x;exact xbr e
 | ins C dx fs=>obtain⟨_,_,_,e,_⟩:=x;exact xbr e
 | own y=>obtain⟨_,e⟩:=x;exact xbr e
 | xd fs=>obtain⟨_,⟨_,_,_,e,_⟩,_⟩:=x;exact xbr e
 | rng lo hi=>obtain⟨_,_,_,e⟩:=x;exact xbr e
 | frz ob u=>obtain⟨e,_⟩:=x;exact xbr e
 | tbl ps=>exact xbr (show h.get? a=some _ from x)
 | met f y=>exact xbr (show h.get? a=some _ from x)
 | ext φ=>obtain⟨_,⟨_,e⟩,_⟩:=x;exact xbr e
section
variable {a:Addr}
theorem Paired.mapP {α β:Type}{F G:α->β->Prop}:∀{l₁:List α} {l₂:List β},Paired F l₁ l₂->(∀a b,F a b->G a b)->Paired G l₁ l₂
 | _,_,.nil,_=>.nil
 | _,_,.cons r t,f=>.cons (f _ _ r) (Paired.mapP t f)
end
theorem ObjOk.stay {h:Heap}{h':Heap}(x:ObjOk P w H h a o)(k:∀b u,(b=a\/H b=some (.own a))->h.get? b=some u->h'.get? b=some u)
  (ho:∀b,H b=some (.own a)->H' b=some (.own a))(ht:∀b xs,H b=some (.tup xs)->H' b=some (.tup xs)):ObjOk P w H' h' a o:=by
 induction o with
 | lst xs=>obtain⟨z,its,n,r,e⟩:=x;exact⟨z,its,n,r,k _ _ (.inl rfl) e⟩
 | tup xs=>obtain⟨z,its,r,ob,e,c⟩:=x;exact⟨z,its,r,ob,k _ _ (.inl rfl) e,c⟩
 | dK kvs=>obtain⟨z,y,vs,r,ob,es,ep,e,c⟩:=x;exact⟨z,y,vs,r,ob,es,ep,k _ _ (.inl rfl) e,c⟩
 | dT kvs =>
  obtain⟨z,y,xs,r,ob,es,ep,e,c⟩:=x;exact⟨z,y,xs,Paired.mapP r λp q z=>⟨z.1,ht _ _ z.2.1,z.2.2⟩,ob,es,ep,k _ _ (.inl rfl) e,c⟩
 | set S n=>obtain⟨ob,es,ep,t,e,c⟩:=x;exact⟨ob,es,ep,t,k _ _ (.inl rfl) e,c⟩
 | ins C dx fs =>
  obtain⟨d,z,ne,e,mA,⟨od,es,ep,e2,c⟩,r⟩:=x;exact⟨ho _ d,z,ne,k _ _ (.inl rfl) e,mA,⟨od,es,ep,k _ _ (.inr d) e2,c⟩,r⟩
 | own y=>obtain⟨ob,e⟩:=x;exact⟨ob,k _ _ (.inl rfl) e⟩
 | xd fs=>obtain⟨mA,⟨od,es,ep,e,c⟩,r⟩:=x;exact⟨mA,⟨od,es,ep,k _ _ (.inl rfl) e,c⟩,r⟩
 | rng lo hi=>obtain⟨t,u,v,e⟩:=x;exact⟨t,u,v,k _ _ (.inl rfl) e⟩
 | frz ob u ih=>obtain⟨e,q⟩:=x;exact⟨k _ _ (.inl rfl) e,ih q⟩
 | tbl ps =>
  have e:h.get? a=some {cls:=.none,data:=.fields ps}:=x;show h'.get? a=some {cls:=.none,data:=.fields ps};exact k a _ (.inl rfl) e
 | met f y =>
  have e:h.get? a=some (W.methodObj (.ref f) (.ref y)):=x;show h'.get? a=some (W.methodObj (.ref f) (.ref y));exact k a _ (.inl rfl) e
 | ext φ=>obtain⟨p,⟨o,e⟩,au⟩:=x;exact⟨au _ _ p λo q=>k _ _ (.inl rfl) q,⟨o,k _ _ (.inl rfl) e⟩,au⟩
theorem HOk.lt (x:HOk P w H h)(e:H a=some o):a < h.objs.size:=(x a o e).lt
theorem HOk.fresh (x:HOk P w H h)(e:h.objs.size<=a):H a=none:=by
 cases q:H a with
 | none=>rfl
 | some u=>exact absurd (xbk (x.lt q) e) (xgn _)
theorem HOk.kept {h':Heap}(x:HOk P w H h)(k:∀b u,h.get? b=some u->h'.get? b=some u):HOk P w H h':=λa o e =>
 (x a o e).stay (λb u _ q=>k b u q) (λ_ q=>q) λ_ _ q=>q
section
variable {P:Program}{w:World}{H:Hp}{h:Heap}{h':Heap}{a:Addr}{o:HO}
theorem HOk.laid (x:HOk P w H h)(k:∀b u,h.get? b=some u->h'.get? b=some u)(hp:h.objs.size<=a)(new:ObjOk P w (upd H a o) h' a o):HOk P w (upd H a o) h':=λb u e=>by
 have hn:=x.fresh hp;by_cases hb:b=a
 ·subst hb;rw[zw] at e;cases e;exact new
 ·rw[zx hb] at e;exact(x b u e).stay (λc v _ q=>k c v q) (λc q=>by rw[zx (zn q hn)];exact q) λc xs q=>by rw[zx (zn q hn)];exact q
end
end
def Rd (H:Hp) (a:Addr) (u:HO):Prop:=H a=some u\/∃o,H a=some (.frz o u)
theorem Rd.ok       (r:Rd H a u)(x:HOk P w H h):ObjOk P w H h a u:=by
 rcases r with r | ⟨o,r⟩
 ·exact x a u r
 ·obtain⟨_,q⟩:=x a _ r;exact q
noncomputable def Mut:Option HO->Prop
 | some (.lst _)=>True
 | some (.dK _)=>True
 | some (.dT _)=>True
 | some (.set _ _)=>True
 | some (.ins _ _ _)=>True
 | some (.ext _)=>True
 | _=>False
section
theorem HOk.write {h':Heap}(ok:HOk P w H h)(mu:Mut (H x))(he:e=x\/H e=some (.own x))(k:∀b u,b≠e->h.get? b=some u->h'.get? b=some u)(heo:∃u,h'.get? e=some u)
  (new:ObjOk P w (upd H x o') h' x o'):HOk P w (upd H x o') h':=λb u q=>by
 have nown:∀c y,H c=some (.own y)->c≠x:=λc y r z=>by subst z;rw[r] at mu;exact mu
 have ntup:∀c xs,H c=some (.tup xs)->c≠x:=λc xs r z=>by subst z;rw[r] at mu;exact mu
 by_cases hb:b=x
 ·subst hb;rw[zw] at q;cases q;exact new
 ·rw[zx hb] at q;by_cases hbe:b=e
  ·have q':H b=some (.own x):=by
    rcases he with z | z
    ·exact absurd (hbe.trans z) hb
    ·rw[hbe];exact z
   rw[q] at q';cases q'
   obtain⟨v,hv⟩:=heo;exact⟨v,by rw[hbe];exact hv⟩
  ·refine(ok b u q).stay (λc v hc r=>k c v ?_ r) (λc r=>by rw[zx (nown c b r)];exact r) λc xs r=>by rw[zx (ntup c xs r)];exact r
   rcases hc with rfl | hc
   ·exact hbe
   ·rintro rfl;rcases he with z | z
    ·exact nown c b hc z
    ·rw[hc] at z;cases z;exact hb rfl
end
structure Un (fs ex:List Addr) (H H':Hp) (h h':Heap):Prop where
 keep:∀b o,h.get? b=some o->H b=none->b∉fs->b∉ex->h'.get? b=some o
 slot:∀b o,h.get? b=some o->H b=none->b∈fs->b∉ex->∃sl,h'.get? b=some {o with slots:=sl}
 free:∀b o,h.get? b=some o->H b=none->b∉ex->H' b=none
 there:∀b o,h.get? b=some o->b∉ex->∃o',h'.get? b=some o'
 tups:∀b xs,H b=some (.tup xs)->H' b=some (.tup xs)
 frzs:∀b o u,H b=some (.frz o u)->H' b=some (.frz o u)
 tbls:∀b ps,H b=some (.tbl ps)->∃more,H' b=some (.tbl (ps++more))
section
theorem Un.any (u:Un fs ex H H1 h h1)   (q:h.get? b=some ob)(n:H b=none)(hx:b∉ex):∃sl,h1.get? b=some {ob with slots:=sl}:=by
 by_cases hb:b∈fs
 ·exact u.slot b ob q n hb hx
 ·exact⟨ob.slots,u.keep b ob q n hb hx⟩
theorem Un.kept {h:Heap}{h':Heap}(k:∀b u,h.get? b=some u->h'.get? b=some u):Un fs ex H H h h' :=
 ⟨λb ob q _ _ _=>k b ob q,λb ob q _ _ _=>⟨ob.slots,k b ob q⟩,λ_ _ _ n _=>n,λb ob q _=>⟨ob,k b ob q⟩,λ_ _ q=>q,λ_ _ _ q=>q,λ_ ps q=>⟨#[],by rw[q];simp⟩⟩
theorem Un.refl:Un fs ex H H h h:=Un.kept λ_ _ q=>q
section
variable {fs:List Addr}{ex:List Addr}{H:Hp}{h:Heap}{h':Heap}{a:Addr}{o:HO}
theorem Un.laid (k:∀b u,h.get? b=some u->h'.get? b=some u)(hp:h.objs.size<=a)(hn:H a=none):Un fs ex H (upd H a o) h h' where
 keep:=λb u q _ _ _=>k b u q
 slot:=λb u q _ _ _=>⟨u.slots,k b u q⟩
 free:=λb u q n _=>by rw[zx (xce (xbk (xbr q) hp))];exact n
 there:=λb u q _=>⟨u,k b u q⟩
 tups:=λb xs q=>by rw[zx (zn q hn)];exact q
 frzs:=λb u xs q=>by rw[zx (zn q hn)];exact q
 tbls:=λb ps q=>⟨#[],by rw[zx (zn q hn),q];simp⟩
end
theorem Un.write {h:Heap}{h':Heap}(mu:Mut (H x))(he:e=x\/H e=some (.own x))(k:∀b u,b≠e->h.get? b=some u->h'.get? b=some u)(heo:∃u,h'.get? e=some u):Un fs ex H (upd H x o) h h':=by
 have hx:∀b,H b=none->b≠x:=λb n z=>by subst z;rw[n] at mu;exact mu
 have hb:∀b,H b=none->b≠e:=λb n z=>by
  subst z;rcases he with r | r
  ·exact hx b n r
  ·rw[n] at r;cases r
 have hm:∀b u,H b=some u->¬ Mut (some u)->b≠x:=λb u q nm z=>by subst z;rw[q] at mu;exact nm mu
 refine⟨λb u q n _ _=>k b u (hb b n) q,λb u q n _ _=>⟨u.slots,k b u (hb b n) q⟩,λb u q n _=>by rw[zx (hx b n)];exact n,λb u q _=>?_,
  λb xs q=>by rw[zx (hm b _ q λz=>z)];exact q,λb u xs q=>by rw[zx (hm b _ q λz=>z)];exact q,λb ps q=>⟨#[],by rw[zx (hm b _ q λz=>z),q];simp⟩⟩
 by_cases hbe:b=e
 ·subst hbe;exact heo
 ·exact⟨u,k b u hbe q⟩
end
def trk (h:Heap) (H:Hp):List Addr:=(List.range h.objs.size).filter λa=>(H a).isSome
def hidT (h:Heap) (H:Hp):Heap:=W.hideAll h (trk h H)
theorem zbad (h:Heap)(H:Hp):(hidT h H).objs.size=h.objs.size:=W.hideAll_size _ _
theorem zbfx {h:Heap}    (e:h.get? b=some o)(n:H b=none):(hidT h H).get? b=some o :=
 W.hideAll_get _ e λhm=>by
  have q:(H b).isSome=true:=(xdy.mp hm).2;rw[n] at q;simp at q
theorem zbkc     (e:(hidT h H).get? b=some o):h.get? b=some o/\H b=none:=by
 have e':h.get? b=some o:=W.of_hideAll (trk h H) e;refine⟨e',?_⟩;cases q:H b with
 | none=>rfl
 | some x =>
  have hm:b∈trk h H:=xdy.mpr ⟨xby.mpr (xbr e'),by simp[q]⟩;have z:(hidT h H).get? b=none:=W.hideAll_none (trk h H) hm;rw[z] at e;cases e
structure Mod (K:Fg) (mg:Str->Option Value) (base:Heap):Prop where
 kin:K.In base
 glob:base.Ns mainGlobals mg
 blt:∃ mb,base.Ns builtinsNs mb/\∀ x:Str,x≠"__name__"->mb x=bootBuiltins x
 nolimit:base.NoLimit
structure Cx where
 prog:Program
 w:World
 K:Fg
 mg:Str->Option Value
 base:Heap
 A:Around
 N:List Str
 s₀:Shared
 H₀:Hp
 env:Env
 outer:List Env
 stack:List Env
 ex:List Addr
 fn:Str->Bool
 calm:Bool
 pn:List (Addr×Obj)
 xe:Value->Shared->Prop
noncomputable def frs (l:List Env):List Addr:=l.filterMap (·.frame)
abbrev Cx.fs (X:Cx):List Addr:=frs X.outer
noncomputable def Vis (sc:Scope) (x:Str):Prop:=sc.names.lookup x=some .local\/sc.names.lookup x=some .cell\/sc.names.lookup x=some .free
noncomputable def Loc (sc:Scope) (x:Str):Prop:=sc.names.lookup x=some .local\/sc.names.lookup x=some .cell
noncomputable def Look (env:Env) (h:Heap) (m:Str->Option Value) (x:Str) (u:Value):Prop :=
 (env.kindOf x=some .local/\m x=some u)\/((env.kindOf x=some .cell\/env.kindOf x=some .free)/\∃c,env.cells.lookup x=some c/\h.IsCell c (some u))
structure Cx.Ok (X:Cx):Prop where
 mod:Mod X.K X.mg X.base
 kind:X.env.scope.kind=.function
 glob:X.env.globals=mainGlobals
 blt:X.env.builtins=builtinsNs
 above:X.s₀.heap.objs.size<=X.env.locals
 inj:∀x y c,X.env.cells.lookup x=some c->X.env.cells.lookup y=some c->x=y
 has:∀x,(X.env.kindOf x=some .cell\/X.env.kindOf x=some .free)->∃c,X.env.cells.lookup x=some c
 cab:∀x c,X.fn x=true->X.env.cells.lookup x=some c->X.s₀.heap.objs.size<=c
 hd:X.calm=true->X.A.handled=none
 frames:X.A.frames=some X.stack
 stk:X.stack=X.outer\/(X.stack=X.env::X.outer/\X.env.frame=some X.env.locals)
 exf:∀b∈X.ex,b≠X.env.locals/\∀x c,X.env.cells.lookup x=some c->c≠b
 bs:∀b o,X.base.get? b=some o->X.s₀.heap.get? b=some o/\X.H₀ b=none
 bsz:X.base.objs.size<=X.s₀.heap.objs.size
 noex:∀b o,X.base.get? b=some o->b∉X.ex
 exfs:∀b∈X.ex,b∉X.fs
 funs:X.s₀.heap.FunFrames X.base X.outer
 frf:∀b∈X.fs,X.H₀ b=none
def Hnd (A:Around) (H:Hp):Prop:=∀v,A.handled=some v->∃a o,v=.ref a/\H a=some (.frz o (.ext λ_=>True))/\∃vs,o.data=.fields vs/\vs[2]?=some .none
theorem Hnd.map   (h:Hnd A H)(f:∀b o u,H b=some (.frz o u)->H' b=some (.frz o u)):Hnd A H':=λv e=>let ⟨a,o,h1,h2,h3⟩:=h v e;⟨a,o,h1,f _ _ _ h2,h3⟩
theorem Hnd.none {A:Around}  (h:A.handled=.none):Hnd A H:=λv e=>by rw[h] at e;cases e
structure Inv (X:Cx) (aU:List (Addr×Obj)) (σ:List (Option V)) (H:Hp) (s:Shared):Prop where
 ok:X.Ok
 os:s.os=X.s₀.os
 bare:AllBare s.gens
 base:Un X.fs X.ex X.H₀ H X.s₀.heap s.heap
 loc:∃m,s.heap.Ns X.env.locals m/\∀(i:Nat) (x:Str) (v:V),X.N[i]?=some x->σ[i]?=some (some v)->Vis X.env.scope x->∃u,RelV v u/\Look X.env s.heap m x u
 cell:∀x c,X.env.cells.lookup x=some c->∃v,s.heap.IsCell c v
 free:H X.env.locals=none
 freeC:∀x c,X.env.cells.lookup x=some c->H c=none
 pin:∀p∈X.pn++aU,s.heap.get? p.1=some p.2/\H p.1=none/\p.1≠X.env.locals/\p.1∉X.fs/\∀v,p.2.data≠.cell v
 hok:HOk X.prog X.w H s.heap
 len:σ.length=X.N.length
 hnd:Hnd X.A H
section
theorem Cx.Ok.nofr {X:Cx}(ok:X.Ok)   (e:X.base.get? b=some o):b∉X.fs:=λhb=>by
 have:=(ok.funs.mem hb).1;rw[e] at this;cases this
theorem Inv.bs (I:Inv X aU σ H s):∀b o,X.base.get? b=some o->s.heap.get? b=some o/\H b=none:=λb o e =>
 ⟨I.base.keep b o (I.ok.bs b o e).1 (I.ok.bs b o e).2 (I.ok.nofr e) (I.ok.noex b o e),I.base.free b o (I.ok.bs b o e).1 (I.ok.bs b o e).2 (I.ok.noex b o e)⟩
theorem Inv.bk (I:Inv X aU σ H s):∀b o,X.base.get? b=some o->s.heap.get? b=some o:=λb o e=>(I.bs b o e).1
theorem Inv.mod (I:Inv X aU σ H s):Mod X.K X.mg X.base:=I.ok.mod
theorem Inv.kIn (I:Inv X aU σ H s):X.K.In s.heap:=I.ok.mod.kin.keeps I.bk
theorem Inv.lt (I:Inv X aU σ H s):X.env.locals < s.heap.objs.size:=let ⟨_,hn,_⟩:=I.loc;hn.lt
theorem Inv.sz (I:Inv X aU σ H s):X.s₀.heap.objs.size<=s.heap.objs.size:=xbc I.ok.above (xca I.lt)
theorem Inv.nofs (I:Inv X aU σ H s)  (h:s.heap.objs.size<=a):a∉X.fs:=λhb=>by
 obtain⟨_,o,ho,_⟩:=I.ok.funs.mem hb;exact absurd (xbk (xbr ho) (xbc I.sz h)) (xgn _)
theorem Inv.cne (I:Inv X aU σ H s):∀x c,X.env.cells.lookup x=some c->c≠X.env.locals:=λx c e z=>by
 obtain⟨v,o,ho,hd⟩:=I.cell x c e;obtain⟨m,⟨o',es,ep,ho',hd',_⟩,_⟩:=I.loc;rw[z,ho'] at ho;cases ho;rw[hd'] at hd;cases hd
theorem Inv.funs (I:Inv X aU σ H s):s.heap.FunFrames X.base X.outer:=by
 have all:∀(l:List Env),(∀b∈frs l,b∈X.fs)->X.s₀.heap.FunFrames X.base l->s.heap.FunFrames X.base l:=by
  intro l
  induction l with
  | nil=>intro _ _;trivial
  | cons env r ih =>
   intro hs hl;obtain⟨hk,⟨L,o,hf,hn,ho,hd⟩,hr⟩:=hl;have hL:L∈X.fs:=hs L (by unfold frs;rw[xly,hf];exact xbq);obtain⟨sl,e⟩:=I.base.slot L o ho (I.ok.frf L hL) hL λz=>I.ok.exfs L z hL
   exact⟨hk,⟨L,_,hf,hn,e,hd⟩,ih (λb hb=>hs b (by unfold frs;rw[xly,hf];exact xbo _ hb)) hr⟩
 exact all X.outer (λ_ hb=>hb) I.ok.funs
theorem Inv.stack (I:Inv X aU σ H s):s.heap.FunFrames X.base X.stack:=by
 rcases I.ok.stk with e | ⟨e,hf⟩
 ·rw[e];exact I.funs
 ·rw[e];obtain⟨m,hn,_⟩:=I.loc;refine .cons (by rw[I.ok.kind];decide) hf hn ?_ I.funs;exact Heap.get?_none_of_le (xbc I.ok.bsz I.ok.above)
theorem Inv.stkSub (I:Inv X aU σ H s):∀b∈frs X.stack,b∈X.env.locals::X.fs:=λb hb=>by
 rcases I.ok.stk with e | ⟨e,hf⟩
 ·rw[e] at hb;exact xbo _ hb
 ·rw[e] at hb;unfold frs at hb;rw[xly,hf] at hb;exact hb
theorem Inv.stkFree (I:Inv X aU σ H s):∀b∈frs X.stack,H b=none:=λb hb=>by
 rcases xbm.mp (I.stkSub b hb) with e | hb
 ·rw[e];exact I.free
 ·obtain⟨_,o,ho,_⟩:=I.ok.funs.mem hb;exact I.base.free b o ho (I.ok.frf b hb) λz=>I.ok.exfs b z hb
section
variable {X:Cx}{aU:List (Addr×Obj)}{σ:List (Option V)}{H:Hp}{H':Hp}{s:Shared}{h':Heap}
theorem Inv.step {g':Array GenState}{t':Nat}{d':Drawn}{ch:List Addr}(I:Inv X aU σ H s)
  (hch:∀b∈ch,(b∈X.ex\/X.s₀.heap.objs.size<=b)/\b≠X.env.locals/\(∀x c,X.env.cells.lookup x=some c->c≠b)/\∀p∈X.pn++aU,p.1≠b)
  (keep:∀b o,b≠X.env.locals->b∉X.fs->b∉ch->s.heap.get? b=some o->H b=none->h'.get? b=some o)
  (slot:∀b o,b≠X.env.locals->b∈X.fs->b∉ch->s.heap.get? b=some o->H b=none->∃sl,h'.get? b=some {o with slots:=sl})(free:∀b o,b∉ch->s.heap.get? b=some o->H b=none->H' b=none)
  (there:∀b o,b∉ch->s.heap.get? b=some o->∃o',h'.get? b=some o')
  (tups:∀b xs,H b=some (.tup xs)->H' b=some (.tup xs))(frzs:∀b o u,H b=some (.frz o u)->H' b=some (.frz o u))(tbls:∀b ps,H b=some (.tbl ps)->∃more,H' b=some (.tbl (ps++more)))
  (ns:∀m,s.heap.Ns X.env.locals m->h'.Ns X.env.locals m)(hok:HOk X.prog X.w H' h')(hg:AllBare g') :
  Inv X aU σ H' {s with heap:=h',gens:=g',drawn:=d',toks:=t'}:=by
 have neL:∀b o,X.s₀.heap.get? b=some o->b≠X.env.locals:=λb o e=>xce (xbk (xbr e) I.ok.above)
 have neC:∀b o,X.s₀.heap.get? b=some o->b∉X.ex->b∉ch:=λb o e hx hb=>by
  rcases(hch b hb).1 with z | z
  ·exact hx z
  ·exact absurd (xbk (xbr e) z) (xgn _)
 have cellK:∀x c,X.env.cells.lookup x=some c->∀v,s.heap.IsCell c v->h'.IsCell c v:=λx c e v hq0=>by
  obtain⟨o,ho,hd⟩:=hq0;have nch:c∉ch:=λz=>(hch c z).2.2.1 x c e rfl
  by_cases hc:c∈X.fs
  ·obtain⟨sl,q⟩:=slot c o (I.cne x c e) hc nch ho (I.freeC x c e);exact⟨_,q,hd⟩
  ·exact⟨o,keep c o (I.cne x c e) hc nch ho (I.freeC x c e),hd⟩
 refine⟨I.ok,I.os,hg,⟨λb o e n hb hx=>?_,λb o e n hb hx=>?_,λb o e n hx=>?_,λb o e hx=>?_,λb xs e=>tups b xs (I.base.tups b xs e),λb o xs e=>frzs b o xs (I.base.frzs b o xs e),λb ps e=>?_⟩,?_,λx c e=>?_,?_,λx c e=>?_,λp hp=>?_,hok,I.len,I.hnd.map frzs⟩
 ·exact keep b o (neL b o e) hb (neC b o e hx) (I.base.keep b o e n hb hx) (I.base.free b o e n hx)
 ·obtain⟨sl,e1⟩:=I.base.slot b o e n hb hx;obtain⟨sl',e2⟩:=slot b _ (neL b o e) hb (neC b o e hx) e1 (I.base.free b o e n hx);exact⟨sl',e2⟩
 ·obtain⟨o',e1⟩:=I.base.there b o e hx;exact free b o' (neC b o e hx) e1 (I.base.free b o e n hx)
 ·obtain⟨o',e1⟩:=I.base.there b o e hx;exact there b o' (neC b o e hx) e1
 ·obtain⟨m1,e1⟩:=I.base.tbls b ps e;obtain⟨m2,e2⟩:=tbls b _ e1;exact⟨m1++m2,by rw[e2,Array.append_assoc]⟩
 ·obtain⟨m,hn,hl⟩:=I.loc;refine⟨m,ns m hn,λi x v e1 e2 e3=>?_⟩;obtain⟨u,r,l⟩:=hl i x v e1 e2 e3;refine⟨u,r,?_⟩;rcases l with l | ⟨k,c,e,z⟩
  ·exact .inl l
  ·exact .inr ⟨k,c,e,cellK x c e _ z⟩
 ·obtain⟨v,z⟩:=I.cell x c e;exact⟨v,cellK x c e v z⟩
 ·obtain⟨m,⟨o,_,_,ho,_⟩,_⟩:=I.loc;exact free _ o (λz=>(hch _ z).2.1 rfl) ho I.free
 ·obtain⟨v,o,ho,hd⟩:=I.cell x c e;exact free c o (λz=>(hch c z).2.2.1 x c e rfl) ho (I.freeC x c e)
 ·obtain⟨e,n,ne,nf,d⟩:=I.pin p hp;have nch:p.1∉ch:=λz=>(hch p.1 z).2.2.2 p hp rfl
  exact⟨keep p.1 p.2 ne nf nch e n,free p.1 p.2 nch e n,ne,nf,d⟩
theorem Inv.un {t':Nat}(I:Inv X aU σ H s)(u:Un X.fs [] H H' s.heap h')(hok:HOk X.prog X.w H' h'):Inv X aU σ H' {s with heap:=h',toks:=t'}:=by
 obtain⟨m,⟨o,es,ep,ho,r⟩,_⟩:=id I.loc;obtain⟨sl,hL⟩:=u.any ho I.free (by simp)
 exact I.step (g':=s.gens) (d':=s.drawn) (ch:=[]) (λ_ z=>nomatch z) (λb o _ hb _ e n=>u.keep b o e n hb (by simp)) (λb o _ hb _ e n=>u.slot b o e n hb (by simp)) (λb o _ e n=>u.free b o e n (by simp)) (λb o _ e=>u.there b o e (by simp)) u.tups u.frzs u.tbls (λm' hm=>by
  obtain⟨o',es',ep',ho',r'⟩:=hm;rw[ho] at ho';cases ho'
  exact⟨_,es',ep',hL,r'⟩) hok I.bare
theorem Inv.call {g':Array GenState}{t':Nat}{d':Drawn}{ch:List Addr}(I:Inv X aU σ H s)(u:Un (frs X.stack) ch H H' s.heap h')(hok:HOk X.prog X.w H' h')(hg:AllBare g')
  (hch:∀b∈ch,(b∈X.ex\/X.s₀.heap.objs.size<=b)/\b≠X.env.locals/\(∀x c,X.env.cells.lookup x=some c->c≠b)/\∀p∈X.pn++aU,p.1≠b) :
  Inv X aU σ H' {s with heap:=h',gens:=g',drawn:=d',toks:=t'}:=by
 obtain⟨m,⟨o,es,ep,ho,r⟩,_⟩:=id I.loc;obtain⟨sl,hL⟩:=u.any ho I.free λz=>(hch _ z).2.1 rfl
 exact I.step (ch:=ch) hch (λb o hL hb hc e n=>u.keep b o e n (λz=>(xbm.mp (I.stkSub b z)).elim hL hb) hc) (λb o _ _ hc e n=>u.any e n hc) (λb o hc e n=>u.free b o e n hc) (λb o hc e=>u.there b o e hc) u.tups u.frzs u.tbls (λm' hm=>by
  obtain⟨o',es',ep',ho',r'⟩:=hm;rw[ho] at ho';cases ho'
  exact⟨_,es',ep',hL,r'⟩) hok hg
end
section
variable {X:Cx}{aU:List (Addr×Obj)}{σ:List (Option V)}{H:Hp}{s:Shared}{h':Heap}
theorem Inv.turned {t':Nat}{it:Addr}(I:Inv X aU σ H s)(k:∀b o,b≠it->s.heap.get? b=some o->h'.get? b=some o)(hn:H it=none)(hL:it≠X.env.locals)
  (h1:it∈X.ex\/X.s₀.heap.objs.size<=it)(h2:∀x c,X.env.cells.lookup x=some c->c≠it)(h3:∀p∈X.pn++aU,p.1≠it):Inv X aU σ H {s with heap:=h',toks:=t'}:=by
 have nit:∀b u,H b=some u->b≠it:=λb u e z=>by rw[z,hn] at e;cases e
 refine I.step (g':=s.gens) (d':=s.drawn) (ch:=[it]) (λb hb=>?_) (λb o _ _ hc e _=>k b o (λz=>hc (by simp[z])) e) (λb o _ _ hc e _=>⟨o.slots,k b o (λz=>hc (by simp[z])) e⟩) (λ_ _ _ _ n=>n)
  (λb o hc e=>⟨o,k b o (λz=>hc (by simp[z])) e⟩) (λ_ _ e=>e) (λ_ _ _ e=>e) (λb ps e=>⟨#[],by rw[e];simp⟩) (λm hm=>?_) (λb u e=>?_) I.bare
 ·have e:b=it:=by simpa using hb
  subst e;exact⟨h1,hL,h2,h3⟩
 ·obtain⟨o,es,ep,ho,r⟩:=hm;exact⟨o,es,ep,k _ o (xcx hL) ho,r⟩
 ·refine(I.hok b u e).stay (λc v hc q=>k c v ?_ q) (λ_ q=>q) λ_ _ q=>q
  rcases hc with z | z
  ·rw[z];exact nit b u e
  ·exact nit c _ z
end
theorem Inv.tok (I:Inv X aU σ H s)(t:Nat):Inv X aU σ H {s with toks:=t}:=I.un (h':=s.heap) (t':=t) Un.refl I.hok
theorem Inv.kept {h':Heap}  (I:Inv X aU σ H s)(k:∀b u,s.heap.get? b=some u->h'.get? b=some u):Inv X aU σ H {s with heap:=h',toks:=t'}:=I.un (Un.kept k) (I.hok.kept k)
theorem Inv.laid {h':Heap}    (I:Inv X aU σ H s)(k:∀b u,s.heap.get? b=some u->h'.get? b=some u)(hp:s.heap.objs.size<=a)(new:ObjOk X.prog X.w (upd H a o) h' a o) :
 Inv X aU σ (upd H a o) {s with heap:=h',toks:=t'}:=I.un (Un.laid k hp (I.hok.fresh hp)) (I.hok.laid k hp new)
theorem Inv.write {h':Heap}    (I:Inv X aU σ H s)(mu:Mut (H x))(he:e=x\/H e=some (.own x))(k:∀b u,b≠e->s.heap.get? b=some u->h'.get? b=some u)(heo:∃u,h'.get? e=some u)
 (new:ObjOk X.prog X.w (upd H x o) h' x o):Inv X aU σ (upd H x o) {s with heap:=h',toks:=t'}:=I.un (Un.write mu he k heo) (I.hok.write mu he k heo new)
theorem Inv.pins_of  (I:Inv X aU σ H s)(h:∀p∈pins',s.heap.get? p.1=some p.2/\H p.1=none/\p.1≠X.env.locals/\p.1∉X.fs/\∀v,p.2.data≠.cell v):Inv X pins' σ H s :=
 ⟨I.ok,I.os,I.bare,I.base,I.loc,I.cell,I.free,I.freeC,λp hp=>(xbx.mp hp).elim (λz=>I.pin p (xeb _ z)) (h p),I.hok,I.len,I.hnd⟩
theorem zvb {N:List Str}(hN:N.Nodup){i j:Nat}{x:Str}(a:N[i]?=some x)(b:N[j]?=some x):i=j:=by
 obtain⟨h1,e1⟩:=xbj.mp a;obtain⟨h2,e2⟩:=xbj.mp b;exact(List.getElem_inj hN).mp (e1.trans e2.symm)
theorem zyg {s:Shared}{M:Model}   {i:Nat}{x:Str}    (I:Inv X aU σ H s)(hN:X.N.Nodup)(hi:X.N[i]?=some x)(hx:Loc X.env.scope x)(r:RelV v u)
  (h:∀s',Inv X aU (σ.set i (some v)) H s'->(∃a,Heap.SameBut a s.heap s'.heap/\(a=X.env.locals\/X.env.cells.lookup x=some a))->Q () s')(hf:X.fn x=true\/X.env.scope.names.lookup x=some .local:=by first | exact .inl rfl | exact .inr rfl | assumption):wpAny M A (storeName X.env x u) Q E s:=by
 obtain⟨m,hn,hl⟩:=id I.loc;have hcls:(X.env.scope.kind==.class||(X.env.scope.kind==.module&&X.env.locals != X.env.globals))=false:=by rw[I.ok.kind];rfl
 have hiσ:i < σ.length:=by rw[I.len];exact(xbj.mp hi).1
 have cne:=I.cne;have tracked:∀{a:Addr} {h':Heap},(∃o,s.heap.get? a=some o/\H a=none)->Heap.SameBut a s.heap h'->HOk X.prog X.w H h':=λ{a h'} ha hs b ob e=>by
  obtain⟨_,_,hfree⟩:=ha;refine(I.hok b ob e).stay (λc w' hc q=>(hs.2 c ?_).trans q) (λ_ q=>q) λ_ _ q=>q
  rintro rfl;rcases hc with rfl | hc
  ·rw[hfree] at e;cases e
  ·rw[hfree] at hc;cases hc
 rcases hx with hk | hk
 ·refine wpAny_storeName_local hk hn (λh' hn' hs=>?_) hcls;obtain⟨oL,_,_,hoL,_⟩:=id hn;refine h _ ⟨I.ok,I.os,I.bare,⟨λb o e n hb hx=>?_,λb o e n hb hx=>?_,I.base.free,λb o e hx=>?_,I.base.tups,I.base.frzs,I.base.tbls⟩,⟨_,hn',λj y v' e1 e2 e3=>?_⟩,λy c e=>?_,I.free,I.freeC,λp hp=>?_,tracked ⟨oL,hoL,I.free⟩ hs,by simpa using I.len,I.hnd⟩ ⟨_,hs,.inl rfl⟩
  ·exact(hs.2 b (xce (xbk (xbr e) I.ok.above))).trans (I.base.keep b o e n hb hx)
  ·obtain⟨sl,e1⟩:=I.base.slot b o e n hb hx;exact⟨sl,(hs.2 b (xce (xbk (xbr e) I.ok.above))).trans e1⟩
  ·obtain⟨o',e1⟩:=I.base.there b o e hx;exact⟨o',(hs.2 b (xce (xbk (xbr e) I.ok.above))).trans e1⟩
  ·by_cases hj:j=i
   ·subst hj;rw[hi] at e1;cases e1
    rw[xdt hiσ] at e2;cases e2;exact⟨u,r,.inl ⟨hk,by simp⟩⟩
   ·rw[xcm (xcx hj)] at e2;obtain⟨u',r',q⟩:=hl j y v' e1 e2 e3;refine⟨u',r',?_⟩;rcases q with⟨k,e⟩ | ⟨k,c,e,z⟩
    ·refine .inl ⟨k,?_⟩;have:y≠x:=λe=>hj (zvb hN e1 (e ▸ hi))
     simp[this,e]
    ·exact .inr ⟨k,c,e,z.sameBut hs (cne y c e)⟩
  ·obtain⟨w',z⟩:=I.cell y c e;exact⟨w',z.sameBut hs (cne y c e)⟩
  ·obtain⟨e,n,ne,nf,d⟩:=I.pin p hp;exact⟨(hs.2 p.1 ne).trans e,n,ne,nf,d⟩
 ·have hfn:X.fn x=true:=by
   rcases hf with z | z
   ·exact z
   ·rw[z] at hk;cases hk
  obtain⟨c,hc⟩:=I.ok.has x (.inl hk);obtain⟨w',z⟩:=I.cell x c hc;refine wpAny_storeName_cell I.ok.kind hk hc z (λh' hc' hs=>?_);obtain⟨oc,hoc,hocd⟩:=id z;refine h {s with heap:=h'} ⟨I.ok,I.os,I.bare,⟨λb o e n hb hx=>?_,λb o e n hb hx=>?_,I.base.free,λb o e hx=>?_,I.base.tups,I.base.frzs,I.base.tbls⟩,⟨m,hn.sameBut hs (xcx (cne x c hc)),λj y v' e1 e2 e3=>?_⟩,λy c' e=>?_,I.free,I.freeC,λp hp=>?_,tracked ⟨oc,hoc,I.freeC x c hc⟩ hs,by simpa using I.len,I.hnd⟩ ⟨c,hs,.inr hc⟩
  ·exact(hs.2 b (xce (xbk (xbr e) (I.ok.cab x c hfn hc)))).trans (I.base.keep b o e n hb hx)
  ·obtain⟨sl,e1⟩:=I.base.slot b o e n hb hx;exact⟨sl,(hs.2 b (xce (xbk (xbr e) (I.ok.cab x c hfn hc)))).trans e1⟩
  ·obtain⟨o',e1⟩:=I.base.there b o e hx;exact⟨o',(hs.2 b (xce (xbk (xbr e) (I.ok.cab x c hfn hc)))).trans e1⟩
  ·by_cases hj:j=i
   ·subst hj;rw[hi] at e1;cases e1
    rw[xdt hiσ] at e2;cases e2;exact⟨u,r,.inr ⟨.inl hk,c,hc,hc'⟩⟩
   ·rw[xcm (xcx hj)] at e2;obtain⟨u',r',q⟩:=hl j y v' e1 e2 e3;refine⟨u',r',?_⟩;rcases q with q | ⟨k,c',e,z'⟩
    ·exact .inl q
    ·refine .inr ⟨k,c',e,z'.sameBut hs ?_⟩;rintro rfl;exact hj (zvb hN e1 (I.ok.inj _ _ _ e hc ▸ hi))
  ·by_cases hcc:c'=c
   ·subst hcc;exact⟨_,hc'⟩
   ·obtain⟨w2,z2⟩:=I.cell y c' e;exact⟨w2,z2.sameBut hs hcc⟩
  ·obtain⟨e,n,ne,nf,d⟩:=I.pin p hp;refine⟨(hs.2 p.1 ?_).trans e,n,ne,nf,d⟩;intro q;rw[q,hoc] at e;have q':oc=p.2:=xcs e;exact d w' (by rw[← q'];exact hocd)
theorem zoj {M:Model}        (I:Inv X aU σ H s)(hN:X.N.Nodup)(hi:X.N[i]?=some x)(hx:Loc X.env.scope x)(r:RelV v u)
  (h:∀s',Inv X aU (σ.set i (some v)) H s'->Q () s')(hf:X.fn x=true\/X.env.scope.names.lookup x=some .local:=by first | exact .inl rfl | exact .inr rfl | assumption):wpAny M A (storeName X.env x u) Q E s :=
 zyg I hN hi hx r (λs' I' _=>h s' I') hf
theorem Inv.call' {s':Shared}{ch:List Addr}(I:Inv X aU σ H s)(ho:s'.os=s.os)(u:Un (frs X.stack) ch H H' s.heap s'.heap)(hok:HOk X.prog X.w H' s'.heap)(hg:AllBare s'.gens)
  (hch:∀b∈ch,(b∈X.ex\/X.s₀.heap.objs.size<=b)/\b≠X.env.locals/\(∀x c,X.env.cells.lookup x=some c->c≠b)/\∀p∈X.pn++aU,p.1≠b):Inv X aU σ H' s':=by
 obtain⟨h',g',d',t',o'⟩:=s';have e:o'=s.os:=ho;subst e;exact I.call (g':=g') (t':=t') (d':=d') u hok hg hch
end
abbrev XK:=Value->Option Addr->Hp->Prop
noncomputable abbrev St:=List (Option V)
abbrev VK:=V->Hp->Prop
abbrev TE:=St->Hp->VK->Prop
abbrev TT:=St->Hp->(Bool->Hp->Prop)->Prop
abbrev TA:=St->Hp->(List V->Hp->Prop)->Prop
structure Ends where
 nx:St->Hp->Prop
 rt:VK
 bk:St->Hp->Prop:=λ_ _=>False
 ct:St->Hp->Prop:=λ_ _=>False
abbrev TS:=Ends->St->Hp->Prop
def EP (X:Cx) (aU:List (Addr×Obj)) (σ:St) (Q:VK) (u:Value) (s':Shared):Prop:=∃v H',Inv X aU σ H' s'/\RelV v u/\Q v H'
def TP (X:Cx) (aU:List (Addr×Obj)) (σ:St) (Q:Bool->Hp->Prop) (b:Bool) (s':Shared):Prop:=∃H',Inv X aU σ H' s'/\Q b H'
def AP (X:Cx) (aU:List (Addr×Obj)) (σ:St) (Q:List V->Hp->Prop) (us:List Value) (s':Shared):Prop:=∃vs H',Inv X aU σ H' s'/\Vals vs us/\Q vs H'
def SP (X:Cx) (aU:List (Addr×Obj)) (D:Ends) (f:Flow) (s':Shared):Prop :=
 match f with
 | .next=>∃σ' H',Inv X aU σ' H' s'/\D.nx σ' H'
 | .brk=>∃σ' H',Inv X aU σ' H' s'/\D.bk σ' H'
 | .cont=>∃σ' H',Inv X aU σ' H' s'/\D.ct σ' H'
 | .ret u=>∃v σ' H',Inv X aU σ' H' s'/\RelV v u/\D.rt v H'
def PE (X:Cx) (e:Expr) (t:TE):Prop :=
 ∀(aU:List (Addr×Obj)) (s:Shared) (σ:St) (H:Hp) (Q:VK),Inv X aU σ H s->t σ H Q->wpAny (model X.prog X.w) X.A (eval e X.env) (EP X aU σ Q) X.xe s
def PT (X:Cx) (e:Expr) (t:TT):Prop :=
 ∀(aU:List (Addr×Obj)) (s:Shared) (σ:St) (H:Hp) (Q:Bool->Hp->Prop),Inv X aU σ H s->t σ H Q->wpAny (model X.prog X.w) X.A (isTrue e X.env (eval e X.env)) (TP X aU σ Q) X.xe s
def PW (X:Cx) (e:Expr) (t:TT):Prop :=
 ∀(whole:Sem Value) (aU:List (Addr×Obj)) (s:Shared) (σ:St) (H:Hp) (Q:Bool->Hp->Prop),Inv X aU σ H s->t σ H Q->wpAny (model X.prog X.w) X.A (isTrue e X.env whole) (TP X aU σ Q) X.xe s
theorem PW.pt    (h:PW X e t):PT X e t:=h _
def PA (X:Cx) (es:List Expr) (t:TA):Prop :=
 ∀(pos:Pos) (aU:List (Addr×Obj)) (s:Shared) (σ:St) (H:Hp) (Q:List V->Hp->Prop),Inv X aU σ H s->t σ H Q->wpAny (model X.prog X.w) X.A (spliced (backTo pos (starEach es X.env))) (AP X aU σ Q) X.xe s
def PS (X:Cx) (au:Stmt) (t:TS):Prop :=
 ∀(aU:List (Addr×Obj)) (s:Shared) (σ:St) (H:Hp) (D:Ends),Inv X aU σ H s->t D σ H->wpAny (model X.prog X.w) X.A (exec au X.env) (SP X aU D) X.xe s
def PSs (X:Cx) (au:List Stmt) (t:TS):Prop :=
 ∀(aU:List (Addr×Obj)) (s:Shared) (σ:St) (H:Hp) (D:Ends),Inv X aU σ H s->t D σ H->wpAny (model X.prog X.w) X.A (execs au X.env) (SP X aU D) X.xe s
theorem thn {α:Type}{t:Sem α}{Q Q':α->Shared->Prop}{M:Model}    (h:wpAny M A t Q E s)(hQ:∀a s,Q a s->Q' a s):wpAny M A t Q' E s:=xfe h hQ λ_ _ x=>x
section
def tVar (i:Nat):TE:=λσ H Q=>∃v,σ[i]?=some (some v)/\Q v H
def tC (v:V):TE:=λ_ H Q=>Q v H
theorem zbow {X:Cx}    (hN:X.N[i]?=some x)(hv:Vis X.env.scope x)(hd:(x==("__debug__" : Str))=false:=by decide)(hcd:(x==("__classdict__" : Str))=false:=by decide):PE X (.Name x pos) (tVar i):=by
 intro aU s σ H Q I h;obtain⟨v,e,h⟩:=h;obtain⟨m,hn,hl⟩:=I.loc;obtain⟨u,r,l⟩:=hl i x v hN e hv;have fin:EP X aU σ Q u s:=⟨v,H,I,r,h⟩
 rcases l with⟨hk,hm⟩ | ⟨hk,c,hc,hcell⟩
 ·exact wpAny_Name (wpAny_loadName_local I.ok.kind hk hn hm fin) hd
 ·rcases hk with hk | hk
  ·exact wpAny_Name (wpAny_loadName_cell I.ok.kind hk hc hcell fin) hd
  ·exact wpAny_Name (wpAny_loadName_free I.ok.kind hk hc hcell fin hcd) hd
theorem zbpc {i j pos}:PE X (.Constant (.int i) j pos) (tC (.int i)):=λ_ _ _ H _ I h=>wpAny_Constant_int ⟨.int i,H,I.tok _,⟨_,rfl⟩,h⟩
theorem zbua {b j pos}:PE X (.Constant (.bool b) j pos) (tC (.bl b)):=λ_ _ _ H _ I h=>Constant_bool ⟨.bl b,H,I,rfl,h⟩
theorem zbpb {j pos}:PE X (.Constant .none j pos) (tC .non):=λ_ _ _ H _ I h=>Constant_none ⟨.non,H,I,rfl,h⟩
theorem zboy {x j pos}:PE X (.Constant (.str x) j pos) (tC (.str x)):=λ_ _ _ H _ I h=>Calls.Constant_str ⟨.str x,H,I.tok _,⟨_,rfl⟩,h⟩
noncomputable def Gl (X:Cx) (x:Str):Prop:=X.env.kindOf x=some .globalImplicit
theorem zbca          (I:Inv X aU σ H s)(hg:Gl X x)(hm:X.mg x=some u)(h:Q u s)
  (hd:(x==("__debug__" : Str))=false:=by decide):wpAny (model X.prog X.w) X.A (eval (.Name x pos) X.env) Q E s :=
 Calls.Name_function_global I.ok.kind hg (Calls.loadGlobal_global (by rw[I.ok.glob];exact I.mod.glob.keeps I.bk) hm h) hd
theorem zno          (I:Inv X aU σ H s)(hg:Gl X x)(hm:X.mg x=none)(hv:bootBuiltins x=some u)(h:Q u s)
  (hn:x≠"__name__":=by decide)(hd:(x==("__debug__" : Str))=false:=by decide):wpAny (model X.prog X.w) X.A (eval (.Name x pos) X.env) Q E s:=by
 obtain⟨mb,h1,h2⟩:=I.mod.blt;exact Calls.Name_function_global I.ok.kind hg (Calls.loadGlobal_builtin (by rw[I.ok.glob];exact I.mod.glob.keeps I.bk) hm (by rw[I.ok.blt];exact h1.keeps I.bk) ((h2 x hn).trans hv) h) hd
theorem zbbq     (hg:Gl X x)(hm:X.mg x=some u)(r:RelV v u)(hd:(x==("__debug__" : Str))=false:=by decide):PE X (.Name x pos) (tC v) :=
 λ_ _ _ H _ I h=>zbca I hg hm ⟨v,H,I,r,h⟩ hd
theorem zfn     (hg:Gl X x)(hm:X.mg x=none)(hv:bootBuiltins x=some u)(r:RelV v u)(hn:x≠"__name__":=by decide)(hd:(x==("__debug__" : Str))=false:=by decide):PE X (.Name x pos) (tC v) :=
 λ_ _ _ H _ I h=>zno I hg hm hv ⟨v,H,I,r,h⟩ hn hd
def PC (X:Cx) (op:CmpOp) (a b:Expr) (t:TE):Prop :=
 ∀(aU:List (Addr×Obj)) (s:Shared) (σ:St) (H:Hp) (Q:VK),Inv X aU σ H s->t σ H Q ->
  wpAny (model X.prog X.w) X.A (eval a X.env) (λv s₁=>wpAny (model X.prog X.w) X.A (eval b X.env) (λu s₂=>wpAny (model X.prog X.w) X.A (compareOp op v u) (EP X aU σ Q) X.xe s₂) X.xe s₁) X.xe s
def tB (t:TE):TT:=λσ H Q=>t σ H λx H1=>∃c,x=.bl c/\Q c H1
section
variable {X:Cx}{a:Expr}{b:Expr}{pos:Pos}
theorem zbom {op:CmpOp}{t:TE}(h:PC X op a b t)(h1:behindInMarks op b=false:=by first | exact nobehind _ (by decide) (by decide) | rfl):PT X (.Compare a [op] [b] pos) (tB t):=by
 intro aU s σ H Q I hw;refine wpAny_isTrue_Compare1 (thn (h aU s σ H _ I hw) λv s1 h1=>thn h1 λu s2 h2=>thn h2 λc s3 hq0=>?_) h1;obtain⟨x,H1,I1,r1,q1⟩:=hq0;obtain⟨d,rfl,q⟩:=q1;cases r1;exact xgi ⟨H1,I1,q⟩
end
def tAnd (t u:TT):TT:=λσ H Q=>t σ H λc H1=>if c=true then u σ H1 Q else Q false H1
def tOr (t u:TT):TT:=λσ H Q=>t σ H λc H1=>if c=true then Q true H1 else u σ H1 Q
def tNot (t:TT):TT:=λσ H Q=>t σ H λc H1=>Q (!c) H1
section
variable {X:Cx}{a:Expr}{pos:Pos}{tA:TT}
theorem pw_and1 (ha:PT X a tA):PW X (.BoolOp .And [a] pos) tA:=by
 intro wh aU s σ H Q I h;refine isTrue_and (thn (ha aU s σ H Q I h) λc s1 e=>?_);cases c with
 | true=>exact isTrue_and_nil e
 | false=>exact e
theorem pw_or1 (ha:PT X a tA):PW X (.BoolOp .Or [a] pos) tA:=by
 intro wh aU s σ H Q I h;refine isTrue_or (thn (ha aU s σ H Q I h) λc s1 e=>?_);cases c with
 | false=>exact isTrue_or_nil e
 | true=>exact e
end
section
variable {X:Cx}{a:Expr}{b:Expr}{pos:Pos}{tA:TT}{tB':TT}{rest:List Expr}
theorem pw_and (ha:PT X a tA)(hb:PW X (.BoolOp .And (b::rest) pos) tB'):PW X (.BoolOp .And (a::b::rest) pos) (tAnd tA tB'):=by
 intro wh aU s σ H Q I h;refine isTrue_and (thn (ha aU s σ H _ I h) λc s1 hq0=>?_);obtain⟨H1,I1,q1⟩:=hq0;cases c with
 | true=>exact hb wh aU s1 σ H1 Q I1 q1
 | false=>exact⟨H1,I1,q1⟩
theorem pw_or (ha:PT X a tA)(hb:PW X (.BoolOp .Or (b::rest) pos) tB'):PW X (.BoolOp .Or (a::b::rest) pos) (tOr tA tB'):=by
 intro wh aU s σ H Q I h;refine isTrue_or (thn (ha aU s σ H _ I h) λc s1 hq0=>?_);obtain⟨H1,I1,q1⟩:=hq0;cases c with
 | true=>exact⟨H1,I1,q1⟩
 | false=>exact hb wh aU s1 σ H1 Q I1 q1
end
theorem zbol (ha:PT X a tA):PT X (.UnaryOp .Not a pos) (tNot tA):=by
 intro aU s σ H Q I h;exact isTrue_not (ha aU s σ H (λc H1=>Q (!c) H1) I h)
def tAndV (ta tb:TE):TE:=λσ H Q=>ta σ H λx H1=>∃c,x=.bl c/\if c=true then tb σ H1 Q else Q (.bl false) H1
def tNotV (ta:TE):TE:=λσ H Q=>ta σ H λx H1=>∃c,x=.bl c/\Q (.bl (!c)) H1
theorem zboz {op}  (h:PE X a t):PE X (.BoolOp op [a] pos) t:=λaU s σ H Q I hw=>BoolOp_one (h aU s σ H Q I hw)
section
variable {X:Cx}{a:Expr}{b:Expr}{ta:TE}{tb:TE}{pos:Pos}{rest:List Expr}
theorem zbpf (ha:PE X a ta)(hb:PE X (.BoolOp .And (b::rest) pos) tb):PE X (.BoolOp .And (a::b::rest) pos) (tAndV ta tb):=by
 intro aU s σ H Q I h;refine BoolOp_and (thn (ha aU s σ H _ I h) λv s1 hq0=>?_);obtain⟨x,H1,I1,r1,q1⟩:=hq0;obtain⟨c,rfl,q1⟩:=q1;cases r1;refine xgi ?_;cases c with
 | true=>exact hb aU s1 σ H1 Q I1 q1
 | false=>exact⟨.bl false,H1,I1,rfl,q1⟩
end
section
variable {X:Cx}{a:Expr}{ta:TE}{pos:Pos}
theorem zbpa (ha:PE X a ta):PE X (.UnaryOp .Not a pos) (tNotV ta):=by
 intro aU s σ H Q I h;refine UnaryOp_ (thn (ha aU s σ H _ I h) λv s1 hq0=>?_);obtain⟨x,H1,I1,r1,q1⟩:=hq0;obtain⟨c,rfl,q1⟩:=q1;cases r1;exact not_of (xgi ⟨.bl (!c),H1,I1,rfl,q1⟩)
end
def tIf (t:TT) (ta tb:TE):TE:=λσ H Q=>t σ H λc H1=>if c=true then ta σ H1 Q else tb σ H1 Q
section
variable {X:Cx}{a:Expr}{b:Expr}{ta:TE}{tb:TE}{pos:Pos}{tA:TT}
theorem zbep {c:Expr}(hc:PT X c tA)(ha:PE X a ta)(hb:PE X b tb):PE X (.IfExp c a b pos) (tIf tA ta tb):=by
 intro aU s σ H Q I h;refine wpAny_IfExp (thn (hc aU s σ H _ I h) λd s1 hq0=>?_);obtain⟨H1,I1,q1⟩:=hq0;cases d with
 | true=>exact ha aU s1 σ H1 Q I1 q1
 | false=>exact hb aU s1 σ H1 Q I1 q1
end
end
def SqL (K:Fg) (H:Hp) (a:Addr) (xs:List V):Prop :=
 Rd H a (.lst xs) \/
  ∃(o:Obj) (its:Array Value) (n:Nat),K.lookup a=some o/\o.cls=.type "list"/\o.dict=none/\o.data=.seq its n/\its.size<=sizeLine/\Vals xs its.toList
def SqT (K:Fg) (H:Hp) (a:Addr) (xs:List V):Prop :=
 Rd H a (.tup xs) \/
  ∃(o:Obj) (its:Array Value) (n:Nat),K.lookup a=some o/\o.cls=.type "tuple"/\o.data=.seq its n/\its.size<=sizeLine/\Vals xs its.toList
noncomputable def absV:Value->Option V
 | .none=>some .non
 | .bool b=>some (.bl b)
 | .int i _=>some (.int i)
 | .str x _=>some (.str x)
 | .bytes b _=>some (.byt b)
 | .float b _=>some (.flt b)
 | .ref a=>some (.ref a)
 | .type n=>some (.ty n)
 | _=>none
theorem RelV.abs   (r:RelV x u):absV u=some x:=by
 cases x with
 | non=>cases r;rfl
 | bl _=>cases r;rfl
 | int _=>obtain⟨t,rfl⟩:=r;rfl
 | str _=>obtain⟨t,rfl⟩:=r;rfl
 | byt _=>obtain⟨t,rfl⟩:=r;rfl
 | flt _=>obtain⟨t,rfl⟩:=r;rfl
 | ref _=>cases r;rfl
 | ty _=>cases r;rfl
theorem RelV.inj   (r:RelV x u)(q:RelV y u):x=y:=xcs (r.abs.symm.trans q.abs)
theorem Vals.inj:∀{xs ys:List V} {us:List Value},Vals xs us->Vals ys us->xs=ys
 | _,_,_,.nil,.nil=>rfl
 | _,_,_,.cons r t,.cons r' t'=>by rw[r.inj r',Vals.inj t t']
section
section
variable {H:Hp}{a:Addr}{xs:List V}
theorem SqL.of {K:Fg}(h:H a=some (.lst xs)):SqL K H a xs:=.inl (.inl h)
theorem SqT.of {K:Fg}(h:H a=some (.tup xs)):SqT K H a xs:=.inl (.inl h)
end
theorem Inv.list (I:Inv X aU σ H s)(h:SqL X.K H a xs):∃its:List Value,Vals xs its/\PlainL s.heap a its.toArray/\xs.length<=sizeLine:=by
 rcases h with h | ⟨o,its,n,hk,hc,hd,hs,hz,r⟩
 ·obtain⟨z,its,n,r,e⟩:=h.ok I.hok;exact⟨its,r,⟨_,n,e,rfl,rfl,rfl⟩,z⟩
 ·refine⟨its.toList,r,⟨o,n,I.kIn a o hk,hc,hd,by simpa using hs⟩,?_⟩;have e:=r.length;simp only[xcd] at e;lia
theorem Inv.tuple (I:Inv X aU σ H s)(h:SqT X.K H a xs):∃its:List Value,Vals xs its/\IsTup s.heap a its.toArray/\xs.length<=sizeLine:=by
 rcases h with h | ⟨o,its,n,hk,hc,hs,hz,r⟩
 ·obtain⟨z,its,r,p⟩:=h.ok I.hok;exact⟨its,r,p,z⟩
 ·refine⟨its.toList,r,⟨o,I.kIn a o hk,hc,n,by simpa using hs⟩,?_⟩;have e:=r.length;simp only[xcd] at e;lia
theorem Inv.list_inj (I:Inv X aU σ H s)(h:SqL X.K H a xs)(h':SqL X.K H a ys):xs=ys:=by
 obtain⟨its,r,⟨o,n,e,_,_,d⟩,_⟩:=I.list h;obtain⟨its',r',⟨o',n',e',_,_,d'⟩,_⟩:=I.list h';rw[e] at e';cases e'
 rw[d] at d';injection d' with d1 _
 have:its=its':=by simpa using congrArg Array.toList d1
 subst this;exact r.inj r'
theorem Inv.tuple_inj (I:Inv X aU σ H s)(h:SqT X.K H a xs)(h':SqT X.K H a ys):xs=ys:=by
 obtain⟨its,r,⟨o,e,_,n,d⟩,_⟩:=I.tuple h;obtain⟨its',r',⟨o',e',_,n',d'⟩,_⟩:=I.tuple h';rw[e] at e';cases e'
 rw[d] at d';injection d' with d1 _
 have:its=its':=by simpa using congrArg Array.toList d1
 subst this;exact r.inj r'
end
noncomputable abbrev Cx.wish (X:Cx) (E:Value->Shared->Prop):Cx:={X with xe:=E}
abbrev Cx.nox (X:Cx):Cx:=X.wish λ_ _=>False
theorem Cx.Ok.wish {X:Cx}(ok:X.Ok)(E:Value->Shared->Prop):(X.wish E).Ok :=
 ⟨ok.mod,ok.kind,ok.glob,ok.blt,ok.above,ok.inj,ok.has,ok.cab,ok.hd,ok.frames,ok.stk,ok.exf,ok.bs,ok.bsz,ok.noex,ok.exfs,ok.funs,ok.frf⟩
theorem Cx.Ok.unwish {X:Cx}  (ok:(X.wish E).Ok):X.Ok :=
 ⟨ok.mod,ok.kind,ok.glob,ok.blt,ok.above,ok.inj,ok.has,ok.cab,ok.hd,ok.frames,ok.stk,ok.exf,ok.bs,ok.bsz,ok.noex,ok.exfs,ok.funs,ok.frf⟩
section
theorem Inv.wish (I:Inv X aU σ H s)(E:Value->Shared->Prop):Inv (X.wish E) aU σ H s:=⟨I.ok.wish E,I.os,I.bare,I.base,I.loc,I.cell,I.free,I.freeC,I.pin,I.hok,I.len,I.hnd⟩
theorem Inv.unwish {X:Cx}(I:Inv (X.wish E) aU σ H s):Inv X aU σ H s:=⟨I.ok.unwish,I.os,I.bare,I.base,I.loc,I.cell,I.free,I.freeC,I.pin,I.hok,I.len,I.hnd⟩
theorem SP.unwish {X:Cx}{D:Ends}   (h:SP (X.wish E) aU D f s'):SP X aU D f s':=by
 cases f with
 | next=>obtain⟨σ',H',I,q⟩:=h;exact⟨σ',H',I.unwish,q⟩
 | brk=>obtain⟨σ',H',I,q⟩:=h;exact⟨σ',H',I.unwish,q⟩
 | cont=>obtain⟨σ',H',I,q⟩:=h;exact⟨σ',H',I.unwish,q⟩
 | ret u=>obtain⟨v,σ',H',I,r,q⟩:=h;exact⟨v,σ',H',I.unwish,r,q⟩
section
variable {X:Cx}{aU:List (Addr×Obj)}{σ:St}{H:Hp}{s:Shared}
theorem PSs.nox {au:List Stmt}{t:TS}(h:PSs X.nox au t):PSs X au t:=λaU s σ H D I hw =>
 xfe (h aU s σ H D (I.wish _) hw) (λ_ _ q=>q.unwish) λ_ _ z=>False.elim z
end
end
section
def tNext:TS:=λD σ H=>D.nx σ H
def tSeq (t u:TS):TS:=λD σ H=>t {D with nx:=u D} σ H
theorem zbix:PSs X [] tNext:=λ_ _ σ H _ I h=>xlw ⟨σ,H,I,h⟩
section
variable {X:Cx}{au:Stmt}{rest:List Stmt}{t:TS}{u:TS}
theorem zbeg (h1:PS X au t)(h2:PSs X rest u):PSs X (au::rest) (tSeq t u):=by
 intro aU s σ H D I h;refine wpAny_execs_cons (thn (h1 aU s σ H {D with nx:=u D} I h) λf s1 q=>?_);cases f with
 | next =>
  obtain⟨σ',H',I',q⟩:=q;exact h2 aU s1 σ' H' D I' q
 | ret v=>exact q
 | brk=>exact q
 | cont=>exact q
end
section
variable {X:Cx}{au:Stmt}{t:TS}
theorem zbiw (h1:PS X au t):PSs X [au] t:=by
 intro aU s σ H D I h;refine wpAny_execs_cons (thn (h1 aU s σ H D I h) λf s1 q=>?_);cases f with
 | next=>exact xlw q
 | ret v=>exact q
 | brk=>exact q
 | cont=>exact q
end
def tBreak:TS:=λD σ H=>D.bk σ H
theorem zbei:PS X (.Break pos) tBreak:=λ_ _ σ H _ I h=>wpAny_Break ⟨σ,H,I,h⟩
theorem Inv.quiet     (I:Inv X aU σ H s):interactive X.env=false:=by simp[interactive,I.ok.kind]
def tDrop (te:TE):TS:=λD σ H=>te σ H λ_ H1=>D.nx σ H1
section
variable {X:Cx}{e:Expr}{te:TE}{pos:Pos}
theorem zbiy (he:PE X e te)(hs:swapsWith e none pos.line X.env=pure false:=by rfl):PS X (.Expr e pos) (tDrop te):=by
 intro aU s σ H D I h;exact wpAny_Expr_any (thn (he aU s σ H _ I h) λv s1 ⟨x,H1,I1,r1,q1⟩=>⟨σ,H1,I1,q1⟩) I.quiet hs
end
def tRet (te:TE):TS:=λD σ H=>te σ H D.rt
section
variable {X:Cx}{e:Expr}{te:TE}{pos:Pos}
theorem zboo (he:PE X e te):PS X (.Return (some e) pos) (tRet te):=by
 intro aU s σ H D I h;exact wpAny_Return_some (thn (he aU s σ H _ I h) λv s1 ⟨x,H1,I1,r1,q1⟩=>⟨x,σ,H1,I1,r1,q1⟩)
end
def tIfS (c:TT) (t u:TS):TS:=λD σ H=>c σ H λb H1=>if b=true then t D σ H1 else u D σ H1
section
variable {X:Cx}{t:TS}{u:TS}{pos:Pos}
theorem zbtw {c:Expr}{a b:List Stmt}{tc:TT}(hc:PT X c tc)(ha:PSs X a t)(hb:PSs X b u):PS X (.If c a b pos) (tIfS tc t u):=by
 intro aU s σ H D I h;refine wpAny_If (thn (hc aU s σ H _ I h) λd s1 hq0=>?_);obtain⟨H1,I1,q1⟩:=hq0;cases d with
 | true=>exact ha aU s1 σ H1 D I1 q1
 | false=>exact hb aU s1 σ H1 D I1 q1
end
end
abbrev TG:=V->St->Hp->(St->Hp->Prop)->Prop
abbrev TGs:=List V->St->Hp->(St->Hp->Prop)->Prop
def PG (X:Cx) (target:Expr) (t:TG):Prop :=
 ∀(aU:List (Addr×Obj)) (s:Shared) (σ:St) (H:Hp) (v:V) (u:Value) (Q:St->Hp->Prop),Inv X aU σ H s->RelV v u->t v σ H Q ->
  wpAny (model X.prog X.w) X.A (assign target X.env u) (λ_ s'=>∃σ' H',Inv X aU σ' H' s'/\Q σ' H') X.xe s
def PGs (X:Cx) (ts:List Expr) (t:TGs):Prop :=
 ∀(aU:List (Addr×Obj)) (s:Shared) (σ:St) (H:Hp) (vs:List V) (us:List Value) (Q:St->Hp->Prop),Inv X aU σ H s->Vals vs us->t vs σ H Q ->
  wpAny (model X.prog X.w) X.A (assignInOrder ((assignEach ts X.env).map (·.2)) us) (λ_ s'=>∃σ' H',Inv X aU σ' H' s'/\Q σ' H') X.xe s
abbrev TSet:=V->V->V->Hp->(Hp->Prop)->Prop
def PSet (X:Cx) (t:TSet):Prop :=
 ∀(aU:List (Addr×Obj)) (s:Shared) (σ:St) (H:Hp) (o i v:V) (ov iv u:Value) (Q:Hp->Prop),Inv X aU σ H s->RelV o ov->RelV i iv->RelV v u->t o i v H Q ->
  wpAny (model X.prog X.w) X.A (setItem ov iv u) (λ_ s'=>∃H',Inv X aU σ H' s'/\Q H') X.xe s
abbrev TIp:=V->V->Hp->VK->Prop
def PIp (X:Cx) (op:Operator) (t:TIp):Prop :=
 ∀(aU:List (Addr×Obj)) (s:Shared) (σ:St) (H:Hp) (x y:V) (v u:Value) (Q:VK),Inv X aU σ H s->RelV x v->RelV y u->t x y H Q ->
  wpAny (model X.prog X.w) X.A (inplaceOp op v u) (EP X aU σ Q) X.xe s
section
def gName (i:Nat):TG:=λv σ H Q=>Q (σ.set i (some v)) H
theorem zbjj {X:Cx}   (hN:X.N.Nodup)(hi:X.N[i]?=some x)(hx:Loc X.env.scope x)(hf:X.fn x=true\/X.env.scope.names.lookup x=some .local:=by first | exact .inl rfl | exact .inr rfl | assumption):PG X (.Name x pos) (gName i):=by
 intro aU s σ H v u Q I r h;exact wpAny_assign_Name (zoj I hN hi hx r (λs' I'=>⟨_,H,I',h⟩) hf)
def gNil:TGs:=λvs σ H Q=>vs=[]/\Q σ H
def gCons (t:TG) (u:TGs):TGs:=λvs σ H Q=>∃v r,vs=v::r/\t v σ H λσ' H'=>u r σ' H' Q
theorem zbji:PGs X [] gNil:=by
 intro aU s σ H vs us Q I r h;obtain⟨e,h⟩:=h;subst e;cases r;exact assignInOrder_nil ⟨σ,H,I,h⟩
section
variable {X:Cx}
theorem zben {e:Expr}{es:List Expr}{t:TG}{u:TGs}(h1:PG X e t)(h2:PGs X es u)
  (hs:(assignEach (e::es) X.env).map (·.2)=assign e X.env::(assignEach es X.env).map (·.2):=by rfl):PGs X (e::es) (gCons t u):=by
 intro aU s σ H vs us Q I r h;obtain⟨v,vr,e1,h⟩:=h;subst e1;cases r with
 | cons r rr =>
  rw[hs];refine assignInOrder_cons (thn (h1 aU s σ H _ _ _ I r h) λ_ s1 hq0=>?_);obtain⟨σ1,H1,I1,q1⟩:=hq0;exact h2 aU s1 σ1 H1 _ _ Q I1 rr q1
end
def gTup (K:Fg) (n:Nat) (t:TGs):TG:=λv σ H Q=>∃a xs,v=.ref a/\SqT K H a xs/\xs.length=n/\t xs σ H Q
theorem zbou {X:Cx}     (hc:X.calm=true)(h:PGs X es t)
  (hn:(assignEach es X.env).length=n:=by rfl)(hst:(assignEach es X.env).findIdx? (·.1)=none:=by rfl):PG X (.Tuple es k pos) (gTup X.K n t):=by
 intro aU s σ H v u Q I r hw;obtain⟨a,xs,e1,hq,hl,hw⟩:=hw;subst e1;cases r;obtain⟨its,rv,ht,hz⟩:=I.tuple hq;refine assign_Tuple_tuple (I.ok.hd hc) ht (by simp[hn,← hl,rv.length]) hst λh' hx=>?_
 have I1:Inv X aU σ H {s with heap:=h'}:=I.kept (t':=s.toks) λb o e=>hx b o (xce (xbr e)) e
 exact h aU _ σ H xs _ Q I1 (by simpa using rv) hw
def gSub (to ti:TE) (t:TSet):TG:=λv σ H Q=>to σ H λo H1=>ti σ H1 λi H2=>t o i v H2 λH3=>Q σ H3
section
variable {X:Cx}{pos:Pos}
theorem zbov {o i:Expr}{to ti:TE}{t:TSet}(ho:PE X o to)(hi:PE X i ti)(hs:PSet X t)
  (ha:∀v,assign (.Subscript o i pos) X.env v=(do
   let ov ← holding [v] (eval o X.env)
   let iv ← holding [v,ov] (eval i X.env)
   standAt pos
   holding [v,ov,iv] (setItem ov iv v)
   release [v,ov,iv] []):=by intro _;rfl):PG X (.Subscript o i pos) (gSub to ti t):=by
 intro aU s σ H v u Q I r h;rw[ha];refine xba (xeo (thn (ho aU s σ H _ I h) λov s1 hq0=>?_));obtain⟨x,H1,I1,r1,q1⟩:=hq0;refine xba (xeo (thn (hi aU s1 σ H1 _ I1 q1) λiv s2 hq0=>?_));obtain⟨y,H2,I2,r2,q2⟩:=hq0;refine xba (wpAny_standAt (xba (xeo (thn (hs aU s2 σ H2 x y v ov iv u _ I2 r1 r2 r q2) λ_ s3 hq0=>?_))));obtain⟨H3,I3,q3⟩:=hq0;exact wpAny_release ⟨σ,H3,I3,q3⟩
end
def tAsg (te:TE) (g:TG):TS:=λD σ H=>te σ H λx H1=>g x σ H1 D.nx
section
variable {X:Cx}{pos:Pos}
theorem zbor {tg e:Expr}{te:TE}{g:TG}(he:PE X e te)(hg:PG X tg g)(hs:swapsWithSole [tg] e pos.line X.env=pure false:=by rfl)(hw:swappedStores [tg] e X.env=pure none:=by rfl)
  (h1:(assignEach [tg] X.env).map (·.2)=[assign tg X.env]:=by rfl):PS X (.Assign [tg] e pos) (tAsg te g):=by
 intro aU s σ H D I h;refine wpAny_Assign_stores (thn (he aU s σ H _ I h) λv s1 hq0=>?_) hs hw;obtain⟨x,H1,I1,r1,q1⟩:=hq0;rw[h1];exact thn (hg aU s1 σ H1 x v _ I1 r1 q1) λ_ s2 q=>q
theorem zbon {i:Nat}{x:Str}{e:Expr}{te:TE}{pos':Pos}(hN:X.N.Nodup)(hi:X.N[i]?=some x)(hx:Loc X.env.scope x)(he:PE X e te)(hs:swapsWith e (some (.Name x pos')) pos.line X.env=pure false:=by rfl)(hf:X.fn x=true\/X.env.scope.names.lookup x=some .local:=by first | exact .inl rfl | exact .inr rfl | assumption) :
  PS X (.Assign [.Name x pos'] e pos) (tAsg te (gName i)):=by
 intro aU s σ H D I h;refine wpAny_Assign_Name (thn (he aU s σ H _ I h) λv s1 hq0=>?_) hs;obtain⟨y,H1,I1,r1,q1⟩:=hq0;exact zoj I1 hN hi hx r1 (λs2 I2=>⟨_,H1,I2,q1⟩) hf
end
def tAug (i:Nat) (te:TE) (ti:TIp):TS:=λD σ H=>∃x,σ[i]?=some (some x)/\te σ H λy H1=>ti x y H1 λz H2=>D.nx (σ.set i (some z)) H2
section
variable {X:Cx}{pos:Pos}
theorem zboq {i:Nat}{x:Str}{e:Expr}{te:TE}{op:Operator}{ti:TIp}{pos':Pos}(hN:X.N.Nodup)(hi:X.N[i]?=some x)(hx:Loc X.env.scope x)(he:PE X e te)(ho:PIp X op ti)(hf:X.fn x=true\/X.env.scope.names.lookup x=some .local:=by first | exact .inl rfl | exact .inr rfl | assumption) :
  PS X (.AugAssign (.Name x pos') op e pos) (tAug i te ti):=by
 intro aU s σ H D I h;obtain⟨v,e1,h⟩:=h;obtain⟨m,hn,hl⟩:=I.loc;have vis:Vis X.env.scope x:=by rcases hx with k | k;exact .inl k;exact .inr (.inl k)
 obtain⟨u,r,l⟩:=hl i x v hi e1 vis;refine wpAny_AugAssign_Name ?_;have go:wpAny (model X.prog X.w) X.A (eval e X.env) (λw s₂=>wpAny (model X.prog X.w) X.A (inplaceOp op u w) (λr s₃=>wpAny (model X.prog X.w) X.A (storeName X.env x r) (λ_=>SP X aU D .next) X.xe s₃) X.xe s₂) X.xe s:=by
  refine thn (he aU s σ H _ I h) λw s1 hq0=>?_
  obtain⟨y,H1,I1,r1,q1⟩:=hq0;refine thn (ho aU s1 σ H1 v y u w _ I1 r r1 q1) λz s2 hq0=>?_
  obtain⟨zv,H2,I2,r2,q2⟩:=hq0;exact zoj I2 hN hi hx r2 (λs3 I3=>⟨_,H2,I3,q2⟩) hf
 rcases l with⟨hk,hm⟩ | ⟨hk,c,hc,hcell⟩
 ·exact wpAny_loadName_local I.ok.kind hk hn hm go
 ·rcases hk with hk | hk
  ·exact wpAny_loadName_cell I.ok.kind hk hc hcell go
  ·rcases hx with k | k
   ·have:X.env.scope.names.lookup x=some .free:=hk;rw[k] at this;cases this
   ·have:X.env.scope.names.lookup x=some .free:=hk;rw[k] at this;cases this
end
def ipI (f:Int->Int->Int):TIp:=λx y H Q=>∃i j,x=.int i/\y=.int j/\Q (.int (f i j)) H
theorem zbqj:PIp X .Add (ipI λi j=>i+j):=by
 intro aU s σ H x y v u Q I r1 r2 h;obtain⟨i,j,e1,e2,q⟩:=h;subst e1;subst e2
 obtain⟨t,rfl⟩:=r1;obtain⟨t',rfl⟩:=r2;exact iadd_int ⟨.int _,H,I.tok _,⟨_,rfl⟩,q⟩
theorem zbqi:PIp X .Sub (ipI λi j=>i - j):=by
 intro aU s σ H x y v u Q I r1 r2 h;obtain⟨i,j,e1,e2,q⟩:=h;subst e1;subst e2
 obtain⟨t,rfl⟩:=r1;obtain⟨t',rfl⟩:=r2;exact isub_int ⟨.int _,H,I.tok _,⟨_,rfl⟩,q⟩
end
section
def tWhile (c:TT) (tb:TS):TS:=λD σ H=>∃W:Nat->St->Hp->Prop,(∃m,W m σ H)/\∀m σ H,W m σ H ->
 c σ H λb H1=>if b=true then ∃N:St->Hp->Prop,(∀σ' H',N σ' H'->∃m',m' < m/\W m' σ' H')/\tb {D with nx:=N,ct:=N,bk:=D.nx} σ H1 else D.nx σ H1
section
variable {X:Cx}{pos:Pos}
theorem zbeh {c:Expr}{body:List Stmt}{tc:TT}{tb:TS}(hp:PassesOwn (model X.prog X.w) X.A X.env X.xe)(hc:PT X c tc)(hb:PSs X body tb):PS X (.While c body [] pos) (tWhile tc tb):=by
 intro aU s σ H D I h;obtain⟨W,⟨m0,w0⟩,turn⟩:=h;refine wpAny_While (codeAny_whileLoop (λn s'=>∃σ' H',Inv X aU σ' H' s'/\W n σ' H') ?_ m0 ⟨σ,H,I,w0⟩);rintro n s1 ⟨σ1,H1,I1,w1⟩;refine xht hp (thn (hc aU s1 σ1 H1 _ I1 (turn n σ1 H1 w1)) λb s2 hq0=>?_);obtain⟨H2,I2,q2⟩:=hq0;cases b with
 | true =>
  obtain⟨N,hN,q2⟩:=q2;rw[if_pos rfl];refine xht hp (thn (hb aU s2 σ1 H2 _ I2 q2) λf s3 q3=>?_);cases f with
  | next =>
   obtain⟨σ3,H3,I3,n3⟩:=q3;obtain⟨m',hm,w3⟩:=hN σ3 H3 n3;exact⟨m',hm,σ3,H3,I3,w3⟩
  | cont =>
   obtain⟨σ3,H3,I3,n3⟩:=q3;obtain⟨m',hm,w3⟩:=hN σ3 H3 n3;exact⟨m',hm,σ3,H3,I3,w3⟩
  | brk=>exact q3
  | ret v=>exact q3
 | false =>
  rw[if_neg xft];exact xlw ⟨σ1,H2,I2,q2⟩
end
end
structure It where
 go:Nat->Hp->Prop
 yld:Nat->Hp->V->Hp->Prop
 stop:Nat->Hp->Prop
def FpOk (X:Cx) (aU:List (Addr×Obj)) (H:Hp) (b:Addr):Prop :=
 H b=none/\b≠X.env.locals/\b∉X.fs/\(b∈X.ex\/X.s₀.heap.objs.size<=b)/\(∀x c,X.env.cells.lookup x=some c->c≠b)/\∀p∈X.pn++aU,p.1≠b
theorem Inv.fpOk       (I:Inv X aU σ H s)(hb:s.heap.objs.size<=b)(hn:H' b=none):FpOk X aU H' b:=by
 refine⟨hn,xhi (xbk I.lt hb),I.nofs hb,.inr (xbc I.sz hb),λx c e z=>?_,λp hp z=>?_⟩
 ·obtain⟨v,q⟩:=I.cell x c e;exact absurd (xbk q.lt (by rw[z];exact hb)) (xgn _)
 ·exact absurd (xbk (xbr (I.pin p hp).1) (by rw[z];exact hb)) (xgn _)
structure Turn (P:Program) (w:World) (K:Fg) (tg:Expr) (J:It) (fp:List Addr) (it:Addr) (tn:Nat->Heap->Prop):Prop where
 mem:it∈fp
 obj:∀i h,tn i h->∀b∈fp,∃o,h.get? b=some o/\∀v,o.data≠.cell v
 keep:∀i h h',tn i h->(∀b∈fp,∀o,h.get? b=some o->h'.get? b=some o)->tn i h'
 item:∀(X:Cx),X.prog=P->X.w=w->X.K=K->X.calm=true->∀(i:Nat) (aU:List (Addr×Obj)) (s:Shared) (σ:St) (H:Hp) (E:Value->Shared->Prop),Inv X aU σ H s->(∀b∈fp,FpOk X aU H b)->tn i s.heap->J.go i H ->
  wpAny (model P w) X.A (pyNext (.ref it)) (λr s1=>∃u,r=some u /\
   wpAny (model P w) X.A (letOwnedTupleGo tg (.ref it) u) (λ_ s2=>∃x H',Inv X aU σ H' s2/\RelV x u/\J.yld i H x H'/\tn (i+1) s2.heap/\∀b∈fp,H' b=none) E s1) E s
 done:∀(X:Cx),X.prog=P->X.w=w->X.K=K->X.calm=true->∀(i:Nat) (aU:List (Addr×Obj)) (s:Shared) (σ:St) (H:Hp) (E:Value->Shared->Prop),Inv X aU σ H s->(∀b∈fp,FpOk X aU H b)->tn i s.heap->J.stop i H ->
  wpAny (model P w) X.A (pyNext (.ref it)) (λr s1=>r=none/\Inv X aU σ H s1) E s
 self:∀(A:Around) (i:Nat) (s:Shared) (Q:Value->Shared->Prop) (E:Value->Shared->Prop),tn i s.heap->Q (.ref it) s->wpAny (model P w) A (pyIter (.ref it)) Q E s
abbrev TI:=St->Hp->(It->Hp->Prop)->Prop
def PIE (X:Cx) (aU:List (Addr×Obj)) (σ:St) (tg:Expr) (R:It->Hp->Prop) (itv:Value) (s2:Shared):Prop :=
 ∃(it:Addr) (fp:List Addr) (tn:Nat->Heap->Prop) (J:It) (H':Hp),itv=.ref it/\Inv X aU σ H' s2/\Turn X.prog X.w X.K tg J fp it tn/\tn 0 s2.heap/\(∀b∈fp,FpOk X aU H' b)/\R J H'
def PI (X:Cx) (tg iter:Expr) (wi:TI):Prop :=
 ∀(aU:List (Addr×Obj)) (s:Shared) (σ:St) (H:Hp) (R:It->Hp->Prop),Inv X aU σ H s->wi σ H R ->
  wpAny (model X.prog X.w) X.A (eval iter X.env) (λv s1=>wpAny (model X.prog X.w) X.A (pyIter v) (PIE X aU σ tg R) X.xe s1) X.xe s
theorem zbnn {M:Model}   {s:Shared}        (ho:s.heap.get? it=some o)(hc:o.cls=.type n)(hd:o.data=.fields vs)
    (hn:["enumerate","zip","dict_itemiterator","dict_reverseitemiterator","odict_iterator","itertools.zip_longest","itertools.pairwise"].contains n=false)(hQ:Q () s):wpAny M A (letOwnedTupleGo tg (.ref it) u) Q E s:=by
  unfold letOwnedTupleGo;cases tg <;> first
    | exact xbd hQ
    | (cases u <;> first
        | exact xbd hQ
        | (refine xba (wpAny_load ho ?_)
           rw[hc,hd];show wpAny M A (if(["enumerate","zip","dict_itemiterator","dict_reverseitemiterator","odict_iterator","itertools.zip_longest","itertools.pairwise"].contains n&&vs[0]?==some (rawInt _))=true then _ else _) Q E s
           rw[if_neg (by intro h; rw[hn,Bool.false_and] at h; cases h)]
           exact xbd hQ))
def Itl (K:Fg) (a:Addr):It :=
 ⟨λi H=>∃xs x,SqL K H a xs/\xs[i]?=some x,λi H x H'=>H'=H/\∀xs,SqL K H a xs->xs[i]?=some x,λi H=>∃xs,SqL K H a xs/\xs.length<=i⟩
def Itt (K:Fg) (a:Addr):It :=
 ⟨λi H=>∃xs x,SqT K H a xs/\xs[i]?=some x,λi H x H'=>H'=H/\∀xs,SqT K H a xs->xs[i]?=some x,λi H=>∃xs,SqT K H a xs/\xs.length<=i⟩
noncomputable def Itr (lo:Int) (n:Nat):It:=⟨λi _=>i < n,λi H x H'=>H'=H/\x=.int (lo+i),λi _=>n<=i⟩
theorem zyc {P:Program}{w:World}{K:Fg}{tg:Expr}(a it:Addr):Turn P w K tg (Itl K a) [it] it (λi h=>h.IsListIter it a i) where
 mem:=by simp
 obj:=λi h au b hb=>by
  have e:b=it:=by simpa using hb
  subst e;obtain⟨o,e,c,d⟩:=au;exact⟨o,e,λv z=>by rw[d] at z;cases z⟩
 keep:=λi h h' au k=>au.at λo e=>k it (by simp) o e
 item:=by
  intro X hP hw hK hc i aU s σ H E I hf au hg;subst hP hw hK;obtain⟨xs,x,hq,hx⟩:=hg;obtain⟨its,rv,p,hz⟩:=I.list hq;obtain⟨u,hu,ru⟩:=rv.get hx;obtain⟨f0,f1,f2,f3,f4,f5⟩:=hf it (by simp);refine wpAny_pyNext_list_item au p.isList (x:=u) (by simpa using hu) λh' st' sb=>?_
  have I1:Inv X aU σ H {s with heap:=h'}:=I.turned (t':=s.toks) (λb o hb e=>(sb.2 b hb).trans e) f0 f1 f3 f4 f5;obtain⟨o,e,c,d⟩:=id st';exact⟨u,rfl,zbnn (s:={s with heap:=h'}) e c d (by decide) ⟨x,H,I1,ru,⟨rfl,λys hy=>by rw[I.list_inj hy hq];exact hx⟩,st',λb hb=>(hf b hb).1⟩⟩
 done:=by
  intro X hP hw hK hc i aU s σ H E I hf au hg;subst hP hw hK;obtain⟨xs,hq,hx⟩:=hg;obtain⟨its,rv,p,hz⟩:=I.list hq;obtain⟨f0,f1,f2,f3,f4,f5⟩:=hf it (by simp);have hl:=rv.length;exact wpAny_pyNext_list_end (I.ok.hd hc) au p.isList (by simp;lia) λh' eb=>⟨rfl,I.turned (t':=s.toks) (λb o hb e=>eb b o hb e) f0 f1 f3 f4 f5⟩
 self:=λ_ _ _ _ _ au h=>wpAny_pyIter_listiter au h
theorem ztk {P:Program}{w:World}{K:Fg}{tg:Expr}(a it:Addr):Turn P w K tg (Itt K a) [it] it (λi h=>h.IsTupleIter it a i) where
 mem:=by simp
 obj:=λi h au b hb=>by
  have e:b=it:=by simpa using hb
  subst e;obtain⟨o,e,c,d⟩:=au;exact⟨o,e,λv z=>by rw[d] at z;cases z⟩
 keep:=λi h h' au k=>au.at λo e=>k it (by simp) o e
 item:=by
  intro X hP hw hK hc i aU s σ H E I hf au hg;subst hP hw hK;obtain⟨xs,x,hq,hx⟩:=hg;obtain⟨its,rv,p,hz⟩:=I.tuple hq;obtain⟨u,hu,ru⟩:=rv.get hx;obtain⟨f0,f1,f2,f3,f4,f5⟩:=hf it (by simp);refine wpAny_pyNext_tuple_item au (show s.heap.IsTuple a its.toArray from p) (x:=u) (by simpa using hu) λh' st' sb=>?_
  have I1:Inv X aU σ H {s with heap:=h'}:=I.turned (t':=s.toks) (λb o hb e=>(sb.2 b hb).trans e) f0 f1 f3 f4 f5;obtain⟨o,e,c,d⟩:=id st';exact⟨u,rfl,zbnn (s:={s with heap:=h'}) e c d (by decide) ⟨x,H,I1,ru,⟨rfl,λys hy=>by rw[I.tuple_inj hy hq];exact hx⟩,st',λb hb=>(hf b hb).1⟩⟩
 done:=by
  intro X hP hw hK hc i aU s σ H E I hf au hg;subst hP hw hK;obtain⟨xs,hq,hx⟩:=hg;obtain⟨its,rv,p,hz⟩:=I.tuple hq;obtain⟨f0,f1,f2,f3,f4,f5⟩:=hf it (by simp);have hl:=rv.length;exact wpAny_pyNext_tuple_end (I.ok.hd hc) au (show s.heap.IsTuple a its.toArray from p) (by simp;lia) λh' eb=>⟨rfl,I.turned (t':=s.toks) (λb o hb e=>eb b o hb e) f0 f1 f3 f4 f5⟩
 self:=λ_ _ _ _ _ au h=>wpAny_pyIter_tupleiter au h
theorem ztl {P:Program}{w:World}{K:Fg}{tg:Expr}(it:Addr)(lo:Int)(n:Nat):Turn P w K tg (Itr lo n) [it] it (λi h=>IsRangeIter h it (lo+(i:Nat) * 1) ((n:Int) - (i:Nat)) 1) where
 mem:=by simp
 obj:=λi h au b hb=>by
  have e:b=it:=by simpa using hb
  subst e
  exact⟨_,au,λv z=>by
   have z':Data.fields _=Data.cell v:=z
   cases z'⟩
 keep:=λi h h' au k=>k it (by simp) _ au
 item:=by
  intro X hP hw hK hc i aU s σ H E I hf au hg;subst hP hw hK;obtain⟨f0,f1,f2,f3,f4,f5⟩:=hf it (by simp);have W:=Walks.range (prog:=X.prog) (w:=X.w) (I.ok.hd hc) it lo 1 n;refine W.item i s _ _ hg au λv h' tk hv st' kk=>?_
  obtain⟨t,rfl⟩:=hv;have I1:Inv X aU σ H {s with heap:=h',toks:=tk}:=I.turned (λb o hb e=>kk b o (by simpa using hb) e) f0 f1 f3 f4 f5;refine⟨_,rfl,zbnn (s:={ s with heap:=h', toks:=tk }) (n:="range_iterator") st' rfl rfl (by decide) ⟨.int (lo + i),H,I1,⟨t,?_⟩,⟨rfl,rfl⟩,st', λb hb=>(hf b hb).1⟩⟩
  rw[Int.mul_one]
 done:=by
  intro X hP hw hK hc i aU s σ H E I hf au hg;subst hP hw hK;obtain⟨f0,f1,f2,f3,f4,f5⟩:=hf it (by simp);exact wpAny_pyNext_range_end (I.ok.hd hc) au (by have:n<=i:=hg;lia) λh' eb=>⟨rfl,I.turned (t':=s.toks) (λb o hb e=>eb b o hb e) f0 f1 f3 f4 f5⟩
 self:=λ_ _ _ _ _ au h=>wpAny_pyIter_rangeiter au h
section
def iList (K:Fg) (tl:TE):TI:=λσ H R=>tl σ H λx H1=>∃a,x=.ref a/\(∃xs,SqL K H1 a xs)/\R (Itl K a) H1
def iTup (K:Fg) (tl:TE):TI:=λσ H R=>tl σ H λx H1=>∃a,x=.ref a/\(∃xs,SqT K H1 a xs)/\R (Itt K a) H1
section
variable {X:Cx}{tg:Expr}
theorem zbjf {l:Expr}{tl:TE}(hl:PE X l tl):PI X tg l (iList X.K tl):=by
 intro aU s σ H R I h;refine thn (hl aU s σ H _ I h) λv s1 hq0=>?_
 obtain⟨x,H1,I1,r1,q1⟩:=hq0;obtain⟨a,e,⟨xs,hq⟩,q⟩:=q1;subst e;cases r1;obtain⟨its,rv,p,hz⟩:=I1.list hq;refine xjl p.isList ?_;refine⟨s1.heap.objs.size,[s1.heap.objs.size],_,_,H1,rfl,I1.kept (t':=s1.toks) λb o e=>xbf _ e,zyc a _,⟨_,xbu _ rfl,rfl,rfl⟩,λb hb=>?_,q⟩;have e:b=s1.heap.objs.size:=by simpa using hb
 subst e;exact I1.fpOk (xbg _) (I1.hok.fresh (xbg _))
theorem zbot {l:Expr}{tl:TE}(hl:PE X l tl):PI X tg l (iTup X.K tl):=by
 intro aU s σ H R I h;refine thn (hl aU s σ H _ I h) λv s1 hq0=>?_
 obtain⟨x,H1,I1,r1,q1⟩:=hq0;obtain⟨a,e,⟨xs,hq⟩,q⟩:=q1;subst e;cases r1;obtain⟨its,rv,p,hz⟩:=I1.tuple hq;refine xja (show s1.heap.IsTuple a its.toArray from p) ?_;refine⟨s1.heap.objs.size,[s1.heap.objs.size],_,_,H1,rfl,I1.kept (t':=s1.toks) λb o e=>xbf _ e,ztk a _,⟨_,xbu _ rfl,rfl,rfl⟩,λb hb=>?_,q⟩;have e:b=s1.heap.objs.size:=by simpa using hb
 subst e;exact I1.fpOk (xbg _) (I1.hok.fresh (xbg _))
end
theorem zuh    {s:Shared}   {lo hi:Int}  {tk:Nat}(I:Inv X aU σ H s)(h1:-(2 ^ 62)<=lo)(h2:lo < 2 ^ 62)(h3:-(2 ^ 62)<=hi)(h4:hi < 2 ^ 62)
  (q:R (Itr lo (hi - lo).toNat) H):wpAny (model X.prog X.w) X.A (pyIter (.ref s.heap.objs.size)) (PIE X aU σ tg R) E { s with heap:=s.heap.push { cls:=.type "range", data:=.fields #[.int lo t,.int hi u,.int 1 v] },toks:=tk }:=by
 refine wpAny_pyIter_range (IsRange.new ..) (small_one h1 h2 h3 h4) ?_;have I1:Inv X aU σ H { s with heap:=s.heap.push { cls:=.type "range", data:=.fields #[.int lo t,.int hi u,.int 1 v] },toks:=tk }:=I.kept λb o e=>xbf _ e
 refine⟨(s.heap.push { cls:=.type "range", data:=.fields #[.int lo t,.int hi u,.int 1 v] }).objs.size,[(s.heap.push { cls:=.type "range", data:=.fields #[.int lo t,.int hi u,.int 1 v] }).objs.size],_,_,H,rfl,
  I1.kept (t':=tk) λb o e=>xbf _ e,ztl _ lo (hi - lo).toNat,?_,λb hb=>?_,q⟩
 ·have e1:lo+((0:Nat):Int) * 1=lo:=by simp
  have e2:(((hi - lo).toNat:Nat):Int) - ((0:Nat):Int)=Builtin.Range.rangeSize lo hi 1:=by rw[rangeSize_one];split<;>lia
  show IsRangeIter _ _ (lo+((0:Nat):Int) * 1) ((((hi - lo).toNat:Nat):Int) - ((0:Nat):Int)) 1;rw[e1,e2];exact xbu _ rfl
 ·have e:b=(s.heap.push { cls:=.type "range", data:=.fields #[.int lo t,.int hi u,.int 1 v] }).objs.size:=by simpa using hb
  subst e;exact I1.fpOk (xbg _) (I1.hok.fresh (xbg _))
def iRng1 (ta:TA):TI:=λσ H R=>ta σ H λvs H1=>∃j:Int,vs=[.int j]/\-(2 ^ 62)<=j/\j < 2 ^ 62/\R (Itr 0 j.toNat) H1
def iRng2 (ta:TA):TI:=λσ H R=>ta σ H λvs H1=>∃i j:Int,vs=[.int i,.int j]/\(-(2 ^ 62)<=i/\i < 2 ^ 62/\-(2 ^ 62)<=j/\j < 2 ^ 62)/\R (Itr i (j - i).toNat) H1
section
variable {X:Cx}{tg:Expr}
theorem zyz {a:Expr}{ta:TA}{p pos:Pos}(hg:Gl X "range")(hm:X.mg "range"=none)(ha:PA X [a] ta)(hs:starEach [a] X.env=[(false,eval a X.env)]:=by rfl):PI X tg (.Call (.Name "range" p) [a] [] pos) (iRng1 ta):=by
 intro aU s σ H R I h;refine Call_ (zno I hg hm boot_range (xgj (thn (ha pos aU s σ H _ I h) λus s1 hq0=>?_) hs rfl));obtain⟨vs,H1,I1,r1,q1⟩:=hq0;obtain⟨j,e,q1,q2,q⟩:=q1;subst e;cases r1 with
 | cons r rr =>
  cases rr;obtain⟨t,rfl⟩:=r;exact call_range_1 (zuh I1 (by lia) (by lia) q1 q2 (by simpa using q))
theorem zyy {a b:Expr}{ta:TA}{p pos:Pos}(hg:Gl X "range")(hm:X.mg "range"=none)(ha:PA X [a,b] ta)(hs:starEach [a,b] X.env=[(false,eval a X.env),(false,eval b X.env)]:=by rfl)(hs2:starEach [b] X.env=[(false,eval b X.env)]:=by rfl) :
  PI X tg (.Call (.Name "range" p) [a,b] [] pos) (iRng2 ta):=by
 intro aU s σ H R I h;refine Call_ (zno I hg hm boot_range (xgj (thn (ha pos aU s σ H _ I h) λus s1 ⟨vs,H1,I1,r1,q1⟩=>?_) (by rw[hs,hs2]) (by rw[hs2];rfl)));obtain⟨i,j,e,⟨q1,q2,q3,q4⟩,q⟩:=q1;subst e;cases r1 with
 | cons r rr =>
  cases rr with
  | cons r' rr =>
   cases rr;obtain⟨t,rfl⟩:=r;obtain⟨t',rfl⟩:=r';exact call_range_2 (zuh I1 q1 q2 q3 q4 q)
end
def tFor (wi:TI) (g:TG) (tb:TS):TS:=λD σ H=>wi σ H λJ H1=>∃W:Nat->Nat->St->Hp->Prop,(∃m,W 0 m σ H1)/\∀i m σ H,W i m σ H ->
 (J.stop i H/\D.nx σ H)\/(J.go i H/\∃N:St->Hp->Prop,(∀σ' H',N σ' H'->∃m',m' < m/\W (i+1) m' σ' H')/\∀x H',J.yld i H x H'->g x σ H' λσ2 H2=>tb {D with nx:=N,ct:=N,bk:=D.nx} σ2 H2)
noncomputable def pinsAt (fp:List Addr) (h:Heap):List (Addr×Obj):=fp.filterMap λb=>(h.get? b).map λo=>(b,o)
theorem zgg  {h:Heap}   (hb:b∈fp)(e:h.get? b=some o):(b,o)∈pinsAt fp h:=List.mem_filterMap.mpr ⟨b,hb,by rw[e];rfl⟩
theorem zzf    (hp:p∈pinsAt fp h):p.1∈fp/\h.get? p.1=some p.2:=by
 obtain⟨b,hb,e⟩:=List.mem_filterMap.mp hp;cases q:h.get? b with
 | none=>rw[q] at e;cases e
 | some o =>
  rw[q] at e;have e':(b,o)=p:=xcs e;subst e';exact⟨hb,q⟩
theorem Inv.pinned      (I:Inv X aU σ H s)(hf:∀b∈fp,FpOk X aU H b)(ho:∀b∈fp,∃o,s.heap.get? b=some o/\∀v,o.data≠.cell v):Inv X (aU++pinsAt fp s.heap) σ H s :=
 I.pins_of λp hp=>(xbx.mp hp).elim (λz=>I.pin p (xde _ z)) λz=>by
  obtain⟨hb,e⟩:=zzf z;obtain⟨f0,f1,f2,_⟩:=hf p.1 hb;obtain⟨o,e',d⟩:=ho p.1 hb;rw[e] at e';cases e'
  exact⟨e,f0,f1,f2,d⟩
theorem Inv.unpinned     (I:Inv X (aU++pl) σ H s):Inv X aU σ H s:=I.pins_of λp hp=>I.pin p (xde _ (xeb _ hp))
section
variable {X:Cx}{tg:Expr}
theorem zbop {iter:Expr}{body:List Stmt}{wi:TI}{g:TG}{tb:TS}{pos:Pos}(hp:PassesOwn (model X.prog X.w) X.A X.env X.xe)(hc:X.calm=true)(hi:PI X tg iter wi)(hg:PG X tg g)(hb:PSs X body tb)
  (hs:∀x,foldedSetIterable iter X.env x=pure x:=by intro _;rfl):PS X (.For tg iter body [] pos) (tFor wi g tb):=by
 intro aU s σ H D I h;refine wpAny_For (thn (hi aU s σ H _ I h) λv s1 h1=>thn h1 λitv s2 h2=>?_) hs;obtain⟨it,fp,tn,J,H2,e,I2,T,st2,f2,W,⟨m0,w0⟩,turn⟩:=h2;subst e;have stat:∀{H':Hp},(∀b∈fp,H' b=none)->∀b∈fp,FpOk X aU H' b:=λhn b hb=>⟨hn b hb,(f2 b hb).2⟩
 refine codeAny_forLoop_any (λn s'=>∃i σ' H',Inv X aU σ' H' s'/\tn i s'.heap/\(∀b∈fp,H' b=none)/\W i n σ' H') ?_ m0 ⟨0,σ,H2,I2,st2,λb hb=>(f2 b hb).1,w0⟩;rintro n s3 ⟨i,σ3,H3,I3,st3,fr3,w3⟩;rcases turn i n σ3 H3 w3 with⟨stop,qn⟩ | ⟨go,N,hN,step⟩
 ·refine xht hp (thn (T.done X rfl rfl rfl hc i aU s3 σ3 H3 X.xe I3 (stat fr3) st3 stop) λr s4 hq0=>?_);obtain⟨hr,I4⟩:=hq0;subst hr;exact xlw ⟨σ3,H3,I4,qn⟩
 ·refine xht hp (thn (T.item X rfl rfl rfl hc i aU s3 σ3 H3 X.xe I3 (stat fr3) st3 go) λr s4 hq0=>?_);obtain⟨u,hr,h4⟩:=hq0;subst hr;refine xht hp (thn h4 λ_ s5 hq0=>?_);obtain⟨x,H5,I5,r5,y5,st5,fr5⟩:=hq0;have I5':=I5.pinned (stat fr5) (T.obj _ _ st5);refine xht hp (thn (hg _ s5 σ3 H5 x u _ I5' r5 (step x H5 y5)) λ_ s6 hq0=>?_);obtain⟨σ6,H6,I6,q6⟩:=hq0;refine xht hp (thn (hb _ s6 σ6 H6 _ I6 q6) λf s7 q7=>?_);have again:∀{σ7:St} {H7:Hp},Inv X (aU++pinsAt fp s5.heap) σ7 H7 s7->N σ7 H7->∃m,m < n/\∃i σ' H',Inv X aU σ' H' s7/\tn i s7.heap/\(∀b∈fp,H' b=none)/\W i m σ' H':=λ{σ7 H7} I7 n7=>by
   obtain⟨m',hm,w7⟩:=hN σ7 H7 n7;refine⟨m',hm,i+1,σ7,H7,I7.unpinned,T.keep _ _ _ st5 λb hb o e=>(I7.pin (b,o) (xde _ (xde _ (zgg hb e)))).1,λb hb=>?_,w7⟩;obtain⟨o,e,d⟩:=T.obj _ _ st5 b hb;exact(I7.pin (b,o) (xde _ (xde _ (zgg hb e)))).2.1
  cases f with
  | next=>obtain⟨σ7,H7,I7,n7⟩:=q7;exact again I7 n7
  | cont=>obtain⟨σ7,H7,I7,n7⟩:=q7;exact again I7 n7
  | brk=>obtain⟨σ7,H7,I7,q7⟩:=q7;exact⟨σ7,H7,I7.unpinned,q7⟩
  | ret v=>obtain⟨x7,σ7,H7,I7,r7,q7⟩:=q7;exact⟨x7,σ7,H7,I7.unpinned,r7,q7⟩
end
end
abbrev R2:=V->V->Hp->VK->Prop
def OpR (X:Cx) (f:Value->Value->Sem Value) (r:R2):Prop :=
 ∀(aU:List (Addr×Obj)) (s:Shared) (σ:St) (H:Hp) (x y:V) (v u:Value) (Q:VK),Inv X aU σ H s->RelV x v->RelV y u->r x y H Q ->
  wpAny (model X.prog X.w) X.A (f v u) (EP X aU σ Q) X.xe s
def CallR (X:Cx) (f:Value) (r:List V->Hp->VK->Prop):Prop :=
 ∀(aU:List (Addr×Obj)) (s:Shared) (σ:St) (H:Hp) (xs:List V) (us:List Value) (Q:VK),Inv X aU σ H s->Vals xs us->r xs H Q ->
  wpAny (model X.prog X.w) X.A (call f us) (EP X aU σ Q) X.xe s
def TruR (X:Cx) (r:V->Hp->(Bool->Hp->Prop)->Prop):Prop :=
 ∀(aU:List (Addr×Obj)) (s:Shared) (σ:St) (H:Hp) (x:V) (v:Value) (Q:Bool->Hp->Prop),Inv X aU σ H s->RelV x v->r x H Q ->
  wpAny (model X.prog X.w) X.A (truthy v) (TP X aU σ Q) X.xe s
def tOp (r:R2) (ta tb:TE):TE:=λσ H Q=>ta σ H λx H1=>tb σ H1 λy H2=>r x y H2 Q
def rI (C:Int->Int->Prop) (g:Int->Int->V):R2:=λx y H Q=>∃i j,x=.int i/\y=.int j/\C i j/\Q (g i j) H
def rI0 (g:Int->Int->V):R2:=λx y H Q=>∃i j,x=.int i/\y=.int j/\Q (g i j) H
section
section
variable {X:Cx}{a:Expr}{b:Expr}{ta:TE}{tb:TE}
theorem binT (ha:PE X a ta)(hb:PE X b tb){aU:List (Addr×Obj)}{s:Shared}{σ:St}{H:Hp}{R:V->V->Hp->Prop}(I:Inv X aU σ H s)
  (h:ta σ H λx H1=>tb σ H1 λy H2=>R x y H2){Q:Value->Shared->Prop}{f:Value->Value->Sem Value}
  (hf:∀v u s2 x y H2,Inv X aU σ H2 s2->RelV x v->RelV y u->R x y H2->wpAny (model X.prog X.w) X.A (f v u) Q X.xe s2) :
  wpAny (model X.prog X.w) X.A (eval a X.env) (λv s₁=>wpAny (model X.prog X.w) X.A (eval b X.env) (λu s₂=>wpAny (model X.prog X.w) X.A (f v u) Q X.xe s₂) X.xe s₁) X.xe s:=by
 refine thn (ha aU s σ H _ I h) λv s1 hq0=>?_
 obtain⟨x,H1,I1,r1,q1⟩:=hq0;refine thn (hb aU s1 σ H1 _ I1 q1) λu s2 hq0=>?_
 obtain⟨y,H2,I2,r2,q2⟩:=hq0;exact hf v u s2 x y H2 I2 r1 r2 q2
end
section
variable {X:Cx}{a:Expr}{b:Expr}{ta:TE}{tb:TE}{pos:Pos}
theorem zbty {op:Operator}{r:R2}(ho:OpR X (binaryOp op) r)(ha:PE X a ta)(hb:PE X b tb):PE X (.BinOp a op b pos) (tOp r ta tb):=by
 intro aU s σ H Q I h;exact wpAny_BinOp (binT ha hb I h λv u s2 x y H2 I2 rx ry q=>ho aU s2 σ H2 x y v u Q I2 rx ry q)
end
section
variable {X:Cx}
theorem opI {f:Value->Value->Sem Value}{C:Int->Int->Prop}{g:Int->Int->Int}
  (rule:∀(i j:Int) (t u:Tok) (s:Shared) (Q:Value->Shared->Prop) (E:Value->Shared->Prop),C i j->Q (.int (g i j) s.toks) {s with toks:=s.toks+1}->wpAny (model X.prog X.w) X.A (f (.int i t) (.int j u)) Q E s) :
  OpR X f (rI C λi j=>.int (g i j)):=by
 intro aU s σ H x y v u Q I rx ry h;obtain⟨i,j,rfl,rfl,hc,q⟩:=h;obtain⟨t,rfl⟩:=rx;obtain⟨t',rfl⟩:=ry;exact rule i j t t' s _ _ hc ⟨.int (g i j),H,I.tok _,⟨_,rfl⟩,q⟩
theorem opI0 {f:Value->Value->Sem Value}{g:Int->Int->Int}
  (rule:∀(i j:Int) (t u:Tok) (s:Shared) (Q:Value->Shared->Prop) (E:Value->Shared->Prop),Q (.int (g i j) s.toks) {s with toks:=s.toks+1}->wpAny (model X.prog X.w) X.A (f (.int i t) (.int j u)) Q E s) :
  OpR X f (rI0 λi j=>.int (g i j)):=by
 intro aU s σ H x y v u Q I rx ry h;obtain⟨i,j,rfl,rfl,q⟩:=h;obtain⟨t,rfl⟩:=rx;obtain⟨t',rfl⟩:=ry;exact rule i j t t' s _ _ ⟨.int (g i j),H,I.tok _,⟨_,rfl⟩,q⟩
theorem opB0 {f:Value->Value->Sem Value}{g:Int->Int->Bool}
  (rule:∀(i j:Int) (t u:Tok) (s:Shared) (Q:Value->Shared->Prop) (E:Value->Shared->Prop),Q (.bool (g i j)) s->wpAny (model X.prog X.w) X.A (f (.int i t) (.int j u)) Q E s) :
  OpR X f (rI0 λi j=>.bl (g i j)):=by
 intro aU s σ H x y v u Q I rx ry h;obtain⟨i,j,rfl,rfl,q⟩:=h;obtain⟨t,rfl⟩:=rx;obtain⟨t',rfl⟩:=ry;exact rule i j t t' s _ _ ⟨.bl (g i j),H,I,rfl,q⟩
end
noncomputable def CPow (i j:Int):Prop:=0<=j/\j<=1000000/\i.natAbs < 2 ^ 64
noncomputable def CMul (i j:Int):Prop:=(-(2 ^ 64) < i/\i < 2 ^ 64)\/(-(2 ^ 64) < j/\j < 2 ^ 64)
theorem CMul.ok  (h:CMul i j):IntMulOk i j:=by
 rcases h with⟨h1,h2⟩ | ⟨h1,h2⟩
 ·exact .of_left (intBits_le_64 h1 h2)
 ·exact .of_right (intBits_le_64 h1 h2)
theorem ztj (k:Nat):(0:Int)<=2 ^ k:=by
 rw[two_pow_cast];exact Int.natCast_nonneg _
theorem zbpp:OpR X (binaryOp .Add) (rI0 λi j=>.int (i+j)):=opI0 λ_ _ _ _ _ _ _ q=>add_int q
theorem zbez:OpR X (binaryOp .Sub) (rI0 λi j=>.int (i - j)):=opI0 λ_ _ _ _ _ _ _ q=>sub_int q
section
variable {X:Cx}
theorem zmz:OpR X (binaryOp .Mult) (rI CMul λi j=>.int (i * j)):=opI λ_ _ _ _ _ _ _ hc q=>mul_int q hc.ok
end
theorem zna:OpR X (binaryOp .Mod) (rI (λ_ j=>0 < j) λi j=>.int (i % j)):=opI λi j _ _ _ _ _ hc q=>by
 have h1:(0:Int) < j:=hc;exact mod_int' (by lia) (by rw[Int.fmod_eq_emod_of_nonneg i (by lia)];exact q)
section
variable {X:Cx}
theorem zbpi:OpR X (binaryOp .Pow) (rI CPow λi j=>.int (i ^ j.toNat)):=opI λ_ _ _ _ _ _ _ hc q=>pow_int_small hc.1 hc.2.1 hc.2.2 q
theorem zza:OpR X (binaryOp .LShift) (rI CPow λi j=>.int (i * 2 ^ j.toNat)):=opI λ_ _ _ _ _ _ _ hc q=>lshift_int_small hc.1 hc.2.1 hc.2.2 q
end
theorem zbjw:OpR X (binaryOp .RShift) (rI (λ_ j=>0<=j) λi j=>.int (i / 2 ^ j.toNat)):=opI λi j _ _ _ _ _ hc q =>
 rshift_int hc (by rw[xmo i (ztj _)];exact q)
theorem zsc:OpR X (binaryOp .BitAnd) (rI0 λi j=>.int (Builtin.bitAnd i j)):=opI0 λ_ _ _ _ _ _ _ q=>and_int q
theorem zbpj:OpR X (binaryOp .BitOr) (rI0 λi j=>.int (Builtin.bitOr i j)):=opI0 λ_ _ _ _ _ _ _ q=>or_int q
theorem zbjv:OpR X (binaryOp .BitXor) (rI0 λi j=>.int (Builtin.bitXor i j)):=opI0 λ_ _ _ _ _ _ _ q=>xor_int q
end
section
theorem zbqq       (I:Inv X aU σ H s)(q:Q (.bl k) H)(e:k=k'):EP X aU σ Q (.bool k') s:=by
 subst e;exact⟨.bl k,H,I,rfl,q⟩
theorem zbuc:OpR X (compareOp .Lt) (rI0 λi j=>.bl (decide (i < j))):=opB0 λ_ _ _ _ _ _ _ q=>lt_int q
theorem zbfa:OpR X (compareOp .LtE) (rI0 λi j=>.bl (decide (i<=j))):=opB0 λ_ _ _ _ _ _ _ q=>le_int q
theorem zbjy:OpR X (compareOp .Gt) (rI0 λi j=>.bl (decide (j < i))):=opB0 λ_ _ _ _ _ _ _ q=>gt_int q
theorem zbpn:OpR X (compareOp .GtE) (rI0 λi j=>.bl (decide (j<=i))):=opB0 λ_ _ _ _ _ _ _ q=>ge_int q
theorem zbpl:OpR X (compareOp .Is) (λx y H Q=>y=.non/\Q (.bl (decide (x=.non))) H):=by
 intro aU s σ H x y v u Q I rx ry h;obtain⟨rfl,q⟩:=h;cases ry;refine is_none_gen (zbqq I q ?_);cases x<;>first
  | (cases rx;rfl)
  | (obtain⟨t,rfl⟩:=rx;rfl)
theorem OpR.or   (h:OpR X f r)(h':OpR X f r'):OpR X f (λx y H Q=>r x y H Q\/r' x y H Q):=by
 intro aU s σ H x y v u Q I rx ry q;rcases q with q | q
 ·exact h aU s σ H x y v u Q I rx ry q
 ·exact h' aU s σ H x y v u Q I rx ry q
theorem nomark (b:Expr)  (h:op≠.In:=by decide)(h2:op≠.NotIn:=by decide):behindInMarks op b=false:=by
 have e1:(op==CmpOp.In)=false:=by cases op<;>first | rfl | exact absurd rfl h
 have e2:(op==CmpOp.NotIn)=false:=by cases op<;>first | rfl | exact absurd rfl h2
 cases b<;>simp[behindInMarks,e1,e2]
theorem zbjn   (ho:OpR X (compareOp op) r)(ha:PE X a ta)(hb:PE X b tb)(hm:behindInMarks op b=false):PE X (.Compare a [op] [b] pos) (tOp r ta tb):=by
 intro aU s σ H Q I h;exact wpAny_Compare1 (binT ha hb I h λv u s2 x y H2 I2 rx ry q=>ho aU s2 σ H2 x y v u Q I2 rx ry q) hm
def tTest (t:TE):TT:=λσ H Q=>t σ H λx H'=>∃k,x=.bl k/\Q k H'
section
variable {X:Cx}{a:Expr}{b:Expr}{c:Expr}{ta:TE}{tb:TE}{pos:Pos}
theorem zbiu {op:CmpOp}{r:R2}(ho:OpR X (compareOp op) r)(ha:PE X a ta)(hb:PE X b tb)(hm:behindInMarks op b=false):PT X (.Compare a [op] [b] pos) (tTest (tOp r ta tb)):=by
 intro aU s σ H Q I h
 refine wpAny_isTrue_Compare1 (thn (ha aU s σ H _ I h) λv s1 ⟨x,H1,I1,r1,q1⟩=>thn (hb aU s1 σ H1 _ I1 q1) λu s2 ⟨y,H2,I2,r2,q2⟩ =>
  thn (ho aU s2 σ H2 x y v u _ I2 r1 r2 q2) λc s3 ⟨z,H3,I3,r3,k,e,q3⟩=>?_) hm
 subst e;cases r3;exact xgi ⟨H3,I3,q3⟩
end
def TruV (K:Fg) (x:V) (H:Hp) (k:Bool):Prop :=
 match x with
 | .non=>k=false
 | .bl b=>k=b
 | .int i=>k=(i != 0)
 | .str y=>y.length<=sizeLine/\k=((y.length:Int) != 0)
 | .byt y=>y.size<=sizeLine/\k=((y.size:Int) != 0)
 | .ref p=>(∃xs,SqL K H p xs/\k=!xs.isEmpty)\/(∃xs,SqT K H p xs/\k=!xs.isEmpty)\/∃kvs,H p=some (.dK kvs)/\k=!kvs.isEmpty
 | _=>False
theorem zvr {κ:Type}{kvs:List (κ×V)}{vs:List (κ×Value)}(r:KV kvs vs):(!vs.isEmpty)=!kvs.isEmpty:=by
 cases r<;>rfl
theorem znq   (r:Vals xs its):(!its.toArray.isEmpty)=!xs.isEmpty:=by
 cases r<;>simp
theorem line63:(sizeLine:Nat) < 2 ^ 63:=by rw[xji];decide
section
variable {X:Cx}{b:Expr}
theorem zbnv:TruR X (λx H Q=>∃k,TruV X.K x H k/\Q k H):=by
 intro aU s σ H x v Q I rx h;obtain⟨k,e,q⟩:=h;have hl:=line63;have hs:sizeLine=16777216:=xji;cases x with
 | non =>
  cases rx;have e':k=false:=e;subst e';exact truthy_none ⟨H,I,q⟩
 | bl b =>
  cases rx;have e':k=b:=e;subst e';exact xgi ⟨H,I,q⟩
 | int i =>
  obtain⟨t,rfl⟩:=rx;have e':k=(i != 0):=e;subst e';exact PySem.P.truthy_int ⟨H,I,q⟩
 | str y =>
  obtain⟨t,rfl⟩:=rx;obtain⟨hy,e'⟩:y.length<=sizeLine/\k=((y.length:Int) != 0):=e;subst e';exact PySem.P.truthy_str (by lia) ⟨H,I.tok _,q⟩
 | byt y =>
  obtain⟨t,rfl⟩:=rx;obtain⟨hy,e'⟩:y.size<=sizeLine/\k=((y.size:Int) != 0):=e;subst e';exact W.truthy_bytes (by lia) ⟨H,I.tok _,q⟩
 | ref p =>
  cases rx;have e':(∃xs,SqL X.K H p xs/\k=!xs.isEmpty)\/(∃xs,SqT X.K H p xs/\k=!xs.isEmpty)\/∃kvs,H p=some (.dK kvs)/\k=!kvs.isEmpty:=e
  rcases e' with⟨xs,hx,e'⟩ | ⟨xs,hx,e'⟩ | ⟨kvs,hx,e'⟩
  ·subst e';obtain⟨its,r,pl,hz⟩:=I.list hx;have hlen:=r.length;exact wpAny_truthy_list pl.isList (by simp only[xbv];lia) ⟨H,I.tok _,by rw[znq r];exact q⟩
  ·subst e';obtain⟨its,r,pl,hz⟩:=I.tuple hx;have hlen:=r.length;exact truthy_tuple pl (by simp only[xbv];lia) ⟨H,I.tok _,by rw[znq r];exact q⟩
  ·subst e';obtain⟨hz,hS,vs,r,m⟩:kvs.length<=sizeLine/\(p==sysModules)=false/\∃vs,KV kvs vs/\s.heap.DictOf (mixKind X.prog X.w) p vs:=I.hok p _ hx
   have hlen:kvs.length=vs.length:=xiq r;exact wpAny_truthy_dict hS m (by lia) ⟨H,I.tok _,by rw[zvr r];exact q⟩
 | _=>exact(show False from e).elim
end
section
variable {X:Cx}{a:Expr}{ta:TE}
theorem zbef (ha:PE X a ta)(he:∀whole,isTrue a X.env whole=(do let v ← whole;standAt a.pos;holding [v] (truthy v))) :
  PT X a (λσ H Q=>ta σ H λx H'=>∃k,TruV X.K x H' k/\Q k H'):=by
 intro aU s σ H Q I h;exact isTrue_plain (thn (ha aU s σ H _ I h) λv s1 ⟨x,H1,I1,r1,q1⟩=>zbnv aU s1 σ H1 x v Q I1 r1 q1) (he _)
end
theorem zur:OpR X (binaryOp .Add) (λx y H Q=>∃i j,x=.str i/\y=.str j/\i.length+j.length<=sizeLine/\Q (.str (i++j)) H):=by
 intro aU s σ H x y v u Q I rx ry h;obtain⟨i,j,rfl,rfl,hz,q⟩:=h;obtain⟨t,rfl⟩:=rx;obtain⟨t',rfl⟩:=ry;exact add_str (λt' tk=>⟨.str (i++j),H,I.tok _,⟨_,rfl⟩,q⟩) hz
theorem vals1   (r:Vals [x] us):∃u,us=[u]/\RelV x u:=by
 cases r with
 | cons r1 r2=>cases r2;exact⟨_,rfl,r1⟩
theorem vals2   (r:Vals [x,y] us):∃u w',us=[u,w']/\RelV x u/\RelV y w':=by
 cases r with
 | cons r1 r2 =>
  cases r2 with
  | cons r3 r4=>cases r4;exact⟨_,_,rfl,r1,r3⟩
theorem zbgv:CallR X (.builtin "abs") (λxs H Q=>∃ i,xs=[.int i]/\Q (.int (if i < 0 then -i else i)) H):=by
 intro aU s σ H xs us Q I r h;obtain⟨i,rfl,q⟩:=h;obtain⟨u,rfl,t,rfl⟩:=vals1 r;exact call_abs_int λu tk=>⟨.int (if i < 0 then -i else i),H,I.tok _,⟨_,rfl⟩,q⟩
theorem zbay {X:Cx}(hc:X.calm=true):CallR X (.builtin "max") (λxs H Q=>∃ i j,xs=[.int i,.int j]/\Q (.int (if j > i then j else i)) H):=by
 intro aU s σ H xs us Q I r h;obtain⟨i,j,rfl,q⟩:=h;obtain⟨u,w',rfl,⟨t,rfl⟩,⟨t',rfl⟩⟩:=vals2 r;refine max_two_ints (I.ok.hd hc) λh' tk k=>⟨_,H,I.kept k,?_,q⟩
 by_cases hj:j > i
 ·rw[if_pos hj,if_pos hj];exact⟨_,rfl⟩
 ·rw[if_neg hj,if_neg hj];exact⟨_,rfl⟩
theorem zgm {X:Cx}(hc:X.calm=true):CallR X (.builtin "min") (λxs H Q=>∃ i j,xs=[.int i,.int j]/\Q (.int (if j < i then j else i)) H):=by
 intro aU s σ H xs us Q I r h;obtain⟨i,j,rfl,q⟩:=h;obtain⟨u,w',rfl,⟨t,rfl⟩,⟨t',rfl⟩⟩:=vals2 r;refine min_two_ints (I.ok.hd hc) λh' tk k=>⟨_,H,I.kept k,?_,q⟩
 by_cases hj:j < i
 ·rw[if_pos hj,if_pos hj];exact⟨_,rfl⟩
 ·rw[if_neg hj,if_neg hj];exact⟨_,rfl⟩
theorem zii:CallR X (.type "int") (λxs H Q=>(∃ i,xs=[.int i]/\Q (.int i) H)\/∃ k,xs=[.bl k]/\Q (.int (if k then 1 else 0)) H):=by
 intro aU s σ H xs us Q I r h;rcases h with⟨i,rfl,q⟩ | ⟨k,rfl,q⟩
 ·obtain⟨u,rfl,t,rfl⟩:=vals1 r;exact call_int_int ⟨.int i,H,I,⟨_,rfl⟩,q⟩
 ·obtain⟨u,rfl,r1⟩:=vals1 r;cases r1;exact call_int_bool ⟨.int (if k then 1 else 0),H,I.tok _,⟨_,rfl⟩,q⟩
end
structure ObjM (h:Heap) (x dx C:Addr) (mA:Str->Option Value):Prop where
 obj:h.get? x=some (W.instObj C dx)
 ns:h.Ns1 dx mA
 ne:dx≠x
theorem zzp {h:Heap}   (n:h.Ns1 dx mA):∃od,h.get? dx=some od/\∀name,W.lookIn name od=some (mA name):=by
 obtain⟨o,es,ep,ho,hd,hk,_,hm⟩:=n;refine⟨o,ho,λname=>?_⟩;have e:=hm name;unfold nsFind findBy at e;rw[← Array.find?_toList] at e;unfold W.lookIn;rw[hd];dsimp only;split
 ·rename_i y q;rw[q] at e;exact congrArg some e
 ·rename_i q;rw[q] at e;have a:es.toList.any (·.refKey)=false:=by
   rw[List.any_eq_false];intro y hy;obtain⟨z,t,hkey⟩:=hk y (xlm.mp hy);simp[DictEntry.refKey,hkey]
  have a':¬ es.toList.any (·.refKey)=true:=by rw[a];exact xft
  rw[if_neg a'];exact congrArg some e
theorem ObjM.look    (I:ObjM h x dx C mA):∃od,W.InstAt h x (W.instObj C dx) C (some od)/\∀name,W.lookIn name od=some (mA name) :=
 let ⟨od,ho,hl⟩:=zzp I.ns
 ⟨od,⟨I.obj,rfl,rfl,ho⟩,hl⟩
section
end
theorem RelO.some_of   (r:RelO (some v) o):∃u,o=some u/\RelV v u:=by
 cases o with
 | none=>exact(show False from r).elim
 | some u=>exact⟨u,rfl,r⟩
section
theorem zbkz (hok:HOk P w H h)(e:H a=some (.ins C dx fs)):∃mA,ObjM h a dx C mA/\(∀f,RelO (fs.lookup f) (mA f))/\PySem.Within mA (fs.map (·.1))/\fs.length<=1000/\H dx=some (.own a):=by
 obtain⟨d,z,ne,ob,mA,n,r,q⟩:=(show ObjOk P w H h a (.ins C dx fs) from hok a _ e)
 exact⟨mA,⟨ob,n,ne⟩,r,q,z,d⟩
end
structure Cls (K:Fg) (C:Addr):Prop where
 pg:W.plainGet K C Str.empty=true
 hd:W.hasDictIn K C=true
 po:W.plainOver K C=true
 sa:W.findIn K (.ref C) "__setattr__"=some (some (.builtin "object.__setattr__"))
theorem Cls.get {K:Fg}{C:Addr}(c:Cls K C)(f:Str):W.plainGet K C f=true:=c.pg
section
end
section
end
section
inductive TyOf (K:Fg) (H:Hp):V->Value->Prop where
 | non:TyOf K H .non (.type "NoneType")
 | bl (x:Bool):TyOf K H (.bl x) (.type "bool")
 | int (i:Int):TyOf K H (.int i) (.type "int")
 | str (x:Str):TyOf K H (.str x) (.type "str")
 | flt (x:UInt64):TyOf K H (.flt x) (.type "float")
 | lst {a:Addr} {xs:List V} (e:H a=some (.lst xs)):TyOf K H (.ref a) (.type "list")
 | frz {a:Addr} {o:Obj} {xs:List V} (e:H a=some (.frz o (.lst xs))):TyOf K H (.ref a) (.type "list")
 | tup {a:Addr} {xs:List V} (e:H a=some (.tup xs)):TyOf K H (.ref a) (.type "tuple")
 | dK {a:Addr} {kvs:List (Key×V)} (e:H a=some (.dK kvs)):TyOf K H (.ref a) (.type "dict")
 | dT {a:Addr} {kvs:List (List Key×V)} (e:H a=some (.dT kvs)):TyOf K H (.ref a) (.type "dict")
 | ins {a C dx:Addr} {fs:List (Str×V)} (e:H a=some (.ins C dx fs)) (cl:Cls K C) (ha:W.findIn K (.ref C) "__class__"=some (some (.builtin "object.__class__")))
  (hn:W.specialIn K (.builtin "object.__class__") "__get__"=some (some (.builtin "getset_descriptor.__get__")))(htk:W.takesIn K (.builtin "object.__class__")=some true)
  (hm:W.mroIn K C (.type "object")=some true):TyOf K H (.ref a) (.ref C)
theorem zbaa   (I:Inv X aU σ H s)(rx:RelV x u)(ty:TyOf X.K H x t)(e:W.kitOne X.K t c=some b)(h:∀tk,Q (.bool b) {s with toks:=tk}) :
  wpAny (model X.prog X.w) A (call (.builtin "isinstance") [u,c]) Q E s:=by
 cases ty with
 | non=>cases(show u=Value.none from rx);exact xfg W.kitx_none I.kIn True.intro e (λz=>nomatch z) h
 | bl y=>cases(show u=Value.bool y from rx);exact xfg W.kitx_bool I.kIn True.intro e (λz=>nomatch z) h
 | int i=>obtain⟨t,q⟩:=(show ∃t,u=Value.int i t from rx);cases q;exact xfg W.kitx_int I.kIn True.intro e (λz=>nomatch z) h
 | str y=>obtain⟨t,q⟩:=(show ∃t,u=Value.str y t from rx);cases q;exact xfg W.kitx_str I.kIn True.intro e (λz=>nomatch z) h
 | flt y=>obtain⟨t,q⟩:=(show ∃t,u=Value.float y t from rx);cases q;exact xfg W.kitx_float I.kIn True.intro e (λz=>nomatch z) h
 | @lst a xs ea =>
  cases(show u=Value.ref a from rx);obtain⟨_,_,n,_,h1⟩:=(show ObjOk X.prog X.w H s.heap a (.lst xs) from I.hok a _ ea)
  exact xfg W.kitx_list I.kIn ⟨_,h1,rfl⟩ e (λz=>nomatch z) h
 | @frz a ob xs ea =>
  cases(show u=Value.ref a from rx);obtain⟨_,_,_,n,_,h1⟩:=(show ObjOk X.prog X.w H s.heap a (.frz ob (.lst xs)) from I.hok a _ ea)
  exact xfg W.kitx_list I.kIn ⟨_,h1,rfl⟩ e (λz=>nomatch z) h
 | @tup a xs ea =>
  cases(show u=Value.ref a from rx);obtain⟨_,_,_,p⟩:=(show ObjOk X.prog X.w H s.heap a (.tup xs) from I.hok a _ ea)
  obtain⟨o,h1,h2,_⟩:=p;exact xfg W.kitx_tuple I.kIn ⟨o,h1,h2⟩ e (λz=>nomatch z) h
 | @dK a kvs ea =>
  cases(show u=Value.ref a from rx);obtain⟨_,_,vs,_,p⟩:=(show ObjOk X.prog X.w H s.heap a (.dK kvs) from I.hok a _ ea)
  obtain⟨o,es,ep,h1,h2,_⟩:=p;exact xfg W.kitx_dict I.kIn ⟨o,h1,h2.1⟩ e (λz=>nomatch z) h
 | @dT a kvs ea =>
  cases(show u=Value.ref a from rx);obtain⟨_,_,xs,_,o,es,ep,h1,h2,_⟩:=(show ObjOk X.prog X.w H s.heap a (.dT kvs) from I.hok a _ ea)
  exact xfg W.kitx_dict I.kIn ⟨o,h1,h2.1⟩ e (λz=>nomatch z) h
 | @ins a C dx fs ea cl ha hn htk hm =>
  cases(show u=Value.ref a from rx);obtain⟨mA,O,_⟩:=zbkz I.hok ea;obtain⟨od,J,_⟩:=O.look;exact xfg (W.kitx_own (cl.get _) cl.hd ha hn htk hm) I.kIn J e (λz=>nomatch z) h
end
structure Room (k:Nat) (A:Around):Prop where
 hd:A.handled=none
 dp:A.depth+3 * k+5 < recursionLimit
 un:A.units+16 * k+200 < cLine
theorem Room.mono   (r:Room k A)(h:j<=k):Room j A:=⟨r.hd,by have:=r.dp;lia,by have:=r.un;lia⟩
theorem Room.deeper   (r:Room (k+1) A)(env:Env):Room k (A.deeper env) :=
 ⟨r.hd,by have:=r.dp;show A.depth+1+3 * k+5 < _;lia,by have:=r.un;show A.units+3+16 * k+200 < _;lia⟩
theorem Room.depth   (r:Room k A):A.depth < recursionLimit:=by have:=r.dp;lia
theorem Room.units   (r:Room k A):A.units+64 < cLine:=by have:=r.un;lia
theorem Room.units0   (r:Room k A):A.units < cLine:=by have:=r.un;lia
def tNil:TA:=λ_ H Q=>Q [] H
def tCons (ta:TE) (tr:TA):TA:=λσ H Q=>ta σ H λx H1=>tr σ H1 λxs H2=>Q (x::xs) H2
section
theorem zbjr:PA X [] tNil:=λ_ _ _ _ H Q I h=>xks ⟨[],H,I,.nil,h⟩
theorem zbbs (ha:PE X e te)(hr:PA X es t)(hs:starEach (e::es) X.env=(false,eval e X.env)::starEach es X.env:=by rfl):PA X (e::es) (tCons te t):=by
 intro pos aU s σ H Q I h;rw[hs];show wpAny _ _ (spliced ((false,eval e X.env)::backTo pos (starEach es X.env))) _ _ s;refine xis (thn (ha aU s σ H _ I h) λu s1 hq0=>?_);obtain⟨x,H1,I1,r1,q1⟩:=hq0;exact thn (hr pos aU s1 σ H1 _ I1 q1) λus s2 ⟨xs,H2,I2,r2,q2⟩=>⟨x::xs,H2,I2,.cons r1 r2,q2⟩
def tTup (t:TA):TE:=λσ H Q=>t σ H λxs H1=>xs.length<=sizeLine/\∀p,H1 p=none->Q (.ref p) (upd H1 p (.tup xs))
def tLst (t:TA):TE:=λσ H Q=>t σ H λxs H1=>xs.length<=sizeLine/\∀p,H1 p=none->Q (.ref p) (upd H1 p (.lst xs))
theorem zbox {x1}(h:PA X es t):PE X (.Tuple es x1 pos) (tTup t):=by
 intro aU s σ H Q I hq;refine wpAny_Tuple_spliced (thn (h pos aU s σ H _ I hq) λus s1 ⟨xs,H1,I1,r,z,q⟩=>⟨by rw[← r.length];exact z,?_⟩);have hf:H1 s1.heap.objs.size=none:=I1.hok.fresh (xbg _);refine⟨.ref s1.heap.objs.size,upd H1 s1.heap.objs.size (.tup xs),I1.laid (t':=s1.toks) (λb u e=>xbf _ e) (xbg _) ?_,rfl,q _ hf⟩;exact⟨z,us,r,⟨_,xbu _ rfl,rfl,_,rfl⟩⟩
theorem zbjl (h:PA X es t):PE X (.List es pos) (tLst t):=by
 intro aU s σ H Q I hq;refine wpAny_List_spliced (thn (h pos aU s σ H _ I hq) λus s1 ⟨xs,H1,I1,r,z,q⟩=>⟨by rw[← r.length];exact z,?_⟩);have hf:H1 s1.heap.objs.size=none:=I1.hok.fresh (xbg _);refine⟨.ref s1.heap.objs.size,upd H1 s1.heap.objs.size (.lst xs),I1.laid (t':=s1.toks) (λb u e=>xbf _ e) (xbg _) ?_,rfl,q _ hf⟩;exact⟨z,us,0,r,xbu _ rfl⟩
end
abbrev Sp:=List V->Hp->VK->XK->Prop
abbrev CXT:=List Env->Hp->Shared->XK->Value->Shared->Prop
structure Env0 (P:Program) (w:World) (K:Fg) (mg:Str->Option Value) (base:Heap) (A:Around) (outer:List Env) (s:Shared) (H:Hp):Prop where
 frames:A.frames=some outer
 mod:Mod K mg base
 bs:∀b o,base.get? b=some o->s.heap.get? b=some o/\H b=none
 bsz:base.objs.size<=s.heap.objs.size
 funs:s.heap.FunFrames base outer
 frf:∀b∈frs outer,H b=none
 hok:HOk P w H s.heap
 bare:AllBare s.gens
def CE (outer:List Env) (P:Program) (w:World) (H:Hp) (s:Shared) (Q:VK) (u:Value) (s':Shared):Prop :=
 ∃v H',s'.os=s.os/\AllBare s'.gens/\Un (frs outer) [] H H' s.heap s'.heap/\HOk P w H' s'.heap/\RelV v u/\Q v H'
def CR (CX:CXT) (outer:List Env) (P:Program) (w:World) (H:Hp) (s:Shared) (Q:VK) (E:XK) (r:Result) (s':Shared):Prop :=
 match r with
 | .ok (.ret u)=>CE outer P w H s Q u s'
 | .ok _=>False
 | .error e=>CX outer H s E e s'
structure FnOk (P:Program) (w:World) (K:Fg) (mg:Str->Option Value) (base:Heap) (CX:CXT) (k:Nat) (f:Addr) (fd:FuncData) (ps:List Str) (sp:Sp):Prop where
 len:∀vs H Q E,sp vs H Q E->vs.length=ps.length
 run:∀(A:Around) (outer:List Env) (s:Shared) (H:Hp) (args:Args) (us:List Value) (vs:List V) (Q:VK) (E:XK),Room k A->Env0 P w K mg base A outer s H->BindsTo s fd args (ps.zip us)->Vals vs us->sp vs H Q E ->
  codeAny (model P w) A (.call (.ref f) args) (CR CX outer P w H s Q E) s
section
theorem Inv.env0 (I:Inv X aU σ H s):Env0 X.prog X.w X.K X.mg X.base X.A X.stack s H :=
 ⟨I.ok.frames,I.ok.mod,I.bs,xbc I.ok.bsz I.sz,I.stack,I.stkFree,I.hok,I.bare⟩
theorem Inv.after   (I:Inv X aU σ H s)(h:CE X.stack X.prog X.w H s Q u s'):EP X aU σ Q u s':=by
 obtain⟨v,H',os,bare,un,hok,r,q⟩:=h;obtain⟨hh,g,d,t,os'⟩:=s';obtain rfl:os'=s.os:=os;exact⟨v,H',I.call (h':=hh) (g':=g) (d':=d) (t':=t) (ch:=[]) un hok bare (λb z=>absurd z (by simp)),r,q⟩
end
def tCall (sp:Sp) (dvs:List V) (E:XK) (t:TA):TE:=λσ H Q=>t σ H λvs H1=>sp (vs++dvs) H1 Q E
noncomputable def Binds (K:Fg) (fd:FuncData) (ps:List Str) (ds:List Value):Prop :=
 ∀(s:Shared) (us:List Value),K.In s.heap->(us++ds).length=ps.length->BindsTo s fd ⟨us,[]⟩ (ps.zip (us++ds))
theorem Binds.all {K:Fg}  {ps:List Str}(h:∀us:List Value,us.length=ps.length->bindArgs fd ⟨us,[]⟩=pure (ps.zip us)):Binds K fd ps []:=λs us _ hl=>by
 rw[xdm] at hl ⊢;exact .of_eq (h us hl)
def Passes (CX:CXT) (X:Cx) (E:XK):Prop:=∀(aU:List (Addr×Obj)) (σ:St) (H:Hp) (s:Shared) (e:Value) (s':Shared),Inv X aU σ H s->CX X.stack H s E e s'->X.xe e s'
section
theorem zboi {X:Cx}        (F:FnOk X.prog X.w X.K X.mg X.base CX k f fd ps sp)(hr:Room k X.A)(hb:Binds X.K fd ps ds)(hd:Vals dvs ds)(hx:Passes CX X E)
  (I:Inv X aU σ H s)(r:Vals vs us)(h:sp (vs++dvs) H Q E):wpAny (model X.prog X.w) X.A (call (.ref f) us) (EP X aU σ Q) X.xe s:=by
 have r2:Vals (vs++dvs) (us++ds):=r.append hd;have hl:(us++ds).length=ps.length:=by rw[← r2.length];exact F.len _ _ _ _ h
 refine wpAny_call (xlx (F.run X.A X.stack s H ⟨us,[]⟩ (us++ds) (vs++dvs) Q E hr I.env0 (hb s us I.kIn hl) r2 h) λr s' hq=>?_);cases r with
 | error e=>exact hx aU σ H s e s' I hq
 | ok fl =>
  cases fl with
  | ret u=>exact I.after hq
  | next=>exact False.elim hq
  | brk=>exact False.elim hq
  | cont=>exact False.elim hq
theorem zbjo {X:Cx}(F:FnOk X.prog X.w X.K X.mg X.base CX k f fd ps sp)(hr:Room k X.A)(hg:Gl X x)(hm:X.mg x=some (.ref f))(hk:W.keepIn X.K (.ref f)=true)(hb:Binds X.K fd ps ds)(hd:Vals dvs ds)(hx:Passes CX X E)
  (ha:PA X (e::es) t)(hdb:(x==("__debug__" : Str))=false:=by decide)(he:starEach (e::es) X.env=(false,eval e X.env)::starEach es X.env:=by rfl)(hpl:(backTo pos (starEach es X.env)).any (·.1)=false:=by rfl) :
  PE X (.Call (.Name x p) (e::es) [] pos) (tCall sp dvs E t):=by
 intro aU s σ H Q I h;refine xjb (zbca I hg hm ?_ hdb);refine W.callWith_K (h₀:=X.base) I.ok.mod.kin hk (thn (ha pos aU s σ H _ I h) λus s1 ⟨vs,H1,I1,r,q⟩=>⟨I1.kIn,?_⟩) he hpl;exact zboi F hr hb hd hx I1 r q
end
section
end
structure FnScope (N P:List Str) (sc:Scope):Prop where
 kind:sc.kind=.function
 co:sc.isCoroutine=false
 gen:sc.isGenerator=false
 nd:N.Nodup
 pre:N.take P.length=P
 par:∀x∈P,sc.names.lookup x=some .local\/sc.names.lookup x=some .cell
 nofree:∀y∈sc.names,y.2≠.free
theorem zrl {kindOf:Str->Option NameKind} :∀{binds:List (Str×Value)} {m:Str->Option Value},(∀v,(x,v)∉binds)->bindL kindOf binds m x=m x
 | [],_,_=>rfl
 | (n,v)::r,m,h=>by
  unfold bindL;rw[zrl λw hw=>h w (xbo _ hw)];split
  ·have:x≠n:=by rintro rfl;exact h v xbq
   simp[this]
  ·rfl
theorem zrn {kindOf:Str->Option NameKind} :∀{binds:List (Str×Value)} {m:Str->Option Value},(∀v,(x,v)∉binds)->bindC kindOf binds m x=m x
 | [],_,_=>rfl
 | (n,v)::r,m,h=>by
  unfold bindC;rw[zrn λw hw=>h w (xbo _ hw)];split
  ·rfl
  ·have:x≠n:=by rintro rfl;exact h v xbq
   simp[this]
theorem zrm {kindOf:Str->Option NameKind}  :∀{P:List Str} {vs:List Value} {i:Nat} {m:Str->Option Value},P.Nodup->P[i]?=some x->vs[i]?=some v->kindOf x=some .local ->
  bindL kindOf (P.zip vs) m x=some v
 | [],_,_,_,_,h,_,_=>by simp at h
 | _::_,[],_,_,_,_,h,_=>by simp at h
 | p::P,w::vs,0,m,nd,h1,h2,hk=>by
  simp at h1 h2;subst h1;subst h2
  show bindL kindOf ((p,w)::P.zip vs) m p=_;unfold bindL;rw[zrl λv hv=>(xem.mp nd).1 (xni hv).1,if_pos hk];simp
 | p::P,w::vs,i+1,m,nd,h1,h2,hk=>by
  show bindL kindOf ((p,w)::P.zip vs) m x=_;unfold bindL;exact zrm (i:=i) (xem.mp nd).2 (by simpa using h1) (by simpa using h2) hk
theorem zro {kindOf:Str->Option NameKind}  :∀{P:List Str} {vs:List Value} {i:Nat} {m:Str->Option Value},P.Nodup->P[i]?=some x->vs[i]?=some v->kindOf x≠some .local ->
  bindC kindOf (P.zip vs) m x=some v
 | [],_,_,_,_,h,_,_=>by simp at h
 | _::_,[],_,_,_,_,h,_=>by simp at h
 | p::P,w::vs,0,m,nd,h1,h2,hk=>by
  simp at h1 h2;subst h1;subst h2
  show bindC kindOf ((p,w)::P.zip vs) m p=_;unfold bindC;rw[zrn λv hv=>(xem.mp nd).1 (xni hv).1,if_neg hk];simp
 | p::P,w::vs,i+1,m,nd,h1,h2,hk=>by
  show bindC kindOf ((p,w)::P.zip vs) m x=_;unfold bindC;exact zro (i:=i) (xem.mp nd).2 (by simpa using h1) (by simpa using h2) hk
def start (N:List Str) (vs:List V):St:=vs.map some++List.replicate (N.length - vs.length) none
def cxOf (CX:CXT) (P:Program) (w:World) (K:Fg) (mg:Str->Option Value) (base:Heap) (N:List Str) (qual:Str) (scope:Scope) (f:Addr) (cd:Value) (A:Around) (outer:List Env) (s:Shared) (H:Hp) (E:XK):Cx where
 prog:=P
 w:=w
 K:=K
 mg:=mg
 base:=base
 A:=A.deeper (envOfC qual scope s.heap.objs.size f cd)
 N:=N
 s₀:=s
 H₀:=H
 env:=envOfC qual scope s.heap.objs.size f cd
 outer:=outer
 stack:=envOfC qual scope s.heap.objs.size f cd::outer
 ex:=[]
 calm:=true
 fn:=λ_=>true
 pn:=[]
 xe:=λe s'=>wpAny (model P w) (A.deeper (envOfC qual scope s.heap.objs.size f cd)) (leaving (envOfC qual scope s.heap.objs.size f cd) e) (λ_ s''=>CX outer H s E e s'') (λe' s''=>CX outer H s E e' s'') s'
theorem zwo {sc:Scope}   (h:sc.names.lookup x=some .cell):∃c,(cellsFrom n sc.names []).lookup x=some c:=by
 have q:=W.cellsFrom_some sc.names n [] (.inl h);exact Option.isSome_iff_exists.mp q
theorem zbac    {K:Fg}   {N:List Str}     {A:Around}      {vs:List V}
  (S:FnScope N ps scope)(hd:A.handled=none)(e0:Env0 P w K mg base A outer s H)(hl:vs.length=ps.length)(r:Vals vs us)
  (x:InCallC s s.heap.objs.size (bindL (envOfC qual scope s.heap.objs.size f cd).kindOf (ps.zip us) λ_=>none) (cellsFrom (s.heap.objs.size+1) scope.names []) (bindC (envOfC qual scope s.heap.objs.size f cd).kindOf (ps.zip us) λ_=>none) s1) :
  Inv (cxOf CX P w K mg base N qual scope f cd A outer s H E) [] (start N vs) H s1:=by
 have hpl:ps.length<=N.length:=by have:=congrArg List.length S.pre;rw[xcz] at this;lia
 obtain⟨h1,tk,rfl,hk⟩:=x.done;have noA:∀b:Addr,b∉(cxOf CX P w K mg base N qual scope f cd A outer s H E).ex:=λb z=>absurd (show b∈([]:List Addr) from z) (by simp)
 refine⟨⟨e0.mod,S.kind,rfl,rfl,xbg _,λy z c h1 h2=>?_,λy hy=>?_,λy c _ h=>?_,λ_=>hd,Around.frames_deeper e0.frames,.inr ⟨rfl,rfl⟩,λb z=>absurd z (noA b),e0.bs,e0.bsz,λb _ _=>noA b,λb z=>absurd z (noA b),e0.funs,e0.frf⟩,
  rfl,e0.bare,Un.kept hk,⟨_,x.toInCall.ns,λi y v h1 h2 h3=>?_⟩,λy c h=>⟨_,x.cell y c h⟩,e0.hok.fresh (xbg _),λy c h=>?_,λp hp=>absurd (show p∈([]:List (Addr×Obj)) from hp) (by simp),e0.hok.kept hk,?_,Hnd.none hd⟩
 ·exact name_of_addr x.apart (xgy h1) (xgy h2)
 ·have hy:scope.names.lookup y=some .cell\/scope.names.lookup y=some .free:=hy;rcases hy with hy | hy
  ·exact zwo hy
  ·exact absurd rfl (S.nofree _ (xgy hy))
 ·exact xca (x.above y c (xgy h))
 ·have hi:i < vs.length:=by
   unfold start at h2;by_cases hi:i < vs.length
   ·exact hi
   ·rw[xdk (by simpa using hi)] at h2;rw[List.getElem?_replicate] at h2;split at h2<;>cases h2
  have ha:vs[i]?=some v:=by
   unfold start at h2;rw[xcg (by simpa using hi),xcp] at h2;cases e:vs[i]? with
   | none=>rw[e] at h2;cases h2
   | some a=>rw[e] at h2;cases h2;rfl
  obtain⟨u,hu,rv⟩:=r.get ha;have hp:ps[i]?=some y:=by
   rw[← S.pre,List.getElem?_take_of_lt (by lia)];exact h1
  have ndP:ps.Nodup:=by rw[← S.pre];exact S.nd.sublist (xkt _ _)
  refine⟨u,rv,?_⟩;rcases S.par y (xcb hp) with k | k
  ·exact .inl ⟨k,zrm ndP hp hu k⟩
  ·obtain⟨c,e⟩:=zwo (n:=s.heap.objs.size+1) k;refine .inr ⟨.inl k,c,e,?_⟩;have q:=x.cell y c e;rw[zro ndP hp hu (by show scope.names.lookup y≠_;rw[k];decide)] at q;exact q
 ·exact e0.hok.fresh (xca (x.above y c (xgy h)))
 ·unfold start;show _=N.length;rw[xbh,xbb,xhm];lia
theorem zbum    {K:Fg}         {kV:Value} 
     {N:List Str}  (lk:K.lookup f=some ⟨oc,od,.func (W.fnOf name qual params body scope dV kV doc pm an cdv ct),osl⟩)(hcd:W.codeIn K cdv qual=true)(S:FnScope N ps scope)
    (len:∀ vs H Q E,sp vs H Q E->vs.length=ps.length)
    (hbody:∀(A:Around) (outer:List Env) (s:Shared) (H:Hp) (vs:List V) (Q:VK) (E:XK),Room k (A.deeper (envOfC qual scope s.heap.objs.size f cdv))->sp vs H Q E ->
      ∃ t,PSs (cxOf CX P w K mg base N qual scope f cdv A outer s H E) body t/\t { nx:=λ_ H'=>Q .non H', rt:=Q } (start N vs) H) :
    FnOk P w K mg base CX (k + 1) f (W.fnOf name qual params body scope dV kV doc pm an cdv ct) ps sp:=by
  refine⟨len,λA outer s H args us vs Q E hr e0 hb r hsp=>?_⟩;have hl:=len _ _ _ _ hsp;have KX:K.In s.heap:=e0.mod.kin.keeps λb o e=>(e0.bs b o e).1
  have lim:s.heap.NoLimit:=e0.mod.nolimit.keeps λb o e=>(e0.bs b o e).1
  have hkind:∀ y∈ps.zip us,scope.names.lookup y.1=some .local\/(scope.names.lookup y.1=some .cell/\((cellsFrom (s.heap.objs.size + 1) scope.names []).lookup y.1).isSome=true):=λhq0 hy=>by
    obtain⟨n,v⟩:=hq0;rcases S.par n (xni hy).1 with q | q
    · exact .inl q
    · exact .inr ⟨q,W.cellsFrom_some _ _ _ (.inl q)⟩
  refine codeAny_call_function hr.depth (KX _ _ lk) rfl S.co S.gen rfl (W.codeRec_of KX hcd) (hb _ _ _ _ ?_);refine wpAny_newFunctionEnv_cells S.kind hkind λenv he s1 x=>?_
  subst he;refine⟨lim.keeps x.toInCall.keep,codeAny_func ?_⟩;obtain⟨t,ht,hq⟩:=hbody A outer s H vs Q E (hr.deeper _) hsp;have I:Inv (cxOf CX P w K mg base N qual scope f cdv A outer s H E) [] (start N vs) H s1:=zbac S hr.hd e0 hl r x;refine xfe (ht [] s1 (start N vs) H _ I hq) (λfl s' hs=>?_) λe s' hs=>hs
  have fin:∀{σ':St} {H':Hp} {v:V} {u:Value},Inv (cxOf CX P w K mg base N qual scope f cdv A outer s H E) [] σ' H' s'->RelV v u->Q v H'->CE outer P w H s Q u s' :=
    λ{σ' H' v u} J rv q=>⟨v,H', J.os,J.bare,J.base,J.hok,rv,q⟩
  cases fl with
  | ret u =>
    obtain⟨v,σ', H', J,rv,q⟩:=hs;exact fin J rv q
  | next =>
    obtain⟨σ', H', J,q⟩:=hs;exact fin (v:=V.non) (u:=Value.none) J rfl q
  | brk =>
    obtain⟨_,_,_,q⟩:=hs;exact False.elim q
  | cont =>
    obtain⟨_,_,_,q⟩:=hs;exact False.elim q
section
def tCB (r:List V->Hp->VK->Prop) (t:TA):TE:=λσ H Q=>t σ H λvs H1=>r vs H1 Q
theorem zum {id:String}(hc:CallR X (.builtin id) r)(hg:Gl X x)(hm:X.mg x=none)(hv:bootBuiltins x=some (.builtin id))(ha:PA X (e::es) t)(hn:x≠"__name__":=by decide)(hdb:(x==("__debug__" : Str))=false:=by decide)
  (he:starEach (e::es) X.env=(false,eval e X.env)::starEach es X.env:=by rfl)(hpl:(backTo pos (starEach es X.env)).any (·.1)=false:=by rfl):PE X (.Call (.Name x p) (e::es) [] pos) (tCB r t):=by
 intro aU s σ H Q I h;refine xjb (zno I hg hm hv ?_ hn hdb);exact PyProof.Rows.callWith_builtin1 (thn (ha pos aU s σ H _ I h) λus s1 ⟨vs,H1,I1,r1,q1⟩=>hc aU s1 σ H1 vs us Q I1 r1 q1) he hpl
theorem zqn {T:String}(hc:CallR X (.type T) r)(hg:Gl X x)(hm:X.mg x=none)(hv:bootBuiltins x=some (.type T))(ha:PA X (e::es) t)(hn:x≠"__name__":=by decide)(hdb:(x==("__debug__" : Str))=false:=by decide)
  (he:starEach (e::es) X.env=(false,eval e X.env)::starEach es X.env:=by rfl)(hpl:(backTo pos (starEach es X.env)).any (·.1)=false:=by rfl):PE X (.Call (.Name x p) (e::es) [] pos) (tCB r t):=by
 intro aU s σ H Q I h;refine xjb (zno I hg hm hv ?_ hn hdb);exact xgj (thn (ha pos aU s σ H _ I h) λus s1 ⟨vs,H1,I1,r1,q1⟩=>hc aU s1 σ H1 vs us Q I1 r1 q1) he hpl
end
end L2
namespace HT
open PySem PyProof.Rows
noncomputable def lexLt:List Int->List Int->Bool
 | [],[]=>false
 | [],_::_=>true
 | _::_,[]=>false
 | x::xs,y::ys=>if x=y then lexLt xs ys else decide (x < y)
theorem zdj (x y:Int)(xs ys:List Int):lexLt (x::xs) (y::ys)=if x=y then lexLt xs ys else decide (x < y):=rfl
theorem zek:lexLt [] []=false:=rfl
theorem zcm (y:Int)(ys:List Int):lexLt [] (y::ys)=true:=rfl
theorem zdu (x:Int)(xs:List Int):lexLt (x::xs) []=false:=rfl
theorem zbgb (A:Around)(s:Shared)(a:Int)(t:Tok)(c:Int)(u:Tok):∃e,SeqAt.EqAt A s (.int a t) (.int c u) e/\(e=true↔a=c) :=
 ⟨(a==c),SeqAt.EqAt.int_int a t c u,by simp⟩
theorem zbeb (A:Around)(s:Shared)(a:Int)(t:Tok)(c:Int)(u:Tok)(prog:Program)(w:World)(E:Value->Shared->Prop)(Q:Value->Shared->Prop)(h:Q (.bool (decide (a < c))) s) :
  wpAny (model prog w) A (richCompare .Lt (.int a t) (.int c u)) Q E s :=
 (PyProof.Rows.lt_int h:wpAny (model prog w) A (compareOp .Lt (.int a t) (.int c u)) Q E s)
section
open PySem.SeqAt
open PySem.AutoSeq1 (wpAny_loadPart')
open PySem.MeetsSeq PySem.MeetsSeq2 PySem.MeetsSeq3
theorem zhm (l b:Addr)(items items2:Array Value)(n n2:Nat)(dd dd2:Option Addr)(sl sl2:Array (Option Value))(ns ms:List Int)(hi:IntsAre items.toList ns)(hj:IntsAre items2.toList ms) :
  Meets (Builtin.«tuple.__lt__» ⟨[.ref l,.ref b],[]⟩)
   (λ_ R s=>s.heap.get? l=some { cls:=.type "tuple", dict:=dd,data:=.seq items n,slots:=sl }/\s.heap.get? b=some { cls:=.type "tuple", dict:=dd2,data:=.seq items2 n2,slots:=sl2 } /\
    R (.ok (.ret (.bool (lexLt ns ms)))) s) :=
 .of_wp λprog w A R s h=>by
  obtain⟨hp,g,d,tk,os⟩:=s;obtain⟨hl,hb,h⟩:=h
  have f2:=AutoSeq1.sub_tuple_tuple;have z1:items.size=ns.length:=by rw[← hi.length];simp
  have z2:items2.size=ms.length:=by rw[← hj.length];simp
  wp_walk using wpAny_loadPart' hl,wpAny_loadPart' hb,wpAny_forIn_list _ (λrest b s'=>b.1=none/\s'=⟨hp,g,d,tk,os⟩/\∃(vs ws:List Value) (ns' ms':List Int),rest=vs.zip ws /\
   IntsAre vs ns'/\IntsAre ws ms'/\ns'.length+items2.size=ms'.length+items.size/\R (.ok (.ret (.bool (lexLt ns' ms')))) ⟨hp,g,d,tk,os⟩) _
  case turn =>
   rintro⟨y,x⟩ rest b s' ⟨hb',rfl,vs,ws,ns',ms',hz,hvi,hwi,hlen,hR⟩;cases hvi with
   | nil=>rw[List.zip_nil_left] at hz;cases hz
   | cons a t hvi' =>
    cases hwi with
    | nil=>rw[List.zip_nil_right] at hz;cases hz
    | cons c u hwi' =>
     rw[xme] at hz;injection hz with hyx hrest
     injection hyx with hy hx
     subst hy hx;rw[zdj] at hR;simp only[xcc] at hlen;obtain⟨e,he,hiff⟩:=zbgb A.in1 ⟨hp,g,d,tk,os⟩ a t c u;refine xba (he prog w _ _ ?_);cases e with
     | true =>
      rw[if_pos (hiff.mp rfl)] at hR
      wp_walk
      exact⟨rfl,rfl,_,_,_,_,hrest,hvi',hwi',by lia,hR⟩
     | false =>
      rw[if_neg (λq=>absurd (hiff.mpr q) xft)] at hR;have hri:=zbeb A.in1 ⟨hp,g,d,tk,os⟩ a t c u prog w
      wp_walk using hri
      exact⟨_,rfl,by simpa using hR⟩
  case fin =>
   rintro⟨b1,b2⟩ s' ⟨hb',rfl,vs,ws,ns',ms',hz,hvi,hwi,hlen,hR⟩;simp only at hb';subst hb';have hv:lexLt ns' ms'=decide (items.size < items2.size):=by
    cases hvi with
    | nil =>
     cases hwi with
     | nil =>
      simp only[xln] at hlen;rw[zek];exact(xbz (by lia)).symm
     | cons c u hw =>
      simp only[xln,xcc] at hlen;rw[zcm];exact(xbw (by lia)).symm
    | cons a t hv =>
     cases hwi with
     | nil =>
      simp only[xln,xcc] at hlen;rw[zdu];exact(xbz (by lia)).symm
     | cons c u hw =>
      rw[xme] at hz;cases hz
   rw[hv] at hR
   wp_walk
   exact⟨_,rfl,by simpa [Builtin.Tuple.tupleCompareSizes] using hR⟩
  case h =>
   exact⟨rfl,rfl,items.toList,items2.toList,ns,ms,rfl,hi,hj,by lia,h⟩
end
section
theorem znl {A:Around}{s:Shared}     (hl:IsTup s.heap l items)(hb:IsTup s.heap b items2)(hi:IntsAre items.toList ns)(hj:IntsAre items2.toList ms)
  (hu:A.units < cLine)(h:Q (.bool (lexLt ns ms)) s):wpAny (model prog w) A (compareOp .Lt (.ref l) (.ref b)) Q E s:=by
 obtain⟨⟨cls,dd,data,sl⟩,ho,hc,n,hd⟩:=id hl;obtain⟨⟨cls2,dd2,data2,sl2⟩,ho2,hc2,n2,hd2⟩:=id hb;simp only at hc hd hc2 hd2;subst hc hd hc2 hd2;exact richCompare_meets_room (op:=.Lt) ⟨_,ho,rfl⟩ ⟨_,ho2,rfl⟩ xli F.entry_tuple_lt (F.args_tuple_lt_2 _ _) (zhm l b items items2 n n2 dd dd2 sl sl2 ns ms hi hj)
  ⟨ho,ho2,show Value.bool (lexLt ns ms)≠Value.notImplemented/\Q (.bool (lexLt ns ms)) s from⟨(λx=>nomatch x),h⟩⟩ hu
theorem zbmq {s:Shared}  {vs ws:List Value}  (ht:IsTup s.heap t vs.toArray)(hb:IsTup s.heap b ws.toArray)(hv:vs≠[])
  (h1:ws=[]->Q (.ref t) s)(h2:ws≠[]->Q (.ref s.heap.objs.size) { s with heap:=s.heap.push { cls:=.type "tuple", data:=.seq (vs++ws).toArray } })
  (hsz:vs.length+ws.length<=sizeLine):wpAny (model prog w) A (binaryOp .Add (.ref t) (.ref b)) Q E s:=by
 obtain⟨⟨cls,dd,data,sl⟩,ho,hc,n,hd⟩:=id ht;obtain⟨⟨cls2,dd2,data2,sl2⟩,ho2,hc2,n2,hd2⟩:=id hb;simp only at hc hd hc2 hd2;subst hc hd hc2 hd2;have e:vs.toArray++ws.toArray=(vs++ws).toArray:=by simp
 by_cases hw:ws=[]
 ·exact concat_meets ⟨_,ho,rfl⟩ ⟨_,ho2,rfl⟩ noFill_tuple_add seq_tuple_add xla xkm (xkh _ _)
   (tuple_addW1 t b vs.toArray ws.toArray n n2 dd dd2 sl sl2 (by simpa using hv) (by simp[hw])) ⟨ho,ho2,h1 hw⟩
 ·refine concat_meets ⟨_,ho,rfl⟩ ⟨_,ho2,rfl⟩ noFill_tuple_add seq_tuple_add xla xkm (xkh _ _)
   (tuple_addW2 t b vs.toArray ws.toArray n n2 dd dd2 sl sl2 (by simpa using hv) (by simpa using hw) (by rw[xbv,xbv];exact hsz)) ⟨ho,ho2,?_⟩
  rw[e];exact h2 hw
noncomputable def sIx (n d:Nat):Option Int->Nat
 | none=>d
 | some v=>if v < 0 then(v+(n:Int)).toNat else min v.toNat n
theorem zuc (n d:Nat):sIx n d none=d:=rfl
theorem zbbm (n d k:Nat):sIx n d (some (k:Int))=min k n:=by
 show(if(k:Int) < 0 then((k:Int)+(n:Int)).toNat else min (k:Int).toNat n)=min k n;rw[if_neg (by lia),xea]
theorem zbog (n d:Nat)(hd:d<=n)(o:Option Int):sIx n d o<=n:=by
 cases o with
 | none=>exact hd
 | some v =>
  show(if v < 0 then(v+(n:Int)).toNat else min v.toNat n)<=n;by_cases hv:v < 0
  ·rw[if_pos hv];lia
  ·rw[if_neg hv];exact xfu _ _
theorem zbda (v:Int)(n d:Nat):(if v < 0 then max (v+(n:Int)) 0 else min v (n:Int))=((sIx n d (some v):Nat):Int):=by
 show(if v < 0 then max (v+(n:Int)) 0 else min v (n:Int))=(((if v < 0 then(v+(n:Int)).toNat else min v.toNat n):Nat):Int)
 by_cases hv:v < 0
 ·simp only[if_pos hv];lia
 ·simp only[if_neg hv];lia
theorem zxh (lo hi:Option Int)(n:Nat):Builtin.Slice.sliceAdjust lo hi 1 (n:Int)=(((sIx n 0 lo:Nat):Int),((sIx n n hi:Nat):Int)):=by
 have h1:¬ ((1:Int) < 0):=by lia
 unfold Builtin.Slice.sliceAdjust;simp only[h1,xec];refine Prod.ext ?_ ?_
 ·cases lo with
  | none=>rfl
  | some v=>exact zbda v n 0
 ·cases hi with
  | none=>rfl
  | some v=>exact zbda v n n
theorem zul (i j:Nat):Builtin.Slice.slicePlaces (i:Int) (j:Int) 1=j - i:=by
 unfold Builtin.Slice.slicePlaces;have h1:(1:Int) > 0:=by lia
 simp only[h1,xeu,Int.ediv_one];split<;>lia
theorem zms    (p:IsPart v o)(h:Q o s):wpAny (model prog w) A (Builtin.Slice.slicePartIndex v) Q E s:=by
 cases p with
 | none=>exact slicePart_none h
 | int i t=>exact slicePart_int h
theorem zee {s:Shared}   {lo hi:Option Int}{n:Nat}  (hs:s.heap.IsSliceOf sl vl vu .none)(pl:IsPart vl lo)(pu:IsPart vu hi)
  (h:Q (((sIx n 0 lo:Nat):Int),1,sIx n n hi - sIx n 0 lo) s):wpAny (model prog w) A (Builtin.Slice.sliceApplied (.ref sl) (pure (n:Int))) Q E s:=by
 obtain⟨os,hos,hcs,hds⟩:=id hs;unfold Builtin.Slice.sliceApplied Builtin.Slice.sliceFields;refine xba (xba (xib hos hds (x:=vl) rfl (xba (xib hos hds (x:=vu) rfl (xba (xib hos hds (x:=.none) rfl (xbd ?_)))))));refine xba (slicePart_none ?_);show wpAny _ _ (if((1:Int)==0)=true then _ else _) _ _ s;rw[if_neg (by decide)];refine xba (zms pl (xba (zms pu (xba (xbd ?_)))));show wpAny _ _ (match Builtin.Slice.sliceAdjust lo hi 1 (n:Int) with | (lo,hi)=>pure (lo,(1:Int),Builtin.Slice.slicePlaces lo hi 1)) _ _ s;rw[zxh lo hi n];show wpAny _ _ (pure (((sIx n 0 lo:Nat):Int),(1:Int),Builtin.Slice.slicePlaces ((sIx n 0 lo:Nat):Int) ((sIx n n hi:Nat):Int) 1)) _ _ s;rw[zul];exact xbd h
theorem zbel (xs:Array Value)(i k:Nat):((List.range k).filterMap λ(m:Nat)=>xs[((i:Int)+(m:Int) * 1).toNat]?).toArray=((xs.toList.drop i).take k).toArray:=by
 have e:(λ(m:Nat)=>xs[((i:Int)+(m:Int) * 1).toNat]?)=λm=>xs[i+m]?:=by
  funext m
  have:((i:Int)+(m:Int) * 1).toNat=i+m:=by lia
  rw[this]
 rw[e];have:=pick_run xs i k;rw[List.filterMap_map] at this;have e2:((λx=>xs[x]?) ∘ λx=>i+x)=λm=>xs[i+m]?:=rfl
 rw[e2] at this;rw[this]
theorem zib {s:Shared}    {lo:Option Int}  (ht:IsTup s.heap t items)(hs:s.heap.IsSliceOf sl vl vu .none)(pl:IsPart vl lo)(pu:IsPart vu hi)
  (hw:¬ (sIx items.size 0 lo=0/\sIx items.size items.size hi=items.size))
  (h:Q (.ref s.heap.objs.size) { s with heap:=s.heap.push { cls:=.type "tuple", data:=.seq ((items.toList.drop (sIx items.size 0 lo)).take (sIx items.size items.size hi - sIx items.size 0 lo)).toArray } })
  (hsz:items.size<=sizeLine):wpAny (model prog w) A (getItem (.ref t) (.ref sl)) Q E s:=by
 have htake:sizeOk (.seq ((items.toList.drop (sIx items.size 0 lo)).take (sIx items.size items.size hi - sIx items.size 0 lo)).toArray):=by
  show((items.toList.drop (sIx items.size 0 lo)).take (sIx items.size items.size hi - sIx items.size 0 lo)).toArray.size<=sizeLine;rw[xbv,xcz,xha,xcd];lia
 have hj:sIx items.size items.size hi<=items.size:=zbog _ _ (xbg _) hi;obtain⟨os,hos,hcs,hds⟩:=id hs;have hTs:s.TypeIs (.ref sl) "slice":=⟨os,hos,hcs⟩
 unfold getItem
 try with_reducible refine xeo ?_
 first | refine xba (xbd ?_) | skip
 refine xba (wpAny_sequenceKey ht.typeIs (by decide) ?_)
 refine xba (wpAny_callSpecial?_slot (name:=Str.ofString "__getitem__") ht.typeIs xim
  (xej xim ht.typeIs entry_tuple_getitem ?_ (args_tuple_getitem _ _)))
 show wpAny _ _ (Builtin.Tuple.tupleItemsOf (.ref t) >>= _) _ _ s;refine xba (tupleItemsOf_ ht ?_);refine xba (wpAny_typeOf hTs ?_);rw[if_pos (by decide)];refine xba (zee hs pl pu ?_);have hno:¬ ((((sIx items.size 0 lo:Nat):Int)==0&&(1:Int)==1&&(sIx items.size items.size hi - sIx items.size 0 lo)==items.size)=true):=by
  intro q;rw[xfv,xfv] at q;have q1:((sIx items.size 0 lo:Nat):Int)=0:=eq_of_beq q.1.1;have q2:sIx items.size items.size hi - sIx items.size 0 lo=items.size:=eq_of_beq q.2;exact hw ⟨by lia,by lia⟩
 show wpAny _ _ (if(((sIx items.size 0 lo:Nat):Int)==0&&(1:Int)==1&&(sIx items.size items.size hi - sIx items.size 0 lo)==items.size)=true then _ else _) _ _ s;rw[if_neg hno,zbel]
 first
  | exact xba (m:=Builtin.Tuple.tupleExact _) (xel (xbd ⟨_,rfl,xbd h⟩) htake)
  | exact xba (m:=Builtin.Tuple.tupleExact _) (xel (xba (xbd (xbd ⟨_,rfl,xbd h⟩))) htake)
  | exact xba (xba (m:=Builtin.Tuple.tupleExact _) (xel (xbd (xbd ⟨_,rfl,xbd h⟩)) htake))
  | exact xba (xba (m:=Builtin.Tuple.tupleExact _) (xel (xbd ⟨_,rfl,xbd h⟩) htake))
end
end HT
namespace L2
open PySem PySem.Spec PyProof.Rows
abbrev TO:=St->Hp->(Option Int->Hp->Prop)->Prop
def PO (X:Cx) (e:Option Expr) (t:TO):Prop :=
 ∀(aU:List (Addr×Obj)) (s:Shared) (σ:St) (H:Hp) (Q:Option Int->Hp->Prop),Inv X aU σ H s->t σ H Q ->
  wpAny (model X.prog X.w) X.A (evalPart e X.env) (λu s'=>∃o H',Inv X aU σ H' s'/\IsPart u o/\Q o H') X.xe s
def tNoPart:TO:=λ_ H Q=>Q none H
def tPart (t:TE):TO:=λσ H Q=>t σ H λx H1=>∃i,x=.int i/\Q (some i) H1
theorem zel {ns:List Int}:∀{us:List Value},Vals (ns.map V.int) us->IntsAre us ns:=by
 induction ns with
 | nil=>intro us r;rw[xna] at r;cases r;exact .nil
 | cons n ns ih =>
  intro us r;rw[xbs] at r;cases r with
  | cons r1 r2 =>
   obtain⟨t,e⟩:=r1;subst e;exact .cons n t (ih r2)
section
theorem zbjb:PO X none tNoPart:=by
 intro aU s σ H Q I h;rw[evalPart_none];exact xbd ⟨none,H,I,.none,h⟩
theorem zbja (h:PE X e te):PO X (some e) (tPart te):=by
 intro aU s σ H Q I hw;rw[evalPart_some];refine thn (h aU s σ H _ I hw) λu s1 hq0=>?_
 obtain⟨x,H1,I1,r1,q1⟩:=hq0;obtain⟨i,rfl,q⟩:=q1;obtain⟨t,rfl⟩:=r1;exact⟨some i,H1,I1,.int i t,q⟩
def SlR (X:Cx) (r:V->Option Int->Option Int->Hp->VK->Prop):Prop :=
 ∀(aU:List (Addr×Obj)) (s:Shared) (σ:St) (H:Hp) (x:V) (v vl vu:Value) (lo hi:Option Int) (sl:Addr) (Q:VK),Inv X aU σ H s->RelV x v->s.heap.IsSliceOf sl vl vu .none->IsPart vl lo->IsPart vu hi->r x lo hi H Q ->
  ∃ T id,typeLookup (.type T) "__getitem__"=pure (some (.builtin id))/\s.TypeIs v T/\wpAny (model X.prog X.w) X.A (getItem v (.ref sl)) (EP X aU σ Q) X.xe s
section
variable {lo:Option Expr}
theorem SlR.or  (h:SlR X r)(h':SlR X r'):SlR X (λx lo hi H Q=>r x lo hi H Q\/r' x lo hi H Q):=by
 intro aU s σ H x v vl vu lo hi sl Q I rx hs pl pu q;rcases q with q | q
 ·exact h aU s σ H x v vl vu lo hi sl Q I rx hs pl pu q
 ·exact h' aU s σ H x v vl vu lo hi sl Q I rx hs pl pu q
end
def tSl (r:V->Option Int->Option Int->Hp->VK->Prop) (te:TE) (tl th:TO):TE:=λσ H Q=>te σ H λx H1=>tl σ H1 λl H2=>th σ H2 λu H3=>r x l u H3 Q
theorem zbeo {lo:Option Expr}  (hr:SlR X r)(he:PE X e te)(hl:PO X lo tl)(hu:PO X hi th):PE X (.Subscript e (.Slice lo hi none p2) pos) (tSl r te tl th):=by
 intro aU s σ H Q I h;refine Subscript_ (thn (he aU s σ H _ I h) λv s1 hq0=>?_);obtain⟨x,H1,I1,r1,q1⟩:=hq0;refine wpAny_Slice (thn (hl aU s1 σ H1 _ I1 q1) λvl s2 ⟨l,H2,I2,pl,q2⟩=>thn (hu aU s2 σ H2 _ I2 q2) λvu s3 hq0=>?_);obtain⟨u,H3,I3,pu,q3⟩:=hq0;rw[evalPart_none];refine xbd ?_;have I4:Inv X aU σ H3 { s3 with heap:=s3.heap.push { cls:=.type "slice", data:=.fields #[vl,vu,.none] } }:=I3.kept (t':=s3.toks) λb ob q=>xbf _ q
 obtain⟨T,id,hT,ht,hg⟩:=hr aU { s3 with heap:=s3.heap.push { cls:=.type "slice", data:=.fields #[vl,vu,.none] } } σ H3 x v vl vu l u s3.heap.objs.size Q I4 r1 (Heap.IsSliceOf.new ..) pl pu q3
 show wpAny (model X.prog X.w) X.A (subscriptTail e (.Slice lo hi none p2) v (.ref s3.heap.objs.size)) (EP X aU σ Q) X.xe { s3 with heap:=s3.heap.push { cls:=.type "slice", data:=.fields #[vl,vu,.none] } }
 exact tail_any (ops:=[.ref s3.heap.objs.size,v]) ht hT hg (by with_unfolding_all rfl)
def cutV (xs:List V) (lo hi:Option Int):List V:=(xs.drop (HT.sIx xs.length 0 lo)).take (HT.sIx xs.length xs.length hi - HT.sIx xs.length 0 lo)
theorem zkv (xs:List V)(lo hi:Option Int):(cutV xs lo hi).length<=xs.length:=by
 unfold cutV;rw[xcz,xha];lia
def rSlT (K:Fg):V->Option Int->Option Int->Hp->VK->Prop:=λx lo hi H Q=>∃a xs,x=.ref a/\SqT K H a xs /\
 ¬ (HT.sIx xs.length 0 lo=0/\HT.sIx xs.length xs.length hi=xs.length)/\∀p,H p=none->Q (.ref p) (upd H p (.tup (cutV xs lo hi)))
theorem zbny:SlR X (rSlT X.K):=by
 intro aU s σ H x v vl vu lo hi sl Q I rx hs pl pu h;obtain⟨a,xs,rfl,hx,hw,q⟩:=h;cases rx;obtain⟨its,r,ht,hz⟩:=I.tuple hx;have hlen:its.toArray.size=xs.length:=by rw[xbv];exact r.length.symm
 refine⟨"tuple", _,xim.lookup,ht.typeIs,?_⟩
 refine HT.zib ht hs pl pu (by rw[hlen];exact hw) ?_ (by rw[hlen];exact hz);rw[hlen];refine⟨.ref s.heap.objs.size,_,I.laid (t':=s.toks) (o:=.tup (cutV xs lo hi)) (λb ob q=>xbf _ q) (xbg _) ?_,rfl,q _ (I.hok.fresh (xbg _))⟩;exact⟨xbc (zkv xs lo hi) hz,_,(r.drop (HT.sIx xs.length 0 lo)).take (HT.sIx xs.length xs.length hi - HT.sIx xs.length 0 lo),IsTup.new _ _⟩
def rLtT (K:Fg):R2:=λx y H Q=>∃a b ns ms,x=.ref a/\y=.ref b/\SqT K H a (ns.map V.int)/\SqT K H b (ms.map V.int)/\Q (.bl (HT.lexLt ns ms)) H
theorem zbpk {X:Cx}(hu:X.A.units < cLine):OpR X (compareOp .Lt) (rLtT X.K):=by
 intro aU s σ H x y v u Q I rx ry h;obtain⟨a,b,ns,ms,rfl,rfl,ha,hb,q⟩:=h;cases rx;cases ry;obtain⟨its,r1,p1,_⟩:=I.tuple ha;obtain⟨its2,r2,p2,_⟩:=I.tuple hb;have i1:IntsAre its.toArray.toList ns:=zel r1;have i2:IntsAre its2.toArray.toList ms:=zel r2;exact HT.znl p1 p2 i1 i2 hu ⟨.bl (HT.lexLt ns ms),H,I,rfl,q⟩
def rCatT (K:Fg):R2:=λx y H Q=>∃a b xs ys,x=.ref a/\y=.ref b/\SqT K H a xs/\SqT K H b ys/\xs≠[]/\xs.length+ys.length<=sizeLine /\
 (ys=[]->Q (.ref a) H)/\(ys≠[]->∀p,H p=none->Q (.ref p) (upd H p (.tup (xs++ys))))
theorem Vals.nil_iff   (r:Vals xs us):us=[]↔xs=[]:=by
 cases r with
 | nil=>simp
 | cons _ _=>simp
theorem zbjz:OpR X (binaryOp .Add) (rCatT X.K):=by
 intro aU s σ H x y v u Q I rx ry h;obtain⟨a,b,xs,ys,rfl,rfl,ha,hb,hx,hz,q1,q2⟩:=h;cases rx;cases ry;obtain⟨its,r1,p1,_⟩:=I.tuple ha;obtain⟨its2,r2,p2,_⟩:=I.tuple hb;refine HT.zbmq p1 p2 (λz=>hx (r1.nil_iff.mp z)) (λz=>⟨.ref a,H,I,rfl,q1 (r2.nil_iff.mp z)⟩) (λz=>?_) (by rw[← r1.length,← r2.length];exact hz);refine⟨.ref s.heap.objs.size,_,I.laid (t':=s.toks) (o:=.tup (xs++ys)) (λb ob q=>xbf _ q) (xbg _) ?_,rfl,q2 (λw=>z (r2.nil_iff.mpr w)) _ (I.hok.fresh (xbg _))⟩;exact⟨by rw[xbh];exact hz,_,r1.append r2,IsTup.new _ _⟩
end
noncomputable def ixN (n:Nat) (i:Int):Option Nat:=if 0<=i then(if i < n then some i.toNat else none) else if -(n:Int)<=i then some (i+n).toNat else none
def atI {α:Type} (xs:List α) (i:Int):Option α:=(ixN xs.length i).bind λj=>xs[j]?
theorem zbcd    (h:ixN n i=some j):seqIndex? i n=some j/\j < n/\-(n:Int)<=i/\i < n:=by
 unfold ixN at h;by_cases h0:0<=i
 ·rw[if_pos h0] at h;by_cases h1:i < n
  ·rw[if_pos h1] at h;have e:i.toNat=j:=xcs h;exact⟨by rw[seqIndex_of h0 h1,e],by lia,by lia,h1⟩
  ·rw[if_neg h1] at h;cases h
 ·rw[if_neg h0] at h;by_cases h1:-(n:Int)<=i
  ·rw[if_pos h1] at h;have e:(i+n).toNat=j:=xcs h;exact⟨by rw[seqIndex_neg (by lia) h1,e],by lia,h1,by lia⟩
  ·rw[if_neg h1] at h;cases h
theorem zxb {α:Type}{xs:List α}  {v:α}(h:atI xs i=some v):∃j,seqIndex? i xs.length=some j/\xs[j]?=some v/\j < xs.length/\-(xs.length:Int)<=i/\i < xs.length:=by
 unfold atI at h;cases e:ixN xs.length i with
 | none=>rw[e] at h;cases h
 | some j =>
  rw[e] at h;obtain⟨h1,h2,h3,h4⟩:=zbcd e;exact⟨j,h1,h,h2,h3,h4⟩
theorem zbdg {α:Type}{xs:List α}{j:Nat}{v:α}(h:xs[j]?=some v):atI xs (j:Int)=some v:=by
 have hj:j < xs.length:=(xbj.mp h).1;have e:ixN xs.length (j:Int)=some j:=by
  unfold ixN;rw[if_pos (by lia),if_pos (by lia)];simp
 unfold atI;rw[e];exact h
noncomputable def PlainIx (b:Expr):Prop:=∀o i,subscripted b false o i=operate [o,i] (getItem o i)
def IxR (X:Cx) (r:R2):Prop :=
 ∀(value slice:Expr) (aU:List (Addr×Obj)) (s:Shared) (σ:St) (H:Hp) (x y:V) (v u:Value) (Q:VK),Inv X aU σ H s->RelV x v->RelV y u->r x y H Q ->
  subscripted slice false v u=operate [v,u] (getItem v u)->wpAny (model X.prog X.w) X.A (subscriptTail value slice v u) (EP X aU σ Q) X.xe s
def MtR (X:Cx) (id:String) (r:V->List V->Hp->VK->Prop):Prop :=
 ∀(aU:List (Addr×Obj)) (s:Shared) (σ:St) (H:Hp) (x:V) (xs:List V) (v:Value) (us:List Value) (Q:VK),Inv X aU σ H s->RelV x v->Vals xs us->r x xs H Q ->
  wpAny (model X.prog X.w) X.A (call (.builtin id) (v::us)) (EP X aU σ Q) X.xe s
section
theorem IxR.or  (h:IxR X r)(h':IxR X r'):IxR X (λx y H Q=>r x y H Q\/r' x y H Q):=by
 intro value slice aU s σ H x y v u Q I rx ry q hs;rcases q with q | q
 ·exact h value slice aU s σ H x y v u Q I rx ry q hs
 ·exact h' value slice aU s σ H x y v u Q I rx ry q hs
theorem zbtz  (hr:IxR X r)(ha:PE X a ta)(hb:PE X b tb)(hs:PlainIx b):PE X (.Subscript a b pos) (tOp r ta tb):=by
 intro aU s σ H Q I h;exact Subscript_ (binT ha hb I h λv u s2 x y H2 I2 rx ry q=>hr a b aU s2 σ H2 x y v u Q I2 rx ry q (hs _ _))
def rIxL (K:Fg):R2:=λx y H Q=>∃p xs i v,x=.ref p/\y=.int i/\SqL K H p xs/\atI xs i=some v/\Q v H
def rIxT (K:Fg):R2:=λx y H Q=>∃p xs i v,x=.ref p/\y=.int i/\SqT K H p xs/\atI xs i=some v/\Q v H
def rIxS:R2:=λx y H Q=>∃z i c,x=.str z/\y=.int i/\z.length<=sizeLine/\atI z.cps.toList i=some c/\Q (.str ⟨#[c]⟩) H
theorem zbkt:IxR X (rIxL X.K):=by
 intro value slice aU s σ H x y v u Q I rx ry h hs;obtain⟨p,xs,i,z,rfl,rfl,hq,he,q⟩:=h;cases rx;obtain⟨t,rfl⟩:=ry;obtain⟨its,r,pl,hz⟩:=I.list hq;obtain⟨j,h1,h2,h3,h4,h5⟩:=zxb he;obtain⟨w,ew,rw'⟩:=r.get h2;have hl:=r.length;have hn:=line63;have fin:EP X aU σ Q w s:=⟨z,H,I,rw',q⟩
 by_cases h0:0<=i
 ·have hj:i.toNat=j:=by
   rw[seqIndex_of h0 h5] at h1;exact xcs h1
  exact item_listR pl.isList h0 (by lia) (by rw[hj];simpa using ew) fin hs
 ·have hj:(i+(its.toArray.size:Int)).toNat=j:=by
   rw[seqIndex_neg (by lia) h4] at h1;rw[xbv,← hl];exact xcs h1
  exact subscriptTail_builtinR (x:=w) pl.isList.typeIs slot_list_getitem.lookup
   (wpAny_getItem_list_neg (Q:=λr s'=>r=w/\EP X aU σ Q r s') pl.isList (by lia) (by rw[xbv]<;>lia) (by lia) (by rw[hj];simpa using ew) ⟨rfl,fin⟩) hs
theorem zbqf:IxR X (rIxT X.K):=by
 intro value slice aU s σ H x y v u Q I rx ry h hs;obtain⟨p,xs,i,z,rfl,rfl,hq,he,q⟩:=h;cases rx;obtain⟨t,rfl⟩:=ry;obtain⟨its,r,pl,hz⟩:=I.tuple hq;obtain⟨j,h1,h2,h3,h4,h5⟩:=zxb he;obtain⟨w,ew,rw'⟩:=r.get h2;have hl:=r.length;have hn:=line63;have fin:EP X aU σ Q w s:=⟨z,H,I,rw',q⟩
 exact subscriptTail_builtinR (x:=w) pl.typeIs xkl.lookup
  (getItem_tuple (j:=j) (Q:=λr s'=>r=w/\EP X aU σ Q r s') pl (by lia) (by lia) (by rw[xbv,← hl];exact h1) (by simpa using ew) ⟨rfl,fin⟩) hs
theorem zbqg:IxR X rIxS:=by
 intro value slice aU s σ H x y v u Q I rx ry h hs;obtain⟨z,i,c,rfl,rfl,hz,he,q⟩:=h;obtain⟨t,rfl⟩:=rx;obtain⟨t',rfl⟩:=ry;obtain⟨j,h1,h2,h3,h4,h5⟩:=zxb he;have hl:z.cps.toList.length=z.length:=by simp[Str.length]
 rw[hl] at h1 h4 h5;have hn:=line63
 exact tail_any (typeIs_str s z t) slot_str_getitem.lookup (getItem_str (c:=c) (by
  have e1:decide (i < -(2 ^ 63:Int))=false:=xbz (by lia);have e2:decide (i ≥ 2 ^ 63)=false:=xbz (by lia)
  rw[e1,e2,Bool.or_false]) (by rw[h1];simpa using h2) ⟨.str ⟨#[c]⟩,H,I.tok _,⟨_,rfl⟩,q⟩) hs
def rIx (K:Fg):R2:=λx y H Q=>rIxL K x y H Q\/rIxT K x y H Q\/rIxS x y H Q
theorem zbqh:IxR X (rIx X.K):=zbkt.or (zbqf.or zbqg)
theorem zvf (its:List Value)(n j:Nat)(u:Value):Obj.mapSeq (·.setIfInBounds j u) { cls:=.type "list", data:=.seq its.toArray n }={ cls:=.type "list", data:=.seq (its.set j u).toArray n }:=by
 simp[Obj.mapSeq]
theorem Inv.lst       (I:Inv X aU σ H s)(h:H p=some (.lst xs)) :
  ∃(its:List Value) (n:Nat),Vals xs its/\s.heap.get? p=some { cls:=.type "list", data:=.seq its.toArray n }/\xs.length<=sizeLine:=by
 obtain⟨z,its,n,r,e⟩:=I.hok p _ h;exact⟨its,n,r,e,z⟩
theorem Inv.lstUpd       {its its':List Value}   (I:Inv X aU σ H s)(h:H p=some (.lst xs))
  (ho:s.heap.get? p=some { cls:=.type "list", data:=.seq its.toArray n })(hf:f { cls:=.type "list", data:=.seq its.toArray n }={ cls:=.type "list", data:=.seq its'.toArray n' })(r:Vals ys its')(hz:ys.length<=sizeLine)(t:Nat) :
  Inv X aU σ (upd H p (.lst ys)) {s with heap:=s.heap.update p f,toks:=t}:=by
 have e:(s.heap.update p f).get? p=some { cls:=.type "list", data:=.seq its'.toArray n' }:=by
  rw[xed f ho (by rw[hf]<;>rfl),hf]
 refine I.write (x:=p) (e:=p) (by rw[h];trivial) (.inl rfl) (λb u hb q=>(xhd _ _ (xcx hb)).trans q) ⟨_,e⟩ ?_;exact⟨hz,its',n',r,e⟩
def rSetL:V->V->V->Hp->(Hp->Prop)->Prop:=λo i v H Q=>∃p xs k j,o=.ref p/\i=.int k/\H p=some (.lst xs)/\ixN xs.length k=some j/\Q (upd H p (.lst (xs.set j v)))
theorem zbdy:PSet X rSetL:=by
 intro aU s σ H o i v ov iv u Q I ro ri rv h;obtain⟨p,xs,k,j,rfl,rfl,hp,hj,q⟩:=h;cases ro;obtain⟨t,rfl⟩:=ri;obtain⟨its,n,r,ho,hz⟩:=I.lst hp;obtain⟨h1,h2,h3,h4⟩:=zbcd hj;have hl:=r.length;have hn:=line63;have I':Inv X aU σ (upd H p (.lst (xs.set j v))) {s with heap:=s.heap.update p (Obj.mapSeq (·.setIfInBounds j u))} :=
  I.lstUpd hp ho (zvf its n j u) (r.set rv j) (by rw[xex];exact hz) s.toks
 by_cases h0:0<=k
 ·have hk:k.toNat=j:=by
   rw[seqIndex_of h0 h4] at h1;exact xcs h1
  exact W.ki_setAt ho h0 (by lia) (by rw[xbv,← hl];exact h4) (by rw[hk];exact⟨_,I',q⟩)
 ·have hk:(k+(its.toArray.size:Int)).toNat=j:=by
   rw[seqIndex_neg (by lia) h3] at h1;rw[xbv,← hl];exact xcs h1
  exact W.ki_setBack ho (by lia) (by rw[xbv,← hl];exact h3) (by lia) (by rw[hk];exact⟨_,I',q⟩)
theorem zon (lo hi:Option Int)(n:Nat):(sliceBounds lo hi none n).1=((HT.sIx n 0 lo:Nat):Int)/\(sliceBounds lo hi none n).2.1=((HT.sIx n n hi:Nat):Int)/\(sliceBounds lo hi none n).2.2=1:=by
 refine⟨?_,?_,rfl⟩
 ·cases lo with
  | none=>simp[sliceBounds,HT.sIx]
  | some i =>
   simp only[sliceBounds,HT.sIx,xnb,show(1:Int) > 0 by decide,xeu];by_cases h:i < 0
   ·simp only[h,xeu]<;>lia
   ·simp only[h,xec]<;>lia
 ·cases hi with
  | none=>simp[sliceBounds,HT.sIx]
  | some i =>
   simp only[sliceBounds,HT.sIx,xnb,show(1:Int) > 0 by decide,xeu];by_cases h:i < 0
   ·simp only[h,xeu]<;>lia
   ·simp only[h,xec]<;>lia
theorem zmr (its:List Value)(lo hi:Option Int):slicePick its.toArray lo hi none=((its.drop (HT.sIx its.length 0 lo)).take (HT.sIx its.length its.length hi - HT.sIx its.length 0 lo)).toArray:=by
 obtain⟨h1,h2,h3⟩:=zon lo hi its.toArray.size;unfold slicePick;rw[h1,h2,h3];simp only[sliceRange_one,pick_run,xbv]<;>rfl
def rSlL (K:Fg):V->Option Int->Option Int->Hp->VK->Prop:=λx lo hi H Q=>∃a xs,x=.ref a/\SqL K H a xs/\∀p,H p=none->Q (.ref p) (upd H p (.lst (cutV xs lo hi)))
theorem zbim:SlR X (rSlL X.K):=by
 intro aU s σ H x v vl vu lo hi sl Q I rx hs pl pu h;obtain⟨a,xs,rfl,hx,q⟩:=h;cases rx;obtain⟨its,r,ht,hz⟩:=I.list hx;have hlen:=r.length;refine⟨"list", _,slot_list_getitem.lookup,ht.isList.typeIs,?_⟩
 refine wpAny_getItem_list_slice ht.isList hs pl pu .none (by simp) ?_ (by rw[xbv]<;>lia);rw[zmr,← hlen];refine⟨.ref s.heap.objs.size,_,I.laid (t':=s.toks) (o:=.lst (cutV xs lo hi)) (λb ob q=>xbf _ q) (xbg _) ?_,rfl,q _ (I.hok.fresh (xbg _))⟩;exact⟨xbc (zkv xs lo hi) hz,_,0,(r.drop (HT.sIx xs.length 0 lo)).take (HT.sIx xs.length xs.length hi - HT.sIx xs.length 0 lo),xbu _ rfl⟩
theorem zt:CallR X (.builtin "len") (λxs H Q=>∃ p ys,xs=[.ref p]/\(SqL X.K H p ys\/SqT X.K H p ys)/\Q (.int ys.length) H):=by
 intro aU s σ H xs us Q I r h;obtain⟨p,ys,rfl,hq,q⟩:=h;obtain⟨u,rfl,rx⟩:=vals1 r;cases rx;have hn:=line63;rcases hq with hq | hq
 ·obtain⟨its,r',pl,hz⟩:=I.list hq;have hlen:=r'.length;exact Calls.call_len_list pl.isList (by simp only[xbv]<;>lia) ⟨.int ys.length,H,I.tok _,⟨s.toks+1,by rw[xbv,hlen]⟩,q⟩
 ·obtain⟨its,r',pl,hz⟩:=I.tuple hq;have hlen:=r'.length;exact len_tuple pl (by simp only[xbv]<;>lia) ⟨.int ys.length,H,I.tok _,⟨s.toks+1,by rw[xbv,hlen]⟩,q⟩
theorem CallR.or   (h:CallR X f r)(h':CallR X f r'):CallR X f (λxs H Q=>r xs H Q\/r' xs H Q):=by
 intro aU s σ H xs us Q I rs q;rcases q with q | q
 ·exact h aU s σ H xs us Q I rs q
 ·exact h' aU s σ H xs us Q I rs q
theorem zjs:CallR X (.type "list") (λxs H Q=>∃ p ys,xs=[.ref p]/\(SqL X.K H p ys\/SqT X.K H p ys)/\∀ l,H l=none->Q (.ref l) (upd H l (.lst ys))):=by
 intro aU s σ H xs us Q I r h;obtain⟨p,ys,rfl,hq,q⟩:=h;obtain⟨u,rfl,rx⟩:=vals1 r;cases rx;have fin:∀(its:List Value),Vals ys its->ys.length<=sizeLine->∀(h':Heap) (c':Nat),(∀b o',s.heap.get? b=some o'->h'.get? b=some o') ->
   h'.get? s.heap.objs.size=some { cls:=.type "list", dict:=none,data:=.seq its.toArray c', slots:=#[] }->EP X aU σ Q (.ref s.heap.objs.size) { s with heap:=h' }:=λits r' hz h' c' kp e =>
  ⟨.ref s.heap.objs.size,_,I.laid (t':=s.toks) kp (xbg _) (show ObjOk X.prog X.w _ h' _ (.lst ys) from⟨hz,its,c',r',e⟩),rfl,q _ (I.hok.fresh (xbg _))⟩
 rcases hq with hq | hq
 ·obtain⟨its,r',pl,hz⟩:=I.list hq;have hlen:=r'.length;obtain⟨o,ho,hc,n,hd⟩:=pl.isList;exact call_list_seq p (.inl rfl) ho hc hd (λh' c' kp e=>fin its r' hz h' c' kp e) (by simp only[xbv]<;>lia)
 ·obtain⟨its,r',pl,hz⟩:=I.tuple hq;have hlen:=r'.length;obtain⟨o,ho,hc,n,hd⟩:=pl;exact call_list_seq p (.inr rfl) ho hc hd (λh' c' kp e=>fin its r' hz h' c' kp e) (by simp only[xbv]<;>lia)
theorem zbw:CallR X (.type "tuple") (λxs H Q=>∃ p ys,xs=[.ref p]/\((SqL X.K H p ys/\∀ l,H l=none->Q (.ref l) (upd H l (.tup ys)))\/(SqT X.K H p ys/\Q (.ref p) H))):=by
 intro aU s σ H xs us Q I r h;obtain⟨p,ys,rfl,h⟩:=h;obtain⟨u,rfl,rx⟩:=vals1 r;cases rx;rcases h with⟨hq,q⟩ | ⟨hq,q⟩
 ·obtain⟨its,r',pl,hz⟩:=I.list hq;have hlen:=r'.length;refine call_tuple_list pl.isList (λh' kp=>?_) (by simp only[xbv]<;>lia);have I1:Inv X aU σ H {s with heap:=h'}:=I.kept (t':=s.toks) kp;have I2:Inv X aU σ (upd H h'.objs.size (.tup ys)) { s with heap:=h'.push { cls:=.type "tuple", data:=.seq its.toArray } } :=
   I1.laid (t':=s.toks) (λb o e=>xbf _ e) (xbg _) (show ObjOk X.prog X.w _ _ _ (.tup ys) from⟨hz,its,r',IsTup.new _ _⟩)
  exact⟨.ref h'.objs.size,_,I2,rfl,q _ (I1.hok.fresh (xbg _))⟩
 ·obtain⟨its,r',pl,hz⟩:=I.tuple hq;exact call_tuple_same pl ⟨.ref p,H,I,rfl,q⟩
def tyV (K:Fg) (T:String) (x:V) (H:Hp):Prop:=match x with
 | .str _=>T="str"
 | .int _=>T="int"
 | .ref p=>(T="list"/\∃ xs,SqL K H p xs)\/(T="tuple"/\∃ o,K.lookup p=some o/\o.cls=.type "tuple"/\o.dict=none) \/
  (T="dict"/\((∃ kvs,H p=some (.dK kvs))\/∃ kvs,H p=some (.dT kvs)))\/(T="set"/\∃ S n,H p=some (.set S n))
 | _=>False
theorem zbie     {T:String}   (I:Inv X aU σ H s)(r:RelV x v)(ty:tyV X.K T x H) :
  s.TypeIs v T/\∀a,v=.ref a->∃ob,s.heap.get? a=some ob/\ob.dict=none:=by
 cases x with
 | str z =>
  obtain⟨t,rfl⟩:=r;cases(show T="str" from ty)
  exact⟨typeIs_str s z t,λ_ e=>nomatch e⟩
 | int i =>
  obtain⟨t,rfl⟩:=r;cases(show T="int" from ty)
  exact⟨typeIs_int s i t,λ_ e=>nomatch e⟩
 | ref p =>
  cases r;rcases ty with⟨rfl,xs,hq⟩ | ⟨rfl,o,hk,hc,hd⟩ | ⟨rfl,hk⟩ | ⟨rfl,S,n,hk⟩
  ·obtain⟨its,_,pl,_⟩:=I.list hq;refine⟨pl.isList.typeIs,λa e=>?_⟩;cases e;obtain⟨o,n,e,c,hd,_⟩:=pl;exact⟨o,e,hd⟩
  ·refine⟨⟨o,I.kIn p o hk,hc⟩,λa e=>?_⟩;cases e;exact⟨o,I.kIn _ o hk,hd⟩
  ·have z:∃o,s.heap.get? p=some o/\o.ExactDict:=by
    rcases hk with⟨kvs,hk⟩ | ⟨kvs,hk⟩
    ·obtain⟨_,_,_,_,o,_,_,e,ex,_⟩:=I.hok p _ hk;exact⟨o,e,ex⟩
    ·obtain⟨_,_,_,_,o,_,_,e,ex,_⟩:=I.hok p _ hk;exact⟨o,e,ex⟩
   obtain⟨o,e,ex⟩:=z;refine⟨⟨o,e,ex.1⟩,λa e2=>?_⟩;cases e2;exact⟨o,e,ex.2.1⟩
  ·obtain⟨o,_,_,_,e,ex,_⟩:=I.hok p _ hk;refine⟨⟨o,e,ex.1⟩,λa e2=>?_⟩;cases e2;exact⟨o,e,ex.2.1⟩
 | _=>exact False.elim ty
def tBM0 (K:Fg) (T:String) (r:V->List V->Hp->VK->Prop) (to:TE):TE:=λσ H Q=>to σ H λx H1=>tyV K T x H1/\r x [] H1 Q
def tBM (K:Fg) (T:String) (r:V->List V->Hp->VK->Prop) (to:TE) (t:TA):TE:=λσ H Q=>to σ H λx H1=>tyV K T x H1/\t σ H1 λxs H2=>r x xs H2 Q
theorem zbpd {apos:Pos}{cpos:Pos}{T:String}{id:String}(pa:PlainAttrs T)(slot:Slot T name id)(hty:typeOf (.builtin id)=pure (.type "method_descriptor"))(hm:MtR X id r)(ho:PE X o to)
  (hbase:attributeBase o name X.env (eval o X.env)=eval o X.env:=by rfl)(hline:(apos.endLine==cpos.line)=true:=by rfl):PE X (.Call (.Attribute o name apos) [] [] cpos) (tBM0 X.K T r to):=by
 intro aU s σ H Q I h;refine wpAny_Call_method0_late hbase hline (thn (ho aU s σ H _ I h) λv s1 hq0=>?_);obtain⟨x,H1,I1,r1,ty,q1⟩:=hq0;obtain⟨h1,h2⟩:=zbie I1 r1 ty;exact⟨T,id,pa,slot,hty,h1,h2,xjf rfl (PySem.evalArgs_none (hm aU s1 σ H1 x [] v [] Q I1 r1 .nil q1))⟩
theorem zbpe {apos:Pos}{T:String}{id:String}(pa:PlainAttrs T)(slot:Slot T name id)(hty:typeOf (.builtin id)=pure (.type "method_descriptor"))(hm:MtR X id r)(ho:PE X o to)(ha:PA X (e::es) t)
  (hbase:attributeBase o name X.env (eval o X.env)=eval o X.env:=by rfl)
  (hfew:((backTo cpos (starEach (e::es) X.env)).all (λx=>!x.1)&&(backToKw cpos (keywordEach [] X.env)).all (λx=>x.1.isSome)
   && decide ((e::es).length+([]:List Keyword).length+(if([]:List Keyword).isEmpty then 0 else 1) < 30))=true:=by rfl)
  (hline:(apos.endLine==cpos.line)=true:=by rfl)(hs:starEach (e::es) X.env=(false,eval e X.env)::starEach es X.env:=by rfl)(hplain:(backTo cpos (starEach es X.env)).any (·.1)=false:=by rfl) :
  PE X (.Call (.Attribute o name apos) (e::es) [] cpos) (tBM X.K T r to t):=by
 intro aU s σ H Q I h;refine wpAny_Call_method_late hbase hfew hline rfl (thn (ho aU s σ H _ I h) λv s1 hq0=>?_);obtain⟨x,H1,I1,r1,ty,q1⟩:=hq0;obtain⟨h1,h2⟩:=zbie I1 r1 ty;refine⟨T,id,pa,slot,hty,h1,h2,?_⟩;have hA:=ha cpos aU s1 σ H1 _ I1 q1;rw[hs] at hA ⊢;refine xjf (by show(false||(backTo cpos (starEach es X.env)).any (·.1))=false;rw[hplain]<;>rfl) (xlo ?_);exact thn hA λus s2 ⟨vs,H2,I2,r2,q2⟩=>hm aU s2 σ H2 x vs v us Q I2 r1 r2 q2
/- xs.append(e),list.index on a module's tuple .. are MtR facts of 06m -/
end
def MtM (X:Cx) (id:String) (r:V->List V->Hp->VK->Prop):Prop :=
 ∀(aU:List (Addr×Obj)) (s:Shared) (σ:St) (H:Hp) (x:V) (xs:List V) (v:Value) (us:List Value) (Q:VK),Inv X aU σ H s->RelV x v->Vals xs us->r x xs H Q ->
  wpAny (model X.prog X.w) X.A (call (.builtin id) (v::us)) (EP X aU σ Q) X.xe s
theorem Vals.one:∀{x:V} {us:List Value},Vals [x] us->∃u,us=[u]/\RelV x u
 | _,_,.cons r .nil=>⟨_,rfl,r⟩
section
theorem Inv.lset {its its':List Value}    (I:Inv X aU σ H s)(hH:H l=some (.lst xs))
  (e:s.heap.get? l=some { cls:=.type "list", data:=.seq its.toArray n })(hf:f its.toArray=its'.toArray)(hv:Vals ys its')(hz:ys.length<=sizeLine) :
  Inv X aU σ (upd H l (.lst ys)) {s with heap:=s.heap.update l (Obj.mapSeq f),toks:=t'}:=by
 have q:=PySem.IsL.update e f;rw[hf] at q;refine I.write (x:=l) (e:=l) (by rw[hH];exact trivial) (.inl rfl) (λb' u hb hu=>(xhd s.heap (Obj.mapSeq f) (xcx hb)).trans hu) ⟨_,q⟩ ?_;exact⟨hz,its',_,hv,q⟩
theorem Inv.lnew   (I:Inv X aU σ H s)(hv:Vals ys its)(hz:ys.length<=sizeLine) :
  Inv X aU σ (upd H s.heap.objs.size (.lst ys)) { s with heap:=s.heap.push { cls:=.type "list", data:=.seq its.toArray },toks:=t' } :=
 I.laid (λ_ _ q=>xbf _ q) (xbg _) ⟨hz,its,0,hv,xbu _ rfl⟩
theorem Inv.fresh (I:Inv X aU σ H s):H s.heap.objs.size=none:=I.hok.fresh (xbg _)
theorem Inv.lstM (I:Inv X aU σ H s)(hH:H l=some (.lst xs)):xs.length<=sizeLine/\∃(its:List Value) (n:Nat),Vals xs its/\xs.length=its.length/\s.heap.get? l=some { cls:=.type "list", data:=.seq its.toArray n }:=by
 obtain⟨z,its,n,r,e⟩:=I.hok l _ hH;exact⟨z,its,n,r,r.length,e⟩
theorem notLongL  (h:n<=sizeLine):Builtin.List.listTooLong n=false:=by
 unfold Builtin.List.listTooLong;exact xbz (by lia)
end
section
def rAppend:V->List V->Hp->VK->Prop:=λx vs H Q=>∃l xs y,x=.ref l/\vs=[y]/\H l=some (.lst xs)/\xs.length < sizeLine/\Q .non (upd H l (.lst (xs++[y])))
theorem zqr:MtM X "list.append" rAppend:=by
 intro aU s σ H x vs v us Q I rx rv h;obtain⟨l,xs,y,rfl,rfl,hH,hz,q⟩:=h;cases rx;obtain⟨u,rfl,ru⟩:=rv.one;obtain⟨z,its,n,r,hl,e⟩:=I.lstM hH;refine call_meets F.slot_list_append ⟨_,e,rfl⟩ F.entry_list_append (F.args_list_append_2 _ _) (PySem.list_append l its.toArray n u (by rw[xbv];lia)) ⟨e,?_⟩;refine⟨.non,_,I.lset (its':=its++[u]) hH e (by simp) (r.append (.cons ru .nil)) ?_,rfl,q⟩;rw[xbh,xlj];lia
def rExtend:V->List V->Hp->VK->Prop:=λx vs H Q=>∃l b xs zs,x=.ref l/\vs=[.ref b]/\H l=some (.lst xs)/\H b=some (.lst zs)/\xs.length+zs.length<=sizeLine/\Q .non (upd H l (.lst (xs++zs)))
theorem zzk:MtM X "list.extend" rExtend:=by
 intro aU s σ H x vs v us Q I rx rv h;obtain⟨l,b,xs,zs,rfl,rfl,hH,hB,hz,q⟩:=h;cases rx;obtain⟨u,rfl,ru⟩:=rv.one;cases ru;obtain⟨z,its,n,r,hl,e⟩:=I.lstM hH;obtain⟨z2,its2,n2,r2,hl2,e2⟩:=I.lstM hB;have hsz:its.toArray.size+its2.toArray.size<=sizeLine:=by rw[xbv,xbv];lia
 have hlong:¬ (!its.toArray.isEmpty&&Builtin.List.listTooLong (its.toArray.size+its2.toArray.size))=true:=by
  rw[notLongL hsz,xnp];exact xft
 refine call_meets F.slot_list_extend ⟨_,e,rfl⟩ F.entry_list_extend (F.args_list_extend_2 _ _)
  (AutoSeq1.list_extend_list_list_0 l its.toArray n b its2.toArray n2 hlong (by rw[xbv];lia) (by lia)) ⟨e,e2,?_⟩
 refine⟨.non,_,I.lset (its':=its++its2) hH e (by simp) (r.append r2) ?_,rfl,q⟩;rw[xbh];lia
def rCat:R2:=λx y H Q=>∃l b xs zs,x=.ref l/\y=.ref b/\H l=some (.lst xs)/\H b=some (.lst zs)/\xs.length+zs.length<=sizeLine/\∀p,H p=none->Q (.ref p) (upd H p (.lst (xs++zs)))
theorem zbpo:OpR X (binaryOp .Add) rCat:=by
 intro aU s σ H x y v u Q I rx ry h;obtain⟨l,b,xs,zs,rfl,rfl,hH,hB,hz,q⟩:=h;cases rx;cases ry;obtain⟨z,its,n,r,hl,e⟩:=I.lstM hH;obtain⟨z2,its2,n2,r2,hl2,e2⟩:=I.lstM hB;refine PySem.P.add_list e e2 ?_ (by rw[xbv,xbv];lia);have ea:its.toArray++its2.toArray=(its++its2).toArray:=by simp
 rw[ea];exact⟨.ref _,_,I.lnew (t':=s.toks) (r.append r2) (by rw[xbh];lia),rfl,q _ I.fresh⟩
end
section
end
section
end
section
variable {κ:Type}[DecidableEq κ]
noncomputable def valV (kvs:List (κ×V)) (k:κ):Option V:=(kvs.find? λkv=>decide (kv.1=k)).map (·.2)
noncomputable def putK (kvs:List (κ×V)) (k:κ) (v:V):List (κ×V) :=
 if(kvs.any λkv=>decide (kv.1=k))=true then kvs.map (λkv=>if kv.1=k then(kv.1,v) else kv) else kvs++[(k,v)]
noncomputable def dropK (kvs:List (κ×V)) (k:κ):List (κ×V):=kvs.filter λkv=>decide (kv.1≠k)
theorem zir {p:κ×V}{r:List (κ×V)}{k:κ}(e:p.1=k):valV (p::r) k=some p.2:=by simp[valV,xdn,e]
theorem zis {p:κ×V}{r:List (κ×V)}{k:κ}(e:¬ p.1=k):valV (p::r) k=valV r k:=by simp[valV,xdn,e]
theorem zth (k:κ):∀kvs:List (κ×V),(kvs.any λkv=>decide (kv.1=k))=(valV kvs k).isSome
 | []=>rfl
 | p::r=>by
  rw[xhu];by_cases e:p.1=k
  ·simp only[zir e,xbw e,Bool.true_or,Option.isSome_some]
  ·rw[zis e,xbz e,Bool.false_or];exact zth k r
theorem zhc (kvs:List (κ×V))(k:κ)(v:V):(putK kvs k v).length<=kvs.length+1:=by
 unfold putK;split
 ·rw[xbb];lia
 ·rw[xbh,xcc,xln];lia
theorem RelO.isSome_eq   (r:RelO o u):o.isSome=u.isSome:=by
 cases o with
 | none=>cases u with
  | none=>rfl
  | some _=>exact(show False from r).elim
 | some _=>cases u with
  | none=>exact(show False from r).elim
  | some _=>rfl
theorem RelO.getD     (r:RelO o u)(rd:RelV d d'):RelV (o.getD d) (u.getD d'):=by
 cases o with
 | none=>cases u with
  | none=>exact rd
  | some _=>exact(show False from r).elim
 | some _=>cases u with
  | none=>exact(show False from r).elim
  | some _=>exact r
theorem KV.val   (r:KV kvs vs)(k:κ):RelO (valV kvs k) (valueAt vs k):=by
 unfold KV at r
 induction r with
 | nil=>exact True.intro
 | @cons p q ps qs h t ih =>
  obtain⟨h1,h2⟩:=h;by_cases e:p.1=k
  ·have e':q.1=k:=h1.symm.trans e;have b:valueAt (q::qs) k=some q.2:=by simp[valueAt,xdn,e']
   rw[zir e,b];exact h2
  ·have e':¬ q.1=k:=λz=>e (h1.trans z)
   have b:valueAt (q::qs) k=valueAt qs k:=by simp[valueAt,xdn,e']
   rw[zis e,b];exact ih
theorem KV.any   (r:KV kvs vs)(k:κ):(kvs.any λkv=>decide (kv.1=k))=vs.any λkv=>decide (kv.1=k):=by
 unfold KV at r
 induction r with
 | nil=>rfl
 | cons h t ih=>rw[xhu,xhu,ih,h.1]
theorem KV.repl   (r:KV kvs vs)(k:κ)   (ry:RelV y u) :
  KV (kvs.map λkv=>if kv.1=k then(kv.1,y) else kv) (vs.map λkv=>if kv.1=k then(kv.1,u) else kv):=by
 unfold KV at r ⊢
 induction r with
 | nil=>exact .nil
 | @cons p q ps qs h t ih =>
  rw[xbs,xbs];refine .cons ?_ ih;obtain⟨h1,h2⟩:=h;by_cases e:p.1=k
  ·rw[if_pos e,if_pos (h1.symm.trans e)];exact⟨h1,ry⟩
  ·rw[if_neg e,if_neg (λz=>e (h1.trans z))];exact⟨h1,h2⟩
theorem KV.put   (r:KV kvs vs)(k:κ)   (ry:RelV y u):KV (putK kvs k y) (stored vs k u):=by
 unfold putK stored;rw[r.any k];by_cases e:(vs.any λkv=>decide (kv.1=k))=true
 ·rw[if_pos e,if_pos e];exact r.repl k ry
 ·rw[if_neg e,if_neg e];exact Paired.snoc r ⟨rfl,ry⟩
theorem KV.keys {kvs:List (κ×V)}{vs:List (κ×Value)}(r:KV kvs vs):kvs.map (·.1)=vs.map (·.1):=by
 unfold KV at r
 induction r with
 | nil=>rfl
 | cons h t ih=>rw[xbs,xbs,ih,h.1]
theorem KV.length   (r:KV kvs vs):kvs.length=vs.length:=xiq r
end
theorem zbhj     (r:RelV (kV k) u):(mixKind P w).is k u=true:=by
 cases k with
 | inl i=>obtain⟨t,e⟩:=(show ∃t,u=Value.int i t from r);subst e;exact zsm P w i t
 | inr x=>obtain⟨t,e⟩:=(show ∃t,u=Value.str x t from r);subst e;exact zsl P w x t
theorem zqu  :∀{ks:List Key} {us:List Value},Vals (ks.map kV) us->ItemsAre (mixKind P w) ks us
 | [],_,r=>by rw[xna] at r;cases r;exact .nil
 | k::ks,_,r=>by
  rw[xbs] at r;cases r with
  | cons h t=>exact .cons (zbhj h) (zqu t)
abbrev KT (H:Hp):List (List Key×V)->List (List Key×Addr×Value)->Prop:=Paired λp q=>p.1=q.1/\H q.2.1=some (.tup (p.1.map kV))/\RelV p.2 q.2.2
theorem KT.val    (r:KT H kvs xs)(k:List Key):RelO (valV kvs k) ((atKey xs k).map (·.2)):=by
 induction r with
 | nil=>exact True.intro
 | @cons p q ps qs h t ih =>
  obtain⟨h1,_,h2⟩:=h;by_cases e:p.1=k
  ·have e':q.1=k:=h1.symm.trans e;have b:atKey (q::qs) k=some q.2:=by simp[atKey,xdn,e']
   rw[zir e,b];exact h2
  ·have e':¬ q.1=k:=λz=>e (h1.trans z)
   have b:atKey (q::qs) k=atKey qs k:=by simp[atKey,xdn,e']
   rw[zis e,b];exact ih
theorem KT.repl    (r:KT H kvs xs)(k:List Key)   (ry:RelV y u) :
  KT H (kvs.map λkv=>if kv.1=k then(kv.1,y) else kv) (xs.map (putAt k u)):=by
 induction r with
 | nil=>exact .nil
 | @cons p q ps qs h t ih =>
  rw[xbs,xbs];refine .cons ?_ ih;obtain⟨h1,h2,h3⟩:=h;unfold putAt;by_cases e:p.1=k
  ·rw[if_pos e,if_pos (h1.symm.trans e)];exact⟨h1,h2,ry⟩
  ·rw[if_neg e,if_neg (λz=>e (h1.trans z))];exact⟨h1,h2,h3⟩
theorem KT.put    (r:KT H kvs xs)(k:List Key)    (hb:H b=some (.tup (k.map kV)))(ry:RelV y u) :
  KT H (putK kvs k y) (storedH xs k b u):=by
 have e:(kvs.any λkv=>decide (kv.1=k))=(atKey xs k).isSome:=by
  rw[zth,(r.val k).isSome_eq,Option.isSome_map]
 unfold putK storedH;rw[e];by_cases q:(atKey xs k).isSome=true
 ·rw[if_pos q,if_pos q];exact r.repl k ry
 ·rw[if_neg q,if_neg q];exact Paired.snoc r ⟨rfl,hb,ry⟩
theorem KT.keeps    (r:KT H kvs xs)(ht:∀b ys,H b=some (.tup ys)->H' b=some (.tup ys)):KT H' kvs xs :=
 Paired.mapP r λ_ _ z=>⟨z.1,ht _ _ z.2.1,z.2.2⟩
section
theorem zbsx  (ok:HOk P w H h)(e:Rd H a u):ObjOk P w H h a u:=e.ok ok
theorem zbgj  (ok:HOk P w H h)(e:Rd H a (.dK kvs)):kvs.length<=sizeLine/\(a==sysModules)=false/\∃vs,KV kvs vs/\h.DictOf (mixKind P w) a vs :=
 show ObjOk P w H h a (.dK kvs) from zbsx ok e
theorem zbtj  (ok:HOk P w H h)(e:H a=some (.dK kvs)):kvs.length<=sizeLine/\(a==sysModules)=false/\∃vs,KV kvs vs/\h.DictOf (mixKind P w) a vs:=zbgj ok (.inl e)
theorem zsp {ks:List Key}(ok:HOk P w H h)(e:H a=some (.tup (ks.map kV))):(tupleKind (mixKind P w)).is h ks a:=by
 obtain⟨_,its,r,o,h1,h2,n,h3⟩:=(show ObjOk P w H h a (.tup (ks.map kV)) from ok a _ e)
 exact⟨o,its.toArray,n,h1,h2,h3,by simpa using zqu r⟩
theorem zbhk  (ok:HOk P w H h)(e:Rd H a (.dT kvs)):kvs.length<=sizeLine/\(a==sysModules)=false /\
  ∃xs,KT H kvs xs/\h.DictOfH (tupleKind (mixKind P w)) a xs:=by
 obtain⟨z,y,xs,r,o,es,ep,h1,h2,h3,h4,h5⟩:=(show ObjOk P w H h a (.dT kvs) from zbsx ok e)
 refine⟨z,y,xs,r,o,es,ep,h1,h2,h3,h4,λx hx=>?_,h5⟩;have all:∀{l:List (List Key×V)} {m:List (List Key×Addr×Value)},KT H l m->∀x∈m,(tupleKind (mixKind P w)).is h x.1 x.2.1:=by
  intro l m q
  induction q with
  | nil=>intro x hx;exact nomatch hx
  | @cons p q ps qs hq t ih =>
   intro x hx;rcases xbm.mp hx with e | hx
   ·subst e;exact zsp ok (by rw[← hq.1];exact hq.2.1)
   ·exact ih x hx
 exact all r x hx
theorem zbti  (ok:HOk P w H h)(e:H a=some (.dT kvs)):kvs.length<=sizeLine/\(a==sysModules)=false /\
 ∃xs,KT H kvs xs/\h.DictOfH (tupleKind (mixKind P w)) a xs:=zbhk ok (.inl e)
end
def DGet (H:Hp) (a:Addr) (y:V) (r:Option V):Prop :=
 (∃kvs k,Rd H a (.dK kvs)/\y=kV k/\r=valV kvs k)\/∃kvs k b,Rd H a (.dT kvs)/\y=.ref b/\H b=some (.tup (k.map kV))/\r=valV kvs k
def DPut (H:Hp) (a:Addr) (y v:V) (H':Hp):Prop :=
 (∃kvs k,H a=some (.dK kvs)/\y=kV k/\kvs.length < sizeLine/\H'=upd H a (.dK (putK kvs k v))) \/
 ∃kvs k b,H a=some (.dT kvs)/\y=.ref b/\H b=some (.tup (k.map kV))/\kvs.length < sizeLine/\H'=upd H a (.dT (putK kvs k v))
theorem DPut.k {H:Hp}{a:Addr}{kvs:List (Key×V)}{k:Key}{v:V}(e:H a=some (.dK kvs))(hl:kvs.length < sizeLine):DPut H a (kV k) v (upd H a (.dK (putK kvs k v))):=.inl ⟨kvs,k,e,rfl,hl,rfl⟩
theorem DPut.t    {k:List Key}  (e:H a=some (.dT kvs))(eb:H b=some (.tup (k.map kV)))(hl:kvs.length < sizeLine) :
 DPut H a (.ref b) v (upd H a (.dT (putK kvs k v))):=.inr ⟨kvs,k,b,e,rfl,eb,hl,rfl⟩
section
theorem Inv.big (I:Inv X aU σ H s):sysModules < s.heap.objs.size:=by
 have h:mainGlobals < s.heap.objs.size:=(I.mod.glob.keeps I.bk).lt;exact xjn (by decide) h
theorem zbaq {A:Around}  (hu:A.units+1 < cLine)(I:Inv X aU σ H s)(g:DGet H a y (some v))(ry:RelV y u)(h:∀w' s',Inv X aU σ H s'->RelV v w'->Q w' s') :
  wpAny (model X.prog X.w) A (getItem (.ref a) u) Q E s:=by
 rcases g with⟨kvs,k,e,ey,l⟩ | ⟨kvs,k,b,e,ey,eb,l⟩
 ·subst ey;obtain⟨z,hd,vs,rel,dd⟩:=zbgj I.hok e;obtain⟨w',hw,rw'⟩:=RelO.some_of (v:=v) (o:=valueAt vs k) (by rw[l];exact rel.val k);exact wpAny_getItem_of (zbhj ry) dd.mapOf hw (h w' _ (I.tok _) rw')
 ·subst ey;cases(show u=Value.ref b from ry);obtain⟨z,hd,xs,rel,dd⟩:=zbhk I.hok e;obtain⟨w',hw,rw'⟩:=RelO.some_of (v:=v) (o:=(atKey xs k).map (·.2)) (by rw[l];exact rel.val k);obtain⟨p,hp,hp2⟩:=xdh.mp hw;refine wpAny_getItem_heap (xjc hu) (zsp I.hok eb) dd hp ?_;rw[hp2];exact h w' _ (I.tok _) rw'
theorem d_in {A:Around}  (hu:A.units+1 < cLine)(I:Inv X aU σ H s)(g:DGet H a y o)(ry:RelV y u)(h:∀s',Inv X aU σ H s'->Q (.bool o.isSome) s') :
  wpAny (model X.prog X.w) A (compareOp .In u (.ref a)) Q E s:=by
 rcases g with⟨kvs,k,e,ey,l⟩ | ⟨kvs,k,b,e,ey,eb,l⟩
 ·subst ey;obtain⟨z,hd,vs,rel,dd⟩:=zbgj I.hok e;refine wpAny_in_of (zbhj ry) hd dd.mapOf ?_;rw[← (rel.val k).isSome_eq,← l];exact h _ (I.tok _)
 ·subst ey;cases(show u=Value.ref b from ry);obtain⟨z,hd,xs,rel,dd⟩:=zbhk I.hok e;refine wpAny_in_heap (xjc hu) (zsp I.hok eb) hd dd ?_;have q:=(rel.val k).isSome_eq;rw[Option.isSome_map] at q;rw[← q,← l];exact h _ (I.tok _)
theorem zrc    (I:Inv X aU σ H s)(mu:Mut (H a))(hs:Heap.SameBut a s.heap h')(he:∃q,h'.get? a=some q)(new:ObjOk X.prog X.w (upd H a ob) h' a ob) :
  Inv X aU σ (upd H a ob) {s with heap:=h',toks:=t'} :=
 I.write (x:=a) (e:=a) mu (.inl rfl) (λb q hb z=>(hs.2 b hb).trans z) he new
theorem zbls    {h':Heap}{kvs:List (Key×V)}  (z:kvs.length<=sizeLine)(hd:(a==sysModules)=false)(rel:KV kvs vs)(dd:h'.DictOf (mixKind P w) a vs) :
 ObjOk P w H' h' a (.dK kvs):=⟨z,hd,vs,rel,dd⟩
theorem zbao {A:Around}   (hu:A.units+1 < cLine)(I:Inv X aU σ H s)(g:DPut H a y v H')(ry:RelV y u)(rv:RelV v r)(h:∀s',Inv X aU σ H' s'->Q () s') :
  wpAny (model X.prog X.w) A (setItem (.ref a) u r) Q E s:=by
 rcases g with⟨kvs,k,e,ey,l,eH⟩ | ⟨kvs,k,b,e,ey,eb,l,eH⟩
 ·subst ey eH;obtain⟨z,hd,vs,rel,dd⟩:=zbtj I.hok e;have hz:vs.length<=sizeLine:=by rw[← rel.length];exact z
  have hl:(putK kvs k v).length<=sizeLine:=by have:=zhc kvs k v;lia
  refine wpAny_setItem_pairs (hsz:=hz) (zbhj ry) dd λh' dd' hs=>h _ ?_
  have he:∃q,h'.get? a=some q:=let ⟨q,_,_,hq,_⟩:=dd';⟨q,hq⟩
  exact zrc I (by rw[e];exact True.intro) hs he (zbls hl hd (rel.put k rv) dd')
 ·subst ey eH;cases(show u=Value.ref b from ry);obtain⟨z,hd,xs,rel,dd⟩:=zbti I.hok e;have hz:xs.length<=sizeLine:=by rw[← xiq rel];exact z
  have hl:(putK kvs k v).length<=sizeLine:=by have:=zhc kvs k v;lia
  refine wpAny_setItem_heap (hsz:=hz) (xjc hu) (zsp I.hok eb) dd λh' dd' hs=>h _ ?_
  obtain⟨q,es,ep,hq,h2,h3,h4,_,h5⟩:=dd';refine zrc I (by rw[e];exact True.intro) hs ⟨q,hq⟩ ⟨hl,hd,_,(rel.put k eb rv).keeps λc ys ec=>?_,q,es,ep,hq,h2,h3,h4,h5⟩;rw[zx (zbtc ec e (λz=>nomatch z))];exact ec
end
section
end
noncomputable def NoSl (i:Expr):Prop:=∀ov iv,subscripted i false ov iv=operate [ov,iv] (getItem ov iv)
theorem zbij         {T id:String} 
  (hl:typeLookup (.type T) "__getitem__"=pure (some (.builtin id)))(hs:NoSl slice)
  (h:wpAny (model prog w) A (eval value env) (λo s₁=>wpAny (model prog w) A (eval slice env) (λi s₂=>s₂.TypeIs o T/\wpAny (model prog w) A (getItem o i) Q E s₂) E s₁) E s) :
  wpAny (model prog w) A (eval (.Subscript value slice pos) env) Q E s:=by
 refine Subscript_ (xfe h (λo s₁ h₁=>xfe h₁ (λi s₂ h₂=>?_) λ_ _ x=>x) λ_ _ x=>x);obtain⟨hT,h₂⟩:=h₂;unfold subscriptTail;refine xba ?_;rw[getitemInPython_of_ne hT.not_modules];refine xba (wpAny_specialOf hT hl ?_);have fin:wpAny (model prog w) A (subscripted slice false o i) (λr s₃=>wpAny (model prog w) A (letTemporaryGo value o r >>= λ_=>pure r) Q E s₃) E s₂:=by
  rw[hs o i];exact wpAny_operating (xfe h₂ (λr s₃ h₃=>xba (wpAny_letTemporaryGo (xbd h₃))) λ_ _ x=>x)
 first
  | exact xbd (xba fin)
  | exact xba (xbd (xba fin))
  | exact xba fin
theorem zss         (I:Inv X aU σ H s)(g:DGet H a y o):s.TypeIs (.ref a) "dict":=by
 rcases g with⟨kvs,k,e,_,_⟩ | ⟨kvs,k,b,e,_,_,_⟩
 ·obtain⟨_,_,vs,_,dd⟩:=zbgj I.hok e;exact dd.typeIs
 ·obtain⟨_,_,xs,_,dd⟩:=zbhk I.hok e;exact dd.typeIs
def tDGet (td ty:TE):TE:=λσ H Q=>td σ H λx H1=>ty σ H1 λy H2=>∃a v,x=.ref a/\DGet H2 a y (some v)/\Q v H2
def tDIn (ty td:TE):TE:=λσ H Q=>ty σ H λy H1=>td σ H1 λx H2=>∃a o,x=.ref a/\DGet H2 a y o/\Q (.bl o.isSome) H2
def sDPut (td ty tv:TE):TS:=λD σ H=>tv σ H λv H1=>td σ H1 λx H2=>ty σ H2 λy H3=>∃a H4,x=.ref a/\DPut H3 a y v H4/\D.nx σ H4
section
theorem zbbr {X:Cx}(hu:X.A.units+1 < cLine)(ho:PE X o td)(hi:PE X i ty)(hs:NoSl i):PE X (.Subscript o i pos) (tDGet td ty):=by
 intro aU s σ H Q I h;refine zbij F.slot_dict_getitem.lookup hs (thn (ho aU s σ H _ I h) λu s1 ⟨x,H1,I1,rx,q1⟩=>thn (hi aU s1 σ H1 _ I1 q1) λiv s2 hq0=>?_);obtain⟨y,H2,I2,ry,a,v,ex,g,q2⟩:=hq0;subst ex;obtain rfl:u=Value.ref a:=rx;exact⟨zss I2 g,zbaq hu I2 g ry λw' s3 I3 rw'=>⟨v,H2,I3,rw',q2⟩⟩
theorem zbjq {X:Cx}(hu:X.A.units+1 < cLine)(hi:PE X i ty)(ho:PE X o td):PC X .In i o (tDIn ty td):=by
 intro aU s σ H Q I h;refine thn (hi aU s σ H _ I h) λiv s1 ⟨y,H1,I1,ry,q1⟩=>thn (ho aU s1 σ H1 _ I1 q1) λu s2 hq0=>?_
 obtain⟨x,H2,I2,rx,a,ov,ex,g,q2⟩:=hq0;subst ex;obtain rfl:u=Value.ref a:=rx;exact d_in hu I2 g ry λs3 I3=>⟨.bl ov.isSome,H2,I3,rfl,q2⟩
theorem zbbo {X:Cx}{pos:Pos}(hu:X.A.units+1 < cLine)(ho:PE X o td)(hi:PE X i ty)(hv:PE X value tv)(hs:swapsWith value (some (.Subscript o i pos')) pos.line X.env=pure false) :
  PS X (.Assign [.Subscript o i pos'] value pos) (sDPut td ty tv):=by
 intro aU s σ H D I h;refine wpAny_Assign_Subscript (thn (hv aU s σ H _ I h) λr s1 ⟨v,H1,I1,rv,q1⟩=>thn (ho aU s1 σ H1 _ I1 q1) λu s2 ⟨x,H2,I2,rx,q2⟩=>thn (hi aU s2 σ H2 _ I2 q2) λiv s3 hq0=>?_) hs;obtain⟨y,H3,I3,ry,a,H4,ex,g,q3⟩:=hq0;subst ex;obtain rfl:u=Value.ref a:=rx;exact zbao hu I3 g ry rv λs4 I4=>⟨σ,H4,I4,q3⟩
end
theorem zbgk    (h:Heap)(hb:sysModules < h.objs.size):ObjOk P w H (h.push { cls:=.type "dict", data:=.dict #[] }) h.objs.size (.dK []) :=
 ⟨xdu _,xfo.mpr (xcx (xce hb)),[],.nil,Heap.DictOf.new h⟩
theorem zbgd    (h:Heap)(hb:sysModules < h.objs.size):ObjOk P w H (h.push { cls:=.type "dict", data:=.dict #[] }) h.objs.size (.dT []) :=
 ⟨xdu _,xfo.mpr (xcx (xce hb)),[],.nil,_,#[],0,xbu _ rfl,⟨rfl,rfl,rfl⟩,rfl,rfl,xhb⟩
def tDNewK:TE:=λ_ H Q=>∀p,H p=none->Q (.ref p) (upd H p (.dK []))
def tDNewT:TE:=λ_ H Q=>∀p,H p=none->Q (.ref p) (upd H p (.dT []))
section
theorem zbes:PE X (.Dict [] [] pos) tDNewK:=λaU s σ H Q I h =>
 wpAny_Dict_empty ⟨.ref s.heap.objs.size,_,I.laid (a:=s.heap.objs.size) (o:=.dK []) (t':=s.toks) (λ_ _ q=>xbf _ q) (xbg _) (zbgk s.heap I.big),rfl,h _ (I.hok.fresh (xbg _))⟩
theorem zber:PE X (.Dict [] [] pos) tDNewT:=λaU s σ H Q I h =>
 wpAny_Dict_empty ⟨.ref s.heap.objs.size,_,I.laid (a:=s.heap.objs.size) (o:=.dT []) (t':=s.toks) (λ_ _ q=>xbf _ q) (xbg _) (zbgd s.heap I.big),rfl,h _ (I.hok.fresh (xbg _))⟩
end
structure M1 (X:Cx) (o:Expr) (m:Str) (apos:Pos) (e:Expr) (cpos:Pos):Prop where
 base:attributeBase o m X.env (eval o X.env)=eval o X.env
 few:((backTo cpos (starEach [e] X.env)).all (λx=>!x.1)&&(backToKw cpos (keywordEach [] X.env)).all (λx=>x.1.isSome)
  && decide (([e]:List Expr).length+([]:List Keyword).length+(if([]:List Keyword).isEmpty then 0 else 1) < 30))=true
 line:(apos.endLine==cpos.line)=true
 trees:backTo cpos (starEach [e] X.env)=[(false,eval e X.env)]
structure M2 (X:Cx) (o:Expr) (m:Str) (apos:Pos) (e f:Expr) (cpos:Pos):Prop where
 base:attributeBase o m X.env (eval o X.env)=eval o X.env
 few:((backTo cpos (starEach [e,f] X.env)).all (λx=>!x.1)&&(backToKw cpos (keywordEach [] X.env)).all (λx=>x.1.isSome)
  && decide (([e,f]:List Expr).length+([]:List Keyword).length+(if([]:List Keyword).isEmpty then 0 else 1) < 30))=true
 line:(apos.endLine==cpos.line)=true
 trees:backTo cpos (starEach [e,f] X.env)=[(false,eval e X.env),(false,eval f X.env)]
def IsD (H:Hp) (a:Addr):Prop:=(∃kvs,Rd H a (.dK kvs))\/∃kvs,Rd H a (.dT kvs)
theorem zbky       (I:Inv X aU σ H s)(d:IsD H a) :
  s.TypeIs (.ref a) "dict"/\(∀ b,Value.ref a=.ref b->∃ ob,s.heap.get? b=some ob/\ob.dict=none)/\(a==sysModules)=false:=by
 rcases d with⟨kvs,e⟩ | ⟨kvs,e⟩
 ·obtain⟨_,hd,vs,_,dd⟩:=zbgj I.hok e;refine⟨dd.typeIs,λb q=>?_,hd⟩;cases q;obtain⟨ob,_,_,h1,h2,_⟩:=dd;exact⟨ob,h1,h2.2.1⟩
 ·obtain⟨_,hd,xs,_,dd⟩:=zbhk I.hok e;refine⟨dd.typeIs,λb q=>?_,hd⟩;cases q;obtain⟨ob,_,_,h1,h2,_⟩:=dd;exact⟨ob,h1,h2.2.1⟩
section
theorem zbro {A:Around}  (hu:A.units+1 < cLine)(I:Inv X aU σ H s)(g:DGet H a y o)(ry:RelV y u)(rd:RelV d r)(h:∀w' s',Inv X aU σ H s'->RelV (o.getD d) w'->Q w' s') :
  wpAny (model X.prog X.w) A (call (.builtin "dict.get") [.ref a,u,r]) Q E s:=by
 rcases g with⟨kvs,k,e,ey,l⟩ | ⟨kvs,k,b,e,ey,eb,l⟩
 ·subst ey;obtain⟨z,hd,vs,rel,dd⟩:=zbgj I.hok e;refine call_meetsIn xlk dd.typeIs F.entry_dict_get (F.args_dict_get_3 _ _ _) (meets_dict_get_default (mixKind X.prog X.w) a (zbhj ry) hd r) ⟨_,dd.mapOf,h _ _ (I.tok _) ?_⟩;rw[l];exact(rel.val k).getD rd
 ·subst ey;cases(show u=Value.ref b from ry);obtain⟨z,hd,xs,rel,dd⟩:=zbhk I.hok e;refine call_meetsIn xlk dd.typeIs F.entry_dict_get (F.args_dict_get_3 _ _ _) (meetsH_dict_get_default (tupleKind (mixKind X.prog X.w)) a b hd r) ⟨xjc hu,k,xs,zsp I.hok eb,dd,h _ _ (I.tok _) ?_⟩;rw[l];exact(rel.val k).getD rd
end
def tDGet2 (td ty tx:TE):TE:=λσ H Q=>td σ H λx H1=>∃a,x=.ref a/\IsD H1 a/\ty σ H1 λy H2=>tx σ H2 λz H3=>∃o,DGet H3 a y o/\Q (o.getD z) H3
section
theorem zbet {X:Cx}(hu:X.A.units + 1 < cLine)(ho:PE X o td)(he:PE X e ty)(hf:PE X f tx)(m:M2 X o "get" apos e f cpos):PE X (.Call (.Attribute o "get" apos) [e,f] [] cpos) (tDGet2 td ty tx):=by
 intro aU s σ H Q I h;refine wpAny_Call_method m.base m.few m.line xkn xlk F.type_dict_get (thn (ho aU s σ H _ I h) λu s1 hq0=>?_);obtain⟨x,H1,I1,rx,a,ex,d,q1⟩:=hq0;subst ex;obtain rfl:u=Value.ref a:=rx;obtain⟨t1,t2,_⟩:=zbky I1 d;refine⟨t1,t2,?_⟩;rw[m.trees]
 refine xjf rfl (xlo (xis (thn (he aU s1 σ H1 _ I1 q1) λiv s2 ⟨y,H2,I2,ry,q2⟩ =>
  xis (thn (hf aU s2 σ H2 _ I2 q2) λfv s3 ⟨z,H3,I3,rz,ov,g,q3⟩=>xks ?_))))
 exact zbro hu I3 g ry rz λw' s4 I4 rw'=>⟨_,H3,I4,rw',q3⟩
end
section
end
section
end
end L2
namespace Att
open PySem PySem.W PySem.Calls PyProof.Rows
theorem zkd  :∀(ns:List Int) (vs:List Value),WellAll P h vs (ns.map WData.int)->IntsAre vs ns:=by
 intro ns
 induction ns with
 | nil =>
  intro vs w;rw[xna] at w;cases w;exact .nil
 | cons n ns ih =>
  intro vs w;rw[xbs] at w;cases w with
  | cons a b =>
   cases a;exact .cons _ _ (ih _ b)
theorem zym {l:OpenLaw}  (hn:l.most=some n)    
  (hpre:l.row.toRowW.claim.pre args=true)(hwl:WellAll P h vals args) :
  ∃ a vs ns,vals=[Value.ref a]/\args=[WData.list (ns.map WData.int)]/\h.get? a=some { cls:=.type "list", data:=.seq vs.toArray }/\IntsAre vs ns/\ns.length<=n:=by
 have hsh:WShape.hasAll [] args [.list .int]=true:=(pre_splitW hpre).1;have hc:l.pre.holds [] {args:=args}=true:=(pre_splitW hpre).2;obtain⟨d,r,rfl,h1,h2⟩:=hasAllW_cons hsh;obtain rfl:=hasAllW_nil h2;obtain⟨xs,rfl,h3⟩:=hasW_list h1;obtain⟨ns,rfl⟩:=items_int h3;have hlen:ns.length<=n:=by
  unfold OpenLaw.pre at hc;have h4:(WTm.not (.lt (.lit (.int (n:Int))) (.len (.arg 0)))).holds [] {args:=[.list (ns.map .int)]}=true:=by
   have h4:=(holds_andW hc).1;rw[hn] at h4;exact h4
  have h5:=condW_of h4 (w_not (w_lt w_lit (w_len_list (w_arg rfl))));rw[xbb] at h5;refine xcj λq=>?_
  have q':(n:Int) < ((ns.length:Nat):Int):=by lia
  first
   | (rw[xbw q'] at h5;exact absurd h5 (by decide))
   | (simp at h5;lia)
 cases hwl with
 | cons w1 w2 =>
  cases w2;cases w1 with
  | list ho hall=>exact⟨_,_,ns,rfl,rfl,ho,zkd ns _ hall,hlen⟩
theorem zyv (l:OpenLaw)(args:List WData):l.row.toRowW.claim.post args (.bool true) args=true :=
 postW_of (r:=l.row.toRowW) (X:=(true==true))
  (show WShape.has [] (.bool true) .bool=true by first | rfl | decide | simp[WShape.has,WShape.arms,WShape.armsAll])
  (show(WTm.eq .res (.lit (.bool true))).value [] {args:=args,res:=some (.bool true),after:=args}=some (.bool (true==true)) from w_eq_bool (w_res rfl) w_lit) rfl
theorem attach_call {l:OpenLaw}      {d:DefRec}
  (hn:l.most=some n)(hdf:d.params.defaults=[])
  (call:∀(w:World) (s₀ s₁:Shared) (mg mb:Str->Option Value) (fa:Addr) (o:Obj) (pm cd doc:Value) (a:Addr) (vs:List Value) (ns:List Int),
   Ground q loose [] XP w s₀ mg mb s₁.heap->YP w s₁.heap ->
   s₁.heap.get? fa=some o->o.data=.func (docDef d.name d.params d.body d.scope pm cd doc)->s₁.heap.CodeRec cd d.name->mg d.name=some (.ref fa) ->
   s₁.heap.get? a=some { cls:=.type "list", data:=.seq vs.toArray }->IntsAre vs ns->ns.length<=n->s₁.gens=#[] ->
   codeAny (model l.prog w) callerA (.call (.ref fa) ⟨[.ref a],[]⟩) (λr s'=>r=.ok (.ret (.bool true))/\OldK s₁.heap s'.heap/\s'.os=s₁.os/\AllBare s'.gens) s₁) :
  WalkO q loose XP YP l.row.toRowW d [] (λf vs=>PySem.call f vs):=by
 intro w s₀ s₁ mg mb G Y fa o pm cd doc dV kV ho hd hcd hD hmg hg args vals as hpre hlay hrd hwl hlo;obtain rfl:dV=.none:=Dflts.none hD hdf;obtain rfl:kV=.none:=Dflts.noKw hD;obtain⟨a,vs,ns,rfl,rfl,hobj,hints,hlen⟩:=zym hn hpre hwl;refine enter_call (xlx (call w s₀ s₁ mg mb fa o pm cd doc a vs ns G Y ho (fd_plain hd) hcd hmg hobj hints hlen hg) λr s' hq=>?_);obtain⟨rfl,h2,h3,h4⟩:=hq;exact⟨.inl ⟨.bool true,.bool true,[],rfl,λ_=>rfl,.bool true,zyv l _,λ_=>⟨List.Pairwise.nil,λ_ hm=>(nomatch hm)⟩⟩,h2,h3,h4⟩
section
end
end Att
namespace L2
open PySem PySem.Spec PyProof.Rows
theorem zqa:∀{vs:List Value} {ns:List Int},IntsAre vs ns->Vals (ns.map V.int) vs
 | _,_,.nil=>.nil
 | _,_,.cons n t h=>.cons ⟨t,rfl⟩ (zqa h)
def Only (H:Hp):Prop:=∀b,H b=none\/∃o xs,H b=some (.frz o (.lst xs))
theorem zbfl   {K:Fg}        {s₁:Shared}{vs:List Value} 
  (KX:K.In s₁.heap)(hns:s₁.heap.Ns mainGlobals mg)(hb:s₁.heap.Ns builtinsNs mb)(hbb:∀ x:Str,x≠"__name__"->mb x=bootBuiltins x)(hlim:s₁.heap.NoLimit)(hg:s₁.gens=#[])
  (ha:s₁.heap.get? a=some { cls:=.type "list", data:=.seq vs.toArray })(hi:IntsAre vs ns)(hl:ns.length<=sizeLine)(hr:Room k callerA)
  (F:∀base:Heap,K.In base->base.Ns mainGlobals mg->FnOk P w K mg base CX k fa fd [x] sp)(hbind:∀(s:Shared) (u:Value),BindsTo s fd ⟨[u],[]⟩ [(x,u)])
  (hsp:∀H:Hp,Only H->SqL K H a (ns.map V.int)->sp [.ref a] H (λv _=>v=.bl true) λ_ _ _=>False)
  (hCX:∀H e s',CX [] H s₁ (λ_ _ _=>False) e s'->False) :
  codeAny (model P w) callerA (.call (.ref fa) ⟨[.ref a],[]⟩) (λr s'=>r=.ok (.ret (.bool true))/\OldK s₁.heap s'.heap/\s'.os=s₁.os/\AllBare s'.gens) s₁:=by
 have rv:=zqa hi;have lenV:=hi.length;have core:∀H:Hp,Only H->SqL K H a (ns.map V.int)->HOk P w H s₁.heap->(∀b,H b≠none->b=a)->(H a≠none->K.lookup a=none) ->
   codeAny (model P w) callerA (.call (.ref fa) ⟨[.ref a],[]⟩) (λr s'=>r=.ok (.ret (.bool true))/\OldK s₁.heap s'.heap/\s'.os=s₁.os/\AllBare s'.gens) s₁:=by
  intro H hO hS hok hA hK;have base_of:∀{b:Addr} {o:Obj},s₁.heap.get? b=some o->H b=none->(hidT s₁.heap H).get? b=some o:=λe n=>zbfx e n
  have noA:∀{b:Addr} {o:Obj} {es:Array DictEntry} {ep:Nat},s₁.heap.get? b=some o->o.data=.dict es ep->H b=none:=λ{b o es ep} e d=>by
   cases q:H b with
   | none=>rfl
   | some u =>
    have e':b=a:=hA b (by rw[q];simp);subst e';rw[ha] at e;cases e
    have d':Data.seq vs.toArray _=Data.dict es ep:=d;cases d'
  have nsK:∀{b:Addr} {m:Str->Option Value},s₁.heap.Ns b m->(hidT s₁.heap H).Ns b m:=λ{b m} ⟨o,es,ep,e,d,r⟩=>⟨o,es,ep,base_of e (noA e d),d,r⟩
  have hKb:K.In (hidT s₁.heap H):=λb o e=>base_of (KX b o e) (by
   cases q:H b with
   | none=>rfl
   | some u =>
    have e':b=a:=hA b (by rw[q];simp);subst e'
    rw[hK (by rw[q];simp)] at e;cases e)
  have hM:Mod K mg (hidT s₁.heap H):=⟨hKb,nsK hns,⟨mb,nsK hb,hbb⟩,let ⟨mc,h1,h2⟩:=hlim;⟨mc,nsK h1,h2⟩⟩
  have e0:Env0 P w K mg (hidT s₁.heap H) callerA [] s₁ H:=⟨rfl,hM,λb o e=>zbkc e,xdi (zbad _ _),trivial,λb hb=>absurd (show b∈([]:List Addr) from hb) (by simp),hok,.of_eq hg⟩
  refine xlx ((F _ hKb (nsK hns)).run callerA [] s₁ H ⟨[.ref a],[]⟩ [.ref a] [.ref a] _ _ hr e0 (hbind s₁ (.ref a)) (.cons rfl .nil) (hsp H hO hS)) λr s' h=>?_
  cases r with
  | error e=>exact(hCX H e s' h).elim
  | ok fl =>
   cases fl with
   | next=>exact False.elim h
   | brk=>exact False.elim h
   | cont=>exact False.elim h
   | ret u =>
    obtain⟨v,H',os,bare,un,hok',r',q⟩:=h;have q':v=.bl true:=q;subst q';obtain rfl:u=Value.bool true:=r';refine⟨rfl,OldK.of_keep λb o e=>?_,os,bare⟩;cases q:H b with
    | none=>exact un.keep b o e q (by intro z;exact absurd (show b∈([]:List Addr) from z) (by simp)) (by simp)
    | some u =>
     rcases hO b with z | ⟨ob,xs,z⟩
     ·rw[q] at z;cases z
     ·have z2:=un.frzs b ob _ z;obtain⟨e1,_⟩:=hok b _ z;obtain⟨e2,_⟩:=hok' b _ z2;rw[e] at e1;cases e1
      exact e2
 cases hk:K.lookup a with
 | some o =>
  have e:=KX a o hk;rw[ha] at e;cases e;refine core (λ_=>none) (λ_=>.inl rfl) (.inr ⟨_,vs.toArray,_,hk,rfl,rfl,rfl,by rw[xbv,lenV];exact hl,by simpa using rv⟩) (λb u z=>by have z':(none:Option HO)=some u:=z;cases z') (λb z=>absurd rfl z) λz=>absurd rfl z
 | none =>
  refine core (λb=>if b=a then some (.frz { cls:=.type "list", data:=.seq vs.toArray } (.lst (ns.map V.int))) else none) (λb=>?_) (.inl (.inr ⟨{ cls:=.type "list", data:=.seq vs.toArray },if_pos rfl⟩)) (λb u z=>?_) (λb z=>?_) λ_=>hk
  ·by_cases hb:b=a
   ·exact .inr ⟨_,_,if_pos hb⟩
   ·exact .inl (if_neg hb)
  ·by_cases hb:b=a
   ·have z':=(if_pos hb).symm.trans z;cases z';subst hb;exact⟨ha,by rw[xbb];exact hl,vs,_,rv,ha⟩
   ·have z':=(if_neg hb).symm.trans z;cases z'
  ·by_cases hb:b=a
   ·exact hb
   ·exact absurd (if_neg hb) z
theorem zbhv {l:W.OpenLaw}{n k:Nat}{q:Program}{loose:List Str}{XP:(Str->Option Value)->Heap->Prop}{YP:World->Heap->Prop}{d:DefRec}{K:Params->Fg}{CX:World->CXT}{sp:World->Sp}{x:Str}
  (hn:l.most=some n)(hn2:n<=sizeLine)(hdf:d.params.defaults=[])(hr:Room k callerA)
  (hY:∀(w:World) (h:Heap),YP w h->(K w.params).In h)
  (F:∀(w:World) (mg:Str->Option Value) (fa:Addr) (h:Heap),(K w.params).In h->h.Ns mainGlobals mg->mg d.name=some (.ref fa) ->
   ∃fd:FuncData,(∀(s:Shared) (u:Value),BindsTo s fd ⟨[u],[]⟩ [(x,u)]) /\
    ∀base:Heap,(K w.params).In base->base.Ns mainGlobals mg->FnOk l.prog w (K w.params) mg base (CX w) k fa fd [x] (sp w))
  (hsp:∀(w:World) (H:Hp) (a:Addr) (ns:List Int),ns.length<=n->Only H->SqL (K w.params) H a (ns.map V.int)->sp w [.ref a] H (λv _=>v=.bl true) λ_ _ _=>False)
  (hCX:∀(w:World) (H:Hp) (s:Shared) (e:Value) (s':Shared),CX w [] H s (λ_ _ _=>False) e s'->False) :
  W.WalkO q loose XP YP l.row.toRowW d [] (λf vs=>PySem.call f vs):=by
 refine Att.attach_call hn hdf λw s₀ s₁ mg mb fa o pm cd doc a vs ns G Y ho hd hcd hmg hobj hints hlen hg=>?_
 have KX:=hY w _ Y;obtain⟨fd,hb,hF⟩:=F w mg fa _ KX G.T.g hmg;exact zbfl KX G.T.g G.T.b G.T.builtins G.T.nolimit hg hobj hints (xbc hlen hn2) hr hF hb (λH hO hS=>hsp w H a ns hlen hO hS) λH e s'=>hCX w H s₁ e s'
end L2
/- THE LAST THEOREM (shape;LID,My.* are yours):
 My.Adr: a structure of the addresses that your layer names (classes,functions);My.Txt K t: a structure (Prop) of the equations over K;
 My.txt_mk:{K} {implicit addresses ..} (e1:nsIn K mainGlobals "law"=some (some (.ref f))) (e2:K.lookup f=some ⟨oc,od,.func (fnOf "law" "law" params body scope dV kV doc pm an cdv ct),sl⟩) (e3:codeIn K cdv "law"=true) ..:∃ t,My.Txt K t
(the tactic k_is has no namespace: write k_is) -/
namespace L2
open PySem PySem.Spec PyProof.Rows
noncomputable def defArgs (s:Stmt):Arguments:=match s with
 | .FunctionDef _ a _ _ _ _ _ _ _ _=>a
 | _=>{posonlyargs:=[],args:=[],vararg:=none,kwonlyargs:=[],kw_defaults:=[],kwarg:=none,defaults:=[]}
noncomputable def defBody (s:Stmt):List Stmt:=match s with
 | .FunctionDef _ _ b _ _ _ _ _ _ _=>b
 | _=>[]
noncomputable def defScope (s:Stmt):Scope:=match s with
 | .FunctionDef _ _ _ _ _ _ sc _ _ _=>sc
 | _=>{kind:=.function,names:=[],isGenerator:=false,isCoroutine:=false}
abbrev CX0:CXT:=λ_ _ _ _ _ _=>False
abbrev E0:XK:=λ_ _ _=>False
theorem pass0 :Passes CX0 X E0:=λ_ _ _ _ _ _ _ h=>h.elim
structure Fun (K:Fg) (x qual:Str) (au:Stmt) (f:Addr) (fd:FuncData):Prop where
 ex:∃(oc:Value) (od:Option Addr) (kV doc pm:Value) (an:Option Addr) (cdv ct:Value) (osl:Array (Option Value)),
  fd=W.fnOf x qual (defArgs au) (defBody au) (defScope au) .none kV doc pm an cdv ct/\K.lookup f=some ⟨oc,od,.func fd,osl⟩/\W.codeIn K cdv qual=true
 kp:W.keepIn K (.ref f)=true
section
theorem Fun.ok {K:Fg}     {N:List Str}   (F:Fun K x qual au f fd)(S:FnScope N ps (defScope au))(len:∀vs H Q E,sp vs H Q E->vs.length=ps.length)
  (hbody:∀(cdv:Value) (A:Around) (outer:List Env) (s:Shared) (H:Hp) (vs:List V) (Q:VK) (E:XK),Room k (A.deeper (envOfC qual (defScope au) s.heap.objs.size f cdv))->sp vs H Q E ->
   ∃t,PSs (cxOf CX0 P w K mg base N qual (defScope au) f cdv A outer s H E).nox (defBody au) t/\t {nx:=λ_ H'=>Q .non H',rt:=Q} (start N vs) H):FnOk P w K mg base CX0 (k+1) f fd ps sp:=by
 obtain⟨oc,od,kV,doc,pm,an,cdv,ct,osl,rfl,lk,hcd⟩:=F.ex;refine zbum lk hcd S len λA outer s H vs Q E hr hsp=>?_
 obtain⟨t,h,q⟩:=hbody cdv A outer s H vs Q E hr hsp;exact⟨t,h.nox,q⟩
theorem Fun.binds {K:Fg}     {ps:List Str}(F:Fun K x qual au f fd)
  (h:∀(kV doc pm:Value) (an:Option Addr) (cdv ct:Value) (us:List Value),us.length=ps.length->bindArgs (W.fnOf x qual (defArgs au) (defBody au) (defScope au) .none kV doc pm an cdv ct) ⟨us,[]⟩=pure (ps.zip us)):Binds K fd ps []:=by
 obtain⟨oc,od,kV,doc,pm,an,cdv,ct,osl,rfl,lk,hcd⟩:=F.ex;exact .all (h kV doc pm an cdv ct)
theorem zbqp {K:Fg}       {kV:Value}(l:K.lookup f=some ⟨oc,od,.func (W.fnOf x qual (defArgs au) (defBody au) (defScope au) .none kV doc pm an cdv ct),osl⟩)
 (c:W.codeIn K cdv qual=true)(k:W.keepIn K (.ref f)=true):Fun K x qual au f (W.fnOf x qual (defArgs au) (defBody au) (defScope au) .none kV doc pm an cdv ct):=⟨⟨oc,od,kV,doc,pm,an,cdv,ct,osl,rfl,l,c⟩,k⟩
end
theorem zqx   (hr:Room k A):A.units+1 < cLine:=xdf (xcn (by decide:1<=64) _) hr.units
section
theorem pv {X:Cx}(i:Nat)   (hN:X.N[i]?=some x:=by rfl)(hv:Vis X.env.scope x:=by first | exact Or.inl rfl | exact Or.inr (Or.inl rfl) | exact Or.inr (Or.inr rfl))(hd:(x==("__debug__" : Str))=false:=by decide)
 (hcd:(x==("__classdict__" : Str))=false:=by decide):PE X (.Name x pos) (tVar i):=zbow hN hv hd hcd
end
theorem iteF {A B:Prop}(h:B):if false=true then A else B:=by
 rw[if_neg xft];exact h
theorem iteT {A B:Prop}(h:A):if true=true then A else B:=by
 rw[if_pos rfl];exact h
section
end
section
variable {κ:Type}[DecidableEq κ]
end
section
noncomputable abbrev NoX:Value->Shared->Prop:=λ_ _=>False
noncomputable abbrev testsOf (cs:List Expr) (ev:Env):Sem Bool :=
 forIn cs true λd b=>if b=true then do let z ← isTrue d ev (eval d ev);pure (ForInStep.yield z) else pure (ForInStep.yield b)
def CompStep (P:Program) (w:World) (B:Around) (tg x:Expr) (cs:List Expr) (ev:Env) (i l:Value) (K:Shared->Prop) (v:Value) (sa:Shared):Prop :=
 wpAny (model P w) B (letOwnedTupleGo tg i v) (λ_ sb=>wpAny (model P w) B (assign tg ev v) (λ_ sc=>wpAny (model P w) B (testsOf cs ev) (λok sd =>
  if ok=true then wpAny (model P w) B (eval x ev) (λy se=>wpAny (model P w) B (call (.builtin "list.append") [l,y]) (λ_ sf=>K sf) NoX se) NoX sd else K sd) NoX sc) NoX sb) NoX sa
theorem zbat  {cs:List Expr}     (J:Nat->Shared->Prop)
  (go:∀k sk,J k sk->wpAny (model P w) B (pyNext i) (λo sa=>match o with
   | none=>R (.ok .next) sa
   | some v=>CompStep P w B tg x cs ev i l (λsf=>∃k',k' < k/\J k' sf) v sa) NoX sk)
  (k:Nat)(hJ:J k sh):codeAny (model P w) B (.compLoop (.ListComp x [⟨tg,it,cs,0⟩] sc ps) 0 i l ev) R sh:=by
 have none_:∀{E:Value->Shared->Prop} (e:Value) (z:Shared),NoX e z->E e z:=λ_ _ z=>z.elim
 refine codeAny_loop rfl J (λk sk hk=>wpAny_noted (by
  rw[compTurn_list];refine xba (wpAny_standAt (xba (xfe (go k sk hk) (λo sa ho=>?_) none_)))
  match o,ho with
  | none,ho=>exact xbd ho
  | some v,ho =>
   refine xba (xfe ho (λ_ sb hb=>xba (xfe hb (λ_ sc' hc=>xba (xfe hc (λok sd hd=>?_) none_)) none_)) none_)
   match ok,hd with
   | false,hd=>exact xbd (And.intro rfl hd)
   | true,hd=>exact xba (xba (xfe hd (λy se he=>xba (xfe he (λ_ sf hf=>xbd (xbd (And.intro rfl hf))) none_)) none_)))) k hJ
end
theorem zpm {env:Env}:∀(names:List (Str×NameKind)) (acc:List (Str×Addr)),(∀y∈names,y.2=.free->∃c,env.cells.lookup y.1=some c)->(∀x c,acc.lookup x=some c->env.cells.lookup x=some c) ->
  ∃cl:List (Str×Addr),(forIn names acc (λx r=>if(x.2==NameKind.free)=true then do let a ← cellOf env x.1;pure (ForInStep.yield ((x.1,a)::r)) else pure (ForInStep.yield r)):Sem (List (Str×Addr)))=pure cl /\
   (∀x c,cl.lookup x=some c->env.cells.lookup x=some c)/\(∀x c,acc.lookup x=some c->∃c',cl.lookup x=some c')/\∀x,(x,NameKind.free)∈names->∃c,cl.lookup x=some c:=by
 intro names
 induction names with
 | nil=>intro acc _ ha;exact⟨acc,rfl,ha,λx c e=>⟨c,e⟩,λx z=>(nomatch z)⟩
 | cons y r ih =>
  intro acc hf ha;obtain⟨n,k⟩:=y;by_cases hk:k=.free
  ·subst hk;obtain⟨c,hc⟩:=hf (n,.free) xbq rfl
   obtain⟨cl,e,h1,h2,h3⟩:=ih ((n,c)::acc) (λy hy=>hf y (xbo _ hy)) (λx c' e=>by
    rw[xfw] at e;by_cases hx:x=n
    ·subst hx;rw[xhc] at e;cases e;exact hc
    ·rw[xfo.mpr hx] at e
     exact ha x c' e)
   refine⟨cl,?_,h1,λx c' e'=>?_,λx hx=>?_⟩
   ·rw[xnj];simp only[xhc,ite_true];have q:cellOf env n=pure c:=by unfold cellOf;rw[hc]
    rw[q];simp only[pure_bind];exact e
   ·by_cases hx:x=n
    ·subst hx;exact h2 x c (by rw[xfw,xhc])
    ·exact h2 x c' (by rw[xfw,xfo.mpr hx];exact e')
   ·rcases xbm.mp hx with z | z
    ·cases z;exact h2 n c (by rw[xfw,xhc])
    ·exact h3 x z
  ·obtain⟨cl,e,h1,h2,h3⟩:=ih acc (λy hy=>hf y (xbo _ hy)) ha;refine⟨cl,?_,h1,h2,λx hx=>?_⟩
   ·rw[xnj];have hb:(k==NameKind.free)=false:=by simpa using hk
    simp only[hb,xco,xec,pure_bind];exact e
   ·rcases xbm.mp hx with z | z
    ·cases z;exact absurd rfl hk
    ·exact h3 x z
theorem zwn {scope:Scope}{env:Env}(h:∀y∈scope.names,y.2=.free->∃c,env.cells.lookup y.1=some c) :
  ∃cl,closureFor scope env=pure cl/\(∀x c,cl.lookup x=some c->env.cells.lookup x=some c)/\∀x,(x,NameKind.free)∈scope.names->∃c,cl.lookup x=some c:=by
 obtain⟨cl,e,h1,_,h3⟩:=zpm (env:=env) scope.names [] h (λx c e=>(nomatch e));refine⟨cl,?_,h1,h3⟩;unfold closureFor;have e':=congrArg (λm=>m >>= λr=>(pure r:Sem (List (Str×Addr)))) e;simp only[pure_bind] at e';exact e'
theorem zbn {env:Env}:∀{names:List (Str×NameKind)} {x:Str} {k:NameKind},(names.map λ(n,k)=>if(k==NameKind.free&&env.scope.kind==.function&&env.kindOf n==some .cell) then(n,NameKind.cell) else(n,k)).lookup x=some k ->
  names.lookup x=some k\/(k=.cell/\names.lookup x=some .free)
 | [],_,_,h=>by simp at h
 | (n,k')::r,x,k,h=>by
  have ih:=@zbn env r x k;have h':List.lookup x ((if(k'==NameKind.free&&env.scope.kind==.function&&env.kindOf n==some .cell)=true then(n,NameKind.cell) else(n,k'))::_)=_:=h;cases hx:x==n with
  | true =>
   by_cases hc:(k'==NameKind.free&&env.scope.kind==.function&&env.kindOf n==some .cell)=true
   ·rw[if_pos hc] at h';simp only[xfw,hx] at h' ⊢;cases h';rw[xfv,xfv] at hc;exact .inr ⟨rfl,by rw[eq_of_beq hc.1.1]⟩
   ·rw[if_neg hc] at h';simp only[xfw,hx] at h' ⊢;exact .inl h'
  | false =>
   have h2:(r.map λ(n,k)=>if(k==NameKind.free&&env.scope.kind==.function&&env.kindOf n==some .cell) then(n,NameKind.cell) else(n,k)).lookup x=some k:=by
    by_cases hc:(k'==NameKind.free&&env.scope.kind==.function&&env.kindOf n==some .cell)=true
    ·rw[if_pos hc] at h';simp only[xfw,hx] at h';exact h'
    ·rw[if_neg hc] at h';simp only[xfw,hx] at h';exact h'
   simp only[xfw,hx];exact ih h2
def cxC (X:Cx) (N:List Str) (scope:Scope) (cl:List (Str×Addr)) (C:Addr) (fp:List Addr) (s:Shared) (H:Hp):Cx :=
 {X with N:=N,s₀:=s,H₀:=H,env:=compEnvC scope cl C X.env,outer:=X.stack,ex:=fp,fn:=λ_=>false,pn:=[],xe:=λ_ _=>False}
def startC (k:Nat) (is:List Nat) (σ:St):St:=List.replicate k none++is.map λi=>(σ[i]?).getD none
structure CompScope (X:Cx) (N:List Str) (k:Nat) (is:List Nat) (scope:Scope):Prop where
 kind:scope.kind=.function
 nocell:∀y∈scope.names,y.2≠.cell
 names:∀y∈scope.names,y.2=.local->scope.names.lookup y.1=some .local
 frees:∀y∈scope.names,y.2=.free->X.env.kindOf y.1=some .cell\/X.env.kindOf y.1=some .free
 len:N.length=k+is.length
 own:∀j i,is[j]?=some i->∃x,N[k+j]?=some x/\X.N[i]?=some x/\scope.names.lookup x=some .free
theorem zgh   {l:List (Str×NameKind)}(h:l.lookup x=some k):(x,k)∈l:=xgy h
section
theorem zbfu {N:List Str}    {cl:List (Str×Addr)}  {h1:Heap}  (S:CompScope X N k is scope)(I:Inv X aU σ H s)
  (c1:∀x c,cl.lookup x=some c->X.env.cells.lookup x=some c)(c2:∀x,(x,NameKind.free)∈scope.names->∃c,cl.lookup x=some c)
  (hf:∀b∈fp,FpOk X aU H b)(hfo:∀b∈fp,∃o,s.heap.get? b=some o)(hn:h1.Ns s.heap.objs.size (λ_=>none))(hk:∀b o,s.heap.get? b=some o->h1.get? b=some o) :
  Inv (cxC X N scope cl s.heap.objs.size fp s H) [] (startC k is σ) H {s with heap:=h1,toks:=tk}:=by
 have hC:∀b o,s.heap.get? b=some o->b≠s.heap.objs.size:=λb o e=>xce (xbr e)
 have nfs:∀b∈fp,b∉frs X.stack:=λb hb z=>by
  rcases xbm.mp (I.stkSub b z) with e | e
  ·exact(hf b hb).2.1 e
  ·exact(hf b hb).2.2.1 e
 refine⟨⟨I.ok.mod,S.kind,I.ok.glob,I.ok.blt,xbg _,λx y c e1 e2=>I.ok.inj x y c (c1 x c e1) (c1 y c e2),λx hx=>?_,λx c z=>?_,I.ok.hd,I.ok.frames,.inl rfl,λb hb=>⟨?_,λx c e=>?_⟩,I.bs,xbc I.ok.bsz I.sz,λb o e hb=>?_,nfs,I.stack,I.stkFree⟩,
  rfl,I.bare,Un.kept hk,⟨_,hn,λi x v e1 e2 e3=>?_⟩,λx c e=>?_,I.hok.fresh (xbg _),λx c e=>I.freeC x c (c1 x c e),λp hp=>(nomatch hp),I.hok.kept hk,?_,I.hnd⟩
 ·have hx':(scope.names.map λ(n,k)=>if(k==NameKind.free&&X.env.scope.kind==.function&&X.env.kindOf n==some .cell) then(n,NameKind.cell) else(n,k)).lookup x=some .cell\/(scope.names.map λ(n,k)=>if(k==NameKind.free&&X.env.scope.kind==.function&&X.env.kindOf n==some .cell) then(n,NameKind.cell) else(n,k)).lookup x=some .free:=hx;have q:scope.names.lookup x=some .free:=by
   rcases hx' with z | z
   ·rcases zbn z with q | ⟨_,q⟩
    ·exact absurd rfl (S.nocell _ (zgh q))
    ·exact q
   ·rcases zbn z with q | ⟨q,_⟩
    ·exact q
    ·cases q
  exact c2 x (zgh q)
 ·cases z
 ·obtain⟨o,e⟩:=hfo b hb;exact hC b o e
 ·exact(hf b hb).2.2.2.2.1 x c (c1 x c e)
 ·rcases(hf b hb).2.2.2.1 with z | z
  ·exact I.ok.noex b o e z
  ·exact absurd (xbk (xbr (I.ok.bs b o e).1) z) (xgn _)
 ·-- a name of the def around
  unfold startC at e2;have hi:k<=i:=by
   rcases xgl i k with z | z
   ·rw[xcg (by rw[xhm];exact z),List.getElem?_replicate,if_pos z] at e2;cases e2
   ·exact z
  rw[xdk (by rw[xhm];exact hi),xhm,xcp] at e2;cases ej:is[i - k]? with
  | none=>rw[ej] at e2;cases e2
  | some j =>
   rw[ej] at e2;have e2':(σ[j]?).getD none=some v:=xcs e2;obtain⟨y,y1,y2,y3⟩:=S.own (i - k) j ej;have ey:y=x:=by
    have z:N[i]?=some y:=by rw[← y1];congr 1;lia
    have e1':N[i]?=some x:=e1;rw[z] at e1';exact xcs e1'
   subst ey;have e4:σ[j]?=some (some v):=by
    cases q:σ[j]? with
    | none=>rw[q] at e2';cases e2'
    | some o=>rw[q] at e2';exact congrArg some e2'
   have kd:=S.frees _ (zgh y3) rfl;have vis:Vis X.env.scope y:=.inr kd;obtain⟨m,_,hl⟩:=I.loc;obtain⟨u,r,lk⟩:=hl j y v y2 e4 vis;refine⟨u,r,?_⟩;rcases lk with⟨z,_⟩ | ⟨_,c,e5,cc⟩
   ·rcases kd with q | q<;>(rw[q] at z;cases z)
   ·obtain⟨c',e6⟩:=c2 y (zgh y3);have:c'=c:=by
     have z:=c1 y c' e6;rw[e5] at z;exact(xcs z).symm
    subst this;refine .inr ⟨?_,c',e6,?_⟩
    ·rcases e3 with z | z | z
     ·exact absurd (zbn z) (by
       rw[y3];rintro(q | ⟨q,_⟩)
       ·cases q
       ·cases q)
     ·exact .inl z
     ·exact .inr z
    ·obtain⟨o,ho,hd⟩:=cc;exact⟨o,hk _ o ho,hd⟩
 ·obtain⟨v,o,ho,hd⟩:=I.cell x c (c1 x c e);exact⟨v,o,hk _ o ho,hd⟩
 ·unfold startC;rw[xbh,xhm,xbb];exact S.len.symm
theorem zbfv {N:List Str}        (I:Inv X aU σ H s)(hf:∀b∈fp,FpOk X aU H b)(J:Inv (cxC X N scope cl s.heap.objs.size fp s H) [] σ' H' s')
  (hs:Heap.SameBut s.heap.objs.size s'.heap h'):Inv X aU σ H' {s' with heap:=h'}:=by
 have hC:∀b o,s.heap.get? b=some o->b≠s.heap.objs.size:=λb o e=>xce (xbr e)
 have hH:H' s.heap.objs.size=none:=J.free;have B:Un (frs X.stack) fp H H' s.heap s'.heap:=J.base
 have U:Un (frs X.stack) fp H H' s.heap h':=⟨λb o e n h1 h2=>hs.extBut b o (hC b o e) (B.keep b o e n h1 h2),λb o e n h1 h2=>by
   obtain⟨sl,q⟩:=B.slot b o e n h1 h2;exact⟨sl,hs.extBut b _ (hC b o e) q⟩,B.free,λb o e hx=>by
   obtain⟨o',q⟩:=B.there b o e hx
   exact⟨o',hs.extBut b o' (hC b o e) q⟩,B.tups,B.frzs,B.tbls⟩
 refine I.call' (s':={s' with heap:=h'}) J.os U (λa o e=>?_) J.bare (λb hb=>⟨(hf b hb).2.2.2.1,(hf b hb).2.1,(hf b hb).2.2.2.2.1,(hf b hb).2.2.2.2.2⟩);refine(J.hok a o e).stay (λb u hb q=>hs.extBut b u ?_ q) (λ_ q=>q) λ_ _ q=>q
 rcases hb with z | z
 ·intro y;rw[z] at y;rw[y,hH] at e;cases e
 ·intro y;rw[y,hH] at z;cases z
end
structure OffC (X:Cx) (aU:List (Addr×Obj)) (H:Hp) (C:Addr):Prop where
 free:H C=none
 loc:C≠X.env.locals
 young:X.s₀.heap.objs.size<=C
 cell:∀x c,X.env.cells.lookup x=some c->c≠C
 pin:∀p∈X.pn++aU,p.1≠C
theorem OffC.back        (o:OffC X aU H C)(I:Inv X aU σ H s)(hs:Heap.SameBut C s.heap h'):Inv X aU σ H {s with heap:=h'} :=
 I.turned (t':=s.toks) (λb u hb e=>hs.extBut b u hb e) o.free o.loc (.inr o.young) o.cell o.pin
def nxC (p:Addr) (te:TE) (tc:TT) (N:St->Hp->Prop):St->Hp->Prop:=λσ2 H3=>tc σ2 H3 λb H4 =>
 if b=true then te σ2 H4 λy H5=>∃xs,H5 p=some (.lst xs)/\xs.length < sizeLine/\N σ2 (upd H5 p (.lst (xs++[y]))) else N σ2 H4
def CompG (J:It) (g:TG) (tc:TT) (te:TE) (Q:VK) (p:Addr) (σ:St) (H:Hp):Prop:=∃W:Nat->Nat->St->Hp->Prop,(∃m,W 0 m σ H) /\
 ∀i m σ' H',W i m σ' H'->(J.stop i H'/\Q (.ref p) H')\/(J.go i H'/\∃N:St->Hp->Prop,(∀σ2 H2,N σ2 H2->∃m',m' < m/\W (i+1) m' σ2 H2)/\∀x H2,J.yld i H' x H2->g x σ' H2 (nxC p te tc N))
def tComp (wi:TI) (k:Nat) (is:List Nat) (g:TG) (tc:TT) (te:TE):TE:=λσ H Q=>wi σ H λJ H1=>∀p,H1 p=none->CompG J g tc te Q p (startC k is σ) (upd H1 p (.lst []))
def tYes:TT:=λ_ H Q=>Q true H
section
def PIf (X:Cx) (ifs:List Expr) (t:TT):Prop :=
 ∀(aU:List (Addr×Obj)) (s:Shared) (σ:St) (H:Hp) (Q:Bool->Hp->Prop),Inv X aU σ H s->t σ H Q ->
  wpAny (model X.prog X.w) X.A (forIn ifs true λc r=>if r=true then do let ok ← isTrue c X.env (eval c X.env);pure (ForInStep.yield ok) else pure (ForInStep.yield r)) (TP X aU σ Q) X.xe s
theorem zbjd:PIf X [] tYes:=λaU s σ H Q I h=>wpAny_tests_nil ⟨H,I,h⟩
theorem zbjc   (h:PT X c t):PIf X [c] t:=λaU s σ H Q I hq=>wpAny_tests_one (h aU s σ H Q I hq)
section
variable {X:Cx}{tg:Expr}{iter:Expr}{elt:Expr}{ifs:List Expr}{g:TG}{tc:TT}{te:TE}{N:List Str}{k:Nat}{is:List Nat}{scope:Scope}{pos:Pos}
theorem zwk (hcalm:X.calm=true)(hg:∀cl C fp s H,PG (cxC X N scope cl C fp s H) tg g)(hc:∀cl C fp s H,PIf (cxC X N scope cl C fp s H) ifs tc)(he:∀cl C fp s H,PE (cxC X N scope cl C fp s H) elt te)
  (S:CompScope X N k is scope){aU:List (Addr×Obj)}{σ:St}{H2:Hp}{s2:Shared}{cl:List (Str×Addr)}{it:Addr}{fp:List Addr}{tn:Nat->Heap->Prop}{J:It}{Q:VK}{E:Value->Shared->Prop}{RR:Value->Addr->Result->Shared->Prop}
  (I2:Inv X aU σ H2 s2)(T:Turn X.prog X.w X.K tg J fp it tn)(st2:tn 0 s2.heap)(f2:∀b∈fp,FpOk X aU H2 b)
  (c1:∀x c,cl.lookup x=some c->X.env.cells.lookup x=some c)(c2:∀x,(x,NameKind.free)∈scope.names->∃c,cl.lookup x=some c)
  (h:∀p,H2 p=none->∃W:Nat->Nat->St->Hp->Prop,(∃m,W 0 m (startC k is σ) (upd H2 p (.lst []))) /\
   ∀i m σ' H',W i m σ' H'->(J.stop i H'/\Q (.ref p) H')\/(J.go i H'/\∃N:St->Hp->Prop,(∀σ2 H2,N σ2 H2->∃m',m' < m/\W (i+1) m' σ2 H2)/\∀x H2,J.yld i H' x H2->g x σ' H2 (nxC p te tc N)))
  (hR:∀(p C:Addr) (s':Shared) (H':Hp) (m:Str->Option Value),OffC X aU H' C->s'.heap.Ns C m->Inv X aU σ H' s'->Q (.ref p) H'->RR (.ref p) C (.ok .next) s') :
  wpAny (model X.prog X.w) X.A (newList []) (λacc s₃=>wpAny (model X.prog X.w) X.A (newFunctionEnv scope X.env.globals cl [] X.env.qual none .none (some X.env)) (λcenv s₄ =>
   codeAny (model X.prog X.w) X.A (.compStart (.ListComp elt [⟨tg,iter,ifs,0⟩] scope pos) 0 (.ref it) acc {cenv with scope:=relabel scope X.env}) (RR acc cenv.locals) s₄) E s₃) E s2:=by
 refine xel ?_;have fresh:H2 s2.heap.objs.size=none:=I2.fresh;have I3:Inv X aU σ (upd H2 s2.heap.objs.size (.lst [])) { s2 with heap:=s2.heap.push { cls:=.type "list", dict:=none,data:=.seq ([]:List Value).toArray } }:=I2.lnew (t':=s2.toks) (.nil) (by decide)
 generalize hs3:({ s2 with heap:=s2.heap.push { cls:=.type "list", dict:=none,data:=.seq ([]:List Value).toArray } }:Shared)=s3 at I3
 have k3:∀b o,s2.heap.get? b=some o->s3.heap.get? b=some o:=λb o e=>by rw[← hs3];exact xbf _ e
 refine wpAny_newFunctionEnv S.nocell (by intro y hy;simp at hy) (λh₁ hns₁ hsb₁=>?_) S.kind;have st3:tn 0 s3.heap:=T.keep _ _ _ st2 λb _ o e=>k3 b o e
 have f3:∀b∈fp,FpOk X aU (upd H2 s2.heap.objs.size (.lst [])) b:=λb hb=>by
  obtain⟨o,e,_⟩:=T.obj _ _ st2 b hb;exact⟨by rw[zx (xce (xbr e))];exact(f2 b hb).1,(f2 b hb).2⟩
 have k4:∀b o,s3.heap.get? b=some o->h₁.get? b=some o:=λb o e=>hsb₁.extBut b o (xce (xbr e)) (xbf _ e)
 have J4:=zbfu (tk:=s3.toks+([]:List (Str×Value)).length) S I3 c1 c2 f3 (λb hb=>let ⟨o,e,_⟩:=T.obj _ _ st3 b hb;⟨o,e⟩) hns₁ k4;obtain⟨W,⟨m0,w0⟩,turn⟩:=h s2.heap.objs.size fresh;have st4:tn 0 h₁:=T.keep _ _ _ st3 λb _ o e=>k4 b o e
 have loop:codeAny (model X.prog X.w) X.A (.compLoop (.ListComp elt [⟨tg,iter,ifs,0⟩] scope pos) 0 (.ref it) (.ref s2.heap.objs.size) (compEnvC scope cl s3.heap.objs.size X.env)) (RR (.ref s2.heap.objs.size) s3.heap.objs.size) {s3 with heap:=h₁,toks:=s3.toks+([]:List (Str×Value)).length}:=by
  have stat:∀{H':Hp},(∀b∈fp,H' b=none)->∀b∈fp,FpOk (cxC X N scope cl s3.heap.objs.size fp s3 (upd H2 s2.heap.objs.size (.lst []))) [] H' b:=λ{H'} hn b hb=>by
   obtain⟨o,e,_⟩:=T.obj _ _ st3 b hb;refine⟨hn b hb,xce (xbr e),J4.ok.exfs b hb,.inl hb,λx c e'=>(f3 b hb).2.2.2.2.1 x c (c1 x c e'),λp hp=>(nomatch hp)⟩
  refine zbat (λn s'=>∃i σ' H',Inv (cxC X N scope cl s3.heap.objs.size fp s3 (upd H2 s2.heap.objs.size (.lst []))) [] σ' H' s'/\tn i s'.heap/\(∀b∈fp,H' b=none)/\W i n σ' H') ?_ m0
   ⟨0,_,_,J4,st4,λb hb=>(f3 b hb).1,w0⟩
  rintro n s5 ⟨i,σ5,H5,I5,st5,fr5,w5⟩;rcases turn i n σ5 H5 w5 with⟨stop,q⟩ | ⟨go,N',hN',step⟩
  ·refine thn (T.done (cxC X N scope cl s3.heap.objs.size fp s3 (upd H2 s2.heap.objs.size (.lst []))) rfl rfl rfl hcalm i [] s5 σ5 H5 _ I5 (stat fr5) st5 stop) λr s6 hq0=>?_
   obtain⟨hr,I6⟩:=hq0;subst hr;obtain⟨m,hm,_⟩:=I6.loc;refine hR _ _ s6 H5 m ⟨I6.free,xhi I3.lt,I3.sz,λx c e=>?_,λp hp=>xce (xbr (I3.pin p hp).1)⟩ hm (zbfv (h':=s6.heap) I3 f3 I6 (.refl ..)) q;obtain⟨v,o,ho,_⟩:=I3.cell x c e;exact xce (xbr ho)
  ·refine thn (T.item (cxC X N scope cl s3.heap.objs.size fp s3 (upd H2 s2.heap.objs.size (.lst []))) rfl rfl rfl hcalm i [] s5 σ5 H5 _ I5 (stat fr5) st5 go) λr s6 hq0=>?_
   obtain⟨u,hr,h6⟩:=hq0;subst hr;refine thn h6 λ_ s7 hq0=>?_
   obtain⟨x,H7,I7,r7,y7,st7,fr7⟩:=hq0;have I7':=I7.pinned (stat fr7) (T.obj _ _ st7);refine thn (hg cl s3.heap.objs.size fp s3 _ _ s7 σ5 H7 x u _ I7' r7 (step x H7 y7)) λ_ s8 hq0=>?_
   obtain⟨σ8,H8,I8,q8⟩:=hq0;refine thn (hc cl s3.heap.objs.size fp s3 _ _ s8 σ8 H8 _ I8 q8) λb s9 hq0=>?_
   obtain⟨H9,I9,q9⟩:=hq0;have again:∀{σ':St} {H':Hp} {s':Shared} {m':Nat},Inv (cxC X N scope cl s3.heap.objs.size fp s3 (upd H2 s2.heap.objs.size (.lst []))) ([]++pinsAt fp s7.heap) σ' H' s'->m' < n->W (i+1) m' σ' H' ->
     ∃m,m < n/\∃i σ' H',Inv (cxC X N scope cl s3.heap.objs.size fp s3 (upd H2 s2.heap.objs.size (.lst []))) [] σ' H' s'/\tn i s'.heap/\(∀b∈fp,H' b=none)/\W i m σ' H':=λ{σ' H' s' m'} I' hm w'=>by
    refine⟨m',hm,i+1,σ',H',I'.unpinned,T.keep _ _ _ st7 λb hb o e=>(I'.pin (b,o) (xde _ (xde _ (zgg hb e)))).1,λb hb=>?_,w'⟩;obtain⟨o,e,d⟩:=T.obj _ _ st7 b hb;exact(I'.pin (b,o) (xde _ (xde _ (zgg hb e)))).2.1
   cases b with
   | false =>
    obtain⟨m',hm,w'⟩:=hN' _ _ q9;exact again I9 hm w'
   | true =>
    refine thn (he cl s3.heap.objs.size fp s3 _ _ s9 σ8 H9 _ I9 q9) λv s10 hq0=>?_
    obtain⟨y,H10,I10,r10,xs,hxs,hz,n10⟩:=hq0;obtain⟨m',hm,w'⟩:=hN' _ _ n10;refine thn (zqr (X:=cxC X N scope cl s3.heap.objs.size fp s3 (upd H2 s2.heap.objs.size (.lst []))) _ s10 σ8 H10 (.ref s2.heap.objs.size) [y] _ [v] (λ_ H'=>H'=upd H10 s2.heap.objs.size (.lst (xs++[y]))) I10 rfl (.cons r10 .nil) ⟨_,xs,y,rfl,rfl,hxs,hz,rfl⟩) λ_ s11 hq0=>?_
    obtain⟨_,H11,I11,_,e11⟩:=hq0;subst e11;exact again I11 hm w'
 have hs3':s2.heap.push { cls:=.type "list", dict:=none,data:=.seq ([]:List Value).toArray }=s3.heap:=by rw[← hs3]
 have fin:=codeAny_compStart_list (elt:=elt) (target:=tg) (iter:=iter) (ifs:=ifs) (rest:=[]) (scope:=scope) (pos:=pos) loop (T.self X.A 0 _ _ _ st4 loop);exact fin
end
theorem zpl {N:List Str}(S:CompScope X N k is scope)     (I:Inv X aU σ H s) :
  ∃cl,closureFor scope X.env=pure cl/\(∀x c,cl.lookup x=some c->X.env.cells.lookup x=some c)/\∀x,(x,NameKind.free)∈scope.names->∃c,cl.lookup x=some c :=
 zwn λy hy hf=>I.ok.has y.1 (S.frees y hy hf)
theorem zbjm {X:Cx}{N:List Str}(hcalm:X.calm=true)(hi:PI X tg iter wi)(hg:∀cl C fp s H,PG (cxC X N scope cl C fp s H) tg g)(hc:∀cl C fp s H,PIf (cxC X N scope cl C fp s H) ifs tc)(he:∀cl C fp s H,PE (cxC X N scope cl C fp s H) elt te)
  (S:CompScope X N k is scope)(hs:∀x,foldedSetIterable iter X.env x=pure x:=by intro _;rfl):PE X (.ListComp elt [⟨tg,iter,ifs,0⟩] scope pos) (tComp wi k is g tc te):=by
 intro aU s σ H Q I h;obtain⟨cl,e,c1,c2⟩:=zpl S I;rw[eval_ListComp];refine wpAny_comprehension_free (use:=none) rfl hs e S.kind S.names (thn (hi aU s σ H _ I h) λxv s1 h1=>thn h1 λitv s2 h2=>?_);obtain⟨it,fp,tn,J,H2,e2,I2,T,st2,f2,h3⟩:=h2;subst e2;refine zwk (Q:=Q) (RR:=λacc C=>compPost (model X.prog X.w) X.A X.xe none (EP X aU σ Q) acc C) hcalm hg hc he S I2 T st2 f2 c1 c2 h3 ?_;intro p C s' H' m off hm I' q;exact⟨m,hm,λh' hs'=>⟨.ref p,H',off.back I' hs',rfl,q⟩⟩
end
section
end
def Callee (P:Program) (w:World) (K:Fg) (mg:Str->Option Value) (base:Heap) (x:Str) (k:Nat) (ps:List Str) (sp:Sp):Prop :=
 ∃f fd,FnOk P w K mg base CX0 k f fd ps sp/\Binds K fd ps []/\W.keepIn K (.ref f)=true/\mg x=some (.ref f)
section
theorem zbeu {X:Cx}(c:Callee X.prog X.w X.K X.mg X.base x k ps sp)(hr:Room k X.A)(hg:Gl X x)(ha:PA X (e::es) t)(hdb:(x==("__debug__" : Str))=false:=by decide)
  (he:starEach (e::es) X.env=(false,eval e X.env)::starEach es X.env:=by rfl)(hpl:(backTo pos (starEach es X.env)).any (·.1)=false:=by rfl) :
  PE X (.Call (.Name x p) (e::es) [] pos) (tCall sp [] E0 t):=by
 obtain⟨f,fd,F,b,kp,m⟩:=c;exact zbjo F hr hg m kp b .nil pass0 ha hdb he hpl
end
noncomputable def TopF (K:Fg) (x:Str) (au:Stmt):Prop :=
 ∃f fd,W.nsIn K mainGlobals x=some (some (.ref f))/\Fun K x x au f fd
theorem zbd {K:Fg}{x:Str}{au:Stmt}{f:Addr}{od an:Option Addr}{sl:Array (Option Value)}{oc kV dc pm cd ct:Value}
  (a:W.nsIn K mainGlobals x=some (some (.ref f)))(l:K.lookup f=some ⟨oc,od,.func (W.fnOf x x (defArgs au) (defBody au) (defScope au) .none kV dc pm an cd ct),sl⟩)(c:W.codeIn K cd x=true)(k:W.keepIn K (.ref f)=true):TopF K x au :=
 ⟨f,_,a,zbqp l c k⟩
theorem zri {P:Program}{w:World}{K:Fg}{mg:Str->Option Value}{base h:Heap}{x:Str}{au:Stmt}{N ps:List Str}{k:Nat}{sp:Sp}(T:TopF K x au)(X:K.In h)(G:h.Ns mainGlobals mg)(S:FnScope N ps (defScope au))
  (bd:∀(kV doc pm:Value) (an:Option Addr) (cdv ct:Value) (us:List Value),us.length=ps.length->bindArgs (W.fnOf x x (defArgs au) (defBody au) (defScope au) .none kV doc pm an cdv ct) ⟨us,[]⟩=pure (ps.zip us))
  (len:∀vs H Q E,sp vs H Q E->vs.length=ps.length)
  (hbody:∀(f:Addr) (cdv:Value) (A:Around) (outer:List Env) (s:Shared) (H:Hp) (vs:List V) (Q:VK) (E:XK),Room k (A.deeper (envOfC x (defScope au) s.heap.objs.size f cdv))->sp vs H Q E ->
   ∃t,PSs (cxOf CX0 P w K mg base N x (defScope au) f cdv A outer s H E).nox (defBody au) t/\t {nx:=λ_ H'=>Q .non H',rt:=Q} (start N vs) H):Callee P w K mg base x (k+1) ps sp:=by
 obtain⟨f,fd,a,F⟩:=T;exact⟨f,fd,F.ok S len (hbody f),F.binds bd,F.kp,xmp X G a⟩
section
theorem zbi:CallR X (.builtin "isinstance") (λxs H Q=>∃ x T t b,xs=[x,.ty T]/\TyOf X.K H x t/\W.kitOne X.K t (.type T)=some b/\Q (.bl b) H):=by
 intro aU s σ H xs us Q I r h;obtain⟨x,T,t,b,rfl,ty,e,q⟩:=h;obtain⟨u,w',rfl,ru,rw'⟩:=vals2 r;cases(show w'=Value.type T from rw');exact zbaa I ru ty e λtk=>⟨.bl b,H,I.tok tk,rfl,q⟩
noncomputable def CDivP (i j:Int):Prop:=0 < j/\j < 2 ^ 1000
theorem zos:OpR X (binaryOp .FloorDiv) (rI CDivP λi j=>.int (i / j)):=opI λi j _ _ _ _ _ hc q=>by
 have e:i.fdiv j=i / j:=xmo i (by have:=hc.1;lia);refine floordiv_int (by have:=hc.1;lia) (by rw[e];exact q) (.inl (PyProof.noPylong_of_log2 ?_));have h1:j.natAbs < 2 ^ 1000:=by
  have h2:=hc.1;have h3:=hc.2;have h4:(j.natAbs:Int)=j:=by lia
  have h5:(j.natAbs:Int) < ((2 ^ 1000:Nat):Int):=by
   rw[h4];exact_mod_cast h3
  exact_mod_cast h5
 have h0:j.natAbs≠0:=by have:=hc.1;lia
 have:=(Nat.log2_lt h0).mpr h1;lia
end
section
end
noncomputable def compLook (XN:List Str) (xs:List (Str×NameKind)) (N:List Str) (k:Nat) (is:List Nat) (scope:Scope):Bool :=
 (scope.kind==.function)&&scope.names.all (λy=>y.2 != .cell)&&scope.names.all (λy=>y.2 != .local||scope.names.lookup y.1==some .local) &&
 scope.names.all (λy=>y.2 != .free||(xs.lookup y.1==some .cell||xs.lookup y.1==some .free))&&(N.length==k+is.length) &&
 (List.range is.length).all (λj=>match is[j]?,N[k+j]? with
  | some i,some x=>XN[i]?==some x&&scope.names.lookup x==some .free
  | _,_=>false)
theorem zep {X:Cx}{N:List Str}    (h:compLook X.N X.env.scope.names N k is scope=true):CompScope X N k is scope:=by
 unfold compLook at h;simp only[xfv,xcu] at h;obtain⟨⟨⟨⟨⟨h1,h2⟩,h3⟩,h4⟩,h5⟩,h6⟩:=h;refine⟨eq_of_beq h1,λy hy e=>?_,λy hy e=>?_,λy hy e=>?_,eq_of_beq h5,λj i e=>?_⟩
 ·have:=h2 y hy;rw[e] at this;simp at this
 ·have:=h3 y hy;rw[e] at this;simp at this;exact this
 ·have:=h4 y hy;rw[e] at this;simp at this;exact this
 ·have hj:j < is.length:=(xbj.mp e).1;have:=h6 j (xby.mpr hj);rw[e] at this;cases e2:N[k+j]? with
  | none=>rw[e2] at this;cases this
  | some x =>
   rw[e2] at this;simp only[xfv,xhf] at this;exact⟨x,rfl,this.1,this.2⟩
theorem zhg:bootBuiltins "len"=some (.builtin "len"):=by decide +kernel
theorem zbsa:bootBuiltins "abs"=some (.builtin "abs"):=by decide +kernel
theorem zws:bootBuiltins "min"=some (.builtin "min"):=by decide +kernel
theorem zbmt:bootBuiltins "max"=some (.builtin "max"):=by decide +kernel
theorem zsu:bootBuiltins "sum"=some (.builtin "sum"):=by decide +kernel
theorem zfg:bootBuiltins "sorted"=some (.builtin "sorted"):=by decide +kernel
theorem zbmu:bootBuiltins "any"=some (.builtin "any"):=by decide +kernel
theorem zbgw:bootBuiltins "all"=some (.builtin "all"):=by decide +kernel
theorem zbb:bootBuiltins "isinstance"=some (.builtin "isinstance"):=by decide +kernel
theorem zsv:bootBuiltins "int"=some (.type "int"):=by decide +kernel
theorem zbdc:bootBuiltins "bool"=some (.type "bool"):=by decide +kernel
theorem zck:bootBuiltins "tuple"=some (.type "tuple"):=by decide +kernel
theorem zbdb:bootBuiltins "list"=some (.type "list"):=by decide +kernel
theorem zbrz:bootBuiltins "set"=some (.type "set"):=by decide +kernel
theorem zbdr    (h:H p=some o):upd H p o=H:=by
 funext b
 unfold upd;split
 ·subst b;exact h.symm
 ·rfl
section
end
end L2
namespace Srt
open PySem PySem.W PyProof.Rows
section
variable (r:Nat->Nat)
noncomputable def lt (i j:Nat):Bool:=decide (r i < r j)
noncomputable def At (p:Array Nat) (i:Nat):Nat:=r (p.getD i 0)
def Up (p:Array Nat) (n:Nat):Prop:=∀i j,i<=j->j < n->At r p i<=At r p j
end
section
end
section
end
section
noncomputable def midHeap (h:Heap) (d:Addr) (xs:List Value):Heap:=((h.update d (Obj.mapSeq λ_=>(#[]:Array Value))).push (seqObj "tuple" xs.toArray 0)).push (seqObj "list" #[] 0)
theorem zks {h:Heap}    (ne:b≠d)(e:h.get? b=some ob):(midHeap h d xs).get? b=some ob :=
 xbf _ (xbf _ ((Heap.get?_update_ne _ _ _ _ ne).trans e))
def Answers (P:Program) (w:World) (B:Around) (r:Nat->Nat) (xs:List Value) (sg:Shared):Prop :=
 ∃κ,(∀R:SortKind->Shared->Prop,R κ sg->wpAny (model P w) B (keyKind' xs.toArray) R (λ_ _=>False) sg) /\
  ∀i j C,i < xs.length->j < xs.length->C (lt r i j) sg->kas_ask P w B κ xs i j C sg
noncomputable def outOf (xs:List Value) (p:Array Nat):Array Value:=List.toArray (p.toList.map λi=>xs.getD i Value.none)
theorem zyj {xs:List Value}(h:xs.length < 2):(xs.toArray.zip xs.toArray).map (·.2)=outOf xs (List.toArray (List.range xs.length)):=by
 unfold outOf
 match xs,h with
 | [],_=>simp
 | [_],_=>simp[xit]
 | _::_::_,h=>exact absurd h (by simp)
end
end Srt
namespace Srt
open PySem PySem.W PyProof.Rows HT
theorem zgj:∀a:List Int,lexLt a a=false
 | []=>rfl
 | x::a=>by rw[zdj,if_pos rfl];exact zgj a
theorem zgi:∀{a b c:List Int},lexLt a b=true->lexLt b c=true->lexLt a c=true
 | _,[],[],_,h=>by rw[zek] at h;cases h
 | _,_::_,[],_,h=>by rw[zdu] at h;cases h
 | [],[],_::_,h,_=>by rw[zek] at h;cases h
 | _::_,[],_::_,h,_=>by rw[zdu] at h;cases h
 | [],_::_,_::_,_,_=>zcm _ _
 | x::a,y::b,z::c,h1,h2=>by
  rw[zdj] at h1 h2 ⊢;by_cases e1:x=y
  ·rw[if_pos e1] at h1;subst e1;by_cases e2:x=z
   ·rw[if_pos e2] at h2 ⊢;exact zgi h1 h2
   ·rw[if_neg e2] at h2 ⊢;exact h2
  ·rw[if_neg e1] at h1;have h1':=xcr h1;by_cases e2:y=z
   ·subst e2;rw[if_neg e1];exact h1
   ·rw[if_neg e2] at h2;have h2':=xcr h2;rw[if_neg (by lia)];exact xbw (by lia)
theorem znn:∀a b:List Int,lexLt a b=true\/a=b\/lexLt b a=true
 | [],[]=>.inr (.inl rfl)
 | [],_::_=>.inl (zcm _ _)
 | _::_,[]=>.inr (.inr (zcm _ _))
 | x::a,y::b=>by
  rw[zdj,zdj];by_cases e:x=y
  ·subst e;rw[if_pos rfl,if_pos rfl];rcases znn a b with h | h | h
   ·exact .inl h
   ·exact .inr (.inl (by rw[h]))
   ·exact .inr (.inr h)
  ·rw[if_neg e,if_neg (λz=>e z.symm)];rcases Int.lt_or_gt_of_ne e with h | h
   ·exact .inl (xbw h)
   ·exact .inr (.inr (xbw h))
theorem zqs {a b:List Int}(h:lexLt a b=true):lexLt b a=false:=by
 cases e:lexLt b a with
 | false=>rfl
 | true=>have:=zgi h e;rw[zgj] at this;cases this
theorem zwj  (hpq:∀x,p x=true->q x=true):∀{l:List Nat} {y:Nat},y∈l->q y=true->p y=false->l.countP p < l.countP q
 | [],_,h,_,_=>nomatch h
 | x::l,y,h,h1,h2=>by
  have mono:∀l:List Nat,l.countP p<=l.countP q:=λl=>List.countP_mono_left λx _=>hpq x
  rcases xbm.mp h with rfl | h
  ·rw[xin h1,xko (by rw[h2];decide)];exact xms (mono l)
  ·have ih:=zwj hpq h h1 h2;by_cases c:p x=true
   ·rw[xin c,xin (hpq x c)];lia
   ·rw[xko c];by_cases d:q x=true
    ·rw[xin d];lia
    ·rw[xko d];exact ih
def rank (ks:List (List Int)) (i:Nat):Nat:=(List.range ks.length).countP λk=>lexLt (ks.getD k []) (ks.getD i [])
theorem zmw {ks:List (List Int)}  (hi:i < ks.length)(hj:j < ks.length):lt (rank ks) i j=lexLt (ks.getD i []) (ks.getD j []):=by
 have up:∀{a b:Nat},a < ks.length->lexLt (ks.getD a []) (ks.getD b [])=true->rank ks a < rank ks b:=λ{a b} ha h =>
  zwj (λx hx=>zgi hx h) (xby.mpr ha) h (zgj _)
 cases e:lexLt (ks.getD i []) (ks.getD j []) with
 | true=>exact xbw (up hi e)
 | false =>
  refine xbz λh=>?_
  rcases znn (ks.getD i []) (ks.getD j []) with z | z | z
  ·rw[e] at z;cases z
  ·unfold rank at h;rw[z] at h;exact absurd h (xgn _)
  ·have:=up hj z;lia
section
section
variable {prog:Program}{w:World}{A:Around}{s:Shared}{b:Bool}{Q:Bool->Shared->Prop}
theorem zvj:∀{us ws:List Value} {ns ms:List Int} (i:Nat),IntsAre us ns->IntsAre ws ms->Q (lexLt ns ms) s->KatLex prog w A b (decide (us.length < ws.length)) Q (us.zip ws) i s
 | _,_,_,_,_,.nil,.nil,h=>h
 | _,_,_,_,_,.nil,.cons _ _ _,h=>h
 | _,_,_,_,_,.cons _ _ _,.nil,h=>h
 | _,_,_,_,i,.cons x t (vs:=us) (ns:=ns) r1,.cons y u (vs:=ws) (ns:=ms) r2,h=>by
  rw[zdj] at h;refine kat_cons (wpAny_eqBool_int (kat_go (λe=>kat_yes ?_) λe=>kat_no ?_))
  ·rw[if_pos (eq_of_beq e)] at h;have q:=zvj (i+1) r1 r2 h;have ee:decide ((Value.int x t::us).length < (Value.int y u::ws).length)=decide (us.length < ws.length):=by
    rw[xcc,xcc,xfp];simp
   rw[ee];exact q
  ·rw[if_neg (xfo.mp e)] at h;cases hb:(b&&i==0) with
   | true=>exact oneLt_int h
   | false=>exact kat_one _ _ (PyProof.Rows.lt_int h)
end
end
end Srt
namespace L2
open PySem PySem.Spec PyProof.Rows PySem.W
theorem zpz:∀{as:List Addr} {us:List Value},Vals (as.map V.ref) us->us=as.map Value.ref
 | [],_,.nil=>rfl
 | a::as,_,.cons r t=>by
  rw[show _=Value.ref a from r,zpz t]
  rfl
def TupsAt (K:Fg) (H:Hp) (ps:List (Addr×List Int)):Prop:=∀p∈ps,SqT K H p.1 (p.2.map V.int)
theorem zl {α β:Type}(f:α->β)(d:β){l:List α}{i:Nat}{x:α}(h:l[i]?=some x):(l.map f).getD i d=f x:=by
 rw[xbi,xcp,h]
 rfl
section
end
end L2
namespace L2
open PySem PySem.Spec PyProof.Rows
mutual
inductive DAt (K:Fg) (H:Hp):V->PyData->Prop
 | non:DAt K H .non .none
 | bl (b:Bool):DAt K H (.bl b) (.bool b)
 | int (i:Int):DAt K H (.int i) (.int i)
 | str (x:Str):DAt K H (.str x) (.str x)
 | lst {a:Addr} {xs:List V} {ds:List PyData}:SqL K H a xs->DAll K H xs ds->DAt K H (.ref a) (.list ds)
 | tup {a:Addr} {xs:List V} {ds:List PyData}:SqT K H a xs->DAll K H xs ds->DAt K H (.ref a) (.tuple ds)
inductive DAll (K:Fg) (H:Hp):List V->List PyData->Prop
 | nil:DAll K H [] []
 | cons {x:V} {xs:List V} {d:PyData} {ds:List PyData}:DAt K H x d->DAll K H xs ds->DAll K H (x::xs) (d::ds)
end
section
section
variable {X:Cx}{aU:List (Addr×Obj)}{σ:St}{H:Hp}{s:Shared}
mutual
theorem zft (I:Inv X aU σ H s):∀{v:V} {d:PyData} {u:Value},DAt X.K H v d->RelV v u->∃as,Reads s.heap u d as
 | _,_,_,.non,r=>by cases r;exact⟨_,.none⟩
 | _,_,_,.bl b,r=>by cases r;exact⟨_,.bool b⟩
 | _,_,_,.int i,r=>by obtain⟨t,rfl⟩:=r;exact⟨_,.int i t⟩
 | _,_,_,.str x,r=>by obtain⟨t,rfl⟩:=r;exact⟨_,.str x t⟩
 | _,_,_,.lst h all,r=>by
  cases r;obtain⟨its,rv,⟨o,n,e,c,_,dd⟩,_⟩:=I.list h;obtain⟨as,q⟩:=zgw I all rv;exact⟨_,.list e c dd q⟩
 | _,_,_,.tup h all,r=>by
  cases r;obtain⟨its,rv,⟨o,e,c,n,dd⟩,_⟩:=I.tuple h;obtain⟨as,q⟩:=zgw I all rv;exact⟨_,.tuple e c dd q⟩
theorem zgw (I:Inv X aU σ H s):∀{vs:List V} {ds:List PyData} {us:List Value},DAll X.K H vs ds->Vals vs us->∃as,ReadsAll s.heap us ds as
 | _,_,_,.nil,.nil=>⟨_,.nil⟩
 | _,_,_,.cons h t,.cons r rs=>by
  obtain⟨as,q⟩:=zft I h r;obtain⟨bs,q'⟩:=zgw I t rs;exact⟨_,.cons q q'⟩
end
end
end
def rEqX (K:Fg) (neg:Bool):R2:=λx y H Q=>∃dx dy,DAt K H x dx/\DAt K H y dy/\PySem.SeqAt.shaped dx=true/\PySem.SeqAt.shaped dy=true/\Q (.bl (if neg then !PyData.eqv dx dy else PyData.eqv dx dy)) H
section
section
variable {X:Cx}
theorem ziy (hu:X.A.units+64 < cLine):OpR X (compareOp .Eq) (rEqX X.K false):=by
 intro aU s σ H x y v u Q I r1 r2 h;obtain⟨dx,dy,a1,a2,a3,a4,q⟩:=h;obtain⟨as,ra⟩:=zft I a1 r1;obtain⟨bs,rb⟩:=zft I a2 r2;exact eq_dataH ra rb a3 a4 hu ⟨.bl (PyData.eqv dx dy),H,I,rfl,q⟩
theorem zgy (hu:X.A.units+64 < cLine):OpR X (compareOp .NotEq) (rEqX X.K true):=by
 intro aU s σ H x y v u Q I r1 r2 h;obtain⟨dx,dy,a1,a2,a3,a4,q⟩:=h;obtain⟨as,ra⟩:=zft I a1 r1;obtain⟨bs,rb⟩:=zft I a2 r2;exact ne_dataH ra rb a3 a4 hu ⟨.bl (!PyData.eqv dx dy),H,I,rfl,q⟩
end
end
noncomputable def dI (ns:List Int):List PyData:=ns.map PyData.int
def dRow (ns:List Int):PyData:=.tuple (dI ns)
theorem zbmi:∀a b:List Int,PyData.eqvAll (dI a) (dI b)=decide (a=b)
 | [],[]=>by rfl
 | [],_::_=>by rfl
 | _::_,[]=>by rfl
 | x::a,y::b=>by
  show(x==y&&PyData.eqvAll (dI a) (dI b))=_;rw[zbmi a b,xfp];simp
theorem zbgt (a b:List Int):PyData.eqv (dRow a) (dRow b)=decide (a=b):=zbmi a b
theorem zrg:∀a b:List (List Int),PyData.eqvAll (a.map dRow) (b.map dRow)=decide (a=b)
 | [],[]=>by rfl
 | [],_::_=>by rfl
 | _::_,[]=>by rfl
 | x::a,y::b=>by
  show(PyData.eqv (dRow x) (dRow y)&&PyData.eqvAll (a.map dRow) (b.map dRow))=_;rw[zrg a b,zbgt,xfp];simp
theorem zbmh:∀a:List Int,PyData.canLayAll0 (dI a)=true/\PyData.depthAll (dI a)=0
 | []=>⟨rfl,rfl⟩
 | x::a=>by
  obtain⟨h1,h2⟩:=zbmh a;refine⟨?_,?_⟩
  ·show(true&&PyData.canLayAll0 (dI a))=true;rw[h1];rfl
  ·show max 0 (PyData.depthAll (dI a))=0;rw[h2];rfl
theorem zrf:∀a:List (List Int),PyData.canLayAll0 (a.map dRow)=true/\PyData.depthAll (a.map dRow)<=1
 | []=>⟨rfl,xdu _⟩
 | x::a=>by
  obtain⟨h1,h2⟩:=zrf a;obtain⟨h3,h4⟩:=zbmh x;refine⟨?_,?_⟩
  ·show(PyData.canLayAll0 (dI x)&&PyData.canLayAll0 (a.map dRow))=true;rw[h1,h3];rfl
  ·show max (PyData.depthAll (dI x)+1) (PyData.depthAll (a.map dRow))<=1;rw[h4];lia
theorem zjq (a:List (List Int)):PySem.SeqAt.shaped (.tuple (a.map dRow))=true:=by
 obtain⟨h1,h2⟩:=zrf a;show(PyData.canLayAll0 (a.map dRow)&&decide (PyData.depthAll (a.map dRow)+1<=64))=true;rw[h1,xbw (by lia)];rfl
section
theorem zmo:∀{bs:List Bool} {us:List Value},Vals (bs.map V.bl) us->us=bs.map Value.bool
 | [],_,.nil=>rfl
 | b::bs,_,.cons r t=>by
  rw[show _=Value.bool b from r,zmo t]
  rfl
theorem zyq (bs:List Bool):((List.range bs.length).any λi=>bs.getD i false)=bs.any id:=by
 rw[xfp];simp only[xig,xby];constructor
 ·rintro⟨i,hi,h⟩;rw[xbi,xbe hi] at h;exact⟨bs[i],xda hi,h⟩
 ·rintro⟨b,hb,h⟩;obtain⟨i,hi,rfl⟩:=xeh hb;exact⟨i,hi,by rw[xbi,xbe hi];exact h⟩
theorem zyr (bs:List Bool):((List.range bs.length).all λi=>bs.getD i false)=bs.all id:=by
 rw[xfp];simp only[xcu,xby];constructor
 ·intro h b hb;obtain⟨i,hi,rfl⟩:=xeh hb;have:=h i hi;rw[xbi,xbe hi] at this;exact this
 ·intro h i hi;rw[xbi,xbe hi];exact h _ (xda hi)
def rAny (K:Fg) (al:Bool):List V->Hp->VK->Prop:=λxs H Q=>∃(l:Addr) (bs:List Bool),xs=[.ref l]/\SqL K H l (bs.map V.bl)/\Q (.bl (if al then bs.all id else bs.any id)) H
theorem zrv    (bs:List Bool):TruthOf prog w A (λi v=>(bs.map Value.bool).toArray[i]?=some v) (λi=>bs.getD i false):=λi v s Q E hP hQ=>by
 have hP':(bs.map Value.bool)[i]?=some v:=by simpa using hP
 rw[xcp] at hP';cases e:bs[i]? with
 | none=>rw[e] at hP';cases hP'
 | some b =>
  rw[e] at hP';cases hP';dsimp only at hQ;rw[xbi,e] at hQ;exact xgi hQ
section
variable {X:Cx}
theorem zxc (hc:X.calm=true){aU:List (Addr×Obj)}{σ:St}{H:Hp}{s:Shared}{l:Addr}{bs:List Bool}{R:Bool->Prop}(I:Inv X aU σ H s)(hl:SqL X.K H l (bs.map V.bl)){Q:Value->Shared->Prop}{F:(Nat->Bool)->Nat->Bool}
  (hQ:∀s',Inv X aU σ H s'->Q (.bool (F (λi=>bs.getD i false) bs.length)) s') :
  wpAny (model X.prog X.w) X.A.in1 (pyIter (.ref l)) (λit s₂=>∃I fp wr n P St tr,it=.ref I/\Walks X.prog X.w X.A.in1 I fp wr n P St/\St 0 s₂.heap/\TruthOf X.prog X.w X.A.in1 P tr /\
   ∀h' tk,(∀b o,b∉wr->s₂.heap.get? b=some o->h'.get? b=some o)->Q (.bool (F tr n)) {s₂ with heap:=h',toks:=tk}) X.xe s:=by
 obtain⟨its,rv,pl,hz⟩:=I.list hl;have e:=zmo rv;subst e;have hlt:l < s.heap.objs.size:=by obtain⟨o,n,e,_⟩:=pl;exact xbr e
 refine xjl pl.isList ?_;refine⟨s.heap.objs.size,_,[s.heap.objs.size],_,_,_,_,rfl,Walks.list (A:=X.A.in1) (I.ok.hd hc) _ l (xce hlt) (bs.map Value.bool).toArray,⟨⟨_,xbu _ rfl,rfl,rfl⟩,pl.isList.push _⟩,zrv bs,λh' tk hk=>?_⟩;have e2:(bs.map Value.bool).toArray.size=bs.length:=by simp
 rw[e2];refine hQ _ ?_;refine I.kept (t':=tk) λb o e=>hk b o ?_ (xbf _ e)
 intro z;have z':b=s.heap.objs.size:=by simpa using z
 have z2:=xbr e;rw[z'] at z2;exact absurd z2 (xgn _)
theorem zwp (hc:X.calm=true):CallR X (.builtin "any") (rAny X.K false):=by
 intro aU s σ H xs us Q I r h;obtain⟨l,bs,rfl,hl,q⟩:=h;obtain⟨u,rfl,ru⟩:=vals1 r;cases ru;refine call_any_walk (zxc (R:=λ_=>True) hc I hl (F:=λtr n=>(List.range n).any tr) λs' I'=>⟨.bl ((List.range bs.length).any λi=>bs.getD i false),H,I',rfl,?_⟩);rw[zyq];exact q
theorem zpo (hc:X.calm=true):CallR X (.builtin "all") (rAny X.K true):=by
 intro aU s σ H xs us Q I r h;obtain⟨l,bs,rfl,hl,q⟩:=h;obtain⟨u,rfl,ru⟩:=vals1 r;cases ru;refine call_all_walk (zxc (R:=λ_=>True) hc I hl (F:=λtr n=>(List.range n).all tr) λs' I'=>⟨.bl ((List.range bs.length).all λi=>bs.getD i false),H,I',rfl,?_⟩);rw[zyr];exact q
end
end
end L2
namespace Dct
open PySem PySem.W PyProof.Rows
noncomputable def Raw (h:Heap) (d:Addr) (es:Array DictEntry) (ep:Nat):Prop:=∃ob,h.get? d=some ob/\ob.ExactDict/\ob.data=.dict es ep
theorem Raw.kept {h':Heap}    (x:Raw h d es ep)(k:∀ob,h.get? d=some ob->h'.get? d=some ob):Raw h' d es ep :=
 let ⟨ob,e,r⟩:=x;⟨ob,k ob e,r⟩
theorem Raw.lt     (x:Raw h d es ep):d < h.objs.size:=let ⟨_,e,_⟩:=x;xbr e
theorem Raw.is {au:Shared}    (x:Raw au.heap d es ep):au.TypeIs (.ref d) "dict":=let ⟨ob,e,c,_⟩:=x; ⟨ob,e,c.1⟩
section
noncomputable def iterObj (d:Addr) (n ep:Nat):Obj:={ cls:=.type "dict_keyiterator", data:=.fields #[.ref d,.int 0 0,.int n 0,.int ep 0] }
theorem zug {au:Shared}{W:Value->Shared->Prop}(ns:(d==sysModules)=false)(x:Raw au.heap d es ep)(fin:W (.ref au.heap.objs.size) {au with heap:=au.heap.push (iterObj d es.size ep)}):wpAny (model P w) B (pyIter (.ref d)) W E au:=by
 obtain⟨ob,e,c,dt⟩:=id x;have ty:=x.is;refine xmx ty F.slot_dict_iter (xej F.slot_dict_iter ty F.entry_dict_iter ?body (F.args_dict_iter_1 _))
 case body =>
  unfold Builtin.«dict.__iter__» Builtin.Dict.dictSlotNone Builtin.Dict.showsAll;refine xba (xba (wpAny_notOrdered_dict ty (xbd ?_)));show wpAny _ _ ((if(d==sysModules)=true then _ else _) >>= _) _ _ au;rw[if_neg (λz=>xft (ns.symm.trans z))];refine xba (xbd (xba (xjm e dt (xba (wpAny_dictEpoch e dt (xba (xel (xbd ⟨_,rfl, "dict_keyiterator", _,⟨_,xbu _ rfl,rfl⟩,xgc.lookup,?_⟩))))))))
  exact fin
theorem zuf {au:Shared}{es:Array DictEntry}{W:Option Value->Shared->Prop}  (hi:au.heap.IsKeyIter it d k es.size ep)(x:Raw au.heap d es ep)(hk:es[k]?=some en)
  (fin:∀g:Heap,g.IsKeyIter it d (k+1) es.size ep->Heap.SameBut it au.heap g->W (some en.key) {au with heap:=g}):wpAny (model P w) B (pyNext (.ref it)) W E au:=by
 obtain⟨oi,ei,ci,di⟩:=id hi;obtain⟨ob,e,c,dt⟩:=id x;have lt:k < es.size:=(xmq.mp hk).1;unfold pyNext;refine xba (xka (wpAny_callSpecial?_slot (name:=Str.ofString "__next__") hi.typeIs xgc (xej xgc hi.typeIs F.entry_dict_keyiterator_next ?body (F.args_dict_keyiterator_next_1 _))))
 case body =>
  refine xba (xbd (xba (xba (xba (xgx hi.typeIs (xbd (xba (xmd ei di ?_))))))));simp only[show Builtin.Dict_items.ownsTuple "dict_keyiterator"=false from by decide,xco,ite_false]
  show wpAny _ _ (if(Value.ref d==Value.none)=true then _ else _) _ _ au;have nn:¬ (Value.ref d==Value.none)=true:=xft;rw[if_neg nn];refine xba (xbd (xba (xjm e dt ?_)));rw[if_neg (by simp)];refine xba (xbd (xba (wpAny_dictEpoch e dt ?_)));rw[if_neg (by simp)];refine xbd ?_;simp only[show ¬ ((k:Int) < 0) from by lia,ite_false,xea,hk];refine xba (xba (xgx hi.typeIs (xbd (xba (wpAny_isOneOf_keyiter hi.typeIs ?_)))));show wpAny _ _ (setField (.ref it) 1 (rawInt ((k:Int)+1)) >>= _) _ _ au;refine xba (xid ei di (by simp) ?_);have hi':(au.heap.update it (Obj.mapFields (·.setIfInBounds 1 (rawInt ((k:Int)+1))))).IsKeyIter it d (k+1) es.size ep :=
   ⟨_,xed _ ei (xhn (xgq di _)),(xku ..).trans ci,by rw[xgq di];simp[rawInt]⟩
  refine xba (xeo (xba (wpAny_isOneOf_keyiter (s:={au with heap:=au.heap.update it (Obj.mapFields (·.setIfInBounds 1 (rawInt ((k:Int)+1))))}) hi'.typeIs ?_)));show wpAny _ _ (pure en.key) _ _ _;exact xbd (xbd ⟨_,rfl,xbd (fin _ hi' (xes ..))⟩)
theorem zbbn {B:Around}{au:Shared}{es:Array DictEntry}{W:Option Value->Shared->Prop}(hh:B.handled=none)(hi:au.heap.IsKeyIter it d k es.size ep)(x:Raw au.heap d es ep)(hk:es.size<=k)
  (fin:∀g:Heap,Heap.ExtBut it au.heap g->W none {au with heap:=g}):wpAny (model P w) B (pyNext (.ref it)) W E au:=by
 obtain⟨oi,ei,ci,di⟩:=id hi;obtain⟨ob,e,c,dt⟩:=id x;unfold pyNext;refine xba (xka (wpAny_callSpecial?_slot (name:=Str.ofString "__next__") hi.typeIs xgc (xej xgc hi.typeIs F.entry_dict_keyiterator_next ?body (F.args_dict_keyiterator_next_1 _))))
 case body =>
  refine xba (xbd (xba (xba (xba (xgx hi.typeIs (xbd (xba (xmd ei di ?_))))))));simp only[show Builtin.Dict_items.ownsTuple "dict_keyiterator"=false from by decide,xco,ite_false]
  show wpAny _ _ (if(Value.ref d==Value.none)=true then _ else _) _ _ au;have nn:¬ (Value.ref d==Value.none)=true:=xft;rw[if_neg nn];refine xba (xbd (xba (xjm e dt ?_)));rw[if_neg (by simp)];refine xba (xbd (xba (wpAny_dictEpoch e dt ?_)));rw[if_neg (by simp)];refine xbd ?_;simp only[show ¬ ((k:Int) < 0) from by lia,ite_false,xea,xlb hk];refine xba (xba (xgx hi.typeIs (xbd ?_)));show wpAny _ _ (setField (.ref it) 0 .none >>= _) _ _ au;refine xba (xid ei di (by simp) ?_);show wpAny _ _ (newExc (.type "StopIteration") [] >>= _) _ _ _
  refine xba ?_;simp only[newExc,newTuple];refine xba (xel (xba (m:=firstArgMember _ _) (wpAny_of_eq (a:=Value.none) (by first | rfl | (simp only[firstArgMember];rfl)) (xel ?_ (by size_fits)))) (by size_fits));simp only[raiseNew];refine xba (wpAny_handled ?_);rw[show B.in1.handled=none from hh];refine xba (xbd (wpAny_throw ?_));refine xba (xlg (T:="StopIteration") (b:=true) ?_ isSubtype_stop (xbd (fin _ (((xes ..).extBut.push _).push _))))
  exact⟨_,xbu _ rfl,rfl⟩
theorem zyo {B:Around}(hh:B.handled=none)(ne:d≠it)(es:Array DictEntry)(ep:Nat) :
  Walks P w B it [it,d] [it] es.size (λi v=>∃en,es[i]?=some en/\v=en.key) (λi h=>h.IsKeyIter it d i es.size ep/\Raw h d es ep) where
 sub:=λb hb=>xbm.mpr (.inl (xbt.mp hb))
 frame:=λ_ _ _ z hk=>⟨z.1.at λo e=>hk it xbq o e,z.2.kept λo e=>hk d (xbo _ (xbt.mpr rfl)) o e⟩
 item:=λi sh W' E' hi z hQ=>by
  have hx:es[i]?=some es[i]:=xdd hi;exact zuf z.1 z.2 hx λg a b=>hQ es[i].key g sh.toks ⟨_,hx,rfl⟩ ⟨a,z.2.kept λo e=>b.extBut d o ne e⟩ λc o hc e=>b.extBut c o (λq=>hc (xbt.mpr q)) e
 done:=λsh W' E' z hQ=>zbbn hh z.1 z.2 (xbg _) λg b=>hQ g sh.toks λc o hc e=>b c o (λq=>hc (xbt.mpr q)) e
 self:=λ_ _ _ _ z hQ=>wpAny_pyIter_keyiter z.1 hQ
theorem zbir (ns:(d==sysModules)=false)(es:Array DictEntry)(ep:Nat):KdlSrc P w "dict" d d es.size (λi v=>∃ en,es[i]?=some en/\v=en.key) (λh=>Raw h d es ep) where
 type:=λ_ x=>x.is
 there:=λ_ x=>⟨x.lt,x.lt⟩
 keep:=λ_ _ x hk=>x.kept λo e=>hk d (.inl rfl) o e
 notList:=by decide
 notTuple:=by decide
 hint:=λ_ _ _ _ x hq=>kdl_hint_dict x.is hq
 iter:=λ_ sh hh x=>⟨_,_,λ_ _ hq=>zug ns x hq,zyo hh (xce x.lt) es ep,⟨⟨_,xbu _ rfl,rfl,rfl⟩,x.kept λo e=>xbf _ e⟩⟩
end
end Dct
namespace Srt
open PySem PySem.W PyProof.Rows
section
end
end Srt
namespace L2
open PySem PySem.Spec PyProof.Rows
theorem ObjOk.ob       (x:ObjOk P w H h a o):∃ob,h.get? a=some ob:=by
 cases o with
 | lst xs=>obtain⟨_,_,_,_,e⟩:=x;exact⟨_,e⟩
 | tup xs=>obtain⟨_,_,_,ob,e,_⟩:=x;exact⟨_,e⟩
 | dK kvs=>obtain⟨_,_,_,_,ob,_,_,e,_⟩:=x;exact⟨_,e⟩
 | dT kvs=>obtain⟨_,_,_,_,ob,_,_,e,_⟩:=x;exact⟨_,e⟩
 | set S n=>obtain⟨ob,_,_,_,e,_⟩:=x;exact⟨_,e⟩
 | ins C dx fs=>obtain⟨_,_,_,e,_⟩:=x;exact⟨_,e⟩
 | own y=>obtain⟨_,e⟩:=x;exact⟨_,e⟩
 | xd fs=>obtain⟨_,⟨_,_,_,e,_⟩,_⟩:=x;exact⟨_,e⟩
 | rng lo hi=>obtain⟨_,_,_,e⟩:=x;exact⟨_,e⟩
 | frz ob u=>obtain⟨e,_⟩:=x;exact⟨_,e⟩
 | tbl ps=>exact⟨_,(show h.get? a=some _ from x)⟩
 | met f y=>exact⟨_,(show h.get? a=some _ from x)⟩
 | ext φ=>obtain⟨_,⟨_,e⟩,_⟩:=x;exact⟨_,e⟩
section
theorem Inv.away (I:Inv X aU σ H s)  (ne:∀b ob,s.heap.get? b=some ob->b≠q):H q=none:=by
 cases e:H q with
 | none=>rfl
 | some o =>
  obtain⟨ob,z⟩:=(I.hok q o e).ob;exact absurd rfl (ne q ob z)
theorem Inv.laidN   {g:Heap}  (I:Inv X aU σ H s)(k:∀b u,s.heap.get? b=some u->g.get? b=some u)(ne:∀b ob,s.heap.get? b=some ob->b≠q)(new:ObjOk X.prog X.w (upd H q o) g q o) :
  Inv X aU σ (upd H q o) {s with heap:=g,toks:=t'}:=by
 have hn:=I.away ne;have off:∀{b:Addr} {u:HO},H b=some u->upd H q o b=some u:=λ{b u} e=>by rw[zx (zn e hn)];exact e
 refine I.un ⟨λb u e _ _ _=>k b u e,λb u e _ _ _=>⟨u.slots,k b u e⟩,λb u e n _=>by rw[zx (ne b u e)];exact n,λb u e _=>⟨u,k b u e⟩,λb xs e=>off e,λb ob u e=>off e,λb ps e=>⟨#[],by rw[off e];simp⟩⟩ λb u e=>?_
 by_cases hb:b=q
 ·subst hb;rw[zw] at e;cases e;exact new
 ·rw[zx hb] at e;exact(I.hok b u e).stay (λc v _ z=>k c v z) (λc z=>off z) λc xs z=>off z
end
theorem zbcc (ns:List Int):(ns.map (Sum.inl:Int->Key)).map kV=ns.map V.int:=by rw[xcv];rfl
theorem znw {P:Program}{w:World}{H:Hp}{kvs:List (List Key×V)}:∀{ks:List (List Int)} {xs:List (List Key×Addr×Value)},
  Paired (λ(p:List Key×V) (q:List Key×Addr×Value)=>p.1=q.1/\H q.2.1=some (.tup (p.1.map kV))/\RelV p.2 q.2.2) kvs xs->kvs.map (·.1)=ks.map (λns=>ns.map Sum.inl) ->
   ∃ps:List (Addr×List Int),ps.map (·.2)=ks/\(∀p∈ps,H p.1=some (.tup (p.2.map V.int)))/\xs.map (λq=>(entryOfKey (tupleKind (mixKind P w)) q).key)=ps.map λp=>Value.ref p.1:=by
 induction kvs with
 | nil =>
  intro ks xs r e;cases r;cases ks with
  | nil=>exact⟨[],rfl,λp hp=>(nomatch hp),rfl⟩
  | cons x ks=>cases e
 | cons kv kvs ih =>
  intro ks xs r e;cases r with
  | cons r rs =>
   cases ks with
   | nil=>cases e
   | cons ns ks =>
    rw[xbs,xbs] at e;injection e with e1 e2
    obtain⟨ps,a1,a2,a3⟩:=ih rs e2;rename_i b _;obtain⟨r1,r2,r3⟩:=r;refine⟨(b.2.1,ns)::ps,by rw[xbs,a1],λp hp=>?_,by rw[xbs,xbs,a3];rfl⟩;rcases xbm.mp hp with z | z
    ·subst z;rw[e1,zbcc] at r2;exact r2
    ·exact a2 p z
open PySem.W in
theorem zbhb    {sg:Shared}{ps:List (Addr×List Int)}(h2:2<=ps.length)
  (tup:∀(i:Nat) (p:Addr×List Int),ps[i]?=some p->∃(us:List Value) (o:Obj) (n:Nat),IntsAre us p.2/\sg.heap.get? p.1=some o/\o.cls=.type "tuple"/\o.data=.seq us.toArray n/\p.2≠[]) :
  Srt.Answers P w B (Srt.rank (ps.map (·.2))) (ps.map λp=>Value.ref p.1) sg:=by
 refine⟨tuples' true,λR hq=>?_,λi j C hi hj hC=>?_⟩
 ·have kt:∀(l:List (Addr×List Int)),(∀p∈l,∃i:Nat,ps[i]?=some p)->∃fs:List Value,KatTups sg.heap (l.map λp=>Value.ref p.1) fs/\fs.length=l.length/\∀v∈fs,∃i t,v=Value.int i t:=λl=>by
   induction l with
   | nil=>intro _;exact⟨[],KatTups.nil,rfl,λv hv=>(nomatch hv)⟩
   | cons p l ih =>
    intro hp;obtain⟨fs,b1,b2,b3⟩:=ih λp' hp'=>hp p' (xbo _ hp')
    obtain⟨i,hi⟩:=hp p xbq;obtain⟨us,o,n,a1,a2,a3,a4,a5⟩:=tup i p hi;obtain⟨pa,pn⟩:=p;dsimp only at a1 a2 a3 a4 a5;cases a1 with
    | nil=>exact absurd rfl a5
    | cons x t r=>exact⟨Value.int x t::fs,KatTups.cons a2 a3 a4 rfl b1,by rw[xcc,xcc,b2],λv hv=>(xbm.mp hv).elim (λz=>⟨x,t,z⟩) (b3 v)⟩
  obtain⟨fs,b1,b2,b3⟩:=kt ps λp hp=>List.mem_iff_getElem?.mp hp
  exact kat_kind (T:=.type "int") b1 (by lia) (λv hv=>by
   obtain⟨i,t,rfl⟩:=b3 v hv
   exact Looks.of_pure rfl) rfl hq
 ·rw[xbb] at hi hj;have ei:ps[i]?=some ps[i]:=xbe hi;have ej:ps[j]?=some ps[j]:=xbe hj;obtain⟨us,o,n,a1,a2,a3,a4,a5⟩:=tup i _ ei;obtain⟨us2,o2,n2,c1,c2,c3,c4,c5⟩:=tup j _ ej;unfold kas_ask;rw[zl (λp:Addr×List Int=>Value.ref p.1) _ ei,zl (λp:Addr×List Int=>Value.ref p.1) _ ej];refine kat_lt a2 a4 c2 c4 (Srt.zvj 0 a1 c1 ?_);rw[Srt.zmw (by rw[xbb];exact hi) (by rw[xbb];exact hj),zl (λp:Addr×List Int=>p.2) _ ei,zl (λp:Addr×List Int=>p.2) _ ej] at hC;exact hC
theorem zuo {ps:List (Addr×List Int)}{p:Array Nat}(p1:p.Perm (List.toArray (List.range ps.length)))(p2:Srt.Up (Srt.rank (ps.map (·.2))) p ps.length) :
  ∃qs:List (Addr×List Int),qs.Perm ps/\(qs.map (·.2)).Pairwise (λx y=>HT.lexLt y x=false)/\Srt.outOf (ps.map λp=>Value.ref p.1) p=(qs.map λp=>Value.ref p.1).toArray:=by
 have hps:p.size=ps.length:=by rw[p1.size_eq];simp
 have sm:∀i∈p.toList,i < ps.length:=λi hi=>by
  have h3:=(p1.mem_iff (a:=i)).mp (by rw[← xlm];exact hi);exact xby.mp (List.mem_toArray.mp h3)
 refine⟨p.toList.map λi=>ps.getD i (0,[]),?_,?_,?_⟩
 ·have e1:p.toList.Perm (List.range ps.length):=by
   have:=xfm.mp p1
   simpa using this
  have e2:=e1.map λi=>ps.getD i (0,[])
  have e3:((List.range ps.length).map λi=>ps.getD i (0,[]))=ps:=by
   apply xnc
   ·simp
   ·intro i h1 h2;simp[xbi,h2]
  rw[e3] at e2;exact e2
 ·rw[xcv,xfq];intro i j hi hj hij;rw[xle,xle];rw[xbb] at hi hj;have hi':i < p.size:=by simpa using hi
  have hj':j < p.size:=by simpa using hj
  have hu:=p2 i j (xca hij) (by lia);have g:∀k,(hk:k < p.toList.length)->p.getD k 0=p.toList[k]:=λk hk=>by
   have hk':k < p.size:=by simpa using hk
   rw[xcw,xdd hk'];simp
  have si:=sm _ (xda hi);have sj:=sm _ (xda hj);have lk:=Srt.zmw (ks:=ps.map (·.2)) (i:=p.toList[j]) (j:=p.toList[i]) (by rw[xbb];exact sj) (by rw[xbb];exact si);have hno:Srt.lt (Srt.rank (ps.map (·.2))) p.toList[j] p.toList[i]=false:=by
   refine xbz λz=>?_
   unfold Srt.At at hu;rw[g i hi,g j hj] at hu;lia
  rw[hno] at lk;have v:∀k,k < ps.length->(ps.map (·.2)).getD k []=(ps.getD k (0,[])).2:=λk hk=>by
   have ek:ps[k]?=some ps[k]:=xbe hk;rw[zl (λp:Addr×List Int=>p.2) _ ek,xbi,ek]
   rfl
  rw[v _ sj,v _ si] at lk;exact lk.symm
 ·unfold Srt.outOf;rw[xcv]
  congr 1
  refine xkd λi hi=>?_
  have hi2:=sm i hi;have ei:ps[i]?=some ps[i]:=xbe hi2;rw[zl (λp:Addr×List Int=>Value.ref p.1) _ ei];show _=Value.ref (ps.getD i (0,[])).1;rw[xbi,ei]
  rfl
section
end
section
theorem Inv.freeze    (I:Inv X aU σ H s)(h:H a=some (.dT kvs))(e:s.heap.get? a=some ob):Inv X aU σ (upd H a (.frz ob (.dT kvs))) s:=by
 have off:∀{b:Addr} {u:HO},H b=some u->(∀l,u≠.dT l)->upd H a (.frz ob (.dT kvs)) b=some u:=λ{b u} q n=>by
  rw[zx (by rintro rfl;rw[h] at q;cases q;exact n _ rfl)];exact q
 have z:=I.un (h':=s.heap) (t':=s.toks) (H':=upd H a (.frz ob (.dT kvs))) ⟨λb u q _ _ _=>q,λb u q _ _ _=>⟨u.slots,q⟩,λb u q n _=>by
   rw[zx (by rintro rfl;rw[h] at n;cases n)];exact n,λb u q _=>⟨u,q⟩,λb xs q=>off q (λl z=>by cases z),λb o u q=>off q (λl z=>by cases z),λb ps q=>⟨#[],by rw[off q (λl z=>by cases z)];simp⟩⟩ (λb u q=>by
   by_cases hb:b=a
   ·subst hb;rw[zw] at q;cases q;exact⟨e,(I.hok b _ h).stay (λc v _ r=>r) (λc r=>off r (λl z=>by cases z)) λc xs r=>off r (λl z=>by cases z)⟩
   ·rw[zx hb] at q
    exact(I.hok b u q).stay (λc v _ r=>r) (λc r=>off r (λl z=>by cases z)) λc xs r=>off r (λl z=>by cases z))
 exact z
end
def Itd (a:Addr) (ob:Obj) (kvs:List (List Key×V)) (ps:List (Addr×List Int)):It :=
 ⟨λi H=>i < ps.length/\H a=some (.frz ob (.dT kvs)),λi H x H'=>H'=H/\∃p,ps[i]?=some p/\x=.ref p.1,λi H=>ps.length<=i/\H a=some (.frz ob (.dT kvs))⟩
theorem zyd {P:Program}{w:World}{K:Fg}{tg:Expr}{a it:Addr}{ob:Obj}{kvs:List (List Key×V)}{ps:List (Addr×List Int)}{es:Array DictEntry}{ep:Nat}(ex:ob.ExactDict)(dt:ob.data=.dict es ep)
  (hk:es.toList.map (·.key)=ps.map λp=>Value.ref p.1):Turn P w K tg (Itd a ob kvs ps) [it] it (λi h=>h.IsKeyIter it a i es.size ep) where
 mem:=xbt.mpr rfl
 obj:=λi h au b hb=>by
  have e:b=it:=xbt.mp hb;subst e;obtain⟨o,e,c,d⟩:=au;exact⟨o,e,λv z=>by rw[d] at z;cases z⟩
 keep:=λi h h' au k=>au.at λo e=>k it (xbt.mpr rfl) o e
 item:=by
  intro Y hP hw hK hc i aU s σ H E I hf au hg;subst hP hw hK;obtain⟨hi,hz⟩:=hg;have hsz:es.size=ps.length:=by
   have:=congrArg List.length hk
   rwa [xbb,xbb,xcd] at this
  obtain⟨eo,_⟩:=(show ObjOk Y.prog Y.w H s.heap a (.frz ob (.dT kvs)) from I.hok a _ hz)
  obtain⟨f0,f1,f2,f3,f4,f5⟩:=hf it (xbt.mpr rfl);have hen:es[i]?=some es[i]:=xdd (by lia);have hpi:ps[i]?=some ps[i]:=xbe hi;have hkey:es[i].key=Value.ref ps[i].1:=by
   have q:=congrArg (λl=>l[i]?) hk;simp only[xcp,xci,hen,hpi] at q;exact xcs q
  refine Dct.zuf au ⟨ob,eo,ex,dt⟩ hen λg st' sb=>?_
  have I1:Inv Y aU σ H {s with heap:=g}:=I.turned (t':=s.toks) (λb o hb e=>sb.extBut b o hb e) f0 f1 f3 f4 f5;obtain⟨o,e,c,d⟩:=id st';exact⟨_,rfl,zbnn (s:={s with heap:=g}) e c d (by decide) ⟨.ref ps[i].1,H,I1,hkey,⟨rfl,ps[i],hpi,rfl⟩,st',λb hb=>(hf b hb).1⟩⟩
 done:=by
  intro Y hP hw hK hc i aU s σ H E I hf au hg;subst hP hw hK;obtain⟨hi,hz⟩:=hg;have hsz:es.size=ps.length:=by
   have:=congrArg List.length hk
   rwa [xbb,xbb,xcd] at this
  obtain⟨eo,_⟩:=(show ObjOk Y.prog Y.w H s.heap a (.frz ob (.dT kvs)) from I.hok a _ hz)
  obtain⟨f0,f1,f2,f3,f4,f5⟩:=hf it (xbt.mpr rfl);exact Dct.zbbn (I.ok.hd hc) au ⟨ob,eo,ex,dt⟩ (by lia) λg eb=>⟨rfl,I.turned (t':=s.toks) (λb o hb e=>eb b o hb e) f0 f1 f3 f4 f5⟩
 self:=λ_ _ _ _ _ au h=>wpAny_pyIter_keyiter au h
def iDct (td:TE):TI:=λσ H R=>td σ H λx H1=>∃(a:Addr) (kvs:List (List Key×V)) (ks:List (List Int)),x=.ref a/\H1 a=some (.dT kvs)/\kvs.map (·.1)=ks.map (λns=>ns.map Sum.inl) /\
 ∀(ob:Obj) (ps:List (Addr×List Int)),ps.map (·.2)=ks->(∀p∈ps,H1 p.1=some (.tup (p.2.map V.int)))->R (Itd a ob kvs ps) (upd H1 a (.frz ob (.dT kvs)))
theorem zbjg {X:Cx}{tg l:Expr}{td:TE}(hl:PE X l td):PI X tg l (iDct td):=by
 intro aU s σ H R I h;refine thn (hl aU s σ H _ I h) λv s1 hq0=>?_
 obtain⟨x,H1,I1,r1,q1⟩:=hq0;obtain⟨a,kvs,ks,rfl,hd,ek,q⟩:=q1;cases r1;obtain⟨z,ns,ys,rel,ob,es,ep,e1,e2,e3,e4,e5⟩:=(show ObjOk X.prog X.w H1 s1.heap a (.dT kvs) from I1.hok a _ hd)
 obtain⟨ps,a1,a2,a3⟩:=znw (P:=X.prog) (w:=X.w) rel ek;have hes:es.toList.map (·.key)=ps.map λp=>Value.ref p.1:=by rw[e4,xcv];exact a3
 refine Dct.zug ns ⟨ob,e1,e2,e3⟩ ?_;have I2:=I1.freeze hd e1;refine⟨s1.heap.objs.size,[s1.heap.objs.size],_,_,_,rfl,I2.kept (t':=s1.toks) λb o e=>xbf _ e,zyd e2 e3 hes,⟨_,xbu _ rfl,rfl,rfl⟩,λb hb=>?_,q ob ps a1 a2⟩;have e:b=s1.heap.objs.size:=xbt.mp hb;subst e;exact I2.fpOk (xbg _) (I2.hok.fresh (xbg _))
section
end
end L2
namespace L2
open PySem PySem.Spec PyProof.Rows PySem.W
noncomputable def TupsG (g:Heap) (ps:List (Addr×List Int)):Prop:=∀ p∈ps, ∃(us:List Value) (o:Obj) (n:Nat),IntsAre us p.2/\g.get? p.1=some o/\o.cls=.type "tuple"/\o.data=.seq us.toArray n
section
theorem zqy {sg:Shared}:∀{ps:List (Addr×List Int)},TupsG sg.heap ps->∃fs:List (Option Value),fs.map Option.isSome=ps.map (λp=>!p.2.isEmpty)/\∀(W:List (Option Value)->Shared->Prop),W fs sg->wpAny (model P w) B ((ps.map λp=>Value.ref p.1).mapM firstOfTuple') W E sg
 | [],_=>⟨[],rfl,λW h=>by rw[xna,List.mapM_nil];exact xbd h⟩
 | p::ps,h=>by
  obtain⟨fs,f1,f2⟩:=zqy (ps:=ps) λq hq=>h q (xbo _ hq)
  obtain⟨us,o,n,a1,a2,a3,a4⟩:=h p xbq;refine⟨us.toArray[0]?::fs,?_,λW hW=>?_⟩
  ·rw[xbs,xbs,f1]
   congr 1
   obtain⟨pa,pn⟩:=p;dsimp only at a1 ⊢;cases a1 with
   | nil=>rfl
   | cons x t r=>rfl
  ·rw[xbs,List.mapM_cons];have ty:Looks (model P w) sg.heap (typeOf (.ref p.1)) o.cls:=(Looks.ld a2).andThen .now;refine xba ?_;rw[kas_first_eq];refine xba (Looks.here ty ?_);rw[a3,if_neg (by first | decide | simp)];exact xba (listItems_at a2 a4 (xbd (xba (f2 _ (xbd hW)))))
theorem zvg (x y:Value):keyLt' general' x y=oneLt' false x y:=rfl
theorem zbha {B:Around}{sg:Shared}  (hκ:κ=general'\/κ=oneType')(hu:B.units < cLine)  (ha:TupsG sg.heap [a])(hb:TupsG sg.heap [b])  (hC:C (HT.lexLt a.2 b.2) sg) :
  wpAny (model P w) B (keyLt' κ (.ref a.1) (.ref b.1)) C E sg:=by
 obtain⟨us,o,n,a1,a2,a3,a4⟩:=ha a xbq;obtain⟨us2,o2,n2,b1,b2,b3,b4⟩:=hb b xbq;rcases hκ with rfl | rfl
 ·rw[zvg];exact kat_one _ _ (HT.znl (items:=us.toArray) (items2:=us2.toArray) ⟨o,a2,a3,n,a4⟩ ⟨o2,b2,b3,n2,b4⟩ a1 b1 hu hC)
 ·rw[keyLt'_oneType,oneLt'_eq];simp only[ite_true];refine xba (wpAny_cRoomFor hu (xba (wpAny_callSpecialIfBound?_slot (T:="tuple") ⟨o,a2,a3⟩ xli ?_)))
  obtain⟨cls,dd,data,sl⟩:=o;obtain⟨cls2,dd2,data2,sl2⟩:=o2;dsimp only at a3 a4 b3 b4;subst a3 a4 b3 b4;exact call_meets xli ⟨_,a2,rfl⟩ F.entry_tuple_lt (F.args_tuple_lt_2 _ _) (HT.zhm a.1 b.1 us.toArray us2.toArray n n2 dd dd2 sl sl2 a.2 b.2 a1 b1) ⟨a2,b2,xgi hC⟩
theorem zbhc {B:Around}{sg:Shared}  (hu:B.units < cLine)(tup:TupsG sg.heap ps)(emp:∃p∈ps,p.2=[]):Srt.Answers P w B (Srt.rank (ps.map (·.2))) (ps.map λp=>Value.ref p.1) sg:=by
 obtain⟨fs,f1,f2⟩:=zqy (P:=P) (w:=w) (B:=B) (E:=λ_ _=>False) tup;have notAll:¬ (fs.toArray.all λx=>x.isSome)=true:=λz=>by
  have z':fs.all (λx=>x.isSome)=true:=by simpa using z
  obtain⟨p,hp,he⟩:=emp;have m:(!p.2.isEmpty)∈fs.map Option.isSome:=by rw[f1];exact List.mem_map_of_mem (f:=λp:Addr×List Int=>!p.2.isEmpty) hp
  obtain⟨o,ho,e⟩:=xbp.mp m;have:=xcu.mp z' o ho;rw[e,he] at this;cases this
 have cmp:∀{κ:SortKind},κ=general'\/κ=oneType'->∀i j C,i < (ps.map λp=>Value.ref p.1).length->j < (ps.map λp=>Value.ref p.1).length->C (Srt.lt (Srt.rank (ps.map (·.2))) i j) sg->kas_ask P w B κ (ps.map λp=>Value.ref p.1) i j C sg:=λ{κ} hκ i j C hi hj hC=>by
  rw[xbb] at hi hj;have ei:ps[i]?=some ps[i]:=xbe hi;have ej:ps[j]?=some ps[j]:=xbe hj;unfold kas_ask;rw[zl (λp:Addr×List Int=>Value.ref p.1) _ ei,zl (λp:Addr×List Int=>Value.ref p.1) _ ej];rw[Srt.zmw (by rw[xbb];exact hi) (by rw[xbb];exact hj),zl (λp:Addr×List Int=>p.2) _ ei,zl (λp:Addr×List Int=>p.2) _ ej] at hC;have one:∀k,(hk:k < ps.length)->TupsG sg.heap [ps[k]]:=λk hk q hq=>by
   rw[xbt.mp hq];exact tup _ (xda hk)
  exact zbha hκ hu (one i hi) (one j hj) hC
 by_cases fst:(fs.toArray[0]?.bind id).isSome=true
 ·refine⟨general',λR hR=>?_,cmp (.inl rfl)⟩;rw[kat_kind_eq,xmt,xnh];refine xba (xba (f2 _ (xbd ?_)));rw[if_neg notAll,if_pos fst];exact xbd hR
 ·refine⟨oneType',λR hR=>?_,cmp (.inr rfl)⟩;rw[kat_kind_eq,xmt,xnh];refine xba (xba (f2 _ (xbd ?_)));rw[if_neg notAll,if_neg fst,oneTypeOnly'_eq,xmt,xnh];have ty:∀ v∈(ps.map λp=>Value.ref p.1), ∀ W:Value->Shared->Prop,W (.type "tuple") sg->wpAny (model P w) B (typeOf v) W (λ_ _=>False) sg:=λv hv W hW=>by
   obtain⟨p,hp,rfl⟩:=xbp.mp hv;obtain⟨us,o,n,a1,a2,a3,a4⟩:=tup p hp;have lk:Looks (model P w) sg.heap (typeOf (.ref p.1)) o.cls:=(Looks.ld a2).andThen .now;rw[a3] at lk;exact lk.here hW
  refine xba (xba (xba (kas_mapM (r:=Value.type "tuple") _ ty (xbd ?_))))
  obtain⟨p,hp,_⟩:=emp;obtain⟨p0,rest,rfl⟩:∃p0 rest,ps=p0::rest:=by
   cases ps with
   | nil=>exact nomatch hp
   | cons p0 rest=>exact⟨p0,rest,rfl⟩
  have all:((List.map (λ_=>Value.type "tuple") ((p0::rest).map λp=>Value.ref p.1)).toArray.all λx=>x==Value.type "tuple")=true:=by
   rw[List.all_toArray,xcu];intro x hx;obtain⟨_,_,rfl⟩:=xbp.mp hx
   rfl
  have zero:(List.map (λ_=>Value.type "tuple") ((p0::rest).map λp=>Value.ref p.1)).toArray[0]?=some (Value.type "tuple"):=by simp
  rw[zero];simp only[all,ite_true];exact xbd (xbd hR)
theorem zbdh {B:Around}{sg:Shared}{ps:List (Addr×List Int)}(hu:B.units < cLine)(h2:2<=ps.length)(tup:TupsG sg.heap ps):Srt.Answers P w B (Srt.rank (ps.map (·.2))) (ps.map λp=>Value.ref p.1) sg:=by
 by_cases c:∃p∈ps,p.2=[]
 ·exact zbhc hu tup c
 ·refine zbhb h2 λi p hi=>?_
  have hp:=xcb hi;obtain⟨us,o,n,a1,a2,a3,a4⟩:=tup p hp;exact⟨us,o,n,a1,a2,a3,a4,λz=>c ⟨p,hp,z⟩⟩
end
theorem ziq (z:List (Addr×List Int)):Vals (z.map λp=>V.ref p.1) (z.map λp=>Value.ref p.1):=by
 induction z with
 | nil=>exact .nil
 | cons x z ih=>exact .cons rfl ih
section
end
end L2
namespace TS
open PySem PyProof.Rows
noncomputable def kA (R:Keyed->Nat) (xs:Array Keyed) (i:Nat):Nat:=match xs[i]? with
 | some p=>R p
 | none=>0
theorem zdv    (h:xs[i]?=ys[j]?):kA R xs i=kA R ys j:=by unfold kA;rw[h]
theorem zed     (h:xs[i]?=some x):kA R xs i=R x:=by unfold kA;rw[h]
def UpA (R:Keyed->Nat) (xs:Array Keyed) (a b:Nat):Prop:=∀i j,a<=i->i<=j->j < b->kA R xs i<=kA R xs j
def DnA (R:Keyed->Nat) (xs:Array Keyed) (a b:Nat):Prop:=∀i j,a<=i->i<=j->j < b->kA R xs j<=kA R xs i
section
noncomputable def Orc (prog:Program) (w:World) (A:Around) (s:Shared) (κ:SortKind) (a₀:Array Keyed) (R:Keyed->Nat):Prop :=
 ∀x,x∈a₀.toList->∀y,y∈a₀.toList->∀(C:Bool->Shared->Prop),C (decide (R x < R y)) s->wpAny (model prog w) A (keyLt' κ x.1 y.1) C (λ_ _=>False) s
structure B (κ:SortKind) (a₀:Array Keyed) (au:SortSt):Prop where
 perm:(arrOf au).Perm a₀
 kind:kindOf au=κ
 failed:failedOf au=none
section
variable {κ:SortKind}{a₀:Array Keyed}
theorem B.size {au:SortSt}(h:B κ a₀ au):(arrOf au).size=a₀.size:=h.perm.size_eq
theorem B.set {au:SortSt}(h:B κ a₀ au){xs:Array Keyed}(hp:xs.Perm (arrOf au)):B κ a₀ (setArr au xs):=⟨hp.trans h.perm,h.kind,h.failed⟩
theorem B.mem {au:SortSt}(h:B κ a₀ au){i:Nat}(hi:i < a₀.size):∃x,(arrOf au)[i]?=some x/\x∈a₀.toList:=by
 have hi':i < (arrOf au).size:=by rw[h.size];exact hi
 exact⟨_,getElem?_pos _ i hi',(xfm.mp h.perm).mem_iff.mp (by simp)⟩
end
section
variable {prog:Program}{w:World}{A:Around}{E:Value->Shared->Prop}{s:Shared}{κ:SortKind}{a₀:Array Keyed}{R:Keyed->Nat}
theorem w_lt {x y:Keyed}{au:SortSt}{Q:Option Bool->SortSt->Prop}(O:Orc prog w A s κ a₀ R)(hk:kindOf au=κ)(hx:x∈a₀.toList)(hy:y∈a₀.toList)(h:Q (some (decide (R x < R y))) au):wpS (model prog w) A E s (lt' x y) Q au:=by
 rw[lt'_eq];refine xbl (xir ?_);rw[hk];refine xbl (xlh (xka (xfe (O x hx y hy (λb s'=>s'=s/\b=decide (R x < R y)) ⟨rfl,rfl⟩) (λb s' hb=>?_) λ_ _ f=>f.elim)));obtain⟨rfl,rfl⟩:=hb;exact⟨rfl,xbn h⟩
end
section
variable {prog:Program}{w:World}{A:Around}{E:Value->Shared->Prop}{s:Shared}
theorem zmm {arr:Array Keyed}{i:Nat}{x:Keyed}{au:SortSt}{Q:Keyed->SortSt->Prop}(e:arr[i]?=some x)(h:Q x au):wpS (model prog w) A E s (elem' arr i) Q au:=by
 rw[elem'_eq,e];exact xbn h
end
section
variable {prog:Program}{w:World}{A:Around}{E:Value->Shared->Prop}{s:Shared}{κ:SortKind}{a₀:Array Keyed}{R:Keyed->Nat}
theorem zog {i j:Nat}{au:SortSt}{Q:Option Bool->SortSt->Prop}(O:Orc prog w A s κ a₀ R)(b:B κ a₀ au)(hi:i < a₀.size)(hj:j < a₀.size)(h:Q (some (decide (kA R (arrOf au) i < kA R (arrOf au) j))) au):wpS (model prog w) A E s (ltAt' i j) Q au:=by
 obtain⟨x,e1,m1⟩:=b.mem hi;obtain⟨y,e2,m2⟩:=b.mem hj;rw[zed e1,zed e2] at h;rw[ltAt'_eq];exact xbl (xir (xbl (zmm e1 (xbl (zmm e2 (w_lt O b.kind m1 m2 h))))))
end
section
variable {prog:Program}{w:World}{A:Around}{E:Value->Shared->Prop}{s:Shared}
theorem zxx {i j:Nat}{au:SortSt}{Q:Unit->SortSt->Prop}(h:Q () (setArr au (mirror (arrOf au) i j ((j - i) / 2)))):wpS (model prog w) A E s (reverseSlice' i j) Q au:=by
 rw[reverseSlice'_eq];exact xhg h
theorem zbnt {i j:Nat}{au:SortSt}{Q:Unit->SortSt->Prop}(h:Q () (setArr au (bubble (arrOf au) i (i - j)))):wpS (model prog w) A E s (moveDown' i j) Q au:=by
 rw[moveDown'_eq];exact xhg h
end
theorem zbhn {lo x n N:Nat}(h:x < n)(hn:lo+n<=N):lo+x < N:=xbk (xet h lo) hn
theorem zbhm {lo x n N:Nat}(h:x < n)(hn:lo+n<=N):lo+x - 1 < N:=xdf (xgw _ _) (zbhn h hn)
theorem zvq {lo n:Nat}(h:1<=n):lo+n - 1 < lo+n:=xiu (xbk h (xnk _ _)) Nat.one_pos
theorem zbnl {j lo n:Nat}(h:j < lo+(n+1))(e:¬j=lo+n):j < lo+n:=xdg (xct h) e
theorem zbkm  (c2:k < j):i<=i+j - 1 - k:=Nat.le_sub_of_add_le (xdl (xet c2 i))
theorem zbkn  (c1:i<=k)(c2:k < j):i+j - 1 - k < j:=xdf (xgz c1 _) (by rw[Nat.sub_right_comm,xdc];exact xiu (xkv c2) Nat.one_pos)
theorem zlu {xs:Array Keyed}  (hj:j<=xs.size)(k:Nat):kA R (mirror xs i j ((j - i) / 2)) k=if i<=k/\k < j then kA R xs (i+j - 1 - k) else kA R xs k:=by
 have e:=getElem?_mirror_all (i:=i) hj k;split
 ·rename_i c;rw[if_pos c] at e;exact zdv e
 ·rename_i c;rw[if_neg c] at e;exact zdv e
noncomputable def Out (xs ys:Array Keyed) (a b:Nat):Prop:=∀k,k < a\/b<=k->xs[k]?=ys[k]?
theorem Out.refl (xs:Array Keyed)(a b:Nat):Out xs xs a b:=λ_ _=>rfl
theorem Out.trans   (h1:Out xs ys a b)(h2:Out ys zs a b):Out xs zs a b:=λk hk=>(h1 k hk).trans (h2 k hk)
theorem Out.mirror {xs:Array Keyed}  (hj:j<=xs.size)(hi:a<=i)(hb:j<=b):Out (mirror xs i j ((j - i) / 2)) xs a b:=λk hk=>by
 rw[getElem?_mirror_all (i:=i) hj k,if_neg λz=>hk.elim (λh=>xfc (xbc hi z.1) h) λh=>xfc (xbc hb h) z.2]
theorem Out.bubble {xs:Array Keyed}  (hs:src < xs.size)(hd:d<=src)(ha:a<=src - d)(hb:src < b):Out (bubble xs src d) xs a b:=λk hk=>by
 rw[getElem?_bubble hs d hd k,if_neg λz=>hk.elim (λh=>xfc (xbc ha (xdi z.symm)) h) λh=>xfc h (xdf (xbc (xdi z) (xgw _ _)) hb),if_neg λz=>hk.elim (λh=>xfc (xbc ha (xca z.1)) h) λh=>xfc h (xdf z.2 hb)]
structure Sm (au st':SortSt) (a b:Nat):Prop where
 out:Out (arrOf st') (arrOf au) a b
 pend:pendingOf st'=pendingOf au
section
variable {prog:Program}{w:World}{A:Around}{E:Value->Shared->Prop}{s:Shared}{κ:SortKind}{a₀:Array Keyed}{R:Keyed->Nat}
theorem zbhz {lo a nrem:Nat}{au:SortSt}{Q:Option (Option Nat)×Nat->SortSt->Prop}(O:Orc prog w A s κ a₀ R)(b:B κ a₀ au)(hn:lo+nrem<=a₀.size)(ha:1<=a)(han:a<=nrem)(hs:UpA R (arrOf au) lo (lo+a))
  (h:∀n,a<=n->n<=nrem->UpA R (arrOf au) lo (lo+n)->(n=nrem\/kA R (arrOf au) (lo+n) < kA R (arrOf au) (lo+n - 1))->Q (none,n) au) :
  wpS (model prog w) A E s (forIn [a:nrem] ((none,a):Option (Option Nat)×Nat) λ_ r=>do
   let x ← ltAt' (lo+r.2) (lo+r.2 - 1)
   match x with
   | some smaller=>if smaller=true then pure (ForInStep.done (none,r.2)) else pure (ForInStep.yield (none,r.2+1))
   | _=>pure (ForInStep.done (some none,r.2))) Q au:=by
 refine xdx (I:=λx c st'=>st'=au/\c=(none,x)/\UpA R (arrOf au) lo (lo+x)) ?_ ?_ ⟨rfl,rfl,hs⟩
 ·rintro x c st' h1 h2 ⟨rfl,rfl,h3⟩;dsimp only;refine xbl (zog O b (zbhn h2 hn) (zbhm h2 hn) ?_);by_cases c:kA R (arrOf st') (lo+x) < kA R (arrOf st') (lo+x - 1)
  ·simp only[c,xgm,xeu];exact xbn (h x h1 (xca h2) h3 (.inr c))
  ·simp only[c,xfz,xco,xec];refine xbn ⟨rfl,rfl,λi j hi hij hj=>?_⟩;by_cases e:j=lo+x
   ·subst e;by_cases e2:i=lo+x
    ·rw[e2];exact xbg _
    ·exact xbc (h3 i (lo+x - 1) hi (xdl (xdg hij e2)) (zvq (xbc ha h1))) (xcj c)
   ·exact h3 i j hi hij (zbnl hj e)
 ·rintro c st' ⟨rfl,rfl,h3⟩;rw[xnd han] at h3 ⊢;exact h nrem han (xbg _) h3 (.inl rfl)
end
theorem zjh {xs:Array Keyed}{i j:Nat}(hj:j<=xs.size)(he:∀k,i<=k->k < j->kA R xs k=kA R xs (j - 1))(k:Nat):kA R (mirror xs i j ((j - i) / 2)) k=kA R xs k:=by
 rw[zlu hj];split
 ·rename_i c;rw[he _ (zbkm c.2) (zbkn c.1 c.2),he k c.1 c.2]
 ·rfl
structure Fl (κ:SortKind) (a₀:Array Keyed) (R:Keyed->Nat) (st₀ au:SortSt) (lo n neq b:Nat):Prop where
 base:B κ a₀ au
 same:Sm st₀ au lo b
 dn:DnA R (arrOf au) lo (lo+n)
 hq:neq+1<=n
 eqs:∀i,lo+n - (neq+1)<=i->i < lo+n->kA R (arrOf au) i=kA R (arrOf au) (lo+n - 1)
section
variable {κ:SortKind}{a₀:Array Keyed}{R:Keyed->Nat}
theorem Fl.turn {st₀ au:SortSt}{lo n neq b:Nat}(h:Fl κ a₀ R st₀ au lo n neq b)(hb:lo+n<=b)(hs:b<=a₀.size) :
  Fl κ a₀ R st₀ (setArr au (mirror (arrOf au) (lo+n - (neq+1)) (lo+n) ((lo+n - (lo+n - (neq+1))) / 2))) lo n neq b/\∀k,kA R (mirror (arrOf au) (lo+n - (neq+1)) (lo+n) ((lo+n - (lo+n - (neq+1))) / 2)) k=kA R (arrOf au) k:=by
 have hz:=h.base.size;have hq:=h.hq;have hle:lo+n<=(arrOf au).size:=by rw[hz];exact xbc hb hs
 have e:=zjh (R:=R) (xs:=arrOf au) (i:=lo+n - (neq+1)) (j:=lo+n) hle h.eqs;refine⟨⟨h.base.set (mirror_perm _ _ _ _),⟨(Out.mirror hle (Nat.le_sub_of_add_le (xcn hq lo)) hb).trans h.same.out,h.same.pend⟩,λi j a1 a2 a3=>?_,h.hq,λi a1 a2=>?_⟩,e⟩
 ·show kA R (mirror _ _ _ _) j<=kA R (mirror _ _ _ _) i;rw[e,e];exact h.dn i j a1 a2 a3
 ·show kA R (mirror _ _ _ _) i=kA R (mirror _ _ _ _) _;rw[e,e];exact h.eqs i a1 a2
theorem Fl.less {st₀ au:SortSt}{lo n neq b:Nat}(h:Fl κ a₀ R st₀ au lo n neq b)(c:kA R (arrOf au) (lo+n)<=kA R (arrOf au) (lo+n - 1)):DnA R (arrOf au) lo (lo+(n+1)):=λi j a1 a2 a3=>by
 have hq:=h.hq;by_cases e:j=lo+n
 ·subst e;by_cases e2:i=lo+n
  ·rw[e2];exact xbg _
  ·exact xbc c (h.dn i (lo+n - 1) a1 (xdl (xdg a2 e2)) (zvq (xbc (xnk 1 neq) hq)))
 ·exact h.dn i j a1 a2 (zbnl a3 e)
theorem Fl.fresh {st₀ au:SortSt}{lo n neq b:Nat}(h:Fl κ a₀ R st₀ au lo n neq b)(c:kA R (arrOf au) (lo+n)<=kA R (arrOf au) (lo+n - 1)):Fl κ a₀ R st₀ au lo (n+1) 0 b:=⟨h.base,h.same,h.less c,xfi (xdu _),λi g1 g2=>by
 have:i=lo+(n+1) - 1:=xee (xct g2) g1
 rw[this]⟩
theorem Fl.more {st₀ au:SortSt}{lo n neq b:Nat}(h:Fl κ a₀ R st₀ au lo n neq b)(c:kA R (arrOf au) (lo+n)=kA R (arrOf au) (lo+n - 1)):Fl κ a₀ R st₀ au lo (n+1) (neq+1) b:=by
 have hq:=h.hq;refine⟨h.base,h.same,h.less (xdi c),xfi hq,λi g1 g2=>?_⟩;rw[show lo+(n+1) - 1=lo+n from rfl];by_cases e:i=lo+n
 ·rw[e]
 ·rw[c];exact h.eqs i (xbc (xdi (Nat.succ_sub_succ (lo+n) (neq+1)).symm) g1) (zbnl g2 e)
end
section
variable {prog:Program}{w:World}{A:Around}{E:Value->Shared->Prop}{s:Shared}{κ:SortKind}{a₀:Array Keyed}{R:Keyed->Nat}
theorem zbhy {lo nrem:Nat}{au:SortSt}{Q:Option Nat->SortSt->Prop}(O:Orc prog w A s κ a₀ R)(b:B κ a₀ au)(hn:lo+nrem<=a₀.size)(h1:1<=nrem)
  (h:∀m st',1<=m->m<=nrem->B κ a₀ st'->Sm au st' lo (lo+nrem)->UpA R (arrOf st') lo (lo+m)->Q (some m) st'):wpS (model prog w) A E s (countRun' lo nrem) Q au:=by
 have sm0:Sm au au lo (lo+nrem):=⟨Out.refl _ _ _,rfl⟩
 have one:∀xs:Array Keyed,UpA R xs lo (lo+1):=λxs i j a1 a2 a3=>by
  have:i=j:=xee a2 (xbc (xct a3) a1);subst this;exact xbg _
 have oneD:∀xs:Array Keyed,DnA R xs lo (lo+1):=λxs i j a1 a2 a3=>by
  have:i=j:=xee a2 (xbc (xct a3) a1);subst this;exact xbg _
 rw[countRun'_eq];dsimp only;refine xbl (zbhz O b hn (xbg _) h1 (one _) λn n1 n2 hu hlast=>?_);dsimp only;split
 ·exact xbn (h n au n1 n2 b sm0 hu)
 rename_i hne;have hne':n≠nrem:=λz=>hne (by simp[z])
 have hlt:n < nrem:=xdg n2 hne';have hl:kA R (arrOf au) (lo+n) < kA R (arrOf au) (lo+n - 1):=by
  rcases hlast with z | z
  ·exact absurd z hne'
  ·exact z
 have hz:=b.size;have fin:∀(n:Nat) (st1:SortSt),B κ a₀ st1->Sm au st1 lo (lo+nrem)->1<=n->n<=nrem->DnA R (arrOf st1) lo (lo+n) ->
   B κ a₀ (setArr st1 (mirror (arrOf st1) lo (lo+n) ((lo+n - lo) / 2)))/\Sm au (setArr st1 (mirror (arrOf st1) lo (lo+n) ((lo+n - lo) / 2))) lo (lo+nrem)/\UpA R (mirror (arrOf st1) lo (lo+n) ((lo+n - lo) / 2)) lo (lo+n):=λn st1 b1 sm1 m1 m2 dn1=>by
  have hz:=b1.size;have hm:=xcn m2 lo;have hle:lo+n<=(arrOf st1).size:=by rw[hz];exact xbc hm hn
  refine⟨b1.set (mirror_perm _ _ _ _),⟨(Out.mirror hle (xbg _) hm).trans sm1.out,sm1.pend⟩,λi j a1 a2 a3=>?_⟩;have hi:=xdf a2 a3;rw[zlu hle,zlu hle,if_pos ⟨a1,hi⟩,if_pos ⟨xbc a1 a2,a3⟩];exact dn1 _ _ (zbkm a3) (xgz a2 _) (zbkn a1 hi)
 have eqs:¬ kA R (arrOf au) lo < kA R (arrOf au) (lo+n - 1)->∀k,lo<=k->k < lo+n->kA R (arrOf au) k=kA R (arrOf au) (lo+n - 1):=λc k k1 k2=>by
  have g1:=hu lo k (xbg _) k1 k2;have g2:=hu k (lo+n - 1) k1 (xdl k2) (zvq n1);exact xee g2 (xbc (xcj c) g1)
 have dnx:∀xs:Array Keyed,(∀k,kA R xs k=kA R (arrOf au) k)->¬ kA R (arrOf au) lo < kA R (arrOf au) (lo+n - 1)->DnA R xs lo (lo+(n+1)):=λxs e c i j a1 a2 a3=>by
  rw[e,e];by_cases e2:j=lo+n
  ·subst e2;by_cases e3:i=lo+n
   ·rw[e3];exact xbg _
   ·rw[eqs c i a1 (xdg a2 e3)];exact xca hl
  ·have jn:=zbnl a3 e2;rw[eqs c i a1 (xdf a2 jn),eqs c j (xbc a1 a2) jn];exact xbg _
 split
 ·have hle:lo+n<=(arrOf au).size:=by rw[hz];exact xbc (xcn n2 lo) hn
  refine xbl (zog O b (xbk (xio h1) hn) (zbhm hlt hn) ?_);by_cases c:kA R (arrOf au) lo < kA R (arrOf au) (lo+n - 1)
  ·simp only[c,xgm,xeu];exact xbn (h n au n1 n2 b sm0 hu)
  ·simp only[c,xfz,xco,xec];refine xbl (zxx ?_);have b1:B κ a₀ (setArr au (mirror (arrOf au) lo (lo+n) ((lo+n - lo) / 2))):=b.set (mirror_perm _ _ _ _);have sm1:Sm au (setArr au (mirror (arrOf au) lo (lo+n) ((lo+n - lo) / 2))) lo (lo+nrem):=⟨Out.mirror hle (xbg _) (xcn n2 lo),rfl⟩
   have dn1:DnA R (arrOf (setArr au (mirror (arrOf au) lo (lo+n) ((lo+n - lo) / 2)))) lo (lo+(n+1)):=dnx _ (zjh hle (eqs c)) c;generalize (setArr au (mirror (arrOf au) lo (lo+n) ((lo+n - lo) / 2)))=st1 at b1 sm1 dn1 ⊢;refine xbl (xlh (xhh ⟨rfl,?_⟩));refine xbl (xga (xdx (I:=λx c st'=>∃neq,c=(none,x,neq)/\Fl κ a₀ R au st' lo x neq (lo+nrem)) (Q:=λc st'=>∃m neq,c=(none,m,neq)/\n+1<=m/\m<=nrem/\Fl κ a₀ R au st' lo m neq (lo+nrem)) ?_ ?_ ?_) ?_)
   ·rintro x c st' a1 a2 ⟨neq,rfl,f⟩;dsimp only;refine xbl (zog O f.base (zbhn a2 hn) (zbhm a2 hn) ?_);by_cases c:kA R (arrOf st') (lo+x) < kA R (arrOf st') (lo+x - 1)
    ·simp only[c,xgm,xeu];split
     ·obtain⟨f2,e⟩:=f.turn (xcn (xca a2) lo) hn;refine xbl (zxx (xbn ⟨0,rfl,f2.fresh ?_⟩));refine xca (?_:kA R (mirror _ _ _ _) _ < kA R (mirror _ _ _ _) _);rw[e,e];exact c
     ·exact xbn ⟨0,rfl,f.fresh (xca c)⟩
    ·simp only[c,xfz,xco,xec];refine xbl (zog O f.base (zbhm a2 hn) (zbhn a2 hn) ?_);by_cases c2:kA R (arrOf st') (lo+x - 1) < kA R (arrOf st') (lo+x)
     ·simp only[c2,xgm,xeu];exact xbn ⟨x,neq,rfl,a1,xca a2,f⟩
     ·simp only[c2,xfz,xco,xec];exact xbn ⟨neq+1,rfl,f.more (xee (xcj c2) (xcj c))⟩
   ·rintro c st' ⟨neq,rfl,f⟩;rw[xnd hlt] at f ⊢;exact⟨nrem,neq,rfl,hlt,xbg _,f⟩
   ·exact⟨0,rfl,b1,sm1,dn1,xfi (xdu _),λi g1 g2=>by
     have:i=lo+(n+1) - 1:=xee (xct g2) g1
     rw[this]⟩
   ·rintro c st' ⟨m,neq,rfl,a1,a2,f⟩;dsimp only;split
    ·obtain⟨f2,e⟩:=f.turn (xcn a2 lo) hn;refine xbl (zxx (xbl (zxx ?_)));obtain⟨b3,s3,u3⟩:=fin m _ f2.base f2.same (xdp a1) a2 f2.dn;exact xbl (zbhz O b3 hn (xdp a1) a2 u3 λm' m1 m2 hu' _=>xbn (h m' _ (xbc (xdp a1) m1) m2 b3 s3 hu'))
    ·refine xbl (zxx ?_);obtain⟨b3,s3,u3⟩:=fin m _ f.base f.same (xdp a1) a2 f.dn;exact xbl (zbhz O b3 hn (xdp a1) a2 u3 λm' m1 m2 hu' _=>xbn (h m' _ (xbc (xdp a1) m1) m2 b3 s3 hu'))
 ·rename_i hn1;have b1:=b;have sm1:=sm0
  have dn1:DnA R (arrOf au) lo (lo+(n+1)):=dnx _ (λ_=>rfl) (by
   have:n=1:=xee (xcj hn1) n1;subst this
   simp)
  refine xbl (xlh (xhh ⟨rfl,?_⟩));refine xbl (xga (xdx (I:=λx c st'=>∃neq,c=(none,x,neq)/\Fl κ a₀ R au st' lo x neq (lo+nrem)) (Q:=λc st'=>∃m neq,c=(none,m,neq)/\n+1<=m/\m<=nrem/\Fl κ a₀ R au st' lo m neq (lo+nrem)) ?_ ?_ ?_) ?_)
  ·rintro x c st' a1 a2 ⟨neq,rfl,f⟩;dsimp only;refine xbl (zog O f.base (zbhn a2 hn) (zbhm a2 hn) ?_);by_cases c:kA R (arrOf st') (lo+x) < kA R (arrOf st') (lo+x - 1)
   ·simp only[c,xgm,xeu];split
    ·obtain⟨f2,e⟩:=f.turn (xcn (xca a2) lo) hn;refine xbl (zxx (xbn ⟨0,rfl,f2.fresh ?_⟩));refine xca (?_:kA R (mirror _ _ _ _) _ < kA R (mirror _ _ _ _) _);rw[e,e];exact c
    ·exact xbn ⟨0,rfl,f.fresh (xca c)⟩
   ·simp only[c,xfz,xco,xec];refine xbl (zog O f.base (zbhm a2 hn) (zbhn a2 hn) ?_);by_cases c2:kA R (arrOf st') (lo+x - 1) < kA R (arrOf st') (lo+x)
    ·simp only[c2,xgm,xeu];exact xbn ⟨x,neq,rfl,a1,xca a2,f⟩
    ·simp only[c2,xfz,xco,xec];exact xbn ⟨neq+1,rfl,f.more (xee (xcj c2) (xcj c))⟩
  ·rintro c st' ⟨neq,rfl,f⟩;rw[xnd hlt] at f ⊢;exact⟨nrem,neq,rfl,hlt,xbg _,f⟩
  ·exact⟨0,rfl,b1,sm1,dn1,xfi (xdu _),λi g1 g2=>by
    have:i=lo+(n+1) - 1:=xee (xct g2) g1
    rw[this]⟩
  ·rintro c st' ⟨m,neq,rfl,a1,a2,f⟩;dsimp only;split
   ·obtain⟨f2,e⟩:=f.turn (xcn a2 lo) hn;refine xbl (zxx (xbl (zxx ?_)));obtain⟨b3,s3,u3⟩:=fin m _ f2.base f2.same (xdp a1) a2 f2.dn;exact xbl (zbhz O b3 hn (xdp a1) a2 u3 λm' m1 m2 hu' _=>xbn (h m' _ (xbc (xdp a1) m1) m2 b3 s3 hu'))
   ·refine xbl (zxx ?_);obtain⟨b3,s3,u3⟩:=fin m _ f.base f.same (xdp a1) a2 f.dn;exact xbl (zbhz O b3 hn (xdp a1) a2 u3 λm' m1 m2 hu' _=>xbn (h m' _ (xbc (xdp a1) m1) m2 b3 s3 hu'))
end
end
section
theorem zqt {xs:Array Keyed}  (hs:src < xs.size)(hd:d<=src)(k:Nat):kA R (bubble xs src d) k=if k=src - d then kA R xs src else if src - d < k/\k<=src then kA R xs (k - 1) else kA R xs k:=by
 have e:=getElem?_bubble hs d hd k;split
 ·rename_i c;rw[if_pos c] at e;exact zdv e
 ·rename_i c;rw[if_neg c] at e;split
  ·rename_i c2;rw[if_pos c2] at e;exact zdv e
  ·rename_i c2;rw[if_neg c2] at e;exact zdv e
theorem zlr  (h1:a<=b)(h:b - a<=n - max 0 n):b=a:=by
 rw[Nat.zero_max,xki] at h;exact xee (Nat.le_of_sub_eq_zero (Nat.le_zero.mp h)) h1
theorem zbqo  (h:¬l ≥ r):l<=(l+r) / 2:=(Nat.le_div_iff_mul_le xnn).mpr (by rw[Nat.mul_two];exact xcn (xca (xgo h)) l)
theorem zbnm  (h:¬l ≥ r):(l+r) / 2 < r:=(Nat.div_lt_iff_lt_mul xnn).mpr (by rw[Nat.mul_two];exact Nat.add_lt_add_right (xgo h) r)
theorem hf_l  (h:¬l ≥ r)(g:r - l<=k - x):(l+r) / 2 - l<=k - (x+1):=xbc (xdl (xey (zbqo h) (zbnm h))) (xgd g 1)
theorem hf_r  (h:¬l ≥ r)(g:r - l<=k - x):r - ((l+r) / 2+1)<=k - (x+1):=xbc (xgz (xfi (zbqo h)) r) (xgd g 1)
theorem zbej  (h:p < j)(h2:j<=q):j - 1 < q:=xbk (xiu (xkv h) Nat.one_pos) h2
section
variable {prog:Program}{w:World}{A:Around}{E:Value->Shared->Prop}{s:Shared}{κ:SortKind}{a₀:Array Keyed}{R:Keyed->Nat}
theorem zbtq {lo n ok:Nat}{au:SortSt}{Q:Bool->SortSt->Prop}(O:Orc prog w A s κ a₀ R)(b:B κ a₀ au)(hn:lo+n<=a₀.size)(h1:1<=ok)(h2:ok<=n)(up:UpA R (arrOf au) lo (lo+ok))
  (h:∀st',B κ a₀ st'->Sm au st' lo (lo+n)->UpA R (arrOf st') lo (lo+n)->Q true st'):wpS (model prog w) A E s (binarySort' lo n ok) Q au:=by
 rw[binarySort'_eq]
 refine xbl (xga (xdx (I:=λk c st'=>c=(none,())/\B κ a₀ st'/\Sm au st' lo (lo+n)/\UpA R (arrOf st') lo (lo+min k n))
  (Q:=λc st'=>c=(none,())/\B κ a₀ st'/\Sm au st' lo (lo+n)/\UpA R (arrOf st') lo (lo+n)) ?_ ?_ ?_) ?_)
 ·rintro k c st' k1 k2 ⟨rfl,b1,sm1,up1⟩;rw[xez (xca k2)] at up1;have hz:=b1.size;have hk:lo+k < a₀.size:=xbk (xet k2 lo) hn
  refine xbl (xga (xdx (I:=λx c st2=>st2=st'/\∃l r,c=(none,l,r)/\l<=r/\r<=k/\r - l<=k - x/\(∀i,i < l->kA R (arrOf st') (lo+i)<=kA R (arrOf st') (lo+k))/\(∀i,r<=i->i < k->kA R (arrOf st') (lo+k)<=kA R (arrOf st') (lo+i)))
   (Q:=λc st2=>st2=st'/\∃l r,c=(none,l,r)/\l<=k/\(∀i,i < l->kA R (arrOf st') (lo+i)<=kA R (arrOf st') (lo+k))/\(∀i,l<=i->i < k->kA R (arrOf st') (lo+k)<=kA R (arrOf st') (lo+i))) ?_ ?_ ?_) ?_)
  ·rintro x c st2 x1 x2 ⟨rfl,l,r,rfl,g1,g2,g3,g4,g5⟩;dsimp only;by_cases hge:l ≥ r
   ·rw[if_pos hge];have e:l=r:=xee g1 hge;subst e;exact xbn ⟨rfl,l,l,rfl,g2,g4,g5⟩
   ·have hm:lo+(l+r) / 2 < lo+k:=xet (xbk (zbnm hge) g2) lo;rw[if_neg hge];refine xbl (zog O b1 hk (xjn hm hk) ?_);by_cases c:kA R (arrOf st2) (lo+k) < kA R (arrOf st2) (lo+(l+r) / 2)
    ·simp only[c,xgm,xeu];exact xbn ⟨rfl,l,(l+r) / 2,rfl,zbqo hge,xbc (xca (zbnm hge)) g2,hf_l hge g3,g4,λi a1 a2=>xbc (xca c) (up1 _ _ (xcf _ _) (xcn a1 lo) (xet a2 lo))⟩
    ·simp only[c,xfz,xco,xec];exact xbn ⟨rfl,(l+r) / 2+1,r,rfl,zbnm hge,g2,hf_r hge g3,λi a1=>xbc (up1 (lo+i) (lo+(l+r) / 2) (xcf _ _) (xcn (xct a1) lo) hm) (xcj c),g5⟩
  ·rintro c st2 ⟨rfl,l,r,rfl,g1,g2,g3,g4,g5⟩;have e:=zlr g1 g3;subst e;exact⟨rfl,_,_,rfl,g2,g4,g5⟩
  ·exact⟨rfl,0,k,rfl,xdu _,xbg _,xbg _,λi hi=>absurd hi (Nat.not_lt_zero _),λi a1 a2=>absurd a2 (xfc a1)⟩
  ·rintro c st2 ⟨rfl,l,r,rfl,g1,g2,g3⟩;dsimp only;have hd:lo+k - (lo+k - (lo+l))=lo+l:=Nat.sub_sub_self (xcn g1 lo);have hs:lo+k < (arrOf st2).size:=by rw[hz];exact hk
   refine xbl (zbnt (xbn ⟨rfl,b1.set (bubble_perm _ _ _),⟨(Out.bubble hs (xgw _ _) (by rw[hd];exact xcf _ _) (xet k2 lo)).trans sm1.out,sm1.pend⟩,λi j a1 a2 a3=>?_⟩));show kA R (bubble (arrOf st2) (lo+k) (lo+k - (lo+l))) i<=kA R (bubble (arrOf st2) (lo+k) (lo+k - (lo+l))) j;rw[zqt hs (xgw _ _),zqt hs (xgw _ _),hd];rw[xez k2] at a3;have hj:j<=lo+k:=xct a3;have low:∀q,lo<=q->q < lo+l->kA R (arrOf st2) q<=kA R (arrOf st2) (lo+k):=λq q1 q2=>by
    have:=g2 (q - lo) (xdz q1 q2);rw[xcl q1] at this;exact this
   have hig:∀q,lo+l<=q->q < lo+k->kA R (arrOf st2) (lo+k)<=kA R (arrOf st2) q:=λq q1 q2=>by
    have q0:=xbc (xcf _ _) q1;have:=g3 (q - lo) (xff q1) (xdz q0 q2);rw[xcl q0] at this;exact this
   by_cases i1:i=lo+l
   ·rw[if_pos i1];by_cases j1:j=lo+l
    ·rw[if_pos j1];exact xbg _
    ·have jj:=xdg (i1 ▸ a2) (xcx j1);rw[if_neg j1,if_pos ⟨jj,hj⟩];exact hig _ (xdl jj) (zbej jj hj)
   ·rw[if_neg i1];by_cases i2:lo+l < i/\i<=lo+k
    ·have jj:=xbk i2.1 a2;rw[if_pos i2,if_neg (xhi jj),if_pos ⟨jj,hj⟩];exact up1 _ _ (xbc (xcf lo l) (xdl i2.1)) (xgd a2 1) (zbej jj hj)
    ·have il:i < lo+l:=xdg (xcj λz=>i2 ⟨z,xbc a2 hj⟩) i1;rw[if_neg i2];by_cases j1:j=lo+l
     ·rw[if_pos j1];exact low i a1 il
     ·rw[if_neg j1];by_cases j2:lo+l < j/\j<=lo+k
      ·rw[if_pos j2];exact up1 _ _ a1 (xdl (xjn il j2.1)) (zbej j2.1 hj)
      ·rw[if_neg j2];exact up1 _ _ a1 a2 (xbk (xdg (xcj λz=>j2 ⟨z,hj⟩) j1) (xcn g1 lo))
 ·rintro c st' ⟨rfl,b1,sm1,up1⟩;rw[xjq (Nat.le_max_right _ _)] at up1;exact⟨rfl,b1,sm1,up1⟩
 ·refine⟨rfl,b,⟨Out.refl _ _ _,rfl⟩,λi j a1 a2 a3=>up i j a1 a2 (xbk a3 (xcn (xbc (xho _ _) (xdi (Nat.max_eq_left h1))) lo))⟩
 ·rintro c st' ⟨rfl,b1,sm1,up1⟩;exact xbn (h st' b1 sm1 up1)
end
noncomputable def gallop':Bool->Keyed->Array Keyed->Nat->Nat->Nat->StateT SortSt Sem (Option Nat):=sortPriv% PySem.Builtin.gallop
def Cut (left:Bool) (R:Keyed->Nat) (key:Keyed) (arr:Array Keyed) (base n h:Nat):Prop:=h<=n/\(∀i,i < h->if left then kA R arr (base+i) < R key else kA R arr (base+i)<=R key)/\(∀i,h<=i->i < n->if left then R key<=kA R arr (base+i) else R key < kA R arr (base+i))
def ahead (left:Bool) (R:Keyed->Nat) (key:Keyed) (arr:Array Keyed) (base i:Nat):Bool:=if left then decide (kA R arr (base+i) < R key) else decide (kA R arr (base+i)<=R key)
section
variable {prog:Program}{w:World}{A:Around}{E:Value->Shared->Prop}{s:Shared}{κ:SortKind}{a₀:Array Keyed}{R:Keyed->Nat}
theorem zmn {left:Bool}{key:Keyed}{arr:Array Keyed}{base i:Nat}{au:SortSt}{Q:Option Bool->SortSt->Prop}(O:Orc prog w A s κ a₀ R)(hk:kindOf au=κ)(mk:key∈a₀.toList)(ma:∃x,arr[base+i]?=some x/\x∈a₀.toList)(h:Q (some (ahead left R key arr base i)) au) :
  wpS (model prog w) A E s (do
   let x ← elem' arr (base+i)
   if left=true then lt' x key else do
    let y ← lt' key x
    pure (Option.map (λx=>!x) y)) Q au:=by
 obtain⟨x,e,m⟩:=ma;refine xbl (zmm e ?_);unfold ahead at h;rw[zed e] at h;cases left with
 | true =>
  rw[if_pos rfl] at h ⊢;exact w_lt O hk m mk h
 | false =>
  rw[if_neg (by decide)] at h ⊢;refine xbl (w_lt O hk mk m (xbn ?_));have q:(!decide (R key < R x))=decide (R x<=R key):=by
   by_cases c:R key < R x
   ·rw[xbw c,xbz (Nat.not_le_of_lt c)];rfl
   ·rw[xbz c,xbw (xcj c)];rfl
  show Q (some (!decide (R key < R x))) au;rw[q];exact h
end
theorem zxg     (up:UpA R arr base (base+n))(hij:i<=j)(hj:j < n)(h:ahead left R key arr base j=true):ahead left R key arr base i=true:=by
 have:=up (base+i) (base+j) (xcf _ _) (xcn hij _) (xet hj _);unfold ahead at h ⊢;cases left with
 | true=>rw[if_pos rfl] at h ⊢;exact xbw (xdf this (xcr h))
 | false=>rw[if_neg (by decide)] at h ⊢;exact xbw (xbc this (xcr h))
theorem zbmj     (h0:h<=n)(h1:∀i,i < h->ahead left R key arr base i=true)(h2:∀i,h<=i->i < n->ahead left R key arr base i=false):Cut left R key arr base n h:=by
 refine⟨h0,λi hi=>?_,λi a1 a2=>?_⟩
 ·have:=h1 i hi;unfold ahead at this;cases left with
  | true=>rw[if_pos rfl] at this ⊢;exact xcr this
  | false=>rw[if_neg (by decide)] at this ⊢;exact xcr this
 ·have:=h2 i a1 a2;unfold ahead at this;cases left with
  | true=>rw[if_pos rfl] at this ⊢;exact xcj (xmn this)
  | false=>rw[if_neg (by decide)] at this ⊢;exact xgo (xmn this)
theorem zbck  (c:¬a ≥ b):(b - a) / 2 < b - a:=Nat.div_lt_self (xgg (xgo c)) (xbg 2)
theorem zbpx  (c:¬a ≥ b):a+(b - a) / 2 < b:=xef (zbck c)
theorem zbhi  (c:¬a ≥ b)(h:b<=n):a+(b - a) / 2 < n:=xbk (zbpx c) h
theorem zbkp  (h:b - a<=n - x):b - (a+(b - a) / 2+1)<=n - (x+1):=xbc (xgz (xfi (xcf a _)) b) (xgd h 1)
theorem zbko  (c:¬a ≥ b)(h:b - a<=n - x):a+(b - a) / 2 - a<=n - (x+1):=by
 rw[xdc];exact xbc (xdl (zbck c)) (xgd h 1)
theorem zblz (o:Nat):o < 2 * o+1:=xms (xlc o xnn)
theorem zbma  (h:x+1<=o):x+1+1<=2 * o+1:=xfi (xbc h (xlc o xnn))
theorem zbii {a b n:Nat}(h:a+b < n):b < n - a:=Nat.lt_sub_of_add_lt (Nat.add_comm a b ▸ h)
inductive GI (f:Nat->Bool) (n:Nat) (au:SortSt) (x:Nat):Option (Option Nat)×Nat×Nat->SortSt->Prop where
 | mk {a b:Nat} (q1:a<=b) (q2:b<=n) (q3:b - a<=n - x) (q4:∀i,i < a->f i=true) (q5:∀i,b<=i->i < n->f i=false):GI f n au x (none,a,b) au
inductive GE (f:Nat->Bool) (n:Nat) (au:SortSt):Option (Option Nat)×Nat×Nat->SortSt->Prop where
 | mk {b:Nat} (q2:b<=n) (q4:∀i,i < b->f i=true) (q5:∀i,b<=i->i < n->f i=false):GE f n au (none,b,b) au
inductive GU (f:Nat->Bool) (n hint:Nat) (P:Nat->Prop) (au:SortSt):Option (Option Nat)×Nat×Nat->SortSt->Prop where
 | mk {l o:Nat} (g1:l < o) (g2:hint+l < n) (g3:f (hint+l)=true) (g4:P o):GU f n hint P au (none,l,o) au
inductive GD (f:Nat->Bool) (hint:Nat) (P:Nat->Prop) (au:SortSt):Option (Option Nat)×Nat×Nat->SortSt->Prop where
 | mk {l o:Nat} (g1:l < o) (g2:l<=hint) (g3:f (hint - l)=false) (g4:P o):GD f hint P au (none,l,o) au
section
variable {prog:Program}{w:World}{A:Around}{E:Value->Shared->Prop}{s:Shared}{κ:SortKind}{a₀:Array Keyed}{R:Keyed->Nat}
theorem zgt {left:Bool}{key:Keyed}{arr:Array Keyed}{base n hint:Nat}{au:SortSt}{Q:Option Nat->SortSt->Prop}(O:Orc prog w A s κ a₀ R)(hk:kindOf au=κ)(mk:key∈a₀.toList)(ma:∀i,i < n->∃x,arr[base+i]?=some x/\x∈a₀.toList)(hh:hint < n)
  (up:UpA R arr base (base+n))(h:∀k,Cut left R key arr base n k->Q (some k) au):wpS (model prog w) A E s (gallop' left key arr base n hint) Q au:=by
 have mono:∀i j,i<=j->j < n->ahead left R key arr base j=true->ahead left R key arr base i=true:=λi j a1 a2=>zxg up a1 a2
 have monoF:∀i j,i<=j->j < n->ahead left R key arr base i=false->ahead left R key arr base j=false:=λi j a1 a2 e=>by
  cases c:ahead left R key arr base j with
  | false=>rfl
  | true=>rw[mono i j a1 a2 c] at e;cases e
 refine xbl (zmn O hk mk (ma hint hh) ?_);dsimp only;cases hr:ahead left R key arr base hint with
 | true =>
  rw[if_pos rfl];refine xbl (xga (xdx (I:=λx=>GU (ahead left R key arr base) n hint (x+1<=·) au) (Q:=GU (ahead left R key arr base) n hint (λo=>n - hint<=o\/(hint+o < n/\ahead left R key arr base (hint+o)=false)) au) ?_ ?_ ?_) ?_)
  ·rintro x c st' x1 x2 @⟨l,o,g1,g2,g3,g4⟩;dsimp only;by_cases c:o ≥ n - hint
   ·rw[if_pos c];exact xbn (.mk g1 g2 g3 (.inl c))
   ·have c3:hint+o < n:=xef (xgo c);rw[if_neg c];refine xbl (zmn O hk mk (ma (hint+o) c3) ?_);dsimp only;cases c2:ahead left R key arr base (hint+o) with
    | true=>exact xbn (.mk (zblz o) c3 c2 (zbma g4))
    | false=>exact xbn (.mk g1 g2 g3 (.inr ⟨c3,c2⟩))
  ·rintro c st' @⟨l,o,g1,g2,g3,g4⟩;rw[Nat.zero_max] at g4;exact .mk g1 g2 g3 (.inl (xbc (xgw _ _) (xdo g4)))
  ·exact .mk Nat.one_pos hh hr (xbg _)
  ·rintro c st' @⟨l,o,g1,g2,g3,g4⟩;dsimp only;have f1:∀i,i < hint+l+1->ahead left R key arr base i=true:=λi hi=>mono i (hint+l) (xct hi) g2 g3
   have f2:∀i,hint+min o (n - hint)<=i->i < n->ahead left R key arr base i=false:=λi a1 a2=>by
    rcases g4 with g | ⟨ga,gb⟩
    ·rw[xjq g,xcl (xca hh)] at a1;exact absurd a2 (xfc a1)
    ·rw[xez (xca (zbii ga))] at a1;exact monoF (hint+o) i a1 a2 gb
   have f3:hint+l+1<=hint+min o (n - hint):=xcn (Nat.le_min.mpr ⟨g1,zbii g2⟩) hint;have f4:hint+min o (n - hint)<=n:=xbc (xcn (xfu _ _) hint) (xdi (xcl (xca hh)));generalize hint+l+1=lo at f1 f3 ⊢;generalize hint+min o (n - hint)=hi at f2 f3 f4 ⊢;refine xbl (xga (xdx (I:=GI (ahead left R key arr base) n au) (Q:=GE (ahead left R key arr base) n au) ?_ ?_ (.mk f3 f4 (xbc (xgw _ _) f4) f1 f2)) ?_)
   ·rintro x c st2 x1 x2 @⟨a,b,q1,q2,q3,q4,q5⟩;dsimp only;by_cases c:a ≥ b
    ·rw[if_pos c];have e:b=a:=xee c q1;subst e;exact xbn (.mk q2 q4 q5)
    ·rw[if_neg c];refine xbl (zmn O hk mk (ma (a+(b - a) / 2) (zbhi c q2)) ?_);dsimp only;cases c2:ahead left R key arr base (a+(b - a) / 2) with
     | true=>exact xbn (.mk (zbpx c) q2 (zbkp q3) (λi hi=>mono i (a+(b - a) / 2) (xct hi) (zbhi c q2) c2) q5)
     | false=>exact xbn (.mk (xcf _ _) (xca (zbhi c q2)) (zbko c q3) q4 λi a1 a2=>monoF (a+(b - a) / 2) i a1 a2 c2)
   ·rintro c st2 @⟨a,b,q1,q2,q3,q4,q5⟩;have e:=zlr q1 q3;subst e;exact .mk q2 q4 q5
   ·rintro c st2 @⟨b,q2,q4,q5⟩;exact xbn (h b (zbmj q2 q4 q5))
 | false =>
  rw[if_neg (by decide)];refine xbl (xga (xdx (I:=λx=>GD (ahead left R key arr base) hint (x+1<=·) au) (Q:=GD (ahead left R key arr base) hint (λo=>hint+1<=o\/(o<=hint/\ahead left R key arr base (hint - o)=true)) au) ?_ ?_ ?_) ?_)
  ·rintro x c st' x1 x2 @⟨l,o,g1,g2,g3,g4⟩;dsimp only;by_cases c:o ≥ hint+1
   ·rw[if_pos c];exact xbn (.mk g1 g2 g3 (.inl c))
   ·rw[if_neg c];refine xbl (zmn O hk mk (ma (hint - o) (xdf (xgw _ _) hh)) ?_);dsimp only;cases c2:ahead left R key arr base (hint - o) with
    | true=>exact xbn (.mk g1 g2 g3 (.inr ⟨xct (xgo c),c2⟩))
    | false=>exact xbn (.mk (zblz o) (xct (xgo c)) c2 (zbma g4))
  ·rintro c st' @⟨l,o,g1,g2,g3,g4⟩;rw[Nat.zero_max] at g4;exact .mk g1 g2 g3 (.inl (xbc hh (xdo g4)))
  ·exact .mk Nat.one_pos (xdu _) hr (xbg _)
  ·rintro c st' @⟨l,o,g1,g2,g3,g4⟩;dsimp only;have f1:∀i,i < hint+1 - min o (hint+1)->ahead left R key arr base i=true:=λi hi=>by
    rcases g4 with g | ⟨ga,gb⟩
    ·rw[xjq g,xki] at hi;exact absurd hi (Nat.not_lt_zero _)
    ·rw[xez (xgh ga),Nat.succ_sub ga] at hi;exact mono i (hint - o) (xct hi) (xdf (xgw _ _) hh) gb
   have f2:∀i,hint - l<=i->i < n->ahead left R key arr base i=false:=λi a1 a2=>monoF (hint - l) i a1 a2 g3
   have f3:hint+1 - min o (hint+1)<=hint - l:=xbc (xgz (Nat.le_min.mpr ⟨g1,xfi g2⟩) _) (xdi (Nat.succ_sub_succ hint l));have f4:hint - l<=n:=xbc (xgw _ _) (xca hh);generalize hint+1 - min o (hint+1)=lo at f1 f3 ⊢;generalize hint - l=hi at f2 f3 f4 ⊢;refine xbl (xga (xdx (I:=GI (ahead left R key arr base) n au) (Q:=GE (ahead left R key arr base) n au) ?_ ?_ (.mk f3 f4 (xbc (xgw _ _) f4) f1 f2)) ?_)
   ·rintro x c st2 x1 x2 @⟨a,b,q1,q2,q3,q4,q5⟩;dsimp only;by_cases c:a ≥ b
    ·rw[if_pos c];have e:b=a:=xee c q1;subst e;exact xbn (.mk q2 q4 q5)
    ·rw[if_neg c];refine xbl (zmn O hk mk (ma (a+(b - a) / 2) (zbhi c q2)) ?_);dsimp only;cases c2:ahead left R key arr base (a+(b - a) / 2) with
     | true=>exact xbn (.mk (zbpx c) q2 (zbkp q3) (λi hi=>mono i (a+(b - a) / 2) (xct hi) (zbhi c q2) c2) q5)
     | false=>exact xbn (.mk (xcf _ _) (xca (zbhi c q2)) (zbko c q3) q4 λi a1 a2=>monoF (a+(b - a) / 2) i a1 a2 c2)
   ·rintro c st2 @⟨a,b,q1,q2,q3,q4,q5⟩;have e:=zlr q1 q3;subst e;exact .mk q2 q4 q5
   ·rintro c st2 @⟨b,q2,q4,q5⟩;exact xbn (h b (zbmj q2 q4 q5))
end
end
section
noncomputable abbrev Ord (R:Keyed->Nat) (l:List Keyed):Prop:=l.Pairwise λx y=>R x<=R y
structure SmG (au st':SortSt):Prop where
 arr:arrOf st'=arrOf au
 pend:pendingOf st'=pendingOf au
 kind:kindOf st'=kindOf au
 failed:failedOf st'=failedOf au
theorem SmG.refl (au:SortSt):SmG au au:=⟨rfl,rfl,rfl,rfl⟩
theorem SmG.trans  (x:SmG a b)(y:SmG b c):SmG a c:=⟨y.arr.trans x.arr,y.pend.trans x.pend,y.kind.trans x.kind,y.failed.trans x.failed⟩
noncomputable def mergeLo':Array Keyed->Array Keyed->StateT SortSt Sem (Array Keyed):=sortPriv% PySem.Builtin.mergeLo
noncomputable def mergeHi':Array Keyed->Array Keyed->StateT SortSt Sem (Array Keyed):=sortPriv% PySem.Builtin.mergeHi
structure ML (R:Keyed->Nat) (all out rest:List Keyed):Prop where
 perm:(out++rest).Perm all
 ord:Ord R out
 le:∀x∈out,∀y∈rest,R x<=R y
theorem ML.grow {rest:List Keyed}(m:ML R all out rest)(p:rest.Perm (xs++rest'))(o:Ord R xs)(h:∀x∈xs,∀y∈rest',R x<=R y):ML R all (out++xs) rest':=by
 refine⟨?_,xge.mpr ⟨m.ord,o,λx hx y hy=>m.le x hx y (p.mem_iff.mpr (xeb _ hy))⟩,λx hx y hy=>?_⟩
 ·rw[xck];exact(xgr out p.symm).trans m.perm
 ·rcases xbx.mp hx with hx | hx
  ·exact m.le x hx y (p.mem_iff.mpr (xde _ hy))
  ·exact h x hx y hy
theorem ML.fin {rest rest':List Keyed}(m:ML R all out rest)(p:rest'.Perm rest)(o:Ord R rest'):(out++rest').Perm all/\Ord R (out++rest') :=
 ⟨(xgr out p).trans m.perm,xge.mpr ⟨m.ord,o,λx hx y hy=>m.le x hx y (p.mem_iff.mp hy)⟩⟩
theorem Ord.at  (h:Ord R l){i j:Nat}  (hi:l[i]?=some x)(hj:l[j]?=some y)(hij:i<=j):R x<=R y:=by
 obtain⟨h1,e1⟩:=xbj.mp hi;obtain⟨h2,e2⟩:=xbj.mp hj;by_cases c:i=j
 ·subst c;rw[← e1,← e2];exact xbg _
 ·rw[← e1,← e2];exact xfq.mp h i j h1 h2 (xdg hij c)
theorem Ord.drop  (h:Ord R l)(n:Nat):Ord R (l.drop n):=xgs (xkw _ _) h
theorem Ord.take  (h:Ord R l)(n:Nat):Ord R (l.take n):=xgs (xkt _ _) h
theorem zbm {l:List Keyed}   (h:y∈l.drop n):∃j,n<=j/\l[j]?=some y:=by
 obtain⟨i,hi,e⟩:=xeh h;refine⟨n+i,xcf _ _,?_⟩;rw[← e,xmu];exact xbe _
theorem zu {l:List Keyed}   (h:y∈l.take n):∃j,j < n/\l[j]?=some y:=by
 obtain⟨i,hi,e⟩:=xeh h;have hi2:i < n/\i < l.length:=by rw[xcz] at hi;exact Nat.lt_min.mp hi
 refine⟨i,hi2.1,?_⟩;rw[← e,xmv];exact xbe _
theorem zjl {l:List Keyed}{i:Nat}{x:Keyed}(h:l[i]?=some x):l.drop i=x::l.drop (i+1):=by
 obtain⟨h1,rfl⟩:=xbj.mp h;exact xfr h1
theorem znu (l:List Keyed)(i k:Nat):l.drop i=(l.drop i).take k++l.drop (i+k):=by
 rw[← xma,xdq]
structure Two (R:Keyed->Nat) (la lb:List Keyed):Prop where
 oa:Ord R la
 ob:Ord R lb
 last:∀x,la[la.length - 1]?=some x->∀y∈lb,R y<=R x
def Fin (R:Keyed->Nat) (la lb:List Keyed) (r:Array Keyed):Prop:=r.toList.Perm (la++lb)/\Ord R r.toList
section
variable {la:List Keyed}{lb:List Keyed}{out:Array Keyed}{ia:Nat}{ib:Nat}
theorem ML.pushB {R:Keyed->Nat}{all:List Keyed}(T:Two R la lb)(m:ML R all out.toList (la.drop ia++lb.drop ib)){y:Keyed}(hy:lb[ib]?=some y)(h:∀z∈la.drop ia,R y<=R z):ML R all (out.push y).toList (la.drop ia++lb.drop (ib+1)):=by
 rw[xfd];refine m.grow ?_ (xkp _ _) λx hx z hz=>?_
 ·rw[zjl hy];exact xne
 ·simp at hx;subst hx
  rcases xbx.mp hz with hz | hz
  ·exact h z hz
  ·obtain⟨j,hj,e⟩:=zbm hz;exact T.ob.at hy e (xdo hj)
end
section
variable {w:World}{la:List Keyed}{lb:List Keyed}{out:Array Keyed}{ia:Nat}{ib:Nat}
theorem ML.pushA {R:Keyed->Nat}{all:List Keyed}(T:Two R la lb)(m:ML R all out.toList (la.drop ia++lb.drop ib)){x:Keyed}(hx:la[ia]?=some x)(h:∀z∈lb.drop ib,R x<=R z):ML R all (out.push x).toList (la.drop (ia+1)++lb.drop ib):=by
 rw[xfd];refine m.grow ?_ (xkp _ _) λw hw z hz=>?_
 ·rw[zjl hx];exact .refl _
 ·simp at hw;subst hw
  rcases xbx.mp hz with hz | hz
  ·obtain⟨j,hj,e⟩:=zbm hz;exact T.oa.at hx e (xdo hj)
  ·exact h z hz
end
theorem zce (xs:Array Keyed)(i j:Nat):(xs.extract i j).toList=(xs.toList.drop i).take (j - i):=by
 rw[xlp,List.extract_eq_take_drop]
theorem zqz (xs:Array Keyed)(i:Nat):(xs.extract i).toList=xs.toList.drop i:=by
 rw[zce];exact xdj (by simp)
theorem zby {xs:Array Keyed}   (h:xs.toList[i]?=some x):kA R xs i=R x:=zed (by rw[← xci];exact h)
end
section
section
variable {a:Array Keyed}{b:Array Keyed}{out:Array Keyed}{ia:Nat}{ib:Nat}{k:Nat}
theorem ML.galA (T:Two R a.toList b.toList)(m:ML R all out.toList (a.toList.drop ia++b.toList.drop ib))(hy:b.toList[ib]?=some y)(c:Cut false R y a ia (a.size - ia) k):ML R all (out++a.extract ia (ia+k)).toList (a.toList.drop (ia+k)++b.toList.drop ib)/\∀z∈a.toList.drop (ia+k),R y<=R z:=by
 have up:∀z∈a.toList.drop (ia+k),R y<=R z:=λz hz=>by
  obtain⟨j,hj,e⟩:=zbm hz;have hj2:j < a.size:=by have:=(xbj.mp e).1;simpa using this
  have h0:=xbc (xcf _ _) hj;have:=c.2.2 (j - ia) (xff hj) (xey h0 hj2);rw[xcl h0,zby e] at this;exact xca this
 have low:∀z∈(a.toList.drop ia).take k,R z<=R y:=λz hz=>by
  obtain⟨j,hj,e⟩:=zu hz;rw[xfx] at e;have:=c.2.1 j hj;rw[zby e] at this;exact this
 refine⟨?_,up⟩;rw[xdr,zce,xdc];refine m.grow ?_ ((T.oa.drop ia).take k) λz hz v hv=>?_
 ·conv=>lhs;rw[znu a.toList ia k]
  rw[xck]
 ·rcases xbx.mp hv with hv | hv
  ·exact xbc (low z hz) (up v hv)
  ·obtain⟨j,hj,e⟩:=zbm hv;exact xbc (low z hz) (T.ob.at hy e hj)
theorem ML.galB (T:Two R a.toList b.toList)(m:ML R all out.toList (a.toList.drop ia++b.toList.drop ib))(hx:a.toList[ia]?=some x)(c:Cut true R x b ib (b.size - ib) k):ML R all (out++b.extract ib (ib+k)).toList (a.toList.drop ia++b.toList.drop (ib+k))/\∀z∈b.toList.drop (ib+k),R x<=R z:=by
 have up:∀z∈b.toList.drop (ib+k),R x<=R z:=λz hz=>by
  obtain⟨j,hj,e⟩:=zbm hz;have hj2:j < b.size:=by have:=(xbj.mp e).1;simpa using this
  have h0:=xbc (xcf _ _) hj;have:=c.2.2 (j - ib) (xff hj) (xey h0 hj2);rw[xcl h0,zby e] at this;exact this
 have low:∀z∈(b.toList.drop ib).take k,R z<=R x:=λz hz=>by
  obtain⟨j,hj,e⟩:=zu hz;rw[xfx] at e;have:=c.2.1 j hj;rw[zby e] at this;exact xca this
 refine⟨?_,up⟩;rw[xdr,zce,xdc];refine m.grow ?_ ((T.ob.drop ib).take k) λz hz v hv=>?_
 ·conv=>lhs;rw[znu b.toList ib k]
  rw[← xck,← xck];exact xjg _ xhp
 ·rcases xbx.mp hv with hv | hv
  ·obtain⟨j,hj,e⟩:=zbm hv;exact xbc (low z hz) (T.oa.at hx e hj)
  ·exact xbc (low z hz) (up v hv)
end
theorem ML.done {a:Array Keyed}{b:Array Keyed}{out:Array Keyed}{ia:Nat}{ib:Nat}(T:Two R a.toList b.toList)(m:ML R (a.toList++b.toList) out.toList (a.toList.drop ia++b.toList.drop ib))(h:ia=a.size\/ib=b.size):Fin R a.toList b.toList (out++a.extract ia++b.extract ib):=by
 unfold Fin;rw[xdr,xdr,zqz,zqz,xck];refine m.fin (.refl _) ?_;rcases h with rfl | rfl
 ·rw[xjh (by simp),xiv];exact T.ob.drop _
 ·rw[xjh (as:=b.toList) (by simp),xdm];exact T.oa.drop _
theorem ML.lastA {a:Array Keyed}{b:Array Keyed}{out:Array Keyed}{ia:Nat}{ib:Nat}(T:Two R a.toList b.toList)(m:ML R (a.toList++b.toList) out.toList (a.toList.drop ia++b.toList.drop ib))(h:ia+1=a.size):Fin R a.toList b.toList (out++b.extract ib++a.extract ia):=by
 unfold Fin;rw[xdr,xdr,zqz,zqz,xck];refine m.fin xhp (xge.mpr ⟨T.ob.drop _,T.oa.drop _,λv hv z hz=>?_⟩);obtain⟨j,hj,e⟩:=zbm hz;have hj2:j < a.size:=by have:=(xbj.mp e).1;simpa using this
 have:j=a.toList.length - 1:=xee (xdl (by rw[xcd];exact hj2)) (by rw[xcd,← h];exact hj);subst this;exact T.last z e v (xhz hv)
noncomputable def setG':Nat->StateT SortSt Sem Unit:=sortPriv% PySem.Builtin.setMinGallop
section
variable {prog:Program}{w:World}{A:Around}{E:Value->Shared->Prop}{s:Shared}
theorem zxw {g:Nat}{au:SortSt}{Q:Unit->SortSt->Prop}(h:∀st',SmG au st'->Q () st'):wpS (model prog w) A E s (setG' g) Q au :=
 xhg (h _ ⟨rfl,rfl,rfl,rfl⟩)
end
section
variable {prog:Program}{w:World}{A:Around}{E:Value->Shared->Prop}{s:Shared}{y:Keyed}{x:Keyed}
theorem zbss {α:Type}{K:Nat->StateT SortSt Sem α}{Q:α->SortSt->Prop}{au:SortSt}(h:∀v,wpS (model prog w) A E s (K v) Q au):∀y x:Nat,wpS (model prog w) A E s (if y > 1 then K x else K y) Q au:=λy x=>by
 by_cases e:y > 1
 ·rw[if_pos e];exact h x
 ·rw[if_neg e];exact h y
end
section
variable {prog:Program}{w:World}{A:Around}{E:Value->Shared->Prop}{s:Shared}
theorem zbsu {α:Type}{c c2:Prop}[Decidable c][Decidable c2]{X Y Y':StateT SortSt Sem α}{Q:α->SortSt->Prop}{au:SortSt}(hY:¬c->Y'=Y)(h1:c->c2->wpS (model prog w) A E s X Q au)(h2:(c->¬c2)->wpS (model prog w) A E s Y Q au):wpS (model prog w) A E s (if c then(if c2 then X else Y) else Y') Q au:=by
 by_cases e:c
 ·rw[if_pos e];by_cases e2:c2
  ·rw[if_pos e2];exact h1 e e2
  ·rw[if_neg e2];exact h2 λ_=>e2
 ·rw[if_neg e,hY e];exact h2 λz=>absurd z e
theorem zbhx {α:Type}{c c2 c3:Prop}[Decidable c][Decidable c2][Decidable c3]{X X3 Y Y':StateT SortSt Sem α}{Q:α->SortSt->Prop}{au:SortSt}(hY:¬c->Y'=Y)(h1:c->c2->wpS (model prog w) A E s X Q au)(h3:c->c3->wpS (model prog w) A E s X3 Q au)(h2:(c->¬c2/\¬c3)->wpS (model prog w) A E s Y Q au):wpS (model prog w) A E s (if c then(if c2 then X else if c3 then X3 else Y) else Y') Q au:=by
 by_cases e:c
 ·rw[if_pos e];by_cases e2:c2
  ·rw[if_pos e2];exact h1 e e2
  ·rw[if_neg e2];by_cases e3:c3
   ·rw[if_pos e3];exact h3 e e3
   ·rw[if_neg e3];exact h2 λ_=>⟨e2,e3⟩
 ·rw[if_neg e,hY e];exact h2 λz=>absurd z e
theorem zbst {α:Type}{c c2:Prop}[Decidable c][Decidable c2]{X X2 Y:StateT SortSt Sem α}{Q:α->SortSt->Prop}{au:SortSt}(h1:c->wpS (model prog w) A E s X Q au)(h2:c2->wpS (model prog w) A E s X2 Q au)(h3:¬c->¬c2->wpS (model prog w) A E s Y Q au):wpS (model prog w) A E s (if c then X else if c2 then X2 else Y) Q au:=by
 by_cases e:c
 ·rw[if_pos e];exact h1 e
 ·rw[if_neg e];by_cases e2:c2
  ·rw[if_pos e2];exact h2 e2
  ·rw[if_neg e2];exact h3 e e2
theorem w_if {α:Type}{c:Prop}[Decidable c]{X Y:StateT SortSt Sem α}{Q:α->SortSt->Prop}{au:SortSt}(h1:c->wpS (model prog w) A E s X Q au)(h2:¬c->wpS (model prog w) A E s Y Q au):wpS (model prog w) A E s (if c then X else Y) Q au:=by
 by_cases e:c
 ·rw[if_pos e];exact h1 e
 ·rw[if_neg e];exact h2 e
theorem w_el {α:Type}{arr:Array Keyed}{i:Nat}{x:Keyed}{f:Keyed->StateT SortSt Sem α}{Q:α->SortSt->Prop}{au:SortSt}(e:arr[i]?=some x)(h:wpS (model prog w) A E s (f x) Q au):wpS (model prog w) A E s (elem' arr i >>= f) Q au:=xbl (zmm e h)
end
section
variable {prog:Program}{w:World}{A:Around}{E:Value->Shared->Prop}{s:Shared}{κ:SortKind}{a₀:Array Keyed}{R:Keyed->Nat}
theorem zbhw {α:Type}{x y:Keyed}{f:Option Bool->StateT SortSt Sem α}{Q:α->SortSt->Prop}{au:SortSt}(O:Orc prog w A s κ a₀ R)(hk:kindOf au=κ)(hx:x∈a₀.toList)(hy:y∈a₀.toList)(h1:R x < R y->wpS (model prog w) A E s (f (some true)) Q au)(h2:R y<=R x->wpS (model prog w) A E s (f (some false)) Q au):wpS (model prog w) A E s (lt' x y >>= f) Q au:=by
 refine xbl (w_lt O hk hx hy ?_);by_cases c:R x < R y
 ·rw[xbw c];exact h1 c
 ·rw[xbz c];exact h2 (xcj c)
end
inductive Dn {β:Type} (R:Keyed->Nat) (a b:Array Keyed) (au:SortSt):Option (Array Keyed)×β->SortSt->Prop where
 | mk {r:Array Keyed} {z:β} {st':SortSt} (sm:SmG au st') (f:Fin R a.toList b.toList r):Dn R a b au (some r,z) st'
section
variable {out:Array Keyed}{ia:Nat}{ib:Nat}
inductive L1 (R:Keyed->Nat) (a b:Array Keyed) (au:SortSt) (x:Nat):Option (Array Keyed)×Array Keyed×Nat×Nat×Nat->SortSt->Prop where
 | mk {out:Array Keyed} {ia ib g:Nat} {st':SortSt} (sm:SmG au st') (m:ML R (a.toList++b.toList) out.toList (a.toList.drop ia++b.toList.drop ib)) (ha:ia+1 < a.size) (hb:ib < b.size) (hx:x < ia+ib):L1 R a b au x (none,out,ia,ib,g) st'
inductive L2' (R:Keyed->Nat) (a b:Array Keyed) (au:SortSt) (x:Nat):Option (Array Keyed)×Array Keyed×Nat×Nat×Nat×Nat->SortSt->Prop where
 | mk {out:Array Keyed} {ia ib ac bc:Nat} {st':SortSt} (sm:SmG au st') (m:ML R (a.toList++b.toList) out.toList (a.toList.drop ia++b.toList.drop ib)) (ha:ia+1 < a.size) (hb:ib < b.size) (hx:x<=ia+ib):L2' R a b au x (none,out,ia,ib,ac,bc) st'
inductive L3 (R:Keyed->Nat) (a b:Array Keyed) (au:SortSt) (x:Nat):Option (Array Keyed)×Array Keyed×Nat×Nat×Nat×Nat×Nat->SortSt->Prop where
 | mk {out:Array Keyed} {ia ib g ac bc:Nat} {st':SortSt} (sm:SmG au st') (m:ML R (a.toList++b.toList) out.toList (a.toList.drop ia++b.toList.drop ib)) (ha:ia+1 < a.size) (hb:ib < b.size) (hx:x<=ia+ib):L3 R a b au x (none,out,ia,ib,g,ac,bc) st'
end
section
variable {prog:Program}{w:World}{A:Around}{E:Value->Shared->Prop}{s:Shared}{κ:SortKind}{a₀:Array Keyed}{R:Keyed->Nat}{a:Array Keyed}{b:Array Keyed}{out:Array Keyed}{ia:Nat}{ib:Nat}{k:Nat}{y:Keyed}{x:Keyed}
theorem zxy {au:SortSt}{Q:Array Keyed->SortSt->Prop}(O:Orc prog w A s κ a₀ R)(hk:kindOf au=κ)(ma:∀x∈a.toList,x∈a₀.toList)(mb:∀x∈b.toList,x∈a₀.toList)(T:Two R a.toList b.toList)(ha:1<=a.size)(hb:1<=b.size)
  (fst:∀y,b.toList[0]?=some y->∀x∈a.toList,R y<=R x)(h:∀r st',SmG au st'->Fin R a.toList b.toList r->Q r st'):wpS (model prog w) A E s (mergeLo' a b) Q au:=by
 have atA:∀(i:Nat) (hi:i < a.size),a[i]?=some a[i]/\a.toList[i]?=some a[i]/\a[i]∈a₀.toList:=λi hi=>⟨getElem?_pos a i hi,by rw[xci];exact getElem?_pos a i hi,ma _ (by simp)⟩
 have atB:∀(i:Nat) (hi:i < b.size),b[i]?=some b[i]/\b.toList[i]?=some b[i]/\b[i]∈a₀.toList:=λi hi=>⟨getElem?_pos b i hi,by rw[xci];exact getElem?_pos b i hi,mb _ (by simp)⟩
 have upA:∀i,UpA R a i (i+(a.size - i)):=λi p q a1 a2 a3=>by
  have hq:q < a.size:=by lia
  have e1:=(atA p (by lia)).2.1;have e2:=(atA q hq).2.1;rw[zby e1,zby e2];exact T.oa.at e1 e2 a2
 have upB:∀i,UpA R b i (i+(b.size - i)):=λi p q a1 a2 a3=>by
  have hq:q < b.size:=by lia
  have e1:=(atB p (by lia)).2.1;have e2:=(atB q hq).2.1;rw[zby e1,zby e2];exact T.ob.at e1 e2 a2
 obtain⟨y0,f0,f1⟩:∃x,b[0]?=some x/\b.toList[0]?=some x:=⟨_,(atB 0 hb).1,(atB 0 hb).2.1⟩
 have start:ML R (a.toList++b.toList) (#[y0]:Array Keyed).toList (a.toList.drop 0++b.toList.drop 1):=by
  have z:ML R (a.toList++b.toList) (#[]:Array Keyed).toList (a.toList.drop 0++b.toList.drop 0):=⟨by simp,List.Pairwise.nil,by simp⟩
  exact z.pushB T f1 λx hx=>fst y0 f1 x (xhz hx)
 refine xbl (xlh (xhh ⟨rfl,xbl (zmm f0 (zbst (λc1=>?_) (λc2=>?_) λc1 c2=>?_))⟩))
 ·exact xbn (h _ _ (.refl _) (start.done T (.inr (by simpa using c1))))
 ·exact xbn (h _ _ (.refl _) (start.lastA T (by simpa using c2)))
 simp only[xhf] at c1 c2;refine xbl (xir ?_);refine xbl (xga (xdx (I:=L1 R a b au) (Q:=Dn R a b au) ?_ ?_ (.mk (.refl _) start (by lia) (by lia) (by lia))) ?_)
 ·rintro x c st1 x1 x2 @⟨out,ia,ib,g,st1,sm1,m,ha1,hb1,hx⟩;dsimp only;refine xbl (xga (xdx (I:=λ_=>L2' R a b au (ia+ib)) (Q:=λc st'=>Dn R a b au c st'\/L2' R a b au (ia+ib) c st') ?_ ?_ (.mk sm1 m ha1 hb1 (xbg _))) ?_)
  ·rintro x' c st2 _ _ @⟨out,ia',ib',ac,bc,st2,sm2,m,ha2,hb2,hp⟩;dsimp only;have ea:=(atA ia' (xfn ha2)).1;have ela:=(atA ia' (xfn ha2)).2.1;have mea:=(atA ia' (xfn ha2)).2.2;have eb:=(atB ib' hb2).1;have elb:=(atB ib' hb2).2.1;have meb:=(atB ib' hb2).2.2;refine w_el eb (w_el ea (zbhw O (sm2.kind.trans hk) meb mea (λcw=>w_el eb ?_) λcw=>w_el ea ?_))
   ·skip
    have m2:=m.pushB T elb λz hz=>by
     obtain⟨j,hj,e⟩:=zbm hz;exact xbc (xca cw) (T.oa.at ela e hj)
    refine w_if (λc5=>xbn (.inl (.mk sm2 (m2.done T (.inr (eq_of_beq c5)))))) λc5=>?_
    rw[xhf] at c5;have hb3:ib'+1 < b.size:=xdg hb2 c5;have hp3:ia+ib<=ia'+(ib'+1):=xgh hp;exact w_if (λ_=>xbn (.inr (.mk sm2 m2 ha2 hb3 hp3))) λ_=>xbn (.mk sm2 m2 ha2 hb3 hp3)
   ·skip
    have m2:=m.pushA T ela λz hz=>by
     obtain⟨j,hj,e⟩:=zbm hz;exact xbc cw (T.ob.at elb e hj)
    refine w_if (λc5=>xbn (.inl (.mk sm2 (m2.lastA T (eq_of_beq c5))))) λc5=>?_
    rw[xhf] at c5;have ha3:ia'+1+1 < a.size:=xdg ha2 c5;have hp3:ia+ib<=ia'+1+ib':=Nat.succ_add ia' ib' ▸ xgh hp
    exact w_if (λ_=>xbn (.inr (.mk sm2 m2 ha3 hb2 hp3))) λ_=>xbn (.mk sm2 m2 ha3 hb2 hp3)
  ·exact λc st2 k=>.inr k
  ·rintro c st2 (⟨sm2,f⟩ | @⟨out,ia',ib',ac,bc,st2,sm2,m,ha2,hb2,hp⟩)
   ·exact xbn (.mk sm2 f)
   ·dsimp only;refine xbl (xlh (xhh ⟨rfl,?_⟩));refine xbl (xga (xdx (I:=λx'=>L3 R a b au (ia+ib+x')) (Q:=λc st'=>Dn R a b au c st'\/L3 R a b au (ia+ib+1) c st') ?_ ?_ (.mk sm2 m ha2 hb2 hp)) ?_)
    ·rintro x' c st3 _ x2' @⟨out,ia',ib',g',ac,bc,st3,sm3,m,ha2,hb2,hp⟩;dsimp only;have eb:=(atB ib' hb2).1;have elb:=(atB ib' hb2).2.1;have meb:=(atB ib' hb2).2.2;generalize g' - 1=g1;generalize g'=y;revert g1;revert y
     refine zbss ?_;intro gg;refine xbl (zxw λst4 sg=>?_);have sm4:=sm3.trans sg;refine w_el eb (xbl (zgt O (sm4.kind.trans hk) meb (λi hi=>⟨_,(atA (ia'+i) (xef hi)).1,(atA (ia'+i) (xef hi)).2.2⟩) (xgg (xfn ha2)) (upA ia') λk1 cut1=>?_));have m5:=(m.galA T elb cut1).1;have u5:=(m.galA T elb cut1).2;have hk1:=cut1.1;dsimp only;refine zbhx (λc6=>?_) (λc6 c7=>?_) (λc6 c8=>?_) λhh=>?_
     ·have z:k1=0:=Nat.le_zero.mp (xcj c6);subst z;simp only[xkj,xjo (xho _ _),xmf]
     ·exact xbn (.inl (.mk sm4 (m5.lastA T (eq_of_beq c7))))
     ·exact xbn (.inl (.mk sm4 (m5.done T (.inl (eq_of_beq c8)))))
     have ha5:ia'+k1+1 < a.size:=by
      by_cases c6:k1 > 0
      ·have:=hh c6;simp at this;lia
      ·lia
     have hp5:ia+ib+x'<=ia'+k1+ib':=xbc hp (Nat.add_le_add_right (xcf _ _) _);clear hh;generalize ia'+k1=ia5 at m5 u5 ha5 hp5 ⊢;generalize out++a.extract ia' ia5=out5 at m5 ⊢;have m6:=m5.pushB T elb u5;have ea:=(atA _ (xfn ha5)).1;have ela:=(atA _ (xfn ha5)).2.1;have mea:=(atA _ (xfn ha5)).2.2;refine w_el eb (w_if (λc9=>xbn (.inl (.mk sm4 (m6.done T (.inr (eq_of_beq c9)))))) λc9=>w_el ea ?_);rw[xhf] at c9;refine xbl (zgt O (sm4.kind.trans hk) mea (λi hi=>⟨_,(atB (ib'+1+i) (xef hi)).1,(atB (ib'+1+i) (xef hi)).2.2⟩) (xgg (xdg hb2 c9)) (upB (ib'+1)) λk2 cut2=>?_);have m7:=(m6.galB T ela cut2).1;have u7:=(m6.galB T ela cut2).2;have hk2:=cut2.1;dsimp only;refine zbsu (λd6=>?_) (λd6 d7=>?_) λhh=>?_
     ·have z2:k2=0:=Nat.le_zero.mp (xcj d6);subst z2;simp only[xkj,xjo (xho _ _),xmf]
     ·exact xbn (.inl (.mk sm4 (m7.done T (.inr (eq_of_beq d7)))))
     have h20:ib'+1+k2≠b.size:=by
      by_cases d6:k2 > 0
      ·have:=hh d6;simp at this;lia
      ·lia
     have m8:=m7.pushA T ela u7;refine w_el ea (w_if (λd8=>xbn (.inl (.mk sm4 (m8.lastA T (eq_of_beq d8))))) λd8=>?_);rw[xhf] at d8;have ha9:ia5+1+1 < a.size:=xdg ha5 d8;have hb9:ib'+1+k2 < b.size:=by lia
     have hp9:ia+ib+(x'+1)<=ia5+1+(ib'+1+k2):=by lia
     exact w_if (λ_=>xbn (.inr (.mk sm4 m8 ha9 hb9 (xbc (xcn (xnk 1 x') _) hp9)))) λ_=>xbn (.mk sm4 m8 ha9 hb9 hp9)
    ·rintro c st3 ⟨sm3,m,ha2,hb2,hp⟩;exact .inr (.mk sm3 m ha2 hb2 (by lia))
    ·rintro c st3 (⟨sm3,f⟩ | ⟨sm3,m,ha2,hb2,hp⟩)
     ·exact xbn (.mk sm3 f)
     ·exact xbl (zxw λst4 sg=>xbn (.mk (sm3.trans sg) m ha2 hb2 (xbk (Nat.succ_lt_succ hx) hp)))
 ·rintro c st1 ⟨sm1,m,ha1,hb1,hx⟩;lia
 ·rintro c st1 ⟨sm1,f⟩;exact xbn (h _ st1 sm1 f)
end
end
structure MH (R:Keyed->Nat) (all out rest:List Keyed):Prop where
 perm:(rest++out.reverse).Perm all
 ord:Ord R out.reverse
 le:∀x∈rest,∀y∈out,R x<=R y
section
theorem MH.grow {rest xs:List Keyed}(m:MH R all out rest)(p:rest.Perm (rest'++xs.reverse))(o:Ord R xs.reverse)(h:∀x∈rest',∀y∈xs,R x<=R y):MH R all (out++xs) rest':=by
 refine⟨?_,?_,λx hx y hy=>?_⟩
 ·rw[List.reverse_append,← xck];exact(xjg _ p.symm).trans m.perm
 ·rw[List.reverse_append];exact xge.mpr ⟨o,m.ord,λx hx y hy=>m.le x (p.mem_iff.mpr (xde _ hx)) y (xlf.mp hy)⟩
 ·rcases xbx.mp hy with hy | hy
  ·exact m.le x (p.mem_iff.mpr (xeb _ hx)) y hy
  ·exact h x hx y hy
theorem MH.fin {rest rest':List Keyed}(m:MH R all out rest)(p:rest'.Perm rest)(o:Ord R rest'):(rest'++out.reverse).Perm all/\Ord R (rest'++out.reverse) :=
 ⟨(xjg _ p).trans m.perm,xge.mpr ⟨o,m.ord,λx hx y hy=>m.le x (p.mem_iff.mp hx) y (xlf.mp hy)⟩⟩
theorem ziu {l:List Keyed}{i:Nat}{x:Keyed}(h:l[i]?=some x):l.take (i+1)=l.take i++[x]:=by
 obtain⟨h1,rfl⟩:=xbj.mp h;exact xih h1
structure TwoH (R:Keyed->Nat) (la lb:List Keyed):Prop where
 oa:Ord R la
 ob:Ord R lb
 first:∀y,lb[0]?=some y->∀x∈la,R y<=R x
section
variable {R:Keyed->Nat}{la:List Keyed}{lb:List Keyed}{all:List Keyed}{out:Array Keyed}{na:Nat}{nb:Nat}
theorem MH.pushB (T:TwoH R la lb)(m:MH R all out.toList (la.take na++lb.take (nb+1))){y:Keyed}(hy:lb[nb]?=some y)(h:∀z∈la.take na,R z<=R y):MH R all (out.push y).toList (la.take na++lb.take nb):=by
 rw[xfd];refine m.grow ?_ (by simp) λz hz w hw=>?_
 ·rw[ziu hy];simp
 ·simp at hw;subst hw
  rcases xbx.mp hz with hz | hz
  ·exact h z hz
  ·obtain⟨j,hj,e⟩:=zu hz;exact T.ob.at e hy (by lia)
theorem MH.pushA (T:TwoH R la lb)(m:MH R all out.toList (la.take (na+1)++lb.take nb)){x:Keyed}(hx:la[na]?=some x)(h:∀z∈lb.take nb,R z<=R x):MH R all (out.push x).toList (la.take na++lb.take nb):=by
 rw[xfd];refine m.grow ?_ (by simp) λz hz w hw=>?_
 ·rw[ziu hx];simp only[List.reverse_singleton,xck];exact xgr _ xhp
 ·simp at hw;subst hw
  rcases xbx.mp hz with hz | hz
  ·obtain⟨j,hj,e⟩:=zu hz;exact T.oa.at e hx (by lia)
  ·exact h z hz
end
end
section
theorem zwh (l:List Keyed)  (h:k<=n):l.take n=l.take k++(l.drop k).take (n - k):=by
 conv=>lhs;rw[show n=k+(n - k) by lia,List.take_add]
section
variable {a:Array Keyed}{b:Array Keyed}{out:Array Keyed}{na:Nat}{nb:Nat}{k:Nat}
theorem MH.galA (T:TwoH R a.toList b.toList)(m:MH R all out.toList (a.toList.take na++b.toList.take (nb+1)))(hy:b.toList[nb]?=some y)(hn:na<=a.size)(c:Cut false R y a 0 na k):MH R all (out++(a.extract k na).reverse).toList (a.toList.take k++b.toList.take (nb+1))/\∀z∈a.toList.take k,R z<=R y:=by
 have low:∀z∈a.toList.take k,R z<=R y:=λz hz=>by
  obtain⟨j,hj,e⟩:=zu hz;have:=c.2.1 j hj;rw[xep,zby e] at this;exact this
 have up:∀z∈(a.toList.drop k).take (na - k),R y<=R z:=λz hz=>by
  obtain⟨j,hj,e⟩:=zu hz;rw[xfx] at e;have:=c.2.2 (k+j) (by lia) (by lia);rw[xep,zby e] at this;exact xca this
 refine⟨?_,low⟩;rw[xdr,xjr,zce];refine m.grow ?_ (by rw[xjs];exact(T.oa.drop k).take _) λv hv z hz=>?_
 ·rw[xjs,zwh a.toList c.1,xck,xck];exact xgr _ xhp
 ·have hz:=up z (xlf.mp hz);rcases xbx.mp hv with hv | hv
  ·exact xbc (low v hv) hz
  ·obtain⟨j,hj,e⟩:=zu hv;exact xbc (T.ob.at e hy (by lia)) hz
theorem MH.galB (T:TwoH R a.toList b.toList)(m:MH R all out.toList (a.toList.take (na+1)++b.toList.take nb))(hx:a.toList[na]?=some x)(hn:nb<=b.size)(c:Cut true R x b 0 nb k):MH R all (out++(b.extract k nb).reverse).toList (a.toList.take (na+1)++b.toList.take k)/\∀z∈b.toList.take k,R z<=R x:=by
 have low:∀z∈b.toList.take k,R z<=R x:=λz hz=>by
  obtain⟨j,hj,e⟩:=zu hz;have:=c.2.1 j hj;rw[xep,zby e] at this;exact xca this
 have up:∀z∈(b.toList.drop k).take (nb - k),R x<=R z:=λz hz=>by
  obtain⟨j,hj,e⟩:=zu hz;rw[xfx] at e;have:=c.2.2 (k+j) (by lia) (by lia);rw[xep,zby e] at this;exact this
 refine⟨?_,low⟩;rw[xdr,xjr,zce];refine m.grow ?_ (by rw[xjs];exact(T.ob.drop k).take _) λv hv z hz=>?_
 ·rw[xjs,zwh b.toList c.1,xck]
 ·have hz:=up z (xlf.mp hz);rcases xbx.mp hv with hv | hv
  ·obtain⟨j,hj,e⟩:=zu hv;exact xbc (T.oa.at e hx (by lia)) hz
  ·exact xbc (low v hv) hz
end
theorem zly (xs:Array Keyed)(n:Nat):(xs.extract 0 n).toList=xs.toList.take n:=by
 rw[zce,List.drop_zero,Nat.sub_zero]
theorem MH.done {a:Array Keyed}{b:Array Keyed}{out:Array Keyed}{na:Nat}{nb:Nat}(T:TwoH R a.toList b.toList)(m:MH R (a.toList++b.toList) out.toList (a.toList.take na++b.toList.take nb))(h:na=0\/nb=0):Fin R a.toList b.toList (a.extract 0 na++b.extract 0 nb++out.reverse):=by
 unfold Fin;rw[xdr,xdr,zly,zly,xjr];refine m.fin (.refl _) ?_;rcases h with rfl | rfl
 ·rw[List.take_zero,xiv];exact T.ob.take _
 ·rw[List.take_zero,xdm];exact T.oa.take _
theorem MH.firstB {a:Array Keyed}{b:Array Keyed}{out:Array Keyed}{na:Nat}{nb:Nat}(T:TwoH R a.toList b.toList)(m:MH R (a.toList++b.toList) out.toList (a.toList.take na++b.toList.take nb))(h:nb=1):Fin R a.toList b.toList (b.extract 0 nb++a.extract 0 na++out.reverse):=by
 unfold Fin;rw[xdr,xdr,zly,zly,xjr];refine m.fin xhp (xge.mpr ⟨T.ob.take _,T.oa.take _,λv hv z hz=>?_⟩);obtain⟨j,hj,e⟩:=zu hv;have:j=0:=by lia
 subst this;exact T.first v e z (xfj hz)
section
variable {out:Array Keyed}{na:Nat}{nb:Nat}
inductive H1 (R:Keyed->Nat) (a b:Array Keyed) (au:SortSt) (x:Nat):Option (Array Keyed)×Nat×Nat×Array Keyed×Nat->SortSt->Prop where
 | mk {na nb:Nat} {out:Array Keyed} {g:Nat} {st':SortSt} (sm:SmG au st') (m:MH R (a.toList++b.toList) out.toList (a.toList.take na++b.toList.take nb)) (a1:1<=na) (a2:na<=a.size) (b1:2<=nb) (b2:nb<=b.size) (hx:x+na+nb < a.size+b.size):H1 R a b au x (none,na,nb,out,g) st'
inductive H2 (R:Keyed->Nat) (a b:Array Keyed) (au:SortSt) (x:Nat):Option (Array Keyed)×Nat×Nat×Array Keyed×Nat×Nat->SortSt->Prop where
 | mk {na nb:Nat} {out:Array Keyed} {ac bc:Nat} {st':SortSt} (sm:SmG au st') (m:MH R (a.toList++b.toList) out.toList (a.toList.take na++b.toList.take nb)) (a1:1<=na) (a2:na<=a.size) (b1:2<=nb) (b2:nb<=b.size) (hx:na+nb<=x):H2 R a b au x (none,na,nb,out,ac,bc) st'
inductive H3 (R:Keyed->Nat) (a b:Array Keyed) (au:SortSt) (x y:Nat):Option (Array Keyed)×Nat×Nat×Array Keyed×Nat×Nat×Nat->SortSt->Prop where
 | mk {na nb:Nat} {out:Array Keyed} {g ac bc:Nat} {st':SortSt} (sm:SmG au st') (m:MH R (a.toList++b.toList) out.toList (a.toList.take na++b.toList.take nb)) (a1:1<=na) (a2:na<=a.size) (b1:2<=nb) (b2:nb<=b.size) (hx:y+na+nb<=x):H3 R a b au x y (none,na,nb,out,g,ac,bc) st'
end
section
variable {prog:Program}{w:World}{A:Around}{E:Value->Shared->Prop}{s:Shared}{κ:SortKind}{a₀:Array Keyed}{R:Keyed->Nat}{a:Array Keyed}{b:Array Keyed}{out:Array Keyed}{na:Nat}{nb:Nat}{k:Nat}{y:Keyed}{x:Keyed}
theorem zxz {au:SortSt}{Q:Array Keyed->SortSt->Prop}(O:Orc prog w A s κ a₀ R)(hk:kindOf au=κ)(ma:∀x∈a.toList,x∈a₀.toList)(mb:∀x∈b.toList,x∈a₀.toList)(T:TwoH R a.toList b.toList)(ha:1<=a.size)(hb:1<=b.size)
  (lst:∀x,a.toList[a.size - 1]?=some x->∀y∈b.toList,R y<=R x)(h:∀r st',SmG au st'->Fin R a.toList b.toList r->Q r st'):wpS (model prog w) A E s (mergeHi' a b) Q au:=by
 have atA:∀(i:Nat) (hi:i < a.size),a[i]?=some a[i]/\a.toList[i]?=some a[i]/\a[i]∈a₀.toList:=λi hi=>⟨getElem?_pos a i hi,by rw[xci];exact getElem?_pos a i hi,ma _ (by simp)⟩
 have atB:∀(i:Nat) (hi:i < b.size),b[i]?=some b[i]/\b.toList[i]?=some b[i]/\b[i]∈a₀.toList:=λi hi=>⟨getElem?_pos b i hi,by rw[xci];exact getElem?_pos b i hi,mb _ (by simp)⟩
 have upA:∀n,n<=a.size->UpA R a 0 (0+n):=λn hn p q a1 a2 a3=>by
  have hq:q < a.size:=xbk a3 (xbc (xdi (xep n)) hn);have e1:=(atA p (xdf a2 hq)).2.1;have e2:=(atA q hq).2.1;rw[zby e1,zby e2];exact T.oa.at e1 e2 a2
 have upB:∀n,n<=b.size->UpA R b 0 (0+n):=λn hn p q a1 a2 a3=>by
  have hq:q < b.size:=xbk a3 (xbc (xdi (xep n)) hn);have e1:=(atB p (xdf a2 hq)).2.1;have e2:=(atB q hq).2.1;rw[zby e1,zby e2];exact T.ob.at e1 e2 a2
 obtain⟨x0,f0,f1⟩:∃x,a[a.size - 1]?=some x/\a.toList[a.size - 1]?=some x:=⟨_,(atA (a.size - 1) (xiu ha Nat.one_pos)).1,(atA (a.size - 1) (xiu ha Nat.one_pos)).2.1⟩
 have start:MH R (a.toList++b.toList) (#[x0]:Array Keyed).toList (a.toList.take (a.size - 1)++b.toList.take b.size):=by
  have z:MH R (a.toList++b.toList) (#[]:Array Keyed).toList (a.toList.take (a.size - 1+1)++b.toList.take b.size):=by
   refine⟨?_,List.Pairwise.nil,by simp⟩;rw[xhj ha,xdj (by simp),xdj (by simp)];simp
  exact z.pushA T f1 λy hy=>lst x0 f1 y (xfj hy)
 refine xbl (xlh (xhh ⟨rfl,xbl (zmm f0 (zbst (λc1=>?_) (λc2=>?_) λc1 c2=>?_))⟩))
 ·exact xbn (h _ _ (.refl _) (start.done T (.inl (by simpa using c1))))
 ·exact xbn (h _ _ (.refl _) (start.firstB T (by simpa using c2)))
 simp only[xhf] at c1 c2;refine xbl (xir ?_);refine xbl (xga (xdx (I:=H1 R a b au) (Q:=Dn R a b au) ?_ ?_ (.mk (.refl _) start (by lia) (by lia) (by lia) (xbg _) (by lia))) ?_)
 ·rintro x c st1 x1 x2 @⟨na,nb,out,g,st1,sm1,m,a1,a2,b1,b2,hx⟩;dsimp only;refine xbl (xga (xdx (I:=λ_=>H2 R a b au (na+nb)) (Q:=λc st'=>Dn R a b au c st'\/H2 R a b au (na+nb) c st') ?_ ?_ (.mk sm1 m a1 a2 b1 b2 (xbg _))) ?_)
  ·rintro x' c st2 _ _ @⟨na',nb',out,ac,bc,st2,sm2,m,g1,g2,g3,g4,hp⟩;obtain⟨p,rfl⟩:∃p,na'=p+1:=⟨na' - 1,(xhj g1).symm⟩
   obtain⟨q,rfl⟩:∃q,nb'=q+1:=⟨nb' - 1,(xhj (xdo g3)).symm⟩
   dsimp only;have ea:=(atA p g2).1;have ela:=(atA p g2).2.1;have mea:=(atA p g2).2.2;have eb:=(atB q g4).1;have elb:=(atB q g4).2.1;have meb:=(atB q g4).2.2;refine w_el eb (w_el ea (zbhw O (sm2.kind.trans hk) meb mea (λcw=>w_el ea ?_) λcw=>w_el eb ?_))
   ·skip
    have m2:=m.pushA T ela λz hz=>by
     obtain⟨j,hj,e⟩:=zu hz;exact xbc (T.ob.at e elb (xct hj)) (xca cw)
    refine w_if (λc5=>xbn (.inl (.mk sm2 (m2.done T (.inl (eq_of_beq c5)))))) λc5=>?_
    rw[xhf] at c5;have a3:1<=p:=xmg c5;have a4:p<=a.size:=xdo g2;have a5:p+(q+1)<=na+nb:=xbc (Nat.add_le_add_right (xld p) _) hp;exact w_if (λ_=>xbn (.inr (.mk sm2 m2 a3 a4 g3 g4 a5))) λ_=>xbn (.mk sm2 m2 a3 a4 g3 g4 a5)
   ·skip
    have m2:=m.pushB T elb λz hz=>by
     obtain⟨j,hj,e⟩:=zu hz;exact xbc (T.oa.at e ela (xct hj)) cw
    refine w_if (λc5=>xbn (.inl (.mk sm2 (m2.firstB T (eq_of_beq c5))))) λc5=>?_
    rw[xhf] at c5;have a3:2<=q:=xdg (Nat.le_of_succ_le_succ g3) (xcx c5);have a4:q<=b.size:=xdo g4;have a5:p+1+q<=na+nb:=xdo hp;exact w_if (λ_=>xbn (.inr (.mk sm2 m2 g1 g2 a3 a4 a5))) λ_=>xbn (.mk sm2 m2 g1 g2 a3 a4 a5)
  ·exact λc st2 k=>.inr k
  ·rintro c st2 (⟨sm2,f⟩ | @⟨na',nb',out,ac,bc,st2,sm2,m,g1,g2,g3,g4,hp⟩)
   ·exact xbn (.mk sm2 f)
   ·dsimp only;refine xbl (xlh (xhh ⟨rfl,?_⟩));refine xbl (xga (xdx (I:=H3 R a b au (na+nb)) (Q:=λc st'=>Dn R a b au c st'\/H3 R a b au (na+nb) 1 c st') ?_ ?_ (.mk sm2 m g1 g2 g3 g4 (by rw[xep];exact hp))) ?_)
    ·rintro x' c st3 _ x2' @⟨na',nb',out,g',ac,bc,st3,sm3,m,g1,g2,g3,g4,hp⟩;obtain⟨q,rfl⟩:∃q,nb'=q+1:=⟨nb' - 1,(xhj (xdo g3)).symm⟩
     dsimp only;have eb:=(atB q g4).1;have elb:=(atB q g4).2.1;have meb:=(atB q g4).2.2;generalize g' - 1=g1;generalize g'=y;revert g1;revert y
     refine zbss ?_;intro gg;refine xbl (zxw λst4 sg=>?_);have sm4:=sm3.trans sg;refine w_el eb (xbl (zgt O (sm4.kind.trans hk) meb (λi hi=>⟨_,(atA (0+i) (by lia)).1,(atA (0+i) (by lia)).2.2⟩) (by lia) (upA na' g2) λk1 cut1=>?_));have m5:=(m.galA T elb g2 cut1).1;have u5:=(m.galA T elb g2 cut1).2;have hk1:=cut1.1;dsimp only;refine zbsu (λc6=>?_) (λc6 c7=>?_) λhh=>?_
     ·have z:k1=na':=by lia
      subst z;rw[show out++(a.extract k1 k1).reverse=out by simp[xho]]
     ·exact xbn (.inl (.mk sm4 (m5.done T (.inl (eq_of_beq c7)))))
     have g5:1<=k1:=by
      by_cases c6:na' - k1 > 0
      ·have:=hh c6;simp at this;lia
      ·lia
     have g6:k1<=a.size:=xbc hk1 g2;have hp5:x'+k1+(q+1)<=na+nb:=by lia
     clear hh hk1 cut1;generalize out++(a.extract k1 na').reverse=out5 at m5 ⊢;obtain⟨p,rfl⟩:∃p,k1=p+1:=⟨k1 - 1,(xhj g5).symm⟩
     simp only[Nat.add_sub_cancel];have m6:=m5.pushB T elb u5;have ea:=(atA p g6).1;have ela:=(atA p g6).2.1;have mea:=(atA p g6).2.2;refine w_el eb (w_if (λc9=>xbn (.inl (.mk sm4 (m6.firstB T (eq_of_beq c9))))) λc9=>w_el ea ?_);rw[xhf] at c9;refine xbl (zgt O (sm4.kind.trans hk) mea (λi hi=>⟨_,(atB (0+i) (by lia)).1,(atB (0+i) (by lia)).2.2⟩) (by lia) (upB q (xdo g4)) λk2 cut2=>?_);have m7:=(m6.galB T ela (xdo g4) cut2).1;have u7:=(m6.galB T ela (xdo g4) cut2).2;have hk2:=cut2.1;dsimp only;refine zbhx (λd6=>?_) (λd6 d7=>?_) (λd6 d9=>?_) λhh=>?_
     ·have z2:k2=q:=by lia
      subst z2;simp only[xjo (xbc (xho _ _) (xbg _)),Array.reverse_empty,xmf]
     ·exact xbn (.inl (.mk sm4 (m7.firstB T (eq_of_beq d7))))
     ·exact xbn (.inl (.mk sm4 (m7.done T (.inr (eq_of_beq d9)))))
     have h20:2<=k2:=by
      by_cases d6:q - k2 > 0
      ·have:=hh d6;simp at this;lia
      ·lia
     have m8:=m7.pushA T ela u7;refine w_el ea (w_if (λd8=>xbn (.inl (.mk sm4 (m8.done T (.inl (eq_of_beq d8)))))) λd8=>?_);rw[xhf] at d8;have a3:1<=p:=xmg d8;have a4:p<=a.size:=xdo g6;have a5:k2<=b.size:=xbc hk2 (xdo g4);have a6:x'+1+p+k2<=na+nb:=by lia
     exact w_if (λ_=>xbn (.inr (.mk sm4 m8 a3 a4 h20 a5 (by lia)))) λ_=>xbn (.mk sm4 m8 a3 a4 h20 a5 a6)
    ·rintro c st3 ⟨sm3,m,g1,g2,g3,g4,hp⟩;exact .inr (.mk sm3 m g1 g2 g3 g4 (by lia))
    ·rintro c st3 (⟨sm3,f⟩ | @⟨na',nb',out,g',ac,bc,st3,sm3,m,g1,g2,g3,g4,hp⟩)
     ·exact xbn (.mk sm3 f)
     ·have h9:x+1+na'+nb' < a.size+b.size:=by lia
      exact xbl (zxw λst4 sg=>xbn (.mk (sm3.trans sg) m g1 g2 g3 g4 h9))
 ·rintro c st1 ⟨sm1,m,a1,a2,b1,b2,hx⟩;lia
 ·rintro c st1 ⟨sm1,f⟩;exact xbn (h _ st1 sm1 f)
end
end
theorem zuj:∀(l:List Keyed) (n off:Nat) (xs:Array Keyed),off+n+l.length<=xs.size->∀i,((l.zipIdx n).foldl (λa p=>a.setIfInBounds (off+p.2) p.1) xs)[i]?=if off+n<=i/\i < off+n+l.length then l[i - (off+n)]? else xs[i]?
 | [],n,off,xs,h,i=>by
  rw[if_neg (by simp)]
  rfl
 | x::l,n,off,xs,h,i=>by
  rw[List.zipIdx_cons,xhq];rw[xcc] at h;have e1:off+(n+1)+l.length=off+n+(l.length+1):=Nat.succ_add_eq_add_succ (off+n) l.length;rw[zuj l (n+1) off _ (by rw[Array.size_setIfInBounds];exact xbc (xdi e1) h) i];rw[xcc];by_cases c:off+(n+1)<=i/\i < off+(n+1)+l.length
  ·rw[if_pos c,if_pos ⟨xdo c.1,xgt c.2 e1⟩,show i - (off+n)=i - (off+(n+1))+1 from(xhj (xgg c.1)).symm,xip]
  ·rw[if_neg c];by_cases c2:i=off+n
   ·rw[if_pos ⟨xdi c2.symm,xdf (xdi c2) (xio (Nat.succ_pos _))⟩,c2,xki,List.getElem?_cons_zero];exact xjy (xbk (xio (Nat.succ_pos l.length)) h)
   ·rw[if_neg λz=>c ⟨xdg z.1 (xcx c2),xgt z.2 e1.symm⟩];exact xll (λz=>c2 z.symm)
theorem zbec {m xs:Array Keyed}  (h:off+m.size<=xs.size):(m.toList.zipIdx.foldl (λa p=>a.setIfInBounds (off+p.2) p.1) xs).toList=xs.toList.take off++m.toList++xs.toList.drop (off+m.size):=by
 apply xkx;intro i;rw[xci,zuj m.toList 0 off xs (by simpa using h) i];simp only[xkj,xcd];have l1:(xs.toList.take off).length=off:=by rw[xcz,xcd];exact xez (xbc (xcf _ _) h)
 by_cases c:off<=i/\i < off+m.size
 ·rw[if_pos c,xck,xdk (xbc (xdi l1) c.1),l1,xcg (by rw[xcd];exact xdz c.1 c.2)]
 ·rw[if_neg c];by_cases c2:i < off
  ·rw[xck,xcg (xgt c2 l1.symm),List.getElem?_take,if_pos c2,xci]
  ·have h3:off+m.size<=i:=xcj λz=>c ⟨xcj c2,z⟩
   rw[xdk (by rw[xbh,l1,xcd];exact h3),xfx];simp only[xbh,l1,xcd];rw[xcl h3,xci]
section
theorem zbbt   (up:UpA R xs i j)(hj:j<=xs.size):Ord R (xs.extract i j).toList:=by
 rw[zce];refine xfq.mpr λp q hp hq hpq=>?_
 simp only[xcz,xha,xcd] at hp hq;simp only[xmv,xmu,Array.getElem_toList];have:=up (i+p) (i+q) (xcf _ _) (xcn (xca hpq) i) (xef (xbk hq (xho _ _)));rw[zed (getElem?_pos xs (i+p) (xef (xbk hp (xfu _ _)))),zed (getElem?_pos xs (i+q) (xef (xbk hq (xfu _ _))))] at this;exact this
theorem zkt {xs:Array Keyed}   (h:x∈(xs.extract i j).toList):∃q,i<=q/\q < j/\xs[q]?=some x:=by
 rw[zce] at h;obtain⟨q,hq,e⟩:=zu h;rw[xfx,xci] at e;exact⟨i+q,xcf _ _,xef hq,e⟩
theorem zbli {xs:Array Keyed}  (h:q < j - i):(xs.extract i j).toList[q]?=xs[i+q]?:=by
 rw[zce,List.getElem?_take,if_pos h,xfx,xci]
structure Mg (R:Keyed->Nat) (xs ys:Array Keyed) (lo hi:Nat):Prop where
 perm:ys.Perm xs
 out:Out ys xs lo hi
 up:UpA R ys lo hi
theorem zzm {xs:Array Keyed}{sa sb ea k nb':Nat}  (hsb:sb<=ea)(hea:ea<=xs.size)(hk:sa+k < sb)(hnb:sb+nb'<=ea)(hnb1:1<=nb')(upA:UpA R xs sa sb)(upB:UpA R xs sb ea)
  (e0:xs[sb]?=some y0)(el:xs[sb - 1]?=some xl)(c1:Cut false R y0 xs sa (sb - sa) k)(c2:Cut true R xl xs sb (ea - sb) nb')
  (f:Fin R (xs.extract (sa+k) sb).toList (xs.extract sb (sb+nb')).toList m):Mg R xs (m.toList.zipIdx.foldl (λa p=>a.setIfInBounds (sa+k+p.2) p.1) xs) sa ea:=by
 have lx:(xs.extract (sa+k) sb).toList.length=sb - (sa+k):=by rw[zce,xcz,xha,xcd];exact xez (xgd (xbc hsb hea) _)
 have ly:(xs.extract sb (sb+nb')).toList.length=nb':=by rw[zce,xcz,xha,xcd,xdc];exact xez (xff (xbc hnb hea))
 have lm:m.size=sb+nb' - (sa+k):=by
  have:=f.1.length_eq;rw[xbh,lx,ly,xcd] at this;exact this.trans (Nat.sub_add_comm (xca hk)).symm
 have he:sa+k+m.size=sb+nb':=by rw[lm];exact xcl (xbc (xca hk) (xcf _ _))
 have hsz:sa+k+m.size<=xs.size:=by rw[he];exact xbc hnb hea
 have hs1:=xdl hk;have s1:sb - 1 < sb:=xiu (xkv hk) Nat.one_pos;have g:∀i,(m.toList.zipIdx.foldl (λa p=>a.setIfInBounds (sa+k+p.2) p.1) xs)[i]?=if sa+k<=i/\i < sb+nb' then m.toList[i - (sa+k)]? else xs[i]?:=λi=>by
  have:=zuj m.toList 0 (sa+k) xs (by simpa using hsz) i;simp only[xkj,xcd] at this;rw[he] at this;exact this
 have mid:∀v∈m.toList,R y0<=R v/\R v<=R xl:=λv hv=>by
  rcases xbx.mp (f.1.mem_iff.mp hv) with hv | hv
  ·obtain⟨q,q1,q2,e⟩:=zkt hv;have q0:=xbc (xcf _ _) q1;have h1:=c1.2.2 (q - sa) (xff q1) (xey q0 q2);rw[xcl q0,zed e] at h1;have h2:=upA q (sb - 1) q0 (xdl q2) s1;rw[zed e,zed el] at h2;have h1':R y0 < R v:=h1;exact⟨xca h1',h2⟩
  ·obtain⟨q,q1,q2,e⟩:=zkt hv;have h1:=upB sb q (xbg _) q1 (xbk q2 hnb);rw[zed e,zed e0] at h1;have h2:=c2.2.1 (q - sb) (xdz q1 q2);rw[xcl q1,zed e] at h2;have h2':R v < R xl:=h2;exact⟨h1,xca h2'⟩
 have low:∀i,sa<=i->i < sa+k->kA R xs i<=R y0:=λi a1 a2=>by
  have:=c1.2.1 (i - sa) (xdz a1 a2);rw[xcl a1] at this;exact this
 have hig:∀i,sb+nb'<=i->i < ea->R xl<=kA R xs i:=λi a1 a2=>by
  have i0:=xbc (xcf _ _) a1;have:=c2.2.2 (i - sb) (xff a1) (xey i0 a2);rw[xcl i0] at this;exact this
 have kk:∀i,kA R (m.toList.zipIdx.foldl (λa p=>a.setIfInBounds (sa+k+p.2) p.1) xs) i=if sa+k<=i/\i < sb+nb' then kA R m (i - (sa+k)) else kA R xs i:=λi=>by
  have:=g i;split
  ·rename_i c;rw[if_pos c,xci] at this;exact zdv this
  ·rename_i c;rw[if_neg c] at this;exact zdv this
 have mm:∀i,i < m.size->∃v,m.toList[i]?=some v/\v∈m.toList:=λi hi=>⟨m.toList[i]'(by simpa using hi),xbe _,xda _⟩
 refine⟨?_,λi hi=>?_,λi j a1 a2 a3=>?_⟩
 ·refine xfm.mpr ?_;rw[zbec hsz,he];have split:xs.toList=xs.toList.take (sa+k)++((xs.extract (sa+k) sb).toList++(xs.extract sb (sb+nb')).toList)++xs.toList.drop (sb+nb'):=by
   rw[zce,zce];rw[xdc]
   conv=>lhs;rw[← xdq (sa+k) xs.toList,← xdq (sb - (sa+k)) (xs.toList.drop (sa+k)),xma,xcl (xca hk),← xdq nb' (xs.toList.drop sb),xma]
   simp only[xck]
  conv=>rhs;rw[split]
  exact xjg _ (xgr _ f.1)
 ·rw[g i,if_neg λz=>hi.elim (λh=>xfc (xbc (xcf sa k) z.1) h) λh=>xfc h (xbk z.2 hnb)]
 ·rw[kk,kk];by_cases ci:sa+k<=i/\i < sb+nb'
  ·rw[if_pos ci];obtain⟨v,ev,mv⟩:=mm (i - (sa+k)) (by rw[lm];exact xey ci.1 ci.2);rw[zby ev];by_cases cj:sa+k<=j/\j < sb+nb'
   ·rw[if_pos cj];obtain⟨u,eu,mu⟩:=mm (j - (sa+k)) (by rw[lm];exact xey cj.1 cj.2);rw[zby eu];exact f.2.at ev eu (xgd a2 _)
   ·rw[if_neg cj];exact xbc (mid v mv).2 (hig j (xcj λz=>cj ⟨xbc ci.1 a2,z⟩) a3)
  ·rw[if_neg ci];by_cases ci2:i < sa+k
   ·have h1:=low i a1 ci2;by_cases cj:sa+k<=j/\j < sb+nb'
    ·rw[if_pos cj];obtain⟨u,eu,mu⟩:=mm (j - (sa+k)) (by rw[lm];exact xey cj.1 cj.2);rw[zby eu];exact xbc h1 (mid u mu).1
    ·rw[if_neg cj];by_cases cj2:j < sa+k
     ·exact upA i j a1 a2 (xjn cj2 hk)
     ·have h2:=hig j (xcj λz=>cj ⟨xcj cj2,z⟩) a3;have h3:R y0<=R xl:=by
       have s0:=xbc (xcf _ _) hs1;have h4:=c1.2.2 (sb - 1 - sa) (xff hs1) (xey s0 s1);rw[xcl s0,zed el] at h4;exact xca h4
      exact xbc h1 (xbc h3 h2)
   ·have hi2:sb+nb'<=i:=xcj λz=>ci ⟨xcj ci2,z⟩
    rw[if_neg λz=>xfc (xbc hi2 a2) z.2];exact upB i j (xbc (xcf _ _) hi2) a2 a3
end
section
section
variable {prog:Program}{w:World}{A:Around}{E:Value->Shared->Prop}{s:Shared}
theorem zbtp {x au:SortSt}{Q:Unit->SortSt->Prop}(h:Q () x):wpS (model prog w) A E s (set x:StateT SortSt Sem PUnit) Q au:=by
 unfold wpS;rw[StateT.run_set];exact xbd ⟨rfl,h⟩
end
section
variable {prog:Program}{w:World}{A:Around}{E:Value->Shared->Prop}{s:Shared}{κ:SortKind}{a₀:Array Keyed}{R:Keyed->Nat}
theorem zya {i sa na pw sb nb pw':Nat}{au:SortSt}{Q:Bool->SortSt->Prop}(O:Orc prog w A s κ a₀ R)(b:B κ a₀ au)(p1:(pendingOf au)[i]?=some (sa,na,pw))(p2:(pendingOf au)[i+1]?=some (sb,nb,pw'))(hsb:sb=sa+na)(hna:1<=na)(hnb:1<=nb)(hz:sb+nb<=a₀.size)
  (upA:UpA R (arrOf au) sa sb)(upB:UpA R (arrOf au) sb (sb+nb))
  (h:∀st',B κ a₀ st'->pendingOf st'=((pendingOf au).setIfInBounds i (sa,na+nb,pw)).eraseIdxIfInBounds (i+1)->Out (arrOf st') (arrOf au) sa (sb+nb)->UpA R (arrOf st') sa (sb+nb)->Q true st'):wpS (model prog w) A E s (mergeAt' i) Q au:=by
 have hsz:=b.size;have bs:sb < a₀.size:=xbk (xio hnb) hz;refine xbl (xir ?_);dsimp only;have q1:(sortPriv% PySem.Builtin.SortState.pending) au=pendingOf au:=rfl;rw[q1,p1,p2];dsimp only;refine xbl (zbtp ?_);obtain⟨y0,e0,my0⟩:=b.mem (i:=sb) bs;have inA:∀q,q < a₀.size->∃x,(arrOf au)[q]?=some x/\x∈a₀.toList:=λq hq=>b.mem hq
 refine xbl (zmm e0 ?_);refine xbl (zgt O b.kind my0 (λq hq=>inA (sa+q) (xjn (xgt (xet hq sa) hsb.symm) bs)) hna (by rw[← hsb];exact upA) λk c1=>?_);dsimp only;have hk:=c1.1;have c1':Cut false R y0 (arrOf au) sa (sb - sa) k:=by rw[show sb - sa=na from by rw[hsb,xdc]];exact c1
 by_cases d1:na - k=0
 ·rw[if_pos (by simpa using d1)];refine xbn (h _ ⟨b.perm,b.kind,b.failed⟩ rfl (Out.refl _ _ _) λp q a1 a2 a3=>?_);by_cases z1:q < sb
  ·exact upA p q a1 a2 z1
  ·by_cases z2:p < sb
   ·have h1:=c1.2.1 (p - sa) (xbk (xdz a1 (xgt z2 hsb)) (Nat.le_of_sub_eq_zero d1));rw[xcl a1] at h1;have h2:=upB sb q (xbg _) (xcj z1) a3;rw[zed e0] at h2;exact xbc h1 h2
   ·exact upB p q (xcj z2) a2 a3
 ·rw[if_neg (by simpa using d1)];have hk2:sa+k < sb:=xgt (xet (xgo λz=>d1 (Nat.sub_eq_zero_of_le z)) sa) hsb.symm;have s1:sb - 1 < sb:=xiu (xkv hk2) Nat.one_pos;obtain⟨xl,el,mxl⟩:=inA (sb - 1) (xjn s1 bs);have el':(arrOf au)[sa+k+(na - k) - 1]?=some xl:=by rw[Nat.add_assoc,xcl hk,← hsb];exact el
  refine xbl (zmm el' ?_);refine xbl (zgt O b.kind mxl (λq hq=>inA (sb+q) (xbk (xet hq sb) hz)) (xiu hnb Nat.one_pos) upB λnb' c2=>?_);dsimp only;have hn2:=c2.1;have c2':Cut true R xl (arrOf au) sb (sb+nb - sb) nb':=by rw[xdc];exact c2
  by_cases d2:nb'=0
  ·rw[if_pos (by simpa using d2)];refine xbn (h _ ⟨b.perm,b.kind,b.failed⟩ rfl (Out.refl _ _ _) λp q a1 a2 a3=>?_);subst d2;by_cases z1:q < sb
   ·exact upA p q a1 a2 z1
   ·by_cases z2:p < sb
    ·have h1:=upA p (sb - 1) a1 (xdl z2) s1;rw[zed el] at h1;have h2:=c2.2.2 (q - sb) (xdu _) (xdz (xcj z1) a3);rw[xcl (xcj z1)] at h2;exact xbc h1 h2
    ·exact upB p q (xcj z2) a2 a3
  ·rw[if_neg (by simpa using d2)];have hn1:1<=nb':=xmg d2;have hez:sb<=(arrOf au).size:=by rw[hsz];exact xca bs
   have hbz:sb+nb<=(arrOf au).size:=by rw[hsz];exact hz
   have hb2:sb+nb'<=sb+nb:=xcn hn2 sb;have oa:Ord R ((arrOf au).extract (sa+k) sb).toList:=zbbt (λp q a1 a2 a3=>upA p q (xbc (xcf _ _) a1) a2 a3) hez;have ob:Ord R ((arrOf au).extract sb (sb+nb')).toList:=zbbt (λp q a1 a2 a3=>upB p q a1 a2 (xbk a3 hb2)) (xbc hb2 hbz);have ma:∀x∈((arrOf au).extract (sa+k) sb).toList,x∈a₀.toList:=λx hx=>by
    obtain⟨q,q1,q2,e⟩:=zkt hx;obtain⟨x',e',m'⟩:=inA q (xjn q2 bs);rw[e] at e';cases e';exact m'
   have mb:∀x∈((arrOf au).extract sb (sb+nb')).toList,x∈a₀.toList:=λx hx=>by
    obtain⟨q,q1,q2,e⟩:=zkt hx;obtain⟨x',e',m'⟩:=inA q (xbk q2 (xbc hb2 hz));rw[e] at e';cases e';exact m'
   have sx:((arrOf au).extract (sa+k) sb).size=sb - (sa+k):=by rw[Array.size_extract,xez hez]
   have sy:((arrOf au).extract sb (sb+nb')).size=nb':=by rw[Array.size_extract,xez (xbc hb2 hbz),xdc]
   have fst:∀y,((arrOf au).extract sb (sb+nb')).toList[0]?=some y->∀x∈((arrOf au).extract (sa+k) sb).toList,R y<=R x:=λy hy x hx=>by
    rw[zbli (by rw[xdc];exact hn1),xkj,e0] at hy;cases hy;obtain⟨q,q1,q2,e⟩:=zkt hx;have q0:=xbc (xcf _ _) q1;have:=c1.2.2 (q - sa) (xff q1) (xdz q0 (xgt q2 hsb));rw[xcl q0,zed e] at this;exact xca this
   have lst:∀x,((arrOf au).extract (sa+k) sb).toList[sb - (sa+k) - 1]?=some x->∀y∈((arrOf au).extract sb (sb+nb')).toList,R y<=R x:=λx hx y hy=>by
    rw[zbli (xiu (xgg hk2) Nat.one_pos),show sa+k+(sb - (sa+k) - 1)=sb - 1 from by rw[← Nat.add_sub_assoc (xgg hk2),xcl (xca hk2)],el] at hx;cases hx;obtain⟨q,q1,q2,e⟩:=zkt hy;have:=c2.2.1 (q - sb) (xdz q1 q2);rw[xcl q1,zed e] at this;exact xca this
   have post:∀m st2,SmG au st2\/True->Fin R ((arrOf au).extract (sa+k) sb).toList ((arrOf au).extract sb (sb+nb')).toList m->Mg R (arrOf au) (m.toList.zipIdx.foldl (λa p=>a.setIfInBounds (sa+k+p.2) p.1) (arrOf au)) sa (sb+nb):=λm _ _ f =>
    zzm (xcf _ _) hbz hk2 hb2 hn1 upA upB e0 el c1' c2' f
   by_cases d3:na - k<=nb'
   ·rw[if_pos d3];refine xbl (zxy O b.kind ma mb ⟨oa,ob,λx hx=>lst x (by rw[xcd,sx] at hx;exact hx)⟩ (by show 1<=((arrOf au).extract (sa+k) sb).size;rw[sx];exact xgg hk2) (by show 1<=((arrOf au).extract sb (sb+nb')).size;rw[sy];exact hn1) fst λm st2 sg f=>?_);have mg:=post m st2 (.inr trivial) f;refine xbl (xhg (xbl (xir ?_)));have a2:arrOf st2=arrOf au:=sg.arr;have f2:failedOf st2=none:=sg.failed.trans b.failed;refine xbn (?_:Q ((failedOf st2).isNone) (setArr st2 (m.toList.zipIdx.foldl (λa p=>a.setIfInBounds (sa+k+p.2) p.1) (arrOf st2))));rw[f2,a2];exact h _ ⟨mg.perm.trans b.perm,sg.kind.trans b.kind,f2⟩ sg.pend mg.out mg.up
   ·rw[if_neg d3];refine xbl (zxz O b.kind ma mb ⟨oa,ob,fst⟩ (by show 1<=((arrOf au).extract (sa+k) sb).size;rw[sx];exact xgg hk2) (by show 1<=((arrOf au).extract sb (sb+nb')).size;rw[sy];exact hn1) (λx hx=>lst x (by rw[sx] at hx;exact hx)) λm st2 sg f=>?_);have mg:=post m st2 (.inr trivial) f;refine xbl (xhg (xbl (xir ?_)));have a2:arrOf st2=arrOf au:=sg.arr;have f2:failedOf st2=none:=sg.failed.trans b.failed;refine xbn (?_:Q ((failedOf st2).isNone) (setArr st2 (m.toList.zipIdx.foldl (λa p=>a.setIfInBounds (sa+k+p.2) p.1) (arrOf st2))));rw[f2,a2];exact h _ ⟨mg.perm.trans b.perm,sg.kind.trans b.kind,f2⟩ sg.pend mg.out mg.up
end
end
def Segs (R:Keyed->Nat) (xs:Array Keyed):Nat->List (Nat×Nat×Nat)->Nat->Prop
 | s,[],e=>s=e
 | s,p::r,e=>p.1=s/\1<=p.2.1/\UpA R xs s (s+p.2.1)/\Segs R xs (s+p.2.1) r e
section
theorem Segs.le:∀{l:List (Nat×Nat×Nat)} {s e:Nat},Segs R xs s l e->s+l.length<=e
 | [],s,e,h=>by cases h;simp
 | p::r,s,e,h=>by
  have:=Segs.le h.2.2.2;have:=h.2.1;simp;lia
theorem Segs.append:∀{l m:List (Nat×Nat×Nat)} {s e:Nat},Segs R xs s (l++m) e↔∃k,Segs R xs s l k/\Segs R xs k m e
 | [],m,s,e=>⟨λh=>⟨s,rfl,h⟩,λ⟨k,h1,h2⟩=>by cases h1;exact h2⟩
 | p::r,m,s,e=>by
  constructor
  ·rintro⟨h1,h2,h3,h4⟩;obtain⟨k,g1,g2⟩:=Segs.append.mp h4;exact⟨k,⟨h1,h2,h3,g1⟩,g2⟩
  ·rintro⟨k,⟨h1,h2,h3,h4⟩,g2⟩;exact⟨h1,h2,h3,Segs.append.mpr ⟨k,h4,g2⟩⟩
theorem UpA.same  (h:UpA R xs a b)(e:∀i,a<=i->i < b->ys[i]?=xs[i]?):UpA R ys a b:=λi j a1 a2 a3=>by
 rw[zdv (e i a1 (xdf a2 a3)),zdv (e j (xbc a1 a2) a3)];exact h i j a1 a2 a3
theorem Segs.same:∀{l:List (Nat×Nat×Nat)} {s e:Nat},Segs R xs s l e->(∀i,s<=i->i < e->ys[i]?=xs[i]?)->Segs R ys s l e
 | [],s,e,h,_=>h
 | p::r,s,e,h,k=>by
  have:=Segs.le h.2.2.2;exact⟨h.1,h.2.1,h.2.2.1.same λi a1 a2=>k i a1 (xbk a2 (xbc (xcf _ _) this)),Segs.same h.2.2.2 λi a1 a2=>k i (xbc (xcf _ _) a1) a2⟩
theorem Segs.power :∀{l m:List (Nat×Nat×Nat)},l.map (λp=>(p.1,p.2.1))=m.map (λp=>(p.1,p.2.1))->Segs R xs s l e->Segs R xs s m e:=by
 intro l
 induction l generalizing s with
 | nil=>intro m h k;cases m with
  | nil=>exact k
  | cons=>cases h
 | cons p r ih=>intro m h k;cases m with
  | nil=>cases h
  | cons q t =>
   rw[xbs,xbs] at h;obtain⟨h1,h2⟩:=List.cons.inj h;obtain⟨g1,g2⟩:=Prod.mk.inj h1;obtain⟨k1,k2,k3,k4⟩:=k;rw[g2] at k2 k3 k4;exact⟨g1.symm.trans k1,k2,k3,ih h2 k4⟩
end
section
theorem zbfj {l:List (Nat×Nat×Nat)}  (h:i+1 < l.length):∃pre p q post,l=pre++p::q::post/\pre.length=i:=by
 refine⟨l.take i,l[i],l[i+1],l.drop (i+2),?_,by rw[xcz];exact xez (xca (xfn h))⟩
 conv=>lhs;rw[← xdq i l,xfr (xfn h),xfr h]
section
variable {prog:Program}{w:World}{A:Around}{E:Value->Shared->Prop}{s:Shared}{κ:SortKind}{a₀:Array Keyed}{R:Keyed->Nat}
theorem w_at {i e:Nat}{au:SortSt}{Q:Bool->SortSt->Prop}(O:Orc prog w A s κ a₀ R)(b:B κ a₀ au)(sg:Segs R (arrOf au) 0 (pendingOf au).toList e)(he:e<=a₀.size)(hi:i+1 < (pendingOf au).size)
  (h:∀st',B κ a₀ st'->Segs R (arrOf st') 0 (pendingOf st').toList e->(pendingOf st').size+1=(pendingOf au).size->(∀k,e<=k->(arrOf st')[k]?=(arrOf au)[k]?)->Q true st'):wpS (model prog w) A E s (mergeAt' i) Q au:=by
 obtain⟨pre,p,q,post,el,hl⟩:=zbfj (l:=(pendingOf au).toList) (i:=i) (by simpa using hi);obtain⟨sa,na,pw⟩:=p;obtain⟨sb,nb,pw'⟩:=q;rw[el] at sg;obtain⟨k,g1,g2⟩:=Segs.append.mp sg;obtain⟨h1,h2,h3,h4,h5,h6,h7⟩:=g2;dsimp only at h1 h2 h3 h4 h5 h6 h7;subst h1;have l7:=Segs.le h7;have l1:=Segs.le g1;have p1:(pendingOf au)[i]?=some (sa,na,pw):=by rw[← xci,el,xdk (xdi hl),hl,xki];rfl
 have p2:(pendingOf au)[i+1]?=some (sb,nb,pw'):=by rw[← xci,el,xdk (xbc (xdi hl) (xcf i 1)),hl,xdc];rfl
 refine zya O b p1 p2 h4 h2 h5 (by lia) (by rw[h4];exact h3) (by rw[h4];exact h6) λst' b' pe ou up=>?_
 have pl:(pendingOf st').toList=pre++(sa,na+nb,pw)::post:=by
  rw[pe];rw[Array.toList_eraseIdxIfInBounds,Array.toList_setIfInBounds,el];rw[xjp _ _ (xdi hl),hl,xki,List.set_cons_zero,List.eraseIdx_append_of_length_le (xbc (xdi hl) (xcf i 1)),hl,xdc]
  rfl
 have keep:∀j,j < sa\/sb+nb<=j->(arrOf st')[j]?=(arrOf au)[j]?:=ou
 refine h st' b' ?_ ?_ λj hj=>keep j (.inr (by lia))
 ·rw[pl];refine Segs.append.mpr ⟨sa,g1.same λj a1 a2=>keep j (.inl a2),rfl,by show 1<=na+nb;lia,?_,?_⟩
  ·show UpA R (arrOf st') sa (sa+(na+nb));rw[show sa+(na+nb)=sb+nb by lia];exact up
  ·show Segs R (arrOf st') (sa+(na+nb)) post e;rw[show sa+(na+nb)=sa+na+nb by lia];exact h7.same λj a1 a2=>keep j (.inr (by lia))
 ·have e1:(pendingOf st').size=(pendingOf st').toList.length:=by simp
  have e2:(pendingOf au).size=(pendingOf au).toList.length:=by simp
  rw[e1,e2,pl,el];simp only[xbh,xcc];lia
end
theorem zbpy  [Decidable c]  (h1:a+1 < n)(h2:b+1 < n):(if c then a else b)+1 < n:=by split<;>assumption
theorem zbbw   (h:∀x,g (f x)=g x):∀(l:List (Nat×Nat×Nat)) (i:Nat),(l.modify i f).map g=l.map g
 | [],i=>by simp
 | x::l,0=>by simp[h]
 | x::l,i+1=>by simp[zbbw h l i]
theorem Segs.mod    (h:Segs R xs s l e)(i c:Nat):Segs R xs s (l.modify i λx=>(x.1,x.2.1,c)) e :=
 h.power (zbbw (g:=λp=>(p.1,p.2.1)) (f:=λx=>(x.1,x.2.1,c)) (λ_=>rfl) l i).symm
section
variable {prog:Program}{w:World}{A:Around}{E:Value->Shared->Prop}{s:Shared}{κ:SortKind}{a₀:Array Keyed}{R:Keyed->Nat}
theorem zbns {au:SortSt}{Q:Unit->SortSt->Prop}(O:Orc prog w A s κ a₀ R)(b:B κ a₀ au)(pe:pendingOf au=#[])(h2:2<=a₀.size)
  (h:∀st',B κ a₀ st'->UpA R (arrOf st') 0 a₀.size->Q () st'):wpS (model prog w) A E s sortRuns' Q au:=by
 have hz:=b.size;rw[sortRuns'_eq];refine xbl (xir ?_);dsimp only;rw[hz]
 refine xbl (xga (xdx (I:=λx c st'=>∃lo,c=(none,lo)/\B κ a₀ st'/\Segs R (arrOf st') 0 (pendingOf st').toList lo/\lo<=a₀.size/\x<=lo)
  (Q:=λc st'=>c=(none,a₀.size)/\B κ a₀ st'/\Segs R (arrOf st') 0 (pendingOf st').toList a₀.size) ?_ ?_ ⟨0,rfl,b,by rw[pe];rfl,by lia,by lia⟩) ?_)
 ·rintro x c st1 x1 x2 ⟨lo,rfl,b1,sg1,hlo,hx⟩;dsimp only;by_cases c1:lo ≥ a₀.size
  ·rw[if_pos c1];have:lo=a₀.size:=by lia
   subst this;exact xbn ⟨rfl,b1,sg1⟩
  rw[if_neg c1];refine xbl (zbhy O b1 (by lia) (by lia) λm st2 m1 m2 b2 sm2 up2=>?_);dsimp only;have sg2:Segs R (arrOf st2) 0 (pendingOf st2).toList lo:=by
   rw[sm2.pend];exact sg1.same λi a1 a2=>sm2.out i (.inl a2)
  by_cases c2:m < minRun' a₀.size a₀.size 0
  ·rw[if_pos c2];refine xbl (xlh (xhh ⟨rfl,?_⟩));refine xbl (zbtq O b2 (by lia) m1 (by lia) up2 λst3 b3 sm3 up3=>?_);have sg3:Segs R (arrOf st3) 0 (pendingOf st3).toList lo:=by
    rw[sm3.pend];exact sg2.same λi a1 a2=>sm3.out i (.inl a2)
   have hn1:1<=min (a₀.size - lo) (minRun' a₀.size a₀.size 0):=by lia
   have hn2:lo+min (a₀.size - lo) (minRun' a₀.size a₀.size 0)<=a₀.size:=by lia
   simp only[xjz,xco,xec];generalize min (a₀.size - lo) (minRun' a₀.size a₀.size 0)=n at up3 hn1 hn2 sm3 ⊢;refine xbl (xir ?_);cases hb:(pendingOf st3).back? with
   | none =>
    dsimp only;refine xbl (xhg (xbn ⟨lo+n,rfl,⟨b3.perm,b3.kind,b3.failed⟩,?_,hn2,by lia⟩));show Segs R (arrOf st3) 0 ((pendingOf st3).push (lo,n,0)).toList (lo+n);rw[xfd];exact Segs.append.mpr ⟨lo,sg3,rfl,hn1,up3,rfl⟩
   | some p =>
    obtain⟨s1,n1,p1⟩:=p;dsimp only;refine xbl (xga (xdx (I:=λ_ c st'=>c=(none,())/\B κ a₀ st'/\Segs R (arrOf st') 0 (pendingOf st').toList lo/\UpA R (arrOf st') lo (lo+n)) (Q:=λc st'=>c=(none,())/\B κ a₀ st'/\Segs R (arrOf st') 0 (pendingOf st').toList lo/\UpA R (arrOf st') lo (lo+n)) ?_ (λ_ _ hh=>hh) ⟨rfl,b3,sg3,up3⟩) ?_)
    ·rintro x' c st4 _ _ ⟨rfl,b4,sg4,up4⟩;refine xbl (xir ?_);by_cases hs:(pendingOf st4).size > 1
     ·rw[if_pos hs,getElem?_pos (pendingOf st4) ((pendingOf st4).size - 2) (by lia)];obtain⟨s2,n2,p2⟩:=(pendingOf st4)[(pendingOf st4).size - 2]'(by lia);dsimp only;split
      ·exact xbn ⟨rfl,b4,sg4,up4⟩
      ·refine xbl (w_at O b4 sg4 hlo (by lia) λst5 b5 sg5 _ k5=>?_);exact xbn ⟨rfl,b5,sg5,up4.same λi a1 a2=>k5 i a1⟩
     ·rw[if_neg hs];exact xbn ⟨rfl,b4,sg4,up4⟩
    ·rintro c st4 ⟨rfl,b4,sg4,up4⟩;dsimp only;refine xbl (xhg (xbl (xhg (xbn ⟨lo+n,rfl,⟨b4.perm,b4.kind,b4.failed⟩,?_,hn2,by lia⟩))));refine(?_:Segs R (arrOf st4) 0 (((pendingOf st4).modify ((pendingOf st4).size - 1) λx=>(x.1,x.2.1,_)).push (lo,n,0)).toList (lo+n));rw[xfd,Array.toList_modify];exact Segs.append.mpr ⟨lo,sg4.mod _ _,rfl,hn1,up4,rfl⟩
  ·rw[if_neg c2];have b3:=b2;have sg3:=sg2;have up3:=up2;have hn1:=m1;have hn2:lo+m<=a₀.size:=by lia
   generalize st2=st3 at b3 sg3 up3 ⊢;generalize m=n at up3 hn1 hn2 ⊢;refine xbl (xir ?_);cases hb:(pendingOf st3).back? with
   | none =>
    dsimp only;refine xbl (xhg (xbn ⟨lo+n,rfl,⟨b3.perm,b3.kind,b3.failed⟩,?_,hn2,by lia⟩));show Segs R (arrOf st3) 0 ((pendingOf st3).push (lo,n,0)).toList (lo+n);rw[xfd];exact Segs.append.mpr ⟨lo,sg3,rfl,hn1,up3,rfl⟩
   | some p =>
    obtain⟨s1,n1,p1⟩:=p;dsimp only;refine xbl (xga (xdx (I:=λ_ c st'=>c=(none,())/\B κ a₀ st'/\Segs R (arrOf st') 0 (pendingOf st').toList lo/\UpA R (arrOf st') lo (lo+n)) (Q:=λc st'=>c=(none,())/\B κ a₀ st'/\Segs R (arrOf st') 0 (pendingOf st').toList lo/\UpA R (arrOf st') lo (lo+n)) ?_ (λ_ _ hh=>hh) ⟨rfl,b3,sg3,up3⟩) ?_)
    ·rintro x' c st4 _ _ ⟨rfl,b4,sg4,up4⟩;refine xbl (xir ?_);by_cases hs:(pendingOf st4).size > 1
     ·rw[if_pos hs,getElem?_pos (pendingOf st4) ((pendingOf st4).size - 2) (by lia)];obtain⟨s2,n2,p2⟩:=(pendingOf st4)[(pendingOf st4).size - 2]'(by lia);dsimp only;split
      ·exact xbn ⟨rfl,b4,sg4,up4⟩
      ·refine xbl (w_at O b4 sg4 hlo (by lia) λst5 b5 sg5 _ k5=>?_);exact xbn ⟨rfl,b5,sg5,up4.same λi a1 a2=>k5 i a1⟩
     ·rw[if_neg hs];exact xbn ⟨rfl,b4,sg4,up4⟩
    ·rintro c st4 ⟨rfl,b4,sg4,up4⟩;dsimp only;refine xbl (xhg (xbl (xhg (xbn ⟨lo+n,rfl,⟨b4.perm,b4.kind,b4.failed⟩,?_,hn2,by lia⟩))));refine(?_:Segs R (arrOf st4) 0 (((pendingOf st4).modify ((pendingOf st4).size - 1) λx=>(x.1,x.2.1,_)).push (lo,n,0)).toList (lo+n));rw[xfd,Array.toList_modify];exact Segs.append.mpr ⟨lo,sg4.mod _ _,rfl,hn1,up4,rfl⟩
 ·rintro c st1 ⟨lo,rfl,b1,sg1,hlo,hx⟩;have:lo=a₀.size:=by lia
  subst this;exact⟨rfl,b1,sg1⟩
 ·rintro c st1 ⟨rfl,b1,sg1⟩;dsimp only
  refine xbl (xga (xdx (I:=λx c st'=>c=(none,())/\B κ a₀ st'/\Segs R (arrOf st') 0 (pendingOf st').toList a₀.size/\(pendingOf st').size+x<=a₀.size)
   (Q:=λc st'=>c=(none,())/\B κ a₀ st'/\Segs R (arrOf st') 0 (pendingOf st').toList a₀.size/\(pendingOf st').size<=1) ?_ ?_ ⟨rfl,b1,sg1,by have:=sg1.le;simp at this;lia⟩) ?_)
  ·rintro x c st2 x1 x2 ⟨rfl,b2,sg2,hp⟩;refine xbl (xir ?_);by_cases c1:(pendingOf st2).size<=1
   ·rw[if_pos c1];exact xbn ⟨rfl,b2,sg2,c1⟩
   rw[if_neg c1];refine xbl (w_at O b2 sg2 (xbg _) ?_ λst3 b3 sg3 p3 _=>xbn ⟨rfl,b3,sg3,by lia⟩);exact zbpy (by lia) (by lia)
  ·rintro c st2 ⟨rfl,b2,sg2,hp⟩;exact⟨rfl,b2,sg2,by lia⟩
  ·rintro c st2 ⟨rfl,b2,sg2,hp⟩;refine xbn (h st2 b2 ?_);cases hl:(pendingOf st2).toList with
   | nil=>rw[hl] at sg2;have:0=a₀.size:=sg2;lia
   | cons p r =>
    have:r=[]:=by
     have e2:(pendingOf st2).size=(pendingOf st2).toList.length:=by simp
     rw[e2,hl,xcc] at hp;exact xkq.mp (by lia)
    subst this;rw[hl] at sg2;obtain⟨_,_,g3,g4⟩:=sg2;have g4':0+p.2.1=a₀.size:=g4;rw[g4'] at g3;exact g3
end
end
end TS
namespace Srt
open PySem PySem.W PyProof.Rows
theorem zsa {α β:Type}(f:α->β):∀{l m':List β},l.Perm m'->∀m:List α,m'=m.map f->∃p:List α,p.Perm m/\l=p.map f:=by
 intro l m' h
 induction h with
 | nil=>exact λm e=>⟨[],by rw[List.map_eq_nil_iff.mp e.symm],rfl⟩
 | cons x _ ih =>
  intro m e;cases m with
  | nil=>cases e
  | cons y m =>
   rw[xbs] at e;injection e with e1 e2
   obtain⟨p,p1,p2⟩:=ih m e2;exact⟨y::p,p1.cons y,by rw[xbs,← p2,e1]⟩
 | swap x y l =>
  intro m e
  match m,e with
  | a::b::m,e =>
   rw[xbs,xbs] at e;injection e with e1 e2
   injection e2 with e2 e3
   exact⟨b::a::m,.swap _ _ _,by rw[xbs,xbs,e1,e2,e3]⟩
 | trans _ _ ih1 ih2 =>
  intro m e;obtain⟨p,p1,p2⟩:=ih2 m e;obtain⟨q,q1,q2⟩:=ih1 p p2;exact⟨q,q1.trans p1,q2⟩
noncomputable def Coh (r:Nat->Nat) (xs:List Value):Prop:=∀i j,i < xs.length->j < xs.length->xs.getD i Value.none=xs.getD j Value.none->r i=r j
open Classical in
noncomputable def rankV (r:Nat->Nat) (xs:List Value) (x:Keyed):Nat:=if h:∃i,i < xs.length/\xs.getD i Value.none=x.1 then r h.choose else 0
theorem zoq   (coh:Coh r xs)   (hi:i < xs.length)(e:xs.getD i Value.none=x.1):rankV r xs x=r i:=by
 have h:∃i,i < xs.length/\xs.getD i Value.none=x.1:=⟨i,hi,e⟩
 unfold rankV;rw[dif_pos h];exact coh _ _ h.choose_spec.1 hi (h.choose_spec.2.trans e.symm)
theorem ztc (xs:List Value):(xs.toArray.zip xs.toArray).toList=(List.range xs.length).map λi=>((xs.getD i Value.none,xs.getD i Value.none):Keyed):=by
 rw[Array.toList_zip];apply xnc
 ·simp
 ·intro i h1 h2;have h3:i < xs.length:=by simpa using h2
  simp[xbi,h3]
section
theorem zbfi  {xs:List Value}   (h2:2<=xs.length)(coh:Coh r xs)
  (cmp:∀i j C,i < xs.length->j < xs.length->C (lt r i j) sg->kas_ask P w B κ xs i j C sg) :
  wpAny (model P w) B ((sortRuns').run (SortSt.mk' κ (xs.toArray.zip xs.toArray) #[] 7 none)) (λy z=>∃p:Array Nat,(p.Perm (List.toArray (List.range xs.length))/\Up r p xs.length)/\(arrOf y.2).map (·.2)=outOf xs p/\failedOf y.2=none/\z=sg) E sg:=by
 have sz:(xs.toArray.zip xs.toArray).size=xs.length:=by simp
 have O:TS.Orc P w B sg κ (xs.toArray.zip xs.toArray) (rankV r xs):=λx hx y hy C hC=>by
  rw[ztc] at hx hy;obtain⟨i,hi,rfl⟩:=xbp.mp hx;obtain⟨j,hj,rfl⟩:=xbp.mp hy;rw[xby] at hi hj;rw[zoq coh hi rfl,zoq coh hj rfl] at hC;exact cmp i j C hi hj hC
 have run:=TS.zbns (E:=E) (Q:=λ_ y=>∃p:Array Nat,(p.Perm (List.toArray (List.range xs.length))/\Up r p xs.length)/\(arrOf y).map (·.2)=outOf xs p/\failedOf y=none) O (au:=SortSt.mk' κ (xs.toArray.zip xs.toArray) #[] 7 none) ⟨.refl _,rfl,rfl⟩ rfl (by rw[sz];exact h2) λy b up=>by
  obtain⟨l,l1,l2⟩:=zsa (λi=>((xs.getD i Value.none,xs.getD i Value.none):Keyed)) (xfm.mp b.perm) _ (ztc xs);have ll:l.length=xs.length:=by rw[l1.length_eq,xev]
  have mem:∀k,(hk:k < l.length)->l[k] < xs.length:=λk hk=>xby.mp (l1.mem_iff.mp (xda hk))
  have key:∀k,k < xs.length->TS.kA (rankV r xs) (arrOf y) k=At r l.toArray k:=λk hk=>by
   have hk':k < l.length:=by lia
   have e:(arrOf y)[k]?=some (xs.getD l[k] Value.none,xs.getD l[k] Value.none):=by
    rw[← xci,l2,xcp,xbe hk']
    rfl
   rw[TS.zed e,zoq coh (mem k hk') rfl];unfold At;simp[hk']
  refine⟨l.toArray,⟨?_,λi j hij hj=>?_⟩,?_,b.failed⟩
  ·exact xfm.mpr (by simpa using l1)
  ·rw[← key i (by lia),← key j hj];exact up i j (xdu _) hij (by rw[sz];exact hj)
  ·unfold outOf;apply Array.toList_inj.mp;rw[Array.toList_map,l2,xcv]
   rfl
 exact xfe run (λy z hz=>by
  obtain⟨rfl,p,a,b,c⟩:=hz
  exact⟨p,a,b,c,rfl⟩) λ_ _ x=>x
theorem zmq {au:Shared}(r:Nat->Nat)  {xs:List Value}  {W:Fin->Shared->Prop}(e0:au.heap.get? d=some (seqObj "list" xs.toArray k))(few:xs.length<=sizeLine)(coh:Coh r xs)
  (ask:2<=xs.length->Answers P w B r xs {au with heap:=midHeap au.heap d xs})
  (fin:∀p:Array Nat,p.Perm (List.toArray (List.range xs.length))->Up r p xs.length->W (.done (.ret .none)) {au with heap:=sortedHeap au.heap d xs (outOf xs p)}) :
  wpAny (model P w) B (Builtin.«list.sort» ⟨[.ref d],[]⟩) W E au:=by
 obtain⟨c,ec⟩:∃ c,(au.heap.update d (Obj.mapSeq λ_=>(#[]:Array Value))).get? d=some (seqObj "list" #[] c):=⟨_,get?_update_seq e0 λ_=>#[]⟩
 have em:(midHeap au.heap d xs).get? d=some (seqObj "list" #[] c):=xbf _ (xbf _ ec)
 have szs:xs.toArray.size=xs.length:=xbv;rw[list_sort_plain];refine xba (listItems_at e0 rfl (xba (listUpdate_at e0 rfl (xba (seqEpoch_at ec rfl (xba (wpAny_newTuple (xba (wpAny_newList (xeo ?_) (xdu _))) (few))))) (by rw[szs];exact few) (xdu _))));show wpAny (model P w) B _ W E {au with heap:=midHeap au.heap d xs};dsimp only;by_cases two:xs.toArray.size < 2
 ·rw[if_pos two,if_pos two];rw[szs] at two;have eo:((arrOf (SortSt.mk' general' (xs.toArray.zip xs.toArray) #[] 7 none)).map (·.2))=outOf xs (List.toArray (List.range xs.length)):=zyj two
  refine xba (xbd (by
   rw[StateT.run_pure];refine xba (xbd (xba (seqEpoch_at em rfl (xba (listUpdate_at em rfl ?_ (xdu _) ?_)))))
   ·rw[if_neg (by simp)];refine xbd ?_;rw[eo];exact fin _ (.refl _) λi j hij hj=>xdi (congrArg (At r _) (by lia))
   ·rw[eo];refine xgh (xbc (xdi ?_) (few));unfold outOf
    simp))
 ·rw[if_neg two,if_neg two];rw[szs] at two;obtain⟨κ,kd,cmp⟩:=ask (by lia);refine xba (xfe (kd (λκ' z=>κ'=κ/\z={au with heap:=midHeap au.heap d xs}) ⟨rfl,rfl⟩) (λκ' z hz=>?_) λ_ _ x=>x.elim);obtain⟨rfl,rfl⟩:=hz;have run:=zbfi (E:=E) (r:=r) (xs:=xs) (κ:=κ') (sg:={au with heap:=midHeap au.heap d xs}) (by lia) coh cmp;refine xba (xfe run (λyy z hz=>?_) λ_ _ x=>x);obtain⟨⟨⟩,y⟩:=yy;obtain⟨p,hp,ho,hf,rfl⟩:=hz;dsimp only at ho hf ⊢;refine xba (seqEpoch_at em rfl (xba (listUpdate_at em rfl ?_ (xdu _) ?_)))
  ·rw[hf,if_neg (by simp),ho];exact xbd (fin p hp.1 hp.2)
  ·rw[ho];refine xgh (xbc (xdi ?_) (few));unfold outOf;rw[xbv,xbb,xcd,hp.1.size_eq];simp
theorem zol {B:Around}{au:Shared}(r:Nat->Nat)  {xs:List Value}{W:Value->Shared->Prop}(isl:au.heap.IsList d xs.toArray)(few:xs.length<=sizeLine)(coh:Coh r xs)
  (ask:2<=xs.length->∀g:Heap,(∀b ob,au.heap.get? b=some ob->g.get? b=some ob)->Answers P w B.in1.in1 r xs {au with heap:=g})
  (fin:∀p:Array Nat,p.Perm (List.toArray (List.range xs.length))->Up r p xs.length->W (.ref (au.heap.objs.size+1)) {au with heap:=sortedAll au.heap xs (outOf xs p)}) :
  wpAny (model P w) B (call (.builtin "sorted") [.ref d]) W E au:=by
 let g0:Heap:=(au.heap.push (seqObj "list" #[] 0)).update au.heap.objs.size (Obj.mapSeq (·++xs.toArray))
 have sz:g0.objs.size=au.heap.objs.size+1:=(Heap.size_update ..).trans (size_push' _ _);have new:(g0.push (seqObj "list" xs.toArray 0)).get? (au.heap.objs.size + 1)=some (seqObj "list" xs.toArray 0):=by
  have z:=xbu g0 (o:=seqObj "list" xs.toArray 0) rfl
  rw[sz] at z;exact z
 have old:∀ b ob,au.heap.get? b=some ob->(g0.push (seqObj "list" xs.toArray 0)).get? b=some ob:=λb ob e=>by
  have lt:=xbr e;exact xbf _ ((Heap.get?_update_ne _ _ _ _ (xce lt)).trans (xbf _ e))
 have ar:argsOk "sorted" ⟨[.ref d],[]⟩:=args_sorted1 _
 refine Calls.call_function_entry kind_sorted plain_sorted entry_sorted ar ?_;unfold Builtin.«sorted»;refine xba (m:=checkCount "sorted" 1 1 _) (xbd (xba (collect_list isl (xba (wpAny_newList ?_ (few))) (few))))
 show wpAny _ _ _ _ _ { au with heap:=g0.push (seqObj "list" xs.toArray 0) }
 have esz:(Value.ref g0.objs.size)=Value.ref (au.heap.objs.size+1):=by rw[sz]
 rw[show((au.heap.push (seqObj "list" #[] 0)).update au.heap.objs.size (Obj.mapSeq (·++xs.toArray))).objs.size=au.heap.objs.size + 1 from sz]
 refine xba (xeo (xej slot_list_sort ⟨_,new,rfl⟩ entry_list_sort (zmq r (au:={ au with heap:=g0.push (seqObj "list" xs.toArray 0) }) new few coh (λtwo=>?_) λp p1 p2=>⟨_,rfl,xbd ⟨_,rfl,fin p p1 p2⟩⟩) (args_list_sort _)))
 exact ask two _ λb ob e=>zks (xce (xhw (xbr e))) (old b ob e)
theorem zgu {B:Around}{au:Shared}{T:String}   {It:Nat->Value->Prop}  (S:KdlSrc P w T a d n It OK)(hh:B.handled=none)(ok:OK au.heap)(few:n<=sizeLine){W:Value->Shared->Prop}
  (ask:∀xs:List Value,xs.length=n->(∀(j:Nat) (v:Value),xs[j]?=some v->It j v)->∃r:Nat->Nat,Coh r xs/\(2<=n->∀(g:Heap) (tk:Nat),(∀b ob,au.heap.get? b=some ob->g.get? b=some ob)->Answers P w B.in1.in1 r xs {au with heap:=g,toks:=tk}) /\
   ∀(p:Array Nat) (q:Addr) (g:Heap) (tk c:Nat),p.Perm (List.toArray (List.range xs.length))->Up r p xs.length->(∀ b ob,au.heap.get? b=some ob->g.get? b=some ob)->(∀ b ob,au.heap.get? b=some ob->b≠q)->g.get? q=some (seqObj "list" (outOf xs p) c)->W (.ref q) { au with heap:=g,toks:=tk }) :
  wpAny (model P w) B (call (.builtin "sorted") [.ref a]) W E au:=by
 have ar:argsOk "sorted" ⟨[.ref a],[]⟩:=args_sorted1 _
 refine Calls.call_function_entry kind_sorted plain_sorted entry_sorted ar ?_;unfold Builtin.«sorted»;refine xba (m:=checkCount "sorted" 1 1 _) (xbd (xba (kdu_collect (A:=B.in1) S hh ok (few) λg tk acc keep items=>?_)))
 have len:acc.toList.length=n:=by rw[xcd];exact items.1
 obtain⟨r,coh,an,fin⟩:=ask acc.toList len (λj v e=>items.2 j v (by rw[← xci];exact e));refine xba (wpAny_newList ?_ (by rw[len];exact few));have new:(g.push (seqObj "list" acc.toList.toArray 0)).get? g.objs.size=some (seqObj "list" acc.toList.toArray 0):=xbu g rfl
 have old:∀ b ob,au.heap.get? b=some ob->(g.push (seqObj "list" acc.toList.toArray 0)).get? b=some ob:=λb ob e=>xbf _ (keep b ob e)
 have lt:∀b ob,au.heap.get? b=some ob->b≠g.objs.size:=λb ob e=>xce (xbr (keep b ob e))
 show wpAny _ _ _ _ _ { au with heap:=g.push (seqObj "list" acc.toList.toArray 0),toks:=tk }
 refine xba (xeo (xej slot_list_sort ⟨_,new,rfl⟩ entry_list_sort (zmq r (au:={ au with heap:=g.push (seqObj "list" acc.toList.toArray 0),toks:=tk }) new (by rw[len]; exact few) coh (λtwo=>?_) λp p1 p2=>⟨_,rfl,xbd ⟨_,rfl,?_⟩⟩) (args_list_sort _)))
 ·exact an (by lia) _ tk λb ob e=>zks (lt b ob e) (old b ob e)
 ·obtain⟨c,ec⟩:=sortedHeap_at (n:=0) (vs:=acc.toList) (out:=outOf acc.toList p) new;refine fin p g.objs.size _ tk c p1 p2 (λb ob e=>?_) ?_ ec
  ·rw[sortedHeap_old (lt b ob e) (xbr (old b ob e))];exact old b ob e
  ·exact lt
end
end Srt
namespace L2
open PySem PySem.Spec PyProof.Rows PySem.W
theorem small10000  (h:n<=1000000):n<=sizeLine:=xbc h (by rw[xji];lia)
theorem zku:∀{us:List Value} {a b:List Int},IntsAre us a->IntsAre us b->a=b
 | _,_,_,.nil,.nil=>rfl
 | _,_,_,.cons x t r,.cons _ _ r'=>by rw[zku r r']
theorem zwl   (tup:TupsG g ps):Srt.Coh (Srt.rank (ps.map (·.2))) (ps.map λp=>Value.ref p.1):=λi j hi hj e=>by
 rw[xbb] at hi hj;have ei:ps[i]?=some ps[i]:=xbe hi;have ej:ps[j]?=some ps[j]:=xbe hj;rw[zl (λp:Addr×List Int=>Value.ref p.1) _ ei,zl (λp:Addr×List Int=>Value.ref p.1) _ ej] at e;injection e with e
 obtain⟨us,o,n,a1,a2,a3,a4⟩:=tup _ (xda hi);obtain⟨us2,o2,n2,b1,b2,b3,b4⟩:=tup _ (xda hj);rw[e,b2] at a2;injection a2 with a2
 subst a2;rw[b4] at a4;injection a4 with a4 _
 have a5:us2=us:=by simpa using a4
 subst a5;have d:=zku a1 b1;unfold Srt.rank;rw[zl (λp:Addr×List Int=>p.2) _ ei,zl (λp:Addr×List Int=>p.2) _ ej,d]
def rSortedAL (K:Fg):List V->Hp->VK->Prop:=λxs H Q=>∃(l:Addr) (ps:List (Addr×List Int)),xs=[.ref l]/\SqL K H l (ps.map λp=>V.ref p.1)/\ps.length<=1000000/\TupsAt K H ps /\
 ∀(q:Addr) (qs:List (Addr×List Int)),H q=none->qs.Perm ps->(qs.map (·.2)).Pairwise (λa b=>HT.lexLt b a=false)->Q (.ref q) (upd H q (.lst (qs.map λp=>V.ref p.1)))
def rSortedDAL:List V->Hp->VK->Prop:=λxs H Q=>∃(a:Addr) (kvs:List (List Key×V)) (ks:List (List Int)),xs=[.ref a]/\Rd H a (.dT kvs)/\kvs.map (·.1)=ks.map (λns=>ns.map Sum.inl)/\ks.length<=1000000 /\
 ∀(q:Addr) (qs:List (Addr×List Int)),H q=none->(qs.map (·.2)).Perm ks->(qs.map (·.2)).Pairwise (λx y=>HT.lexLt y x=false)->(∀p∈qs,H p.1=some (.tup (p.2.map V.int)))->Q (.ref q) (upd H q (.lst (qs.map λp=>V.ref p.1)))
section
theorem znx {X:Cx}(hu:X.A.units + 64 < cLine):CallR X (.builtin "sorted") (rSortedAL X.K):=by
 intro aU s σ H xs us Q I r h;obtain⟨l,ps,rfl,hl,h64,ht,q⟩:=h;obtain⟨u,rfl,ru⟩:=vals1 r;cases ru;obtain⟨its,rv,pl,hz⟩:=I.list hl;have eits:its=ps.map λp=>Value.ref p.1:=by
  have e:(ps.map λp=>V.ref p.1)=(ps.map (·.1)).map V.ref:=by rw[xcv];rfl
  rw[e] at rv;rw[zpz rv,xcv]
  rfl
 subst eits;have tup:∀g:Heap,(∀b o,s.heap.get? b=some o->g.get? b=some o)->TupsG g ps:=λg keep p hp=>by
  obtain⟨us,rv',⟨o,b2,b3,n,b4⟩,_⟩:=I.tuple (ht p hp);exact⟨us,o,n,zel rv',keep _ _ b2,b3,b4⟩
 refine Srt.zol (Srt.rank (ps.map (·.2))) pl.isList (by rw[xbb];exact small10000 h64) (zwl (tup s.heap λ_ _ z=>z)) (λh2 g keep=>zbdh (by show X.A.units+1+1 < cLine;lia) (by rw[xbb] at h2;exact h2) (tup g keep)) (λp p1 p2=>?_);rw[xbb] at p1 p2;obtain⟨qs,q1,q2,q3⟩:=zuo p1 p2;obtain⟨e,he⟩:=sortedAll_at s.heap (ps.map λp=>Value.ref p.1) (Srt.outOf (ps.map λp=>Value.ref p.1) p);rw[q3] at he ⊢;refine⟨.ref (s.heap.objs.size+1),_,I.laid (a:=s.heap.objs.size+1) (o:=.lst (qs.map λp=>V.ref p.1)) (t':=s.toks) (λ_ _ z=>sortedAll_old z) (xld _) ⟨?_,_,e,ziq qs,he⟩,rfl,q _ _ (I.hok.fresh (xld _)) q1 q2⟩;rw[xbb,q1.length_eq];exact small10000 (by lia)
theorem zmc {X:Cx}(hc:X.calm=true)(hu:X.A.units + 64 < cLine):CallR X (.builtin "sorted") rSortedDAL:=by
 intro aU s σ H xs us Q I r h;obtain⟨a,kvs,ks,rfl,hd,ek,few,q⟩:=h;obtain⟨u,rfl,ru⟩:=vals1 r;cases ru;obtain⟨z,ns,ys,rel,ob,es,ep,e1,e2,e3,e4,e5⟩:=(show ObjOk X.prog X.w H s.heap a (.dT kvs) from hd.ok I.hok)
 obtain⟨ps,a1,a2,a3⟩:=znw (P:=X.prog) (w:=X.w) rel ek;have hpl:ps.length=ks.length:=by rw[← a1,xbb]
 have hes:es.toList.map (·.key)=ps.map λp=>Value.ref p.1:=by rw[e4,xcv];exact a3
 have hsz:es.size=ps.length:=by
  have:=congrArg List.length hes;rw[xbb,xbb,xcd] at this;exact this
 have tup:∀g:Heap,(∀b o,s.heap.get? b=some o->g.get? b=some o)->TupsG g ps:=λg keep p hp=>by
  obtain⟨us,rv,⟨o,b2,b3,n,b4⟩,_⟩:=I.tuple (SqT.of (a2 p hp));exact⟨us,o,n,zel rv,keep _ _ b2,b3,b4⟩
 refine Srt.zgu (Dct.zbir ns es ep) (I.ok.hd hc) ⟨ob,e1,e2,e3⟩ (small10000 (by lia)) λvs hl hv=>?_
 have evs:vs=ps.map λp=>Value.ref p.1:=by
  rw[← hes];apply xkx;intro i;by_cases hi:i < es.size
  ·have h1:vs[i]?=some vs[i]:=xbe (by lia);obtain⟨en,h2,h3⟩:=hv i _ h1;rw[h1,h3,xcp,xci,h2]
   rfl
  ·rw[xhr (by lia),xhr (by rw[xbb,xcd];lia)]
 subst evs;refine⟨Srt.rank (ps.map (·.2)),zwl (tup s.heap λ_ _ z=>z),λh2 g tk keep=>zbdh (by show X.A.units+1+1 < cLine;lia) (by lia) (tup g keep),λp t g tk c p1 p2 keep ne eg=>?_⟩;rw[xbb] at p1 p2;obtain⟨qs,q1,q2,q3⟩:=zuo p1 p2;rw[q3] at eg;refine⟨.ref t,_,I.laidN (o:=.lst (qs.map λp=>V.ref p.1)) keep ne ⟨?_,_,c,ziq qs,eg⟩,rfl,q t qs (I.away ne) ((q1.map _).trans (by rw[a1])) q2 λp hp=>a2 p (q1.mem_iff.mp hp)⟩;rw[xbb,q1.length_eq];exact small10000 (by lia)
end
end L2
namespace L2
open PySem PySem.Spec PyProof.Rows
theorem zjj {κ β:Type}[DecidableEq κ]{k:κ}:∀{xs:List (κ×β)} {j:Nat} {p:β},(xs.map (·.1)).Nodup->xs[j]?=some (k,p)->xs.eraseIdx j=xs.filter λx=>decide (x.1≠k)
 | [],_,_,_,e=>by simp at e
 | x::r,0,p,nd,e=>by
  simp at e;subst e;rw[xbs,xem] at nd;rw[List.eraseIdx_cons_zero,xcy (by simp)]
  symm
  rw[List.filter_eq_self];intro y hy;refine xbw λz=>nd.1 ?_
  rw[← z];exact xbp.mpr ⟨y,hy,rfl⟩
 | x::r,j+1,p,nd,e=>by
  rw[xbs,xem] at nd;have e':r[j]?=some (k,p):=by simpa using e
  have hx:x.1≠k:=λz=>nd.1 (by rw[z];exact xbp.mpr ⟨_,xcb e',rfl⟩)
  rw[xkr,xcq (by simpa using hx),zjj nd.2 e']
theorem zra {α β:Type}(f:α->β):∀(l:List α) (j:Nat),(l.map f).eraseIdx j=(l.eraseIdx j).map f
 | [],_=>rfl
 | _::_,0=>rfl
 | x::l,j+1=>by rw[xbs,xkr,xkr,xbs,zra f l j]
section
variable {κ:Type}[DecidableEq κ]
section
variable {prog:Program}{w:World}{knd:HeapKind prog w κ}{A:Around}{E:Value->Shared->Prop}{s:Shared}{d:Addr}{a:Addr}{k:κ}{xs:List (κ×Addr×Value)}{p:Addr×Value}
theorem zye {W:Option DictEntry->Shared->Prop}(hu:knd.room A)(hkey:knd.is s.heap k a)(hm:s.heap.DictOfH knd d xs)(hp:atKey xs k=some p)(hsz:xs.length<=sizeLine)
  (fin:∀e h',e.val=p.2->h'.DictOfH knd d (xs.filter λx=>decide (x.1≠k))->Heap.SameBut d s.heap h'->W (some e) {s with heap:=h',toks:=s.toks+knd.draws k}) :
  wpAny (model prog w) A (Builtin.Dict.takeOut d (.ref a)) W E s:=by
 obtain⟨o,es,ep,ho,hc,hd,he,his,hn⟩:=hm;unfold Builtin.Dict.takeOut;refine xeo ?_;refine xba (knd.pyHash hu hkey ?_);refine xba (wpAny_dictFind_heap (s:={s with toks:=s.toks+knd.draws k}) hu hkey ho hd he his hn (λz=>?_) λj q hj=>?_)
 ·rw[atKey_none_of_get z] at hp;cases hp
 ·have hq:q=p:=by
   have z:=atKey_of_get hn hj;rw[hp] at z;exact(xcs z).symm
  subst hq;refine xba (xjm (s:={s with toks:=s.toks+knd.draws k}) ho hd ?_);rw[entry_at he j,hj];have big:es.size<=sizeLine:=by have:=size_of_entries he;lia
  refine xba (wpAny_updateDictKeys (hz:=big) (s:={s with toks:=s.toks+knd.draws k}) ho hd (xbd (fin _ _ rfl ⟨_,_,ep+1,xed _ ho (Obj.isFreed_of_dict (Obj.data_mapDictKeys hd _)),hc.mapDictKeys _,Obj.data_mapDictKeys hd _,?_,λx hx=>?_,?_⟩ (xes ..))))
  ·rw[← zjj hn hj];obtain⟨l⟩:=es;have he':l=xs.map (entryOfKey knd):=he;subst he';simp[zra]
  ·exact knd.keeps (his x (xdy.mp hx).1) ho hd (xes ..)
  ·exact List.Sublist.nodup (List.Sublist.map (λx:κ×Addr×Value=>x.1) List.filter_sublist) hn
end
theorem zbek {knd:HeapKind prog w κ}{A:Around}{s:Shared}{W:Value->Shared->Prop}(hu:knd.room A.in1)(hkey:knd.is s.heap k a)(hm:s.heap.DictOfH knd d xs)(hp:atKey xs k=some p)(hsz:xs.length<=sizeLine)
  (fin:∀h',h'.DictOfH knd d (xs.filter λx=>decide (x.1≠k))->Heap.SameBut d s.heap h'->W p.2 {s with heap:=h',toks:=s.toks+knd.draws k}) :
  wpAny (model prog w) A (call (.builtin "dict.pop") [.ref d,.ref a]) W E s:=by
 have M:MeetsIn prog w (Builtin.«dict.pop» ⟨[.ref d,.ref a],[]⟩) (λB R g=>B=A/\g=s/\∀h',h'.DictOfH knd d (xs.filter λx=>decide (x.1≠k))->Heap.SameBut d s.heap h'->R (.ok (.ret p.2)) {s with heap:=h',toks:=s.toks+knd.draws k}) :=
  .of_wp λB R g hq0=>by
   obtain⟨hB,hg,q⟩:=hq0;subst hB hg;unfold Builtin.«dict.pop» Builtin.Dict.keyAndDefault;refine xba (xba (wpAny_notOrdered_dict hm.typeIs (xbd ?_)));obtain⟨o,es,ep,ho,hc,hd,he,his,hn⟩:=id hm;have ne:es.isEmpty=false:=by
    have:=size_of_entries he;cases xs with
    | nil=>cases hp
    | cons x r =>
     rw[xcc] at this;rw[Array.isEmpty_eq_false_iff];intro z;rw[z] at this;simp at this
   simp only[keyPart,Option.isSome_none,xco,xec];refine xba (xjm ho hd (xba (xbd ?_)));rw[ne];simp only[xco,xec];refine xba (zye hu hkey hm hp hsz λe h' hv dd hs=>?_);simp only[Option.isNone_some,xco,xec];exact xba (xkc (xbd ⟨e.val,rfl,by rw[hv];exact q h' dd hs⟩))
 exact call_meetsIn F.slot_dict_pop hm.typeIs F.entry_dict_pop (F.args_dict_pop_2 _ _) M ⟨rfl,rfl,fin⟩
end
theorem KT.drop    (r:KT H kvs xs)(k:List Key):KT H (dropK kvs k) (xs.filter λx=>decide (x.1≠k)):=by
 unfold dropK
 induction r with
 | nil=>exact .nil
 | @cons p q ps qs h t ih =>
  by_cases e:p.1=k
  ·rw[xcy (by simp[e]),xcy (by simp[← h.1,e])];exact ih
  ·rw[xcq (by simp[e]),xcq (by simp[← h.1,e])];exact .cons h ih
section
theorem zbrm {X:Cx}{k:List Key}    (hu:X.A.units+1 < cLine)(I:Inv X aU σ H s)(e:H a=some (.dT kvs))(eb:H b=some (.tup (k.map kV)))(l:valV kvs k=some v)
  (h:∀ w' s', Inv X aU σ (upd H a (.dT (dropK kvs k))) s'->RelV v w'->Q w' s'):wpAny (model X.prog X.w) X.A (call (.builtin "dict.pop") [.ref a,.ref b]) Q E s:=by
 obtain⟨z,hd,xs,rel,dd⟩:=zbti I.hok e;obtain⟨w',hw,rw'⟩:=RelO.some_of (v:=v) (o:=(atKey xs k).map (·.2)) (by rw[← l];exact rel.val k);cases hp:atKey xs k with
 | none=>rw[hp] at hw;cases hw
 | some p =>
  rw[hp] at hw;have hw':p.2=w':=xcs hw;subst hw';refine zbek (xjc hu) (zsp I.hok eb) dd hp (by rw[← xiq rel];exact z) λh' dd' hs=>h _ _ ?_ rw'
  obtain⟨q,es,ep,hq,h2,h3,h4,_,h5⟩:=dd';refine zrc I (by rw[e];exact True.intro) hs ⟨q,hq⟩ ⟨xbc (xfs _ _) z,hd,_,(rel.drop k).keeps λc ys ec=>?_,q,es,ep,hq,h2,h3,h4,h5⟩;rw[zx (zbtc ec e (λz=>nomatch z))];exact ec
end
def tDPopT (td ty:TE):TE:=λσ H Q=>td σ H λx H1=>∃a,x=.ref a/\IsD H1 a/\ty σ H1 λy H2=>∃kvs k v b,H2 a=some (.dT kvs)/\y=.ref b/\H2 b=some (.tup (k.map kV))/\valV kvs k=some v/\Q v (upd H2 a (.dT (dropK kvs k)))
section
theorem zbeq {X:Cx}(hu:X.A.units + 1 < cLine)(ho:PE X o td)(he:PE X e ty)(m:M1 X o "pop" apos e cpos):PE X (.Call (.Attribute o "pop" apos) [e] [] cpos) (tDPopT td ty):=by
 intro aU s σ H Q I h;refine wpAny_Call_method m.base m.few m.line xkn F.slot_dict_pop F.type_dict_pop (thn (ho aU s σ H _ I h) λu s1 hq0=>?_);obtain⟨x,H1,I1,rx,a,ex,d,q1⟩:=hq0;subst ex;obtain rfl:u=Value.ref a:=rx;obtain⟨t1,t2,_⟩:=zbky I1 d;refine⟨t1,t2,?_⟩;rw[m.trees];refine xjf rfl (xlo (xis (thn (he aU s1 σ H1 _ I1 q1) λiv s2 ⟨y,H2,I2,ry,kvs,k,v,b,ea,ey,eb,l,q2⟩=>xks ?_)));subst ey;cases(show iv=Value.ref b from ry);exact zbrm hu I2 ea eb l λw' s3 I3 rw'=>⟨v,_,I3,rw',q2⟩
end
def rCatA (K:Fg):R2:=λx y H Q=>∃a b xs ys,x=.ref a/\y=.ref b/\SqT K H a xs/\SqT K H b ys/\xs.length+ys.length<=sizeLine /\
 (xs=[]->Q (.ref b) H)/\(xs≠[]->ys=[]->Q (.ref a) H)/\(xs≠[]->ys≠[]->∀p,H p=none->Q (.ref p) (upd H p (.tup (xs++ys))))
section
theorem zbka:OpR X (binaryOp .Add) (rCatA X.K):=by
 intro aU s σ H x y v u Q I rx ry h;obtain⟨a,b,xs,ys,rfl,rfl,ha,hb,hz,q0,q1,q2⟩:=h;by_cases hx:xs=[]
 ·cases rx;cases ry;obtain⟨its,r1,p1,_⟩:=I.tuple ha;obtain⟨its2,r2,p2,_⟩:=I.tuple hb;obtain⟨⟨cls,dd,data,sl⟩,ho,hc,n,hd⟩:=id p1;obtain⟨⟨cls2,dd2,data2,sl2⟩,ho2,hc2,n2,hd2⟩:=id p2;simp only at hc hd hc2 hd2;subst hc hd hc2 hd2;have e:its=[]:=r1.nil_iff.mpr hx;exact concat_meets ⟨_,ho,rfl⟩ ⟨_,ho2,rfl⟩ noFill_tuple_add seq_tuple_add xla xkm (xkh _ _)
   (tuple_addW0 a b its.toArray its2.toArray n n2 dd dd2 sl sl2 (by simp[e])) ⟨ho,ho2,⟨.ref b,H,I,rfl,q0 hx⟩⟩
 ·exact zbjz aU s σ H _ _ v u Q I rx ry ⟨a,b,xs,ys,rfl,rfl,ha,hb,hx,hz,λz=>q1 hx z,λz=>q2 hx z⟩
end
section
theorem zbar {s:Shared}    {lo hi:Option Int}{W:Value->Shared->Prop}(ht:IsTup s.heap t its)(hs:s.heap.IsSliceOf sl vl vu .none)(pl:IsPart vl lo)(pu:IsPart vu hi)
  (h0:HT.sIx its.size 0 lo=0)(h1:HT.sIx its.size its.size hi=its.size)(fin:W (.ref t) s):wpAny (model prog w) A (getItem (.ref t) (.ref sl)) W E s:=by
 obtain⟨os,hos,hcs,hds⟩:=id hs;unfold getItem
 try with_reducible refine xeo ?_
 first | refine xba (xbd ?_) | skip
 refine xba (wpAny_sequenceKey ht.typeIs (by decide) ?_);refine xba (wpAny_callSpecial?_slot (name:=Str.ofString "__getitem__") ht.typeIs xkl (xej xkl ht.typeIs entry_tuple_getitem ?_ (args_tuple_getitem _ _)))
 show wpAny _ _ (Builtin.Tuple.tupleItemsOf (.ref t) >>= _) _ _ s;refine xba (tupleItemsOf_ ht ?_);have hTs:s.TypeIs (.ref sl) "slice":=⟨os,hos,hcs⟩
 refine xba (wpAny_typeOf hTs ?_);rw[if_pos (by decide)];refine xba (HT.zee hs pl pu ?_);have yes:(((HT.sIx its.size 0 lo:Nat):Int)==0&&(1:Int)==1&&(HT.sIx its.size its.size hi - HT.sIx its.size 0 lo)==its.size)=true:=by
  rw[h0,h1];simp
 show wpAny _ _ (if(((HT.sIx its.size 0 lo:Nat):Int)==0&&(1:Int)==1&&(HT.sIx its.size its.size hi - HT.sIx its.size 0 lo)==its.size)=true then _ else _) _ _ s;rw[if_pos yes];refine xba (?_:wpAny _ _ (Builtin.Tuple.tupleIsExact (.ref t)) _ _ s);unfold Builtin.Tuple.tupleIsExact;refine xba (wpAny_typeOf ht.typeIs (xbd ?_));rw[if_pos (by decide)];exact xba (xhh (xbd ⟨_,rfl,xbd fin⟩))
end
def rSlA (K:Fg):V->Option Int->Option Int->Hp->VK->Prop:=λx lo hi H Q=>∃a xs,x=.ref a/\SqT K H a xs/\(cutV xs lo hi=xs->Q (.ref a) H)/\∀p,H p=none->Q (.ref p) (upd H p (.tup (cutV xs lo hi)))
theorem zbil :SlR X (rSlA X.K):=by
 intro aU s σ H x v vl vu lo hi sl Q I rx hs pl pu h;obtain⟨a,xs,rfl,hx,q1,q2⟩:=h;by_cases hw:HT.sIx xs.length 0 lo=0/\HT.sIx xs.length xs.length hi=xs.length
 ·cases rx;obtain⟨its,r,ht,hz⟩:=I.tuple hx;have hlen:its.toArray.size=xs.length:=by rw[xbv];exact r.length.symm
  refine⟨"tuple", _,xkl.lookup,ht.typeIs,?_⟩
  refine zbar ht hs pl pu (by rw[hlen];exact hw.1) (by rw[hlen];exact hw.2) ⟨.ref a,H,I,rfl,q1 ?_⟩;unfold cutV;rw[hw.1,hw.2];simp
 ·exact zbny aU s σ H _ v vl vu lo hi sl Q I rx hs pl pu ⟨a,xs,rfl,hx,hw,q2⟩
theorem zkm (ns:List Int):∀k,k<=ns.length->preSum (λi=>ns.getD i 0) k=(ns.take k).sum
 | 0,_=>rfl
 | k+1,h=>by
  show preSum (λi=>ns.getD i 0) k+ns.getD k 0=_;rw[zkm ns k (by lia),xih (by lia),xen,xbi,xbe (by lia)];simp
theorem zns:∀{ns:List Int} {us:List Value} {i:Nat} {v:Value},Vals (ns.map V.int) us->us[i]?=some v->∃t,v=.int (ns.getD i 0) t
 | [],_,_,_,.nil,e=>by simp at e
 | n::ns,_,0,_,.cons r _,e=>by
  simp at e;subst e
  obtain⟨t,rfl⟩:=r;exact⟨t,rfl⟩
 | n::ns,_,i+1,v,.cons _ t,e=>by
  have:=zns (i:=i) t (by simpa using e)
  simpa using this
def rSum (K:Fg):List V->Hp->VK->Prop:=λxs H Q=>∃(a:Addr) (ns:List Int),xs=[.ref a]/\(SqL K H a (ns.map V.int)\/SqT K H a (ns.map V.int))/\Q (.int ns.sum) H
theorem zff {X:Cx}(hc:X.calm=true):CallR X (.builtin "sum") (rSum X.K):=by
 intro aU s σ H xs us Q I r h;obtain⟨a,ns,rfl,hs,q⟩:=h;obtain⟨u,rfl,ru⟩:=vals1 r;cases ru;have key:∀{its:List Value} (h':Heap) (tk:Nat) (t':Tok) (nn:Nat),nn=ns.length->(∀b o,b≠s.heap.objs.size->s.heap.get? b=some o->h'.get? b=some o) ->
   EP X aU σ Q (.int (preSum (λi=>ns.getD i 0) nn) t') {s with heap:=h',toks:=tk}:=λh' tk t' nn hn hk=>by
  subst hn;rw[zkm ns _ (xbg _),xch];exact⟨.int ns.sum,H,I.kept (t':=tk) λb o e=>hk b o (xce (xbr e)) e,⟨_,rfl⟩,q⟩
 refine call_sum_walkG ?_;rcases hs with hs | hs
 ·obtain⟨its,rv,pl,hz⟩:=I.list hs;have hlt:a < s.heap.objs.size:=by obtain⟨o,n,e,_⟩:=pl;exact xbr e
  have hl:=rv.length;rw[xbb] at hl;refine xjl pl.isList ?_;refine⟨s.heap.objs.size,_,[s.heap.objs.size],_,_,_,λi=>ns.getD i 0,rfl,Walks.list (A:=X.A.in1) (I.ok.hd hc) _ a (xce hlt) its.toArray,⟨⟨_,xbu _ rfl,rfl,rfl⟩,pl.isList.push _⟩,?_,λi v e=>zns rv (by simpa using e),λh' tk t' hk=>?_⟩
  ·intro b hb;show b < (s.heap.push _).objs.size;rw[show ∀o:Obj,(s.heap.push o).objs.size=s.heap.objs.size+1 from λo=>by simp[Heap.push]];rcases xbm.mp hb with rfl | hb
   ·exact xjt _
   ·rcases xbm.mp hb with rfl | hb
    ·exact xhw hlt
    ·cases hb
  ·exact key (its:=its) h' tk t' _ (by simp[hl]) λb o hb e=>hk b o (by simpa using hb) (xbf _ e)
 ·obtain⟨its,rv,pl,hz⟩:=I.tuple hs;have hlt:a < s.heap.objs.size:=pl.lt;have hl:=rv.length;rw[xbb] at hl;have pt:s.heap.IsTuple a its.toArray:=pl;refine xja pt ?_;refine⟨s.heap.objs.size,_,[s.heap.objs.size],_,_,_,λi=>ns.getD i 0,rfl,Walks.tuple (A:=X.A.in1) (I.ok.hd hc) _ a (xce hlt) its.toArray,⟨⟨_,xbu _ rfl,rfl,rfl⟩,pt.push _⟩,?_,λi v e=>zns rv (by simpa using e),λh' tk t' hk=>?_⟩
  ·intro b hb;show b < (s.heap.push _).objs.size;rw[show ∀o:Obj,(s.heap.push o).objs.size=s.heap.objs.size+1 from λo=>by simp[Heap.push]];rcases xbm.mp hb with rfl | hb
   ·exact xjt _
   ·rcases xbm.mp hb with rfl | hb
    ·exact xhw hlt
    ·cases hb
  ·exact key (its:=its) h' tk t' _ (by simp[hl]) λb o hb e=>hk b o (by simpa using hb) (xbf _ e)
theorem zud   {A:Around}  {s:Shared}     (hh:A.handled=none)(hit:s.heap.IsTupleIter it t i)(ht:s.heap.IsTuple t items)
  (hQ:∀x,items[i]?=some x->∀h',h'.IsTupleIter it t (i+1)->Heap.SameBut it s.heap h'->Q x {s with heap:=h'})
  (hE:items[i]?=none->∀ h' e,Heap.ExtBut it s.heap h'->(∃ o,h'.get? e=some o/\o.cls=.type "StopIteration")->E (.ref e) { s with heap:=h' }):wpAny (model prog w) A (Builtin.SmallTypes.nextOf (.ref it)) Q E s:=by
 rcases hit with⟨o,ho,hc,hd⟩
 rcases ht with⟨u,hu,_,n,hs⟩
 refine xba (wpAny_callSpecial?_slot (name:=Str.ofString "__next__") ⟨o,ho,hc⟩ F.slot_tuple_iterator_next (xej F.slot_tuple_iterator_next ⟨o,ho,hc⟩ F.entry_tuple_iterator_next ?_ (F.args_tuple_iterator_next_1 _)))
 have f0:(#[Value.ref t,.int i 0]:Array Value)[0]?=some (.ref t):=rfl;have f1:(#[Value.ref t,.int i 0]:Array Value)[1]?=some (.int i 0):=rfl
 wp_walk using xib ho hd f0,xib ho hd f1,xie hu hs
 rw[xea];cases hx:items[i]? with
 | some x =>
  exact xba (xid ho hd (by simp) (xbd ⟨x,rfl,xbd (hQ x hx _ ⟨_,xed _ ho (xhn (xgq hd _)),(xku ..).trans hc,by rw[xgq hd];simp[rawInt]⟩ (.update ..))⟩))
 | none =>
  have hh':A.in1.handled=none:=hh
  wp_walk using xid ho hd (by simp)
  unfold raiseNew;refine xba (wpAny_handled ?_);rw[hh'];exact xba (xbd (wpAny_throw (hE hx _ _ ((xes ..).extBut.push _ |>.push _) ⟨_,xbu _ rfl,rfl⟩)))
section
theorem Inv.turned2 {h':Heap}   (I:Inv X aU σ H s)(k:∀b o,b≠e->b≠it->s.heap.get? b=some o->h'.get? b=some o)(hn:H it=none)(hL:it≠X.env.locals)
  (h1:it∈X.ex\/X.s₀.heap.objs.size<=it)(h2:∀x c,X.env.cells.lookup x=some c->c≠it)(h3:∀p∈X.pn++aU,p.1≠it)(gn:H e=none)(gL:e≠X.env.locals)
  (g1:e∈X.ex\/X.s₀.heap.objs.size<=e)(g2:∀x c,X.env.cells.lookup x=some c->c≠e)(g3:∀p∈X.pn++aU,p.1≠e):Inv X aU σ H {s with heap:=h',toks:=t'}:=by
 have nit:∀b u,H b=some u->b≠it:=λb u e z=>by rw[z,hn] at e;cases e
 have nie:∀b u,H b=some u->b≠e:=λb u q z=>by rw[z,gn] at q;cases q
 refine I.step (g':=s.gens) (d':=s.drawn) (ch:=[e,it]) (λb hb=>?_) (λb o _ _ hc e _=>k b o (λz=>hc (by simp[z])) (λz=>hc (by simp[z])) e) (λb o _ _ hc e _=>⟨o.slots,k b o (λz=>hc (by simp[z])) (λz=>hc (by simp[z])) e⟩) (λ_ _ _ _ n=>n)
  (λb o hc e=>⟨o,k b o (λz=>hc (by simp[z])) (λz=>hc (by simp[z])) e⟩) (λ_ _ e=>e) (λ_ _ _ e=>e) (λb ps e=>⟨#[],by rw[e];simp⟩) (λm hm=>?_) (λb u e=>?_) I.bare
 ·rcases xbm.mp hb with z | z
  ·subst z;exact⟨g1,gL,g2,g3⟩
  ·have z':b=it:=by simpa using z
   subst z';exact⟨h1,hL,h2,h3⟩
 ·obtain⟨o,es,ep,ho,r⟩:=hm;exact⟨o,es,ep,k _ o (xcx gL) (xcx hL) ho,r⟩
 ·refine(I.hok b u e).stay (λc v hc q=>k c v ?_ ?_ q) (λ_ q=>q) λ_ _ q=>q
  ·rcases hc with z | z
   ·rw[z];exact nie b u e
   ·exact nie c _ z
  ·rcases hc with z | z
   ·rw[z];exact nit b u e
   ·exact nit c _ z
end
section
end
noncomputable def bestI (gt:Bool) (n:Int) (ns:List Int):Int:=ns.foldl (λi j=>if(if gt then decide (j > i) else decide (j < i))=true then j else i) n
theorem zme:∀(ns:List Int) (n:Int),bestI true n ns∈n::ns/\∀a∈n::ns,a<=bestI true n ns
 | [],n=>⟨by simp[bestI],by simp[bestI]⟩
 | m::ns,n=>by
  have e:bestI true n (m::ns)=bestI true (if m > n then m else n) ns:=by simp[bestI]
  obtain⟨h1,h2⟩:=zme ns (if m > n then m else n);rw[e];refine⟨?_,λa ha=>?_⟩
  ·rcases xbm.mp h1 with z | z
   ·rw[z];split<;>simp
   ·simp[z]
  ·have h3:=h2 _ xbq;rcases xbm.mp ha with rfl | ha
   ·refine Int.le_trans ?_ h3;split<;>lia
   ·rcases xbm.mp ha with rfl | ha
    ·refine Int.le_trans ?_ h3;split<;>lia
    ·exact h2 a (xbo _ ha)
theorem zny  {ns:List Int}  (hk:k=ns.length):(n::ns).getD (argBest (λi j=>decide ((n::ns).getD i 0 >(n::ns).getD j 0)) k) 0=bestI true n ns:=by
 subst hk;obtain⟨h1,h2⟩:=argBest_gt (λi=>(n::ns).getD i 0) ns.length;obtain⟨g1,g2⟩:=zme ns n;have hl:argBest (λi j=>decide ((n::ns).getD i 0 >(n::ns).getD j 0)) ns.length < (n::ns).length:=by rw[xcc];lia
 obtain⟨j,hj,ej⟩:=xeh g1;have a1:=h2 j (by simp at hj;lia);have a2:=g2 ((n::ns).getD (argBest (λi j=>decide ((n::ns).getD i 0 >(n::ns).getD j 0)) ns.length) 0) (by rw[xbi,xbe hl];exact xda hl);have e:(n::ns).getD j 0=bestI true n ns:=by rw[xbi,xbe hj,ej];rfl
 rw[e] at a1;lia
def rBest (K:Fg) (gt:Bool):List V->Hp->VK->Prop:=λxs H Q=>∃(a:Addr) (n:Int) (ns:List Int),xs=[.ref a]/\(SqL K H a ((n::ns).map V.int)\/SqT K H a ((n::ns).map V.int))/\Q (.int (bestI gt n ns)) H
section
theorem zpy {X:Cx}       {ns:List Int}  (hc:X.calm=true)(I:Inv X aU σ H s)(hs:SqL X.K H a (ns.map V.int)\/SqT X.K H a (ns.map V.int))
  (h:∀I' fp wr P St s2,Walks X.prog X.w X.A.in1 I' fp wr ns.length P St->St 0 s2.heap->(∀b∈fp,b < s2.heap.objs.size)->(∀i v,P i v->∃t,v=.int (ns.getD i 0) t) ->
   (∀h' tk,(∀b o,b∉wr->s2.heap.get? b=some o->h'.get? b=some o)->Inv X aU σ H {s2 with heap:=h',toks:=tk})->R (.ref I') s2) :
  wpAny (model X.prog X.w) X.A.in1 (pyIter (.ref a)) R E s:=by
 have key:∀(o:Obj) (h':Heap) (tk:Nat),(∀b u,b∉[s.heap.objs.size]->(s.heap.push o).get? b=some u->h'.get? b=some u)->Inv X aU σ H {s with heap:=h',toks:=tk}:=λo h' tk hk =>
  I.kept (t':=tk) λb u e=>hk b u (by simp;exact xce (xbr e)) (xbf _ e)
 have low:∀(o:Obj),a < s.heap.objs.size->∀b∈[s.heap.objs.size,a],b < (s.heap.push o).objs.size:=λo hlt b hb=>by
  rw[xic];have hb':b=s.heap.objs.size\/b=a:=by simpa using hb
  rcases hb' with z | z
  ·rw[z];exact xjt _
  ·rw[z];exact xhw hlt
 rcases hs with hs | hs
 ·obtain⟨its,rv,pl,hz⟩:=I.list hs;have hlt:a < s.heap.objs.size:=by obtain⟨o,n,e,_⟩:=pl;exact xbr e
  have hl:=rv.length;rw[xbb] at hl;have W:=Walks.list (prog:=X.prog) (w:=X.w) (A:=X.A.in1) (I.ok.hd hc) s.heap.objs.size a (xce hlt) its.toArray;rw[show its.toArray.size=ns.length from by rw[xbv];exact hl.symm] at W;exact xjl pl.isList (h _ _ _ _ _ { s with heap:=s.heap.push { cls:=.type "list_iterator", data:=.fields #[.ref a,.int 0 0] } } W ⟨⟨_,xbu _ rfl,rfl,rfl⟩,pl.isList.push _⟩ (low _ hlt) (λi v e=>zns rv (by simpa using e)) λh' tk hk=>key _ h' tk hk)
 ·obtain⟨its,rv,pl,hz⟩:=I.tuple hs;have hlt:a < s.heap.objs.size:=pl.lt;have hl:=rv.length;rw[xbb] at hl;have pt:s.heap.IsTuple a its.toArray:=pl;have W:=Walks.tuple (prog:=X.prog) (w:=X.w) (A:=X.A.in1) (I.ok.hd hc) s.heap.objs.size a (xce hlt) its.toArray;rw[show its.toArray.size=ns.length from by rw[xbv];exact hl.symm] at W;exact xja pt (h _ _ _ _ _ { s with heap:=s.heap.push { cls:=.type "tuple_iterator", data:=.fields #[.ref a,.int 0 0] } } W ⟨⟨_,xbu _ rfl,rfl,rfl⟩,pt.push _⟩ (low _ hlt) (λi v e=>zns rv (by simpa using e)) λh' tk hk=>key _ h' tk hk)
theorem zbax {X:Cx}(hc:X.calm=true):CallR X (.builtin "max") (rBest X.K true):=by
 intro aU s σ H xs us Q I r h;obtain⟨a,n,ns,rfl,hs,q⟩:=h;obtain⟨u,rfl,ru⟩:=vals1 r;cases ru;refine call_max_walk (zpy hc I hs λI' fp wr P St s2 W au low val keep=>?_);refine⟨I',fp,wr,_,P,St,_,rfl,W,au,low,by simp,CmpOf.ints_gt (λi=>(n::ns).getD i 0) val,λv h' tk hP hk=>?_⟩;obtain⟨t,rfl⟩:=val _ _ hP;rw[zny (by simp)];exact⟨.int (bestI true n ns),H,keep h' tk hk,⟨_,rfl⟩,q⟩
section
variable {X:Cx}
theorem Inv.turnedL {aU:List (Addr×Obj)}{σ:St}{H:Hp}{s:Shared}{h':Heap}{t':Nat}{ch:List Addr}(I:Inv X aU σ H s)(k:∀b o,b∉ch->s.heap.get? b=some o->h'.get? b=some o)(hf:∀b∈ch,FpOk X aU H b):Inv X aU σ H {s with heap:=h',toks:=t'}:=by
 have nit:∀b u,H b=some u->b∉ch:=λb u e z=>by have:=(hf b z).1;rw[e] at this;cases this
 have loc:X.env.locals∉ch:=λz=>(hf _ z).2.1 rfl
 refine I.step (g':=s.gens) (d':=s.drawn) (ch:=ch) (λb hb=>?_) (λb o _ _ hc e _=>k b o hc e) (λb o _ _ hc e _=>⟨o.slots,k b o hc e⟩) (λ_ _ _ _ n=>n)
  (λb o hc e=>⟨o,k b o hc e⟩) (λ_ _ e=>e) (λ_ _ _ e=>e) (λb ps e=>⟨#[],by rw[e];simp⟩) (λm hm=>?_) (λb u e=>?_) I.bare
 ·obtain⟨f0,f1,f2,f3,f4,f5⟩:=hf b hb;exact⟨f3,f1,f4,f5⟩
 ·obtain⟨o,es,ep,ho,r⟩:=hm;exact⟨o,es,ep,k _ o loc ho,r⟩
 ·refine(I.hok b u e).stay (λc v hc q=>k c v ?_ q) (λ_ q=>q) λ_ _ q=>q
  rcases hc with z | z
  ·rw[z];exact nit b u e
  ·exact nit c _ z
end
end
structure ZRec (z TI TO i1 i2 t1 t2:Addr):Prop where
 nd:[z,TI,TO,i1,i2].Nodup
 o1:t1∉[z,TI,TO,i1,i2]
 o2:t2∉[z,TI,TO,i1,i2]
structure ZAt (h:Heap) (z TI TO i1 i2 t1 t2:Addr) (f0:Value) (j:Nat):Prop where
 zip:IsZip h z TI TO f0
 its:IsPair h TI (.ref i1) (.ref i2)
 out:∃a b,IsPair h TO a b
 it1:h.IsTupleIter i1 t1 j
 it2:h.IsTupleIter i2 t2 j
section
theorem zbbg (a b c d e x:Addr)(h:[a,b,c,d,e].Nodup):a≠b/\a≠c/\a≠d/\a≠e/\b≠c/\b≠d/\b≠e/\c≠d/\c≠e/\d≠e:=by
 simp at h;obtain⟨⟨h1,h2,h3,h4⟩,⟨h5,h6,h7⟩,⟨h8,h9⟩,h10⟩:=h;exact⟨h1,h2,h3,h4,h5,h6,h7,h8,h9,h10⟩
section
variable {prog:Program}{w:World}{A:Around}{E:Value->Shared->Prop}{s:Shared}{z:Addr}{TI:Addr}{TO:Addr}{i1:Addr}{i2:Addr}{t1:Addr}{t2:Addr}{xs:Array Value}{ys:Array Value}{j:Nat}
theorem zbdm {Q:Fin->Shared->Prop}(hh:A.handled=none)(R:ZRec z TI TO i1 i2 t1 t2)(Z:ZAt s.heap z TI TO i1 i2 t1 t2 .none j)(hx:s.heap.IsTuple t1 xs)(hy:s.heap.IsTuple t2 ys)
  (hQ:∀x y,xs[j]?=some x->ys[j]?=some y->∀g,ZAt g z TI TO i1 i2 t1 t2 (rawInt s.heap.objs.size) (j+1)->IsPair g s.heap.objs.size x y->g.objs.size=s.heap.objs.size+1 ->
   (∀c o,c∉[z,TO,i1,i2]->s.heap.get? c=some o->g.get? c=some o)->Q (.done (.ret (.ref s.heap.objs.size))) {s with heap:=g})
  (hE:xs[j]?=none\/ys[j]?=none->∀ g e,(∀ c o,c∉[z,TO,i1,i2]->s.heap.get? c=some o->g.get? c=some o)->(∃ o,g.get? e=some o/\o.cls=.type "StopIteration")->E (.ref e) { s with heap:=g }):wpAny (model prog w) A (Builtin.«zip.__next__» ⟨[.ref z],[]⟩) Q E s:=by
 obtain⟨n1,n2,n3,n4,n5,n6,n7,n8,n9,n10⟩:=zbbg z TI TO i1 i2 0 R.nd;have a1:=R.o1;have a2:=R.o2;simp only[xbm,xfk,xjw,not_or] at a1 a2;obtain⟨p1,p2,p3,p4,p5⟩:=a1;obtain⟨q1,q2,q3,q4,q5⟩:=a2;obtain⟨hz,hI,⟨a,b,hO⟩,k1,k2⟩:=Z;refine(?_:wpAny _ _ (field (.ref z) 2 >>= _) Q E s);refine xba (xib hz rfl (x:=.bool false) rfl (?_:wpAny _ _ (field (.ref z) 3 >>= _) _ _ _));refine xba (xib hz rfl (x:=.ref TI) rfl (xba (xie hI rfl (?_:wpAny _ _ (Builtin.SmallTypes.ownedTupleIsFree (.ref z) >>= _) _ _ _))));refine xba (m:=Builtin.SmallTypes.ownedTupleIsFree (.ref z)) (show wpAny _ _ (field (.ref z) 0 >>= _) _ _ _ from xba (xib hz rfl (x:=.none) rfl (xbd ?_)));simp only[xeu];refine xba (xhh (xba (xib hz rfl (x:=.ref TO) rfl (xba (xjd hz (by simp) λg1 hz1 e1=>?_)))));have hz1':IsZip g1 z TI TO .ellipsis:=hz1;simp only[xnj,List.zipIdx_cons,List.forIn_nil,List.zipIdx_nil];refine xba (xba (xba (wpAny_onRaise (?_:wpAny _ _ (Builtin.SmallTypes.nextOf (.ref i1) >>= _) _ _ _))));refine xba (zud hh (s:={s with heap:=g1}) (k1.extBut e1.extBut (xcx n3)) (hx.extBut e1.extBut p1) (λx hx1 g2 k3 e2=>xbd ?_) λhx1 g2 ee eb he=>?_)
 ·have hO2:IsPair g2 TO a b:=e2.extBut _ _ n8 (e1.extBut _ _ (xcx n2) hO);refine xba (xie hO2 rfl (xba (wpAny_updateSeq_pair (s:={s with heap:=g2}) hO2 λg3 hO3 e3=>xba (xkc (xbd ?_)))));have hO3':IsPair g3 TO x b:=hO3;refine xba (xba (wpAny_onRaise (?_:wpAny _ _ (Builtin.SmallTypes.nextOf (.ref i2) >>= _) _ _ _)));refine xba (zud hh (s:={s with heap:=g3}) (((k2.extBut e1.extBut (xcx n4)).extBut e2.extBut (xcx n10)).extBut e3.extBut (xcx n9)) (((hy.extBut e1.extBut q1).extBut e2.extBut q4).extBut e3.extBut q3) (λy hy1 g4 k4 e4=>xbd ?_) λhy1 g4 ee eb he=>?_)
  ·have hO4:IsPair g4 TO x b:=e4.extBut _ _ n9 hO3';refine xba (xie hO4 rfl (xba (wpAny_updateSeq_pair (s:={s with heap:=g4}) hO4 λg5 hO5 e5=>xba (xkc (xbd (xbd ?_))))));have hO5':IsPair g5 TO x y:=hO5;refine xba (xie hO5' rfl (xba (wpAny_newTuple ?_)));have sz:g5.objs.size=s.heap.objs.size:=by rw[e5.1,e4.1,e3.1,e2.1,e1.1]
   have hz5:IsZip g5 z TI TO .ellipsis:=e5.extBut _ _ n2 (e4.extBut _ _ n4 (e3.extBut _ _ n2 (e2.extBut _ _ n3 hz1')));have kp:∀c o,c∉[z,TO,i1,i2]->s.heap.get? c=some o->g5.get? c=some o:=λc o hc e=>by
    simp only[xbm,xfk,xjw,not_or] at hc;exact e5.extBut _ _ hc.2.1 (e4.extBut _ _ hc.2.2.2 (e3.extBut _ _ hc.2.1 (e2.extBut _ _ hc.2.2.1 (e1.extBut _ _ hc.1 e))))
   have m1:g5.IsTupleIter i1 t1 (j+1):=((k3.extBut e3.extBut (xcx n8)).extBut e4.extBut n10).extBut e5.extBut (xcx n8);have m2:g5.IsTupleIter i2 t2 (j+1):=k4.extBut e5.extBut (xcx n9);have lz:z < g5.objs.size:=xbr hz5;have hz6:IsZip (g5.push { cls:=.type "tuple", data:=.seq #[x,y] }) z TI TO .ellipsis:=xbf _ hz5
   refine xba (m:=Builtin.SmallTypes.ownedTupleHandOut (.ref z) (.ref g5.objs.size)) (xba (xjd hz6 (by simp) λg7 hz7 e7=>?_));have hz7':IsZip g7 z TI TO (rawInt g5.objs.size):=hz7;refine xjd hz7' (by simp) λg8 hz8 e8=>xbd ?_
   have hz8':IsZip g8 z TI TO (rawInt g5.objs.size):=hz8;have up:∀c o,c≠z->g5.get? c=some o->g8.get? c=some o:=λc o hc e=>e8.extBut _ _ hc (e7.extBut _ _ hc (xbf _ e))
   have hT:IsPair g8 g5.objs.size x y:=e8.extBut _ _ (xhi lz) (e7.extBut _ _ (xhi lz) (xbu _ rfl));have s8:g8.objs.size=g5.objs.size+1:=by rw[e8.1,e7.1,xic]
   rw[sz] at hz8' hT s8;have hI5:IsPair g5 TI (.ref i1) (.ref i2):=kp _ _ (by simp[xcx n1,n5,n6,n7]) hI;have fin:=hQ x y hx1 hy1 g8 ⟨hz8',up _ _ (xcx n1) hI5,⟨x,y,up _ _ (xcx n2) hO5'⟩,m1.at λo e=>up _ o (xcx n3) e,m2.at λo e=>up _ o (xcx n4) e⟩ hT s8 λc o hc e=>up c o (λq=>hc (by simp[q])) (kp c o hc e)
   show Q (.done (.ret (.ref g5.objs.size))) _;rw[sz];exact fin
  ·obtain⟨oe,he1,he2⟩:=he;have hz4:IsZip g4 z TI TO .ellipsis:=eb _ _ n4 (e3.extBut _ _ n2 (e2.extBut _ _ n3 hz1'));have nz:ee≠z:=λq=>by rw[q,hz4] at he1;cases he1;simp at he2
   refine xjd hz4 (by simp) λg5 _ e5=>hE (.inr hy1) g5 ee (λc o hc e=>?_) ⟨oe,e5.extBut _ _ nz he1,he2⟩
   simp only[xbm,xfk,xjw,not_or] at hc;exact e5.extBut _ _ hc.1 (eb _ _ hc.2.2.2 (e3.extBut _ _ hc.2.1 (e2.extBut _ _ hc.2.2.1 (e1.extBut _ _ hc.1 e))))
 ·obtain⟨oe,he1,he2⟩:=he;have hz2:IsZip g2 z TI TO .ellipsis:=eb _ _ n3 hz1';have nz:ee≠z:=λq=>by rw[q,hz2] at he1;cases he1;simp at he2
  refine xjd hz2 (by simp) λg3 _ e3=>hE (.inl hx1) g3 ee (λc o hc e=>?_) ⟨oe,e3.extBut _ _ nz he1,he2⟩
  simp only[xbm,xfk,xjw,not_or] at hc;exact e3.extBut _ _ hc.1 (eb _ _ hc.2.2.1 (e1.extBut _ _ hc.1 e))
end
end
section
section
variable {prog:Program}{w:World}{A:Around}{E:Value->Shared->Prop}{s:Shared}{z:Addr}{TI:Addr}{TO:Addr}{i1:Addr}{i2:Addr}{t1:Addr}{t2:Addr}{xs:Array Value}{ys:Array Value}{j:Nat}
theorem ztb {Q:Option Value->Shared->Prop}(hh:A.handled=none)(R:ZRec z TI TO i1 i2 t1 t2)(Z:ZAt s.heap z TI TO i1 i2 t1 t2 .none j)(hx:s.heap.IsTuple t1 xs)(hy:s.heap.IsTuple t2 ys)
  (hQ:∀x y,xs[j]?=some x->ys[j]?=some y->∀g,ZAt g z TI TO i1 i2 t1 t2 (rawInt s.heap.objs.size) (j+1)->IsPair g s.heap.objs.size x y->g.objs.size=s.heap.objs.size+1 ->
   (∀c o,c∉[z,TO,i1,i2]->s.heap.get? c=some o->g.get? c=some o)->Q (some (.ref s.heap.objs.size)) {s with heap:=g})
  (hE:xs[j]?=none\/ys[j]?=none->∀g,(∀c o,c∉[z,TO,i1,i2]->s.heap.get? c=some o->g.get? c=some o)->Q none {s with heap:=g}):wpAny (model prog w) A (pyNext (.ref z)) Q E s:=by
 have T:s.TypeIs (.ref z) "zip":=⟨_,Z.zip,rfl⟩
 unfold pyNext;refine xba (xka (wpAny_callSpecial?_slot (name:=Str.ofString "__next__") T F.slot_zip_next (xej F.slot_zip_next T F.entry_zip_next (zbdm hh R Z hx hy (λx y h1 h2 g k1 k2 k3 k4=>⟨_,rfl,xbd (hQ x y h1 h2 g k1 k2 k3 k4)⟩) λh1 g e k he=>?_) (F.args_zip_next_1 _))))
 obtain⟨o,ho,hc⟩:=he;exact xba (xlg (T:="StopIteration") (b:=true) ⟨o,ho,hc⟩ isSubtype_stop (xbd (hE h1 g k)))
end
end
def Itz (K:Fg) (a b:Addr):It :=
 ⟨λi H=>∃xs ys x y,SqT K H a xs/\SqT K H b ys/\xs[i]?=some x/\ys[i]?=some y,
  λi H u H'=>∃p,H p=none/\u=.ref p/\∀xs ys x y,SqT K H a xs->SqT K H b ys->xs[i]?=some x->ys[i]?=some y->H'=upd H p (.tup [x,y]),
  λi H=>∃xs ys,SqT K H a xs/\SqT K H b ys/\(xs.length<=i\/ys.length<=i)⟩
theorem zbds {P:Program}{w:World}{K:Fg}{elts:List Expr}{k:Nat}{tpos:Pos}{z TI TO i1 i2 a b:Addr}(R:ZRec z TI TO i1 i2 a b) :
  Turn P w K (.Tuple elts k tpos) (Itz K a b) [z,TI,TO,i1,i2] z (λi h=>ZAt h z TI TO i1 i2 a b .none i) where
 mem:=by simp
 obj:=λi h au c hc=>by
  obtain⟨u,v,hO⟩:=au.out;obtain⟨o1,e1,_,d1⟩:=au.it1;obtain⟨o2,e2,_,d2⟩:=au.it2;have hc':c=z\/c=TI\/c=TO\/c=i1\/c=i2:=by simpa using hc
  rcases hc' with rfl | rfl | rfl | rfl | rfl
  ·exact⟨_,au.zip,λv q=>by cases(show Data.fields _=Data.cell v from q)⟩
  ·exact⟨_,au.its,λv q=>by cases(show Data.seq _ _=Data.cell v from q)⟩
  ·exact⟨_,hO,λv q=>by cases(show Data.seq _ _=Data.cell v from q)⟩
  ·exact⟨o1,e1,λv q=>by rw[d1] at q;cases q⟩
  ·exact⟨o2,e2,λv q=>by rw[d2] at q;cases q⟩
 keep:=λi h h' au kk=>by
  obtain⟨u,v,hO⟩:=au.out;exact⟨kk z (by simp) _ au.zip,kk TI (by simp) _ au.its,⟨u,v,kk TO (by simp) _ hO⟩,au.it1.at λo e=>kk i1 (by simp) o e,au.it2.at λo e=>kk i2 (by simp) o e⟩
 item:=by
  intro X hP hw hK hc i aU s σ H E I hf au hg;subst hP hw hK;obtain⟨xs,ys,x,y,hq1,hq2,hx,hy⟩:=hg;obtain⟨its1,rv1,p1,hz1⟩:=I.tuple hq1;obtain⟨its2,rv2,p2,hz2⟩:=I.tuple hq2;obtain⟨u1,hu1,ru1⟩:=rv1.get hx;obtain⟨u2,hu2,ru2⟩:=rv2.get hy;refine ztb (I.ok.hd hc) R au (show s.heap.IsTuple a its1.toArray from p1) (show s.heap.IsTuple b its2.toArray from p2) (λv1 v2 e1 e2 g Z hT hsz kp=>?_) λe=>?_
  ·have f1:v1=u1:=by rw[xgu,hu1] at e1;exact(xcs e1).symm
   have f2:v2=u2:=by rw[xgu,hu2] at e2;exact(xcs e2).symm
   subst f1 f2;refine⟨_,rfl,wpAny_letOwnedTupleGo_zip Z.zip λg2 hz' e'=>?_⟩;have low:∀c∈[z,TI,TO,i1,i2],c < s.heap.objs.size:=λc hc'=>by
    obtain⟨uu,vv,hO⟩:=au.out;obtain⟨o1,e1,_⟩:=au.it1;obtain⟨o2,e2,_⟩:=au.it2;have hc'':c=z\/c=TI\/c=TO\/c=i1\/c=i2:=by simpa using hc'
    rcases hc'' with rfl | rfl | rfl | rfl | rfl
    ·exact xbr au.zip
    ·exact xbr au.its
    ·exact xbr hO
    ·exact xbr e1
    ·exact xbr e2
   have hzl:=low z (by simp);have I1:Inv X aU σ (upd H s.heap.objs.size (.tup [x,y])) { s with heap:=s.heap.push { cls:=.type "tuple", data:=.seq #[v1,v2] },toks:=s.toks } :=
    I.laid (λ_ _ q=>xbf _ q) (xbg _) ⟨by simp;decide,[v1,v2],.cons ru1 (.cons ru2 .nil),⟨_,xbu _ rfl,rfl,_,rfl⟩⟩
   have hf2:∀c∈[z,TI,TO,i1,i2],FpOk X aU (upd H s.heap.objs.size (.tup [x,y])) c:=λc hc'=>by
    obtain⟨f0,fr⟩:=hf c hc';exact⟨by rw[zx (xce (low c hc'))];exact f0,fr⟩
   have I2:Inv X aU σ (upd H s.heap.objs.size (.tup [x,y])) {s with heap:=g2,toks:=s.toks}:=by
    refine Inv.turnedL (s:={ s with heap:=s.heap.push { cls:=.type "tuple", data:=.seq #[v1,v2] },toks:=s.toks }) (h':=g2) (t':=s.toks) (ch:=[z,TI,TO,i1,i2]) I1 (λc o hc' q=>?_) hf2
    have q':(s.heap.push { cls:=.type "tuple", data:=.seq #[v1,v2] }).get? c=some o:=q
    have cz:c≠z:=λe=>hc' (by simp[e])
    rcases Heap.get?_push_cases q' with⟨e1,e2⟩ | e1
    ·rw[e1,e2];exact e'.extBut _ _ (xhi hzl) hT
    ·exact e'.extBut _ _ cz (kp c o (λm=>hc' (by simp at m ⊢;rcases m with m | m | m | m<;>simp[m])) e1)
   obtain⟨d1,d2,d3,d4,_⟩:=zbbg z TI TO i1 i2 0 R.nd;obtain⟨uu,vv,hO⟩:=Z.out;refine⟨.ref s.heap.objs.size,_,I2,rfl,⟨s.heap.objs.size,I.fresh,rfl,λas bs x' y' ha hb ex ey=>?_⟩,⟨hz',e'.extBut _ _ (xcx d1) Z.its,⟨uu,vv,e'.extBut _ _ (xcx d2) hO⟩,Z.it1.extBut e'.extBut (xcx d3),Z.it2.extBut e'.extBut (xcx d4)⟩,λc hc'=>(hf2 c hc').1⟩;rw[I.tuple_inj ha hq1,hx] at ex;rw[I.tuple_inj hb hq2,hy] at ey;cases ex;cases ey
   rfl
  ·rcases e with e | e
   ·rw[xgu,hu1] at e;cases e
   ·rw[xgu,hu2] at e;cases e
 done:=by
  intro X hP hw hK hc i aU s σ H E I hf au hg;subst hP hw hK;obtain⟨xs,ys,hq1,hq2,hl⟩:=hg;obtain⟨its1,rv1,p1,hz1⟩:=I.tuple hq1;obtain⟨its2,rv2,p2,hz2⟩:=I.tuple hq2;have l1:=rv1.length;have l2:=rv2.length;refine ztb (I.ok.hd hc) R au (show s.heap.IsTuple a its1.toArray from p1) (show s.heap.IsTuple b its2.toArray from p2) (λv1 v2 e1 e2 g Z hT hsz kp=>?_) λ_ g kp=>⟨rfl,I.turnedL (t':=s.toks) (ch:=[z,TI,TO,i1,i2]) (λc o hc' e=>kp c o (λm=>hc' (by simp at m ⊢;rcases m with m | m | m | m<;>simp[m])) e) hf⟩
  rw[xgu] at e1 e2;have g1:=(xbj.mp e1).1;have g2:=(xbj.mp e2).1;lia
 self:=λA i s Q E au h=>wpAny_pyIter_zip au.zip h
section
noncomputable abbrev tupIt (l:Addr):Obj:={ cls:=.type "tuple_iterator", data:=.fields #[.ref l,.int 0 0] }
noncomputable abbrev two (a b:Value):Obj:={ cls:=.type "tuple", data:=.seq #[a,b] }
noncomputable abbrev zipOb (a b:Addr):Obj:={ cls:=.type "zip", data:=.fields #[.none,.bool false,.bool false,.ref a,.ref b] }
abbrev lay1 (h:Heap) (l1:Addr):Heap:=h.push (tupIt l1)
abbrev lay2 (h:Heap) (l1 l2:Addr):Heap:=(lay1 h l1).push (tupIt l2)
abbrev lay3 (h:Heap) (l1 l2:Addr):Heap:=(lay2 h l1 l2).push (two (.ref h.objs.size) (.ref (lay1 h l1).objs.size))
abbrev lay4 (h:Heap) (l1 l2:Addr):Heap:=(lay3 h l1 l2).push (two .none .none)
abbrev lay5 (h:Heap) (l1 l2:Addr):Heap:=(lay4 h l1 l2).push (zipOb (lay2 h l1 l2).objs.size (lay3 h l1 l2).objs.size)
theorem zbdn (l1 l2:Addr)(xs ys:Array Value) :
  Meets (Builtin.«zip.__new__» ⟨[.type "zip", .ref l1,.ref l2],[]⟩) (λ_ R s=>s.heap.IsTuple l1 xs/\s.heap.IsTuple l2 ys/\R (.ok (.ret (.ref (lay4 s.heap l1 l2).objs.size))) { s with heap:=lay5 s.heap l1 l2 }) :=
 .of_wp λprog w A R s h=>by
  obtain⟨hp,g,d,tk,os⟩:=s;obtain⟨k1,k2,h⟩:=h;have sub:=sub_zip;have k1':Heap.IsTuple (Shared.heap ⟨hp,g,d,tk,os⟩) l1 xs:=k1;have k2':Heap.IsTuple (Shared.heap ⟨hp.push (tupIt l1),g,d,tk,os⟩) l2 ys:=k2.push _
  wp_walk using xja k1',xja k2'
  exact⟨_,rfl,h⟩
theorem zue {n l1 l2:Nat}(h1:l1 < n)(h2:l2 < n):ZRec (n+4) (n+2) (n+3) n (n+1) l1 l2/\∀c∈[n+4,n+2,n+3,n,n+1],n<=c :=
 have q:∀{l:Nat},l < n->l∉[n+4,n+2,n+3,n,n+1]:=λ{l} h m=>by
  simp only[xbm,xfk,xjw] at m;lia
 ⟨⟨by simp,q h1,q h2⟩,λc hc=>by simp at hc;lia⟩
theorem zbav {s:Shared}    (k1:s.heap.IsTuple l1 xs)(k2:s.heap.IsTuple l2 ys)
  (h:∀g z TI TO i1 i2,ZRec z TI TO i1 i2 l1 l2->ZAt g z TI TO i1 i2 l1 l2 .none 0->(∀c∈[z,TI,TO,i1,i2],s.heap.objs.size<=c) ->
   (∀ c o,s.heap.get? c=some o->g.get? c=some o)->Q (.ref z) { s with heap:=g }):wpAny (model prog w) A (call (.type "zip") [.ref l1,.ref l2]) Q E s:=by
 have lt1:l1 < s.heap.objs.size:=by obtain⟨_,e,_⟩:=k1;exact xbr e
 have lt2:l2 < s.heap.objs.size:=by obtain⟨_,e,_⟩:=k2;exact xbr e
 refine callType_new F.called_zip (by decide) (F.typeCall_zip_2 _ _) (F.newCall_zip_2 _ _) (λobj=>F.args_object_init_3 obj _ _) F.entry_zip_new (zbdn l1 l2 xs ys) ⟨k1,k2,?_⟩;have z1:(lay1 s.heap l1).objs.size=s.heap.objs.size+1:=xic ..
 have z2:(lay2 s.heap l1 l2).objs.size=s.heap.objs.size+2:=(xic ..).trans (by rw[z1]);have z3:(lay3 s.heap l1 l2).objs.size=s.heap.objs.size+3:=(xic ..).trans (by rw[z2]);have z4:(lay4 s.heap l1 l2).objs.size=s.heap.objs.size+4:=(xic ..).trans (by rw[z3]);have g5:(lay5 s.heap l1 l2).get? (lay4 s.heap l1 l2).objs.size=some _:=xbu _ rfl;have g4:(lay5 s.heap l1 l2).get? (lay3 s.heap l1 l2).objs.size=some _:=xbf _ (xbu _ rfl);have g3:(lay5 s.heap l1 l2).get? (lay2 s.heap l1 l2).objs.size=some _:=xbf _ (xbf _ (xbu _ rfl));have g2:(lay5 s.heap l1 l2).get? (lay1 s.heap l1).objs.size=some _:=xbf _ (xbf _ (xbf _ (xbu _ rfl)));have g1:(lay5 s.heap l1 l2).get? s.heap.objs.size=some _:=xbf _ (xbf _ (xbf _ (xbf _ (xbu _ rfl))));have fin:=h (lay5 s.heap l1 l2) (lay4 s.heap l1 l2).objs.size (lay2 s.heap l1 l2).objs.size (lay3 s.heap l1 l2).objs.size s.heap.objs.size (lay1 s.heap l1).objs.size
  (by rw[z4,z3,z2,z1];exact(zue lt1 lt2).1) ⟨g5,g3,⟨_,_,g4⟩,⟨_,g1,rfl,rfl⟩,⟨_,g2,rfl,rfl⟩⟩
  (by rw[z4,z3,z2,z1];exact(zue lt1 lt2).2) λc o e=>xbf _ (xbf _ (xbf _ (xbf _ (xbf _ e))))
 exact⟨⟨_,g5,rfl⟩,fin⟩
end
section
def iZip (K:Fg) (ta:TA):TI:=λσ H R=>ta σ H λvs H1=>∃a b,vs=[.ref a,.ref b]/\(∃xs,SqT K H1 a xs)/\(∃xs,SqT K H1 b xs)/\R (Itz K a b) H1
section
variable {X:Cx}
theorem zbos {elts:List Expr}{k:Nat}{tpos p pos:Pos}{a b:Expr}{ta:TA}(hg:Gl X "zip")(hm:X.mg "zip"=none)(ha:PA X [a,b] ta)
  (hs:starEach [a,b] X.env=[(false,eval a X.env),(false,eval b X.env)]:=by rfl)(hs2:starEach [b] X.env=[(false,eval b X.env)]:=by rfl) :
  PI X (.Tuple elts k tpos) (.Call (.Name "zip" p) [a,b] [] pos) (iZip X.K ta):=by
 intro aU s σ H R I h;refine Call_ (zno I hg hm PyProof.Rows.boot_zip (xgj (thn (ha pos aU s σ H _ I h) λus s1 ⟨vs,H1,I1,r1,q1⟩=>?_) (by rw[hs,hs2]) (by rw[hs2];rfl)));obtain⟨a,b,e,⟨xs,hx⟩,⟨ys,hy⟩,q⟩:=q1;subst e;obtain⟨u1,u2,rfl,e1,e2⟩:=vals2 r1;cases e1;cases e2;obtain⟨its1,rv1,p1,hz1⟩:=I1.tuple hx;obtain⟨its2,rv2,p2,hz2⟩:=I1.tuple hy;refine zbav (show s1.heap.IsTuple a its1.toArray from p1) (show s1.heap.IsTuple b its2.toArray from p2) λg z TI TO i1 i2 R Z low kp=>?_
 refine wpAny_pyIter_zip Z.zip ?_;exact⟨z,[z,TI,TO,i1,i2],_,_,H1,rfl,I1.kept (t':=s1.toks) kp,zbds R,Z,λc hc=>I1.fpOk (low c hc) (I1.hok.fresh (low c hc)),q⟩
end
end
end L2
namespace Dd
open PySem L2
set_option genInjectivity true in
inductive D where
 | non | bl (b:Bool) | int (i:Int) | str (x:Str) | ty (n:String) | ref (n:Nat) | tup (ds:List D) | lst (ds:List D) | scr (ds:List D) | exn (c:Str) (l:List Int)
set_option genInjectivity true in
inductive O where
 /-- a list that may change;a dict by tuples of ints;one that is only read;gone -/
 | lst (xs:List D) | dT (kvs:List (List Int×D)) | fT (kvs:List (List Int×D)) | dead
 /-- a dict by ints -/
 | dI (kvs:List (Int×D))
 /-- the law's table of codes -/
 | tab
noncomputable abbrev Store:=List O
structure Exc where
 cls:Str
 at_:List Int
set_option genInjectivity true in
inductive Res (α:Type) where
 | ok (a:α) (au:Store) | exc (x:Exc) (au:Store) | stuck
def Res.bind {α β:Type}:Res α->(α->Store->Res β)->Res β
 | .ok a au,f=>f a au
 | .exc x au,_=>.exc x au
 | .stuck,_=>.stuck
@[simp] theorem zdm {α β:Type} (a:α) (au:Store) (f:α->Store->Res β):(Res.ok a au).bind f=f a au:=rfl
@[simp] theorem zbsd {α β:Type} (x:Exc) (au:Store) (f:α->Store->Res β):(Res.exc x au:Res α).bind f=.exc x au:=rfl
@[simp] theorem zbmy {α β:Type} (f:α->Store->Res β):(Res.stuck:Res α).bind f=.stuck:=rfl
theorem zb {α β:Type}{r:Res α}{f:α->Store->Res β}{b:β}{st':Store}(h:r.bind f=.ok b st'):∃a au,r=.ok a au/\f a au=.ok b st':=by
 cases r with
 | ok a au=>exact⟨a,au,rfl,h⟩
 | exc x au=>cases h
 | stuck=>cases h
noncomputable abbrev DS:=List (Option D)
abbrev SE:=DS->Store->Res D
abbrev ST:=DS->Store->Res Bool
abbrev SA:=DS->Store->Res (List D)
set_option genInjectivity true in
inductive Fl where
 | nx (σ:DS) | ret (v:D) | brk (σ:DS) | ct (σ:DS)
abbrev SS:=DS->Store->Res Fl
abbrev DFn:=List D->Store->Res D
structure Loc where
 m:List (Option Addr)
 g:List Addr
def Out (ρ:Loc) (a:Addr):Prop:=some a∉ρ.m/\a∉ρ.g
def Ls (K:Fg) (ρ:Loc) (H:Hp) (a:Addr) (vs:List V):Prop:=(Rd H a (.lst vs)/\Out ρ a)\/∀H':Hp,SqL K H' a vs
def XAt (K:Fg) (ρ:Loc) (H:Hp) (c:Str) (l:List Int) (a:Addr):Prop:=∃C o,W.nsIn K mainGlobals c=some (some (.ref C))/\(H a=some (.frz o (.ext λ_=>True))/\Out ρ a)/\o.cls=.ref C/\(∃vs,o.data=.fields vs/\vs[2]?=some .none) /\
 ((l=[]/\o.dict=none)\/∃ i dx od,l=[i]/\o.dict=some dx/\H dx=some (.frz od (.xd [("at", .int i)]))/\Out ρ dx)
theorem XAt.map {K:Fg}      (h:XAt K ρ H c l a)(f:∀b ob u,H b=some (.frz ob u)->Out ρ b->H' b=some (.frz ob u)/\Out ρ' b):XAt K ρ' H' c l a:=by
 obtain⟨C,o,h1,h2,h3,h4,h5⟩:=h;refine⟨C,o,h1,f _ _ _ h2.1 h2.2,h3,h4,?_⟩;rcases h5 with h5 | ⟨i,dx,od,h6,h7,h8,h9⟩
 ·exact .inl h5
 ·exact .inr ⟨i,dx,od,h6,h7,(f _ _ _ h8 h9).1,(f _ _ _ h8 h9).2⟩
mutual
inductive At (K:Fg) (ρ:Loc) (H:Hp):D->V->Prop
 | non:At K ρ H .non .non
 | bl (b:Bool):At K ρ H (.bl b) (.bl b)
 | int (i:Int):At K ρ H (.int i) (.int i)
 | str (x:Str):At K ρ H (.str x) (.str x)
 | ty (n:String):At K ρ H (.ty n) (.ty n)
 | ref {n:Nat} {v:V}:n < ρ.m.length->(∀a,ρ.m[n]?=some (some a)->v=.ref a)->At K ρ H (.ref n) v
 | tup {a:Addr} {ds:List D} {vs:List V}:H a=some (.tup vs)->Out ρ a->AtAll K ρ H ds vs->At K ρ H (.tup ds) (.ref a)
 | lst {a:Addr} {ds:List D} {vs:List V}:H a=some (.lst vs)->Out ρ a->AtAll K ρ H ds vs->At K ρ H (.lst ds) (.ref a)
 | scr {a:Addr} {ds:List D} {vs:List V}:Ls K ρ H a vs->AtAll K ρ H ds vs->At K ρ H (.scr ds) (.ref a)
 | exn {c:Str} {l:List Int} {a:Addr}:XAt K ρ H c l a->At K ρ H (.exn c l) (.ref a)
inductive AtAll (K:Fg) (ρ:Loc) (H:Hp):List D->List V->Prop
 | nil:AtAll K ρ H [] []
 | cons {d:D} {ds:List D} {v:V} {vs:List V}:At K ρ H d v->AtAll K ρ H ds vs->AtAll K ρ H (d::ds) (v::vs)
end
structure Mv (ρ:Loc) (H:Hp) (ρ':Loc) (H':Hp):Prop where
 out:∀{a:Addr} {o:HO},H a=some o->Out ρ a->H' a=some o/\Out ρ' a
 len:ρ.m.length<=ρ'.m.length
 old:∀(n:Nat) (a:Addr),n < ρ.m.length->ρ'.m[n]?=some (some a)->ρ.m[n]?=some (some a)
theorem Ls.mv {K:Fg}     (x:Mv ρ H ρ' H')(h:Ls K ρ H a vs):Ls K ρ' H' a vs:=by
 rcases h with⟨h | ⟨o,h⟩,n⟩ | h
 ·exact .inl ⟨.inl (x.out h n).1,(x.out h n).2⟩
 ·exact .inl ⟨.inr ⟨o,(x.out h n).1⟩,(x.out h n).2⟩
 ·exact .inr h
theorem At.mv {K:Fg}   (x:Mv ρ H ρ' H')   (h:At K ρ H d v):At K ρ' H' d v :=
 At.rec (motive_1:=λd v _=>At K ρ' H' d v) (motive_2:=λd v _=>AtAll K ρ' H' d v) .non .bl .int .str .ty (λh e=>.ref (xbk h x.len) λa q=>e a (x.old _ a h q)) (λh n _ ih=>.tup (x.out h n).1 (x.out h n).2 ih) (λh n _ ih=>.lst (x.out h n).1 (x.out h n).2 ih) (λh _ ih=>.scr (h.mv x) ih) (λh=>.exn (h.map λ_ _ _ e n=>x.out e n)) .nil (λ_ _ a b=>.cons a b) h
theorem AtAll.mv {K:Fg}   (x:Mv ρ H ρ' H')   (h:AtAll K ρ H d v):AtAll K ρ' H' d v :=
 AtAll.rec (motive_1:=λ_ _ _=>True) (motive_2:=λd v _=>AtAll K ρ' H' d v) trivial (λ_=>trivial) (λ_=>trivial) (λ_=>trivial) (λ_=>trivial) (λ_ _=>trivial) (λ_ _ _ _=>trivial) (λ_ _ _ _=>trivial) (λ_ _ _=>trivial) (λ_=>trivial) .nil (λa _ _ b=>.cons (a.mv x) b) h
structure Ext (ρ:Loc) (H:Hp) (ρ':Loc) (H':Hp):Prop where
 len:ρ.m.length<=ρ'.m.length
 old:∀(n:Nat) (a:Addr),n < ρ.m.length->ρ'.m[n]?=some (some a)->ρ.m[n]?=some (some a)
 keep:∀a o,H a=some o->some a∉ρ.m->H' a=some o/\some a∉ρ'.m
 gho:ρ'.g=ρ.g
 frz:∀a ob u,H a=some (.frz ob u)->H' a=some (.frz ob u)
theorem Ext.out   (x:Ext ρ H ρ' H')   (h:H a=some o)(n:Out ρ a):H' a=some o/\Out ρ' a :=
 ⟨(x.keep a o h n.1).1,(x.keep a o h n.1).2,by rw[x.gho];exact n.2⟩
theorem Ext.mv   (x:Ext ρ H ρ' H'):Mv ρ H ρ' H':=⟨λh n=>x.out h n,x.len,x.old⟩
theorem Ls.sq {K:Fg}     (h:Ls K ρ H a vs):SqL K H a vs:=by
 rcases h with h | h
 ·exact .inl h.1
 ·exact h H
section
theorem Ext.refl (ρ:Loc)(H:Hp):Ext ρ H ρ H:=⟨xbg _,λ_ _ _ e=>e,λ_ _ e n=>⟨e,n⟩,rfl,λ_ _ _ e=>e⟩
theorem Ext.trans   (a:Ext ρ H ρ1 H1)(b:Ext ρ1 H1 ρ2 H2):Ext ρ H ρ2 H2 :=
 ⟨xbc a.len b.len,λn c h e=>a.old n c h (b.old n c (xbk h a.len) e),λc o e n=>by
  obtain⟨e1,n1⟩:=a.keep c o e n
  exact b.keep c o e1 n1,b.gho.trans a.gho,λc ob u e=>b.frz c ob u (a.frz c ob u e)⟩
theorem At.ext {K:Fg}   (x:Ext ρ H ρ' H')   (h:At K ρ H d v):At K ρ' H' d v:=h.mv x.mv
theorem AtAll.ext {K:Fg}   (x:Ext ρ H ρ' H')   (h:AtAll K ρ H d v):AtAll K ρ' H' d v:=h.mv x.mv
theorem AtAll.length {K:Fg}  :∀{ds:List D} {vs:List V},AtAll K ρ H ds vs->vs.length=ds.length
 | _,_,.nil=>rfl
 | _,_,.cons _ t=>by rw[xcc,xcc,AtAll.length t]
theorem AtAll.get {K:Fg}  :∀{ds:List D} {vs:List V} {i:Nat} {d:D},AtAll K ρ H ds vs->ds[i]?=some d->∃v,vs[i]?=some v/\At K ρ H d v
 | _,_,_,_,.nil,e=>by simp at e
 | _,_,0,_,.cons a _,e=>by simp at e;subst e;exact⟨_,rfl,a⟩
 | _,_,i+1,d,.cons _ t,e=>by
  obtain⟨u,h1,h2⟩:=AtAll.get (i:=i) (d:=d) t (by simpa using e);exact⟨u,by simpa using h1,h2⟩
theorem AtAll.append {K:Fg}  :∀{ds es:List D} {vs us:List V},AtAll K ρ H ds vs->AtAll K ρ H es us->AtAll K ρ H (ds++es) (vs++us)
 | _,_,_,_,.nil,b=>b
 | _,_,_,_,.cons a t,b=>.cons a (AtAll.append t b)
theorem AtAll.take {K:Fg}  :∀{ds:List D} {vs:List V} (n:Nat),AtAll K ρ H ds vs->AtAll K ρ H (ds.take n) (vs.take n)
 | _,_,0,_=>.nil
 | _,_,_+1,.nil=>.nil
 | _,_,n+1,.cons a t=>.cons a (AtAll.take n t)
theorem AtAll.drop {K:Fg}  :∀{ds:List D} {vs:List V} (n:Nat),AtAll K ρ H ds vs->AtAll K ρ H (ds.drop n) (vs.drop n)
 | _,_,0,h=>h
 | _,_,_+1,.nil=>.nil
 | _,_,n+1,.cons a t=>AtAll.drop n t
theorem AtAll.set {K:Fg}     (a:At K ρ H d v):∀{ds:List D} {vs:List V} (n:Nat),AtAll K ρ H ds vs->AtAll K ρ H (ds.set n d) (vs.set n v)
 | _,_,_,.nil=>.nil
 | _,_,0,.cons _ t=>.cons a t
 | _,_,n+1,.cons b t=>.cons b (AtAll.set a n t)
def KvAt (K:Fg) (ρ:Loc) (H:Hp):List (List Int×D)->List (List Key×V)->Prop:=Paired λp q=>q.1=p.1.map Sum.inl/\At K ρ H p.2 q.2
theorem KvAt.ext {K:Fg}   (x:Ext ρ H ρ' H')   (h:KvAt K ρ H a b):KvAt K ρ' H' a b:=Paired.mapP h λp q z=>⟨z.1,z.2.ext x⟩
noncomputable abbrev lamQ:Str:=(("law" : Str)++".<locals>.")++"<lambda>"
def TabOk (H:Hp) (ps:Array Value):Prop:=TriplesOk ps.toList/\∀pos cv,codeAmong pos ps.toList=some cv->∃c oc vs t,cv=.ref c/\H c=some (.frz oc (.ext λ_=>True))/\oc.data=.fields vs/\vs[1]?=some (.str lamQ t)
theorem TabOk.map   (h:TabOk H ps)(f:∀b ob u,H b=some (.frz ob u)->H' b=some (.frz ob u)):TabOk H' ps :=
 ⟨h.1,λpos cv e=>by obtain⟨c,oc,vs,t,e1,e2,e3⟩:=h.2 pos cv e;exact⟨c,oc,vs,t,e1,f _ _ _ e2,e3⟩⟩
def KiAt (K:Fg) (ρ:Loc) (H:Hp):List (Int×D)->List (Key×V)->Prop:=Paired λp q=>q.1=Sum.inl p.1/\At K ρ H p.2 q.2
theorem KiAt.ext {K:Fg}   (x:Ext ρ H ρ' H')   (h:KiAt K ρ H a b):KiAt K ρ' H' a b:=Paired.mapP h λp q z=>⟨z.1,z.2.ext x⟩
def OAt (K:Fg) (ρ:Loc) (H:Hp):O->Addr->Prop
 | .lst xs,a=>∃vs,H a=some (.lst vs)/\AtAll K ρ H xs vs
 | .dT kvs,a=>∃vs,H a=some (.dT vs)/\KvAt K ρ H kvs vs
 | .fT kvs,a=>∃vs ob,H a=some (.frz ob (.dT vs))/\KvAt K ρ H kvs vs
 | .dI kvs,a=>∃vs,H a=some (.dK vs)/\KiAt K ρ H kvs vs
 | .dead,_=>False
 | .tab,a=>(∃ c,W.tabIn K "law"=some (c,a))/\∃ ps,H a=some (.tbl ps)/\TabOk H ps
structure Rep (K:Fg) (ρ:Loc) (au:Store) (H:Hp):Prop where
 len:ρ.m.length=au.length
 inj:∀(n m:Nat) (a:Addr),ρ.m[n]?=some (some a)->ρ.m[m]?=some (some a)->n=m
 obj:∀(n:Nat) (a:Addr) (o:O),ρ.m[n]?=some (some a)->au[n]?=some o->OAt K ρ H o a
 gh:∀a∈ρ.g,(∃vs,H a=some (.lst vs))/\some a∉ρ.m
 live:∀(n:Nat) (o:O),au[n]?=some o->o≠.dead->∃a,ρ.m[n]?=some (some a)
def AtO (K:Fg) (ρ:Loc) (H:Hp) (o:Option D) (v:Option V):Prop:=∀d,o=some d->∃u,v=some u/\At K ρ H d u
abbrev AtS (K:Fg) (ρ:Loc) (H:Hp):DS->St->Prop:=Paired (AtO K ρ H)
theorem AtS.ext {K:Fg}   (x:Ext ρ H ρ' H')   (h:AtS K ρ H σ τ):AtS K ρ' H' σ τ:=Paired.mapP h λo v z d e=>by
 obtain⟨u,e1,a⟩:=z d e;exact⟨u,e1,a.ext x⟩
theorem AtS.get {K:Fg}  :∀{σ:DS} {τ:St} {i:Nat} {d:D},AtS K ρ H σ τ->σ[i]?=some (some d)->∃u,τ[i]?=some (some u)/\At K ρ H d u
 | _,_,_,_,.nil,e=>by simp at e
 | _,_,0,_,.cons a _,e=>by
  simp at e;subst e
  obtain⟨u,e1,h⟩:=a _ rfl;exact⟨u,by simp[e1],h⟩
 | _,_,i+1,d,.cons _ t,e=>by
  obtain⟨u,h1,h2⟩:=AtS.get (i:=i) (d:=d) t (by simpa using e);exact⟨u,by simpa using h1,h2⟩
theorem AtS.set {K:Fg}     (a:At K ρ H d v):∀{σ:DS} {τ:St} (i:Nat),AtS K ρ H σ τ->AtS K ρ H (σ.set i (some d)) (τ.set i (some v))
 | _,_,_,.nil=>.nil
 | _,_,0,.cons _ t=>.cons (λd' e=>by cases e;exact⟨v,rfl,a⟩) t
 | _,_,i+1,.cons q t=>.cons q (AtS.set a i t)
end
def tD (K:Fg) (f:SE):TE:=λτ H Q=>∃ρ σ au v st',AtS K ρ H σ τ/\Rep K ρ au H/\f σ au=.ok v st'/\∀ρ' H' u,Ext ρ H ρ' H'->Rep K ρ' st' H'->At K ρ' H' v u->Q u H'
def tDT (K:Fg) (f:ST):TT:=λτ H Q=>∃ρ σ au v st',AtS K ρ H σ τ/\Rep K ρ au H/\f σ au=.ok v st'/\∀ρ' H',Ext ρ H ρ' H'->Rep K ρ' st' H'->Q v H'
def tDA (K:Fg) (f:SA):TA:=λτ H Q=>∃ρ σ au v st',AtS K ρ H σ τ/\Rep K ρ au H/\f σ au=.ok v st'/\∀ρ' H' u,Ext ρ H ρ' H'->Rep K ρ' st' H'->AtAll K ρ' H' v u->Q u H'
def FlOk (K:Fg) (ρ:Loc) (H:Hp) (st':Store) (E:Ends):Fl->Prop
 | .nx σ=>∀ρ' H' τ,Ext ρ H ρ' H'->Rep K ρ' st' H'->AtS K ρ' H' σ τ->E.nx τ H'
 | .brk σ=>∀ρ' H' τ,Ext ρ H ρ' H'->Rep K ρ' st' H'->AtS K ρ' H' σ τ->E.bk τ H'
 | .ct σ=>∀ρ' H' τ,Ext ρ H ρ' H'->Rep K ρ' st' H'->AtS K ρ' H' σ τ->E.ct τ H'
 | .ret v=>∀ρ' H' u,Ext ρ H ρ' H'->Rep K ρ' st' H'->At K ρ' H' v u->E.rt u H'
theorem FlOk.ext {K:Fg}      (x:Ext ρ H ρ1 H1)(h:FlOk K ρ H st' E fl):FlOk K ρ1 H1 st' E fl:=by
 cases fl with
 | nx σ=>exact λρ' H' τ e=>h ρ' H' τ (x.trans e)
 | brk σ=>exact λρ' H' τ e=>h ρ' H' τ (x.trans e)
 | ct σ=>exact λρ' H' τ e=>h ρ' H' τ (x.trans e)
 | ret v=>exact λρ' H' τ e=>h ρ' H' τ (x.trans e)
def tDS (K:Fg) (f:SS):TS:=λE τ H=>∃ρ σ au fl st',AtS K ρ H σ τ/\Rep K ρ au H/\f σ au=.ok fl st'/\FlOk K ρ H st' E fl
abbrev DE (X:Cx) (e:Expr) (f:SE):Prop:=PE X e (tD X.K f)
abbrev DT (X:Cx) (e:Expr) (f:ST):Prop:=PT X e (tDT X.K f)
abbrev DW (X:Cx) (e:Expr) (f:ST):Prop:=PW X e (tDT X.K f)
abbrev DA (X:Cx) (es:List Expr) (f:SA):Prop:=PA X es (tDA X.K f)
abbrev DSt (X:Cx) (s:Stmt) (f:SS):Prop:=PS X s (tDS X.K f)
abbrev DSs (X:Cx) (s:List Stmt) (f:SS):Prop:=PSs X s (tDS X.K f)
section
theorem zgd  (h:PE X e t)(k:∀σ H Q,t' σ H Q->t σ H Q):PE X e t':=λaU s σ H Q I q=>h aU s σ H Q I (k _ _ _ q)
theorem zbnj  (h:PT X e t)(k:∀σ H Q,t' σ H Q->t σ H Q):PT X e t':=λaU s σ H Q I q=>h aU s σ H Q I (k _ _ _ q)
theorem pw_to  (h:PW X e t)(k:∀σ H Q,t' σ H Q->t σ H Q):PW X e t':=λwh aU s σ H Q I q=>h wh aU s σ H Q I (k _ _ _ q)
theorem zbta  (h:PA X es t)(k:∀σ H Q,t' σ H Q->t σ H Q):PA X es t':=λpos aU s σ H Q I q=>h pos aU s σ H Q I (k _ _ _ q)
theorem zuk  (h:PS X s t)(k:∀E σ H,t' E σ H->t E σ H):PS X s t':=λaU z σ H E I q=>h aU z σ H E I (k _ _ _ q)
theorem zbiv  (h:PSs X ss t)(k:∀E σ H,t' E σ H->t E σ H):PSs X ss t':=λaU z σ H E I q=>h aU z σ H E I (k _ _ _ q)
end
def aA (i:Nat):SE:=λσ au=>match σ[i]? with
 | some (some d)=>.ok d au
 | _=>.stuck
def eC (d:D):SE:=λ_ au=>.ok d au
section
theorem zbuv   (h:PE X e (tVar i)):DE X e (aA i):=zgd h λτ H Q hq0=>by
 obtain⟨ρ,σ,au,v,st',a,r,e,q⟩:=hq0;unfold aA at e;split at e
 ·rename_i d hd;cases e;obtain⟨u,e1,e2⟩:=a.get hd;exact⟨u,e1,q ρ H u (.refl _ _) r e2⟩
 ·cases e
theorem zbmf    (h:PE X e (tC v))(k:∀ρ H,At X.K ρ H d v):DE X e (eC d):=zgd h λτ H Q hq0=>by
 obtain⟨ρ,σ,au,v,st',a,r,e,q⟩:=hq0;cases e;exact q ρ H _ (.refl _ _) r (k _ _)
theorem zbvd {i j pos}:DE X (.Constant (.int i) j pos) (eC (.int i)):=zbmf zbpc λ_ _=>.int i
theorem d_bl {b j pos}:DE X (.Constant (.bool b) j pos) (eC (.bl b)):=zbmf zbua λ_ _=>.bl b
theorem zbvb {j pos}:DE X (.Constant .none j pos) (eC .non):=zbmf zbpb λ_ _=>.non
theorem zbux {x j pos}:DE X (.Constant (.str x) j pos) (eC (.str x)):=zbmf zboy λ_ _=>.str x
end
def aS (g:D->D->Store->Res D) (f f':SE):SE:=λσ au=>(f σ au).bind λx st1=>(f' σ st1).bind λy st2=>g x y st2
def eUn (g:D->Store->Res D) (f:SE):SE:=λσ au=>(f σ au).bind λx st1=>g x st1
def OpD (K:Fg) (g:D->D->Store->Res D) (r:R2):Prop :=
 ∀ρ H au x y u v z st' (Q:VK),Rep K ρ au H->At K ρ H x u->At K ρ H y v->g x y au=.ok z st'->(∀ρ' H' w,Ext ρ H ρ' H'->Rep K ρ' st' H'->At K ρ' H' z w->Q w H')->r u v H Q
theorem zbnk {K:Fg}   (hr:OpD K g r) :∀τ H Q,tD K (aS g f f') τ H Q->tOp r (tD K f) (tD K f') τ H Q:=λτ H Q hq0=>by
 obtain⟨ρ,σ,au,v,st',a,rp,e,q⟩:=hq0;obtain⟨x,st1,e1,e⟩:=zb e;obtain⟨y,st2,e2,e⟩:=zb e;refine⟨ρ,σ,au,x,st1,a,rp,e1,λρ1 H1 u x1 rp1 a1=>?_⟩;refine⟨ρ1,σ,st1,y,st2,a.ext x1,rp1,e2,λρ2 H2 w x2 rp2 a2=>?_⟩;exact hr ρ2 H2 st2 x y u w v st' Q rp2 (a1.ext x2) a2 e λρ' H' z x3 rp3 a3=>q ρ' H' z (x1.trans (x2.trans x3)) rp3 a3
section
theorem d_op    (ho:OpR X (binaryOp op) r)(hr:OpD X.K g r)(ha:DE X a f)(hb:DE X b f'):DE X (.BinOp a op b pos) (aS g f f'):=zgd (zbty ho ha hb) (zbnk hr)
theorem zbve    (ho:OpR X (compareOp op) r)(hr:OpD X.K g r)(ha:DE X a f)(hb:DE X b f')(hm:behindInMarks op b=false):DE X (.Compare a [op] [b] pos) (aS g f f'):=zgd (zbjn ho ha hb hm) (zbnk hr)
def eB (f:SE):ST:=λσ au=>(f σ au).bind λv st1=>match v with
 | .bl b=>.ok b st1
 | _=>.stuck
theorem eB_t {K:Fg} :∀τ H Q,tDT K (eB f) τ H Q->tD K f τ H λx H1=>∃c,x=.bl c/\Q c H1:=λτ H Q hq0=>by
 obtain⟨ρ,σ,au,v,st',a,rp,e,q⟩:=hq0;obtain⟨x,st1,e1,e⟩:=zb e;refine⟨ρ,σ,au,x,st1,a,rp,e1,λρ1 H1 u x1 rp1 a1=>?_⟩;cases x<;>try (cases e;done)
 cases e;cases a1;exact⟨_,rfl,q _ _ x1 rp1⟩
theorem zbrb    (ho:OpR X (compareOp op) r)(hr:OpD X.K g r)(ha:DE X a f)(hb:DE X b f')(hm:behindInMarks op b=false):DT X (.Compare a [op] [b] pos) (eB (aS g f f')) :=
 zbnj (zbiu ho ha hb hm) λτ H Q h=>zbnk hr _ _ _ (eB_t _ _ _ h)
def eChain (g g':D->D->Store->Res D) (f f' f'':SE):SE:=λσ au=>(f σ au).bind λx st1=>(f' σ st1).bind λy st2=>(g x y st2).bind λz st3=>match z with
 | .bl true=>(f'' σ st3).bind λw st4=>g' y w st4
 | .bl false=>.ok (.bl false) st3
 | _=>.stuck
end
end Dd
namespace Dd
open PySem L2
section
theorem Ext.new (hp:H p=none)(o:HO):Ext ρ H ρ (upd H p o):=⟨xbg _,λ_ _ _ e=>e,λb u e m=>⟨by rw[zx (zn e hp)];exact e,m⟩,rfl,λb ob u e=>by rw[zx (zn e hp)];exact e⟩
section
variable {H:Hp}{a:Addr}
theorem zhb {vs:List V}(h:H a=some (.lst vs)):∀ob u,H a≠some (.frz ob u):=λob u z=>by rw[h] at z;cases z
theorem zkq {vs:List (List Key×V)}(h:H a=some (.dT vs)):∀ob u,H a≠some (.frz ob u):=λob u z=>by rw[h] at z;cases z
end
theorem Ext.wr {ρ:Loc}{n:Nat}(h:ρ.m[n]?=some (some a))(hz:∀ob u,H a≠some (.frz ob u))(o:HO):Ext ρ H ρ (upd H a o):=⟨xbg _,λ_ _ _ e=>e,λb u e m=>⟨by
 rw[zx]
 ·exact e
 ·rintro rfl
  exact m (xcb h),m⟩,rfl,λb ob u e=>by
 rw[zx]
 ·exact e
 ·rintro rfl
  exact hz _ _ e⟩
theorem OAt.has {K:Fg}  (h:OAt K ρ H x a):∃u,H a=some u:=by
 cases x with
 | lst xs=>obtain⟨vs,e,_⟩:=h;exact⟨_,e⟩
 | dT kvs=>obtain⟨vs,e,_⟩:=h;exact⟨_,e⟩
 | fT kvs=>obtain⟨vs,ob,e,_⟩:=h;exact⟨_,e⟩
 | dI kvs=>obtain⟨vs,e,_⟩:=h;exact⟨_,e⟩
 | dead=>exact h.elim
 | tab=>obtain⟨_,ps,e,_⟩:=h;exact⟨_,e⟩
theorem OAt.ext {K:Fg}    (e:Ext ρ H ρ' H')(same:H' a=H a)(h:OAt K ρ H x a):OAt K ρ' H' x a:=by
 cases x with
 | lst xs=>obtain⟨vs,q,r⟩:=h;exact⟨vs,by rw[same];exact q,r.ext e⟩
 | dT kvs=>obtain⟨vs,q,r⟩:=h;exact⟨vs,by rw[same];exact q,r.ext e⟩
 | fT kvs=>obtain⟨vs,ob,q,r⟩:=h;exact⟨vs,ob,by rw[same];exact q,r.ext e⟩
 | dI kvs=>obtain⟨vs,q,r⟩:=h;exact⟨vs,by rw[same];exact q,r.ext e⟩
 | dead=>exact h.elim
 | tab=>obtain⟨c,ps,q,r⟩:=h;exact⟨c,ps,by rw[same];exact q,r.map e.frz⟩
theorem Rep.has {K:Fg}{n:Nat}(r:Rep K ρ au H)(h:ρ.m[n]?=some (some a)):∃x,au[n]?=some x/\OAt K ρ H x a:=by
 have hn:n < au.length:=by rw[← r.len];exact(xbj.mp h).1
 exact⟨au[n],xbe hn,r.obj n a _ h (xbe hn)⟩
theorem Rep.new {K:Fg}(r:Rep K ρ au H)(hp:H p=none)(o:HO):Rep K ρ au (upd H p o):=⟨r.len,r.inj,λm b x e1 e2=>by
 have q:=r.obj m b x e1 e2;obtain⟨u,hu⟩:=q.has;exact q.ext (Ext.new hp o) (zx (zn hu hp)),λb hb=>by
 obtain⟨⟨u,hu⟩,n⟩:=r.gh b hb
 exact⟨⟨u,by rw[zx (zn hu hp)];exact hu⟩,n⟩,r.live⟩
theorem Rep.wr {K:Fg}(r:Rep K ρ au H)(h:ρ.m[n]?=some (some a))(hz:∀ob u,H a≠some (.frz ob u))   (q:OAt K ρ (upd H a o) x a):Rep K ρ (au.set n x) (upd H a o):=⟨by rw[r.len,xex],r.inj,λm b y e1 e2=>by
 by_cases hm:m=n
 ·subst hm;have hb:b=a:=by rw[h] at e1;exact(xcs (xcs e1)).symm
  subst hb;have hl:m < au.length:=by rw[← r.len];exact(xbj.mp h).1
  rw[xdt hl] at e2;cases e2;exact q
 ·rw[xcm (xcx hm)] at e2;refine(r.obj m b y e1 e2).ext (Ext.wr h hz o) (zx λz=>hm ?_);subst z;exact r.inj m n b e1 h,λb hb=>by
 obtain⟨⟨u,hu⟩,n1⟩:=r.gh b hb;refine⟨⟨u,?_⟩,n1⟩;rw[zx]
 ·exact hu
 ·rintro rfl;exact n1 (xcb h),λm y e ne=>by
 by_cases hm:m=n
 ·subst hm;exact⟨a,h⟩
 ·rw[xcm (xcx hm)] at e
  exact r.live m y e ne⟩
theorem Rep.alloc {K:Fg}(r:Rep K ρ au H)(hp:H p=none)   (q:Ext ρ H ⟨ρ.m++[some p],ρ.g⟩ (upd H p o)->OAt K ⟨ρ.m++[some p],ρ.g⟩ (upd H p o) x p):Ext ρ H ⟨ρ.m++[some p],ρ.g⟩ (upd H p o)/\Rep K ⟨ρ.m++[some p],ρ.g⟩ (au++[x]) (upd H p o):=by
 have hn:∀(m:Nat) (b:Addr),(ρ.m++[some p])[m]?=some (some b)->(m < ρ.m.length/\ρ.m[m]?=some (some b))\/(m=ρ.m.length/\b=p):=λm b e=>by
  rcases xgl m ρ.m.length with z | z
  ·rw[xcg z] at e;exact .inl ⟨z,e⟩
  ·rw[xdk z] at e;have z2:m - ρ.m.length=0:=by
    have:=(xbj.mp e).1;simp at this;lia
   rw[z2] at e;simp at e;exact .inr ⟨by lia,e.symm⟩
 have nl:∀(m:Nat),ρ.m[m]?≠some (some p):=λm e=>by
  obtain⟨x,_,q⟩:=r.has e;obtain⟨u,hu⟩:=q.has;rw[hp] at hu;cases hu
 have E:Ext ρ H ⟨ρ.m++[some p],ρ.g⟩ (upd H p o):=⟨by rw[xbh];lia,λm b h e=>by
   rw[xcg h] at e;exact e,λb u e m=>⟨by rw[zx (zn e hp)];exact e,λz=>by
   rcases xbx.mp z with z | z
   ·exact m z
   ·simp at z;subst z;rw[hp] at e;cases e⟩,rfl,λb ob u e=>by rw[zx (zn e hp)];exact e⟩
 refine⟨E,⟨by rw[xbh,xbh,r.len];rfl,λm k b e1 e2=>?_,λm b y e1 e2=>?_,λb hb=>?_,λm y e ne=>?_⟩⟩
 ·rcases hn m b e1 with⟨h1,q1⟩ | ⟨h1,rfl⟩
  ·rcases hn k b e2 with⟨h2,q2⟩ | ⟨h2,rfl⟩
   ·exact r.inj m k b q1 q2
   ·exact absurd q1 (nl m)
  ·rcases hn k b e2 with⟨h2,q2⟩ | ⟨h2,_⟩
   ·exact absurd q2 (nl k)
   ·lia
 ·rcases hn m b e1 with⟨h1,q1⟩ | ⟨h1,rfl⟩
  ·rw[xcg (by rw[← r.len];exact h1)] at e2;have q:=r.obj m b y q1 e2;obtain⟨u,hu⟩:=q.has;exact q.ext E (zx (zn hu hp))
  ·rw[h1,r.len,xdk (xbg _)] at e2;simp at e2;subst e2;exact q E
 ·obtain⟨⟨u,hu⟩,n1⟩:=r.gh b hb;refine⟨⟨u,by rw[zx (zn hu hp)];exact hu⟩,λz=>?_⟩;rcases xbx.mp z with z | z
  ·exact n1 z
  ·simp at z;subst z;rw[hp] at hu;cases hu
 ·rcases xgl m au.length with z | z
  ·rw[xcg z] at e;obtain⟨b,hb⟩:=r.live m y e ne;exact⟨b,by rw[xcg (by rw[r.len];exact z)];exact hb⟩
  ·have z2:=(xbj.mp e).1;simp at z2;have z3:m=ρ.m.length:=by rw[r.len];lia
   exact⟨p,by rw[z3,xdk (xbg _)];simp⟩
theorem Rep.kill {K:Fg}(r:Rep K ρ au H)(h:n < ρ.m.length):Ext ρ H ⟨ρ.m.set n none,ρ.g⟩ H/\Rep K ⟨ρ.m.set n none,ρ.g⟩ (au.set n .dead) H:=by
 have hn:∀(m:Nat) (b:Addr),(ρ.m.set n none)[m]?=some (some b)->m≠n/\ρ.m[m]?=some (some b):=λm b e=>by
  by_cases z:m=n
  ·subst z;rw[xdt h] at e;simp at e
  ·rw[xcm (xcx z)] at e;exact⟨z,e⟩
 have E:Ext ρ H ⟨ρ.m.set n none,ρ.g⟩ H:=⟨by rw[xex];exact xbg _,λm b _ e=>(hn m b e).2,λb o e m=>⟨e,λz=>by
  obtain⟨i,hi,e2⟩:=xeh z;have:(ρ.m.set n none)[i]?=some (some b):=by rw[xbe hi,e2]
  exact m (xcb (hn i b this).2)⟩,rfl,λ_ _ _ e=>e⟩
 refine⟨E,⟨by rw[xex,xex,r.len],λm k b e1 e2=>r.inj m k b (hn m b e1).2 (hn k b e2).2,λm b y e1 e2=>?_,λb hb=>⟨(r.gh b hb).1,λz=>?_⟩,λm y e ne=>?_⟩⟩
 rotate_left
 ·obtain⟨i,hi,e2⟩:=xeh z;have:(ρ.m.set n none)[i]?=some (some b):=by rw[xbe hi,e2]
  exact(r.gh b hb).2 (xcb (hn i b this).2)
 ·have z:m≠n:=by
   rintro rfl;rw[xdt (by rw[← r.len];exact h)] at e;cases e;exact ne rfl
  rw[xcm (xcx z)] at e;obtain⟨b,hb⟩:=r.live m y e ne;exact⟨b,by rw[xcm (xcx z)];exact hb⟩
 obtain⟨z,q⟩:=hn m b e1;rw[xcm (xcx z)] at e2;exact(r.obj m b y q e2).ext E rfl
theorem zlq {K:Fg}(r:Rep K ρ au H)(hp:H p=none):Out ρ p:=by
 refine⟨λz=>?_,λz=>?_⟩
 ·obtain⟨i,hi,e⟩:=xeh z;obtain⟨x,_,q⟩:=r.has (n:=i) (a:=p) (by rw[xbe hi,e]);obtain⟨u,hu⟩:=q.has;rw[hp] at hu;cases hu
 ·obtain⟨⟨u,hu⟩,_⟩:=r.gh p z;rw[hp] at hu;cases hu
theorem At.newT {K:Fg}(r:Rep K ρ au H)(hp:H p=none)   (h:AtAll K ρ H ds vs):At K ρ (upd H p (.tup vs)) (.tup ds) (.ref p):=.tup zw (zlq r hp) (h.ext (Ext.new hp _))
theorem At.newL {K:Fg}(r:Rep K ρ au H)(hp:H p=none)   (h:AtAll K ρ H ds vs):At K ρ (upd H p (.lst vs)) (.lst ds) (.ref p):=.lst zw (zlq r hp) (h.ext (Ext.new hp _))
end
def eAnd (f f':SE):SE:=λσ au=>(f σ au).bind λv st1=>match v with
 | .bl true=>f' σ st1
 | .bl false=>.ok (.bl false) st1
 | _=>.stuck
def eOr (f f':SE):SE:=λσ au=>(f σ au).bind λv st1=>match v with
 | .bl true=>.ok (.bl true) st1
 | .bl false=>f' σ st1
 | _=>.stuck
def eNot (f:SE):SE:=λσ au=>(f σ au).bind λv st1=>match v with
 | .bl b=>.ok (.bl (!b)) st1
 | _=>.stuck
def bAnd (f f':ST):ST:=λσ au=>(f σ au).bind λb st1=>if b=true then f' σ st1 else .ok false st1
def bOr (f f':ST):ST:=λσ au=>(f σ au).bind λb st1=>if b=true then .ok true st1 else f' σ st1
def bNot (f:ST):ST:=λσ au=>(f σ au).bind λb st1=>.ok (!b) st1
def eIf (c:ST) (f f':SE):SE:=λσ au=>(c σ au).bind λb st1=>if b=true then f σ st1 else f' σ st1
section
theorem zbuz {op}(h:DE X a f):DE X (.BoolOp op [a] pos) f:=zboz h
section
variable {X:Cx}{a:Expr}{b:Expr}{rest:List Expr}{f:SE}{f':SE}{pos:Pos}
theorem zbvf (ha:DE X a f)(hb:DE X (.BoolOp .And (b::rest) pos) f'):DE X (.BoolOp .And (a::b::rest) pos) (eAnd f f'):=zgd (zbpf ha hb) λτ H Q hq0=>by
 obtain⟨ρ,σ,au,v,st',at',rp,e,q⟩:=hq0;obtain⟨x,st1,e1,e⟩:=zb e;refine⟨ρ,σ,au,x,st1,at',rp,e1,λρ1 H1 u x1 rp1 a1=>?_⟩;cases x<;>try (cases e;done)
 rename_i bb;cases a1;refine⟨bb,rfl,?_⟩;cases bb with
 | true =>
  rw[if_pos rfl];exact⟨ρ1,σ,st1,v,st',at'.ext x1,rp1,e,λρ' H' u x2=>q ρ' H' u (x1.trans x2)⟩
 | false =>
  rw[if_neg (by decide)];cases e;exact q _ _ _ x1 rp1 (.bl false)
end
theorem zbva (ha:DE X a f):DE X (.UnaryOp .Not a pos) (eNot f):=zgd (zbpa ha) λτ H Q hq0=>by
 obtain⟨ρ,σ,au,v,st',at',rp,e,q⟩:=hq0;obtain⟨x,st1,e1,e⟩:=zb e;refine⟨ρ,σ,au,x,st1,at',rp,e1,λρ1 H1 u x1 rp1 a1=>?_⟩;cases x<;>try (cases e;done)
 rename_i bb;cases a1;cases e;exact⟨bb,rfl,q _ _ _ x1 rp1 (.bl _)⟩
theorem zbqx {op}(h:DT X a t)(hop:op=.And\/op=.Or):DW X (.BoolOp op [a] pos) t:=by
 rcases hop with rfl | rfl
 ·exact pw_and1 h
 ·exact pw_or1 h
section
variable {X:Cx}{a:Expr}{b:Expr}{rest:List Expr}{t:ST}{t':ST}{pos:Pos}
theorem zbqy (ha:DT X a t)(hb:DW X (.BoolOp .And (b::rest) pos) t'):DW X (.BoolOp .And (a::b::rest) pos) (bAnd t t'):=pw_to (pw_and ha hb) λτ H Q hq0=>by
 obtain⟨ρ,σ,au,v,st',at',rp,e,q⟩:=hq0;obtain⟨x,st1,e1,e⟩:=zb e;refine⟨ρ,σ,au,x,st1,at',rp,e1,λρ1 H1 x1 rp1=>?_⟩;cases x with
 | true=>exact iteT ⟨ρ1,σ,st1,v,st',at'.ext x1,rp1,e,λρ' H' x2=>q ρ' H' (x1.trans x2)⟩
 | false=>cases e;exact iteF (q _ _ x1 rp1)
theorem zbus (ha:DT X a t)(hb:DW X (.BoolOp .Or (b::rest) pos) t'):DW X (.BoolOp .Or (a::b::rest) pos) (bOr t t'):=pw_to (pw_or ha hb) λτ H Q hq0=>by
 obtain⟨ρ,σ,au,v,st',at',rp,e,q⟩:=hq0;obtain⟨x,st1,e1,e⟩:=zb e;refine⟨ρ,σ,au,x,st1,at',rp,e1,λρ1 H1 x1 rp1=>?_⟩;cases x with
 | false=>exact iteF ⟨ρ1,σ,st1,v,st',at'.ext x1,rp1,e,λρ' H' x2=>q ρ' H' (x1.trans x2)⟩
 | true=>cases e;exact iteT (q _ _ x1 rp1)
end
theorem zbra (ha:DT X a t):DT X (.UnaryOp .Not a pos) (bNot t):=zbnj (zbol ha) λτ H Q hq0=>by
 obtain⟨ρ,σ,au,v,st',at',rp,e,q⟩:=hq0;obtain⟨x,st1,e1,e⟩:=zb e;cases e;exact⟨ρ,σ,au,x,_,at',rp,e1,λρ1 H1 x1 rp1=>q _ _ x1 rp1⟩
theorem d_if  (hc:DT X c t)(ha:DE X a f)(hb:DE X b f'):DE X (.IfExp c a b pos) (eIf t f f'):=zgd (zbep hc ha hb) λτ H Q hq0=>by
 obtain⟨ρ,σ,au,v,st',at',rp,e,q⟩:=hq0;obtain⟨x,st1,e1,e⟩:=zb e;refine⟨ρ,σ,au,x,st1,at',rp,e1,λρ1 H1 x1 rp1=>?_⟩;cases x with
 | true=>exact iteT ⟨ρ1,σ,st1,v,st',at'.ext x1,rp1,e,λρ' H' u x2=>q ρ' H' u (x1.trans x2)⟩
 | false=>exact iteF ⟨ρ1,σ,st1,v,st',at'.ext x1,rp1,e,λρ' H' u x2=>q ρ' H' u (x1.trans x2)⟩
end
def aC:SA:=λ_ au=>.ok [] au
def aB (f:SE) (g:SA):SA:=λσ au=>(f σ au).bind λx st1=>(g σ st1).bind λxs st2=>.ok (x::xs) st2
def aR (g:SA):SE:=λσ au=>(g σ au).bind λxs st1=>if xs.length<=sizeLine then .ok (.tup xs) st1 else .stuck
def eLst (g:SA):SE:=λσ au=>(g σ au).bind λxs st1=>if xs.length<=sizeLine then .ok (.lst xs) st1 else .stuck
def eLstM (g:SA):SE:=λσ au=>(g σ au).bind λxs st1=>if xs.length<=sizeLine then .ok (.ref st1.length) (st1++[.lst xs]) else .stuck
section
theorem zbrl:DA X [] aC:=zbta zbjr λτ H Q hq0=>by
 obtain⟨ρ,σ,au,v,st',a,rp,e,q⟩:=hq0;cases e;exact q _ _ _ (.refl _ _) rp .nil
theorem zbmb (ha:DE X e f)(hr:DA X es g)(hs:starEach (e::es) X.env=(false,eval e X.env)::starEach es X.env:=by rfl):DA X (e::es) (aB f g):=zbta (zbbs ha hr hs) λτ H Q hq0=>by
 obtain⟨ρ,σ,au,v,st',a,rp,e,q⟩:=hq0;obtain⟨x,st1,e1,e⟩:=zb e;obtain⟨y,st2,e2,e⟩:=zb e;cases e;refine⟨ρ,σ,au,x,st1,a,rp,e1,λρ1 H1 u x1 rp1 a1=>?_⟩;exact⟨ρ1,σ,st1,y,_,a.ext x1,rp1,e2,λρ2 H2 w x2 rp2 a2=>q _ _ _ (x1.trans x2) rp2 (.cons (a1.ext x2) a2)⟩
theorem zbuw {x1}(h:DA X es g):DE X (.Tuple es x1 pos) (aR g):=zgd (zbox h) λτ H Q hq0=>by
 obtain⟨ρ,σ,au,v,st',a,rp,e,q⟩:=hq0;obtain⟨x,st1,e1,e⟩:=zb e;split at e
 ·rename_i hl;cases e;refine⟨ρ,σ,au,x,_,a,rp,e1,λρ1 H1 u x1 rp1 a1=>⟨by rw[a1.length];exact hl,λp hp=>?_⟩⟩;exact q ρ1 _ _ (x1.trans (Ext.new hp _)) (rp1.new hp _) (.newT rp1 hp a1)
 ·cases e
theorem zbvc (h:DA X es g):DE X (.List es pos) (eLst g):=zgd (zbjl h) λτ H Q hq0=>by
 obtain⟨ρ,σ,au,v,st',a,rp,e,q⟩:=hq0;obtain⟨x,st1,e1,e⟩:=zb e;split at e
 ·rename_i hl;cases e;refine⟨ρ,σ,au,x,_,a,rp,e1,λρ1 H1 u x1 rp1 a1=>⟨by rw[a1.length];exact hl,λp hp=>?_⟩⟩;exact q ρ1 _ _ (x1.trans (Ext.new hp _)) (rp1.new hp _) (.newL rp1 hp a1)
 ·cases e
theorem At.last {K:Fg}{ρ:Loc}    (h:n=ρ.m.length):At K ⟨ρ.m++[some p],ρ.g⟩ H (.ref n) (.ref p):=by
 subst h;refine .ref (by simp) λa e=>?_
 simp at e;rw[e]
theorem zbrn (h:DA X es g):DE X (.List es pos) (eLstM g):=zgd (zbjl h) λτ H Q hq0=>by
 obtain⟨ρ,σ,au,v,st',a,rp,e,q⟩:=hq0;obtain⟨x,st1,e1,e⟩:=zb e;split at e
 ·rename_i hl;cases e;refine⟨ρ,σ,au,x,_,a,rp,e1,λρ1 H1 u x1 rp1 a1=>⟨by rw[a1.length];exact hl,λp hp=>?_⟩⟩;obtain⟨E,R⟩:=rp1.alloc hp (x:=.lst x) (o:=.lst u) λE=>⟨u,zw,a1.ext E⟩
  exact q _ _ _ (x1.trans E) R (.last rp1.len.symm)
 ·cases e
end
def asL (au:Store):D->Option (List D)
 | .lst xs=>some xs
 | .ref n=>match au[n]? with
  | some (.lst xs)=>some xs
  | _=>none
 | _=>none
section
theorem zef {K:Fg}(rp:Rep K ρ au H)   (a:At K ρ H (.ref n) u)(e:au[n]?=some o)(hd:o≠.dead):∃p,u=.ref p/\ρ.m[n]?=some (some p)/\OAt K ρ H o p:=by
 cases a with
 | ref h1 h2 =>
  obtain⟨p,hp⟩:=rp.live n o e hd;exact⟨p,h2 p hp,hp,rp.obj n p o hp e⟩
theorem zhk {K:Fg}(rp:Rep K ρ au H)(a:At K ρ H d u)(e:asL au d=some xs):∃p vs,u=.ref p/\H p=some (.lst vs)/\AtAll K ρ H xs vs:=by
 cases d<;>try (cases e;done)
 ·rename_i n;unfold asL at e;dsimp only at e;split at e
  ·rename_i ys hys;cases e;obtain⟨p,rfl,hp,vs,q1,q2⟩:=zef rp a hys (by intro z;cases z);exact⟨p,vs,rfl,q1,q2⟩
  ·cases e
 ·cases e;cases a with
  | lst h1 h2 h3=>exact⟨_,_,rfl,h1,h3⟩
end
def oI (C:Int->Int->Prop) [DecidableRel C] (h:Int->Int->D) (x y:D) (au:Store):Res D:=match x,y with
 | .int i,.int j=>if C i j then .ok (h i j) au else .stuck
 | _,_=>.stuck
theorem oI_D {K:Fg}  [DecidableRel C]   (k:∀i j ρ H,At K ρ H (h i j) (g i j)):OpD K (oI C h) (rI C g):=λρ H au x y u v z st' Q rp a b e q=>by
 unfold oI at e;split at e
 ·cases a;cases b;split at e
  ·rename_i hc;cases e;exact⟨_,_,rfl,rfl,hc,q _ _ _ (.refl _ _) rp (k _ _ _ _)⟩
  ·cases e
 ·cases e
theorem zge {K:Fg}   (k:∀i j ρ H,At K ρ H (h i j) (g i j)):OpD K (oI (λ_ _=>True) h) (rI0 g):=λρ H au x y u v z st' Q rp a b e q=>by
 obtain⟨i,j,e1,e2,_,e3⟩:=oI_D (C:=λ_ _=>True) k ρ H au x y u v z st' Q rp a b e q;exact⟨i,j,e1,e2,e3⟩
instance:DecidableRel CMul:=λi j=>by unfold CMul;infer_instance
instance:DecidableRel CDivP:=λi j=>by unfold CDivP;infer_instance
instance:DecidableRel CPow:=λi j=>by unfold CPow;infer_instance
abbrev oSub:=oI (λ_ _=>True) λi j=>.int (i - j)
abbrev oFdiv:=oI CDivP λi j=>.int (i / j)
abbrev oMod:=oI (λ_ j=>0 < j) λi j=>.int (i % j)
abbrev oAndI:=oI (λ_ _=>True) λi j=>.int (Builtin.bitAnd i j)
abbrev oPow:=oI CPow λi j=>.int (i ^ j.toNat)
abbrev oShl:=oI CPow λi j=>.int (i * 2 ^ j.toNat)
abbrev oShr:=oI (λ_ j=>0<=j) λi j=>.int (i / 2 ^ j.toNat)
abbrev oMulI:=oI CMul λi j=>.int (i * j)
def aM (x y:D) (au:Store):Res D:=match x,y with
 | .int i,.int j=>.ok (.int (i+j)) au
 | .tup a,.tup b=>if a.length+b.length<=sizeLine then .ok (.tup (a++b)) au else .stuck
 | .str a,.str b=>if a.length+b.length<=sizeLine then .ok (.str (a++b)) au else .stuck
 | x,y=>match asL au x,asL au y with
  | some a,some b=>if a.length+b.length<=sizeLine then .ok (.lst (a++b)) au else .stuck
  | _,_=>.stuck
abbrev rAddA (K:Fg):R2:=λx y H Q=>rI0 (λi j=>.int (i+j)) x y H Q\/rCatA K x y H Q\/(∃i j,x=.str i/\y=.str j/\i.length+j.length<=sizeLine/\Q (.str (i++j)) H)\/rCat x y H Q
section
theorem zus:OpR X (binaryOp .Add) (rAddA X.K):=zbpp.or (zbka.or (zur.or zbpo))
theorem zbfc {K:Fg}:OpD K aM (rAddA K):=λρ H au x y u v z st' Q rp a b e q=>by
 unfold aM at e;split at e
 ·cases a;cases b;cases e;exact .inl ⟨_,_,rfl,rfl,q _ _ _ (.refl _ _) rp (.int _)⟩
 ·rename_i ds es;split at e
  ·rename_i hl;cases e;refine .inr (.inl ?_);cases a with
   | tup h1 h2 h3 =>
    cases b with
    | tup k1 k2 k3 =>
     refine⟨_,_,_,_,rfl,rfl,SqT.of h1,SqT.of k1,by rw[h3.length,k3.length];exact hl,λz=>?_,λz1 z2=>?_,λz1 z2 p hp=>?_⟩
     ·subst z;cases h3;exact q _ _ _ (.refl _ _) rp (.tup k1 k2 k3)
     ·subst z2;cases k3;rw[xdm] at q;exact q _ _ _ (.refl _ _) rp (.tup h1 h2 h3)
     ·exact q _ _ _ (Ext.new hp _) (rp.new hp _) (.newT rp hp (h3.append k3))
  ·cases e
 ·split at e
  ·rename_i hl;cases a;cases b;cases e;exact .inr (.inr (.inl ⟨_,_,rfl,rfl,hl,q _ _ _ (.refl _ _) rp (.str _)⟩))
  ·cases e
 ·split at e
  ·rename_i h1 h2;split at e
   ·rename_i hl;cases e;obtain⟨p,vs,rfl,g1,g2⟩:=zhk rp a h1;obtain⟨p',ws,rfl,k1,k2⟩:=zhk rp b h2;exact .inr (.inr (.inr ⟨_,_,_,_,rfl,rfl,g1,k1,by rw[g2.length,k2.length];exact hl,λt ht=>q _ _ _ (Ext.new ht _) (rp.new ht _) (.newL rp ht (g2.append k2))⟩))
   ·cases e
  ·cases e
end
abbrev oLe:=oI (λ_ _=>True) λi j=>.bl (decide (i<=j))
abbrev oGt:=oI (λ_ _=>True) λi j=>.bl (decide (j < i))
abbrev oGe:=oI (λ_ _=>True) λi j=>.bl (decide (j<=i))
mutual
noncomputable def toData:D->Option PyData
 | .non=>some .none
 | .bl b=>some (.bool b)
 | .int i=>some (.int i)
 | .str x=>some (.str x)
 | .tup ds=>(toDatas ds).map .tuple
 | .lst ds=>(toDatas ds).map .list
 | _=>none
noncomputable def toDatas:List D->Option (List PyData)
 | []=>some []
 | d::ds=>(toData d).bind λx=>(toDatas ds).map λxs=>x::xs
end
mutual
theorem zbcy {K:Fg}{ρ:Loc}{H:Hp}:∀{d:D} {v:V} {p:PyData},At K ρ H d v->toData d=some p->DAt K H v p
 | _,_,_,.non,e=>by cases e;exact .non
 | _,_,_,.bl b,e=>by cases e;exact .bl b
 | _,_,_,.int i,e=>by cases e;exact .int i
 | _,_,_,.str x,e=>by cases e;exact .str x
 | _,_,_,.ty n,e=>by cases e
 | _,_,_,.exn _,e=>by cases e
 | _,_,_,.ref _ _,e=>by cases e
 | _,_,_,.tup h _ al,e=>by
  rw[toData] at e;obtain⟨ps,e1,rfl⟩:=xdh.mp e;exact .tup (SqT.of h) (zma al e1)
 | _,_,_,.lst h _ al,e=>by
  rw[toData] at e;obtain⟨ps,e1,rfl⟩:=xdh.mp e;exact .lst (SqL.of h) (zma al e1)
 | _,_,_,.scr _ _,e=>by cases e
theorem zma {K:Fg}{ρ:Loc}{H:Hp}:∀{d:List D} {v:List V} {p:List PyData},AtAll K ρ H d v->toDatas d=some p->DAll K H v p
 | _,_,_,.nil,e=>by cases e;exact .nil
 | _,_,_,.cons a b,e=>by
  rw[toDatas] at e;obtain⟨x,e1,e⟩:=xek.mp e;obtain⟨xs,e2,rfl⟩:=xdh.mp e;exact .cons (zbcy a e1) (zma b e2)
end
def now (au:Store) (d:D):D:=match asL au d with
 | some xs=>.lst xs
 | none=>d
def dataOf (au:Store) (d:D):Option PyData:=toData (now au d)
theorem zfe {K:Fg}    (rp:Rep K ρ au H)    (a:At K ρ H d u)(e:dataOf au d=some p):DAt K H u p:=by
 unfold dataOf now at e;split at e
 ·rename_i xs hx;obtain⟨q,vs,rfl,h1,h2⟩:=zhk rp a hx;rw[toData] at e;obtain⟨ps,e1,rfl⟩:=xdh.mp e;exact .lst (SqL.of h1) (zma h2 e1)
 ·exact zbcy a e
def oEqG (neg:Bool) (x y:D) (au:Store):Res D:=match dataOf au x,dataOf au y with
 | some a,some b=>if PySem.SeqAt.shaped a=true/\PySem.SeqAt.shaped b=true then .ok (.bl (if neg then !PyData.eqv a b else PyData.eqv a b)) au else .stuck
 | _,_=>.stuck
theorem zif {K:Fg} :OpD K (oEqG neg) (rEqX K neg):=λρ H au x y u v z st' Q rp a b e q=>by
 unfold oEqG at e;split at e
 ·rename_i p1 p2 h1 h2;split at e
  ·rename_i hs;cases e;exact⟨_,_,zfe rp a h1,zfe rp b h2,hs.1,hs.2,q _ _ _ (.refl _ _) rp (.bl _)⟩
  ·cases e
 ·cases e
abbrev oEq:=oEqG false
abbrev oNe:=oEqG true
def oIsN (neg:Bool) (x y:D) (au:Store):Res D:=match x,y with
 | .ref _,_=>.stuck
 | .non,.non=>.ok (.bl (!neg)) au
 | _,.non=>.ok (.bl neg) au
 | _,_=>.stuck
theorem zbpr {K:Fg}:OpD K (oIsN false) (λx y H Q=>y=.non/\Q (.bl (decide (x=.non))) H):=λρ H au x y u v z st' Q rp a b e q=>by
 unfold oIsN at e;split at e<;>try (cases e;done)
 ·cases a;cases b;cases e
  exact⟨rfl,q _ _ _ (.refl _ _) rp (by simp;exact .bl _)⟩
 ·rename_i h1 h2;cases b;cases e
  refine⟨rfl,q _ _ _ (.refl _ _) rp ?_⟩;have:u≠.non:=by
   rintro rfl;cases a<;>first | exact h2 rfl | exact h1 _ rfl
  rw[xbz this];exact .bl _
noncomputable def asInts:List D->Option (List Int)
 | []=>some []
 | .int i::r=>(asInts r).map (i::·)
 | _::_=>none
theorem zco {K:Fg}  :∀{ds:List D} {vs:List V} {ns:List Int},AtAll K ρ H ds vs->asInts ds=some ns->vs=ns.map V.int
 | _,_,_,.nil,e=>by cases e;rfl
 | _,_,_,.cons (d:=d) a b,e=>by
  cases d<;>try (cases e;done)
  rw[asInts] at e;obtain⟨ms,e1,rfl⟩:=xdh.mp e;cases a;rw[zco b e1]
  rfl
def oLtT (x y:D) (au:Store):Res D:=match x,y with
 | .int i,.int j=>.ok (.bl (decide (i < j))) au
 | .tup a,.tup b=>match asInts a,asInts b with
  | some ns,some ms=>.ok (.bl (HT.lexLt ns ms)) au
  | _,_=>.stuck
 | _,_=>.stuck
abbrev rLtA (K:Fg):R2:=λx y H Q=>rI0 (λi j=>.bl (decide (i < j))) x y H Q\/rLtT K x y H Q
theorem znb {X:Cx}(hu:X.A.units < cLine):OpR X (compareOp .Lt) (rLtA X.K):=zbuc.or (zbpk hu)
theorem zni {K:Fg}:OpD K oLtT (rLtA K):=λρ H au x y u v z st' Q rp a b e q=>by
 unfold oLtT at e;split at e
 ·cases a;cases b;cases e
  exact .inl ⟨_,_,rfl,rfl,q _ _ _ (.refl _ _) rp (.bl _)⟩
 ·split at e
  ·rename_i h1 h2;cases e;cases a with
   | tup g1 g2 g3 =>
    cases b with
    | tup k1 k2 k3 =>
     have e1:=zco g3 h1;have e2:=zco k3 h2;subst e1 e2;exact .inr ⟨_,_,_,_,rfl,rfl,SqT.of g1,SqT.of k1,q _ _ _ (.refl _ _) rp (.bl _)⟩
  ·cases e
 ·cases e
def seqOf (au:Store):D->Option (List D)
 | .tup xs=>some xs
 | .scr xs=>some xs
 | d=>asL au d
theorem zgv {K:Fg}    (rp:Rep K ρ au H)    (a:At K ρ H d u)(e:seqOf au d=some xs) :
  ∃p vs,u=.ref p/\(SqL K H p vs\/SqT K H p vs)/\AtAll K ρ H xs vs:=by
 unfold seqOf at e;split at e
 ·cases e;cases a with
  | tup h1 h2 h3=>exact⟨_,_,rfl,.inr (SqT.of h1),h3⟩
 ·cases e;cases a with
  | scr h1 h3=>exact⟨_,_,rfl,.inl h1.sq,h3⟩
 ·obtain⟨p,vs,rfl,h1,h2⟩:=zhk rp a e;exact⟨p,vs,rfl,.inl (SqL.of h1),h2⟩
theorem AtAll.atI {K:Fg}       (h:AtAll K ρ H ds vs)(e:L2.atI ds i=some d):∃v,L2.atI vs i=some v/\At K ρ H d v:=by
 unfold L2.atI at e ⊢;rw[h.length];cases hi:ixN ds.length i with
 | none=>rw[hi] at e;cases e
 | some j =>
  rw[hi] at e;obtain⟨v,e1,e2⟩:=h.get (i:=j) e;exact⟨v,e1,e2⟩
def oIx (x y:D) (au:Store):Res D:=match seqOf au x,y with
 | some xs,.int i=>match L2.atI xs i with
  | some v=>.ok v au
  | none=>.stuck
 | _,_=>.stuck
theorem zbug {K:Fg}:OpD K oIx (rIx K):=λρ H au x y u v z st' Q rp a b e q=>by
 unfold oIx at e;split at e
 ·rename_i h1;split at e
  ·rename_i w hw;cases e;cases b;obtain⟨p,vs,rfl,h2,h3⟩:=zgv rp a h1;obtain⟨w',e2,a2⟩:=h3.atI hw;rcases h2 with h2 | h2
   ·exact .inl ⟨_,_,_,_,rfl,rfl,h2,e2,q _ _ _ (.refl _ _) rp a2⟩
   ·exact .inr (.inl ⟨_,_,_,_,rfl,rfl,h2,e2,q _ _ _ (.refl _ _) rp a2⟩)
  ·cases e
 ·cases e
def cutD (xs:List D) (lo hi:Option Int):List D:=(xs.drop (HT.sIx xs.length 0 lo)).take (HT.sIx xs.length xs.length hi - HT.sIx xs.length 0 lo)
theorem AtAll.cut {K:Fg}     (h:AtAll K ρ H ds vs)(lo hi:Option Int):AtAll K ρ H (cutD ds lo hi) (cutV vs lo hi):=by
 unfold cutD cutV;rw[h.length];exact(h.drop _).take _
def pNone:DS->Store->Res (Option Int):=λ_ au=>.ok none au
def pSome (f:SE):DS->Store->Res (Option Int):=λσ au=>(f σ au).bind λv st1=>match v with
 | .int i=>.ok (some i) st1
 | _=>.stuck
def eSl (f:SE) (lo hi:DS->Store->Res (Option Int)):SE:=λσ au=>(f σ au).bind λx st1=>(lo σ st1).bind λl st2=>(hi σ st2).bind λh st3=>match x with
 | .tup xs=>.ok (.tup (cutD xs l h)) st3
 | x=>match asL st3 x with
  | some xs=>.ok (.lst (cutD xs l h)) st3
  | none=>.stuck
def tDO (K:Fg) (f:DS->Store->Res (Option Int)):TO:=λτ H Q=>∃ρ σ au v st',AtS K ρ H σ τ/\Rep K ρ au H/\f σ au=.ok v st'/\∀ρ' H',Ext ρ H ρ' H'->Rep K ρ' st' H'->Q v H'
abbrev DO (X:Cx) (e:Option Expr) (f:DS->Store->Res (Option Int)):Prop:=PO X e (tDO X.K f)
section
theorem zbsy   (h:PO X e t)(k:∀σ H Q,t' σ H Q->t σ H Q):PO X e t':=λaU s σ H Q I q=>h aU s σ H Q I (k _ _ _ q)
theorem zblr:DO X none pNone:=zbsy zbjb λτ H Q hq0=>by
 obtain⟨ρ,σ,au,v,st',a,rp,e,q⟩:=hq0;cases e;exact q _ _ (.refl _ _) rp
theorem zblq (he:DE X e f):DO X (some e) (pSome f):=zbsy (zbja he) λτ H Q hq0=>by
 obtain⟨ρ,σ,au,v,st',a,rp,e,q⟩:=hq0;obtain⟨x,st1,e1,e⟩:=zb e;refine⟨ρ,σ,au,x,st1,a,rp,e1,λρ1 H1 u x1 rp1 a1=>?_⟩;cases x<;>try (cases e;done)
 cases e;cases a1;exact⟨_,rfl,q _ _ x1 rp1⟩
theorem d_ix (ha:DE X a f)(hb:DE X b f')(hs:PlainIx b):DE X (.Subscript a b pos) (aS oIx f f'):=zgd (zbtz zbqh ha hb hs) (zbnk zbug)
section
variable {X:Cx}{a:Expr}{e:Expr}{f:SE}{pos:Pos}{lo:Option Expr}{hi:Option Expr}{l:DS->Store->Res (Option Int)}{h:DS->Store->Res (Option Int)}
theorem d_sl {p2:Pos}(he:DE X e f)(hl:DO X lo l)(hu:DO X hi h):DE X (.Subscript e (.Slice lo hi none p2) pos) (eSl f l h):=zgd (zbeo (zbil.or zbim) he hl hu) λτ H Q hq0=>by
 obtain⟨ρ,σ,au,v,st',a,rp,e,q⟩:=hq0;obtain⟨x,st1,e1,e⟩:=zb e;obtain⟨y,st2,e2,e⟩:=zb e;obtain⟨z,st3,e3,e⟩:=zb e;refine⟨ρ,σ,au,x,st1,a,rp,e1,λρ1 H1 u x1 rp1 a1=>?_⟩;refine⟨ρ1,σ,st1,y,st2,a.ext x1,rp1,e2,λρ2 H2 x2 rp2=>?_⟩;refine⟨ρ2,σ,st2,z,st3,a.ext (x1.trans x2),rp2,e3,λρ3 H3 x3 rp3=>?_⟩;have a3:=a1.ext (x2.trans x3);have X3:=x1.trans (x2.trans x3);split at e
 ·cases e;refine .inl ?_;cases a3 with
  | tup h1 h2 h3 =>
   refine⟨_,_,rfl,SqT.of h1,λec=>?_,λp hp=>?_⟩
   ·refine q _ _ _ X3 rp3 (.tup h1 h2 ?_);have:=h3.cut y z;rw[ec] at this;exact this
   ·exact q _ _ _ (X3.trans (Ext.new hp _)) (rp3.new hp _) (.newT rp3 hp (h3.cut y z))
 ·split at e
  ·rename_i xs hx;cases e;obtain⟨p,vs,rfl,g1,g2⟩:=zhk rp3 a3 hx;exact .inr ⟨_,_,rfl,SqL.of g1,λp hp=>q _ _ _ (X3.trans (Ext.new hp _)) (rp3.new hp _) (.newL rp3 hp (g2.cut y z))⟩
  ·cases e
end
end
end Dd
namespace Dd
open PySem L2
def aE (g:List D->Store->Res D) (f:SA):SE:=λσ au=>(f σ au).bind λxs st1=>g xs st1
def CaD (K:Fg) (g:List D->Store->Res D) (r:List V->Hp->VK->Prop):Prop :=
 ∀ρ H au xs us z st' (Q:VK),Rep K ρ au H->AtAll K ρ H xs us->g xs au=.ok z st'->(∀ρ' H' w,Ext ρ H ρ' H'->Rep K ρ' st' H'->At K ρ' H' z w->Q w H')->r us H Q
theorem zbnp {K:Fg}   (hr:CaD K g r) :∀τ H Q,tD K (aE g f) τ H Q->tCB r (tDA K f) τ H Q:=λτ H Q hq0=>by
 obtain⟨ρ,σ,au,v,st',a,rp,e,q⟩:=hq0;obtain⟨x,st1,e1,e⟩:=zb e;exact⟨ρ,σ,au,x,st1,a,rp,e1,λρ1 H1 u x1 rp1 a1=>hr ρ1 H1 st1 x u v st' Q rp1 a1 e λρ' H' w x2=>q ρ' H' w (x1.trans x2)⟩
section
theorem zbmg {x:Str}{id:String}(hc:CallR X (.builtin id) r)(hr:CaD X.K g r)(hg:Gl X x)(hm:X.mg x=none)(hv:bootBuiltins x=some (.builtin id))(ha:DA X (e::es) f)(hn:x≠"__name__":=by decide)(hdb:(x==("__debug__" : Str))=false:=by decide)
 (he:starEach (e::es) X.env=(false,eval e X.env)::starEach es X.env:=by rfl)(hpl:(backTo pos (starEach es X.env)).any (·.1)=false:=by rfl):DE X (.Call (.Name x p) (e::es) [] pos) (aE g f):=zgd (zum hc hg hm hv ha hn hdb he hpl) (zbnp hr)
theorem zbgr {T:String}(hc:CallR X (.type T) r)(hr:CaD X.K g r)(hg:Gl X x)(hm:X.mg x=none)(hv:bootBuiltins x=some (.type T))(ha:DA X (e::es) f)(hn:x≠"__name__":=by decide)(hdb:(x==("__debug__" : Str))=false:=by decide)
 (he:starEach (e::es) X.env=(false,eval e X.env)::starEach es X.env:=by rfl)(hpl:(backTo pos (starEach es X.env)).any (·.1)=false:=by rfl):DE X (.Call (.Name x p) (e::es) [] pos) (aE g f):=zgd (zqn hc hg hm hv ha hn hdb he hpl) (zbnp hr)
end
theorem AtAll.one {K:Fg}     (h:AtAll K ρ H [d] us):∃u,us=[u]/\At K ρ H d u:=by
 cases h with
 | cons a b=>cases b;exact⟨_,rfl,a⟩
theorem AtAll.two {K:Fg}     (h:AtAll K ρ H [d,e] us):∃u v,us=[u,v]/\At K ρ H d u/\At K ρ H e v:=by
 cases h with
 | cons a b =>
  obtain⟨v,rfl,c⟩:=b.one;exact⟨_,_,rfl,a,c⟩
def bLen:List D->Store->Res D:=λxs au=>match xs with
 | [x]=>match seqOf au x with
  | some ys=>.ok (.int ys.length) au
  | none=>.stuck
 | _=>.stuck
theorem zhj {K:Fg}:CaD K bLen (λxs H Q=>∃p ys,xs=[.ref p]/\(SqL K H p ys\/SqT K H p ys)/\Q (.int ys.length) H):=λρ H au xs us z st' Q rp aa e q=>by
 unfold bLen at e;split at e
 ·split at e
  ·rename_i h;cases e;obtain⟨u,rfl,a⟩:=aa.one;obtain⟨p,vs,rfl,h1,h2⟩:=zgv rp a h;refine⟨p,vs,rfl,h1,?_⟩;rw[h2.length];exact q _ _ _ (.refl _ _) rp (.int _)
  ·cases e
 ·cases e
def bAbs:List D->Store->Res D:=λxs au=>match xs with
 | [.int i]=>.ok (.int (if i < 0 then -i else i)) au
 | _=>.stuck
theorem zbsl {K:Fg}:CaD K bAbs (λxs H Q=>∃i,xs=[.int i]/\Q (.int (if i < 0 then -i else i)) H):=λρ H au xs us z st' Q rp aa e q=>by
 unfold bAbs at e;split at e
 ·cases e;obtain⟨u,rfl,a⟩:=aa.one;cases a;exact⟨_,rfl,q _ _ _ (.refl _ _) rp (.int _)⟩
 ·cases e
def b2I (g:Int->Int->Int):List D->Store->Res D:=λxs au=>match xs with
 | [.int i,.int j]=>.ok (.int (g i j)) au
 | _=>.stuck
theorem zbhl {K:Fg} :CaD K (b2I g) (λxs H Q=>∃i j,xs=[.int i,.int j]/\Q (.int (g i j)) H):=λρ H au xs us z st' Q rp aa e q=>by
 unfold b2I at e;split at e
 ·cases e;obtain⟨u,v,rfl,a,b⟩:=aa.two;cases a;cases b;exact⟨_,_,rfl,q _ _ _ (.refl _ _) rp (.int _)⟩
 ·cases e
abbrev bMin2:=b2I λi j=>if j < i then j else i
abbrev bMax2:=b2I λi j=>if j > i then j else i
def bSum:List D->Store->Res D:=λxs au=>match xs with
 | [x]=>match (seqOf au x).bind asInts with
  | some ns=>.ok (.int ns.sum) au
  | none=>.stuck
 | _=>.stuck
theorem zsx {K:Fg}:CaD K bSum (rSum K):=λρ H au xs us z st' Q rp aa e q=>by
 unfold bSum at e;split at e
 ·split at e
  ·rename_i ns h;cases e;obtain⟨ys,h0,h⟩:=xek.mp h;obtain⟨u,rfl,a⟩:=aa.one;obtain⟨p,vs,rfl,h1,h2⟩:=zgv rp a h0;have e:=zco h2 h;subst e;exact⟨p,ns,rfl,h1,q _ _ _ (.refl _ _) rp (.int _)⟩
  ·cases e
 ·cases e
noncomputable def asBools:List D->Option (List Bool)
 | []=>some []
 | .bl i::r=>(asBools r).map (i::·)
 | _::_=>none
theorem zob {K:Fg}  :∀{ds:List D} {vs:List V} {ns:List Bool},AtAll K ρ H ds vs->asBools ds=some ns->vs=ns.map V.bl
 | _,_,_,.nil,e=>by cases e;rfl
 | _,_,_,.cons (d:=d) a b,e=>by
  cases d<;>try (cases e;done)
  rw[asBools] at e;obtain⟨ms,e1,rfl⟩:=xdh.mp e;cases a;rw[zob b e1]
  rfl
def bAny (al:Bool):List D->Store->Res D:=λxs au=>match xs with
 | [x]=>match (asL au x).bind asBools with
  | some bs=>.ok (.bl (if al then bs.all id else bs.any id)) au
  | none=>.stuck
 | _=>.stuck
theorem zwz {K:Fg} :CaD K (bAny al) (rAny K al):=λρ H au xs us z st' Q rp aa e q=>by
 unfold bAny at e;split at e
 ·split at e
  ·rename_i ns h;cases e;obtain⟨ys,h0,h⟩:=xek.mp h;obtain⟨u,rfl,a⟩:=aa.one;obtain⟨p,vs,rfl,h1,h2⟩:=zhk rp a h0;have e:=zob h2 h;subst e;exact⟨p,ns,rfl,SqL.of h1,q _ _ _ (.refl _ _) rp (.bl _)⟩
  ·cases e
 ·cases e
def tyName (au:Store):D->Option String
 | .non=>some "NoneType"
 | .bl _=>some "bool"
 | .int _=>some "int"
 | .str _=>some "str"
 | .tup _=>some "tuple"
 | .lst _=>some "list"
 | .ref n=>match au[n]? with
  | some (.lst _)=>some "list"
  | some (.dT _)=>some "dict"
  | _=>none
 | _=>none
noncomputable def isTy (t T:String):Bool:=t==T||(t=="bool"&&T=="int")
def bIsinst:List D->Store->Res D:=λxs au=>match xs with
 | [x,.ty T]=>match tyName au x with
  | some t=>if["int","bool","str","tuple","list","dict"].contains T=true then .ok (.bl (isTy t T)) au else .stuck
  | none=>.stuck
 | _=>.stuck
theorem zyb {K:Fg}    (rp:Rep K ρ au H)    (a:At K ρ H d u)(e:tyName au d=some t):TyOf K H u (.type t)/\t∈["NoneType","bool","int","str","tuple","list","dict"]:=by
 cases d<;>try (cases e;done)
 ·cases e;cases a;exact⟨.non,by simp⟩
 ·cases e;cases a;exact⟨.bl _,by simp⟩
 ·cases e;cases a;exact⟨.int _,by simp⟩
 ·cases e;cases a;exact⟨.str _,by simp⟩
 ·unfold tyName at e;dsimp only at e;split at e
  ·rename_i h;cases e;obtain⟨p,rfl,hp,vs,q1,q2⟩:=zef rp a h (by intro z;cases z);exact⟨.lst q1,by simp⟩
  ·rename_i h;cases e;obtain⟨p,rfl,hp,vs,q1,q2⟩:=zef rp a h (by intro z;cases z);exact⟨.dT q1,by simp⟩
  ·cases e
 ·cases e;cases a with
  | tup h1 h2 h3=>exact⟨.tup h1,by simp⟩
 ·cases e;cases a with
  | lst h1 h2 h3=>exact⟨.lst h1,by simp⟩
theorem zbqa {K:Fg}{T:String}(ht:t∈["NoneType","bool","int","str","tuple","list","dict"])(hT:T∈["int","bool","str","tuple","list","dict"]):W.kitOne K (.type t) (.type T)=some (isTy t T):=by
 simp only[xbm,xfk,xjw] at ht hT;rcases ht with rfl | rfl | rfl | rfl | rfl | rfl | rfl<;>rcases hT with rfl | rfl | rfl | rfl | rfl | rfl<;>rfl
theorem zcg {K:Fg}:CaD K bIsinst (λxs H Q=>∃x T t b,xs=[x,.ty T]/\TyOf K H x t/\W.kitOne K t (.type T)=some b/\Q (.bl b) H):=λρ H au xs us z st' Q rp aa e q=>by
 unfold bIsinst at e;split at e
 ·split at e
  ·rename_i h;split at e
   ·rename_i hT;cases e;obtain⟨u,v,rfl,a,b⟩:=aa.two;cases b;obtain⟨h1,h2⟩:=zyb rp a h;exact⟨_,_,_,_,rfl,h1,zbqa h2 (by simpa using hT),q _ _ _ (.refl _ _) rp (.bl _)⟩
   ·cases e
  ·cases e
 ·cases e
def bTuple:List D->Store->Res D:=λxs au=>match xs with
 | [.tup ys]=>.ok (.tup ys) au
 | [x]=>match asL au x with
  | some ys=>.ok (.tup ys) au
  | none=>.stuck
 | _=>.stuck
theorem zhi {K:Fg}:CaD K bTuple (λxs H Q=>∃p ys,xs=[.ref p]/\((SqL K H p ys/\∀l,H l=none->Q (.ref l) (upd H l (.tup ys)))\/(SqT K H p ys/\Q (.ref p) H))):=λρ H au xs us z st' Q rp aa e q=>by
 unfold bTuple at e;split at e
 ·cases e;obtain⟨u,rfl,a⟩:=aa.one;cases a with
  | tup h1 h2 h3=>exact⟨_,_,rfl,.inr ⟨SqT.of h1,q _ _ _ (.refl _ _) rp (.tup h1 h2 h3)⟩⟩
 ·split at e
  ·rename_i h;cases e;obtain⟨u,rfl,a⟩:=aa.one;obtain⟨p,vs,rfl,h1,h2⟩:=zhk rp a h;exact⟨_,_,rfl,.inl ⟨SqL.of h1,λl hl=>q _ _ _ (Ext.new hl _) (rp.new hl _) (.newT rp hl h2)⟩⟩
  ·cases e
 ·cases e
def bList:List D->Store->Res D:=λxs au=>match xs with
 | [x]=>match seqOf au x with
  | some ys=>.ok (.lst ys) au
  | none=>.stuck
 | _=>.stuck
theorem zbdf {K:Fg}:CaD K bList (λxs H Q=>∃p ys,xs=[.ref p]/\(SqL K H p ys\/SqT K H p ys)/\∀l,H l=none->Q (.ref l) (upd H l (.lst ys))):=λρ H au xs us z st' Q rp aa e q=>by
 unfold bList at e;split at e
 ·split at e
  ·rename_i h;cases e;obtain⟨u,rfl,a⟩:=aa.one;obtain⟨p,vs,rfl,h1,h2⟩:=zgv rp a h;exact⟨_,_,rfl,h1,λl hl=>q _ _ _ (Ext.new hl _) (rp.new hl _) (.newL rp hl h2)⟩
  ·cases e
 ·cases e
noncomputable abbrev aL (ns:List Int):D:=.tup (ns.map .int)
abbrev aJ (l:List (List Int)):List D:=l.map aL
def insR (a:List Int):List (List Int)->List (List Int)
 | []=>[a]
 | b::r=>if HT.lexLt b a=true then b::insR a r else a::b::r
def sortR:List (List Int)->List (List Int)
 | []=>[]
 | a::r=>insR a (sortR r)
abbrev UpR (l:List (List Int)):Prop:=l.Pairwise λa b=>HT.lexLt b a=false
theorem zlv (a:List Int):∀l,(insR a l).Perm (a::l)
 | []=>.refl _
 | b::r=>by
  unfold insR;split
  ·exact(List.Perm.cons b (zlv a r)).trans (.swap a b r)
  ·exact .refl _
theorem zct:∀l,(sortR l).Perm l
 | []=>.refl _
 | a::r=>(zlv a _).trans (.cons a (zct r))
theorem zpd  (h1:HT.lexLt b a=false)(h2:HT.lexLt c b=false):HT.lexLt c a=false:=by
 cases h:HT.lexLt c a with
 | false=>rfl
 | true =>
  rcases Srt.znn a b with z | z | z
  ·have:=Srt.zgi h z;rw[h2] at this;cases this
  ·subst z;rw[h2] at h;cases h
  ·rw[h1] at z;cases z
theorem zbce (a:List Int):∀l,UpR l->UpR (insR a l)
 | [],_=>xkp _ _
 | b::r,h=>by
  obtain⟨h1,h2⟩:=xfa.mp h;unfold insR;split
  ·rename_i c;refine xfa.mpr ⟨λx hx=>?_,zbce a r h2⟩;rcases xbm.mp ((zlv a r).mem_iff.mp hx) with rfl | hx
   ·exact Srt.zqs c
   ·exact h1 x hx
  ·rename_i c;have c':HT.lexLt b a=false:=by simpa using c
   refine xfa.mpr ⟨λx hx=>?_,h⟩;rcases xbm.mp hx with rfl | hx
   ·exact c'
   ·exact zpd c' (h1 x hx)
theorem zlc:∀l,UpR (sortR l)
 | []=>.nil
 | a::r=>zbce a _ (zlc r)
theorem zqc:∀{l m:List (List Int)},l.Perm m->UpR l->UpR m->l=m
 | [],m,p,_,_=>by rw[List.nil_perm.mp p]
 | a::l,[],p,_,_=>by cases List.perm_nil.mp p
 | a::l,b::m,p,h1,h2=>by
  obtain⟨p1,p2⟩:=xfa.mp h1;obtain⟨q1,q2⟩:=xfa.mp h2;have e:a=b:=by
   rcases xbm.mp (p.mem_iff.mp xbq) with z | z
   ·exact z
   ·rcases xbm.mp (p.mem_iff.mpr (xbq (a:=b) (l:=m))) with y | y
    ·exact y.symm
    ·have e1:=q1 a z;have e2:=p1 b y;rcases Srt.znn a b with w | w | w
     ·rw[e1] at w;cases w
     ·exact w
     ·rw[e2] at w;cases w
  subst e;rw[zqc (List.Perm.cons_inv p) p2 q2]
theorem zld {m:List (List Int)}(p:m.Perm l)(h:UpR m):m=sortR l:=zqc (p.trans (zct l).symm) h (zlc l)
theorem zom (l:List (List Int)):(sortR l).length=l.length:=(zct l).length_eq
def asRows:List D->Option (List (List Int))
 | []=>some []
 | .tup ds::r=>(asInts ds).bind λns=>(asRows r).map (ns::·)
 | _::_=>none
theorem zrq {K:Fg}  :∀{ds:List D} {vs:List V} {l:List (List Int)},AtAll K ρ H ds vs->asRows ds=some l ->
  ∃ps:List (Addr×List Int),vs=ps.map (λp=>V.ref p.1)/\ps.map (·.2)=l/\∀p∈ps,H p.1=some (.tup (p.2.map V.int))/\Out ρ p.1
 | _,_,_,.nil,e=>by cases e;exact⟨[],rfl,rfl,λ_ h=>nomatch h⟩
 | _,_,_,.cons (d:=d) a b,e=>by
  cases d<;>try (cases e;done)
  rw[asRows] at e;obtain⟨ns,e1,e⟩:=xek.mp e;obtain⟨l,e2,rfl⟩:=xdh.mp e;obtain⟨ps,h1,h2,h3⟩:=zrq b e2;cases a with
  | tup g1 g2 g3 =>
   rename_i ad ws;have ew:=zco g3 e1;subst ew;refine⟨(ad,ns)::ps,by rw[h1];rfl,by rw[← h2];rfl,λp hp=>?_⟩;rcases xbm.mp hp with rfl | hp
   ·exact⟨g1,g2⟩
   ·exact h3 p hp
theorem zhd {K:Fg}  :∀ns:List Int,AtAll K ρ H (ns.map .int) (ns.map V.int)
 | []=>.nil
 | n::ns=>.cons (.int n) (zhd ns)
theorem zop {K:Fg}  :∀ps:List (Addr×List Int),(∀p∈ps,H p.1=some (.tup (p.2.map V.int))/\Out ρ p.1)->AtAll K ρ H (aJ (ps.map (·.2))) (ps.map λp=>V.ref p.1)
 | [],_=>.nil
 | p::ps,h=>.cons (.tup (h p xbq).1 (h p xbq).2 (zhd _)) (zop ps λq hq=>h q (xbo _ hq))
theorem zqp {K:Fg}    (r:Rep K ρ au H)   (hp:H p=some (.tup vs)):Out ρ p:=by
 refine⟨λz=>?_,λz=>?_⟩
 ·obtain⟨i,hi,e⟩:=xeh z;obtain⟨x,_,q⟩:=r.has (n:=i) (a:=p) (by rw[xbe hi,e]);cases x with
  | lst xs=>obtain⟨_,e,_⟩:=q;rw[hp] at e;cases e
  | dT kvs=>obtain⟨_,e,_⟩:=q;rw[hp] at e;cases e
  | fT kvs=>obtain⟨_,_,e,_⟩:=q;rw[hp] at e;cases e
  | dI kvs=>obtain⟨_,e,_⟩:=q;rw[hp] at e;cases e
  | dead=>exact q
  | tab=>obtain⟨_,_,e,_⟩:=q;rw[hp] at e;cases e
 ·obtain⟨⟨u,hu⟩,_⟩:=r.gh p z;rw[hp] at hu;cases hu
noncomputable def valD (kvs:List (List Int×D)) (k:List Int):Option D:=(kvs.find? λkv=>decide (kv.1=k)).map (·.2)
noncomputable def putD (kvs:List (List Int×D)) (k:List Int) (v:D):List (List Int×D) :=
 if(kvs.any λkv=>decide (kv.1=k))=true then kvs.map (λkv=>if kv.1=k then(kv.1,v) else kv) else kvs++[(k,v)]
noncomputable def dropD (kvs:List (List Int×D)) (k:List Int):List (List Int×D):=kvs.filter λkv=>decide (kv.1≠k)
theorem zqv {a b:List Int}:a.map (Sum.inl:Int->Key)=b.map Sum.inl↔a=b:=by
 constructor
 ·intro h;exact(List.map_inj_right (f:=(Sum.inl:Int->Key)) λx y e=>Sum.inl.inj e).mp h
 ·rintro rfl;rfl
section
theorem KvAt.val {K:Fg}(h:KvAt K ρ H kvs vs)(k:List Int):match valD kvs k with
  | some d=>∃v,valV vs (k.map Sum.inl)=some v/\At K ρ H d v
  | none=>valV vs (k.map Sum.inl)=none:=by
 induction h with
 | nil=>rfl
 | @cons p q ps qs h t ih =>
  obtain⟨h1,h2⟩:=h;by_cases e:p.1=k
  ·have e1:valD (p::ps) k=some p.2:=by simp[valD,xdn,e]
   rw[e1];exact⟨q.2,zir (by rw[h1,e]),h2⟩
  ·have e1:valD (p::ps) k=valD ps k:=by simp[valD,xdn,e]
   have e2:valV (q::qs) (k.map Sum.inl)=valV qs (k.map Sum.inl):=zis (by rw[h1,zqv];exact e);rw[e1,e2];exact ih
theorem KvAt.keys {K:Fg}(h:KvAt K ρ H kvs vs):vs.map (·.1)=(kvs.map (·.1)).map λns=>ns.map Sum.inl:=by
 induction h with
 | nil=>rfl
 | @cons p q ps qs h t ih=>rw[xbs,xbs,xbs,ih,h.1]
theorem KvAt.put {K:Fg}(h:KvAt K ρ H kvs vs)(k:List Int)   (a:At K ρ H d v):KvAt K ρ H (putD kvs k d) (putK vs (k.map Sum.inl) v):=by
 have any:∀{kvs:List (List Int×D)} {vs:List (List Key×V)},KvAt K ρ H kvs vs->(kvs.any λkv=>decide (kv.1=k))=(vs.any λkv=>decide (kv.1=k.map Sum.inl)):=λh=>by
  induction h with
  | nil=>rfl
  | @cons p q ps qs h t ih =>
   rw[xhu,xhu,ih,h.1]
   congr 1
   simp only[zqv]
 unfold putD putK;rw[any h];split
 ·rename_i hh;clear hh any
  induction h with
  | nil=>exact .nil
  | @cons p q ps qs h t ih =>
   refine .cons ?_ ih;obtain⟨h1,h2⟩:=h;dsimp only;by_cases e:p.1=k
   ·rw[if_pos e,if_pos (by rw[h1,e])];exact⟨h1,a⟩
   ·rw[if_neg e,if_neg (by rw[h1,zqv];exact e)];exact⟨h1,h2⟩
 ·have app:∀{kvs:List (List Int×D)} {vs:List (List Key×V)},KvAt K ρ H kvs vs->KvAt K ρ H (kvs++[(k,d)]) (vs++[(k.map Sum.inl,v)]):=λh=>by
   induction h with
   | nil=>exact .cons ⟨rfl,a⟩ .nil
   | cons h t ih=>exact .cons h ih
  exact app h
theorem KvAt.drop {K:Fg}(h:KvAt K ρ H kvs vs)(k:List Int):KvAt K ρ H (dropD kvs k) (dropK vs (k.map Sum.inl)):=by
 unfold dropD dropK
 induction h with
 | nil=>exact .nil
 | @cons p q ps qs h t ih =>
  by_cases e:p.1=k
  ·rw[xcy (by simp[e]),xcy (by simp[h.1,e])];exact ih
  ·rw[xcq (by simp[e]),xcq (by simp[h.1,zqv,e])];exact .cons h ih
theorem KvAt.length {K:Fg}(h:KvAt K ρ H kvs vs):kvs.length=vs.length:=xiq h
end
def pairsOf (au:Store):D->Option (List (List Int×D))
 | .ref n=>match au[n]? with
  | some (.dT kvs)=>some kvs
  | some (.fT kvs)=>some kvs
  | _=>none
 | _=>none
theorem zor {K:Fg}    (rp:Rep K ρ au H)    (a:At K ρ H d u)(e:pairsOf au d=some kvs):∃p vs,u=.ref p/\Rd H p (.dT vs)/\KvAt K ρ H kvs vs:=by
 unfold pairsOf at e;split at e
 ·split at e
  ·rename_i h;cases e;obtain⟨p,rfl,hp,vs,q1,q2⟩:=zef rp a h (by intro z;cases z);exact⟨p,vs,rfl,.inl q1,q2⟩
  ·rename_i h;cases e;obtain⟨p,rfl,hp,vs,ob,q1,q2⟩:=zef rp a h (by intro z;cases z);exact⟨p,vs,rfl,.inr ⟨ob,q1⟩,q2⟩
  ·cases e
 ·cases e
def keyOf:D->Option (List Int)
 | .tup ds=>asInts ds
 | _=>none
theorem zbfs {K:Fg}      (a:At K ρ H d u)(e:keyOf d=some k):∃p,u=.ref p/\H p=some (.tup ((k.map (Sum.inl:Int->Key)).map kV)):=by
 unfold keyOf at e;split at e
 ·cases a with
  | tup h1 h2 h3 =>
   have:=zco h3 e;subst this;exact⟨_,rfl,by rw[zbcc];exact h1⟩
 ·cases e
theorem zwa {K:Fg}    (rp:Rep K ρ au H)     (a:At K ρ H d u)(b:At K ρ H y w)(e:pairsOf au d=some kvs)(e2:keyOf y=some k) :
  ∃p o,u=.ref p/\DGet H p w o/\match valD kvs k with
   | some z=>∃v,o=some v/\At K ρ H z v
   | none=>o=none:=by
 obtain⟨p,vs,rfl,h1,h2⟩:=zor rp a e;obtain⟨q,rfl,h3⟩:=zbfs b e2;refine⟨p,valV vs (k.map Sum.inl),rfl,.inr ⟨vs,_,q,h1,rfl,h3,rfl⟩,?_⟩;have:=h2.val k;cases hv:valD kvs k with
 | none=>rw[hv] at this;exact this
 | some z=>rw[hv] at this;exact this
def oDIn (neg:Bool) (y x:D) (au:Store):Res D:=match keyOf y,pairsOf au x with
 | some k,some kvs=>.ok (.bl (if neg then !(valD kvs k).isSome else(valD kvs k).isSome)) au
 | _,_=>.stuck
def oDGet (x y:D) (au:Store):Res D:=match pairsOf au x,keyOf y with
 | some kvs,some k=>match valD kvs k with
  | some v=>.ok v au
  | none=>.stuck
 | _,_=>.stuck
def eDGet2 (f g h:SE):SE:=λσ au=>(f σ au).bind λx st1=>match pairsOf st1 x with
 | some _=>(g σ st1).bind λy st2=>(h σ st2).bind λz st3=>match pairsOf st3 x,keyOf y with
  | some kvs,some k=>.ok ((valD kvs k).getD z) st3
  | _,_=>.stuck
 | none=>.stuck
def eDPop (f g:SE):SE:=λσ au=>(f σ au).bind λx st1=>match pairsOf st1 x with
 | some _=>(g σ st1).bind λy st2=>match x,keyOf y with
  | .ref n,some k=>match st2[n]? with
   | some (.dT kvs)=>match valD kvs k with
    | some v=>.ok v (st2.set n (.dT (dropD kvs k)))
    | none=>.stuck
   | _=>.stuck
  | _,_=>.stuck
 | none=>.stuck
def sDPut (f g h:SE):SS:=λσ au=>(h σ au).bind λv st1=>(f σ st1).bind λx st2=>(g σ st2).bind λy st3=>match x,keyOf y with
 | .ref n,some k=>match st3[n]? with
  | some (.dT kvs)=>if kvs.length < sizeLine then .ok (.nx σ) (st3.set n (.dT (putD kvs k v))) else .stuck
  | _=>.stuck
 | _,_=>.stuck
def eDNew:SE:=λ_ au=>.ok (.ref au.length) (au++[.dT []])
section
theorem zbkx {K:Fg}    (rp:Rep K ρ au H)    (a:At K ρ H d u)(e:pairsOf au d=some kvs):∃p,u=.ref p/\IsD H p:=by
 obtain⟨p,vs,rfl,h1,_⟩:=zor rp a e;exact⟨p,rfl,.inr ⟨vs,h1⟩⟩
theorem zbrq:DE X (.Dict [] [] pos) eDNew:=zgd zber λτ H Q hq0 p hp=>by
 obtain⟨ρ,σ,au,v,st',a,rp,e,q⟩:=hq0;cases e;obtain⟨E,R⟩:=rp.alloc hp (x:=.dT []) (o:=.dT []) λE=>⟨[],zw,.nil⟩
 exact q _ _ _ E R (.last rp.len.symm)
theorem zbub {X:Cx}(hu:X.A.units+1 < cLine)(hi:DE X i g)(ho:DE X o f):PC X .In i o (tD X.K (aS (oDIn false) g f)):=λaU s σ H Q I hq=>by
 refine zbjq hu hi ho aU s σ H Q I ?_;obtain⟨ρ,σ',au,v,st',a,rp,e,q⟩:=hq;obtain⟨x,st1,e1,e⟩:=zb e;obtain⟨y,st2,e2,e⟩:=zb e;refine⟨ρ,σ',au,x,st1,a,rp,e1,λρ1 H1 u x1 rp1 a1=>?_⟩;refine⟨ρ1,σ',st1,y,st2,a.ext x1,rp1,e2,λρ2 H2 w x2 rp2 a2=>?_⟩;unfold oDIn at e;split at e
 ·rename_i kk vv h1 h2;cases e;obtain⟨p,oo,rfl,g1,g2⟩:=zwa rp2 a2 (a1.ext x2) h2 h1;refine⟨p,oo,rfl,g1,?_⟩;have:oo.isSome=(valD vv kk).isSome:=by
   revert g2;split
   ·rename_i hv;rintro⟨v,rfl,_⟩;rw[hv];rfl
   ·rename_i hv;rintro rfl;rw[hv];rfl
  rw[this];exact q _ _ _ (x1.trans x2) rp2 (.bl _)
 ·cases e
theorem zbut   (h:PC X op a b (tD X.K t))(h1:behindInMarks op b=false:=by first | exact nobehind _ (by decide) (by decide) | rfl):DT X (.Compare a [op] [b] pos) (eB t):=zbnj (zbom h h1) λτ H Q hh=>eB_t _ _ _ hh
theorem zbrr {X:Cx}(hu:X.A.units+1 < cLine)(ho:DE X o f)(hi:DE X i g)(hs:NoSl i):DE X (.Subscript o i pos) (aS oDGet f g):=zgd (zbbr hu ho hi hs) λτ H Q hq0=>by
 obtain⟨ρ,σ,au,v,st',a,rp,e,q⟩:=hq0;obtain⟨x,st1,e1,e⟩:=zb e;obtain⟨y,st2,e2,e⟩:=zb e;refine⟨ρ,σ,au,x,st1,a,rp,e1,λρ1 H1 u x1 rp1 a1=>?_⟩;refine⟨ρ1,σ,st1,y,st2,a.ext x1,rp1,e2,λρ2 H2 w x2 rp2 a2=>?_⟩;unfold oDGet at e;split at e
 ·rename_i h1 h2;split at e
  ·rename_i z hv;cases e;obtain⟨p,oo,rfl,g1,g2⟩:=zwa rp2 (a1.ext x2) a2 h1 h2;rw[hv] at g2;obtain⟨vv,rfl,g3⟩:=g2;exact⟨p,vv,rfl,g1,q _ _ _ (x1.trans x2) rp2 g3⟩
  ·cases e
 ·cases e
theorem zbme {X:Cx}(hu:X.A.units + 1 < cLine)(ho:DE X o f)(he:DE X e g)(hf:DE X f' h)(m:M2 X o "get" apos e f' cpos):DE X (.Call (.Attribute o "get" apos) [e,f'] [] cpos) (eDGet2 f g h):=zgd (zbet hu ho he hf m) λτ H Q hq0=>by
 obtain⟨ρ,σ,au,v,st',a,rp,e,q⟩:=hq0;obtain⟨x,st1,e1,e⟩:=zb e;refine⟨ρ,σ,au,x,st1,a,rp,e1,λρ1 H1 u x1 rp1 a1=>?_⟩;split at e
 ·rename_i h0;obtain⟨p,rfl,hd⟩:=zbkx rp1 a1 h0;obtain⟨y,st2,e2,e⟩:=zb e;obtain⟨z,st3,e3,e⟩:=zb e;refine⟨p,rfl,hd,?_⟩;refine⟨ρ1,σ,st1,y,st2,a.ext x1,rp1,e2,λρ2 H2 w x2 rp2 a2=>?_⟩;refine⟨ρ2,σ,st2,z,st3,a.ext (x1.trans x2),rp2,e3,λρ3 H3 t x3 rp3 a3=>?_⟩;split at e
  ·rename_i h1 h2;cases e;obtain⟨p',oo,ep,g1,g2⟩:=zwa rp3 (a1.ext (x2.trans x3)) (a2.ext x3) h1 h2;cases ep;refine⟨oo,g1,q _ _ _ (x1.trans (x2.trans x3)) rp3 ?_⟩;revert g2;split
   ·rename_i hv;rintro⟨vv,rfl,g3⟩;rw[hv];exact g3
   ·rename_i hv;rintro rfl;rw[hv];exact a3
  ·cases e
 ·cases e
theorem zbrp {X:Cx}(hu:X.A.units + 1 < cLine)(ho:DE X o f)(he:DE X e g)(m:M1 X o "pop" apos e cpos):DE X (.Call (.Attribute o "pop" apos) [e] [] cpos) (eDPop f g):=zgd (zbeq hu ho he m) λτ H Q hq0=>by
 obtain⟨ρ,σ,au,v,st',a,rp,e,q⟩:=hq0;obtain⟨x,st1,e1,e⟩:=zb e;refine⟨ρ,σ,au,x,st1,a,rp,e1,λρ1 H1 u x1 rp1 a1=>?_⟩;split at e
 ·rename_i h0;obtain⟨p,rfl,hd⟩:=zbkx rp1 a1 h0;obtain⟨y,st2,e2,e⟩:=zb e;refine⟨p,rfl,hd,?_⟩;refine⟨ρ1,σ,st1,y,st2,a.ext x1,rp1,e2,λρ2 H2 w x2 rp2 a2=>?_⟩;split at e
  ·rename_i n k hk _;split at e
   ·rename_i kvs hn;split at e
    ·rename_i z hv;cases e;obtain⟨p',ep,hp,vs,g1,g2⟩:=zef rp2 (a1.ext x2) hn (by intro z;cases z);cases ep;obtain⟨b,rfl,g3⟩:=zbfs a2 hk;have g4:=g2.val k;rw[hv] at g4;obtain⟨vv,g5,g6⟩:=g4;have E:Ext ρ2 H2 ρ2 (upd H2 p (.dT (dropK vs (k.map Sum.inl)))):=Ext.wr hp (zkq g1) _;exact⟨vs,_,vv,b,g1,rfl,g3,g5,q _ _ _ ((x1.trans x2).trans E) (rp2.wr hp (zkq g1) ⟨_,zw,(g2.drop k).ext E⟩) (g6.ext E)⟩
    ·cases e
   ·cases e
  ·cases e
 ·cases e
theorem zblo {X:Cx}{pos:Pos}(hu:X.A.units+1 < cLine)(ho:DE X o f)(hi:DE X i g)(hv:DE X value h)(hs:swapsWith value (some (.Subscript o i pos')) pos.line X.env=pure false) :
  DSt X (.Assign [.Subscript o i pos'] value pos) (sDPut f g h):=zuk (zbbo hu ho hi hv hs) λE τ H hq0=>by
 obtain⟨ρ,σ,au,fl,st',a,rp,e,q⟩:=hq0;obtain⟨v,st1,e1,e⟩:=zb e;obtain⟨x,st2,e2,e⟩:=zb e;obtain⟨y,st3,e3,e⟩:=zb e;refine⟨ρ,σ,au,v,st1,a,rp,e1,λρ1 H1 u x1 rp1 a1=>?_⟩;refine⟨ρ1,σ,st1,x,st2,a.ext x1,rp1,e2,λρ2 H2 w x2 rp2 a2=>?_⟩;refine⟨ρ2,σ,st2,y,st3,a.ext (x1.trans x2),rp2,e3,λρ3 H3 t x3 rp3 a3=>?_⟩;split at e
 ·rename_i n k hk _;split at e
  ·rename_i kvs hn;split at e
   ·rename_i hl;cases e;obtain⟨p,rfl,hp,vs,g1,g2⟩:=zef rp3 (a2.ext x3) hn (by intro z;cases z);obtain⟨b,rfl,g3⟩:=zbfs a3 hk;have E:Ext ρ3 H3 ρ3 (upd H3 p (.dT (putK vs (k.map Sum.inl) u))):=Ext.wr hp (zkq g1) _;refine⟨p,_,rfl,DPut.t g1 g3 (by rw[← g2.length];exact hl),?_⟩;exact q _ _ _ ((x1.trans (x2.trans x3)).trans E) (rp3.wr hp (zkq g1) ⟨_,zw,(g2.put k (a1.ext (x2.trans x3))).ext E⟩) (a.ext ((x1.trans (x2.trans x3)).trans E))
   ·cases e
  ·cases e
 ·cases e
end
def bSorted:List D->Store->Res D:=λxs au=>match xs with
 | [x]=>match (asL au x).bind asRows with
  | some l=>if l.length<=1000000 then .ok (.lst (aJ (sortR l))) au else .stuck
  | none=>match pairsOf au x with
   | some kvs=>if kvs.length<=1000000 then .ok (.lst (aJ (sortR (kvs.map (·.1))))) au else .stuck
   | none=>.stuck
 | _=>.stuck
theorem zmf {K:Fg}:CaD K bSorted (λxs H Q=>rSortedAL K xs H Q\/rSortedDAL xs H Q):=λρ H au xs us z st' Q rp aa e q=>by
 unfold bSorted at e;split at e
 ·obtain⟨u,rfl,a⟩:=aa.one;split at e
  ·rename_i l hl;obtain⟨ys,h0,hl⟩:=xek.mp hl;split at e
   ·rename_i few;cases e;obtain⟨p,vs,rfl,h1,h2⟩:=zhk rp a h0;obtain⟨ps,rfl,rfl,h3⟩:=zrq h2 hl;rw[xbb] at few;refine .inl ⟨p,ps,rfl,SqL.of h1,few,λx hx=>SqT.of (h3 x hx).1,λt qs ht hp hs=>?_⟩;have e2:qs.map (·.2)=sortR (ps.map (·.2)):=zld (hp.map _) hs;refine q _ _ _ (Ext.new ht _) (rp.new ht _) (.newL rp ht ?_);rw[← e2];exact zop qs λx hx=>h3 x (hp.mem_iff.mp hx)
   ·cases e
  ·split at e
   ·rename_i kvs hk;split at e
    ·rename_i few;cases e;obtain⟨p,vs,rfl,h1,h2⟩:=zor rp a hk;refine .inr ⟨p,vs,kvs.map (·.1),rfl,h1,h2.keys,by rw[xbb];exact few,λt qs ht hp hs hq=>?_⟩;have e2:qs.map (·.2)=sortR (kvs.map (·.1)):=zld hp hs;refine q _ _ _ (Ext.new ht _) (rp.new ht _) (.newL rp ht ?_);rw[← e2];exact zop qs λx hx=>⟨hq x hx,zqp rp (hq x hx)⟩
    ·cases e
   ·cases e
 ·cases e
theorem zfv {X:Cx}(hc:X.calm=true)(hu:X.A.units + 64 < cLine):CallR X (.builtin "sorted") (λxs H Q=>rSortedAL X.K xs H Q\/rSortedDAL xs H Q):=(znx hu).or (zmc hc hu)
def eAppend (f:SE) (g:SA):SE:=λσ au=>(f σ au).bind λx st1=>match x,asL st1 x with
 | .ref n,some _=>(g σ st1).bind λys st2=>match ys,st2[n]? with
  | [y],some (.lst xs)=>if xs.length < sizeLine then .ok .non (st2.set n (.lst (xs++[y]))) else .stuck
  | _,_=>.stuck
 | _,_=>.stuck
def eExtend (f:SE) (g:SA):SE:=λσ au=>(f σ au).bind λx st1=>match x,asL st1 x with
 | .ref n,some _=>(g σ st1).bind λys st2=>match ys,st2[n]? with
  | [y],some (.lst xs)=>match asL st2 y with
   | some zs=>if xs.length+zs.length<=sizeLine then .ok .non (st2.set n (.lst (xs++zs))) else .stuck
   | none=>.stuck
  | _,_=>.stuck
 | _,_=>.stuck
section
theorem zbgs {apos:Pos}(ho:DE X o f)(ha:DA X (e::es) ga)(hbase:attributeBase o "append" X.env (eval o X.env)=eval o X.env:=by rfl)
  (hfew:((backTo cpos (starEach (e::es) X.env)).all (λx=>!x.1)&&(backToKw cpos (keywordEach [] X.env)).all (λx=>x.1.isSome)
   && decide ((e::es).length+([]:List Keyword).length+(if([]:List Keyword).isEmpty then 0 else 1) < 30))=true:=by rfl)
  (hline:(apos.endLine==cpos.line)=true:=by rfl)(hs:starEach (e::es) X.env=(false,eval e X.env)::starEach es X.env:=by rfl)(hplain:(backTo cpos (starEach es X.env)).any (·.1)=false:=by rfl) :
  DE X (.Call (.Attribute o "append" apos) (e::es) [] cpos) (eAppend f ga):=zgd (zbpe F.plainAttrs_list F.slot_list_append F.type_list_append zqr ho ha hbase hfew hline hs hplain) λτ H Q hq0=>by
 obtain⟨ρ,σ,au,v,st',a,rp,e,q⟩:=hq0;obtain⟨x,st1,e1,e⟩:=zb e;refine⟨ρ,σ,au,x,st1,a,rp,e1,λρ1 H1 u x1 rp1 a1=>?_⟩;split at e
 ·rename_i n _ hL;obtain⟨ys,st2,e2,e⟩:=zb e;obtain⟨p,vs,rfl,g1,g2⟩:=zhk rp1 a1 hL;refine⟨.inl ⟨rfl,_,SqL.of g1⟩,ρ1,σ,st1,ys,st2,a.ext x1,rp1,e2,λρ2 H2 ws x2 rp2 a2=>?_⟩;split at e
  ·rename_i y xs hn;split at e
   ·rename_i hl;cases e;obtain⟨w,rfl,a3⟩:=a2.one;obtain⟨p',ep,hp,vs2,k1,k2⟩:=zef rp2 (a1.ext x2) hn (by intro z;cases z);cases ep;have E:Ext ρ2 H2 ρ2 (upd H2 p (.lst (vs2++[w]))):=Ext.wr hp (zhb k1) _;exact⟨p,vs2,w,rfl,rfl,k1,by rw[k2.length];exact hl,q _ _ _ ((x1.trans x2).trans E) (rp2.wr hp (zhb k1) ⟨_,zw,(k2.append (.cons a3 .nil)).ext E⟩) .non⟩
   ·cases e
  ·cases e
 ·cases e
theorem zbgp {apos:Pos}(ho:DE X o f)(ha:DA X (e::es) ga)(hbase:attributeBase o "extend" X.env (eval o X.env)=eval o X.env:=by rfl)
  (hfew:((backTo cpos (starEach (e::es) X.env)).all (λx=>!x.1)&&(backToKw cpos (keywordEach [] X.env)).all (λx=>x.1.isSome)
   && decide ((e::es).length+([]:List Keyword).length+(if([]:List Keyword).isEmpty then 0 else 1) < 30))=true:=by rfl)
  (hline:(apos.endLine==cpos.line)=true:=by rfl)(hs:starEach (e::es) X.env=(false,eval e X.env)::starEach es X.env:=by rfl)(hplain:(backTo cpos (starEach es X.env)).any (·.1)=false:=by rfl) :
  DE X (.Call (.Attribute o "extend" apos) (e::es) [] cpos) (eExtend f ga):=zgd (zbpe F.plainAttrs_list F.slot_list_extend F.type_list_extend zzk ho ha hbase hfew hline hs hplain) λτ H Q hq0=>by
 obtain⟨ρ,σ,au,v,st',a,rp,e,q⟩:=hq0;obtain⟨x,st1,e1,e⟩:=zb e;refine⟨ρ,σ,au,x,st1,a,rp,e1,λρ1 H1 u x1 rp1 a1=>?_⟩;split at e
 ·rename_i n _ hL;obtain⟨ys,st2,e2,e⟩:=zb e;obtain⟨p,vs,rfl,g1,g2⟩:=zhk rp1 a1 hL;refine⟨.inl ⟨rfl,_,SqL.of g1⟩,ρ1,σ,st1,ys,st2,a.ext x1,rp1,e2,λρ2 H2 ws x2 rp2 a2=>?_⟩;split at e
  ·rename_i y xs hn;split at e
   ·rename_i zs hz;split at e
    ·rename_i hl;cases e;obtain⟨w,rfl,a3⟩:=a2.one;obtain⟨p',ep,hp,vs2,k1,k2⟩:=zef rp2 (a1.ext x2) hn (by intro z;cases z);cases ep;obtain⟨b,ws2,rfl,m1,m2⟩:=zhk rp2 a3 hz;have E:Ext ρ2 H2 ρ2 (upd H2 p (.lst (vs2++ws2))):=Ext.wr hp (zhb k1) _;exact⟨p,b,vs2,ws2,rfl,rfl,k1,m1,by rw[k2.length,m2.length];exact hl,q _ _ _ ((x1.trans x2).trans E) (rp2.wr hp (zhb k1) ⟨_,zw,(k2.append m2).ext E⟩) .non⟩
    ·cases e
   ·cases e
  ·cases e
 ·cases e
def eFz (f:SE):SE:=λσ au=>(f σ au).bind λx st1=>match x with
 | .ref n=>match st1[n]? with
  | some (.lst xs)=>.ok (.lst xs) (st1.set n .dead)
  | _=>.stuck
 | _=>.stuck
theorem d_fz (ho:DE X o f):DE X o (eFz f):=zgd ho λτ H Q hq0=>by
 obtain⟨ρ,σ,au,v,st',a,rp,e,q⟩:=hq0;obtain⟨x,st1,e1,e⟩:=zb e;refine⟨ρ,σ,au,x,st1,a,rp,e1,λρ1 H1 u x1 rp1 a1=>?_⟩;split at e
 ·rename_i n;split at e
  ·rename_i xs hn;cases e;obtain⟨p,rfl,hp,vs2,k1,k2⟩:=zef rp1 a1 hn (by intro z;cases z);have hlen:=(xbj.mp hp).1;obtain⟨E,R⟩:=rp1.kill hlen;refine q _ _ _ (x1.trans E) R (.lst k1 ⟨λz=>?_,λz=>(rp1.gh p z).2 (xcb hp)⟩ (k2.ext E));obtain⟨i,hi,e2⟩:=xeh z;have e3:(ρ1.m.set n none)[i]?=some (some p):=by rw[xbe hi,e2]
   by_cases hin:i=n
   ·subst hin;rw[xdt hlen] at e3;simp at e3
   ·rw[xcm (xcx hin)] at e3;exact hin (rp1.inj i n p e3 hp)
  ·cases e
 ·cases e
end
def sNx:SS:=λσ au=>.ok (.nx σ) au
def sBrk:SS:=λσ au=>.ok (.brk σ) au
def sCt:SS:=λσ au=>.ok (.ct σ) au
def sRet (f:SE):SS:=λσ au=>(f σ au).bind λv st1=>.ok (.ret v) st1
def sRetN:SS:=λ_ au=>.ok (.ret .non) au
def sDrop (f:SE):SS:=λσ au=>(f σ au).bind λ_ st1=>.ok (.nx σ) st1
def aF (i:Nat) (f:SE):SS:=λσ au=>(f σ au).bind λv st1=>.ok (.nx (σ.set i (some v))) st1
def aD (s t:SS):SS:=λσ au=>match s σ au with
 | .ok (.nx σ1) st1=>t σ1 st1
 | r=>r
def sIf (c:ST) (s t:SS):SS:=λσ au=>(c σ au).bind λb st1=>if b=true then s σ st1 else t σ st1
def sAug (i:Nat) (g:D->D->Store->Res D) (f:SE):SS:=λσ au=>match σ[i]? with
 | some (some x)=>(f σ au).bind λy st1=>(g x y st1).bind λz st2=>.ok (.nx (σ.set i (some z))) st2
 | _=>.stuck
def sSetIx (f g h:SE):SS:=λσ au=>(h σ au).bind λv st1=>(f σ st1).bind λx st2=>(g σ st2).bind λy st3=>match x,y with
 | .ref n,.int k=>match st3[n]? with
  | some (.lst xs)=>match ixN xs.length k with
   | some j=>.ok (.nx σ) (st3.set n (.lst (xs.set j v)))
   | none=>.stuck
  | _=>.stuck
 | _,_=>.stuck
section
theorem zbrf:DSs X [] sNx:=zbiv zbix λE τ H hq0=>by
 obtain⟨ρ,σ,au,fl,st',a,rp,e,q⟩:=hq0;cases e;exact q _ _ _ (.refl _ _) rp a
theorem zbgi:DSt X (.Break pos) sBrk:=zuk zbei λE τ H hq0=>by
 obtain⟨ρ,σ,au,fl,st',a,rp,e,q⟩:=hq0;cases e;exact q _ _ _ (.refl _ _) rp a
theorem zbrd (he:DE X e f):DSt X (.Return (some e) pos) (sRet f):=zuk (zboo he) λE τ H hq0=>by
 obtain⟨ρ,σ,au,fl,st',a,rp,e,q⟩:=hq0;obtain⟨x,st1,e1,e⟩:=zb e;cases e;exact⟨ρ,σ,au,x,_,a,rp,e1,λρ1 H1 u x1 rp1 a1=>q _ _ _ x1 rp1 a1⟩
theorem zbln {pos:Pos}(he:DE X e f)(hs:swapsWith e none pos.line X.env=pure false:=by rfl):DSt X (.Expr e pos) (sDrop f):=zuk (zbiy he hs) λE τ H hq0=>by
 obtain⟨ρ,σ,au,fl,st',a,rp,e,q⟩:=hq0;obtain⟨x,st1,e1,e⟩:=zb e;cases e;exact⟨ρ,σ,au,x,_,a,rp,e1,λρ1 H1 u x1 rp1 a1=>q _ _ _ x1 rp1 (a.ext x1)⟩
theorem zbtr {K:Fg}  :∀E τ H,tDS K (aF i f) E τ H->tAsg (tD K f) (gName i) E τ H:=λE τ H hq0=>by
 obtain⟨ρ,σ,au,fl,st',a,rp,e,q⟩:=hq0;obtain⟨x,st1,e1,e⟩:=zb e;cases e;exact⟨ρ,σ,au,x,_,a,rp,e1,λρ1 H1 u x1 rp1 a1=>q _ _ _ x1 rp1 ((a.ext x1).set a1 i)⟩
theorem zbrc {X:Cx}{pos:Pos}   (hN:X.N.Nodup)(hi:X.N[i]?=some x)(hx:L2.Loc X.env.scope x)(he:DE X e f)(hs:swapsWith e (some (.Name x pos')) pos.line X.env=pure false:=by rfl)(hf:X.fn x=true\/X.env.scope.names.lookup x=some .local:=by first | exact .inl rfl | exact .inr rfl | assumption) :
 DSt X (.Assign [.Name x pos'] e pos) (aF i f):=zuk (zbon hN hi hx he hs hf) zbtr
theorem zbre (h1:DSt X sm s):DSs X [sm] s:=zbiw h1
section
variable {X:Cx}{e:Expr}{sm:Stmt}{rest:List Stmt}{s:SS}{t:SS}
theorem zblp (h1:DSt X sm s)(h2:DSs X rest t):DSs X (sm::rest) (aD s t):=zbiv (zbeg h1 h2) λE τ H hq0=>by
 obtain⟨ρ,σ,au,fl,st',a,rp,e,q⟩:=hq0;unfold aD at e;split at e
 ·rename_i σ1 st1 e1;exact⟨ρ,σ,au,_,st1,a,rp,e1,λρ1 H1 τ1 x1 rp1 a1=>⟨ρ1,σ1,st1,fl,st',a1,rp1,e,q.ext x1⟩⟩
 ·rename_i hne;refine⟨ρ,σ,au,fl,st',a,rp,e,?_⟩;cases fl with
  | nx σ'=>exact absurd e (hne σ' st')
  | brk σ'=>exact q
  | ct σ'=>exact q
  | ret v=>exact q
end
theorem zbuu  (hc:DT X c b)(ha:DSs X a' s)(hb:DSs X b' t):DSt X (.If c a' b' pos) (sIf b s t):=zuk (zbtw hc ha hb) λE τ H hq0=>by
 obtain⟨ρ,σ,au,fl,st',a,rp,e,q⟩:=hq0;obtain⟨x,st1,e1,e⟩:=zb e;refine⟨ρ,σ,au,x,st1,a,rp,e1,λρ1 H1 x1 rp1=>?_⟩;cases x with
 | true=>exact iteT ⟨ρ1,σ,st1,fl,st',a.ext x1,rp1,e,q.ext x1⟩
 | false=>exact iteF ⟨ρ1,σ,st1,fl,st',a.ext x1,rp1,e,q.ext x1⟩
def IpD (K:Fg) (g:D->D->Store->Res D) (r:TIp):Prop :=
 ∀ρ H au x y u v z st' (Q:VK),Rep K ρ au H->At K ρ H x u->At K ρ H y v->g x y au=.ok z st'->(∀ρ' H' w,Ext ρ H ρ' H'->Rep K ρ' st' H'->At K ρ' H' z w->Q w H')->r u v H Q
theorem zbrh {X:Cx}      (hN:X.N.Nodup)(hi:X.N[i]?=some x)(hx:L2.Loc X.env.scope x)(he:DE X e f)(ho:PIp X op ti)(hr:IpD X.K g ti)(hf:X.fn x=true\/X.env.scope.names.lookup x=some .local:=by first | exact .inl rfl | exact .inr rfl | assumption) :
  DSt X (.AugAssign (.Name x pos') op e pos) (sAug i g f):=zuk (zboq hN hi hx he ho hf) λE τ H hq0=>by
 obtain⟨ρ,σ,au,fl,st',a,rp,e,q⟩:=hq0;unfold sAug at e;split at e
 ·rename_i d hd;obtain⟨y,st1,e1,e⟩:=zb e;obtain⟨z,st2,e2,e⟩:=zb e;cases e;obtain⟨u,hu,a0⟩:=a.get hd;refine⟨u,hu,ρ,σ,au,y,st1,a,rp,e1,λρ1 H1 w x1 rp1 a1=>?_⟩;exact hr ρ1 H1 st1 d y u w z st' _ rp1 (a0.ext x1) a1 e2 λρ2 H2 zz x2 rp2 a2=>q _ _ _ (x1.trans x2) rp2 ((a.ext (x1.trans x2)).set a2 i)
 ·cases e
theorem ip_D {K:Fg} :IpD K (oI (λ_ _=>True) λi j=>.int (p i j)) (ipI p):=λρ H au x y u v z st' Q rp a b e q=>by
 unfold oI at e;split at e
 ·cases a;cases b;rw[if_pos True.intro] at e;cases e;exact⟨_,_,rfl,rfl,q _ _ _ (.refl _ _) rp (.int _)⟩
 ·cases e
theorem zbgf {pos:Pos}(he:DE X value h)(ho:DE X o f)(hi:DE X i g)(ha:∀v,assign (.Subscript o i pos') X.env v=(do
   let ov ← holding [v] (eval o X.env)
   let iv ← holding [v,ov] (eval i X.env)
   standAt pos'
   holding [v,ov,iv] (setItem ov iv v)
   release [v,ov,iv] []):=by intro _;rfl)
  (hs:swapsWithSole [.Subscript o i pos'] value pos.line X.env=pure false:=by rfl)(hw:swappedStores [.Subscript o i pos'] value X.env=pure none:=by rfl)
  (h1:(assignEach [.Subscript o i pos'] X.env).map (·.2)=[assign (.Subscript o i pos') X.env]:=by rfl):DSt X (.Assign [.Subscript o i pos'] value pos) (sSetIx f g h) :=
 zuk (zbor he (zbov ho hi zbdy ha) hs hw h1) λE τ H hq0=>by
 obtain⟨ρ,σ,au,fl,st',a,rp,e,q⟩:=hq0;obtain⟨v,st1,e1,e⟩:=zb e;obtain⟨x,st2,e2,e⟩:=zb e;obtain⟨y,st3,e3,e⟩:=zb e;refine⟨ρ,σ,au,v,st1,a,rp,e1,λρ1 H1 u x1 rp1 a1=>?_⟩;refine⟨ρ1,σ,st1,x,st2,a.ext x1,rp1,e2,λρ2 H2 w x2 rp2 a2=>?_⟩;refine⟨ρ2,σ,st2,y,st3,a.ext (x1.trans x2),rp2,e3,λρ3 H3 t x3 rp3 a3=>?_⟩;split at e
 ·rename_i n k _;split at e
  ·rename_i xs hn;split at e
   ·rename_i j hj;cases e;cases a3;obtain⟨p,rfl,hp,vs,g1,g2⟩:=zef rp3 (a2.ext x3) hn (by intro z;cases z);have E:Ext ρ3 H3 ρ3 (upd H3 p (.lst (vs.set j u))):=Ext.wr hp (zhb g1) _;refine⟨p,vs,k,j,rfl,rfl,g1,by rw[g2.length];exact hj,?_⟩;exact q _ _ _ ((x1.trans (x2.trans x3)).trans E) (rp3.wr hp (zhb g1) ⟨_,zw,(g2.set (a1.ext (x2.trans x3)) j).ext E⟩) (a.ext ((x1.trans (x2.trans x3)).trans E))
   ·cases e
  ·cases e
 ·cases e
end
abbrev SG:=D->DS->Option DS
def gN (i:Nat):SG:=λd σ=>some (σ.set i (some d))
def gsNil:List D->DS->Option DS:=λds σ=>match ds with
 | []=>some σ
 | _=>none
def gsCons (t:SG) (u:List D->DS->Option DS):List D->DS->Option DS:=λds σ=>match ds with
 | d::r=>(t d σ).bind λσ1=>u r σ1
 | _=>none
def gT (n:Nat) (u:List D->DS->Option DS):SG:=λd σ=>match d with
 | .tup ds=>if ds.length=n then u ds σ else none
 | _=>none
def gD (K:Fg) (b:SG):TG:=λv τ H Q=>∃ρ σ d σ',AtS K ρ H σ τ/\At K ρ H d v/\b d σ=some σ'/\∀τ',AtS K ρ H σ' τ'->Q τ' H
def gDs (K:Fg) (b:List D->DS->Option DS):TGs:=λvs τ H Q=>∃ρ σ ds σ',AtS K ρ H σ τ/\AtAll K ρ H ds vs/\b ds σ=some σ'/\∀τ',AtS K ρ H σ' τ'->Q τ' H
abbrev DG (X:Cx) (tg:Expr) (b:SG):Prop:=PG X tg (gD X.K b)
abbrev DGs (X:Cx) (ts:List Expr) (b:List D->DS->Option DS):Prop:=PGs X ts (gDs X.K b)
section
theorem zbsz  (h:PG X e g)(k:∀v τ H Q,g' v τ H Q->g v τ H Q):PG X e g':=λaU s σ H v u Q I r q=>h aU s σ H v u Q I r (k _ _ _ _ q)
theorem zbjh  (h:PGs X es g)(k:∀v τ H Q,g' v τ H Q->g v τ H Q):PGs X es g':=λaU s σ H v u Q I r q=>h aU s σ H v u Q I r (k _ _ _ _ q)
theorem zbly {X:Cx}   (hN:X.N.Nodup)(hi:X.N[i]?=some x)(hx:L2.Loc X.env.scope x)(hf:X.fn x=true\/X.env.scope.names.lookup x=some .local:=by first | exact .inl rfl | exact .inr rfl | assumption):DG X (.Name x pos) (gN i) :=
 zbsz (zbjj hN hi hx hf) λv τ H Q hq0=>by
 obtain⟨ρ,σ,d,σ',a,b,e,q⟩:=hq0;cases e;exact q _ (a.set b i)
theorem zblx:DGs X [] gsNil:=zbjh zbji λv τ H Q hq0=>by
 obtain⟨ρ,σ,d,σ',a,b,e,q⟩:=hq0;unfold gsNil at e;split at e
 ·cases e;cases b;exact⟨rfl,q _ a⟩
 ·cases e
theorem zbgm (h1:DG X e t)(h2:DGs X es u)(hs:(assignEach (e::es) X.env).map (·.2)=assign e X.env::(assignEach es X.env).map (·.2):=by rfl):DGs X (e::es) (gsCons t u) :=
 zbjh (zben h1 h2 hs) λv τ H Q hq0=>by
 obtain⟨ρ,σ,d,σ',a,b,e,q⟩:=hq0;unfold gsCons at e;split at e
 ·obtain⟨σ1,e1,e2⟩:=xek.mp e;cases b with
  | cons b1 b2=>exact⟨_,_,rfl,ρ,σ,_,σ1,a,b1,e1,λτ1 a1=>⟨ρ,σ1,_,σ',a1,b2,e2,q⟩⟩
 ·cases e
theorem zbrk {X:Cx}   (hc:X.calm=true)(h:DGs X es u)(hn:(assignEach es X.env).length=n:=by rfl)(hst:(assignEach es X.env).findIdx? (·.1)=none:=by rfl):DG X (.Tuple es k pos) (gT n u) :=
 zbsz (zbou hc h hn hst) λv τ H Q hq0=>by
 obtain⟨ρ,σ,d,σ',a,b,e,q⟩:=hq0;unfold gT at e;split at e
 ·split at e
  ·rename_i hl;cases b with
   | tup h1 h2 h3=>exact⟨_,_,rfl,SqT.of h1,by rw[h3.length];exact hl,ρ,σ,_,σ',a,h3,e,q⟩
  ·cases e
 ·cases e
end
structure ExtG (ρ:Loc) (H:Hp) (ρ':Loc) (H':Hp):Prop where
 len:ρ.m.length<=ρ'.m.length
 old:∀(n:Nat) (a:Addr),n < ρ.m.length->ρ'.m[n]?=some (some a)->ρ.m[n]?=some (some a)
 keep:∀a o,H a=some o->some a∉ρ.m->H' a=some o/\some a∉ρ'.m
 gho:∀a∈ρ'.g,a∈ρ.g\/H a=none
 frz:∀a ob u,H a=some (.frz ob u)->H' a=some (.frz ob u)
theorem Ext.toG   (x:Ext ρ H ρ' H'):ExtG ρ H ρ' H':=⟨x.len,x.old,x.keep,λa h=>.inl (by rw[← x.gho];exact h),x.frz⟩
theorem ExtG.then   (a:ExtG ρ H ρ1 H1)(b:Ext ρ1 H1 ρ2 H2):ExtG ρ H ρ2 H2 :=
 ⟨xbc a.len b.len,λn c h e=>a.old n c h (b.old n c (xbk h a.len) e),λc o e n=>by
  obtain⟨e1,n1⟩:=a.keep c o e n
  exact b.keep c o e1 n1,λc h=>a.gho c (by rw[← b.gho];exact h),λc ob u e=>b.frz c ob u (a.frz c ob u e)⟩
theorem ExtG.out   (x:ExtG ρ H ρ' H')   (h:H a=some o)(n:Out ρ a):H' a=some o/\Out ρ' a :=
 ⟨(x.keep a o h n.1).1,(x.keep a o h n.1).2,λz=>by
  rcases x.gho a z with q | q
  ·exact n.2 q
  ·rw[h] at q;cases q⟩
theorem ExtG.mv   (x:ExtG ρ H ρ' H'):Mv ρ H ρ' H':=⟨λh n=>x.out h n,x.len,x.old⟩
theorem At.extG {K:Fg}   (x:ExtG ρ H ρ' H')   (h:At K ρ H d v):At K ρ' H' d v:=h.mv x.mv
theorem Ls.extG {K:Fg}     (x:ExtG ρ H ρ' H')(h:Ls K ρ H a vs):Ls K ρ' H' a vs:=h.mv x.mv
structure ItOk (K:Fg) (ρ:Loc) (H:Hp) (J:It) (xs:List D):Prop where
 item:∀ρ2 H2,ExtG ρ H ρ2 H2->∀(i:Nat) (x:D),xs[i]?=some x->J.go i H2/\∀y H3,J.yld i H2 y H3->Ext ρ2 H2 ρ2 H3/\∀au,Rep K ρ2 au H2->Rep K ρ2 au H3/\At K ρ2 H3 x y
 done:∀ρ2 H2,ExtG ρ H ρ2 H2->∀i:Nat,xs.length<=i->J.stop i H2
def iD (K:Fg) (f:SA):TI:=λτ H R=>∃ρ σ au xs st',AtS K ρ H σ τ/\Rep K ρ au H/\f σ au=.ok xs st'/\∀ρ' H' J,Ext ρ H ρ' H'->Rep K ρ' st' H'->ItOk K ρ' H' J xs->R J H'
abbrev DI (X:Cx) (tg iter:Expr) (f:SA):Prop:=PI X tg iter (iD X.K f)
noncomputable def seqV:D->Option (List D)
 | .tup xs=>some xs
 | .lst xs=>some xs
 | .scr xs=>some xs
 | _=>none
def aH (f:SE):SA:=λσ au=>(f σ au).bind λx st1=>match seqV x with
 | some xs=>.ok xs st1
 | none=>.stuck
noncomputable def rng (lo:Int) (n:Nat):List D:=(List.range n).map λ(i:Nat)=>D.int (lo+i)
def iR1 (g:SA):SA:=λσ au=>(g σ au).bind λxs st1=>match xs with
 | [.int j]=>if -(2 ^ 62)<=j/\j < 2 ^ 62 then .ok (rng 0 j.toNat) st1 else .stuck
 | _=>.stuck
def iR2 (g:SA):SA:=λσ au=>(g σ au).bind λxs st1=>match xs with
 | [.int i,.int j]=>if -(2 ^ 62)<=i/\i < 2 ^ 62/\-(2 ^ 62)<=j/\j < 2 ^ 62 then .ok (rng i (j - i).toNat) st1 else .stuck
 | _=>.stuck
theorem zkk {lo:Int}   (h:(rng lo n)[i]?=some x):i < n/\x=.int (lo+i):=by
 unfold rng at h;rw[xcp] at h;rcases xgl i n with z | z
 ·rw[List.getElem?_range z] at h;exact⟨z,(xcs h).symm⟩
 ·rw[xhr (by rw[xev];exact z)] at h;cases h
theorem zbkw {K:Fg}   {lo:Int} :ItOk K ρ H (Itr lo n) (rng lo n) where
 item:=λρ2 H2 x i d e=>by
  obtain⟨h1,rfl⟩:=zkk e;refine⟨h1,λy H3 hy=>?_⟩;obtain⟨rfl,rfl⟩:=hy;exact⟨.refl _ _,λ_ r=>⟨r,.int _⟩⟩
 done:=λρ2 H2 x i h=>by
  unfold rng at h;rw[xbb,xev] at h;exact h
section
theorem zbhh  (h:PI X tg l t)(k:∀τ H R,t' τ H R->t τ H R):PI X tg l t':=λaU s σ H R I q=>h aU s σ H R I (k _ _ _ q)
theorem zbtx  (h:PI X tg l t)(h':PI X tg l t'):PI X tg l (λτ H R=>t τ H R\/t' τ H R):=λaU s σ H R I q=>by
 rcases q with q | q
 ·exact h aU s σ H R I q
 ·exact h' aU s σ H R I q
theorem zbdl {K:Fg}      (hs:∀ρ2 H2,ExtG ρ H ρ2 H2->SqL K H2 p vs)(al:AtAll K ρ H xs vs):ItOk K ρ H (Itl K p) xs where
 item:=λρ2 H2 x i d e=>by
  obtain⟨v,hv,a⟩:=al.get e;refine⟨⟨vs,v,hs _ _ x,hv⟩,λy H3 hy=>?_⟩;obtain⟨rfl,h2⟩:=hy;have:=h2 vs (hs _ _ x);rw[hv] at this;cases this;exact⟨.refl _ _,λ_ r=>⟨r,a.extG x⟩⟩
 done:=λρ2 H2 x i h=>⟨vs,hs _ _ x,by rw[al.length];exact h⟩
theorem zbsq {K:Fg}      (hs:∀ρ2 H2,ExtG ρ H ρ2 H2->SqT K H2 p vs)(al:AtAll K ρ H xs vs):ItOk K ρ H (Itt K p) xs where
 item:=λρ2 H2 x i d e=>by
  obtain⟨v,hv,a⟩:=al.get e;refine⟨⟨vs,v,hs _ _ x,hv⟩,λy H3 hy=>?_⟩;obtain⟨rfl,h2⟩:=hy;have:=h2 vs (hs _ _ x);rw[hv] at this;cases this;exact⟨.refl _ _,λ_ r=>⟨r,a.extG x⟩⟩
 done:=λρ2 H2 x i h=>⟨vs,hs _ _ x,by rw[al.length];exact h⟩
theorem zbrj (hl:DE X l f):DI X tg l (aH f):=zbhh (zbtx (zbjf hl) (zbot hl)) λτ H R hq0=>by
 obtain⟨ρ,σ,au,xs,st',a,rp,e,q⟩:=hq0;obtain⟨x,st1,e1,e⟩:=zb e;cases x with
 | tup ys =>
  cases e;refine .inr ⟨ρ,σ,au,_,_,a,rp,e1,λρ1 H1 u x1 rp1 a1=>?_⟩;cases a1 with
  | tup h1 h2 h3=>exact⟨_,rfl,⟨_,SqT.of h1⟩,q _ _ _ x1 rp1 (zbsq (λρ2 H2 x2=>SqT.of (x2.out h1 h2).1) h3)⟩
 | lst ys =>
  cases e;refine .inl ⟨ρ,σ,au,_,_,a,rp,e1,λρ1 H1 u x1 rp1 a1=>?_⟩;cases a1 with
  | lst h1 h2 h3=>exact⟨_,rfl,⟨_,SqL.of h1⟩,q _ _ _ x1 rp1 (zbdl (λρ2 H2 x2=>SqL.of (x2.out h1 h2).1) h3)⟩
 | scr ys =>
  cases e;refine .inl ⟨ρ,σ,au,_,_,a,rp,e1,λρ1 H1 u x1 rp1 a1=>?_⟩;cases a1 with
  | scr h1 h3=>exact⟨_,rfl,⟨_,h1.sq⟩,q _ _ _ x1 rp1 (zbdl (λρ2 H2 x2=>(h1.extG x2).sq) h3)⟩
 | _=>cases e
theorem zbak (hg:Gl X "range")(hm:X.mg "range"=none)(ha:DA X [a] g)(hs:starEach [a] X.env=[(false,eval a X.env)]:=by rfl):DI X tg (.Call (.Name "range" p) [a] [] pos) (iR1 g) :=
 zbhh (zyz hg hm ha hs) λτ H R hq0=>by
 obtain⟨ρ,σ,au,xs,st',a,rp,e,q⟩:=hq0;obtain⟨x,st1,e1,e⟩:=zb e;split at e
 ·split at e
  ·rename_i hj;cases e;refine⟨ρ,σ,au,_,_,a,rp,e1,λρ1 H1 u x1 rp1 a1=>?_⟩;obtain⟨w,rfl,a2⟩:=a1.one;cases a2;exact⟨_,rfl,hj.1,hj.2,q _ _ _ x1 rp1 zbkw⟩
  ·cases e
 ·cases e
theorem zbaj (hg:Gl X "range")(hm:X.mg "range"=none)(ha:DA X [a,b] g)(hs:starEach [a,b] X.env=[(false,eval a X.env),(false,eval b X.env)]:=by rfl)(hs2:starEach [b] X.env=[(false,eval b X.env)]:=by rfl):DI X tg (.Call (.Name "range" p) [a,b] [] pos) (iR2 g) :=
 zbhh (zyy hg hm ha hs hs2) λτ H R hq0=>by
 obtain⟨ρ,σ,au,xs,st',a,rp,e,q⟩:=hq0;obtain⟨x,st1,e1,e⟩:=zb e;split at e
 ·split at e
  ·rename_i hj;cases e;refine⟨ρ,σ,au,_,_,a,rp,e1,λρ1 H1 u x1 rp1 a1=>?_⟩;obtain⟨w,w2,rfl,a2,a3⟩:=a1.two;cases a2;cases a3;exact⟨_,_,rfl,hj,q _ _ _ x1 rp1 zbkw⟩
  ·cases e
 ·cases e
end
def iDict (f:SE):SA:=λσ au=>(f σ au).bind λx st1=>match x with
 | .ref n=>match st1[n]? with
  | some (.dT kvs)=>.ok (aJ (kvs.map (·.1))) (st1.set n (.fT kvs))
  | _=>.stuck
 | _=>.stuck
section
theorem zblw (hl:DE X l f):DI X tg l (iDict f):=zbhh (zbjg hl) λτ H R hq0=>by
 obtain⟨ρ,σ,au,xs,st',a,rp,e,q⟩:=hq0;obtain⟨x,st1,e1,e⟩:=zb e;refine⟨ρ,σ,au,x,st1,a,rp,e1,λρ1 H1 u x1 rp1 a1=>?_⟩;split at e
 ·rename_i n;split at e
  ·rename_i kvs hn;cases e;obtain⟨p,rfl,hp,vs,g1,g2⟩:=zef rp1 a1 hn (by intro z;cases z);refine⟨p,vs,kvs.map (·.1),rfl,g1,g2.keys,λob ps h1 h2=>?_⟩;have E:Ext ρ1 H1 ρ1 (upd H1 p (.frz ob (.dT vs))):=Ext.wr hp (zkq g1) _;have R:Rep X.K ρ1 (st1.set n (.fT kvs)) (upd H1 p (.frz ob (.dT vs))):=rp1.wr hp (zkq g1) ⟨vs,ob,zw,g2.ext E⟩;refine q _ _ _ (x1.trans E) R ⟨λρ2 H2 x2 i d e=>?_,λρ2 H2 x2 i h=>?_⟩
   ·have e2:(ps.map (·.2))[i]?=(kvs.map (·.1))[i]?:=by rw[h1]
    unfold aJ at e;rw[xcp,← e2,xcp] at e;cases hi:ps[i]? with
    | none=>rw[hi] at e;cases e
    | some x =>
     rw[hi] at e;cases e;refine⟨⟨(xbj.mp hi).1,x2.frz _ _ _ zw⟩,λy H3 hy=>?_⟩;obtain⟨rfl,x',hx',rfl⟩:=hy;rw[hi] at hx';cases hx';have ht:=h2 x (xcb hi);have a3:At X.K ρ1 H1 (aL x.2) (.ref x.1):=.tup ht (zqp rp1 ht) (zhd _);exact⟨.refl _ _,λ_ r=>⟨r,(a3.ext E).extG x2⟩⟩
   ·have e2:=congrArg List.length h1;rw[xbb] at e2;unfold aJ at h;rw[xbb,← e2] at h;exact⟨h,x2.frz _ _ _ zw⟩
  ·cases e
 ·cases e
end
def forF (bd:SG) (body:SS):List D->SS
 | [],σ,au=>.ok (.nx σ) au
 | x::xs,σ,au=>match bd x σ with
  | none=>.stuck
  | some σ1=>match body σ1 au with
   | .ok (.nx σ2) st2=>forF bd body xs σ2 st2
   | .ok (.ct σ2) st2=>forF bd body xs σ2 st2
   | .ok (.brk σ2) st2=>.ok (.nx σ2) st2
   | r=>r
def sFor (it:SA) (bd:SG) (body:SS):SS:=λσ au=>(it σ au).bind λxs st1=>forF bd body xs σ st1
def whileF (c:ST) (body:SS):Nat->SS
 | 0,_,_=>.stuck
 | n+1,σ,au=>(c σ au).bind λb st1=>if b=true then(match body σ st1 with
  | .ok (.nx σ2) st2=>whileF c body n σ2 st2
  | .ok (.ct σ2) st2=>whileF c body n σ2 st2
  | .ok (.brk σ2) st2=>.ok (.nx σ2) st2
  | r=>r) else .ok (.nx σ) st1
noncomputable def wCap:Nat:=1000000
def sWhile (c:ST) (body:SS):SS:=whileF c body wCap
theorem zbcx {α:Type}{xs:List α}  (h:i < xs.length):∃x,xs[i]?=some x/\xs.drop i=x::xs.drop (i+1):=⟨xs[i],xbe h,xfr h⟩
section
theorem zbrg {X:Cx}(hp:PassesOwn (model X.prog X.w) X.A X.env X.xe)(hc:X.calm=true)(hi:DI X tg iter it)(hg:DG X tg bd)(hb:DSs X body b)(hs:∀x,foldedSetIterable iter X.env x=pure x:=by intro _;rfl) :
  DSt X (.For tg iter body [] pos) (sFor it bd b):=zuk (zbop hp hc hi hg hb hs) λE τ H hq0=>by
 obtain⟨ρ,σ,au,fl,st',a,rp,e,q⟩:=hq0;obtain⟨xs,st1,e1,e⟩:=zb e;refine⟨ρ,σ,au,xs,st1,a,rp,e1,λρ1 H1 J x1 rp1 ok=>?_⟩;have q1:=q.ext x1;refine⟨λi m τ' H'=>i+m=xs.length/\∃ρ2 σ2 st2,Ext ρ1 H1 ρ2 H'/\AtS X.K ρ2 H' σ2 τ'/\Rep X.K ρ2 st2 H'/\forF bd b (xs.drop i) σ2 st2=.ok fl st',⟨xs.length,by lia,ρ1,σ,st1,.refl _ _,a.ext x1,rp1,e⟩,?_⟩;rintro i m τ' H' ⟨him,ρ2,σ2,st2,x2,a2,rp2,e2⟩;rcases xgl i xs.length with hlt | hge
 ·obtain⟨x,hx,hd⟩:=zbcx hlt;rw[hd] at e2;obtain⟨go,yl⟩:=ok.item ρ2 H' x2.toG i x hx;refine .inr ⟨go,λτ3 H3=>∃ρ3 σ3 st3,Ext ρ1 H1 ρ3 H3/\AtS X.K ρ3 H3 σ3 τ3/\Rep X.K ρ3 st3 H3/\forF bd b (xs.drop (i+1)) σ3 st3=.ok fl st',λτ3 H3 ⟨ρ3,σ3,st3,n1,n2,n3,n4⟩=>⟨m - 1,by lia,by lia,ρ3,σ3,st3,n1,n2,n3,n4⟩,λy H3 hy=>?_⟩;obtain⟨y1,y4⟩:=yl y H3 hy;obtain⟨y2,y3⟩:=y4 _ rp2;unfold forF at e2;cases hbd:bd x σ2 with
  | none=>rw[hbd] at e2;cases e2
  | some σ1 =>
   rw[hbd] at e2;dsimp only at e2;have X3:=x2.trans y1;refine⟨ρ2,σ2,x,σ1,a2.ext y1,y3,hbd,λτ4 a4=>?_⟩;cases hr:b σ1 st2 with
   | stuck=>rw[hr] at e2;cases e2
   | exc z w=>rw[hr] at e2;cases e2
   | ok fb st3 =>
    rw[hr] at e2;refine⟨ρ2,σ1,st2,fb,st3,a4,y2,hr,?_⟩;cases fb with
    | nx σ3=>exact λρ' H'' τ5 x5 rp5 a5=>⟨ρ',σ3,st3,X3.trans x5,a5,rp5,e2⟩
    | ct σ3=>exact λρ' H'' τ5 x5 rp5 a5=>⟨ρ',σ3,st3,X3.trans x5,a5,rp5,e2⟩
    | brk σ3 =>
     dsimp only at e2;cases e2;exact λρ' H'' τ5 x5 rp5 a5=>q1 _ _ _ (X3.trans x5) rp5 a5
    | ret v =>
     dsimp only at e2;cases e2;exact λρ' H'' u x5 rp5 a5=>q1 _ _ _ (X3.trans x5) rp5 a5
 ·rw[xjh hge] at e2;unfold forF at e2;cases e2;exact .inl ⟨ok.done ρ2 H' x2.toG i hge,q1 _ _ _ x2 rp2 a2⟩
theorem zbge {X:Cx}(hp:PassesOwn (model X.prog X.w) X.A X.env X.xe)(hc:DT X c t)(hb:DSs X body b):DSt X (.While c body [] pos) (sWhile t b):=zuk (zbeh hp hc hb) λE τ H hq0=>by
 obtain⟨ρ,σ,au,fl,st',a,rp,e,q⟩:=hq0;unfold sWhile at e;generalize wCap=n at e;refine⟨λm τ' H'=>∃ρ2 σ2 st2,Ext ρ H ρ2 H'/\AtS X.K ρ2 H' σ2 τ'/\Rep X.K ρ2 st2 H'/\whileF t b m σ2 st2=.ok fl st',⟨n,ρ,σ,au,.refl _ _,a,rp,e⟩,?_⟩;rintro m τ' H' ⟨ρ2,σ2,st2,x2,a2,rp2,e2⟩;cases m with
 | zero=>unfold whileF at e2;cases e2
 | succ m =>
  unfold whileF at e2;obtain⟨x,st3,e3,e4⟩:=zb e2;refine⟨ρ2,σ2,st2,x,st3,a2,rp2,e3,λρ3 H3 x3 rp3=>?_⟩;have X3:=x2.trans x3;cases x with
  | false =>
   rw[if_neg (by decide)] at e4;cases e4;exact iteF (q _ _ _ X3 rp3 (a2.ext x3))
  | true =>
   rw[if_pos rfl] at e4;refine iteT ⟨λτ4 H4=>∃ρ4 σ4 st4,Ext ρ H ρ4 H4/\AtS X.K ρ4 H4 σ4 τ4/\Rep X.K ρ4 st4 H4/\whileF t b m σ4 st4=.ok fl st',λτ4 H4 hh=>⟨m,xjt m,hh⟩,?_⟩;cases hr:b σ2 st3 with
   | stuck=>rw[hr] at e4;cases e4
   | exc z w=>rw[hr] at e4;cases e4
   | ok fb st5 =>
    rw[hr] at e4;refine⟨ρ3,σ2,st3,fb,st5,a2.ext x3,rp3,hr,?_⟩;cases fb with
    | nx σ3=>exact λρ' H'' τ5 x5 rp5 a5=>⟨ρ',σ3,st5,X3.trans x5,a5,rp5,e4⟩
    | ct σ3=>exact λρ' H'' τ5 x5 rp5 a5=>⟨ρ',σ3,st5,X3.trans x5,a5,rp5,e4⟩
    | brk σ3 =>
     dsimp only at e4;cases e4;exact λρ' H'' τ5 x5 rp5 a5=>q _ _ _ (X3.trans x5) rp5 a5
    | ret v =>
     dsimp only at e4;cases e4;exact λρ' H'' u x5 rp5 a5=>q _ _ _ (X3.trans x5) rp5 a5
end
def compF (bd:SG) (c:ST) (f:SE):List D->DS->Store->Res (List D)
 | [],_,au=>.ok [] au
 | x::xs,σ,au=>match bd x σ with
  | none=>.stuck
  | some σ1=>(c σ1 au).bind λb st1=>if b=true then(f σ1 st1).bind λy st2=>(compF bd c f xs σ1 st2).bind λys st3=>.ok (y::ys) st3 else compF bd c f xs σ1 st1
def aT (k:Nat) (is:List Nat) (σ:DS):DS:=List.replicate k none++is.map λi=>(σ[i]?).getD none
def aG (it:SA) (k:Nat) (is:List Nat) (bd:SG) (c:ST) (f:SE):SE:=λσ au=>(it σ au).bind λxs st1=>if xs.length<=sizeLine then(compF bd c f xs (aT k is σ) st1).bind λys st2=>.ok (.lst ys) st2 else .stuck
def aI:ST:=λ_ au=>.ok true au
theorem AtS.start {K:Fg}     (h:AtS K ρ H σ τ)(k:Nat)(is:List Nat):AtS K ρ H (aT k is σ) (startC k is τ):=by
 have app:∀{a c:DS} {b d:St},AtS K ρ H a b->AtS K ρ H c d->AtS K ρ H (a++c) (b++d):=λh1 h2=>by
  induction h1 with
  | nil=>exact h2
  | cons r t ih=>exact .cons r ih
 refine app ?_ ?_
 ·induction k with
  | zero=>exact .nil
  | succ k ih=>exact .cons (λd e=>nomatch e) ih
 ·induction is with
  | nil=>exact .nil
  | cons i is ih =>
   refine .cons (λd e=>?_) ih;have e:(σ[i]?).getD none=some d:=e;have e':σ[i]?=some (some d):=by
    cases q:σ[i]? with
    | none=>rw[q] at e;cases e
    | some o=>rw[q] at e;exact congrArg some e
   obtain⟨u,hu,a⟩:=h.get e';exact⟨u,by show(τ[i]?).getD none=some u;rw[hu];rfl,a⟩
def Loc.with (ρ:Loc) (p:Addr):Loc:=⟨ρ.m,p::ρ.g⟩
theorem zbhu     (hp:H p=none):Mv ρ H (ρ.with p) (upd H p o):=⟨λe n=>⟨by rw[zx (zn e hp)];exact e,n.1,λz=>by
 rcases xbm.mp z with z | z
 ·exact zn e hp z
 ·exact n.2 z⟩,xbg _,λ_ _ _ e=>e⟩
theorem At.with {K:Fg}     (hp:H p=none)   (h:At K ρ H d v):At K (ρ.with p) (upd H p o) d v:=h.mv (zbhu hp)
theorem zbcl {ρ ρ':Loc}    (hm:ρ'.m=ρ.m)(hg:p∈ρ.g)(hs:∀a,a∈ρ'.g->a∈ρ.g):Mv ρ H ρ' (upd H p o):=⟨λe n=>⟨by rw[zx (by rintro rfl;exact n.2 hg)];exact e,by rw[hm];exact n.1,λz=>n.2 (hs _ z)⟩,by rw[hm];exact xbg _,λ_ _ _ e=>by rw[hm] at e;exact e⟩
theorem At.grow {K:Fg}{ρ ρ':Loc}    (hm:ρ'.m=ρ.m)(hg:p∈ρ.g)(hs:∀a,a∈ρ'.g->a∈ρ.g)   (h:At K ρ H d v):At K ρ' (upd H p o) d v:=h.mv (zbcl hm hg hs)
theorem AtAll.grow {K:Fg}{ρ ρ':Loc}    (hm:ρ'.m=ρ.m)(hg:p∈ρ.g)(hs:∀a,a∈ρ'.g->a∈ρ.g)   (h:AtAll K ρ H d v):AtAll K ρ' (upd H p o) d v:=h.mv (zbcl hm hg hs)
theorem OAt.map {K:Fg}     (k:∀d v,At K ρ H d v->At K ρ' H' d v)(fz:∀b ob u,H b=some (.frz ob u)->H' b=some (.frz ob u))(same:H' a=H a)(h:OAt K ρ H x a):OAt K ρ' H' x a:=by
 have ka:∀{d:List D} {v:List V},AtAll K ρ H d v->AtAll K ρ' H' d v:=λ{d v} h=>by
  induction d generalizing v with
  | nil=>cases h;exact .nil
  | cons x xs ih=>cases h with | cons a b=>exact .cons (k _ _ a) (ih b)
 cases x with
 | lst xs=>obtain⟨vs,q,r⟩:=h;exact⟨vs,by rw[same];exact q,ka r⟩
 | dT kvs=>obtain⟨vs,q,r⟩:=h;exact⟨vs,by rw[same];exact q,Paired.mapP r λp q z=>⟨z.1,k _ _ z.2⟩⟩
 | fT kvs=>obtain⟨vs,ob,q,r⟩:=h;exact⟨vs,ob,by rw[same];exact q,Paired.mapP r λp q z=>⟨z.1,k _ _ z.2⟩⟩
 | dI kvs=>obtain⟨vs,q,r⟩:=h;exact⟨vs,by rw[same];exact q,Paired.mapP r λp q z=>⟨z.1,k _ _ z.2⟩⟩
 | dead=>exact h.elim
 | tab=>obtain⟨c,ps,q,r⟩:=h;exact⟨c,ps,by rw[same];exact q,r.map fz⟩
theorem Rep.with {K:Fg}     (r:Rep K ρ au H)(hp:H p=none)(vs:List V):Rep K (ρ.with p) au (upd H p (.lst vs)) :=
 ⟨r.len,r.inj,λm b y e1 e2=>by
  have q:=r.obj m b y e1 e2;obtain⟨u,hu⟩:=q.has;exact q.map (λd v h=>h.with hp) (λb ob u e=>by rw[zx (zn e hp)];exact e) (zx (zn hu hp)),λa ha=>by
  rcases xbm.mp ha with rfl | ha
  ·exact⟨⟨vs,zw⟩,(zlq r hp).1⟩
  ·obtain⟨⟨ws,h1⟩,h2⟩:=r.gh a ha
   exact⟨⟨ws,by rw[zx (zn h1 hp)];exact h1⟩,h2⟩,r.live⟩
theorem Rep.grow {K:Fg}{ρ':Loc}    (r:Rep K ρ au H)(hm:ρ'.m=ρ.m)(hg:p∈ρ.g)(hs:∀a,a∈ρ'.g->a∈ρ.g)(vs:List V):Rep K ρ' au (upd H p (.lst vs)) :=
 ⟨by rw[hm];exact r.len,by rw[hm];exact r.inj,λm b y e1 e2=>by
  rw[hm] at e1;refine(r.obj m b y e1 e2).map (λd v h=>h.grow hm hg hs) (λb ob u e=>by rw[zx (by rintro rfl;obtain⟨⟨_,z⟩,_⟩:=r.gh _ hg;rw[e] at z;cases z)];exact e) (zx ?_);rintro rfl;exact(r.gh b hg).2 (xcb e1),λa ha=>by
  obtain⟨⟨ws,h1⟩,h2⟩:=r.gh a (hs a ha);refine⟨?_,by rw[hm];exact h2⟩;by_cases e:a=p
  ·subst e;exact⟨vs,zw⟩
  ·exact⟨ws,by rw[zx e];exact h1⟩,by rw[hm];exact r.live⟩
theorem AtS.map {K:Fg}     (k:∀d v,At K ρ H d v->At K ρ' H' d v)(h:AtS K ρ H σ τ):AtS K ρ' H' σ τ:=Paired.mapP h λo v z d e=>by
 obtain⟨u,e1,a⟩:=z d e;exact⟨u,e1,k _ _ a⟩
section
inductive CI (K:Fg) (bd:SG) (c:ST) (f:SE) (xs ys:List D) (st2:Store) (ρ1:Loc) (H1:Hp) (p:Addr) (i:Nat) (τ:St) (H':Hp):Prop where
 | mk {ρ2:Loc} {σ2:DS} {st3:Store} {acc:List D} {accV:List V} {zs:List D} (x2:ExtG ρ1 H1 ρ2 H') (hg:ρ2.g=p::ρ1.g) (hpp:H' p=some (.lst accV)) (hal:AtAll K ρ2 H' acc accV) (hli:acc.length<=i) (a2:AtS K ρ2 H' σ2 τ) (rp2:Rep K ρ2 st3 H') (e3:compF bd c f (xs.drop i) σ2 st3=.ok zs st2) (hac:acc++zs=ys):CI K bd c f xs ys st2 ρ1 H1 p i τ H'
theorem zbrw {k:Nat}{is:List Nat}{K:Fg}        (a:AtS K ρ H σ τ)(rp:Rep K ρ au H)(e1:it σ au=.ok xs st1)(hlen:xs.length<=sizeLine)(e2:compF bd c f xs (aT k is σ) st1=.ok ys st2)
 (fin:∀ρ1 H1 p ρ2 H' accV,Ext ρ H ρ1 H1->Rep K ρ1 st1 H1->H1 p=none->ExtG ρ1 H1 ρ2 H'->ρ2.g=p::ρ1.g->H' p=some (.lst accV)->AtAll K ρ2 H' ys accV->Rep K ρ2 st2 H'->Q (.ref p) H'):tComp (iD K it) k is (gD K bd) (tDT K c) (tD K f) τ H Q:=by
 refine⟨ρ,σ,au,xs,st1,a,rp,e1,λρ1 H1 J x1 rp1 ok p hp=>?_⟩
 refine⟨λi m τ' H'=>i+m=xs.length/\CI K bd c f xs ys st2 ρ1 H1 p i τ' H',
  ⟨xs.length,by lia,.mk ?_ rfl zw .nil (xdu _) (((a.ext x1).start k is).map λd v h=>h.with hp) (rp1.with hp []) e2 rfl⟩,?_⟩
 ·have E:Ext ρ1 H1 ρ1 (upd H1 p (.lst [])):=Ext.new hp _
  exact⟨E.len,E.old,E.keep,λa h=>by
   rcases xbm.mp h with rfl | h
   ·exact .inr hp
   ·exact .inl h,E.frz⟩
 rintro i m τ' H' ⟨him,@⟨ρ2,σ2,st3,acc,accV,zs,x2,hg,hpp,hal,hli,a2,rp2,e3,hac⟩⟩;have hpg:p∈ρ2.g:=by rw[hg];exact xbq
 rcases xgl i xs.length with hlt | hge
 ·obtain⟨x,hx,hd⟩:=zbcx hlt;rw[hd] at e3;obtain⟨go,yl⟩:=ok.item ρ2 H' x2 i x hx
  refine .inr ⟨go,CI K bd c f xs ys st2 ρ1 H1 p (i+1),
   λτ4 H4 hh=>⟨m - 1,by lia,by lia,hh⟩,λy H3 hy=>?_⟩
  obtain⟨y1,y4⟩:=yl y H3 hy;obtain⟨y2,y3⟩:=y4 _ rp2;unfold compF at e3;cases hbd:bd x σ2 with
  | none=>rw[hbd] at e3;cases e3
  | some σ1 =>
   rw[hbd] at e3;dsimp only at e3;obtain⟨bb,st4,e4,e5⟩:=zb e3;refine⟨ρ2,σ2,x,σ1,a2.ext y1,y3,hbd,λτ4 a4=>?_⟩;have hpm:some p∉ρ2.m:=(rp2.gh p hpg).2;have hpp3:=(y1.keep p _ hpp hpm).1;refine⟨ρ2,σ1,st3,bb,st4,a4,y2,e4,λρ5 H5 x5 rp5=>?_⟩;have hpp5:=(x5.keep p _ hpp3 hpm).1;have hal5:=(hal.ext y1).ext x5;have g5:ρ5.g=p::ρ1.g:=x5.gho.trans hg;cases bb with
   | false =>
    rw[if_neg (by decide)] at e5;exact iteF (.mk ((x2.then y1).then x5) g5 hpp5 hal5 (xgh hli) (a4.ext x5) rp5 e5 hac)
   | true =>
    rw[if_pos rfl] at e5;obtain⟨w,st6,e6,e7⟩:=zb e5;obtain⟨zs',st7,e8,e9⟩:=zb e7;cases e9;refine iteT ⟨ρ5,σ1,st4,w,st6,a4.ext x5,rp5,e6,λρ6 H6 u x6 rp6 a6=>?_⟩;have hpm5:some p∉ρ5.m:=(x5.keep p _ hpp3 hpm).2;have hpp6:=(x6.keep p _ hpp5 hpm5).1;have g6:ρ6.g=p::ρ1.g:=x6.gho.trans g5;have hp6:p∈ρ6.g:=by rw[g6];exact xbq
    have hl6:accV.length<=i:=by rw[hal.length];exact hli
    refine⟨accV,hpp6,xdf hl6 (xbk hlt hlen),.mk (acc:=acc++[w]) (accV:=accV++[u]) ?_ g6 zw ?_ (by rw[xbh];exact xfi hli) ?_ (rp6.grow rfl hp6 (λ_ h=>h) _) e8 (by rw[← hac,xck];rfl)⟩
    ·have G:=((x2.then y1).then x5).then x6;refine⟨G.len,G.old,λb o e n=>?_,G.gho,λb ob uu e=>?_⟩
     ·rw[zx (zn e hp)];exact G.keep b o e n
     ·rw[zx (zn e hp)];exact G.frz b ob uu e
    ·exact((hal5.ext x6).append (.cons a6 .nil)).grow rfl hp6 (λ_ h=>h)
    ·exact(a4.ext (x5.trans x6)).map λd v h=>h.grow rfl hp6 (λ_ h=>h)
 ·rw[xjh hge] at e3;unfold compF at e3;cases e3;rw[xdm] at hac;subst hac;exact .inl ⟨ok.done _ _ x2 i hge,fin _ _ _ _ _ _ x1 rp1 hp x2 hg hpp hal rp2⟩
theorem zbrv {K:Fg}:∀τ H Q,tD K (aG it k is bd c f) τ H Q->tComp (iD K it) k is (gD K bd) (tDT K c) (tD K f) τ H Q:=λτ H Q hq0=>by
 obtain⟨ρ,σ,au,v,st',a,rp,e,q⟩:=hq0;obtain⟨xs,st1,e1,e⟩:=zb e;split at e
 ·rename_i hlen;obtain⟨ys,st2,e2,e⟩:=zb e;cases e;refine zbrw a rp e1 hlen e2 λρ1 H1 p ρ2 H' accV x1 rp1 hp x2 hg hpp hal rp2=>?_
  have hpg:p∈ρ2.g:=by rw[hg];exact xbq
  have hpm:some p∉ρ2.m:=(rp2.gh p hpg).2;have self:upd H' p (.lst accV)=H':=zbdr hpp;have sub:∀a,a∈(⟨ρ2.m,ρ1.g⟩:Loc).g->a∈ρ2.g:=λb hb=>by rw[hg];exact xbo _ hb
  have E:Ext ρ1 H1 ⟨ρ2.m,ρ1.g⟩ H':=⟨x2.len,x2.old,x2.keep,rfl,x2.frz⟩
  have R:=rp2.grow (ρ':=⟨ρ2.m,ρ1.g⟩) rfl hpg sub accV;have L:=AtAll.grow (ρ:=ρ2) (ρ':=⟨ρ2.m,ρ1.g⟩) (o:=.lst accV) rfl hpg sub hal;rw[self] at R L;refine q _ _ _ (x1.trans E) R (.lst hpp ⟨hpm,λz=>?_⟩ L);obtain⟨⟨ws,h1⟩,_⟩:=rp1.gh p z;rw[hp] at h1;cases h1
 ·cases e
theorem zbrs {X:Cx}{N:List Str}(hcalm:X.calm=true)(hi:DI X tg iter it)(hg:∀cl C fp s H,DG (cxC X N scope cl C fp s H) tg bd)(hc:∀cl C fp s H,PIf (cxC X N scope cl C fp s H) ifs (tDT X.K c))(he:∀cl C fp s H,DE (cxC X N scope cl C fp s H) elt f)
 (S:CompScope X N k is scope)(hs:∀x,foldedSetIterable iter X.env x=pure x:=by intro _;rfl):DE X (.ListComp elt [⟨tg,iter,ifs,0⟩] scope pos) (aG it k is bd c f):=zgd (zbjm hcalm hi hg hc he S hs) zbrv
theorem zblu :PIf X [] (tDT X.K aI):=λaU s σ H Q I hq0=>by
 obtain⟨ρ,σ',au,v,st',a,rp,e,q⟩:=hq0;cases e;exact zbjd aU s σ H Q I (q _ _ (.refl _ _) rp)
theorem zblt    (h:DT X c t):PIf X [c] (tDT X.K t):=zbjc h
end
end Dd
namespace Dd
open PySem L2 PyProof.Rows
def spD (K:Fg) (np:Nat) (F:DFn):Sp:=λvs H Q _=>∃ρ ds au v st',AtAll K ρ H ds vs/\Rep K ρ au H/\F ds au=.ok v st'/\vs.length=np/\∀ρ' H' u,Ext ρ H ρ' H'->Rep K ρ' st' H'->At K ρ' H' v u->Q u H'
def CalD (P:Program) (w:World) (K:Fg) (mg:Str->Option Value) (base:Heap) (x:Str) (k:Nat) (ps:List Str) (F:DFn):Prop:=Callee P w K mg base x k ps (spD K ps.length F)
def fnD (n np:Nat) (body:SS):DFn:=λds au=>if ds.length=np then(match body (ds.map some++List.replicate (n - np) none) au with
 | .ok (.ret v) st'=>.ok v st'
 | .ok (.nx _) st'=>.ok .non st'
 | .exc x st'=>.exc x st'
 | _=>.stuck) else .stuck
section
section
variable {x:Str}{F:DFn}{e:Expr}
theorem zbry {K:Fg}{np:Nat}{f:SA}(hn:∀ds au v st',F ds au=.ok v st'->ds.length=np):∀τ H Q,tD K (aE F f) τ H Q->tCall (spD K np F) [] E0 (tDA K f) τ H Q:=λτ H Q hq0=>by
 obtain⟨ρ,σ,au,v,st',a,rp,e,q⟩:=hq0;obtain⟨x,st1,e1,e⟩:=zb e;refine⟨ρ,σ,au,x,st1,a,rp,e1,λρ1 H1 u x1 rp1 a1=>?_⟩;show spD K np F (u++[]) H1 Q E0;rw[xdm];exact⟨ρ1,x,st1,v,st',a1,rp1,e,by rw[a1.length];exact hn _ _ _ _ e,λρ' H' w x2=>q ρ' H' w (x1.trans x2)⟩
end
theorem zbrt {X:Cx}(c:CalD X.prog X.w X.K X.mg X.base x k ps F)(hn:∀ ds au v st', F ds au=.ok v st'->ds.length=ps.length)(hr:Room k X.A)(hg:Gl X x)(ha:DA X (e::es) g)(hdb:(x==("__debug__" : Str))=false:=by decide)
 (he:starEach (e::es) X.env=(false,eval e X.env)::starEach es X.env:=by rfl)(hpl:(backTo pos (starEach es X.env)).any (·.1)=false:=by rfl) :
 DE X (.Call (.Name x p) (e::es) [] pos) (aE F g):=zgd (zbeu c hr hg ha hdb he hpl) (zbry hn)
theorem zbco {n np:Nat}{b:SS}{ds:List D}{au st':Store}{v:D}(h:fnD n np b ds au=.ok v st'):ds.length=np:=by
 unfold fnD at h;split at h
 ·assumption
 ·cases h
end
theorem AtAll.some {K:Fg}{ρ:Loc}{H:Hp}:∀{ds:List D} {vs:List V},AtAll K ρ H ds vs->AtS K ρ H (ds.map Option.some) (vs.map Option.some)
 | _,_,.nil=>.nil
 | _,_,.cons a b=>.cons (λd e=>by cases e;exact⟨_,rfl,a⟩) (AtAll.some b)
theorem AtS.append {K:Fg}{ρ:Loc}{H:Hp}:∀{a c:DS} {b d:L2.St},AtS K ρ H a b->AtS K ρ H c d->AtS K ρ H (a++c) (b++d)
 | _,_,_,_,.nil,h=>h
 | _,_,_,_,.cons r t,h=>.cons r (AtS.append t h)
theorem AtS.nones {K:Fg}{ρ:Loc}{H:Hp}:∀n,AtS K ρ H (List.replicate n none) (List.replicate n none)
 | 0=>.nil
 | n+1=>.cons (λd e=>nomatch e) (AtS.nones n)
theorem zbmw {K:Fg}{N:List Str}{np:Nat}{b:SS}{vs:List V}{H:Hp}{Q:VK}{E:XK}(h:spD K np (fnD N.length np b) vs H Q E):tDS K b {nx:=λ_ H'=>Q .non H',rt:=Q} (L2.start N vs) H:=by
 obtain⟨ρ,ds,au,v,st',a,rp,e,hl,q⟩:=h;have hd:ds.length=np:=by rw[← a.length];exact hl
 unfold fnD at e;rw[if_pos hd] at e;have as:AtS K ρ H (ds.map Option.some++List.replicate (N.length - np) none) (L2.start N vs):=by
  unfold L2.start;rw[hl];exact a.some.append (.nones _)
 refine⟨ρ,ds.map Option.some++List.replicate (N.length - np) none,au,?_⟩;cases hr:b (ds.map Option.some++List.replicate (N.length - np) none) au with
 | stuck=>rw[hr] at e;cases e
 | exc z w=>rw[hr] at e;cases e
 | ok fl st1 =>
  rw[hr] at e;cases fl with
  | ret w =>
   dsimp only at e;cases e;exact⟨.ret v,st',as,rp,rfl,λρ' H' u x r t=>q ρ' H' u x r t⟩
  | nx σ =>
   dsimp only at e;cases e;exact⟨.nx σ,st',as,rp,rfl,λρ' H' τ x r t=>q ρ' H' .non x r .non⟩
  | brk σ=>cases e
  | ct σ=>cases e
theorem zbms {P:Program}{w:World}{K:Fg}{mg:Str->Option Value}{base h:Heap}{x:Str}{au:Stmt}{N ps:List Str}{k:Nat}{b:SS}(T:TopF K x au)(X:K.In h)(G:h.Ns mainGlobals mg)(S:FnScope N ps (defScope au))
  (bd:∀(kV doc pm:Value) (an:Option Addr) (cdv ct:Value) (us:List Value),us.length=ps.length->bindArgs (W.fnOf x x (defArgs au) (defBody au) (defScope au) .none kV doc pm an cdv ct) ⟨us,[]⟩=pure (ps.zip us))
  (hbody:∀(f:Addr) (cdv:Value) (A:Around) (outer:List Env) (s:Shared) (H:Hp) (E:XK),Room k (A.deeper (envOfC x (defScope au) s.heap.objs.size f cdv)) ->
   DSs (cxOf CX0 P w K mg base N x (defScope au) f cdv A outer s H E).nox (defBody au) b):CalD P w K mg base x (k+1) ps (fnD N.length ps.length b) :=
 zri T X G S bd (λvs H Q E hh=>by obtain⟨ρ,ds,au,v,st',a,rp,e,hl,q⟩:=hh;exact hl) λf cdv A outer s H vs Q E hr hh=>⟨_,hbody f cdv A outer s H E hr,zbmw hh⟩
def spLaw (K:Fg):Sp:=λvs H Q _=>∃(a:Addr) (ns:List Int),vs=[.ref a]/\SqL K H a (ns.map V.int)/\ns.length<=63/\∀H',Q (.bl true) H'
theorem zbpz {P:Program}{w:World}{K:Fg}{mg:Str->Option Value}{base:Heap}{au:Stmt}{N ps:List Str}{k:Nat}{b:SS}{f:Addr}{fd:FuncData}(F:Fun K "law" "law" au f fd)(S:FnScope N ps (defScope au))(hp:ps.length=1)
  (hbody:∀(cdv:Value) (A:Around) (outer:List Env) (s:Shared) (H:Hp) (E:XK),Room k (A.deeper (envOfC "law" (defScope au) s.heap.objs.size f cdv)) ->
   DSs (cxOf CX0 P w K mg base N "law" (defScope au) f cdv A outer s H E).nox (defBody au) b)
  (holds:∀ns:List Int,ns.length<=63->∃st',fnD N.length 1 b [.scr (ns.map .int)] []=.ok (.bl true) st'):FnOk P w K mg base CX0 (k+1) f fd ps (spLaw K):=by
 refine F.ok S (λvs H Q E hh=>?_) (λcdv A outer s H vs Q E hr hh=>⟨_,hbody cdv A outer s H E hr,?_⟩)
 ·obtain⟨a,ns,rfl,_⟩:=hh;exact hp.symm
 ·obtain⟨a,ns,rfl,hS,hl,q⟩:=hh;obtain⟨st',e⟩:=holds ns hl;refine zbmw (np:=1) (E:=E) ⟨⟨[],[]⟩,[.scr (ns.map .int)],[],_,st',.cons (.scr ?_ (zhd ns)) .nil,⟨rfl,λn m a e _=>by simp at e,λn a o e _=>by simp at e,λa h=>(by cases h),λn o e _=>by simp at e⟩,e,rfl,λρ' H' u x r t=>?_⟩
  ·rcases hS with h | h
   ·exact .inl ⟨h,by simp[Out]⟩
   ·exact .inr λH'=>.inr h
  ·cases t;exact q H'
end Dd
namespace Dd
open PySem L2
def oNeg:D->Store->Res D:=λx au=>match x with
 | .int i=>.ok (.int (-i)) au
 | _=>.stuck
def sStuck:SS:=λ_ _=>.stuck
def tru (au:Store):D->Option Bool
 | .non=>some false
 | .bl b=>some b
 | .int i=>some (i != 0)
 | .tup xs=>some !xs.isEmpty
 | d=>(asL au d).map λxs=>!xs.isEmpty
def eTru (f:SE):ST:=λσ au=>(f σ au).bind λv st1=>match tru st1 v with
 | some b=>.ok b st1
 | none=>.stuck
theorem znr {K:Fg}     (h:AtAll K ρ H ds vs):ds.isEmpty=vs.isEmpty:=by
 cases h<;>rfl
theorem zbnw {K:Fg}    (rp:Rep K ρ au H)    (a:At K ρ H d u)(e:tru au d=some b):TruV K u H b:=by
 unfold tru at e;split at e
 ·cases a;cases e;exact rfl
 ·cases a;cases e;exact rfl
 ·cases a;cases e;exact rfl
 ·cases e;cases a with
  | tup h1 h2 h3=>exact .inr (.inl ⟨_,SqT.of h1,by rw[znr h3]⟩)
 ·obtain⟨xs,h0,rfl⟩:=xdh.mp e;obtain⟨p,vs,rfl,h1,h2⟩:=zhk rp a h0;exact .inl ⟨_,SqL.of h1,by rw[znr h2]⟩
section
theorem zbgg:DSt X sm sStuck:=λaU s σ H E I ⟨ρ,σ',au,fl,st',a,rp,e,q⟩=>by cases e
theorem zbqz (h:DE X a f)(he:∀whole,isTrue a X.env whole=(do let v ← whole;standAt a.pos;holding [v] (truthy v)):=by intro _;rfl):DT X a (eTru f):=zbnj (zbef h he) λτ H Q hq0=>by
 obtain⟨ρ,σ,au,v,st',at',rp,e,q⟩:=hq0;obtain⟨x,st1,e1,e⟩:=zb e;refine⟨ρ,σ,au,x,st1,at',rp,e1,λρ1 H1 u x1 rp1 a1=>?_⟩;split at e
 ·rename_i bb hb;cases e;exact⟨_,zbnw rp1 a1 hb,q _ _ x1 rp1⟩
 ·cases e
end
end Dd
namespace Dd
open PySem PySem.Spec PyProof.Rows L2
noncomputable def numF:Int->List D->List D
 | _,[]=>[]
 | n,x::xs=>.tup [.int n,x]::numF (n+1) xs
theorem zjc:∀{xs:List D} {n:Int} {i:Nat} {d:D},(numF n xs)[i]?=some d->∃x,xs[i]?=some x/\d=.tup [.int (n+i),x]
 | [],_,_,_,h=>by simp[numF] at h
 | x::xs,n,0,d,h=>by
  simp[numF] at h;exact⟨x,rfl,by rw[← h];simp⟩
 | x::xs,n,i+1,d,h=>by
  simp only[numF,xip] at h;obtain⟨y,h1,h2⟩:=zjc h;exact⟨y,by simpa using h1,by rw[h2];congr 3;push_cast;lia⟩
theorem zfa:∀{xs:List D} {n:Int},(numF n xs).length=xs.length
 | [],_=>rfl
 | _::xs,n=>by simp[numF,zfa (xs:=xs)]
section
end
end Dd
namespace Dd
open PySem L2
def bInt:List D->Store->Res D:=λxs au=>match xs with
 | [.int i]=>.ok (.int i) au
 | [.bl k]=>.ok (.int (if k then 1 else 0)) au
 | _=>.stuck
theorem zbbe {K:Fg}:CaD K bInt (λxs H Q=>(∃i,xs=[.int i]/\Q (.int i) H)\/∃k,xs=[.bl k]/\Q (.int (if k then 1 else 0)) H):=λρ H au xs us z st' Q rp aa e q=>by
 unfold bInt at e;split at e
 ·cases e;obtain⟨u,rfl,a⟩:=aa.one;cases a;exact .inl ⟨_,rfl,q _ _ _ (.refl _ _) rp (.int _)⟩
 ·cases e;obtain⟨u,rfl,a⟩:=aa.one;cases a;exact .inr ⟨_,rfl,q _ _ _ (.refl _ _) rp (.int _)⟩
 ·cases e
def eCompM (it:SA) (k:Nat) (is:List Nat) (bd:SG) (c:ST) (f:SE):SE:=λσ au=>(it σ au).bind λxs st1=>if xs.length<=sizeLine then(compF bd c f xs (aT k is σ) st1).bind λys st2=>.ok (.ref st2.length) (st2++[.lst ys]) else .stuck
section
end
noncomputable def plainE:Expr->Bool
 | .Starred _ _=>false
 | _=>true
theorem zmp    (h:plainE e=true):starEach (e::es) env=(false,eval e env)::starEach es env:=by
 cases e<;>first | rfl | cases h
theorem zbgn      (ha:DE X e f)(hr:DA X es g)(hp:plainE e=true:=by rfl):DA X (e::es) (aB f g):=zbmb ha hr (zmp hp)
def bBest (gt:Bool):List D->Store->Res D:=λxs au=>match xs with
 | [x]=>match (seqOf au x).bind asInts with
  | some (n::ns)=>.ok (.int (bestI gt n ns)) au
  | _=>.stuck
 | _=>.stuck
theorem zbnb {K:Fg} :CaD K (bBest gt) (rBest K gt):=λρ H au xs us z st' Q rp aa e q=>by
 unfold bBest at e;split at e
 ·split at e
  ·rename_i n ns h;cases e;obtain⟨ys,h0,h⟩:=xek.mp h;obtain⟨u,rfl,a⟩:=aa.one;obtain⟨p,vs,rfl,h1,h2⟩:=zgv rp a h0;have e:=zco h2 h;subst e;exact⟨p,n,ns,rfl,h1,q _ _ _ (.refl _ _) rp (.int _)⟩
  ·cases e
 ·cases e
noncomputable def pairsF:List D->List D->List D
 | x::xs,y::ys=>.tup [x,y]::pairsF xs ys
 | _,_=>[]
def iZipT (g:SA):SA:=λσ au=>(g σ au).bind λxs st1=>match xs with
 | [.tup a,.tup b]=>.ok (pairsF a b) st1
 | _=>.stuck
theorem zmy:∀{xs ys:List D} {i:Nat} {d:D},(pairsF xs ys)[i]?=some d->∃x y,xs[i]?=some x/\ys[i]?=some y/\d=.tup [x,y]
 | [],_,_,_,h=>by simp[pairsF] at h
 | _::_,[],_,_,h=>by simp[pairsF] at h
 | x::xs,y::ys,0,d,h=>by
  simp[pairsF] at h;exact⟨x,y,rfl,rfl,h.symm⟩
 | x::xs,y::ys,i+1,d,h=>by
  simp only[pairsF,xip] at h;obtain⟨x',y',h1,h2,h3⟩:=zmy h;exact⟨x',y',by simpa using h1,by simpa using h2,h3⟩
theorem zeh:∀{xs ys:List D},(pairsF xs ys).length=min xs.length ys.length
 | [],_=>by simp[pairsF]
 | _::_,[]=>by simp[pairsF]
 | _::xs,_::ys=>by simp[pairsF,zeh (xs:=xs) (ys:=ys)]
section
theorem zbri (hg:Gl X "zip")(hm:X.mg "zip"=none)(ha:DA X [a,b] g)(hs:starEach [a,b] X.env=[(false,eval a X.env),(false,eval b X.env)]:=by rfl)(hs2:starEach [b] X.env=[(false,eval b X.env)]:=by rfl) :
  DI X (.Tuple elts k tpos) (.Call (.Name "zip" p) [a,b] [] pos) (iZipT g):=zbhh (zbos hg hm ha hs hs2) λτ H R hq0=>by
 obtain⟨ρ,σ,au,xs,st',a,rp,e,q⟩:=hq0;obtain⟨x,st1,e1,e⟩:=zb e;refine⟨ρ,σ,au,x,st1,a,rp,e1,λρ1 H1 u x1 rp1 a1=>?_⟩;split at e
 ·rename_i as bs;cases e;obtain⟨u1,u2,rfl,b1,b2⟩:=a1.two;cases b1 with
  | tup h1 h2 h3 =>
   cases b2 with
   | tup k1 k2 k3 =>
    refine⟨_,_,rfl,⟨_,SqT.of h1⟩,⟨_,SqT.of k1⟩,q _ _ _ x1 rp1 ⟨λρ2 H2 x2 i d e=>?_,λρ2 H2 x2 i h=>?_⟩⟩
    ·obtain⟨x',y',ex,ey,rfl⟩:=zmy e;obtain⟨v1,hv1,av1⟩:=h3.get ex;obtain⟨v2,hv2,av2⟩:=k3.get ey;refine⟨⟨_,_,v1,v2,SqT.of (x2.out h1 h2).1,SqT.of (x2.out k1 k2).1,hv1,hv2⟩,λy H3 hy=>?_⟩;obtain⟨p,hp,rfl,hH⟩:=hy;rw[hH _ _ _ _ (SqT.of (x2.out h1 h2).1) (SqT.of (x2.out k1 k2).1) hv1 hv2];exact⟨Ext.new hp _,λau rp2=>⟨rp2.new hp _,At.newT rp2 hp (.cons (av1.extG x2) (.cons (av2.extG x2) .nil))⟩⟩
    ·rw[zeh] at h;exact⟨_,_,SqT.of (x2.out h1 h2).1,SqT.of (x2.out k1 k2).1,by rw[h3.length,k3.length];lia⟩
 ·cases e
end
def sSetG (bd:SG) (f:SE):SS:=λσ au=>(f σ au).bind λv st1=>match bd v σ with
 | some σ1=>.ok (.nx σ1) st1
 | none=>.stuck
end Dd
namespace Dd
open PySem L2 PyProof.Rows
structure JE (X:Cx) (e:Expr) (f:SE):Prop where out:DE X e f
structure JT (X:Cx) (e:Expr) (f:ST):Prop where out:DT X e f
structure JW (X:Cx) (e:Expr) (f:ST):Prop where out:DW X e f
structure JA (X:Cx) (e:List Expr) (f:SA):Prop where out:DA X e f
structure JS (X:Cx) (s:Stmt) (f:SS):Prop where out:DSt X s f
structure JB (X:Cx) (s:List Stmt) (f:SS):Prop where out:DSs X s f
structure JO (X:Cx) (e:Option Expr) (f:DS->Store->Res (Option Int)):Prop where out:DO X e f
structure JG (X:Cx) (e:Expr) (b:SG):Prop where out:DG X e b
structure JGs (X:Cx) (e:List Expr) (b:List D->DS->Option DS):Prop where out:DGs X e b
structure JI (X:Cx) (tg iter:Expr) (f:SA):Prop where out:DI X tg iter f
structure JIf (X:Cx) (ifs:List Expr) (c:ST):Prop where out:PIf X ifs (tDT X.K c)
structure JC (X:Cx) (op:CmpOp) (a b:Expr) (f:SE):Prop where out:PC X op a b (tD X.K f)
theorem JW.pt    (h:JW X e t):JT X e t:=⟨PW.pt h.out⟩
section
theorem zjo   (h:PE X e (tVar i)):JE X e (aA i):=⟨zbuv h⟩
end
section
theorem zic    (h:PE X e (tC v))(k:∀ρ H,At X.K ρ H d v):JE X e (eC d):=⟨zbmf h k⟩
end
section
theorem zd {i j pos}:JE X (.Constant (.int i) j pos) (eC (.int i)):=⟨zbvd⟩
end
section
theorem zxm {b j pos}:JE X (.Constant (.bool b) j pos) (eC (.bl b)):=⟨d_bl⟩
end
section
theorem zkf {j pos}:JE X (.Constant .none j pos) (eC .non):=⟨zbvb⟩
end
section
theorem zke {x j pos}:JE X (.Constant (.str x) j pos) (eC (.str x)):=⟨zbux⟩
end
section
theorem zda    (ho:OpR X (binaryOp op) r)(hr:OpD X.K g r)(ha:JE X a f)(hb:JE X b f'):JE X (.BinOp a op b pos) (aS g f f'):=⟨d_op ho hr ha.out hb.out⟩
end
section
theorem zjp    (ho:OpR X (compareOp op) r)(hr:OpD X.K g r)(ha:JE X a f)(hb:JE X b f')(hm:behindInMarks op b=false):JE X (.Compare a [op] [b] pos) (aS g f f'):=⟨zbve ho hr ha.out hb.out hm⟩
end
section
theorem zp    (ho:OpR X (compareOp op) r)(hr:OpD X.K g r)(ha:JE X a f)(hb:JE X b f')(hm:behindInMarks op b=false):JT X (.Compare a [op] [b] pos) (eB (aS g f f')):=⟨zbrb ho hr ha.out hb.out hm⟩
end
section
end
section
theorem zwc {op}(h:JE X a f):JE X (.BoolOp op [a] pos) f:=⟨zbuz h.out⟩
end
section
section
variable {X:Cx}{a:Expr}{b:Expr}{rest:List Expr}{f:SE}{f':SE}{pos:Pos}
theorem zwg (ha:JE X a f)(hb:JE X (.BoolOp .And (b::rest) pos) f'):JE X (.BoolOp .And (a::b::rest) pos) (eAnd f f'):=⟨zbvf ha.out hb.out⟩
end
end
section
end
section
theorem zbap (ha:JE X a f):JE X (.UnaryOp .Not a pos) (eNot f):=⟨zbva ha.out⟩
end
section
theorem zem {op}(h:JT X a t)(hop:op=.And\/op=.Or):JW X (.BoolOp op [a] pos) t:=⟨zbqx h.out hop⟩
end
section
section
variable {X:Cx}{a:Expr}{b:Expr}{rest:List Expr}{t:ST}{t':ST}{pos:Pos}
theorem zbct (ha:JT X a t)(hb:JW X (.BoolOp .And (b::rest) pos) t'):JW X (.BoolOp .And (a::b::rest) pos) (bAnd t t'):=⟨zbqy ha.out hb.out⟩
end
end
section
section
variable {X:Cx}{a:Expr}{b:Expr}{rest:List Expr}{t:ST}{t':ST}{pos:Pos}
theorem zfu (ha:JT X a t)(hb:JW X (.BoolOp .Or (b::rest) pos) t'):JW X (.BoolOp .Or (a::b::rest) pos) (bOr t t'):=⟨zbus ha.out hb.out⟩
end
end
section
theorem zcz (ha:JT X a t):JT X (.UnaryOp .Not a pos) (bNot t):=⟨zbra ha.out⟩
end
section
theorem zbtk  (hc:JT X c t)(ha:JE X a f)(hb:JE X b f'):JE X (.IfExp c a b pos) (eIf t f f'):=⟨d_if hc.out ha.out hb.out⟩
end
section
theorem zbc :JA X [] aC:=⟨zbrl⟩
end
section
end
section
theorem zbj {x1}(h:JA X es g):JE X (.Tuple es x1 pos) (aR g):=⟨zbuw h.out⟩
end
section
theorem zkg (h:JA X es g):JE X (.List es pos) (eLst g):=⟨zbvc h.out⟩
end
section
theorem zdb (h:JA X es g):JE X (.List es pos) (eLstM g):=⟨zbrn h.out⟩
end
section
theorem zpj :JO X none pNone:=⟨zblr⟩
end
section
theorem zjm (he:JE X e f):JO X (some e) (pSome f):=⟨zblq he.out⟩
end
section
theorem zdc (ha:JE X a f)(hb:JE X b f')(hs:PlainIx b):JE X (.Subscript a b pos) (aS oIx f f'):=⟨d_ix ha.out hb.out hs⟩
end
section
section
variable {X:Cx}{e:Expr}{f:SE}{pos:Pos}{lo:Option Expr}{hi:Option Expr}{l:DS->Store->Res (Option Int)}{h:DS->Store->Res (Option Int)}
theorem zbno {p2:Pos}(he:JE X e f)(hl:JO X lo l)(hu:JO X hi h):JE X (.Subscript e (.Slice lo hi none p2) pos) (eSl f l h):=⟨d_sl he.out hl.out hu.out⟩
end
end
section
theorem zg {x:Str}{id:String}(hc:CallR X (.builtin id) r)(hr:CaD X.K g r)(hg:Gl X x)(hm:X.mg x=none)(hv:bootBuiltins x=some (.builtin id))(ha:JA X (e::es) f)(hn:x≠"__name__":=by decide)(hdb:(x==("__debug__" : Str))=false:=by decide)(he:starEach (e::es) X.env=(false,eval e X.env)::starEach es X.env:=by rfl)(hpl:(backTo pos (starEach es X.env)).any (·.1)=false:=by rfl):JE X (.Call (.Name x p) (e::es) [] pos) (aE g f):=⟨zbmg hc hr hg hm hv ha.out hn hdb he hpl⟩
end
section
theorem zbs {T:String}(hc:CallR X (.type T) r)(hr:CaD X.K g r)(hg:Gl X x)(hm:X.mg x=none)(hv:bootBuiltins x=some (.type T))(ha:JA X (e::es) f)(hn:x≠"__name__":=by decide)(hdb:(x==("__debug__" : Str))=false:=by decide)(he:starEach (e::es) X.env=(false,eval e X.env)::starEach es X.env:=by rfl)(hpl:(backTo pos (starEach es X.env)).any (·.1)=false:=by rfl):JE X (.Call (.Name x p) (e::es) [] pos) (aE g f):=⟨zbgr hc hr hg hm hv ha.out hn hdb he hpl⟩
end
section
theorem zrd :JE X (.Dict [] [] pos) eDNew:=⟨zbrq⟩
end
section
theorem zbpg {X:Cx}(hu:X.A.units+1 < cLine)(hi:JE X i g)(ho:JE X o f):JC X .In i o (aS (oDIn false) g f):=⟨zbub hu hi.out ho.out⟩
end
section
end
section
end
section
theorem zblm   (h:JC X op a b t)(h1:behindInMarks op b=false:=by first | exact nobehind _ (by decide) (by decide) | rfl):JT X (.Compare a [op] [b] pos) (eB t):=⟨zbut h.out h1⟩
end
section
theorem zwf {X:Cx}(hu:X.A.units+1 < cLine)(ho:JE X o f)(hi:JE X i g)(hs:NoSl i):JE X (.Subscript o i pos) (aS oDGet f g):=⟨zbrr hu ho.out hi.out hs⟩
end
section
theorem zbgq {X:Cx}(hu:X.A.units + 1 < cLine)(ho:JE X o f)(he:JE X e g)(hf:JE X f' h)(m:M2 X o "get" apos e f' cpos):JE X (.Call (.Attribute o "get" apos) [e,f'] [] cpos) (eDGet2 f g h):=⟨zbme hu ho.out he.out hf.out m⟩
end
section
theorem zbmd {X:Cx}(hu:X.A.units + 1 < cLine)(ho:JE X o f)(he:JE X e g)(m:M1 X o "pop" apos e cpos):JE X (.Call (.Attribute o "pop" apos) [e] [] cpos) (eDPop f g):=⟨zbrp hu ho.out he.out m⟩
end
section
theorem zpi {X:Cx}{pos:Pos}(hu:X.A.units+1 < cLine)(ho:JE X o f)(hi:JE X i g)(hv:JE X value h)(hs:swapsWith value (some (.Subscript o i pos')) pos.line X.env=pure false):JS X (.Assign [.Subscript o i pos'] value pos) (sDPut f g h):=⟨zblo hu ho.out hi.out hv.out hs⟩
end
section
theorem zdx {apos:Pos}(ho:JE X o f)(ha:JA X (e::es) ga)(hbase:attributeBase o "append" X.env (eval o X.env)=eval o X.env:=by rfl)(hfew:((backTo cpos (starEach (e::es) X.env)).all (λx=>!x.1)&&(backToKw cpos (keywordEach [] X.env)).all (λx=>x.1.isSome)
 && decide ((e::es).length + ([]:List Keyword).length + (if([]:List Keyword).isEmpty then 0 else 1) < 30))=true:=by rfl) (hline:(apos.endLine==cpos.line)=true:=by rfl) (hs:starEach (e::es) X.env=(false,eval e X.env)::starEach es X.env:=by rfl) (hplain:(backTo cpos (starEach es X.env)).any (·.1)=false:=by rfl):JE X (.Call (.Attribute o "append" apos) (e::es) [] cpos) (eAppend f ga):=⟨zbgs ho.out ha.out hbase hfew hline hs hplain⟩
end
section
theorem zdw {apos:Pos}(ho:JE X o f)(ha:JA X (e::es) ga)(hbase:attributeBase o "extend" X.env (eval o X.env)=eval o X.env:=by rfl)(hfew:((backTo cpos (starEach (e::es) X.env)).all (λx=>!x.1)&&(backToKw cpos (keywordEach [] X.env)).all (λx=>x.1.isSome)
 && decide ((e::es).length + ([]:List Keyword).length + (if([]:List Keyword).isEmpty then 0 else 1) < 30))=true:=by rfl) (hline:(apos.endLine==cpos.line)=true:=by rfl) (hs:starEach (e::es) X.env=(false,eval e X.env)::starEach es X.env:=by rfl) (hplain:(backTo cpos (starEach es X.env)).any (·.1)=false:=by rfl):JE X (.Call (.Attribute o "extend" apos) (e::es) [] cpos) (eExtend f ga):=⟨zbgp ho.out ha.out hbase hfew hline hs hplain⟩
end
section
end
section
end
section
theorem zsz (ho:JE X o f):JE X o (eFz f):=⟨d_fz ho.out⟩
end
section
theorem zy :JB X [] sNx:=⟨zbrf⟩
end
section
end
section
theorem zbai :JS X (.Break pos) sBrk:=⟨zbgi⟩
end
section
end
section
theorem zi (he:JE X e f):JS X (.Return (some e) pos) (sRet f):=⟨zbrd he.out⟩
end
section
end
section
theorem zbl {pos:Pos}(he:JE X e f)(hs:swapsWith e none pos.line X.env=pure false:=by rfl):JS X (.Expr e pos) (sDrop f):=⟨zbln he.out hs⟩
end
section
theorem zbcu {X:Cx}{pos:Pos}   (hN:X.N.Nodup)(hi:X.N[i]?=some x)(hx:L2.Loc X.env.scope x)(he:JE X e f)(hs:swapsWith e (some (.Name x pos')) pos.line X.env=pure false:=by rfl)(hf:X.fn x=true\/X.env.scope.names.lookup x=some .local:=by first | exact .inl rfl | exact .inr rfl | assumption):JS X (.Assign [.Name x pos'] e pos) (aF i f):=⟨zbrc hN hi hx he.out hs hf⟩
end
section
theorem zc (h1:JS X sm s):JB X [sm] s:=⟨zbre h1.out⟩
end
section
section
variable {X:Cx}{sm:Stmt}{rest:List Stmt}{s:SS}{t:SS}
theorem za (h1:JS X sm s)(h2:JB X rest t):JB X (sm::rest) (aD s t):=⟨zblp h1.out h2.out⟩
end
end
section
theorem zbo  (hc:JT X c b)(ha:JB X a' s)(hb:JB X b' t):JS X (.If c a' b' pos) (sIf b s t):=⟨zbuu hc.out ha.out hb.out⟩
end
section
theorem zbcw {X:Cx}      (hN:X.N.Nodup)(hi:X.N[i]?=some x)(hx:L2.Loc X.env.scope x)(he:JE X e f)(ho:PIp X op ti)(hr:IpD X.K g ti)(hf:X.fn x=true\/X.env.scope.names.lookup x=some .local:=by first | exact .inl rfl | exact .inr rfl | assumption):JS X (.AugAssign (.Name x pos') op e pos) (sAug i g f):=⟨zbrh hN hi hx he.out ho hr hf⟩
end
section
theorem zrb {pos:Pos}(he:JE X value h)(ho:JE X o f)(hi:JE X i g)(ha:∀v,assign (.Subscript o i pos') X.env v=(do
 let ov ← holding [v] (eval o X.env)
 let iv ← holding [v,ov] (eval i X.env)
 standAt pos'
 holding [v,ov,iv] (setItem ov iv v)
 release [v,ov,iv] []):=by intro _;rfl) (hs:swapsWithSole [.Subscript o i pos'] value pos.line X.env=pure false:=by rfl) (hw:swappedStores [.Subscript o i pos'] value X.env=pure none:=by rfl) (h1:(assignEach [.Subscript o i pos'] X.env).map (·.2)=[assign (.Subscript o i pos') X.env]:=by rfl):JS X (.Assign [.Subscript o i pos'] value pos) (sSetIx f g h):=⟨zbgf he.out ho.out hi.out ha hs hw h1⟩
end
section
theorem zbq {X:Cx}   (hN:X.N.Nodup)(hi:X.N[i]?=some x)(hx:L2.Loc X.env.scope x)(hf:X.fn x=true\/X.env.scope.names.lookup x=some .local:=by first | exact .inl rfl | exact .inr rfl | assumption):JG X (.Name x pos) (gN i):=⟨zbly hN hi hx hf⟩
end
section
theorem zcu :JGs X [] gsNil:=⟨zblx⟩
end
section
theorem zq (h1:JG X e t)(h2:JGs X es u)(hs:(assignEach (e::es) X.env).map (·.2)=assign e X.env::(assignEach es X.env).map (·.2):=by rfl):JGs X (e::es) (gsCons t u):=⟨zbgm h1.out h2.out hs⟩
end
section
theorem zen {X:Cx}   (hc:X.calm=true)(h:JGs X es u)(hn:(assignEach es X.env).length=n:=by rfl)(hst:(assignEach es X.env).findIdx? (·.1)=none:=by rfl):JG X (.Tuple es k pos) (gT n u):=⟨zbrk hc h.out hn hst⟩
end
section
theorem zba (hl:JE X l f):JI X tg l (aH f):=⟨zbrj hl.out⟩
end
section
theorem zbr (hg:Gl X "range")(hm:X.mg "range"=none)(ha:JA X [a] g)(hs:starEach [a] X.env=[(false,eval a X.env)]:=by rfl):JI X tg (.Call (.Name "range" p) [a] [] pos) (iR1 g):=⟨zbak hg hm ha.out hs⟩
end
section
theorem zvz (hg:Gl X "range")(hm:X.mg "range"=none)(ha:JA X [a,b] g)(hs:starEach [a,b] X.env=[(false,eval a X.env),(false,eval b X.env)]:=by rfl)(hs2:starEach [b] X.env=[(false,eval b X.env)]:=by rfl):JI X tg (.Call (.Name "range" p) [a,b] [] pos) (iR2 g):=⟨zbaj hg hm ha.out hs hs2⟩
end
section
theorem zbgl (hl:JE X l f):JI X tg l (iDict f):=⟨zblw hl.out⟩
end
section
theorem zbcv {X:Cx}(hp:PassesOwn (model X.prog X.w) X.A X.env X.xe)(hc:X.calm=true)(hi:JI X tg iter it)(hg:JG X tg bd)(hb:JB X body b)(hs:∀x,foldedSetIterable iter X.env x=pure x:=by intro _;rfl):JS X (.For tg iter body [] pos) (sFor it bd b):=⟨zbrg hp hc hi.out hg.out hb.out hs⟩
end
section
theorem zgk {X:Cx}(hp:PassesOwn (model X.prog X.w) X.A X.env X.xe)(hc:JT X c t)(hb:JB X body b):JS X (.While c body [] pos) (sWhile t b):=⟨zbge hp hc.out hb.out⟩
end
section
theorem zeo {X:Cx}{N:List Str}(hcalm:X.calm=true)(hi:JI X tg iter it)(hg:∀cl C fp s H,JG (cxC X N scope cl C fp s H) tg bd)(hc:∀cl C fp s H,JIf (cxC X N scope cl C fp s H) ifs c)(he:∀cl C fp s H,JE (cxC X N scope cl C fp s H) elt f)(S:CompScope X N k is scope)(hs:∀x,foldedSetIterable iter X.env x=pure x:=by intro _;rfl):JE X (.ListComp elt [⟨tg,iter,ifs,0⟩] scope pos) (aG it k is bd c f):=⟨zbrs hcalm hi.out (λcl C fp s H=>(hg cl C fp s H).out) (λcl C fp s H=>(hc cl C fp s H).out) (λcl C fp s H=>(he cl C fp s H).out) S hs⟩
end
section
end
section
theorem zjn :JIf X [] aI:=⟨zblu⟩
end
section
theorem zhf    (h:JT X c t):JIf X [c] t:=⟨zblt h.out⟩
end
section
theorem zbcz {X:Cx}(c:CalD X.prog X.w X.K X.mg X.base x k ps F)(hn:∀ ds au v st', F ds au=.ok v st'->ds.length=ps.length)(hr:Room k X.A)(hg:Gl X x)(ha:JA X (e::es) g)(hdb:(x==("__debug__" : Str))=false:=by decide)(he:starEach (e::es) X.env=(false,eval e X.env)::starEach es X.env:=by rfl)(hpl:(backTo pos (starEach es X.env)).any (·.1)=false:=by rfl):JE X (.Call (.Name x p) (e::es) [] pos) (aE F g):=⟨zbrt c hn hr hg ha.out hdb he hpl⟩
end
section
theorem zwr {P:Program}{w:World}{K:Fg}{mg:Str->Option Value}{base h:Heap}{x:Str}{au:Stmt}{N ps:List Str}{k:Nat}{b:SS}(T:TopF K x au)(X:K.In h)(G:h.Ns mainGlobals mg)(S:FnScope N ps (defScope au))(bd:∀(kV doc pm:Value) (an:Option Addr) (cdv ct:Value) (us:List Value),us.length=ps.length->bindArgs (W.fnOf x x (defArgs au) (defBody au) (defScope au) .none kV doc pm an cdv ct) ⟨us,[]⟩=pure (ps.zip us))(hbody:∀(f:Addr) (cdv:Value) (A:Around) (outer:List Env) (s:Shared) (H:Hp) (E:XK),Room k (A.deeper (envOfC x (defScope au) s.heap.objs.size f cdv)) ->
 JB (cxOf CX0 P w K mg base N x (defScope au) f cdv A outer s H E).nox (defBody au) b):CalD P w K mg base x (k+1) ps (fnD N.length ps.length b):=zbms T X G S bd (λf cdv A outer s H E rr=>(hbody f cdv A outer s H E rr).out)
end
section
theorem zbks {P:Program}{w:World}{K:Fg}{mg:Str->Option Value}{base:Heap}{au:Stmt}{N ps:List Str}{k:Nat}{b:SS}{f:Addr}{fd:FuncData}(F:Fun K "law" "law" au f fd)(S:FnScope N ps (defScope au))(hp:ps.length=1)(hbody:∀(cdv:Value) (A:Around) (outer:List Env) (s:Shared) (H:Hp) (E:XK),Room k (A.deeper (envOfC "law" (defScope au) s.heap.objs.size f cdv)) ->
 JB (cxOf CX0 P w K mg base N "law" (defScope au) f cdv A outer s H E).nox (defBody au) b) (holds:∀ ns:List Int,ns.length<=63->∃ st', fnD N.length 1 b [.scr (ns.map .int)] []=.ok (.bl true) st'):FnOk P w K mg base CX0 (k + 1) f fd ps (spLaw K):=zbpz F S hp (λcdv A outer s H E rr=>(hbody cdv A outer s H E rr).out) holds
end
section
end
section
end
section
end
section
theorem zih :JS X sm sStuck:=⟨zbgg⟩
end
section
theorem zbk (h:JE X a f)(he:∀whole,isTrue a X.env whole=(do let v ← whole;standAt a.pos;holding [v] (truthy v)):=by intro _;rfl):JT X a (eTru f):=⟨zbqz h.out he⟩
end
section
end
section
end
section
end
section
theorem ze      (ha:JE X e f)(hr:JA X es g)(hp:plainE e=true:=by rfl):JA X (e::es) (aB f g):=⟨zbgn ha.out hr.out hp⟩
end
section
theorem zblv (hg:Gl X "zip")(hm:X.mg "zip"=none)(ha:JA X [a,b] g)(hs:starEach [a,b] X.env=[(false,eval a X.env),(false,eval b X.env)]:=by rfl)(hs2:starEach [b] X.env=[(false,eval b X.env)]:=by rfl):JI X (.Tuple elts k tpos) (.Call (.Name "zip" p) [a,b] [] pos) (iZipT g):=⟨zbri hg hm ha.out hs hs2⟩
end
section
end
end Dd
namespace L2
open PySem PySem.Spec PyProof.Rows
section
noncomputable def Kept (P:Nat->Value->Prop) (bt:Nat->Nat->Bool):Nat->Array Value->Prop
 | 0,xs=>xs=#[]
 | j+1,xs=>∃v,xs=#[v,v]/\P (argBest bt j) v
section
variable {prog:Program}{w:World}{A:Around}{R:Result->Shared->Prop}{I:Addr}{fp:List Addr}{wr:List Addr}{n:Nat}{P:Nat->Value->Prop}{St:Nat->Heap->Prop}
theorem zzo (W:Walks prog w A.in1 I fp wr n P St)(bt:Nat->Nat->Bool)(hcmp:CmpOf prog w A.in1 .Gt P bt)(S:Addr)(hSf:S∉fp)(d:Value) :
  ∀(k j:Nat) (s:Shared) (xs:Array Value) (c:Nat),j+k=n->St j s.heap->Kept P bt j xs ->
  s.heap.get? S=some { cls:=.type "list", dict:=none,data:=.seq xs c,slots:=#[] } ->
  (∀v h' tk,(n=0/\v=d\/0 < n/\P (argBest bt (n - 1)) v)->(∀b o,b∉wr->b≠S->s.heap.get? b=some o->h'.get? b=some o)->R (.ok (.ret v)) {s with heap:=h',toks:=tk}) ->
  codeAny (model prog w) A (.builtin "max.loop" ⟨[.ref I,.none,.ref S],[(Str.ofString "default", d)]⟩) R s:=by
 have nm:(toString "max"++toString ".loop" : String)="max.loop":=by decide
 have out:S∉wr:=λh=>hSf (W.sub _ h)
 intro k
 induction k with
 | zero =>
  intro j s xs c hj hst hk hS fin;have hj:j=n:=by lia
  subst hj;refine xje F.entry_max_loop ?_;rw[xia xii _];refine xba (xie hS rfl (xba (wpAny_tryCatch (W.done s _ _ hst λh' tk keep=>?_))));cases j with
  | zero =>
   subst hk;exact xba (xhh (xbd (fin d _ _ (.inl ⟨rfl,rfl⟩) λb o h1 _ e=>keep b o h1 e)))
  | succ j =>
   obtain⟨v,rfl,hv⟩:=hk;refine xba (wpAny_updateSeq (keep S _ out hS) rfl (xba (xkc (xbd ?_))));exact fin v _ _ (.inr ⟨Nat.succ_pos _,hv⟩) λb o h1 h2 e=>(xhd _ _ (xcx h2)).trans (keep b o h1 e)
 | succ k ih =>
  intro j s xs c hj hst hk hS fin;refine xje F.entry_max_loop ?_;rw[xia xii _];refine xba (xie hS rfl (xba (wpAny_tryCatch (W.item j s _ _ (by lia) hst λv h' tk hP hst' keep=>?_))));have hS':=keep S _ out hS;have go:∀(ys:Array Value) (c':Nat) (h2:Heap),Kept P bt (j + 1) ys->h2.get? S=some { cls:=.type "list", dict:=none,data:=.seq ys c', slots:=#[] }->(∀ b,b≠S->h2.get? b=h'.get? b) ->
    codeAny (model prog w) A (.builtin "max.loop" ⟨[.ref I,.none,.ref S],[(Str.ofString "default", d)]⟩) R { s with heap:=h2,toks:=tk }:=λys c' h2 hk2 e2 same =>
   ih (j+1) {s with heap:=h2,toks:=tk} ys c' (by lia) (W.frame _ _ _ hst' λb hb o e=>(same b λz=>hSf (by rw[← z];exact hb)).trans e) hk2 e2
    λv' h3 tk3 q keep3=>fin v' h3 tk3 q λb o b1 b2 e=>keep3 b o b1 b2 ((same b b2).trans (keep b o b1 e))
  cases j with
  | zero =>
   subst hk;refine xba (xbd (xba (wpAny_updateSeq hS' rfl ?_)));rw[nm];exact xbd ⟨xkb xii _,go #[v,v] _ _ ⟨v,rfl,hP⟩ (xed _ hS' rfl) λb hb=>xhd _ _ (xcx hb)⟩
  | succ j =>
   obtain⟨vb,rfl,hv⟩:=hk;refine xba (xbd (xba (wpAny_tryCatch (xeo (xba (hcmp (j+1) (argBest bt j) v vb _ _ _ hP hv (xba (xeo (xgi (xba (xkc (xbd ?_))))))))))));cases hb:bt (j+1) (argBest bt j) with
   | true =>
    rw[if_pos rfl];refine xba (wpAny_updateSeq hS' rfl (xba (xkc ?_)));rw[nm];exact xbd ⟨xkb xii _,go #[v,v] _ _ ⟨v,rfl,by rw[argBest,hb,if_pos rfl];exact hP⟩ (xed _ hS' rfl) λb hb=>xhd _ _ (xcx hb)⟩
   | false =>
    rw[if_neg (by decide)];refine xba (xkc ?_);rw[nm];exact xbd ⟨xkb xii _,go #[vb,vb] _ _ ⟨vb,rfl,by rw[argBest,hb,if_neg (by decide)];exact hv⟩ hS' λb _=>rfl⟩
end
end
theorem zbgu (a d:Value):checkBuiltinCall "max" ⟨[a],[(Str.ofString "default", d)]⟩=pure ():=by kernel_rfl
theorem zbbc (d:Value):Builtin.Builtins.bindParams "max" ["key","default"] 0 ⟨[],[(Str.ofString "default", d)]⟩=pure [none,some d]:=rfl
section
section
variable {prog:Program}{w:World}{A:Around}{E:Value->Shared->Prop}{s:Shared}
theorem zzn {x d:Value}{Q:Value->Shared->Prop}
  (h:wpAny (model prog w) A.in1 (pyIter x) (λit s₂=>∃I fp wr n P St bt,it=.ref I/\Walks prog w A.in1 I fp wr n P St/\St 0 s₂.heap/\(∀b∈fp,b < s₂.heap.objs.size)/\CmpOf prog w A.in1 .Gt P bt /\
   ∀v h' tk,(n=0/\v=d\/0 < n/\P (argBest bt (n - 1)) v)->(∀b o,b∉wr->s₂.heap.get? b=some o->h'.get? b=some o)->Q v {s₂ with heap:=h',toks:=tk}) E s) :
  wpAny (model prog w) A (call (.builtin "max") [x] [(Str.ofString "default", d)]) Q E s:=by
 have nm:(toString "max"++toString ".loop" : String)="max.loop":=by decide
 refine wpAny_call (codeAny_call_builtin F.plain_max F.entry_max ?_);rw[zbgu];refine xbd ?_;refine xba (wpAny_of_eq (zbbc d) (xba (xbd (xba (xfe h (λit s₂ h₂=>?_) λ_ _ e=>e)))));obtain⟨I,fp,wr,n,P,St,bt,rfl,W,hst,low,hcmp,fin⟩:=h₂;refine xba (xel ?_);rw[nm];refine xbd ⟨xkb xii _,zzo W bt hcmp s₂.heap.objs.size (λz=>xgn _ (low _ z)) d n 0 _ #[] _ (by lia) (W.frame _ _ _ hst λb _ o e=>xbf _ e) rfl (xbu _ rfl) λv h' tk q keep=>?_⟩;exact fin v h' tk q λb o hb e=>keep b o hb (xce (xbr e)) (xbf _ e)
end
end
def topI (d:Int):List Int->Int
 | []=>d
 | n::ns=>bestI true n ns
def rMaxD (K:Fg) (d:Int):List V->Hp->VK->Prop:=λxs H Q=>∃(a:Addr) (ns:List Int),xs=[.ref a]/\(SqL K H a (ns.map V.int)\/SqT K H a (ns.map V.int))/\Q (.int (topI d ns)) H
section
theorem zbjk {X:Cx}(hc:X.calm=true)(hg:Gl X "max")(hm:X.mg "max"=none)(ha:PA X [l] t)
  (he:backTo pos (starEach [l] X.env)=(false,eval l X.env)::backTo pos (starEach [] X.env):=by rfl)(hpl:(backTo pos (starEach [l] X.env)).any (·.1)=false:=by rfl) :
  PE X (.Call (.Name "max" p) [l] [⟨some "default", .Constant (.int d) j cpos,kpos⟩] pos) (tCB (rMaxD X.K d) t):=by
 intro aU s σ H Q I h;refine xjb (zno I hg hm PyProof.Rows.boot_max ?_);refine callWith_kw (thn (ha pos aU s σ H _ I h) λus s1 hq0=>?_) he hpl;obtain⟨vs,H1,I1,r1,q1⟩:=hq0;refine kws_cons (wpAny_Constant_int (kws_nil ?_));obtain⟨a,ns,rfl,hs,q⟩:=q1;obtain⟨u,rfl,ru⟩:=vals1 r1;cases ru;have I2:=I1.tok (s1.toks+1);refine zzn (zpy hc I2 hs λI' fp wr P St s2 W au low val keep=>?_);refine⟨I',fp,wr,_,P,St,_,rfl,W,au,low,CmpOf.ints_gt (λi=>ns.getD i 0) val,λv h' tk hP hk=>?_⟩;cases ns with
 | nil =>
  rcases hP with⟨_,rfl⟩ | ⟨z,_⟩
  ·exact⟨.int d,H1,keep h' tk hk,⟨_,rfl⟩,q⟩
  ·exact absurd z (by simp)
 | cons n ns =>
  rcases hP with⟨z,_⟩ | ⟨_,hP⟩
  ·exact absurd z (by simp)
  ·obtain⟨t,rfl⟩:=val _ _ hP;rw[zny (by simp)];exact⟨.int (bestI true n ns),H1,keep h' tk hk,⟨_,rfl⟩,q⟩
end
section
open PySem.AutoSeq1
end
end L2
namespace Dd
open PySem L2
def bMaxD (d:Int):List D->Store->Res D:=λxs au=>match xs with
 | [x]=>match (seqOf au x).bind asInts with
  | some ns=>.ok (.int (topI d ns)) au
  | none=>.stuck
 | _=>.stuck
theorem zbna {K:Fg} :CaD K (bMaxD d) (rMaxD K d):=λρ H au xs us z st' Q rp aa e q=>by
 unfold bMaxD at e;split at e
 ·split at e
  ·rename_i ns h;cases e;obtain⟨ys,h0,h⟩:=xek.mp h;obtain⟨u,rfl,a⟩:=aa.one;obtain⟨p,vs,rfl,h1,h2⟩:=zgv rp a h0;have e:=zco h2 h;subst e;exact⟨p,ns,rfl,h1,q _ _ _ (.refl _ _) rp (.int _)⟩
  ·cases e
 ·cases e
section
theorem zbmc {X:Cx}(hc:X.calm=true)(hg:Gl X "max")(hm:X.mg "max"=none)(ha:JA X [l] f)
 (he:backTo pos (starEach [l] X.env)=(false,eval l X.env)::backTo pos (starEach [] X.env):=by rfl)(hpl:(backTo pos (starEach [l] X.env)).any (·.1)=false:=by rfl) :
 JE X (.Call (.Name "max" p) [l] [⟨some "default", .Constant (.int d) j cpos,kpos⟩] pos) (aE (bMaxD d) f):=⟨zgd (zbjk hc hg hm ha.out he hpl) (zbnp zbna)⟩
end
section
end
end Dd
namespace L2
open PySem PySem.Spec PyProof.Rows
section
end
end L2
namespace Dd
open PySem L2 PyProof.Rows
section
end
end Dd
namespace L2
open PySem PySem.Spec PyProof.Rows
def rInX (K:Fg) (neg:Bool):R2:=λx c H Q=>∃d p xs,DAt K H x d/\DAt K H c p/\(p=.tuple xs\/p=.list xs)/\PySem.SeqAt.shaped d=true/\PySem.SeqAt.shaped p=true/\Q (.bl (if neg then !xs.any λy=>PyData.eqv y d else xs.any λy=>PyData.eqv y d)) H
section
theorem zbnz   (h:p=.tuple xs\/p=.list xs)(s:PySem.SeqAt.shaped p=true):PyData.canLayAll0 xs=true/\PyData.depthAll xs<=63:=by
 have:(PyData.canLayAll0 xs&&decide (PyData.depthAll xs+1<=64))=true:=by rcases h with rfl | rfl<;>exact s
 rw[xfv] at this;exact⟨this.1,by have:=xcr this.2;lia⟩
theorem zbbl  (s:PySem.SeqAt.shaped d=true):d.canLay0=true:=by
 unfold PySem.SeqAt.shaped at s;rw[xfv] at s;exact s.1
theorem zbpm {X:Cx}(hu:X.A.units+64 < cLine):OpR X (compareOp .In) (rInX X.K false):=by
 intro aU s σ H x y v u Q I r1 r2 h;obtain⟨d,p,xs,a1,a2,a3,a4,a5,q⟩:=h;obtain⟨as,ra⟩:=zft I a1 r1;obtain⟨bs,rb⟩:=zft I a2 r2;obtain⟨l1,l2⟩:=zbnz a3 a5;have hu':X.A.units+1+min (PyData.depthAll xs) d.depth < cLine:=by have:=xho (PyData.depthAll xs) d.depth;lia
 rcases a3 with rfl | rfl
 ·exact SeqAt.in_tuple_reads rb ra l1 (zbbl a4) hu' ⟨.bl _,H,I,rfl,q⟩
 ·exact SeqAt.in_list_reads rb ra l1 (zbbl a4) hu' ⟨.bl _,H,I,rfl,q⟩
end
section
open PySem.AutoSeq1
variable (l:Addr)(items:Array Value)(n:Nat)(dd:Option Addr)(sl:Array (Option Value))(x:Int)(u:Tok)
end
end L2
namespace Dd
open PySem L2 PyProof.Rows
abbrev oOrI:=oI (λ_ _=>True) λi j=>.int (Builtin.bitOr i j)
abbrev oXorI:=oI (λ_ _=>True) λi j=>.int (Builtin.bitXor i j)
def oInG (neg:Bool) (x c:D) (au:Store):Res D:=match dataOf au x,dataOf au c with
 | some d,some (.tuple xs)=>if PySem.SeqAt.shaped d=true/\PySem.SeqAt.shaped (.tuple xs)=true then .ok (.bl (if neg then !xs.any λy=>PyData.eqv y d else xs.any λy=>PyData.eqv y d)) au else .stuck
 | some d,some (.list xs)=>if PySem.SeqAt.shaped d=true/\PySem.SeqAt.shaped (.list xs)=true then .ok (.bl (if neg then !xs.any λy=>PyData.eqv y d else xs.any λy=>PyData.eqv y d)) au else .stuck
 | _,_=>.stuck
theorem zbuh {K:Fg}{neg:Bool}:OpD K (oInG neg) (rInX K neg):=λρ H au x y u v z st' Q rp a b e q=>by
 unfold oInG at e;split at e
 ·rename_i d xs h1 h2;split at e
  ·rename_i hs;cases e;exact⟨_,_,xs,zfe rp a h1,zfe rp b h2,.inl rfl,hs.1,hs.2,q _ _ _ (.refl _ _) rp (.bl _)⟩
  ·cases e
 ·rename_i d xs h1 h2;split at e
  ·rename_i hs;cases e;exact⟨_,_,xs,zfe rp a h1,zfe rp b h2,.inr rfl,hs.1,hs.2,q _ _ _ (.refl _ _) rp (.bl _)⟩
  ·cases e
 ·cases e
end Dd
namespace L2
open PySem PySem.Spec PyProof.Rows PySem.W
theorem zru {ns:List Int}  (r:Vals (ns.map V.int) us)  (hi:i < ns.length):∃t,us.getD i Value.none=Value.int (ns.getD i 0) t:=by
 have e:(ns.map V.int)[i]?=some (V.int ns[i]):=by rw[xcp,xbe hi];rfl
 obtain⟨u,h1,t,h2⟩:=r.get e;refine⟨t,?_⟩;rw[xbi,h1,xbi,xbe hi];exact h2
theorem zbia {ns:List Int}  (r:Vals (ns.map V.int) us):∀v∈us,∃i t,v=Value.int i t:=λv hv=>by
 obtain⟨i,hi,rfl⟩:=xeh hv;have hl:=r.length;rw[xbb] at hl;obtain⟨t,e⟩:=zru r (i:=i) (by lia);rw[xbi,xbe hi] at e;exact⟨_,t,e⟩
theorem zqh (a b:Int):HT.lexLt [a] [b]=decide (a < b):=by
 by_cases h:a=b
 ·subst h;simp[HT.lexLt]
 ·simp[HT.lexLt,h]
noncomputable abbrev ones (ns:List Int):List (List Int):=ns.map λn=>[n]
theorem zgz {ns:List Int}  (hi:i < ns.length):(ones ns).getD i []=[ns.getD i 0]:=by
 rw[xbi,xcp,xbe hi,xbi,xbe hi]
 rfl
section
theorem zxd {ns:List Int}  (h2:2<=ns.length)(r:Vals (ns.map V.int) us):Srt.Answers P w B (Srt.rank (ones ns)) us sg:=by
 have hl:=r.length;rw[xbb] at hl;refine⟨oneType',λR hR=>?_,λi j C hi hj hC=>?_⟩
 ·exact kas_kind (T:=.type "int") (by lia) (λv hv=>by
   obtain⟨i,t,rfl⟩:=zbia r v hv
   exact Looks.now) (by decide) (by decide) hR
 ·obtain⟨t,e1⟩:=zru r (i:=i) (by lia);obtain⟨t2,e2⟩:=zru r (i:=j) (by lia);unfold kas_ask;rw[e1,e2];rw[Srt.zmw (by rw[xbb];lia) (by rw[xbb];lia),zgz (by lia),zgz (by lia),zqh] at hC;rw[keyLt'_oneType];exact oneLt_int hC
end
theorem zwm {ns:List Int}  (r:Vals (ns.map V.int) us):Srt.Coh (Srt.rank (ones ns)) us:=λi j hi hj e=>by
 have hl:=r.length;rw[xbb] at hl;obtain⟨t,e1⟩:=zru r (i:=i) (by lia);obtain⟨t2,e2⟩:=zru r (i:=j) (by lia);rw[e1,e2] at e;have:ns.getD i 0=ns.getD j 0:=by injection e
 unfold Srt.rank;rw[zgz (by lia),zgz (by lia),this]
theorem zoh {α:Type}{f:α->V}{g:α->Value}:∀{l:List α},(∀a∈l,RelV (f a) (g a))->Vals (l.map f) (l.map g)
 | [],_=>.nil
 | a::l,h=>.cons (h a xbq) (zoh λb hb=>h b (xbo _ hb))
theorem zup {ns:List Int}{us:List Value}(r:Vals (ns.map V.int) us){p:Array Nat}(p1:p.Perm (List.toArray (List.range ns.length)))(p2:Srt.Up (Srt.rank (ones ns)) p ns.length) :
  ∃ms:List Int,ms.Perm ns/\ms.Pairwise (·<=·)/\Vals (ms.map V.int) (Srt.outOf us p).toList:=by
 have hl:=r.length;rw[xbb] at hl;have hps:p.size=ns.length:=by rw[p1.size_eq];simp
 have sm:∀i∈p.toList,i < ns.length:=λi hi=>by
  have h3:=(p1.mem_iff (a:=i)).mp (by rw[← xlm];exact hi);exact xby.mp (List.mem_toArray.mp h3)
 refine⟨p.toList.map λi=>ns.getD i 0,?_,?_,?_⟩
 ·have e1:p.toList.Perm (List.range ns.length):=by
   have:=xfm.mp p1
   simpa using this
  have e2:=e1.map λi=>ns.getD i 0
  have e3:((List.range ns.length).map λi=>ns.getD i 0)=ns:=by
   apply xnc
   ·simp
   ·intro i h1 h2;simp[xbi,h2]
  rw[e3] at e2;exact e2
 ·rw[xfq];intro i j hi hj hij;rw[xle,xle];rw[xbb] at hi hj;have hi':i < p.size:=by simpa using hi
  have hj':j < p.size:=by simpa using hj
  have hu:=p2 i j (xca hij) (by lia);have g:∀k,(hk:k < p.toList.length)->p.getD k 0=p.toList[k]:=λk hk=>by
   have hk':k < p.size:=by simpa using hk
   rw[xcw,xdd hk'];simp
  have si:=sm _ (xda hi);have sj:=sm _ (xda hj);have lk:=Srt.zmw (ks:=ones ns) (i:=p.toList[j]) (j:=p.toList[i]) (by rw[xbb];exact sj) (by rw[xbb];exact si);have hno:Srt.lt (Srt.rank (ones ns)) p.toList[j] p.toList[i]=false:=by
   refine xbz λz=>?_
   unfold Srt.At at hu;rw[g i hi,g j hj] at hu;lia
  rw[hno,zgz sj,zgz si,zqh] at lk;have:=xmn lk.symm;lia
 ·unfold Srt.outOf;rw[xcv];show Vals _ (p.toList.map λi=>us.getD i Value.none);refine zoh λi hi=>?_
  obtain⟨t,e⟩:=zru r (sm i hi);exact⟨t,e⟩
end L2
namespace Dd
open PySem L2 PyProof.Rows
noncomputable def sortI (l:List Int):List Int:=l.mergeSort λa b=>decide (a<=b)
theorem zga (l:List Int):(sortI l).Perm l:=List.mergeSort_perm _ _
theorem zbdw (l:List Int):(sortI l).Pairwise (·<=·):=by
 have:=List.pairwise_mergeSort (le:=λa b:Int=>decide (a<=b)) (λa b c h1 h2=>by simp at *;lia) (λa b=>by simp;lia) l;exact this.imp λh=>by simpa using h
theorem zts {a:List Int}(p:a.Perm b)(h:a.Pairwise (·<=·)):a=sortI b :=
 (p.trans (zga b).symm).eq_of_pairwise (λx y _ _ h1 h2=>by lia) h (zbdw b)
end Dd
namespace L2
open PySem PySem.Spec PyProof.Rows
end L2
namespace Dd
open PySem L2 PyProof.Rows
section
end
end Dd
namespace Dd
variable {α:Type}
section
variable {motive:List α->Prop}
@[elab_as_elim] theorem len0 (us:List α) (hl:us.length=0) (h:motive []):motive us:=by rw[List.eq_nil_of_length_eq_zero hl];exact h
@[elab_as_elim] theorem lenS {n:Nat} (us:List α) (hl:us.length=n+1) (h:∀a us,us.length=n->motive (a::us)):motive us:=by
 cases us with
 | nil=>cases hl
 | cons a us=>exact h a us (Nat.succ.inj hl)
@[elab_as_elim] theorem len1 (us:List α) (hl:us.length=1) (h:∀a,motive [a]):motive us:=lenS us hl λa us hl=>len0 us hl (h a)
@[elab_as_elim] theorem len2 (us:List α) (hl:us.length=2) (h:∀a b,motive [a,b]):motive us:=lenS us hl λa us hl=>len1 us hl (h a)
@[elab_as_elim] theorem len3 (us:List α) (hl:us.length=3) (h:∀a b c,motive [a,b,c]):motive us:=lenS us hl λa us hl=>len2 us hl (h a)
end
end Dd
namespace Dd
open PySem L2
def iterF (s:DFn->DFn):Nat->DFn
 | 0=>λ_ _=>.stuck
 | n+1=>s (iterF s n)
theorem zwq   {K:Fg}     {N:List Str}  (T:TopF K x au)(X:K.In h)(G:h.Ns mainGlobals mg)(S:FnScope N ps (defScope au))
  (bd:∀(kV doc pm:Value) (an:Option Addr) (cdv ct:Value) (us:List Value),us.length=ps.length->bindArgs (W.fnOf x x (defArgs au) (defBody au) (defScope au) .none kV doc pm an cdv ct) ⟨us,[]⟩=pure (ps.zip us)):CalD P w K mg base x (k+1) ps (λ_ _=>.stuck) :=
 zri T X G S bd (λvs H Q E hh=>by obtain⟨ρ,ds,au,v,st',a,rp,e,hl,q⟩:=hh;exact hl) λf cdv A outer s H vs Q E hr hh=>by obtain⟨ρ,ds,au,v,st',a,rp,e,hl,q⟩:=hh;cases e
theorem CalD.iter   {K:Fg}     {L:Nat}  (h0:CalD P w K mg base x L ps (λ_ _=>.stuck))(hl:∀F ds au v st',s F ds au=.ok v st'->ds.length=ps.length)
  (hs:∀F j,L<=j->(∀ds au v st',F ds au=.ok v st'->ds.length=ps.length)->CalD P w K mg base x j ps F->CalD P w K mg base x (j+1) ps (s F)):∀n,CalD P w K mg base x (L+n) ps (iterF s n):=λn=>by
 have key:∀n,(∀ds au v st',iterF s n ds au=.ok v st'->ds.length=ps.length)/\CalD P w K mg base x (L+n) ps (iterF s n):=λn=>by
  induction n with
  | zero=>exact⟨λ_ _ _ _ h=>(by cases h),h0⟩
  | succ n ih=>exact⟨hl _,hs _ _ (xcf _ _) ih.1 ih.2⟩
 exact(key n).2
end Dd
namespace L2
open PySem PySem.Spec PyProof.Rows
end L2
namespace Dd
open PySem L2 PyProof.Rows
end Dd
namespace L2
open PySem PySem.Spec PyProof.Rows
section
end
end L2
namespace Dd
open PySem L2
section
end
end Dd
namespace Dd
open PySem L2 PyProof.Rows
section
end
end Dd
namespace L2
open PySem PySem.Spec PyProof.Rows
end L2
namespace Dd
open PySem L2
section
end
end Dd
namespace L2
open PySem PySem.Spec PyProof.Rows
section
end
end L2
namespace Dd
open PySem L2
section
end
end Dd
namespace L2
open PySem PySem.Spec PyProof.Rows
end L2
namespace Dd
open PySem L2
end Dd
namespace L2
open PySem PySem.Spec PyProof.Rows
section
end
section
end
section
end
section
end
section
end
section
end
section
end
section
end
section
end
section
end
section
end
section
end
end L2
namespace L2
open PySem
namespace St
noncomputable abbrev lt (a b:Nat):Prop:=a < b
theorem zvu (xs:Array Nat)(j:Nat)(mono:∀a b,a<=b->b < xs.size->xs.getD a j<=xs.getD b j):∀(fuel lo hi:Nat),lo<=hi->hi<=xs.size->hi - lo<=fuel->(∀i,i < lo->xs.getD i j < j)->(∀i,hi<=i->i < xs.size->j<=xs.getD i j) ->
  SetTable.below.go xs j fuel lo hi<=xs.size/\(∀i,i < SetTable.below.go xs j fuel lo hi->xs.getD i j < j)/\(∀i,SetTable.below.go xs j fuel lo hi<=i->i < xs.size->j<=xs.getD i j)
 | 0,lo,hi,h1,h2,h3,a,b=>by
  have:lo=hi:=by lia
  subst this;unfold SetTable.below.go;exact⟨h2,a,b⟩
 | fuel+1,lo,hi,h1,h2,h3,a,b=>by
  unfold SetTable.below.go;by_cases c:lo < hi
  ·rw[if_pos c];dsimp only;by_cases d:xs.getD ((lo+hi) / 2) j < j
   ·rw[if_pos d]
    exact zvu xs j mono fuel _ hi (by lia) h2 (by lia) (λi hi'=>by
     have:=mono i ((lo+hi) / 2) (by lia) (by lia)
     lia) b
   ·rw[if_neg d]
    exact zvu xs j mono fuel lo _ (by lia) (by lia) (by lia) a (λi hi' hs=>by
     have:=mono ((lo+hi) / 2) i hi' hs
     lia)
  ·rw[if_neg c];have:lo=hi:=by lia
   subst this;exact⟨h2,a,b⟩
def Up (xs:Array Nat):Prop:=xs.toList.Pairwise lt
theorem zfd (xs:Array Nat)(i d:Nat):xs.getD i d=xs.toList.getD i d:=by
 rw[xcw,xbi,xci]
theorem Up.mono  (h:Up xs)(d a b:Nat)(hab:a<=b)(hb:b < xs.size):xs.getD a d<=xs.getD b d:=by
 rcases xgl a b with c | c
 ·have hb':b < xs.toList.length:=by simpa using hb
  have ha':a < xs.toList.length:=by lia
  rw[zfd,zfd,xbi,xbi,xbe ha',xbe hb'];exact xca (xfq.mp h a b ha' hb' c)
 ·have:a=b:=by lia
  subst this;exact xbg _
theorem zer  (h:Up xs)(j:Nat):SetTable.below xs j<=xs.size/\(∀i,i < SetTable.below xs j->xs.getD i j < j)/\(∀i,SetTable.below xs j<=i->i < xs.size->j<=xs.getD i j) :=
 zvu xs j (h.mono j) xs.size 0 xs.size (by lia) (by lia) (by lia) (λi hi=>absurd hi (by lia)) (λi h1 h2=>absurd h2 (by lia))
theorem znz  (h:Up xs)(j:Nat):∀y∈xs.toList.take (SetTable.below xs j),y < j:=λy hy=>by
 obtain⟨h1,h2,h3⟩:=zer h j;obtain⟨i,hi,rfl⟩:=List.mem_iff_getElem.mp hy;rw[xcz] at hi;have hi':i < xs.toList.length:=by lia
 have:=h2 i (by lia);rw[zfd,xbi,xbe hi'] at this;rw[xmv];exact this
theorem zju  (h:Up xs)(j:Nat):∀y∈xs.toList.drop (SetTable.below xs j),j<=y:=λy hy=>by
 obtain⟨h1,h2,h3⟩:=zer h j;obtain⟨i,hi,rfl⟩:=List.mem_iff_getElem.mp hy;rw[xha] at hi;have hl:xs.toList.length=xs.size:=by simp
 have hi':SetTable.below xs j+i < xs.toList.length:=by lia
 have:=h3 (SetTable.below xs j+i) (by lia) (by lia);rw[zfd,xbi,xbe hi'] at this;rw[xmu];exact this
theorem zbbd  (h:Up xs)  (hj:j∈xs.toList):xs[SetTable.below xs j]?=some j:=by
 have ht:=znz h j;have hd:=zju h j;rw[← xdq (SetTable.below xs j) xs.toList] at hj;rcases xbx.mp hj with hj | hj
 ·exact absurd (ht j hj) (xgn _)
 ·have hp:(xs.toList.drop (SetTable.below xs j)).Pairwise lt:=xgs (xkw _ _) h;have:(xs.toList.drop (SetTable.below xs j))[0]?=some j:=by
   cases e:xs.toList.drop (SetTable.below xs j) with
   | nil=>rw[e] at hj;cases hj
   | cons y l =>
    rw[e] at hj hd hp;rcases xbm.mp hj with rfl | hj
    ·rfl
    ·have h1:=hd y (by simp);have h2:y < j:=(xfa.mp hp).1 j hj;lia
  rw[xfx] at this;rw[← xci]
  simpa using this
theorem zfc {α:Type}(xs:Array α)(p:Nat)(x:α):(SetTable.insertAt xs p x).toList=xs.toList.take p++x::xs.toList.drop p:=by
 unfold SetTable.insertAt;rw[xdr,xfd,xlp,xlp];simp[List.extract];exact xdj (by simp)
theorem Up.insert  (h:Up xs)  (hj:j∉xs.toList):Up (SetTable.insertAt xs (SetTable.below xs j) j):=by
 unfold Up;rw[zfc,xge];refine⟨xgs (xkt _ _) h,xfa.mpr ⟨λy hy=>?_,xgs (xkw _ _) h⟩,λa ha b hb=>?_⟩
 ·have h1:=zju h j y hy;have h2:y≠j:=λe=>hj (e ▸ xhz hy)
  show j < y;lia
 ·have h1:=znz h j a ha;rcases xbm.mp hb with rfl | hb
  ·exact h1
  ·have:=zju h j b hb;show a < b;lia
end St
namespace St
structure Tb (t:SetTable):Prop where
 up:Up t.place
 nd:t.dummies=#[]
 inm:∀y∈t.place.toList,y<=t.mask
 pl:t.plain=true
theorem zvt (j:Nat):SetTable.has #[] j=false:=by
 unfold SetTable.has;simp
theorem Tb.slot  (h:Tb t)(j:Nat):(t.slot j=.empty/\j∉t.place.toList)\/(∃i,t.slot j=.live i)/\j∈t.place.toList:=by
 unfold SetTable.slot;dsimp only;by_cases c:t.place[SetTable.below t.place j]?=some j
 ·right
  rw[if_pos (by rw[c];exact xhc _)];rw[← xci] at c;exact⟨⟨_,rfl⟩,xcb c⟩
 ·left
  rw[if_neg (by simpa using c),h.nd,zvt];exact⟨rfl,λhj=>c (zbbd h.up hj)⟩
noncomputable def iAt (mask:Nat):Nat->Nat->Nat->Nat
 | 0,i,_=>i
 | k+1,i,per=>iAt mask k ((i * 5+1+per / 32) % (mask+1)) (per / 32)
noncomputable def nextP (mask:Nat) (p:SetTable.Probe):SetTable.Probe:={j:=(p.i * 5+1+p.perturb / 32) % (mask+1),more:=SetTable.runEnd mask ((p.i * 5+1+p.perturb / 32) % (mask+1)) - (p.i * 5+1+p.perturb / 32) % (mask+1),i:=(p.i * 5+1+p.perturb / 32) % (mask+1),perturb:=p.perturb / 32,dummy:=p.dummy}
theorem zbhe {t:SetTable}{p:SetTable.Probe}  (h:p.more=m+1):t.advance p={p with j:=p.j+1,more:=m}:=by
 unfold SetTable.advance;rw[if_pos (by lia),h]
 rfl
theorem zbhf {t:SetTable}{p:SetTable.Probe}(h:p.more=0):t.advance p=nextP t.mask p:=by
 unfold SetTable.advance;rw[if_neg (by lia)]
 rfl
theorem window  (g:Tb t)(h:Int):∀(m fuel:Nat) (p:SetTable.Probe),p.more=m->p.dummy=none ->
  (∃j,SetTable.probe.go t (λ_=>h+1) h (fuel+m+1) p=some (.empty j none)/\j∉t.place.toList/\j<=p.j+m) \/
  (p.j∈t.place.toList/\∃p',p'.i=p.i/\p'.perturb=p.perturb/\p'.dummy=none/\SetTable.probe.go t (λ_=>h+1) h (fuel+m+1) p=SetTable.probe.go t (λ_=>h+1) h fuel (nextP t.mask p'))
 | 0,fuel,p,hm,hd=>by
  have e:SetTable.probe.go t (λ_=>h+1) h (fuel+0+1) p=match t.slot p.j with
   | .empty=>some (.empty p.j p.dummy)
   | .dummy=>SetTable.probe.go t (λ_=>h+1) h fuel (t.advance {p with dummy:=some p.j})
   | .live i=>if h+1==h then some (.candidate p.j i (t.advance p)) else SetTable.probe.go t (λ_=>h+1) h fuel (t.advance p):=rfl
  rw[e];rcases g.slot p.j with⟨s1,s2⟩ | ⟨⟨i,s1⟩,s2⟩
  ·rw[s1,hd];exact .inl ⟨p.j,rfl,s2,by lia⟩
  ·rw[s1];dsimp only;rw[if_neg (by simp;lia)];exact .inr ⟨s2,p,rfl,rfl,hd,by rw[zbhf hm]⟩
 | m+1,fuel,p,hm,hd=>by
  have e:SetTable.probe.go t (λ_=>h+1) h (fuel+(m+1)+1) p=match t.slot p.j with
   | .empty=>some (.empty p.j p.dummy)
   | .dummy=>SetTable.probe.go t (λ_=>h+1) h (fuel+(m+1)) (t.advance {p with dummy:=some p.j})
   | .live i=>if h+1==h then some (.candidate p.j i (t.advance p)) else SetTable.probe.go t (λ_=>h+1) h (fuel+(m+1)) (t.advance p):=rfl
  rw[e];rcases g.slot p.j with⟨s1,s2⟩ | ⟨⟨i,s1⟩,s2⟩
  ·rw[s1,hd];exact .inl ⟨p.j,rfl,s2,by lia⟩
  ·rw[s1];dsimp only;rw[if_neg (by simp;lia),zbhe hm,← Nat.add_assoc];rcases window g h m fuel {p with j:=p.j+1,more:=m} rfl hd with⟨j,a,b,c⟩ | ⟨a,p',b⟩
   ·exact .inl ⟨j,a,b,by dsimp only at c;lia⟩
   ·exact .inr ⟨s2,p',b⟩
theorem zqj  (h:i<=mask):i<=SetTable.runEnd mask i/\SetTable.runEnd mask i<=mask/\SetTable.runEnd mask i<=i+9:=by
 unfold SetTable.runEnd;split<;>lia
theorem search  (g:Tb t)(h:Int):∀(L fuel:Nat) (p:SetTable.Probe),10 * L<=fuel->p.j=p.i->p.i<=t.mask->p.more=SetTable.runEnd t.mask p.i - p.i->p.dummy=none->(∃k,k < L/\iAt t.mask k p.i p.perturb∉t.place.toList) ->
  ∃j,SetTable.probe.go t (λ_=>h+1) h fuel p=some (.empty j none)/\j∉t.place.toList/\j<=t.mask
 | 0,_,_,_,_,_,_,_,⟨k,hk,_⟩=>absurd hk (by lia)
 | L+1,fuel,p,hf,hj,hi,hm,hd,⟨k,hk,hk2⟩=>by
  obtain⟨r1,r2,r3⟩:=zqj hi;have ef:fuel=(fuel - p.more - 1)+p.more+1:=by lia
  have w:=window g h p.more (fuel - p.more - 1) p rfl hd;rw[← ef] at w;rcases w with⟨j,a,b,c⟩ | ⟨a,p',b1,b2,b3,b4⟩
  ·exact⟨j,a,b,by lia⟩
  ·rw[b4];cases k with
   | zero=>exact absurd a (by rw[hj];exact hk2)
   | succ k =>
    refine search g h L _ (nextP t.mask p') (by lia) rfl (by unfold nextP;exact xct (xmz _ (by lia))) rfl b3 ⟨k,by lia,?_⟩;unfold nextP;dsimp only;rw[b1,b2];exact hk2
/- the leaps meet all places -/
noncomputable def accI (mask:Nat):Nat->Nat->Nat->Nat->Nat
 | 0,acc,_,_=>acc
 | L+1,acc,i,per=>accI mask L (acc ||| 2 ^ i) ((i * 5+1+per / 32) % (mask+1)) (per / 32)
theorem zbdj (mask j:Nat):∀(L acc i per:Nat),(accI mask L acc i per).testBit j=true->acc.testBit j=true\/∃k,k < L/\iAt mask k i per=j
 | 0,acc,i,per,h=>.inl h
 | L+1,acc,i,per,h=>by
  rcases zbdj mask j L _ _ _ h with h | ⟨k,h1,h2⟩
  ·rw[Nat.testBit_or,xik,Bool.or_eq_true,decide_eq_true_iff] at h;rcases h with h | h
   ·exact .inl h
   ·exact .inr ⟨0,by lia,h⟩
  ·exact .inr ⟨k+1,by lia,h2⟩
def covB (mask h:Nat):Bool:=Nat.beq (accI mask (mask+3) 0 (h % (mask+1)) h) (2 ^ (mask+1) - 1)
theorem cov7:(List.range 64).all (covB 7)=true:=by decide +kernel
theorem cov31:(List.range 64).all (covB 31)=true:=by decide +kernel
theorem cov127:(List.range 64).all (covB 127)=true:=by decide +kernel
noncomputable def MaskOk (m:Nat):Prop:=m=7\/m=31\/m=127
theorem cov  (hm:MaskOk mask)(hh:h < 64)(hj:j<=mask):∃k,k < mask+3/\iAt mask k (h % (mask+1)) h=j:=by
 have c:covB mask h=true:=by
  rcases hm with rfl | rfl | rfl
  ·exact xcu.mp cov7 h (xby.mpr hh)
  ·exact xcu.mp cov31 h (xby.mpr hh)
  ·exact xcu.mp cov127 h (xby.mpr hh)
 have e:=Nat.eq_of_beq_eq_true c;have t:(accI mask (mask+3) 0 (h % (mask+1)) h).testBit j=true:=by
  rw[e,Nat.testBit_two_pow_sub_one];exact xbw (by lia)
 rcases zbdj mask j _ _ _ _ t with z | z
 ·simp at z
 ·exact z
theorem room  (g:Tb t)(h:t.place.size<=t.mask):∃j,j<=t.mask/\j∉t.place.toList:=by
 by_cases c:∃j,j<=t.mask/\j∉t.place.toList
 ·exact c
 ·exfalso
  have hs:List.range (t.mask+1) ⊆ t.place.toList:=λj hj=>by
   by_cases z:j∈t.place.toList
   ·exact z
   ·exact absurd ⟨j,by have:=xby.mp hj;lia,z⟩ c
  have:=xeg (xnf) hs;simp at this;lia
theorem zbae  (g:Tb t)(hm:MaskOk t.mask){h:Nat}(hh:h < 64)(hr:t.place.size<=t.mask):∃j,t.freeSlot (h:Int)=some (j,false)/\j∉t.place.toList/\j<=t.mask:=by
 obtain⟨j0,a1,a2⟩:=room g hr;obtain⟨k,k1,k2⟩:=cov hm hh a1;have hb:SetTable.bits (h:Int)=h:=by
  unfold SetTable.bits;lia
 have s:=search g (h:Int) (t.mask+3) (10 * SetTable.turns t.mask) (t.probeStart (h:Int)) (by unfold SetTable.turns;lia) rfl (by unfold SetTable.probeStart;exact xct (xmz _ (by lia))) rfl rfl ⟨k,k1,by
  show iAt t.mask k (SetTable.bits (h:Int) % (t.mask+1)) (SetTable.bits (h:Int))∉_;rw[hb,k2]
  exact a2⟩
 obtain⟨j,b1,b2,b3⟩:=s;refine⟨j,?_,b2,b3⟩;unfold SetTable.freeSlot SetTable.probe;rw[b1]
 rfl
end St
namespace St
theorem zdk {α:Type}(xs:Array α)(p:Nat)(x:α)(h:p<=xs.size):(SetTable.insertAt xs p x).size=xs.size+1:=by
 have:=congrArg List.length (zfc xs p x);simp at this;lia
theorem zbkr  {es:Array (Int×Value)}{h:Nat}  (g:Tb t)(hm:MaskOk t.mask)(hh:h < 64)(he:t.place.size=es.size)(hr:t.place.size < t.mask) :
  ∃es' t',layNew t es (h:Int) x=(es',t',false,false)/\Tb t'/\t'.mask=t.mask/\t'.led=t.led/\t'.place.size=es'.size/\es'.size=es.size+1/\es'.toList.Perm (((h:Int),x)::es.toList):=by
 obtain⟨j,f1,f2,f3⟩:=zbae g hm hh (by lia);have hb:=(zer g.up j).1;refine⟨SetTable.insertAt es (SetTable.below t.place j) ((h:Int),x),{t with place:=SetTable.insertAt t.place (SetTable.below t.place j) j},?_,?_,rfl,rfl,?_,?_,?_⟩
 ·have e1:t.put j=({t with place:=SetTable.insertAt t.place (SetTable.below t.place j) j},SetTable.below t.place j):=by
   unfold SetTable.put;dsimp only;rw[g.nd,zvt]
   rfl
  have e2:({t with place:=SetTable.insertAt t.place (SetTable.below t.place j) j}:SetTable).fits (SetTable.insertAt es (SetTable.below t.place j) ((h:Int),x)).size=true:=by
   unfold SetTable.fits SetTable.fill;dsimp only;rw[zdk _ _ _ hb,zdk _ _ _ (by lia),g.nd,he];simp;lia
  unfold layNew;rw[f1];dsimp only;rw[e1];dsimp only;unfold SetTable.orStandIn;rw[e2]
  rfl
 ·refine⟨g.up.insert f2,g.nd,λy hy=>?_,g.pl⟩;dsimp only at hy ⊢;rw[zfc] at hy;rcases xbx.mp hy with hy | hy
  ·exact g.inm y (xfj hy)
  ·rcases xbm.mp hy with rfl | hy
   ·exact f3
   ·exact g.inm y (xhz hy)
 ·dsimp only;rw[zdk _ _ _ hb,zdk _ _ _ (by lia),he]
 ·rw[zdk _ _ _ (by lia)]
 ·rw[zfc];refine(xne).trans ?_;rw[xdq]
/- laid anew -/
noncomputable def ownL (owner:Array (Option Nat)) (mask:Nat):List Nat:=(List.range (mask+1)).filterMap λj=>owner.getD j none
structure Ow (mask n:Nat) (owner:Array (Option Nat)):Prop where
 size:owner.size=mask+1
 perm:(ownL owner mask).Perm (List.range n)
theorem zbju   (h:Ow mask n owner)(hn:n<=mask):∃j,j<=mask/\owner.getD j (some 0)=none:=by
 by_cases c:∃j,j<=mask/\owner.getD j (some 0)=none
 ·exact c
 ·exfalso
  have all:∀j∈List.range (mask+1),(owner.getD j none).isSome=true:=λj hj=>by
   have hj:=xby.mp hj;have hlt:j < owner.size:=by rw[h.size];exact hj
   cases e:owner.getD j none with
   | some x=>rfl
   | none =>
    refine absurd ⟨j,by lia,?_⟩ c;rw[xcw,xdd hlt] at e ⊢;exact e
  have hl:(ownL owner mask).length=mask+1:=by
   unfold ownL;have:∀l:List Nat,(∀j∈l,(owner.getD j none).isSome=true)->(l.filterMap λj=>owner.getD j none).length=l.length:=λl=>by
    induction l with
    | nil=>intro _;rfl
    | cons a l ih =>
     intro hl;obtain⟨x,hx⟩:=Option.isSome_iff_exists.mp (hl a (by simp));rw[xdv (f:=λj=>owner.getD j none) hx,xcc,xcc,ih λj hj=>hl j (xbo _ hj)]
   rw[this _ all,xev]
  have:=h.perm.length_eq;rw[hl,xev] at this;lia
theorem zbcm  {owner:Array (Option Nat)}:∀(fuel i per:Nat),i<=mask->(∃k,k < fuel/\owner.getD (iAt mask k i per) (some 0)=none)->∃j,SetTable.layClean.free mask owner fuel i per=some j/\j<=mask/\owner.getD j (some 0)=none
 | 0,_,_,_,⟨k,hk,_⟩=>absurd hk (by lia)
 | fuel+1,i,per,hi,⟨k,hk,hk2⟩=>by
  obtain⟨r1,r2,r3⟩:=zqj hi;unfold SetTable.layClean.free;cases e:(List.range (SetTable.runEnd mask i+1 - i)).find? λk=>(owner.getD (i+k) (some 0)).isNone with
  | some z =>
   have h1:=xnl e;have h2:=xby.mp (xke e);exact⟨i+z,rfl,by lia,by simpa using h1⟩
  | none =>
   dsimp only;have h0:=xiw.mp e 0 (xby.mpr (by lia));cases k with
   | zero =>
    exfalso
    rw[xkj] at h0;have hk2:owner.getD i (some 0)=none:=hk2;rw[hk2] at h0;exact h0 rfl
   | succ k =>
    exact zbcm fuel _ _ (xct (xmz _ (by lia))) ⟨k,by lia,hk2⟩
theorem zlx {α β:Type}{f g:α->Option β}:∀{l:List α},(∀x∈l,f x=g x)->l.filterMap f=l.filterMap g
 | [],_=>rfl
 | a::l,h=>by
  have ih:=zlx (l:=l) λx hx=>h x (xbo _ hx)
  have h1:=h a (by simp);cases e:g a with
  | none=>rw[xeq (h1.trans e),xeq e,ih]
  | some z=>rw[xdv (h1.trans e),xdv e,ih]
theorem zhr (owner:Array (Option Nat)){j n:Nat}(hj:owner.getD j (some 0)=none)(hs:j < owner.size):∀l:List Nat,l.Nodup->j∈l ->
  (l.filterMap λi=>(owner.setIfInBounds j (some n)).getD i none).Perm (n::l.filterMap λi=>owner.getD i none)
 | [],_,h=>by cases h
 | a::l,nd,h=>by
  have gd:∀i,i≠j->(owner.setIfInBounds j (some n)).getD i none=owner.getD i none:=λi hi=>by
   rw[xcw,xcw,xll (xcx hi)]
  have gj:(owner.setIfInBounds j (some n)).getD j none=some n:=by
   rw[xcw,xjy hs]
   rfl
  have g0:owner.getD j none=none:=by
   rw[xcw,xdd hs] at hj ⊢;exact hj
  have nd':=xem.mp nd;by_cases c:a=j
  ·subst c;rw[xdv (f:=λi=>(owner.setIfInBounds a (some n)).getD i none) gj,xeq (f:=λi=>owner.getD i none) g0];have:(l.filterMap λi=>(owner.setIfInBounds a (some n)).getD i none)=l.filterMap λi=>owner.getD i none:=zlx λi hi=>gd i λe=>nd'.1 (e ▸ hi)
   rw[this]
  ·have hl:j∈l:=by
    rcases xbm.mp h with h | h
    ·exact absurd h.symm c
    ·exact h
   have ih:=zhr owner (n:=n) hj hs l nd'.2 hl;cases e:owner.getD a none with
   | none=>rw[xeq (f:=λi=>(owner.setIfInBounds j (some n)).getD i none) (by rw[gd a c];exact e),xeq (f:=λi=>owner.getD i none) e];exact ih
   | some z =>
    rw[xdv (f:=λi=>(owner.setIfInBounds j (some n)).getD i none) (by rw[gd a c];exact e),xdv (f:=λi=>owner.getD i none) e];exact(List.Perm.cons z ih).trans (List.Perm.swap n z _)
theorem Ow.step {mask n:Nat}{owner:Array (Option Nat)}(h:Ow mask n owner)(hm:MaskOk mask){hv:Nat}(hh:hv < 64)(hn:n<=mask) :
  ∃j,SetTable.layClean.free mask owner (SetTable.turns mask) (SetTable.bits (hv:Int) % (mask+1)) (SetTable.bits (hv:Int))=some j/\Ow mask (n+1) (owner.setIfInBounds j (some n)):=by
 have hb:SetTable.bits (hv:Int)=hv:=by
  unfold SetTable.bits;lia
 obtain⟨j0,a1,a2⟩:=zbju h hn;obtain⟨k,k1,k2⟩:=cov hm hh a1;rw[hb];obtain⟨j,f1,f2,f3⟩:=zbcm (owner:=owner) (mask:=mask) (SetTable.turns mask) (hv % (mask+1)) hv (xct (xmz _ (by lia))) ⟨k,by unfold SetTable.turns;lia,by rw[k2];exact a2⟩;refine⟨j,f1,⟨by rw[Array.size_setIfInBounds];exact h.size,?_⟩⟩;have p:=zhr owner (n:=n) f3 (by rw[h.size];lia) (List.range (mask+1)) xnf (xby.mpr (by lia));refine p.trans ((List.Perm.cons n h.perm).trans ?_);rw[xit];exact(List.perm_append_singleton n _).symm
noncomputable def SmallH (h:Int):Prop:=∃n:Nat,n < 64/\h=n
theorem zvl {mask:Nat}(hm:MaskOk mask):∀(l:List Int) (n:Nat) (owner:Array (Option Nat)),Ow mask n owner->(∀h∈l,SmallH h)->n+l.length<=mask ->
  ∃owner',l.foldl (λacc h=>do
   let (owner,k) ← acc
   let j ← SetTable.layClean.free mask owner (SetTable.turns mask) (SetTable.bits h % (mask+1)) (SetTable.bits h)
   pure (owner.setIfInBounds j (some k),k+1)) (some (owner,n))=some (owner',n+l.length)/\Ow mask (n+l.length) owner'
 | [],n,owner,o,_,_=>⟨owner,rfl,o⟩
 | h::l,n,owner,o,hs,hl=>by
  rw[xcc] at hl ⊢;obtain⟨hv,h1,rfl⟩:=hs h (by simp);obtain⟨j,f1,f2⟩:=o.step hm h1 (by lia);obtain⟨o',g1,g2⟩:=zvl hm l (n+1) _ f2 (λx hx=>hs x (xbo _ hx)) (by lia);refine⟨o',?_,by rw[show n+(l.length+1)=n+1+l.length by lia];exact g2⟩;rw[xhq]
  have e:(do
   let (owner,k) ← some (owner,n)
   let j ← SetTable.layClean.free mask owner (SetTable.turns mask) (SetTable.bits (hv:Int) % (mask+1)) (SetTable.bits (hv:Int))
   pure (owner.setIfInBounds j (some k),k+1):Option (Array (Option Nat)×Nat))=some (owner.setIfInBounds j (some n),n+1):=by
   show(SetTable.layClean.free mask owner (SetTable.turns mask) (SetTable.bits (hv:Int) % (mask+1)) (SetTable.bits (hv:Int))).bind _=_;rw[f1]
   rfl
  rw[e,g1,show n+(l.length+1)=n+1+l.length by lia]
theorem ow0 (mask:Nat):Ow mask 0 (Array.replicate (mask+1) none):=by
 refine⟨by simp,?_⟩;unfold ownL;have:(List.range (mask+1)).filterMap (λj=>(Array.replicate (mask+1) (none:Option Nat)).getD j none)=(List.range (mask+1)).filterMap λ_=>(none:Option Nat):=zlx λj _=>by
  rw[xcw,Array.getElem?_replicate];split<;>rfl
 rw[this];have:∀l:List Nat,l.filterMap (λ_=>(none:Option Nat))=[]:=λl=>by induction l<;>simp_all
 rw[this];exact xnq _
theorem zzs  (hm:MaskOk mask){hs:Array Int}(h:∀x∈hs.toList,SmallH x)(hn:hs.size<=mask):∃owner,SetTable.layClean mask hs=some owner/\Ow mask hs.size owner:=by
 obtain⟨o,e,w⟩:=zvl hm hs.toList 0 _ (ow0 mask) h (by simpa using hn);rw[xep] at e w;refine⟨o,?_,by simpa using w⟩;unfold SetTable.layClean;rw[← Array.foldl_toList,e]
 rfl
theorem zvi (owner:Array (Option Nat)):∀l:List Nat,(l.filterMap λj=>(owner.getD j none).map λk=>(j,k)).map (·.1)=l.filter λj=>(owner.getD j none).isSome
 | []=>rfl
 | a::l=>by
  have ih:=zvi owner l;cases e:owner.getD a none with
  | none=>rw[xeq (f:=λj=>(owner.getD j none).map λk=>(j,k)) (by rw[e];rfl),xcy (by rw[e];decide),ih]
  | some z=>rw[xdv (f:=λj=>(owner.getD j none).map λk=>(j,k)) (by rw[e];rfl),xcq (by rw[e];rfl),xbs,ih]
theorem zvh (owner:Array (Option Nat)):∀l:List Nat,(l.filterMap λj=>(owner.getD j none).map λk=>(j,k)).map (·.2)=l.filterMap λj=>owner.getD j none
 | []=>rfl
 | a::l=>by
  have ih:=zvh owner l;cases e:owner.getD a none with
  | none=>rw[xeq (f:=λj=>(owner.getD j none).map λk=>(j,k)) (by rw[e];rfl),xeq (f:=λj=>owner.getD j none) e,ih]
  | some z=>rw[xdv (f:=λj=>(owner.getD j none).map λk=>(j,k)) (by rw[e];rfl),xdv (f:=λj=>owner.getD j none) e,xbs,ih]
theorem zyp {α:Type}(es:List α):(List.range es.length).filterMap (λi=>es[i]?)=es:=by
 induction es with
 | nil=>rfl
 | cons a l ih =>
  rw[xcc,List.range_succ_eq_map,xdv (f:=λi=>(a::l)[i]?) rfl,List.filterMap_map]
  congr 1
theorem relay {t:SetTable}{es:Array (Int×Value)}{wanted:Nat}(g:Tb t)(hh:∀e∈es.toList,SmallH e.1)(hm:MaskOk (SetTable.sizeAbove wanted - 1))(hn:es.size<=SetTable.sizeAbove wanted - 1) :
  ∃es' t',relayAll t es wanted=(es',t',false)/\Tb t'/\t'.mask=SetTable.sizeAbove wanted - 1/\t'.led=t.led/\t'.place.size=es'.size/\es'.size=es.size/\es'.toList.Perm es.toList:=by
 obtain⟨owner,e1,w⟩:=zzs hm (hs:=es.map (·.1)) (λx hx=>by
  rw[Array.toList_map] at hx;obtain⟨e,he,rfl⟩:=xbp.mp hx
  exact hh e he) (by simpa using hn)
 rw[Array.size_map] at w;generalize hmk:SetTable.sizeAbove wanted - 1=mask at e1 w hm hn
 let live:=(List.range (mask+1)).filterMap λj=>(owner.getD j none).map λk=>(j,k)
 have l1:live.map (·.1)=(List.range (mask+1)).filter λj=>(owner.getD j none).isSome:=zvi owner _
 have l2:live.map (·.2)=ownL owner mask:=zvh owner _;have hp:=w.perm;rw[← l2] at hp;have hperm:((live.map (·.2)).filterMap λi=>es[i]?).Perm es.toList:=by
  refine(hp.filterMap _).trans ?_;have:=zyp es.toList;rw[xcd] at this;rw[show(List.range es.size).filterMap (λi=>es[i]?)=es.toList from(zlx λi _=>(xci (xs:=es)).symm).trans this]
 have hlen:((live.map (·.2)).filterMap λi=>es[i]?).length=es.size:=by rw[hperm.length_eq,xcd]
 have hll:live.length=es.size:=by
  have:=hp.length_eq;rw[xbb,xev] at this;exact this
 have er:t.relaid (es.map (·.1)) wanted=some ({mask,place:=(live.map (·.1)).toArray,dummies:=#[],finger:=t.finger,led:=t.led,moves:=t.movedTo mask,plain:=t.plain},(live.map (·.2)).toArray):=by
  unfold SetTable.relaid SetTable.laid;rw[hmk,e1]
  rfl
 refine⟨((live.map (·.2)).filterMap λi=>es[i]?).toArray,{mask,place:=(live.map (·.1)).toArray,dummies:=#[],finger:=t.finger,led:=t.led,moves:=t.movedTo mask,plain:=t.plain},?_,⟨?_,rfl,λy hy=>?_,g.pl⟩,rfl,rfl,?_,?_,?_⟩
 ·unfold relayAll;rw[er];dsimp only;have c1:coversAll (live.map (·.2)).toArray es.size=true:=by
   unfold coversAll;exact List.isPerm_iff.mpr hp
  have c2:(live.map (·.2)).toArray.filterMap (λx=>es[x]?)=((live.map (·.2)).filterMap λi=>es[i]?).toArray:=by simp
  rw[c2,c1];have c3:({mask,place:=(live.map (·.1)).toArray,dummies:=#[],finger:=t.finger,led:=t.led,moves:=t.movedTo mask,plain:=t.plain}:SetTable).fits ((live.map (·.2)).filterMap λi=>es[i]?).toArray.size=true:=by
   unfold SetTable.fits SetTable.fill;dsimp only;rw[xbv,xbv,hlen,xbb,hll];simp;lia
  rw[c3]
  rfl
 ·show(live.map (·.1)).toArray.toList.Pairwise lt;rw[List.toList_toArray,l1];exact xgs List.filter_sublist List.pairwise_lt_range
 ·dsimp only at hy ⊢;rw[l1] at hy;have:=xby.mp (xdy.mp hy).1;lia
 ·dsimp only;rw[xbv,xbv,hlen,xbb,hll]
 ·rw[xbv,hlen]
 ·rw[List.toList_toArray];exact hperm
end St
namespace St
theorem zbex {α:Type}{l:List α}  (h:i < l.length):(l[i]::l.eraseIdx i).Perm l:=by
 rw[List.eraseIdx_eq_take_drop_succ];refine xne.symm.trans ?_;rw[← xfr h,xdq]
theorem zbbp {α:Type}(next:Nat->Nat):∀(fuel k:Nat) (left:List α) (out:Array α),left.length<=fuel->(pickOrder.go next fuel k left out).toList.Perm (out.toList++left)
 | 0,k,left,out,h=>by
  have:left=[]:=xkq.mp (by lia);subst this;unfold pickOrder.go;rw[xdm]
 | fuel+1,k,left,out,h=>by
  unfold pickOrder.go;cases e:left[next k % left.length]? with
  | none =>
   have:left=[]:=by
    cases left with
    | nil=>rfl
    | cons a l =>
     have:=List.getElem?_eq_none_iff.mp e;have:=xmz (next k) (show(a::l).length > 0 by simp);lia
   subst this;dsimp only;rw[xdm]
  | some x =>
   dsimp only;obtain⟨hi,rfl⟩:=xbj.mp e;have ih:=zbbp next fuel (k+1) (left.eraseIdx (next k % left.length)) (out.push left[next k % left.length]) (by rw[List.length_eraseIdx_of_lt hi];lia);refine ih.trans ?_;rw[xfd,xck];exact xgr _ (zbex hi)
theorem zyx {α:Type}(next:Nat->Nat)(xs:Array α):(pickOrder next xs).toList.Perm xs.toList:=by
 unfold pickOrder;exact zbbp next xs.size 0 xs.toList #[] (by simp)
theorem zwx  (h:Up xs)  (hi:i < xs.size):SetTable.below xs (xs.getD i 0+1)=i+1:=by
 obtain⟨h1,h2,h3⟩:=zer h (xs.getD i 0+1);have up:∀a b,a < b->b < xs.size->xs.getD a 0 < xs.getD b 0:=λa b hab hb=>by
  have hb':b < xs.toList.length:=by simpa using hb
  have ha':a < xs.toList.length:=by lia
  rw[zfd,zfd,xbi,xbi,xbe ha',xbe hb'];exact xfq.mp h a b ha' hb' hab
 have dflt:∀a d,a < xs.size->xs.getD a d=xs.getD a 0:=λa d ha=>by
  rw[xcw,xcw,xdd ha]
  rfl
 generalize SetTable.below xs (xs.getD i 0+1)=b at h1 h2 h3;rcases Nat.lt_trichotomy b (i+1) with c | c | c
 ·have:=h3 i (by lia) hi;have e:=dflt i (xs.getD i 0+1) hi;lia
 ·exact c
 ·have:=h2 (i+1) c;have hlt:i+1 < xs.size:=by lia
  have e:=dflt (i+1) (xs.getD i 0+1) hlt;have:=up i (i+1) (by lia) hlt;lia
theorem zww  (h:Up xs):SetTable.below xs 0=0:=by
 obtain⟨h1,h2,h3⟩:=zer h 0;rcases xix (SetTable.below xs 0) with c | c
 ·exact c
 ·exact absurd (h2 0 c) (by lia)
end St
end L2
namespace L2
open PySem PySem.W PyProof.Rows PySem.Spec
namespace St
structure Es (l:List (Int×Value)) (ks:List Nat):Prop where
 all:∀e∈l,∃(n:Nat) (t:Tok),n < 64/\e=((n:Int),Value.int (n:Int) t)
 perm:(l.map (·.1)).Perm (ks.map λ(n:Nat)=>(n:Int))
 nd:ks.Nodup
theorem Es.small   (h:Es l ks):∀k∈ks,k < 64:=λk hk=>by
 have h1:(k:Int)∈l.map (·.1):=h.perm.mem_iff.mpr (xbp.mpr ⟨k,hk,rfl⟩);obtain⟨e,he,e1⟩:=xbp.mp h1;obtain⟨n,t,hn,rfl⟩:=h.all e he;dsimp only at e1;lia
theorem Es.len   (h:Es l ks):l.length=ks.length:=by
 have:=h.perm.length_eq
 simpa using this
theorem Es.few   (h:Es l ks):l.length<=64:=by
 rw[h.len];have:=xeg h.nd (l₂:=List.range 64) λk hk=>xby.mpr (h.small k hk)
 simpa using this
theorem Es.of_perm {l':List (Int×Value)}  (h:Es l ks)(p:l'.Perm l):Es l' ks :=
 ⟨λe he=>h.all e (p.mem_iff.mp he),(p.map _).trans h.perm,h.nd⟩
theorem Es.add   (h:Es l ks)   (hn:n < 64)(no:n∉ks):Es (((n:Int),Value.int (n:Int) t)::l) (n::ks) :=
 ⟨λe he=>by
  rcases xbm.mp he with rfl | he
  ·exact⟨n,t,hn,rfl⟩
  ·exact h.all e he,h.perm.cons _,xem.mpr ⟨no,h.nd⟩⟩
theorem znt {n:Nat}(h:n < 64):hashInt (n:Int)=n:=by
 have e:rawHash (n:Int)=n:=by
  unfold rawHash;have h1:(((n:Int).natAbs:Int) % ((2 ^ 61 - 1:Nat):Int))=n:=by
   rw[Int.natAbs_natCast];exact Int.emod_eq_of_lt (by lia) (by lia)
  rw[h1];dsimp only;have h2:¬ ((n:Int) < 0):=by lia
  rw[if_neg h2];have h3:((n:Int)==-1)=false:=by
   rw[xfo];lia
  rw[h3]
  rfl
 unfold hashInt;rw[e];have h3:((n:Int)==-1)=false:=by
  rw[xfo];lia
 rw[h3]
 rfl
structure Tt (w:World) (es:Array (Int×Value)) (t:SetTable) (ks:List Nat):Prop where
 tb:Tb t
 mo:MaskOk t.mask
 ld:t.led=!w.params.followText "set-order"
 sz:t.place.size=es.size
 room:t.place.size * 5 < t.mask * 3
 el:Es es.toList ks
theorem Tt.fits     (h:Tt w es t ks):t.fits es.size=true:=by
 have:=h.room;have hz:=h.sz;unfold SetTable.fits SetTable.fill;rw[h.tb.nd];simp;lia
theorem Tt.few     (h:Tt w es t ks):es.size<=64:=by
 have:=h.el.few
 simpa using this
theorem Tt.elems     {ks:List Nat}(h:Tt w es t ks):ElemsOf (intKind P w) es.toList:=λe he=>by
 obtain⟨m,t,hm,rfl⟩:=h.el.all e he;exact⟨⟨(m:Int),intKind_is _ _ _ _,(znt hm).symm⟩,rfl⟩
noncomputable def Sn (w:World) (h:Heap) (a:Addr) (ks:List Nat):Prop:=∃ob es ep t,h.get? a=some ob/\ob.ExactSet/\ob.data=.set es ep t/\Tt w es t ks
theorem Sn.kept  {h':Heap}   (x:Sn w h a ks)(k:∀o,h.get? a=some o->h'.get? a=some o):Sn w h' a ks :=
 let ⟨ob,es,ep,t,e,r⟩:=x;⟨ob,es,ep,t,k _ e,r⟩
theorem zble {t:SetTable}  (nd:t.dummies=#[])(mk:MaskOk t.mask)(hm:t.place.size=m+1)(room:m * 5 < t.mask * 3)(few:m+1<=64) :
  (t.tooFull=false/\(m+1) * 5 < t.mask * 3)\/(t.tooFull=true/\MaskOk (SetTable.sizeAbove (SetTable.grown (m+1)) - 1)/\m+1<=SetTable.sizeAbove (SetTable.grown (m+1)) - 1/\(m+1) * 5 < (SetTable.sizeAbove (SetTable.grown (m+1)) - 1) * 3):=by
 have hf:t.fill=m+1:=by
  unfold SetTable.fill;rw[nd,hm]
  rfl
 rcases mk with e | e | e
 ·by_cases c:m=4
  ·subst c
   right
   refine⟨by unfold SetTable.tooFull;rw[hf,e];decide,?_,by decide,by decide⟩;exact .inr (.inl (by decide))
  ·left
   refine⟨?_,by lia⟩;unfold SetTable.tooFull;rw[hf,e];simp;lia
 ·by_cases c:m=18
  ·subst c
   right
   refine⟨by unfold SetTable.tooFull;rw[hf,e];decide,?_,by decide,by decide⟩;exact .inr (.inr (by decide))
  ·left
   refine⟨?_,by lia⟩;unfold SetTable.tooFull;rw[hf,e];simp;lia
 ·left
  refine⟨?_,by lia⟩;unfold SetTable.tooFull;rw[hf,e];simp;lia
theorem zbit {h:Heap}      (ho:h.get? a=some o)(hd:o.data=.set es ep t)(es':Array (Int×Value))(t':SetTable) :
  (h.update a (Obj.putSet es' t')).get? a=some {o with data:=.set es' (ep+1) t'}:=by
 have e:=putSet_of es' t' hd;have g:=xed (Obj.putSet es' t') ho (by rw[e];rfl)
 rwa [e] at g
section
theorem zbsm {s:Shared}{ks:List Nat}{n:Nat}   (hn:n < 64)(S:Sn w s.heap a ks)
  (fin:∀h' b,Heap.SameBut a s.heap h'->Sn w h' a (if n∈ks then ks else n::ks)->Q b {s with heap:=h'}) :
  wpAny (model P w) B (setAddHashed a (.int (n:Int) tok) (hashInt (n:Int))) Q E s:=by
 obtain⟨ob,es,ep,t,ho,hex,hd,T⟩:=id S;have few:=T.few;have hb:es.size < scanBound:=by unfold scanBound;lia
 unfold setAddHashed setAddHashedIn;refine xeo (xba (xkz ho hd T.fits ?_));dsimp only;rw[byScan_of (knd:=intKind P w) (x:=.int (n:Int) tok) rfl hb T.elems,if_pos rfl];unfold setAddByScan;refine xba (xba (xhh (xba (wpAny_setScan_of (knd:=intKind P w) (k:=(n:Int)) (intKind_is _ _ _ _) ho hd T.fits T.elems ?_))));cases hr:List.findIdx? (λe=>(intKind P w).is (n:Int) e.2) es.toList with
 | some j =>
  dsimp only;obtain⟨hj,hp,_⟩:=List.findIdx?_eq_some_iff_getElem.mp hr;obtain⟨m,t2,hm,e⟩:=T.el.all _ (xda hj);rw[e] at hp;have emn:(n:Int)=(m:Int):=(intKind P w).inj _ _ _ hp (intKind_is P w (m:Int) t2);have h1:(n:Int)∈es.toList.map (·.1):=xbp.mpr ⟨_,xda hj,by rw[e];exact emn.symm⟩;obtain⟨k,hk,ek⟩:=xbp.mp (T.el.perm.mem_iff.mp h1);have hin:n∈ks:=by
   have:k=n:=by lia
   exact this ▸ hk
  have f:=fin s.heap false (Heap.SameBut.refl a s.heap);rw[if_pos hin] at f;exact xbd (xbd (f S))
 | none =>
  dsimp only;have no:n∉ks:=λhk=>by
   have h1:(n:Int)∈es.toList.map (·.1):=T.el.perm.mem_iff.mpr (xbp.mpr ⟨n,hk,rfl⟩);obtain⟨e,he,e1⟩:=xbp.mp h1;obtain⟨m,t2,hm,rfl⟩:=T.el.all e he;have z:=List.findIdx?_eq_none_iff.mp hr _ he;dsimp only at e1 z;rw[e1,intKind_is] at z;cases z
  rw[znt hn];obtain⟨es1,t1,e1,tb1,mk1,ld1,sz1,ln1,pm1⟩:=zbkr (x:=Value.int (n:Int) tok) T.tb T.mo hn T.sz (by have:=T.room;lia);have el1:Es es1.toList (n::ks):=(T.el.add (t:=tok) hn no).of_perm pm1;rw[e1];dsimp only;refine xba (xbd ?_);rw[tb1.pl,if_pos rfl,hashByValue_scannable 8 (x:=Value.int (n:Int) tok) rfl];refine xba (xbd ?_);rw[show plainKind (Value.int (n:Int) tok)=true from rfl,if_pos rfl];have few1:es1.size<=64:=by have:=el1.few;simpa using this
  refine xba (wpAny_storeSet_of ho hd ?_ (by rw[xji];lia));have g1:=zbit ho hd es1 t1;have sb1:=xes s.heap a (Obj.putSet es1 t1);have f:=λh' b=>fin h' b
  rw[if_neg no] at f;rcases zble (t:=t1) (m:=es.size) tb1.nd (by rw[mk1];exact T.mo) (by lia) (by have:=T.room;have:=T.sz;rw[mk1];lia) (by lia) with⟨c1,c2⟩ | ⟨c1,c2,c3,c4⟩
  ·rw[c1];refine xbd (xbd (f _ _ sb1 ⟨_,es1,ep+1,t1,g1,hex,rfl,tb1,by rw[mk1];exact T.mo,ld1.trans T.ld,sz1,?_,el1⟩));lia
  ·rw[c1]
   obtain⟨es2,t2,e2,tb2,mk2,ld2,sz2,ln2,pm2⟩:=relay (wanted:=SetTable.grown es1.size) tb1 (λe he=>by
    obtain⟨m,tt,hm,rfl⟩:=el1.all e he
    exact⟨m,hm,rfl⟩) (by rw[ln1];exact c2) (by rw[ln1];exact c3)
   rw[e2];refine xba (xbd ?_);refine xba (wpAny_storeSet_of g1 rfl ?_ (by show es2.size<=_;rw[xji];lia));refine xbd (xbd (f _ _ (sb1.trans (xes _ a _)) ⟨_,es2,ep+1+1,t2,zbit g1 rfl es2 t2,hex,rfl,tb2,by rw[mk2,ln1];exact c2,ld2.trans (ld1.trans T.ld),sz2,?_,el1.of_perm pm2⟩));rw[mk2,ln1];lia
end
end St
namespace St
noncomputable def met:List Nat->List Nat->List Nat
 | [],ks=>ks
 | n::l,ks=>met l (if n∈ks then ks else n::ks)
theorem znm:entryFor table "set.update.loop"=some Builtin.«set.update.loop»:=entryFor_of_tree (by kernel_rfl)
theorem zje:plainId "set.update.loop"=true:=by decide +kernel
section
section
variable {P:Program}{w:World}{B:Around}{R:Result->Shared->Prop}{it:Addr}{fp:List Addr}{wr:List Addr}{G:Array GenState->Array GenState->Prop}{N:Nat}{It:Nat->Value->Prop}{St:Nat->Shared->Prop}
theorem zbby (W:WalksS P w B.in1 it fp wr G N It St)(a:Addr)(na:a∉fp)(ns:List Nat)(hN:ns.length=N)(small:∀n∈ns,n < 64)
  (val:∀i v,It i v->∃t,v=Value.int ((ns.getD i 0:Nat):Int) t):∀(r:List Nat) (i:Nat) (ks:List Nat) (s:Shared),ns.drop i=r->i<=N->St i s->Sn w s.heap a ks ->
   (∀ s', Moved (a::wr) G s s'->Sn w s'.heap a (met r ks)->R (.ok (.ret .none)) s')->codeAny (model P w) B (.builtin "set.update.loop" ⟨[.ref a,.ref it],[]⟩) R s
 | [],i,ks,s,hr,hi,au,S,fin=>by
  have e:i=N:=by
   have:=congrArg List.length hr;simp at this;lia
  subst e;refine xje znm ?_;rw[xia zje _];refine xba (m:=pyNext (.ref it)) (W.done s _ _ au λs' mv=>?_);have aw:a∉wr:=λz=>na (W.sub _ z)
  exact xbd (fin s' (mv.mono λb hb=>xbo _ hb) (S.kept λo e=>mv.heap a o aw e))
 | n::r,i,ks,s,hr,hi,au,S,fin=>by
  have hlt:i < N:=by
   have:=congrArg List.length hr;simp at this;lia
  have hg:ns.getD i 0=n/\n∈ns/\ns.drop (i+1)=r:=by
   have h1:ns[i]?=some n:=by
    have:=congrArg (λl:List Nat=>l[0]?) hr
    simpa using this
   refine⟨by rw[xbi,h1];rfl,xcb h1,?_⟩;rw[← xma,hr]
   rfl
  have aw:a∉wr:=λz=>na (W.sub _ z)
  refine xje znm ?_;rw[xia zje _];refine xba (m:=pyNext (.ref it)) (W.item i s _ _ hlt au λv s' pv st' mv=>?_);obtain⟨t,rfl⟩:=val i v pv;rw[hg.1];refine xba (m:=holding [Value.int (n:Int) t] (setAdd a (.int (n:Int) t))) (xeo ?_);unfold setAdd;refine xeo (xba (wpAny_pyHash_int ?_));refine zbsm (s:={s' with toks:=s'.toks+1}) (small n hg.2.1) (S.kept λo e=>mv.heap a o aw e) λh' b sb S'=>?_
  refine xbd ⟨xkb zje _,zbby W a na ns hN small val r (i+1) _ _ hg.2.2 hlt (W.frame _ s' _ _ st' (xld _) λb hb o e=>?_) S' λs2 mv2 S2=>?_⟩
  ·rw[sb.2 b (λz:b=a=>na (z ▸ hb))];exact e
  ·refine fin s2 (Moved.trans W.gtrans ((mv.mono λb hb=>xbo _ hb).then_heap (xld _) λb o hb e=>?_) mv2) S2;rw[sb.2 b (λz:b=a=>hb (z ▸ xbq))];exact e
end
end
section
noncomputable def newO (w:World):Obj:={ cls:=.type "set", dict:=none,data:=.set #[] 0 (.fresh 0 0 (!w.params.followText "set-order")) }
theorem zbpw {s:Shared}(x:Value){W:Value->Shared->Prop}(fin:W (.ref s.heap.objs.size) {s with heap:=s.heap.push (newO w)}) :
  codeAny (model P w) B (.call (.builtin "set.__new__") ⟨[.type "set", x],[]⟩) (wants W E) s:=by
 refine codeAny_call_builtin_code (xkb F.plain_set_new _) (wpAny_of_eq (F.newCall_set_1 x) (xje F.entry_set_new ?_));rw[xia F.plain_set_new _];have sub:=sub_set_self;unfold Builtin.«set.__new__» Builtin.Frozenset.newClass;obtain⟨hp,g,d,tk,os⟩:=s
 wp_walk
 refine xjx (xbd ?_);simp only[newObj];exact xba (wpAny_alloc (xbd (xbd fin)))
theorem zbpv  {h:Heap}  (e:h.get? a=some (newO w)):Sn w h a [] :=
 ⟨_,#[],0,_,e,⟨rfl,rfl,rfl⟩,rfl,⟨List.Pairwise.nil,rfl,λy hy=>(by cases hy),rfl⟩,.inl rfl,rfl,rfl,(by show 0 * 5 < 7 * 3;decide),⟨λe he=>(by cases he),xnq _,xhb⟩⟩
section
variable {P:Program}{w:World}{B:Around}{E:Value->Shared->Prop}{s:Shared}
theorem zbmr {l:Addr}{its:List Value}{ns:List Nat}{W:Value->Shared->Prop}(hh:B.handled=none)(isl:s.heap.IsList l its.toArray)(iv:IntsAre its (ns.map λ(n:Nat)=>(n:Int)))(small:∀n∈ns,n < 64)
  (fin:∀(h':Heap) (tk:Nat),Sn w h' s.heap.objs.size (met ns [])->(∀b o,s.heap.get? b=some o->h'.get? b=some o)->W (.ref s.heap.objs.size) {s with heap:=h',toks:=tk}) :
  wpAny (model P w) B (call (.type "set") [.ref l]) W E s:=by
 have len:its.length=ns.length:=by simpa using iv.length
 obtain⟨c,tl,hmro⟩:=xij.mro;have hmade:=xij.made;have hsub:=xij.sub;have h1:=xij.notType;have h2:=xij.canCreate;have hct:=F.typeCall_set_1 (.ref l);refine wpAny_call (codeAny_of_tree (show wpAny _ _ (callAny (.type "set") _) _ _ _ from xbd ⟨Code.quiet_builtin _ (by decide +kernel),xje F.entry_type_call ?_⟩))
 rw[Around.under_plain (weight_type_call_type "set" [.ref l] []) rfl]
 repeat (any_goals (first | assumption | wp_step))
 refine xlx (zbpw (w:=w) (.ref l) (E:=E) (W:=λv s1=>v=.ref s.heap.objs.size/\s1={s with heap:=s.heap.push (newO w)}) ⟨rfl,rfl⟩) λr s1 hr=>?_
 match r,hr with
 | .error e,hr=>exact hr
 | .ok (.ret v),hr =>
  obtain⟨rfl,rfl⟩:=hr;have en:(s.heap.push (newO w)).get? s.heap.objs.size=some (newO w):=xbu _ rfl;have ty:Shared.TypeIs { s with heap:=s.heap.push (newO w) } (.ref s.heap.objs.size) "set":=⟨_,en,rfl⟩
  have hli:=xij.init.lookup;have hbi:=xij.init.bind (.ref s.heap.objs.size)
  repeat (any_goals (first | assumption | wp_step))
  refine xlx (codeAny_call_builtin (R:=wants (λv s2=>v=.none/\∃h' tk,s2={s with heap:=h',toks:=tk}/\Sn w h' s.heap.objs.size (met ns [])/\∀b o,s.heap.get? b=some o->h'.get? b=some o) E) xij.init.plain F.entry_set_init (check_set_init_1 ty ?body)) λr2 s2 hr2=>?_
  case body =>
   obtain⟨ol,hol,hcl,nl,hdl⟩:=id isl;obtain⟨oc,od,odt,osl⟩:=ol;simp only at hcl hdl;subst hcl hdl;have hol':(s.heap.push (newO w)).get? l=some { cls:=.type "list", dict:=od,data:=.seq its.toArray nl,slots:=osl }:=xbf _ hol
   have isl':(s.heap.push (newO w)).IsList l its.toArray:=⟨_,hol',rfl,nl,rfl⟩
   have ns1:=F.sub_list_set;have ns2:=F.sub_list_frozenset;have ne:(Value.type "list"==Value.type "dict")=false:=by decide
   unfold Builtin.«set.__init__» noKeywords Builtin.Frozenset.updateFrom;generalize hPI:pyIter=PI
   wp_walk
   subst hPI;have ls:l < s.heap.objs.size:=xbr hol;have z1:(s.heap.push (newO w)).objs.size=s.heap.objs.size+1:=xic ..
   refine xjl isl' (xba (wpAny_runValue ?_))
   refine zbby ((Walks.list (by simp[hh]) _ l (xce (by rw[z1];exact xhw ls)) its.toArray).toS) s.heap.objs.size (λz=>by
    rw[z1] at z;rcases xbm.mp z with z | z
    ·exact xce (xjt _) z
    ·exact xhi ls (xbt.mp z)) ns (by simp[len]) small (λi v hv=>?_) ns 0 [] _ rfl (xdu _) ⟨⟨_,xbu _ rfl,rfl,rfl⟩,isl'.push _⟩ (zbpv (xbf _ en)) λs2 mv S2=>?_
   ·obtain⟨t,e⟩:=IntsAre.int_at iv i v (by simpa using hv);refine⟨t,e.trans ?_⟩
    congr 1
    rw[xbi,xcp,xbi];cases ns[i]?<;>rfl
   ·rw[Moved.eq_with mv];refine xbd (xbd ⟨rfl,s2.heap,s2.toks,rfl,S2,λb o e=>?_⟩);have lt:=xbr e
    exact mv.heap b o (λz=>by
     rw[z1] at z;rcases xbm.mp z with z | z
     ·exact xce lt z
     ·exact xce (xhw lt) (xbt.mp z)) (xbf _ (xbf _ e))
  match r2,hr2 with
  | .error e,hr2=>exact hr2
  | .ok (.ret v),hr2 =>
   obtain⟨rfl,h',tk,rfl,S',keep⟩:=hr2
   repeat (any_goals (first | assumption | wp_step))
   exact fin _ _ S' keep
end
end
end St
namespace St
theorem zbjt:Manifest.owners.lookup (String.ofList ("rotareti_tes".toList).reverse)=some Manifest.sig_set_iterator:=by kernel_rfl
theorem zkp:Slot "set_iterator" "__next__" "set_iterator.__next__":=by
 refine Slot.of (owner:="set_iterator") (n:="__next__") ?_ (by decide +kernel) (by decide +kernel) (by decide +kernel) ?_ ?_
 ·rw[typeLookup_type,builtinLookup_eq_fast]
  kernel_rfl
 ·first
   | exact .inl (by decide +kernel)
   | exact .inr (by decide +kernel)
 ·rw[isSubtype_type]
  kernel_rfl
theorem zva:entryFor table "set_iterator.__next__"=some Builtin.«set_iterator.__next__»:=entryFor_of_tree (by kernel_rfl)
theorem zbbu (a:Value):argsOk "set_iterator.__next__" ⟨[a],[]⟩:=by
 unfold argsOk;rw[signature?_of (id:="set_iterator.__next__") (n:="__txen__".toList) (o:="rotareti_tes".toList) (by kernel_rfl) zbjt]
 kernel_rfl
theorem zbbk:Slot "set_iterator" "__iter__" "set_iterator.__iter__":=by
 refine Slot.of (owner:="set_iterator") (n:="__iter__") ?_ (by decide +kernel) (by decide +kernel) (by decide +kernel) ?_ ?_
 ·rw[typeLookup_type,builtinLookup_eq_fast]
  kernel_rfl
 ·first
   | exact .inl (by decide +kernel)
   | exact .inr (by decide +kernel)
 ·rw[isSubtype_type]
  kernel_rfl
theorem zbdx:entryFor table "set_iterator.__iter__"=some Builtin.«dict_keyiterator.__iter__» :=
 entryFor_alias (id':="dict_keyiterator.__iter__") (by kernel_rfl) rfl (by decide +kernel) (by kernel_rfl)
theorem zbin (a:Value):argsOk "set_iterator.__iter__" ⟨[a],[]⟩:=by
 unfold argsOk;rw[signature?_of (id:="set_iterator.__iter__") (n:="__reti__".toList) (o:="rotareti_tes".toList) (by kernel_rfl) zbjt]
 kernel_rfl
theorem zbft:entryFor table "set.__iter__"=some Builtin.«frozenset.__iter__» :=
 entryFor_alias (id':="frozenset.__iter__") (by kernel_rfl) rfl (by decide +kernel) (by kernel_rfl)
noncomputable def At (h:Heap) (a:Addr) (es:Array (Int×Value)) (ep:Nat) (t:SetTable):Prop:=∃ob,h.get? a=some ob/\ob.ExactSet/\ob.data=.set es ep t
theorem At.kept {h':Heap}     (x:At h a es ep t)(k:∀o,h.get? a=some o->h'.get? a=some o):At h' a es ep t :=
 let ⟨ob,e,r⟩:=x;⟨ob,k _ e,r⟩
theorem At.is {s:Shared}     (x:At s.heap a es ep t):s.TypeIs (.ref a) "set":=let ⟨ob,e,c,_⟩:=x; ⟨ob,e,c.1⟩
theorem At.lt      (x:At h a es ep t):a < h.objs.size:=let ⟨_,e,_⟩:=x;xbr e
noncomputable def ord (w:World) (a:Addr) (es:Array (Int×Value)) (ep:Nat):Array (Int×Value):=if w.params.followText "set-order"=true then pickOrder (w.params.setOrder a ep) es else es
theorem zuq (w:World)(a:Addr)(es:Array (Int×Value))(ep:Nat):(ord w a es ep).toList.Perm es.toList:=by
 unfold ord;split
 ·exact zyx _ _
 ·exact xnq _
theorem zlh (w:World)(a:Addr)(es:Array (Int×Value))(ep:Nat):(ord w a es ep).size=es.size:=by
 have:=(zuq w a es ep).length_eq
 simpa using this
noncomputable def slotAt (w:World) (t:SetTable):Nat->Nat
 | 0=>0
 | i + 1=>if w.params.followText "set-order"=true then 0 else t.place.getD i 0 + 1
theorem zqg {w:World}(h:w.params.followText "set-order"=true)(t:SetTable):∀ i,slotAt w t i=0
 | 0=>rfl
 | i+1=>if_pos h
theorem ztv {w:World}(h:¬ w.params.followText "set-order"=true)(t:SetTable)(i:Nat):slotAt w t (i + 1)=t.place.getD i 0 + 1:=if_neg h
theorem ztw {w:World}(h:¬ w.params.followText "set-order"=true){t:SetTable}(up:Up t.place):∀ i,i<=t.place.size->SetTable.below t.place (slotAt w t i)=i
 | 0,_=>zww up
 | i+1,hi=>by rw[ztv h];exact zwx up (by lia)
section
theorem zbbv {s:Shared}   (x:At s.heap a es ep t)(T:Tt w es t ks)(hi:i<=es.size)(fin:Q (((ord w a es ep)[i]?).map λe=>(e.2,slotAt w t (i+1))) s) :
  wpAny (model P w) B (setNext a (slotAt w t i) i ep) Q E s:=by
 obtain⟨ob,ho,hex,hd⟩:=x;unfold setNext setsByText;refine xba (xkz ho hd T.fits ?_);dsimp only;refine xba (xba (xjx (xbd ?_)));show wpAny _ _ (if w.params.followText "set-order"=true then _ else _) _ _ _
 by_cases hb:w.params.followText "set-order"=true
 ·rw[zqg hb] at fin;rw[if_pos hb,if_neg (by simp),zqg hb];unfold setWalk setsByText;refine xba (xba (xkz ho hd T.fits ?_));dsimp only;refine xba (xba (xjx (xbd ?_)));show wpAny _ _ (if w.params.followText "set-order"=true then _ else _) _ _ _
  rw[if_pos hb];refine xba (xjx (xbd (xbd ?_)));unfold ord at fin;rw[if_pos hb] at fin;exact fin
 ·rw[if_neg hb];have hl:t.led=true:=by rw[T.ld];simpa using hb
  have sz:=T.sz;refine xkg (λz=>?_) (λ_=>?_)
  ·change (!t.plain&&_)=true at z
   rw[T.tb.pl] at z;cases z
  refine xba (xkg (λz=>?_) (λ_=>xbd ?_))
  ·change (!t.led&&_)=true at z
   rw[hl] at z;cases z
  rw[ztw hb T.tb.up i (by lia)];unfold ord at fin;rw[if_neg hb,ztv hb] at fin;by_cases c:i < es.size
  ·rw[xdd c] at fin ⊢;have c2:i < t.place.size:=by lia
   rw[xdd c2];have e2:t.place.getD i 0=t.place[i]:=by
    rw[xcw,xdd c2]
    rfl
   rw[e2] at fin;exact xbd fin
  ·rw[xlb (by lia)] at fin ⊢;exact xbd fin
def ItAt (w:World) (h:Heap) (it a:Addr) (i n ep:Nat) (t:SetTable):Prop:=∃ o,h.get? it=some o/\o.cls=.type "set_iterator"/\o.data=.fields #[.int (slotAt w t i:Nat) 0,.int i 0,.ref a,.int n 0,.int ep 0]
theorem ItAt.kept {h':Heap}  (x:ItAt w h it a i n ep t)(k:∀o,h.get? it=some o->h'.get? it=some o):ItAt w h' it a i n ep t :=
 let ⟨o,e,r⟩:=x;⟨o,k _ e,r⟩
theorem ItAt.is {s:Shared}  (x:ItAt w s.heap it a i n ep t):s.TypeIs (.ref it) "set_iterator":=let ⟨o,e,c,_⟩:=x; ⟨o,e,c⟩
noncomputable def itO (a:Addr) (n ep:Nat):Obj:={ cls:=.type "set_iterator", data:=.fields #[.int 0 0,.int 0 0,.ref a,.int n 0,.int ep 0] }
theorem zbku {s:Shared}{W:Value->Shared->Prop}(x:At s.heap a es ep t)(T:Tt w es t ks)(fin:W (.ref s.heap.objs.size) {s with heap:=s.heap.push (itO a es.size ep)}):wpAny (model P w) B (pyIter (.ref a)) W E s:=by
 obtain⟨ob,ho,hex,hd⟩:=id x;refine xmx x.is F.slot_set_iter (xej F.slot_set_iter x.is zbft ?body (F.args_set_iter_1 _))
 case body =>
  unfold Builtin.«frozenset.__iter__» Builtin.Frozenset.sizeOf;refine xba (m:=Builtin.Frozenset.slot0 "__iter__" _) (xbd (xba (xba (xlz ho hd T.fits (xbd ?_)))))
  unfold setDrawn setsByText;refine xba (xba (xkz ho hd T.fits ?_));dsimp only;refine xba (xba (xjx (xbd (xbd ?_))));refine xkg (λz=>?_) (λ_=>xba (xbd ?_))
  ·change (_&&(!t.plain&&_))=true at z
   rw[T.tb.pl] at z;simp at z
  refine xba (wpAny_setEpoch_of ho hd T.fits ?_);unfold newFields;exact xba (xel (xbd ⟨_,rfl, "set_iterator", _,⟨_,xbu _ rfl,rfl⟩,zkp.lookup,fin⟩))
theorem zbok  {h:Heap}  {o:Obj}{i n ep:Nat}  (ho:h.get? it=some o)(hc:o.cls=.type "set_iterator")(hd:o.data=.fields #[.int (slotAt w t i:Nat) 0,.int i 0,.ref a,.int n 0,.int ep 0]) :
  ItAt w ((h.update it (Obj.mapFields (·.setIfInBounds 0 (rawInt (slotAt w t (i+1):Nat))))).update it (Obj.mapFields (·.setIfInBounds 1 (rawInt ((i:Int)+1))))) it a (i+1) n ep t:=by
 have d1:=xgq hd (·.setIfInBounds 0 (rawInt (slotAt w t (i+1):Nat)));have g1:=xed _ ho (xhn d1);have d2:=xgq d1 (·.setIfInBounds 1 (rawInt ((i:Int)+1)));refine⟨_,xed _ g1 (xhn d2),(xku ..).trans ((xku ..).trans hc),?_⟩;rw[d2];simp[rawInt]
theorem zbkv {s:Shared}   {W:Option Value->Shared->Prop}(x:At s.heap a es ep t)(T:Tt w es t ks)(hi:ItAt w s.heap it a i es.size ep t)(he:(ord w a es ep)[i]?=some e)
  (fin:∀g:Heap,ItAt w g it a (i+1) es.size ep t->Heap.SameBut it s.heap g->W (some e.2) {s with heap:=g}):wpAny (model P w) B (pyNext (.ref it)) W E s:=by
 obtain⟨oi,ei,ci,di⟩:=id hi;obtain⟨ob,ho,hex,hd⟩:=id x;have lt:i < es.size:=by
  have:=(xmq.mp he).1
  rwa [zlh] at this
 unfold pyNext;refine xba (xka (wpAny_callSpecial?_slot (name:=Str.ofString "__next__") hi.is zkp (xej zkp hi.is zva ?body (zbbu _))))
 case body =>
  refine xba (m:=slotArgs "__next__" 0 _) (xbd (xba (xmd ei di ?_)))
  refine xba (xlz ho hd T.fits ?_);rw[if_neg (by simp)];refine xba (m:=setNext a (slotAt w t i) i ep) (zbbv x T (xca lt) ?_);rw[he];dsimp only[Option.map];refine xba (xid ei di (by simp) ?_);have d1:=xgq di (·.setIfInBounds 0 (rawInt (slotAt w t (i+1):Nat)));have g1:=xed _ ei (xhn d1);refine xba (xid g1 d1 (by simp) ?_);exact xbd ⟨_,rfl,xbd (fin _ (zbok ei ci di) ((xes ..).trans (xes ..)))⟩
theorem zbqr {B:Around}{s:Shared}  {W:Option Value->Shared->Prop}(hh:B.handled=none)(x:At s.heap a es ep t)(T:Tt w es t ks)(hi:ItAt w s.heap it a i es.size ep t)(he:i=es.size)
  (fin:∀g:Heap,Heap.ExtBut it s.heap g->W none {s with heap:=g}):wpAny (model P w) B (pyNext (.ref it)) W E s:=by
 obtain⟨oi,ei,ci,di⟩:=id hi;obtain⟨ob,ho,hex,hd⟩:=id x;unfold pyNext;refine xba (xka (wpAny_callSpecial?_slot (name:=Str.ofString "__next__") hi.is zkp (xej zkp hi.is zva ?body (zbbu _))))
 case body =>
  refine xba (m:=slotArgs "__next__" 0 _) (xbd (xba (xmd ei di ?_)))
  refine xba (xlz ho hd T.fits ?_);rw[if_neg (by simp)];refine xba (m:=setNext a (slotAt w t i) i ep) (zbbv x T (xdi he) ?_);rw[xlb (by rw[zlh];lia)];dsimp only[Option.map];refine xba (xid ei di (by simp) (xba ?_));simp only[newExc,newTuple];refine xba (xel (xba (m:=firstArgMember _ _) (wpAny_of_eq (a:=Value.none) (by first | rfl | (simp only[firstArgMember];rfl)) (xel ?_ (by size_fits)))) (by size_fits));simp only[raiseNew];refine xba (wpAny_handled ?_);rw[show B.in1.handled=none from hh];refine xba (xbd (wpAny_throw ?_));refine xba (xlg (T:="StopIteration") (b:=true) ?ty isSubtype_stop (xbd (fin _ (((xes ..).extBut.push _).push _))))
  exact⟨_,xbu _ rfl,rfl⟩
theorem zbdp {B:Around}(hh:B.handled=none)(ne:a≠it)(T:Tt w es t ks) :
  Walks P w B it [it,a] [it] es.size (λi v=>∃e,(ord w a es ep)[i]?=some e/\v=e.2) (λi h=>ItAt w h it a i es.size ep t/\At h a es ep t) where
 sub:=λb hb=>xbm.mpr (.inl (xbt.mp hb))
 frame:=λ_ _ _ z hk=>⟨z.1.kept λo e=>hk it xbq o e,z.2.kept λo e=>hk a (xbo _ (xbt.mpr rfl)) o e⟩
 item:=λi sh W' E' hi z hQ=>by
  have hx:(ord w a es ep)[i]?=some ((ord w a es ep)[i]'(by rw[zlh];exact hi)):=xdd _;exact zbkv z.2 T z.1 hx λg p q=>hQ _ g sh.toks ⟨_,hx,rfl⟩ ⟨p,z.2.kept λo e=>q.extBut a o ne e⟩ λc o hc e=>q.extBut c o (λr=>hc (xbt.mpr r)) e
 done:=λsh W' E' z hQ=>zbqr hh z.2 T z.1 rfl λg b=>hQ g sh.toks λc o hc e=>b c o (λq=>hc (xbt.mpr q)) e
 self:=λi sh W' E' z hQ=>by
  refine xmx z.1.is zbbk (xej zbbk z.1.is zbdx ?_ (zbin _));exact xbd ⟨_,rfl, "set_iterator", _,z.1.is,zkp.lookup,hQ⟩
theorem zbld {s:Shared}  (ty:s.TypeIs (.ref a) "set")(fin:Q false s):wpAny (model P w) B (Builtin.List.listLengthHint (.ref a)) Q E s:=by
 unfold Builtin.List.listLengthHint;refine xba (wpAny_specialOf ty F.slot_set_len.lookup ?_);generalize hid:("set.__len__" : String)=id0
 wp_delta
 rw[show splitId id0=some ("set","__len__") from by subst hid; decide +kernel]
 subst hid;refine xba (xlg (b:=true) ty sub_set_self (xkg (λz=>absurd z (by decide)) (λ_=>xkg (λ_=>xba (wpAny_typeOf ty (xbd fin))) (λz=>absurd (by decide +kernel) z))))
theorem zbnx (T:Tt w es t ks):KdlSrc P w "set" a a es.size (λi v=>∃ e,(ord w a es ep)[i]?=some e/\v=e.2) (λh=>At h a es ep t) where
 type:=λ_ x=>x.is
 there:=λ_ x=>⟨x.lt,x.lt⟩
 keep:=λ_ _ x hk=>x.kept λo e=>hk a (.inl rfl) o e
 notList:=by decide
 notTuple:=by decide
 hint:=λ_ _ _ _ x hq=>zbld x.is hq
 iter:=λ_ sh hh x=>⟨_,_,λ_ _ hq=>zbku x T hq,zbdp hh (xce x.lt) T,⟨⟨_,xbu _ rfl,rfl,rfl⟩,x.kept λo e=>xbf _ e⟩⟩
end
end St
end L2
namespace L2
open PySem PySem.Spec PyProof.Rows PySem.W
noncomputable def nats (ns:List Nat):List Int:=ns.map λ(n:Nat)=>(n:Int)
def setO (w:World) (q:Addr) (ks:List Nat):HO:=.ext λh=>St.Sn w h q ks
def rSetI (w:World) (K:Fg):List V->Hp->VK->Prop:=λxs H Q=>∃(l:Addr) (ns:List Nat),xs=[.ref l]/\SqL K H l ((nats ns).map V.int)/\(∀n∈ns,n < 64)/\∀q,H q=none->Q (.ref q) (upd H q (setO w q (St.met ns [])))
theorem zbaw {X:Cx}(hc:X.calm=true):CallR X (.type "set") (rSetI X.w X.K):=by
 intro aU s σ H xs us Q I r h;obtain⟨l,ns,rfl,hl,small,q⟩:=h;obtain⟨u,rfl,ru⟩:=vals1 r;cases ru;obtain⟨its,rv,pl,hz⟩:=I.list hl;refine St.zbmr (I.ok.hd hc) pl.isList (zel rv) small λh' tk S keep=>?_
 refine⟨.ref s.heap.objs.size,_,I.laid (a:=s.heap.objs.size) (o:=setO X.w s.heap.objs.size (St.met ns [])) (t':=tk) keep (xbg _) ⟨S,?_,λh1 h2 z k=>z.kept k⟩,rfl,q _ (I.hok.fresh (xbg _))⟩;obtain⟨ob,_,_,_,e,_⟩:=S;exact⟨ob,e⟩
def rSortedS (w:World):List V->Hp->VK->Prop:=λxs H Q=>∃(a:Addr) (ks:List Nat),xs=[.ref a]/\H a=some (setO w a ks) /\
 ∀(q:Addr) (ms:List Int),H q=none->ms.Perm (nats ks)->ms.Pairwise (·<=·)->Q (.ref q) (upd H q (.lst (ms.map V.int)))
theorem zpn {X:Cx}(hc:X.calm=true):CallR X (.builtin "sorted") (rSortedS X.w):=by
 intro aU s σ H xs us Q I r h;obtain⟨a,ks,rfl,ha,q⟩:=h;obtain⟨u,rfl,ru⟩:=vals1 r;cases ru;obtain⟨S,_,_⟩:=(show ObjOk X.prog X.w H s.heap a (setO X.w a ks) from I.hok a _ ha)
 obtain⟨ob,es,ep,t,ho,hex,hd,T⟩:=S;have few:=T.few;refine Srt.zgu (St.zbnx (P:=X.prog) (ep:=ep) T) (I.ok.hd hc) ⟨ob,ho,hex,hd⟩ (small10000 (by lia)) λvs hl hv=>?_
 have pm:=St.zuq X.w a es ep;have evs:vs=(St.ord X.w a es ep).toList.map (·.2):=by
  apply xkx;intro i;by_cases hi:i < es.size
  ·have h1:vs[i]?=some vs[i]:=xbe (by lia);obtain⟨e,h2,h3⟩:=hv i _ h1;rw[h1,h3,xcp,xci,h2]
   rfl
  ·rw[xhr (by lia),xhr (by rw[xbb,xcd,St.zlh];lia)]
 generalize hL:(St.ord X.w a es ep).toList=L at pm evs;have E:=T.el.of_perm pm;have rv:Vals ((L.map (·.1)).map V.int) vs:=by
  rw[evs,xcv];refine zoh λe he=>?_
  obtain⟨n,t2,hn,rfl⟩:=E.all e he;exact⟨t2,rfl⟩
 have ln:(L.map (·.1)).length=es.size:=by
  rw[xbb,pm.length_eq,xcd]
 refine⟨Srt.rank (ones (L.map (·.1))),zwm rv,λh2 g tk keep=>zxd (by lia) rv,λp b g tk c p1 p2 keep ne eg=>?_⟩;have lv:vs.length=(L.map (·.1)).length:=by lia
 rw[lv] at p1 p2;obtain⟨ms,q1,q2,q3⟩:=zup rv p1 p2;refine⟨.ref b,_,I.laidN (o:=.lst (ms.map V.int)) keep ne ⟨?_,_,c,q3,by simpa using eg⟩,rfl,q b ms (I.away ne) (q1.trans E.perm) q2⟩;rw[xbb,q1.length_eq,ln];exact small10000 (by lia)
end L2
namespace Dd
open PySem L2 PyProof.Rows
noncomputable def once:List Int->List Int
 | []=>[]
 | n::l=>if n∈l then once l else n::once l
theorem zli :∀{l:List Int},k∈once l↔k∈l
 | []=>Iff.rfl
 | n::l=>by
  unfold once;split
  ·rename_i h;rw[zli (l:=l),xbm];exact⟨.inr,λz=>z.elim (λe=>e ▸ h) id⟩
  ·rw[xbm,xbm,zli (l:=l)]
theorem zut:∀l:List Int,(once l).Nodup
 | []=>xhb
 | n::l=>by
  unfold once;split
  ·exact zut l
  ·rename_i h;exact xem.mpr ⟨λz=>h (zli.mp z),zut l⟩
theorem zvd :∀{l ks:List Nat},k∈St.met l ks↔k∈l\/k∈ks
 | [],ks=>by simp[St.met]
 | n::l,ks=>by
  unfold St.met;rw[zvd (l:=l),xbm];split
  ·rename_i h;exact⟨λz=>z.elim (λa=>.inl (.inr a)) .inr,λz=>z.elim (λa=>a.elim (λe=>.inr (e ▸ h)) .inl) .inr⟩
  ·rw[xbm];exact⟨λz=>z.elim (λa=>.inl (.inr a)) (λa=>a.elim (λe=>.inl (.inl e)) .inr),λz=>z.elim (λa=>a.elim (λe=>.inr (.inl e)) .inl) (λa=>.inr (.inr a))⟩
theorem zbfg:∀{l ks:List Nat},ks.Nodup->(St.met l ks).Nodup
 | [],ks,h=>h
 | n::l,ks,h=>by
  unfold St.met;split
  ·exact zbfg h
  ·rename_i c;exact zbfg (xem.mpr ⟨c,h⟩)
theorem zbki {l:List Nat}(h:l.Nodup):(nats l).Nodup:=by
 unfold nats;rw[List.nodup_iff_pairwise_ne] at h ⊢;exact List.pairwise_map.mpr (h.imp λa e=>a (by lia))
theorem zbff :(nats (St.met ns [])).Perm (once (nats ns)):=by
 refine(xmr (zbki (zbfg xhb)) (zut _)).mpr λk=>?_
 rw[zli];unfold nats;rw[xbp,xbp];constructor
 ·rintro⟨n,h,rfl⟩;exact⟨n,(zvd.mp h).elim id (λz=>by cases z),rfl⟩
 ·rintro⟨n,h,rfl⟩;exact⟨n,zvd.mpr (.inl h),rfl⟩
noncomputable def smallI (n:Int):Bool:=decide (0<=n)&&decide (n < 64)
theorem ztu {l:List Int}(h:l.all smallI=true):∃ns:List Nat,l=nats ns/\∀n∈ns,n < 64:=by
 refine⟨l.map Int.toNat,?_,λn hn=>?_⟩
 ·unfold nats;rw[xcv];refine(xno l).symm.trans (xkd λn hn=>?_);have:=xcu.mp h n hn;simp[smallI] at this;show n=((n.toNat:Nat):Int)
  lia
 ·obtain⟨m,hm,rfl⟩:=xbp.mp hn;have:=xcu.mp h m hm;simp[smallI] at this;lia
def bSortSetM:List D->Store->Res D:=λxs au=>match xs with
 | [x]=>match (asL au x).bind asInts with
  | some l=>if l.all smallI=true then .ok (.ref au.length) (au++[.lst ((sortI (once l)).map .int)]) else .stuck
  | none=>.stuck
 | _=>.stuck
def rSS (w:World) (K:Fg):List V->Hp->VK->Prop:=λxs H Q=>rSetI w K xs H λu H1=>rSortedS w [u] H1 Q
theorem zsy {w:World}{K:Fg}:CaD K bSortSetM (rSS w K):=λρ H au xs us z st' Q rp aa e q=>by
 unfold bSortSetM at e;split at e
 ·obtain⟨u,rfl,a⟩:=aa.one;split at e
  ·rename_i l hl;obtain⟨ys,h0,hl⟩:=xek.mp hl;split at e
   ·rename_i sm;cases e;obtain⟨p,vs,rfl,h1,h2⟩:=zhk rp a h0;have e:=zco h2 hl;subst e;obtain⟨ns,rfl,small⟩:=ztu sm;refine⟨p,ns,rfl,SqL.of h1,small,λb hb=>⟨b,_,rfl,zw,λt ms ht hp hs=>?_⟩⟩;have e2:ms=sortI (once (nats ns)):=zts (hp.trans zbff) hs;subst e2;obtain⟨E,R⟩:=(rp.new hb (setO w b _)).alloc ht (x:=.lst ((sortI (once (nats ns))).map .int)) (o:=.lst ((sortI (once (nats ns))).map V.int)) λE=>⟨_,zw,(zhd _).ext E⟩
    exact q _ _ _ ((Ext.new hb _).trans E) R (.last rp.len.symm)
   ·cases e
  ·cases e
 ·cases e
section
theorem zbuy {X:Cx}(hc:X.calm=true)(hr:CaD X.K g (rSS X.w X.K))(hgx:Gl X x)(hmx:X.mg x=none)(hvx:bootBuiltins x=some (.builtin "sorted"))(hgy:Gl X y)(hmy:X.mg y=none)(hvy:bootBuiltins y=some (.type "set"))(ha:JA X [e] f)
  (hnx:x≠"__name__":=by decide)(hdx:(x==("__debug__" : Str))=false:=by decide)(hny:y≠"__name__":=by decide)(hdy:(y==("__debug__" : Str))=false:=by decide)(hp:plainE e=true:=by rfl) :
  JE X (.Call (.Name x p) [.Call (.Name y p2) [e] [] pos2] [] pos) (aE g f) :=
 ⟨zgd (zum (zpn hc) hgx hmx hvx (zbbs (zqn (zbaw hc) hgy hmy hvy ha.out hny hdy (zmp hp)) zbjr) hnx hdx) λτ H Q h=>zbnp hr τ H Q h⟩
end
end Dd
namespace L2
open PySem PySem.Spec PyProof.Rows PySem.W
noncomputable def CMulW (i j:Int):Prop:=PySem.Builtin.Int.intBits i<=60000/\PySem.Builtin.Int.intBits j<=60000
theorem zbjx :OpR X (binaryOp .Mult) (rI CMulW λi j=>.int (i * j)):=opI λ_ _ _ _ _ _ _ hc q=>mul_int q (.of_le hc.1 hc.2 (by decide))
end L2
namespace Dd
open PySem L2 PyProof.Rows
instance instCMulW:DecidableRel CMulW:=λi j=>by unfold CMulW;infer_instance
abbrev oMulW:=oI CMulW λi j=>.int (i * j)
section
end
section
end
section
end
section
end
section
end
end Dd
namespace L2
open PySem PySem.Spec PyProof.Rows
end L2
namespace Dd
open PySem L2 PyProof.Rows
section
end
end Dd
namespace L2
open PySem PySem.Spec PyProof.Rows
end L2
namespace Dd
open PySem L2 PyProof.Rows
section
end
section
end
section
end
end Dd
namespace L2
open PySem PySem.Spec PyProof.Rows
section
end
section
end
section
end
section
end
end L2
namespace Dd
open PySem L2 PyProof.Rows
section
end
end Dd
namespace L2
open PySem PySem.Spec PyProof.Rows
section
end
section
end
section
end
end L2
namespace L2
open PySem PySem.Spec PyProof.Rows Builtin Builtin.ObjectAttr
section
end
end L2
namespace L2
open PySem PySem.Spec PyProof.Rows
section
end
section
end
def ItE0 (K:Fg) (a:Addr):It :=
 ⟨λi H=>∃xs x,SqL K H a xs/\xs[i]?=some x,λi H y H'=>∃p,H p=none/\y=.ref p/\∀xs x,SqL K H a xs->xs[i]?=some x->H'=upd H p (.tup [.int (i:Int),x]),λi H=>∃xs,SqL K H a xs/\xs.length<=i⟩
theorem ztn {P:Program}{w:World}{K:Fg}{elts:List Expr}{k:Nat}{tpos:Pos}(e it a:Addr)(hei:e≠it) :
  Turn P w K (.Tuple elts k tpos) (ItE0 K a) [e,it] e (λi h=>(∃old,IsEnum h e it (i:Int) old)/\h.IsListIter it a i) where
 mem:=by simp
 obj:=λi h au b hb=>by
  obtain⟨⟨old,he⟩,o,e',c,d⟩:=au;rcases xbm.mp hb with rfl | hb
  ·exact⟨_,he,λv z=>nomatch (show Data.fields _=Data.cell v from z)⟩
  ·obtain rfl:b=it:=by simpa using hb
   exact⟨o,e',λv z=>by rw[d] at z;cases z⟩
 keep:=λi h h' au k=>⟨let ⟨old,he⟩:=au.1;⟨old,k e (by simp) _ he⟩,let ⟨o,z,r⟩:=au.2;⟨o,k it (by simp) o z,r⟩⟩
 item:=by
  intro X hP hw hK hc i aU s σ H E I hf au hg;subst hP hw hK;obtain⟨xs,x,hq,hx⟩:=hg;obtain⟨⟨old,he⟩,hit⟩:=au;obtain⟨its,rv,p,hz⟩:=I.list hq;obtain⟨u,hu,ru⟩:=rv.get hx;refine wpAny_pyNext_enum_item he hit p.isList (x:=u) (by rw[xgu];exact hu) hei λh1 ho hit' hT hsz hk=>?_
  refine⟨_,rfl,wpAny_letOwnedTupleGo_enum ho λh2 he2 hs2=>?_⟩;obtain⟨f0,f1,f2,f3,f4,f5⟩:=hf e (by simp);obtain⟨g0,g1,g2,g3,g4,g5⟩:=hf it (by simp);have hel:e < s.heap.objs.size:=xbr he;have hil:it < s.heap.objs.size:=by obtain⟨o',ho',_⟩:=hit;exact xbr ho'
  have I1:Inv X aU σ (upd H s.heap.objs.size (.tup [.int (i:Int),x])) { s with heap:=s.heap.push { cls:=.type "tuple", data:=.seq #[.int (i:Int) s.toks,u] },toks:=s.toks } :=
   I.laid (λ_ _ q=>xbf _ q) (xbg _) ⟨by simp;decide,[.int (i:Int) s.toks,u],.cons ⟨_,rfl⟩ (.cons ru .nil),⟨_,xbu _ rfl,rfl,_,rfl⟩⟩
  have I2:Inv X aU σ (upd H s.heap.objs.size (.tup [.int (i:Int),x])) {s with heap:=h2,toks:=s.toks+1}:=by
   refine Inv.turned2 (s:={ s with heap:=s.heap.push { cls:=.type "tuple", data:=.seq #[.int (i:Int) s.toks,u] },toks:=s.toks }) (h':=h2) (t':=s.toks + 1) (e:=e) (it:=it) I1 (λb o hbe hbi q=>?_) (by rw[zx (xce hil)]; exact g0) g1 g3 g4 g5 (by rw[zx (xce hel)]; exact f0) f1 f3 f4 f5
   rcases Heap.get?_push_cases (show(s.heap.push _).get? b=some o from q) with⟨z,z2⟩ | z
   ·rw[z,z2];exact(hs2.2 _ (xhi hel)).trans hT
   ·exact(hs2.2 _ hbe).trans (hk b o hbe hbi z)
  refine⟨.ref s.heap.objs.size,_,I2,rfl,⟨s.heap.objs.size,I.fresh,rfl,λys y hy e'=>?_⟩,⟨⟨u,by push_cast;exact he2⟩,?_⟩,λb hb=>?_⟩
  ·rw[I.list_inj hy hq,hx] at e';cases e'
   rfl
  ·obtain⟨o,z,r⟩:=hit';exact⟨o,(hs2.2 it (xcx hei)).trans z,r⟩
  ·rcases xbm.mp hb with rfl | hb
   ·rw[zx (xce hel)];exact f0
   ·obtain rfl:b=it:=by simpa using hb
    rw[zx (xce hil)];exact g0
 done:=by
  intro X hP hw hK hc i aU s σ H E I hf au hg;subst hP hw hK;obtain⟨xs,hq,hx⟩:=hg;obtain⟨⟨old,he⟩,hit⟩:=au;obtain⟨its,rv,p,hz⟩:=I.list hq;have hl:=rv.length;obtain⟨g0,g1,g2,g3,g4,g5⟩:=hf it (by simp);exact wpAny_pyNext_enum_end (I.ok.hd hc) he hit p.isList (by simp;lia) λh' he'=>⟨rfl,I.turned (t':=s.toks) (λb o hb e=>he' b o hb e) g0 g1 g3 g4 g5⟩
 self:=λA i s Q E au h=>let ⟨old,he⟩:=au.1;wpAny_pyIter_enum he h
section
def iEnum0 (K:Fg) (tl:TE):TI:=λσ H R=>tl σ H λx H1=>∃a,x=.ref a/\(∃xs,SqL K H1 a xs)/\R (ItE0 K a) H1
section
variable {X:Cx}
theorem zbem {elts:List Expr}{k:Nat}{tpos p pos:Pos}{l:Expr}{tl:TE}(hg:Gl X "enumerate")(hm:X.mg "enumerate"=none)(hl:PE X l tl)
  (he:starEach [l] X.env=[(false,eval l X.env)]:=by rfl):PI X (.Tuple elts k tpos) (.Call (.Name "enumerate" p) [l] [] pos) (iEnum0 X.K tl):=by
 intro aU s σ H R I h;refine xjb (zno I hg hm PyProof.Rows.boot_enumerate ?_);refine xgj (e:=l) (rest:=[]) ?_ he rfl;rw[he];refine xis (thn (hl aU s σ H _ I h) λv s1 hq0=>?_);obtain⟨x,H1,I1,r1,q1⟩:=hq0;refine xks ?_;obtain⟨a,rfl,⟨xs,hq⟩,q⟩:=q1;cases r1;obtain⟨its,rv,pp,hz⟩:=I1.list hq;refine call_enumerate_list pp.isList λh' he' hit hsz hk=>?_
 refine wpAny_pyIter_enum he' ?_;have I3:=I1.kept (h':=h') (t':=s1.toks) hk;refine⟨s1.heap.objs.size+1,[s1.heap.objs.size+1,s1.heap.objs.size],_,_,H1,rfl,I3,ztn _ s1.heap.objs.size a (Nat.succ_ne_self _),⟨⟨_,he'⟩,hit⟩,λb hb=>?_,q⟩;have hb':s1.heap.objs.size<=b:=by
  have hb2:b=s1.heap.objs.size+1\/b=s1.heap.objs.size:=by simpa using hb
  cases hb2 with
  | inl z=>exact z ▸ xld _
  | inr z=>exact z ▸ xbg _
 exact I1.fpOk hb' (I1.hok.fresh hb')
end
end
section
end
section
end
end L2
namespace Dd
open PySem L2 PyProof.Rows
section
end
section
end
end Dd
namespace L2
open PySem PySem.Spec PyProof.Rows
end L2
namespace Dd
open PySem L2 PyProof.Rows
section
end
end Dd
namespace L2
open PySem PySem.Spec PyProof.Rows
section
end
end L2
namespace Dd
open PySem L2 PyProof.Rows
end Dd
namespace L2
open PySem PySem.Spec PyProof.Rows
end L2
namespace Dd
open PySem L2 PyProof.Rows
section
end
end Dd
namespace L2
open PySem PySem.Spec PyProof.Rows
def rSetD (_K:Fg):V->List V->Hp->VK->Prop:=λx vs H Q=>∃(a:Addr) (k:Key) (v:V) (kvs:List (Key×V)),x=.ref a/\vs=[kV k,v]/\H a=some (.dK kvs)/\kvs.length < sizeLine /\
 (∀u,valV kvs k=some u->Q u H)/\(valV kvs k=none->Q v (upd H a (.dK (putK kvs k v))))
theorem zbkj  : MtR X "dict.setdefault" (rSetD X.K):=by
 intro aU s σ H x xs v us Q I rx rv h;obtain⟨a,k,d,kvs,rfl,rfl,e,hl,q1,q2⟩:=h;cases rx;obtain⟨u,r,rfl,ry,rd⟩:=vals2 rv;obtain⟨z,hd,vs,rel,dd⟩:=zbtj I.hok e;have hz:vs.length<=sizeLine:=by rw[← rel.length];exact z
 have hl2:(putK kvs k d).length<=sizeLine:=by have:=zhc kvs k d;lia
 refine call_meetsIn xmb dd.typeIs F.entry_dict_setdefault (F.args_dict_setdefault_3 _ _ _) (kt_meets_setdefault (mixKind X.prog X.w) a (zbhj ry) hd r) ⟨vs,dd,hz,λw hw=>?_,λhn h' dd' hs=>?_⟩
 ·have rr:=rel.val k;rw[hw] at rr;cases hk:valV kvs k with
  | none=>rw[hk] at rr;exact rr.elim
  | some y=>rw[hk] at rr;exact⟨y,H,I.tok _,rr,q1 y hk⟩
 ·have hk:valV kvs k=none:=by
   have rr:=rel.val k;rw[hn] at rr;cases hk:valV kvs k with
   | none=>rfl
   | some y=>rw[hk] at rr;exact rr.elim
  have he:∃q,h'.get? a=some q:=let ⟨q,_,_,hq,_⟩:=dd';⟨q,hq⟩
  exact⟨d,_,zrc I (by rw[e];exact True.intro) hs he (zbls hl2 hd (rel.put k rd) dd'),rd,q2 hk⟩
end L2
namespace Dd
open PySem L2 PyProof.Rows
noncomputable def valI (kvs:List (Int×D)) (k:Int):Option D:=(kvs.find? λkv=>decide (kv.1=k)).map (·.2)
noncomputable def putI (kvs:List (Int×D)) (k:Int) (v:D):List (Int×D) :=
 if(kvs.any λkv=>decide (kv.1=k))=true then kvs.map (λkv=>if kv.1=k then(kv.1,v) else kv) else kvs++[(k,v)]
theorem inlI :(Sum.inl a:Key)=Sum.inl b↔a=b:=⟨λe=>Sum.inl.inj e,λe=>by rw[e]⟩
section
section
variable {K:Fg}{ρ:Loc}{H:Hp}{kvs:List (Int×D)}{vs:List (Key×V)}
theorem KiAt.val (h:KiAt K ρ H kvs vs)(k:Int):match valI kvs k with
  | some d=>∃v,valV vs (Sum.inl k)=some v/\At K ρ H d v
  | none=>valV vs (Sum.inl k)=none:=by
 induction h with
 | nil=>rfl
 | @cons p q ps qs h t ih =>
  obtain⟨h1,h2⟩:=h;by_cases e:p.1=k
  ·have e1:valI (p::ps) k=some p.2:=by simp[valI,xdn,e]
   rw[e1];exact⟨q.2,zir (by rw[h1,e]),h2⟩
  ·have e1:valI (p::ps) k=valI ps k:=by simp[valI,xdn,e]
   have e2:valV (q::qs) (Sum.inl k)=valV qs (Sum.inl k):=zis (by rw[h1,inlI];exact e);rw[e1,e2];exact ih
theorem KiAt.keys (h:KiAt K ρ H kvs vs):vs.map (·.1)=(kvs.map (·.1)).map Sum.inl:=by
 induction h with
 | nil=>rfl
 | @cons p q ps qs h t ih=>rw[xbs,xbs,xbs,ih,h.1]
theorem KiAt.put (h:KiAt K ρ H kvs vs)(k:Int){d:D}{v:V}(a:At K ρ H d v):KiAt K ρ H (putI kvs k d) (putK vs (Sum.inl k) v):=by
 have any:∀{kvs:List (Int×D)} {vs:List (Key×V)},KiAt K ρ H kvs vs->(kvs.any λkv=>decide (kv.1=k))=(vs.any λkv=>decide (kv.1=Sum.inl k)):=λh=>by
  induction h with
  | nil=>rfl
  | @cons p q ps qs h t ih =>
   rw[xhu,xhu,ih,h.1]
   congr 1
   simp only[inlI]
 unfold putI putK;rw[any h];split
 ·rename_i hh;clear hh any
  induction h with
  | nil=>exact .nil
  | @cons p q ps qs h t ih =>
   refine .cons ?_ ih;obtain⟨h1,h2⟩:=h;dsimp only;by_cases e:p.1=k
   ·rw[if_pos e,if_pos (by rw[h1,e])];exact⟨h1,a⟩
   ·rw[if_neg e,if_neg (by rw[h1,inlI];exact e)];exact⟨h1,h2⟩
 ·have app:∀{kvs:List (Int×D)} {vs:List (Key×V)},KiAt K ρ H kvs vs->KiAt K ρ H (kvs++[(k,d)]) (vs++[(Sum.inl k,v)]):=λh=>by
   induction h with
   | nil=>exact .cons ⟨rfl,a⟩ .nil
   | cons h t ih=>exact .cons h ih
  exact app h
theorem KiAt.length (h:KiAt K ρ H kvs vs):kvs.length=vs.length:=xiq h
end
section
variable {H:Hp}{vs:List (Key×V)}
theorem zqq {p:Addr}(g:H p=some (.dK vs)):∀ob u,H p≠some (.frz ob u):=λob u z=>by rw[g] at z;cases z
end
end
def eDNewI:SE:=λ_ au=>.ok (.ref au.length) (au++[.dI []])
def eSetDI (f:SE) (g:SA):SE:=λσ au=>(f σ au).bind λx st1=>match x with
 | .ref n=>match st1[n]? with
  | some (.dI _)=>(g σ st1).bind λys st2=>match ys,st2[n]? with
   | [.int k,d],some (.dI kvs)=>if kvs.length < sizeLine then(match valI kvs k with
    | some v=>.ok v st2
    | none=>.ok d (st2.set n (.dI (putI kvs k d)))) else .stuck
   | _,_=>.stuck
  | _=>.stuck
 | _=>.stuck
section
theorem zwe:JE X (.Dict [] [] pos) eDNewI:=⟨zgd zbes λτ H Q hq0 p hp=>by
 obtain⟨ρ,σ,au,v,st',a,rp,e,q⟩:=hq0;cases e;obtain⟨E,R⟩:=rp.alloc hp (x:=.dI []) (o:=.dK []) λE=>⟨[],zw,.nil⟩
 exact q _ _ _ E R (.last rp.len.symm)⟩
section
variable {X:Cx}{o:Expr}{e:Expr}{a:Expr}{es:List Expr}{f:SE}{ga:SA}{apos:Pos}{cpos:Pos}
theorem zbgo (ho:JE X o f)(ha:JA X (e::es) ga)(hbase:attributeBase o "setdefault" X.env (eval o X.env)=eval o X.env:=by rfl)
  (hfew:((backTo cpos (starEach (e::es) X.env)).all (λx=>!x.1)&&(backToKw cpos (keywordEach [] X.env)).all (λx=>x.1.isSome)
   && decide ((e::es).length+([]:List Keyword).length+(if([]:List Keyword).isEmpty then 0 else 1) < 30))=true:=by rfl)
  (hline:(apos.endLine==cpos.line)=true:=by rfl)(hs:starEach (e::es) X.env=(false,eval e X.env)::starEach es X.env:=by rfl)(hplain:(backTo cpos (starEach es X.env)).any (·.1)=false:=by rfl) :
  JE X (.Call (.Attribute o "setdefault" apos) (e::es) [] cpos) (eSetDI f ga):=⟨zgd (zbpe xkn xmb F.type_dict_setdefault zbkj ho.out ha.out hbase hfew hline hs hplain) λτ H Q hq0=>by
 obtain⟨ρ,σ,au,v,st',a,rp,e,q⟩:=hq0;obtain⟨x,st1,e1,e⟩:=zb e;refine⟨ρ,σ,au,x,st1,a,rp,e1,λρ1 H1 u x1 rp1 a1=>?_⟩;split at e
 ·rename_i n;split at e
  ·rename_i kv0 h0;obtain⟨p,rfl,hp,vs0,g0,_⟩:=zef rp1 a1 h0 (by intro z;cases z);obtain⟨ys,st2,e2,e⟩:=zb e;refine⟨.inr (.inr (.inl ⟨rfl,.inl ⟨_,g0⟩⟩)),ρ1,σ,st1,ys,st2,a.ext x1,rp1,e2,λρ2 H2 ws x2 rp2 a2=>?_⟩;split at e
   ·rename_i k d kvs hn;split at e
    ·rename_i hlen;obtain⟨w,w2,rfl,a3,a4⟩:=a2.two;cases a3;obtain⟨p',ep,hp2,vs,g1,g2⟩:=zef rp2 (a1.ext x2) hn (by intro z;cases z);cases ep;have g4:=g2.val k;refine⟨p,Sum.inl k,w2,vs,rfl,rfl,g1,by rw[← g2.length];exact hlen,λy hy=>?_,λhy=>?_⟩
     ·split at e
      ·rename_i z hv;cases e;rw[hv] at g4;obtain⟨vv,g5,g6⟩:=g4;rw[g5] at hy;cases hy;exact q _ _ _ (x1.trans x2) rp2 g6
      ·rename_i hv;rw[hv] at g4;rw[show valV vs (Sum.inl k)=none from g4] at hy;cases hy
     ·split at e
      ·rename_i z hv;rw[hv] at g4;obtain⟨vv,g5,g6⟩:=g4;rw[g5] at hy;cases hy
      ·rename_i hv;cases e;have E:Ext ρ2 H2 ρ2 (upd H2 p (.dK (putK vs (Sum.inl k) w2))):=Ext.wr hp2 (zqq g1) _;exact q _ _ _ ((x1.trans x2).trans E) (rp2.wr hp2 (zqq g1) ⟨_,zw,(g2.put k a4).ext E⟩) (a4.ext E)
    ·cases e
   ·cases e
  ·cases e
 ·cases e⟩
end
end
end Dd
namespace L2
open PySem PySem.Spec PyProof.Rows
def rBits:V->List V->Hp->VK->Prop:=λx vs H Q=>∃i:Int,x=.int i/\vs=[]/\Q (.int (Builtin.Int.intBits i)) H
theorem zbkk  : MtR X "int.bit_length" rBits:=by
 intro aU s σ H x xs v us Q I rx rv h;obtain⟨i,rfl,rfl,q⟩:=h;obtain⟨t,rfl⟩:=rx;cases rv;exact call_int_bit_length ⟨.int _,H,I.tok _,⟨_,rfl⟩,q⟩
end L2
namespace Dd
open PySem L2 PyProof.Rows
def eBits (f:SE):SE:=λσ au=>(f σ au).bind λx st1=>match x with
 | .int i=>.ok (.int (Builtin.Int.intBits i)) st1
 | _=>.stuck
theorem zre    {apos cpos:Pos}(ho:JE X o f)(hbase:attributeBase o "bit_length" X.env (eval o X.env)=eval o X.env:=by rfl)(hline:(apos.endLine==cpos.line)=true:=by rfl):JE X (.Call (.Attribute o "bit_length" apos) [] [] cpos) (eBits f) :=
 ⟨zgd (zbpd F.plainAttrs_int F.slot_int_bit_length F.type_int_bit_length zbkk ho.out hbase hline) λτ H Q hq0=>by
  obtain⟨ρ,σ,au,v,st',a,rp,e,q⟩:=hq0;obtain⟨x,st1,e1,e⟩:=zb e;refine⟨ρ,σ,au,x,st1,a,rp,e1,λρ1 H1 u x1 rp1 a1=>?_⟩;split at e
  ·rename_i i;cases e;cases a1;exact⟨rfl,i,rfl,rfl,q _ _ _ x1 rp1 (.int _)⟩
  ·cases e⟩
end Dd
namespace L2
open PySem PySem.Spec PyProof.Rows
section
end
end L2
namespace Dd
open PySem PySem.Spec PyProof.Rows L2
section
end
end Dd
namespace L2
open PySem PySem.Spec PyProof.Rows PySem.W
section
end
end L2
namespace Dd
open PySem PySem.Spec PyProof.Rows L2
def iEn0 (f:SE):SA:=λσ au=>(f σ au).bind λx st1=>match x with
 | .lst xs=>.ok (numF 0 xs) st1
 | _=>.stuck
def intsOf (au:Store) (x:D):Option (List (Int×D)):=match x with
 | .ref n=>match au[n]? with
  | some (.dI kvs)=>some kvs
  | _=>none
 | _=>none
def oIIn (neg:Bool) (y x:D) (au:Store):Res D:=match y,intsOf au x with
 | .int k,some kvs=>.ok (.bl (if neg then !(valI kvs k).isSome else(valI kvs k).isSome)) au
 | _,_=>.stuck
def oIGet (x y:D) (au:Store):Res D:=match intsOf au x,y with
 | some kvs,.int k=>match valI kvs k with
  | some v=>.ok v au
  | none=>.stuck
 | _,_=>.stuck
def sIPut (f g h:SE):SS:=λσ au=>(h σ au).bind λv st1=>(f σ st1).bind λx st2=>(g σ st2).bind λy st3=>match x,y with
 | .ref n,.int k=>match st3[n]? with
  | some (.dI kvs)=>if kvs.length < sizeLine then .ok (.nx σ) (st3.set n (.dI (putI kvs k v))) else .stuck
  | _=>.stuck
 | _,_=>.stuck
theorem zbci {K:Fg}{ρ:Loc}{au:Store}{H:Hp}(rp:Rep K ρ au H){d:D}{u w:V}{kvs:List (Int×D)}{k:Int}(a:At K ρ H d u)(b:At K ρ H (.int k) w)(e:intsOf au d=some kvs) :
  ∃p o,u=.ref p/\DGet H p w o/\o.isSome=(valI kvs k).isSome/\∀z,valI kvs k=some z->∃v,o=some v/\At K ρ H z v:=by
 unfold intsOf at e;split at e
 ·split at e
  ·rename_i n kv hn;cases e;obtain⟨p,rfl,hp,vs,g1,g2⟩:=zef rp a hn (by intro z;cases z);cases b;have g3:=g2.val k;refine⟨p,valV vs (Sum.inl k),rfl,.inl ⟨vs,Sum.inl k,.inl g1,rfl,rfl⟩,?_,λz hz=>?_⟩
   ·split at g3
    ·rename_i hv;obtain⟨v,e,_⟩:=g3;rw[hv,e]
     rfl
    ·rename_i hv;rw[hv,g3]
     rfl
   ·rw[hz] at g3;exact g3
  ·cases e
 ·cases e
section
theorem zlz (hg:Gl X "enumerate")(hm:X.mg "enumerate"=none)(hl:JE X l f)(he:starEach [l] X.env=[(false,eval l X.env)]:=by rfl) :
  JI X (.Tuple elts n tpos) (.Call (.Name "enumerate" p) [l] [] pos) (iEn0 f):=⟨zbhh (zbem hg hm hl.out he) λτ H R hq0=>by
 obtain⟨ρ,σ,au,xs,st',a,rp,e,q⟩:=hq0;obtain⟨x,st1,e1,e⟩:=zb e;refine⟨ρ,σ,au,x,st1,a,rp,e1,λρ1 H1 u x1 rp1 a1=>?_⟩;split at e
 ·rename_i ys;cases e;cases a1 with
  | lst h1 h2 h3 =>
   refine⟨_,rfl,⟨_,SqL.of h1⟩,q _ _ _ x1 rp1 ⟨λρ2 H2 x2 i d e=>?_,λρ2 H2 x2 i h=>?_⟩⟩
   ·obtain⟨z,hz,rfl⟩:=zjc e;obtain⟨v,hv,av⟩:=h3.get hz;refine⟨⟨_,v,SqL.of (x2.out h1 h2).1,hv⟩,λy H3 hy=>?_⟩;obtain⟨p,hp,rfl,hH⟩:=hy;rw[hH _ _ (SqL.of (x2.out h1 h2).1) hv];refine⟨Ext.new hp _,λau rp2=>⟨rp2.new hp _,?_⟩⟩;rw[xhk];exact At.newT rp2 hp (.cons (.int _) (.cons (av.extG x2) .nil))
   ·rw[zfa] at h;exact⟨_,SqL.of (x2.out h1 h2).1,by rw[h3.length];exact h⟩
 ·cases e⟩
section
variable {h:SE}
theorem zbqk {neg:Bool}{x y v:D}{au st':Store}(e:oIIn neg y x au=.ok v st'):∃k kvs,y=.int k/\intsOf au x=some kvs/\v=.bl (if neg then !(valI kvs k).isSome else(valI kvs k).isSome)/\st'=au:=by
 unfold oIIn at e;split at e
 ·rename_i k kvs h;cases e;exact⟨k,kvs,rfl,h,rfl,rfl⟩
 ·cases e
end
theorem zbjp {X:Cx}(hu:X.A.units+1 < cLine)(hi:JE X i g)(ho:JE X o f):JC X .In i o (aS (oIIn false) g f):=⟨λaU s σ H Q I hq=>by
 refine zbjq hu hi.out ho.out aU s σ H Q I ?_;obtain⟨ρ,σ',au,v,st',a,rp,e,q⟩:=hq;obtain⟨x,st1,e1,e⟩:=zb e;obtain⟨y,st2,e2,e⟩:=zb e;refine⟨ρ,σ',au,x,st1,a,rp,e1,λρ1 H1 u x1 rp1 a1=>?_⟩;refine⟨ρ1,σ',st1,y,st2,a.ext x1,rp1,e2,λρ2 H2 w x2 rp2 a2=>?_⟩;obtain⟨k,kvs,rfl,h2,rfl,rfl⟩:=zbqk e;obtain⟨p,oo,rfl,g1,g2,_⟩:=zbci rp2 a2 (a1.ext x2) h2;refine⟨p,oo,rfl,g1,?_⟩;rw[g2]
 exact q _ _ _ (x1.trans x2) rp2 (.bl _)⟩
section
variable {X:Cx}{a:Expr}{o:Expr}{i:Expr}{e:Expr}{f:SE}{g:SE}{p:Pos}{pos:Pos}
theorem zwd (hu:X.A.units+1 < cLine)(ho:JE X o f)(hi:JE X i g)(hs:NoSl i):JE X (.Subscript o i pos) (aS oIGet f g):=⟨zgd (zbbr hu ho.out hi.out hs) λτ H Q hq0=>by
 obtain⟨ρ,σ,au,v,st',a,rp,e,q⟩:=hq0;obtain⟨x,st1,e1,e⟩:=zb e;obtain⟨y,st2,e2,e⟩:=zb e;refine⟨ρ,σ,au,x,st1,a,rp,e1,λρ1 H1 u x1 rp1 a1=>?_⟩;refine⟨ρ1,σ,st1,y,st2,a.ext x1,rp1,e2,λρ2 H2 w x2 rp2 a2=>?_⟩;unfold oIGet at e;split at e
 ·rename_i h1;split at e
  ·rename_i z hv;cases e;obtain⟨p,oo,rfl,g1,_,g2⟩:=zbci rp2 (a1.ext x2) a2 h1;obtain⟨vv,rfl,g3⟩:=g2 _ hv;exact⟨p,vv,rfl,g1,q _ _ _ (x1.trans x2) rp2 g3⟩
  ·cases e
 ·cases e⟩
end
section
variable {X:Cx}{a:Expr}{o:Expr}{i:Expr}{e:Expr}{value:Expr}{f:SE}{g:SE}{h:SE}{n:Nat}{p:Pos}{pos:Pos}{pos':Pos}
theorem zbgh (hu:X.A.units+1 < cLine)(ho:JE X o f)(hi:JE X i g)(hv:JE X value h)(hs:swapsWith value (some (.Subscript o i pos')) pos.line X.env=pure false) :
  JS X (.Assign [.Subscript o i pos'] value pos) (sIPut f g h):=⟨zuk (zbbo hu ho.out hi.out hv.out hs) λE τ H hq0=>by
 obtain⟨ρ,σ,au,fl,st',a,rp,e,q⟩:=hq0;obtain⟨v,st1,e1,e⟩:=zb e;obtain⟨x,st2,e2,e⟩:=zb e;obtain⟨y,st3,e3,e⟩:=zb e;refine⟨ρ,σ,au,v,st1,a,rp,e1,λρ1 H1 u x1 rp1 a1=>?_⟩;refine⟨ρ1,σ,st1,x,st2,a.ext x1,rp1,e2,λρ2 H2 w x2 rp2 a2=>?_⟩;refine⟨ρ2,σ,st2,y,st3,a.ext (x1.trans x2),rp2,e3,λρ3 H3 t x3 rp3 a3=>?_⟩;split at e
 ·split at e
  ·rename_i n k _ _ kvs hn;split at e
   ·rename_i hl;cases e;obtain⟨p,rfl,hp,vs,g1,g2⟩:=zef rp3 (a2.ext x3) hn (by intro z;cases z);cases a3;have E:Ext ρ3 H3 ρ3 (upd H3 p (.dK (putK vs (Sum.inl k) u))):=Ext.wr hp (zqq g1) _;refine⟨p,_,rfl,DPut.k (k:=Sum.inl k) g1 (by rw[← g2.length];exact hl),?_⟩;exact q _ _ _ ((x1.trans (x2.trans x3)).trans E) (rp3.wr hp (zqq g1) ⟨_,zw,(g2.put k (a1.ext (x2.trans x3))).ext E⟩) (a.ext ((x1.trans (x2.trans x3)).trans E))
   ·cases e
  ·cases e
 ·cases e⟩
end
end
end Dd
namespace Dd
open PySem L2 PyProof.Rows
section
theorem sv {X:Cx}(hN:X.N[i]?=some x:=by rfl)(hv:Vis X.env.scope x:=by first | exact Or.inl rfl | exact Or.inr (Or.inl rfl) | exact Or.inr (Or.inr rfl))(hd:(x==("__debug__" : Str))=false:=by decide)
 (hcd:(x==("__classdict__" : Str))=false:=by decide):JE X (.Name x pos) (aA i):=zjo (pv i hN hv hd hcd)
theorem scl {X:Cx}       (c:CalD X.prog X.w X.K X.mg X.base x k ps F)(hr:Room j X.A)(ha:JA X (e::es) g)(hn:∀ds au v st',F ds au=.ok v st'->ds.length=ps.length:=by exact λ_ _ _ _ h=>zbco h)(hk:k<=j:=by first | decide | lia)(hg:Gl X x:=by rfl)
 (hdb:(x==("__debug__" : Str))=false:=by decide)(he:starEach (e::es) X.env=(false,eval e X.env)::starEach es X.env:=by rfl)(hpl:(backTo pos (starEach es X.env)).any (·.1)=false:=by rfl):JE X (.Call (.Name x p) (e::es) [] pos) (aE F g):=zbcz c hn (hr.mono hk) hg ha hdb he hpl
theorem sst {X:Cx}{pos:Pos}   (hN:X.N.Nodup)(he:JE X e f)(hi:X.N[i]?=some x:=by rfl)(hx:L2.Loc X.env.scope x:=by first | exact Or.inl rfl | exact Or.inr rfl)(hs:swapsWith e (some (.Name x pos')) pos.line X.env=pure false:=by rfl)(hf:X.fn x=true\/X.env.scope.names.lookup x=some .local:=by first | exact .inl rfl | exact .inr rfl | assumption) :
 JS X (.Assign [.Name x pos'] e pos) (aF i f):=zbcu hN hi hx he hs hf
theorem sgn {X:Cx}(hN:X.N.Nodup)(hi:X.N[i]?=some x:=by rfl)(hx:L2.Loc X.env.scope x:=by first | exact Or.inl rfl | exact Or.inr rfl)(hf:X.fn x=true\/X.env.scope.names.lookup x=some .local:=by first | exact .inl rfl | exact .inr rfl | assumption):JG X (.Name x pos) (gN i):=zbq hN hi hx hf
theorem sfr      (hi:JI X tg iter it)(hg:JG X tg bd)(hb:JB X body b)(hp:PassesOwn (model X.prog X.w) X.A X.env X.xe:=by exact xhs)(hc:X.calm=true:=by rfl)(hs:∀x,foldedSetIterable iter X.env x=pure x:=by intro _;rfl) :
 JS X (.For tg iter body [] pos) (sFor it bd b):=zbcv hp hc hi hg hb hs
theorem scp    (N:List Str)    (hi:JI X (.Name x p) iter it)(he:∀cl C fp s H,JE (cxC X N scope cl C fp s H) elt f)(nd:N.Nodup:=by decide +kernel)(S:CompScope X N k is scope:=by exact zep (by rfl))(hcalm:X.calm=true:=by rfl)
  (hg:N.Nodup->∀cl C fp s H,JG (cxC X N scope cl C fp s H) (.Name x p) (gN 0):=by exact λnd _ _ _ _ _=>sgn nd)(hs:∀x,foldedSetIterable iter X.env x=pure x:=by intro _;rfl):JE X (.ListComp elt [⟨.Name x p,iter,[],0⟩] scope pos) (aG it k is (gN 0) aI f) :=
 zeo hcalm hi (hg nd) (λ_ _ _ _ _=>zjn) he S hs
theorem sa1   (ha:JE X a f)(hp:plainE a=true:=by rfl):JA X [a] (aB f aC):=ze ha zbc hp
theorem sa2   (ha:JE X a f)(hb:JE X b g)(hp:plainE a=true:=by rfl)(hq:plainE b=true:=by rfl):JA X [a,b] (aB f (aB g aC)):=ze ha (sa1 hb hq) hp
theorem sad   (ha:JE X a f)(hb:JE X b g):JE X (.BinOp a .Add b pos) (aS aM f g):=zda zus zbfc ha hb
theorem ssb   (ha:JE X a f)(hb:JE X b g):JE X (.BinOp a .Sub b pos) (aS oSub f g):=zda zbez (zge λ_ _ _ _=>.int _) ha hb
end
structure En where
 P:Program
 w:World
 K:Fg
 mg:Str->Option Value
 base:Heap
 h:Heap
 X:K.In h
 G:h.Ns mainGlobals mg
abbrev Cl (Y:En) (x:Str) (k:Nat) (ps:List Str) (F:DFn):Prop:=CalD Y.P Y.w Y.K Y.mg Y.base x k ps F
section
section
variable {Y:En}{x:Str}{au:Stmt}{ps:List Str}{k:Nat}{b:SS}
theorem cmk (N:List Str)(T:TopF Y.K x au)(hbody:N.Nodup->∀(f:Addr) (cdv:Value) (A:Around) (outer:List Env) (s:Shared) (H:Hp) (E:XK),Room k (A.deeper (envOfC x (defScope au) s.heap.objs.size f cdv))->JB (cxOf CX0 Y.P Y.w Y.K Y.mg Y.base N x (defScope au) f cdv A outer s H E).nox (defBody au) b)
 (S:FnScope N ps (defScope au):=by exact⟨rfl,rfl,rfl,by decide +kernel,rfl,by decide +kernel,by decide +kernel⟩)
 (bd:∀(kV doc pm:Value) (an:Option Addr) (cdv ct:Value) (us:List Value),us.length=ps.length->bindArgs (W.fnOf x x (defArgs au) (defBody au) (defScope au) .none kV doc pm an cdv ct) ⟨us,[]⟩=pure (ps.zip us):=by
  first | exact λ_ _ _ _ _ _ us hl=>len1 us hl λ_=>rfl | exact λ_ _ _ _ _ _ us hl=>len2 us hl λ_ _=>rfl | exact λ_ _ _ _ _ _ us hl=>len3 us hl λ_ _ _=>rfl | exact λ_ _ _ _ _ _ us hl=>len4 us hl λ_ _ _ _=>rfl | exact λ_ _ _ _ _ _ us hl=>len0 us hl rfl) :
 Cl Y x (k+1) ps (fnD N.length ps.length b):=zwr T Y.X Y.G S bd (hbody S.nd)
end
end
end Dd
namespace L2
open PySem PySem.Spec PyProof.Rows PySem.W
def rSortDI:List V->Hp->VK->Prop:=λxs H Q=>∃(a:Addr) (ns:List Int) (kvs:List (Key×V)),xs=[.ref a]/\Rd H a (.dK kvs)/\kvs.map (·.1)=ns.map Sum.inl/\ns.length<=10000 /\
 ∀(q:Addr) (ms:List Int),H q=none->ms.Perm ns->ms.Pairwise (·<=·)->Q (.ref q) (upd H q (.lst (ms.map V.int)))
theorem zhs {X:Cx}(hc:X.calm=true):CallR X (.builtin "sorted") rSortDI:=by
 intro aU s σ H xs us Q I r h;obtain⟨a,ns,kvs,rfl,e,ek,few,q⟩:=h;obtain⟨u,rfl,ru⟩:=vals1 r;cases ru;obtain⟨z,hd,vs,rel,dd⟩:=zbgj I.hok e;obtain⟨ep,da⟩:∃ep,s.heap.DictAt (mixKind X.prog X.w) a vs ep:=by
  obtain⟨o,es,ep,h⟩:=dd;exact⟨ep,o,es,h⟩
 have kk:vs.map (·.1)=ns.map Sum.inl:=rel.keys.symm.trans ek;have hln:vs.length=ns.length:=by have:=congrArg List.length kk;simpa using this
 refine Srt.zgu (W.kdl_dict (prog:=X.prog) (w:=X.w) (knd:=mixKind X.prog X.w) (kvs:=vs) (ep:=ep) hd) (I.ok.hd hc) da (small10000 (by lia)) λxs hl hv=>?_
 have rv:Vals (ns.map V.int) xs:=by
  have:∀(l:List Int) (ys:List Value) (i:Nat),ns.drop i=l->xs.drop i=ys->l.length=ys.length->Vals (l.map V.int) ys:=λl=>by
   induction l with
   | nil=>intro ys i _ _ h;cases ys with
    | nil=>exact .nil
    | cons y ys=>cases h
   | cons n l ih =>
    intro ys i h1 h2 h3;cases ys with
    | nil=>cases h3
    | cons y ys =>
     have g1:ns[i]?=some n:=by rw[← List.head?_drop,h1];rfl
     have g2:xs[i]?=some y:=by rw[← List.head?_drop,h2];rfl
     have g3:(vs.map (·.1))[i]?=some (Sum.inl n):=by rw[kk,xcp,g1];rfl
     obtain⟨k,x,hi,hk⟩:=hv i y g2;rw[xcp,hi] at g3;have e1:k=Sum.inl n:=xcs g3;subst e1;refine .cons ?_ (ih ys (i+1) (by rw[← List.tail_drop,h1];rfl) (by rw[← List.tail_drop,h2];rfl) (by simpa using h3));rcases zbh (show keyIs (Sum.inl n) y=true from hk) with⟨j,t,e1,rfl⟩ | ⟨j,t,e1,rfl⟩
     ·cases e1;exact⟨t,rfl⟩
     ·cases e1
  exact this ns xs 0 rfl rfl (by lia)
 refine⟨Srt.rank (ones ns),zwm rv,λh2 g tk keep=>zxd (by lia) rv,λp b g tk c p1 p2 keep ne eg=>?_⟩;have lv:xs.length=ns.length:=by lia
 rw[lv] at p1 p2;obtain⟨ms,q1,q2,q3⟩:=zup rv p1 p2;refine⟨.ref b,_,I.laidN (o:=.lst (ms.map V.int)) keep ne ⟨?_,_,c,q3,by simpa using eg⟩,rfl,q b ms (I.away ne) q1 q2⟩;rw[xbb,q1.length_eq];exact small10000 (by lia)
end L2
namespace Dd
open PySem L2 PyProof.Rows
def bSortDI:List D->Store->Res D:=λxs au=>match xs with
 | [.ref n]=>match au[n]? with
  | some (.dI kvs)=>if kvs.length<=10000 then .ok (.lst ((sortI (kvs.map (·.1))).map .int)) au else .stuck
  | _=>.stuck
 | _=>.stuck
theorem zrp {K:Fg}:CaD K bSortDI rSortDI:=λρ H au xs us z st' Q rp aa e q=>by
 unfold bSortDI at e;split at e
 ·split at e
  ·rename_i n kvs hn;split at e
   ·rename_i few;cases e;obtain⟨u,rfl,a⟩:=aa.one;obtain⟨p,rfl,hp,vs,g1,g2⟩:=zef rp a hn (by intro z;cases z);refine⟨p,kvs.map (·.1),vs,rfl,.inl g1,g2.keys,by simpa using few,λt ms ht hp hs=>?_⟩;have e2:ms=sortI (kvs.map (·.1)):=zts hp hs;subst e2;exact q _ _ _ (Ext.new ht _) (rp.new ht _) (.newL rp ht (zhd _))
   ·cases e
  ·cases e
 ·cases e
end Dd
namespace Dd
open PySem L2
def zgq:DFn:=fnD 5 2 (aD (aF 2 (eC (.int 0)))
 (aD (sIf (eB (aS oLtT (aA 1) (aE bLen (aB (aA 0) aC)))) (aF 2 (aE bAbs (aB (aS oIx (aA 0) (aA 1)) aC))) sNx)
 (aD (aF 3 (aS aM (aS oMulI (eC (.int 7919)) (aA 1)) (eC (.int 17))))
 (aD (sFor (iR1 (aB (aE bMin2 (aB (aE bLen (aB (aA 0) aC)) (aB (eC (.int 60)) aC))) aC)) (gN 4) (aF 3 (aS oMod (aS aM (aS aM (aS oMulI (aA 3) (eC (.int 48271))) (aS oMod (aS oIx (aA 0) (aA 4)) (eC (.int 2147483647)))) (aA 4)) (eC (.int 2147483629)))))
 (aD (sIf (eB (aS oLtT (aA 2) (aS oPow (eC (.int 10)) (eC (.int 18))))) (aF 2 (eC (.int 0))) sNx)
 (sRet (eLstM (aB (aA 2) (aB (aA 3) aC)))))))))
def zr:DFn:=fnD 5 2 (aD (sIf (eB (aS oGt (aS oIx (aA 0) (eC (.int 0))) (eC (.int 0)))) (aD (aF 2 (aS oMod (aS oIx (aA 0) (eC (.int 0))) (aA 1)))
 (aD (sSetIx (aA 0) (eC (.int 0)) (aS oFdiv (aS oIx (aA 0) (eC (.int 0))) (aA 1)))
 (sRet (aA 2)))) sNx)
 (aD (aF 3 (eC (.int 0)))
 (aD (aF 4 (eC (.int 1)))
 (aD (sWhile (eB (aS oLtT (aA 4) (aA 1))) (aD (sSetIx (aA 0) (eC (.int 1)) (aS oMod (aS aM (aS oMulI (aS oIx (aA 0) (eC (.int 1))) (eC (.int 48271))) (eC (.int 7919))) (eC (.int 2147483647))))
 (aD (aF 3 (aS aM (aS oMulI (aA 3) (eC (.int 1073741789))) (aS oMod (aS oMulI (aS oFdiv (aS oIx (aA 0) (eC (.int 1))) (eC (.int 8))) (eC (.int 69621))) (eC (.int 1073741789)))))
 (aF 4 (aS oMulI (aA 4) (eC (.int 1073741789)))))))
 (sRet (aS oMod (aA 3) (aA 1)))))))
def zpu:DFn:=fnD 2 2 (sIf (eB (aS (oDIn false) (aA 1) (aA 0))) (sDrop (eDPop (aA 0) (aA 1))) (sDPut (aA 0) (aA 1) (eC (.bl true))))
def zfw:SS:=(sDPut (aA 1) (aA 2) (eNot (eDGet2 (aA 1) (aA 2) (eC (.bl false)))))
def zca:DFn:=fnD 3 1 (aD (aF 1 eDNew)
 (aD (sFor (aH (aA 0)) (gN 2) zfw)
 (sRet (aE bTuple (aB (aE bSorted (aB (aG (iDict (aA 1)) 1 [1] (gN 0) (eTru (aS oDGet (aA 1) (aA 0))) (aA 0)) aC)) aC)))))
def zbg:DFn:=fnD 1 1 (sRet (eAnd (aE bIsinst (aB (aA 0) (aB (eC (.ty "int")) aC))) (eNot (aE bIsinst (aB (aA 0) (aB (eC (.ty "bool")) aC))))))
def zde:DFn:=fnD 1 1 (sRet (aS oIx (eLst (aB (eC (.int 1)) (aB (eC (.int 2)) (aB (eC (.int 2)) (aB (eC (.int 2)) (aB (eC (.int 3)) (aB (eC (.int 3)) (aB (eC (.int 3)) (aB (eC (.int 4)) (aB (eC (.int 4)) (aB (eC (.int 5)) (aB (aS aM (eC (.int 5)) (aE zr (aB (aA 0) (aB (eC (.int 6)) aC)))) aC)))))))))))) (aE zr (aB (aA 0) (aB (eC (.int 11)) aC)))))
def zfr:SS:=(aD (sIf (bOr (bNot (eTru (aE bIsinst (aB (aA 2) (aB (eC (.ty "tuple")) aC))))) (eB (aS oNe (aE bLen (aB (aA 2) aC)) (aA 0)))) (sRet (eC (.bl false))) sNx)
 (sIf (bNot (eTru (aE (bAny true) (aB (aG (aH (aA 2)) 1 [] (gN 0) aI (eAnd (aE zbg (aB (aA 0) aC)) (aS oGe (aA 0) (eC (.int 0))))) aC)))) (sRet (eC (.bl false))) sNx))
def zcx:DFn:=fnD 3 2 (aD (sIf (bNot (eTru (aE bIsinst (aB (aA 1) (aB (eC (.ty "tuple")) aC))))) (sRet (eC (.bl false))) sNx)
 (aD (sFor (aH (aA 1)) (gN 2) zfr)
 (sRet (aE (bAny true) (aB (aG (iZipT (aB (aA 1) (aB (eSl (aA 1) (pSome (eC (.int 1))) pNone) aC))) 2 [] (gT 2 (gsCons (gN 0) (gsCons (gN 1) gsNil))) aI (aS oLtT (aA 0) (aA 1))) aC)))))
def zkx:SS:=(aD (sIf (eB (aS oGe (aA 4) (aA 1))) (sDrop (eAppend (aA 3) (aB (aA 4) aC))) sNx)
 (aD (sIf (eB (aS oEq (aA 4) (aA 0))) sBrk sNx)
 (aF 4 (aS oAndI (aS oSub (aA 4) (aA 0)) (aA 0)))))
def zmh:DFn:=fnD 5 3 (aD (aF 3 (eLstM aC))
 (aD (aF 4 (eC (.int 0)))
 (aD (sWhile (eB (aS oLe (aA 4) (aA 2))) zkx)
 (sRet (eFz (aA 3))))))
def zdp:SS:=(sDrop (eAppend (aA 3) (aB (aR (aB (aS aM (aA 4) (aR (aB (aS aM (aA 1) (aA 6)) aC))) (aB (aS oSub (aA 5) (aA 6)) aC))) aC)))
def zdo:SS:=(sFor (aH (aE zmh (aB (aA 1) (aB (aS oSub (aA 5) (aA 2)) (aB (aA 5) aC))))) (gN 6) zdp)
def zch:DFn:=fnD 7 3 (aD (aF 3 (eLstM aC))
 (aD (sFor (aH (aA 0)) (gT 2 (gsCons (gN 4) (gsCons (gN 5) gsNil))) zdo)
 (sRet (eFz (aA 3)))))
def zdd:SS:=(aD (sAug 3 (oI (λ_ _=>True) λi j=>.int (i - j)) (aA 4))
 (aF 2 (aE zch (aB (aA 2) (aB (aA 4) (aB (aA 3) aC))))))
def zbz:DFn:=fnD 5 2 (aD (aF 2 (eLst (aB (aR (aB (aR aC) (aB (aA 1) aC))) aC)))
 (aD (aF 3 (aE bSum (aB (aA 0) aC)))
 (aD (sFor (aH (aA 0)) (gN 4) zdd)
 (sRet (aG (aH (aA 2)) 2 [] (gT 2 (gsCons (gN 0) (gsCons (gN 1) gsNil))) aI (aA 0))))))
def zkz:SS:=(sDrop (aE zpu (aB (aA 2) (aB (aA 4) aC))))
def zky:SS:=(sIf (eB (aS oLe (aA 1) (aE bSum (aB (aA 3) aC)))) (sFor (aH (aE zbz (aB (aA 3) (aB (aA 1) aC)))) (gN 4) zkz) sNx)
def zmi:DFn:=fnD 5 2 (aD (sIf (bOr (bNot (eTru (aE zbg (aB (aA 1) aC)))) (eB (aS oLtT (aA 1) (eC (.int 0))))) sStuck sNx)
 (aD (aF 2 eDNew)
 (aD (sFor (aH (aA 0)) (gN 3) zky)
 (sRet (aE bTuple (aB (aE bSorted (aB (aA 2) aC)) aC))))))
def zhu:SS:=(sDrop (aE zpu (aB (aA 1) (aB (aA 2) aC))))
def zgp:DFn:=fnD 3 1 (aD (aF 1 eDNew)
 (aD (sFor (aH (aA 0)) (gN 2) zhu)
 (sRet (aE bTuple (aB (aE bSorted (aB (aA 1) aC)) aC)))))
def zdr:SS:=(aD (aF 7 (aE zr (aB (aA 0) (aB (aS aM (aA 3) (eC (.int 1))) aC))))
 (aD (sIf (eB (aS oEq (aA 5) (eC (.int 0)))) (aF 7 (aE (bBest true) (aB (aG (aH (aR (aB (eC (.int 0)) (aB (eC (.int 1)) (aB (eC (.int 3)) (aB (eC (.int 7)) (aB (eC (.int 15)) aC))))))) 1 [7] (gN 0) (eB (aS oLe (aA 0) (aA 1))) (aA 0)) aC))) sNx)
 (aD (sDrop (eAppend (aA 4) (aB (aA 7) aC)))
 (aF 3 (aS oSub (aA 3) (aA 7))))))
def zci:DFn:=fnD 9 3 (aD (aF 3 (aA 2))
 (aD (aF 4 (eLstM aC))
 (aD (aF 5 (aE zr (aB (aA 0) (aB (eC (.int 3)) aC))))
 (aD (sFor (iR1 (aB (aS oSub (aA 1) (eC (.int 1))) aC)) (gN 6) zdr)
 (aD (sDrop (eAppend (aA 4) (aB (aA 3) aC)))
 (aD (aF 8 (aE zr (aB (aA 0) (aB (aA 1) aC))))
 (sRet (aE bTuple (aB (aS aM (eSl (aA 4) (pSome (aA 8)) pNone) (eSl (aA 4) pNone (pSome (aA 8)))) aC)))))))))
def zfp:SS:=(sDrop (eExtend (aA 6) (aB (aG (iR1 (aB (aS aM (aE bMin2 (aB (aA 5) (aB (aA 8) aC))) (eC (.int 1))) aC)) 1 [7,8,5] (gN 0) (eB (aS oEq (aS oAndI (aA 3) (aA 0)) (aA 0))) (aR (aB (aS aM (aA 1) (aR (aB (aS aM (aA 3) (aA 0)) aC))) (aB (aS oSub (aA 2) (aA 0)) aC)))) aC)))
def zdf:SS:=(aD (aF 6 (eLstM aC))
 (aD (sFor (aH (aA 4)) (gT 2 (gsCons (gN 7) (gsCons (gN 8) gsNil))) zfp)
 (aF 4 (eFz (aA 6)))))
def zfo:SS:=(aD (aF 4 (eLst (aB (aR (aB (aR aC) (aB (aA 1) aC))) aC)))
 (aD (sFor (aH (aA 3)) (gN 5) zdf)
 (sDrop (eExtend (aA 2) (aB (aG (aH (aA 4)) 2 [] (gT 2 (gsCons (gN 0) (gsCons (gN 1) gsNil))) (eB (aS oEq (aA 1) (eC (.int 0)))) (aA 0)) aC)))))
def zbu:DFn:=fnD 9 2 (aD (aF 2 (eLstM aC))
 (aD (sFor (aH (aA 0)) (gN 3) zfo)
 (sRet (aE zca (aB (eFz (aA 2)) aC)))))
def zfi:DFn:=fnD 2 2 (sRet (aS oEq (aS oMod (aE bLen (aB (aG (aH (aA 0)) 1 [1] (gN 0) (eB (aS (oInG false) (aA 0) (aA 1))) (aA 0)) aC)) (eC (.int 2))) (eC (.int 1))))
def zea:DFn:=fnD 2 2 (aD (sIf (bOr (bNot (eTru (aE bIsinst (aB (aA 1) (aB (eC (.ty "tuple")) aC))))) (eB (aS oNe (aE bLen (aB (aA 1) aC)) (aA 0)))) (sRet (eC (.bl false))) sNx)
 (sRet (aE (bAny true) (aB (aG (aH (aA 1)) 1 [] (gN 0) aI (eAnd (aE zbg (aB (aA 0) aC)) (aS oGe (aA 0) (eC (.int 0))))) aC))))
def zcc:SS:=(aF 2 (aS oFdiv (aS oMulW (aA 2) (aS aM (aA 1) (aA 3))) (aA 3)))
def zbe:DFn:=fnD 4 2 (aD (aF 2 (eC (.int 1)))
 (aD (sFor (iR2 (aB (eC (.int 1)) (aB (aA 0) aC))) (gN 3) zcc)
 (sRet (aA 2))))
def zik:DFn:=fnD 1 1 (sRet (aE bSortSetM (aB (aG (aH (aA 0)) 1 [] (gN 0) aI (aE bSum (aB (aA 0) aC))) aC)))
def zev:DFn:=fnD 1 1 (sRet (eIf (eB (aS oLe (aA 0) (eC (.int 3)))) (eC (.int 24)) (eC (.int 10))))
def zcj:DFn:=fnD 2 2 (sRet (eAnd (aS oLe (aA 1) (aE zev (aB (aA 0) aC))) (aS oLe (aE zbe (aB (aA 0) (aB (aA 1) aC))) (eC (.int 200)))))
def zil:DFn:=fnD 2 2 (aD (sIf (bNot (eTru (aE zcj (aB (aA 0) (aB (aA 1) aC))))) sStuck sNx)
 (sRet (aA 1)))
def zcw:DFn:=fnD 3 2 (aD (aF 2 (aE zik (aB (aA 1) aC)))
 (aD (sIf (eB (aS oGt (aE bLen (aB (aA 2) aC)) (eC (.int 1)))) sStuck sNx)
 (sRet (eIf (eTru (aA 2)) (aE zil (aB (aA 0) (aB (aS oIx (aA 2) (eC (.int 0))) aC))) (eC .non)))))
def zdz:DFn:=fnD 3 2 (aD (aF 2 (aS oIx (eLst (aB (eC (.int 24)) (aB (eC (.int 24)) (aB (eC (.int 18)) (aB (eC (.int 8)) (aB (eC (.int 5)) (aB (eC (.int 4)) (aB (eC (.int 3)) (aB (eC (.int 3)) (aB (eC (.int 3)) (aB (eC (.int 2)) aC))))))))))) (aS oSub (aA 1) (eC (.int 1)))))
 (sRet (aS oIx (eLst (aB (aA 2) (aB (aE zr (aB (aA 0) (aB (aS aM (aA 2) (eC (.int 1))) aC))) aC))) (aE bInt (aB (aS oGt (aE zr (aB (aA 0) (aB (eC (.int 3)) aC))) (eC (.int 0))) aC)))))
def zpt:SS:=(sDrop (eExtend (aA 4) (aB (aG (iR1 (aB (aS aM (aA 6) (eC (.int 1))) aC)) 1 [5,6] (gN 0) aI (aR (aB (aS aM (aA 1) (aR (aB (aA 0) aC))) (aB (aS oSub (aA 2) (aA 0)) aC)))) aC)))
def zps:SS:=(aD (aF 4 (eLstM aC))
 (aD (sFor (aH (aA 2)) (gT 2 (gsCons (gN 5) (gsCons (gN 6) gsNil))) zpt)
 (aF 2 (eFz (aA 4)))))
def zmj:DFn:=fnD 7 2 (aD (aF 2 (eLst (aB (aR (aB (aR aC) (aB (aA 1) aC))) aC)))
 (aD (sFor (iR1 (aB (aS oSub (aA 0) (eC (.int 1))) aC)) (gN 3) zps)
 (sRet (aG (aH (aA 2)) 2 [] (gT 2 (gsCons (gN 0) (gsCons (gN 1) gsNil))) aI (aS aM (aA 0) (aR (aB (aA 1) aC)))))))
def zcb:DFn->SS:=λfF=>(sDrop (eExtend (aA 2) (aB (aG (aH (aE fF (aB (aS oSub (aA 0) (eC (.int 1))) (aB (aS oSub (aA 1) (aA 3)) aC)))) 1 [3] (gN 0) aI (aS aM (aR (aB (aA 1) aC)) (aA 0))) aC)))
def zo:DFn->DFn:=λfF=>fnD 4 2 (aD (sIf (eB (aS oEq (aA 0) (eC (.int 1)))) (sRet (eLst (aB (aR (aB (aA 1) aC)) aC))) sNx)
 (aD (aF 2 (eLstM aC))
 (aD (sFor (iR1 (aB (aS aM (aA 1) (eC (.int 1))) aC)) (gN 3) (zcb fF))
 (sRet (eFz (aA 2))))))
def zeb:SS:=(aD (sDrop (eAppend (aA 1) (aB (aA 2) aC)))
 (aF 2 (aS oMulI (eC (.int 2)) (aA 2))))
def zcp:DFn:=fnD 3 1 (aD (aF 1 (eLstM aC))
 (aD (aF 2 (eC (.int 1)))
 (aD (sWhile (eB (aS oLe (aS oMulI (eC (.int 2)) (aA 2)) (aA 0))) zeb)
 (sRet (eFz (aA 1))))))
def zcv:SS:=(sDrop (eExtend (aA 2) (aB (aG (aH (aE (iterF zo 10) (aB (aA 0) (aB (aS oSub (aA 1) (aA 3)) aC)))) 1 [3] (gN 0) aI (aR (aB (aA 1) (aB (aA 0) aC)))) aC)))
def zbt:DFn:=fnD 4 2 (aD (aF 2 (eLstM aC))
 (aD (sFor (aH (aE zcp (aB (aA 1) aC))) (gN 3) zcv)
 (sRet (eFz (aA 2)))))
def zhv:SS:=(aD (aF 3 (aS oIGet (aA 0) (eBits (aA 1))))
 (aD (aF 1 (aS oXorI (aA 1) (aS oIx (aA 3) (eC (.int 0)))))
 (aF 2 (aS oXorI (aA 2) (aS oIx (aA 3) (eC (.int 1)))))))
def zdq:DFn:=fnD 4 2 (aD (aF 2 (eC (.int 0)))
 (aD (sWhile (bAnd (eTru (aA 1)) (eB (aS (oIIn false) (eBits (aA 1)) (aA 0)))) zhv)
 (sRet (aR (aB (aA 1) (aB (aA 2) aC))))))
def zgr:SS:=(aF 2 (aS oOrI (aA 2) (aS oShl (eC (.int 1)) (aS oDGet (aA 0) (aA 3)))))
def zcs:DFn:=fnD 4 2 (aD (aF 2 (eC (.int 0)))
 (aD (sFor (aH (aA 1)) (gN 3) zgr)
 (sRet (aA 2))))
def zgs:SS:=(aD (aF 7 (aE zdq (aB (aA 3) (aB (aE zcs (aB (aA 2) (aB (aE zmi (aB (aR (aB (aA 6) aC)) (aB (aA 5) aC))) aC))) aC))))
 (sIf (eTru (aS oIx (aA 7) (eC (.int 0)))) (aD (sIPut (aA 3) (eBits (aS oIx (aA 7) (eC (.int 0)))) (aR (aB (aS oIx (aA 7) (eC (.int 0))) (aB (aS oOrI (aS oIx (aA 7) (eC (.int 1))) (aS oShl (eC (.int 1)) (aE bLen (aB (aA 4) aC)))) aC))))
 (sDrop (eAppend (aA 4) (aB (aR (aB (aA 5) (aB (aA 6) aC))) aC)))) sNx))
def zfj:DFn:=fnD 8 3 (aD (aF 3 eDNewI)
 (aD (aF 4 (eLstM aC))
 (aD (sFor (aH (aE zbt (aB (aA 0) (aB (aA 1) aC)))) (gT 2 (gsCons (gN 5) (gsCons (gN 6) gsNil))) zgs)
 (sRet (aR (aB (aA 3) (aB (eFz (aA 4)) aC)))))))
def zgn:SS:=(sDPut (aA 1) (aA 3) (aA 2))
def zfh:DFn:=fnD 4 1 (aD (aF 1 eDNew)
 (aD (sFor (iEn0 (aA 0)) (gT 2 (gsCons (gN 2) (gsCons (gN 3) gsNil))) zgn)
 (sRet (aA 1))))
def zfq:SS:=(aD (aF 5 (aS aM (eC (.int 1)) (aE zr (aB (aA 0) (aB (aE bMin2 (aB (aA 2) (aB (eC (.int 8)) aC))) aC)))))
 (sDrop (eExtend (aA 3) (aB (aE bList (aB (aE zbu (aB (aR (aB (aE zci (aB (aA 0) (aB (aA 1) (aB (aS oSub (aA 2) (aA 5)) aC)))) aC)) (aB (aA 5) aC))) aC)) aC))))
def zds:DFn:=fnD 7 3 (aD (aF 3 (eLstM aC))
 (aD (sFor (iR1 (aB (aS oIx (eLst (aB (eC (.int 1)) (aB (aS aM (eC (.int 1)) (aE zr (aB (aA 0) (aB (eC (.int 3)) aC)))) aC))) (aE bInt (aB (aS oLtT (aA 1) (eC (.int 4))) aC))) aC)) (gN 4) zfq)
 (aD (aF 6 (aE zca (aB (eFz (aA 3)) aC)))
 (aD (sIf (eB (aS oGt (aE bLen (aB (aA 6) aC)) (aS oIx (eLst (aB (eC (.int 8)) (aB (eC (.int 40)) aC))) (aE bInt (aB (aS oLtT (aA 1) (eC (.int 4))) aC))))) (sRet (aR aC)) sNx)
 (sRet (aA 6))))))
def zki:SS:=(sIf (eTru (aE zfi (aB (aA 4) (aB (aE zbu (aB (aR (aB (aA 6) aC)) (aB (aS oSub (aA 3) (aA 5)) aC))) aC)))) (sRet (eC .non)) sNx)
def zkh:SS:=(sFor (aH (aE zmj (aB (aA 0) (aB (aA 5) aC)))) (gN 6) zki)
def zdg:SS:=(aD (sIf (bOr (bNot (eTru (aE bIsinst (aB (aA 8) (aB (eC (.ty "tuple")) aC))))) (bOr (eB (aS oNe (aE bLen (aB (aA 8) aC)) (eC (.int 2)))) (bOr (bNot (eTru (aE zbg (aB (aS oIx (aA 8) (eC (.int 0))) aC)))) (eB (aS oLtT (aS oIx (aA 8) (eC (.int 0))) (eC (.int 1))))))) (sRet (eC .non)) sNx)
 (aD (sIf (bOr (bNot (eTru (aE zcx (aB (aA 0) (aB (aS oIx (aA 8) (eC (.int 1))) aC))))) (eTru (aE (bAny false) (aB (aG (aH (aS oIx (aA 8) (eC (.int 1)))) 1 [3,8] (gN 0) aI (aS oNe (aE bSum (aB (aA 0) aC)) (aS oSub (aA 1) (aS oIx (aA 2) (eC (.int 0)))))) aC)))) (sRet (eC .non)) sNx)
 (sDrop (eExtend (aA 7) (aB (aE bList (aB (aE zbu (aB (aS oIx (aA 8) (eC (.int 1))) (aB (aS oIx (aA 8) (eC (.int 0))) aC))) aC)) aC)))))
def zbv:DFn:=fnD 9 3 (aD (sIf (bOr (bNot (eTru (aE bIsinst (aB (aA 2) (aB (eC (.ty "tuple")) aC))))) (bOr (eB (aS oNe (aE bLen (aB (aA 2) aC)) (eC (.int 4)))) (bOr (eB (aS oNe (eSl (aA 2) (pSome (eC (.int 1))) (pSome (eC (.int 3)))) (aR (aB (aA 0) (aB (aA 1) aC))))) (bNot (eTru (aE zbg (aB (aS oIx (aA 2) (eC (.int 1))) aC))))))) (sRet (eC .non)) sNx)
 (aD (aF 3 (aE (bMaxD 0) (aB (aG (aH (aA 1)) 1 [] (gN 0) aI (aE bSum (aB (aA 0) aC))) aC)))
 (aD (sIf (eB (aS oEq (aS oIx (aA 2) (eC (.int 0))) (eC (.str "not")))) (aD (aF 4 (aS oIx (aA 2) (eC (.int 3))))
 (aD (sIf (bOr (bNot (eTru (aE zcx (aB (aA 0) (aB (aA 4) aC))))) (bOr (eB (aS oEq (aE bLen (aB (aA 4) aC)) (eC (.int 0)))) (eTru (aE (bAny false) (aB (aG (aH (aA 4)) 1 [3] (gN 0) aI (aS oNe (aE bSum (aB (aA 0) aC)) (aA 1))) aC))))) (sRet (eC .non)) sNx)
 (aD (sFor (iR1 (aB (aA 3) aC)) (gN 5) zkh)
 (sRet (aS oIx (eLst (aB (eC (.str "not")) (aB (eC .non) aC))) (aE bInt (aB (eNot (aE zfi (aB (aA 4) (aB (aA 1) aC)))) aC))))))) sNx)
 (aD (sIf (bOr (eB (aS oNe (aS oIx (aA 2) (eC (.int 0))) (eC (.str "raised")))) (bOr (bNot (eTru (aE bIsinst (aB (aS oIx (aA 2) (eC (.int 3))) (aB (eC (.ty "tuple")) aC))))) (eB (aS oGt (aE bLen (aB (aS oIx (aA 2) (eC (.int 3))) aC)) (eC (.int 200)))))) (sRet (eC .non)) sNx)
 (aD (aF 7 (eLstM aC))
 (aD (sFor (aH (aS oIx (aA 2) (eC (.int 3)))) (gN 8) zdg)
 (aD (sIf (bOr (bAnd (eB (aS oEq (aA 1) (aR aC))) (eB (aS oNe (aS oIx (aA 2) (eC (.int 3))) (aR aC)))) (eB (aS oNe (aE zca (aB (eFz (aA 7)) aC)) (aA 1)))) (sRet (eC .non)) sNx)
 (sRet (eC (.str "raised"))))))))))
def zid:SS:=(aD (aF 0 (aS oAndI (aA 0) (aS oSub (aA 0) (eC (.int 1)))))
 (sAug 1 (oI (λ_ _=>True) λi j=>.int (i+j)) (eC (.int 1))))
def zdy:DFn:=fnD 2 1 (aD (aF 1 (eC (.int 0)))
 (aD (sWhile (eTru (aA 0)) zid)
 (sRet (aA 1))))
def zjz:SS:=(sIf (eB (aS oEq (aS oMod (aE zdy (aB (aS oAndI (aA 2) (aS oIx (aS oIGet (aA 0) (aA 3)) (eC (.int 0)))) aC)) (eC (.int 2))) (eC (.int 1)))) (aF 2 (aS oOrI (aA 2) (aS oShl (eC (.int 1)) (aS oSub (aA 3) (eC (.int 1)))))) sNx)
def zet:DFn:=fnD 4 2 (aD (aF 2 (aS oShl (eC (.int 1)) (aS oSub (aA 1) (eC (.int 1)))))
 (aD (sFor (aH (aE bSortDI (aB (aA 0) aC))) (gN 3) zjz)
 (sRet (aA 2))))
def zht:SS:=(sIf (bNot (eTru (aE zea (aB (aA 0) (aB (aA 3) aC))))) sStuck sNx)
def zij:DFn:=fnD 4 2 (aD (sFor (iEn0 (aA 1)) (gT 2 (gsCons (gN 2) (gsCons (gN 3) gsNil))) zht)
 (sRet (aE zgp (aB (aA 1) aC))))
def zeu:SS:=(sIf (eTru (aS oAndI (aS oShr (aA 2) (aA 4)) (eC (.int 1)))) (sDrop (eAppend (eSetDI (aA 3) (aB (aS oIx (aA 5) (eC (.int 0))) (aB (eLstM aC) aC))) (aB (aS oIx (aA 5) (eC (.int 1))) aC))) sNx)
def zgo:DFn:=fnD 6 3 (aD (aF 3 eDNewI)
 (aD (sFor (iEn0 (aA 1)) (gT 2 (gsCons (gN 4) (gsCons (gN 5) gsNil))) zeu)
 (sRet (aE bTuple (aB (aG (aH (aE bSortDI (aB (aA 3) aC))) 1 [0,3] (gN 0) aI (aR (aB (aA 0) (aB (aE zij (aB (aA 1) (aB (eFz (aS oIGet (aA 2) (aA 0))) aC))) aC)))) aC)))))
def zew:DFn:=fnD 8 2 (aD (aF 2 (aE zcw (aB (aA 0) (aB (aA 1) aC))))
 (aD (sIf (eB (aS (oIsN false) (aA 2) (eC .non))) (sRet (aR (aB (eC (.str "raised")) (aB (aA 0) (aB (aA 1) (aB (aR aC) aC)))))) sNx)
 (aD (aF 3 (aE (iterF zo 10) (aB (aA 0) (aB (aA 2) aC))))
 (aD (aF 4 (aE zfh (aB (aA 3) aC)))
 (aD (aF 5 (aE zfj (aB (aA 0) (aB (aA 2) (aB (aA 4) aC)))))
 (aD (aF 6 (aE zdq (aB (aS oIx (aA 5) (eC (.int 0))) (aB (aE zcs (aB (aA 4) (aB (aA 1) aC))) aC))))
 (aD (sIf (eB (aS oEq (aS oIx (aA 6) (eC (.int 0))) (eC (.int 0)))) (sRet (aR (aB (eC (.str "raised")) (aB (aA 0) (aB (aA 1) (aB (aE zgo (aB (aA 0) (aB (aS oIx (aA 5) (eC (.int 1))) (aB (aS oIx (aA 6) (eC (.int 1))) aC)))) aC)))))) sNx)
 (aD (aF 7 (aE zet (aB (aS oIx (aA 5) (eC (.int 0))) (aB (eBits (aS oIx (aA 6) (eC (.int 0)))) aC))))
 (sRet (aR (aB (eC (.str "not")) (aB (aA 0) (aB (aA 1) (aB (aE bTuple (aB (aG (aH (aA 3)) 1 [7,4] (gN 0) (eTru (aS oAndI (aS oShr (aA 1) (aS oDGet (aA 2) (aA 0))) (eC (.int 1)))) (aA 0)) aC)) aC))))))))))))))
def zxl:SS:=(sIf (eB (aS oNe (aE zbv (aB (aA 5) (aB (aA 4) (aB (aE zew (aB (aA 5) (aB (aA 4) aC))) aC)))) (eC (.str "raised")))) (sRet (eC (.bl false))) sNx)
def zxk:SS:=(aD (aF 2 (aE zgq (aB (aA 0) (aB (aA 1) aC))))
 (aD (aF 3 (aE zde (aB (aA 2) aC)))
 (aD (aF 4 (aE zds (aB (aA 2) (aB (aA 3) (aB (aE bMax2 (aB (eC (.int 1)) (aB (aE zdz (aB (aA 2) (aB (aA 3) aC))) aC))) aC)))))
 (aD (sIf (eB (aS oNe (aE zbv (aB (aA 3) (aB (aA 4) (aB (aE zew (aB (aA 3) (aB (aA 4) aC))) aC)))) (eC (.str "raised")))) (sRet (eC (.bl false))) sNx)
 (aD (aF 5 (aE bMin2 (aB (aA 3) (aB (eC (.int 3)) aC))))
 (aD (aF 4 (aE zds (aB (aA 2) (aB (aA 5) (aB (aS aM (eC (.int 1)) (aE zr (aB (aA 2) (aB (eC (.int 12)) aC)))) aC)))))
 (aD (sFor (iR1 (aB (eC (.int 2)) aC)) (gN 6) zxl)
 (sIf (eB (aS oNe (aE zew (aB (aA 3) (aB (aR aC) aC))) (aR (aB (eC (.str "raised")) (aB (aA 3) (aB (aR aC) (aB (aR aC) aC))))))) (sRet (eC (.bl false))) sNx))))))))
def zbsr:DFn:=fnD 7 1 (aD (sFor (iR1 (aB (aS aM (aE bMin2 (aB (eC (.int 2)) (aB (aE bLen (aB (aA 0) aC)) aC))) (eC (.int 1))) aC)) (gN 1) zxk)
 (sRet (eC (.bl true))))
noncomputable def RngOk (j:Int):Prop:=-(2 ^ 62)<=j/\j < 2 ^ 62
instance (j:Int):Decidable (RngOk j):=by unfold RngOk;infer_instance
theorem rngOk  (h1:-1000000000000<=j)(h2:j<=1000000000000):RngOk j:=⟨by lia,by lia⟩
section
@[simp] theorem eC_v :eC d σ au=.ok d au:=rfl
@[simp] theorem zbqs :aA i σ au=(match σ[i]? with
 | some (some d)=>.ok d au
 | _=>.stuck):=rfl
@[simp] theorem zbup  :aS g f f' σ au=(f σ au).bind λx st1=>(f' σ st1).bind λy st2=>g x y st2:=rfl
@[simp] theorem zbvl  :eUn g f σ au=(f σ au).bind λx st1=>g x st1:=rfl
@[simp] theorem zbcs  :aE g f σ au=(f σ au).bind λxs st1=>g xs st1:=rfl
@[simp] theorem zbsn:aC σ au=.ok [] au:=rfl
@[simp] theorem zxi  :aB f g σ au=(f σ au).bind λx st1=>(g σ st1).bind λxs st2=>.ok (x::xs) st2:=rfl
@[simp] theorem eB_v :eB f σ au=(f σ au).bind λv st1=>(match v with
 | .bl b=>.ok b st1
 | _=>.stuck):=rfl
@[simp] theorem zblj :eTru f σ au=(f σ au).bind λv st1=>(match tru st1 v with
 | some b=>.ok b st1
 | none=>.stuck):=rfl
@[simp] theorem zbqw :eAnd f f' σ au=(f σ au).bind λv st1=>(match v with
 | .bl true=>f' σ st1
 | .bl false=>.ok (.bl false) st1
 | _=>.stuck):=rfl
@[simp] theorem zbuo :eOr f f' σ au=(f σ au).bind λv st1=>(match v with
 | .bl true=>.ok (.bl true) st1
 | .bl false=>f' σ st1
 | _=>.stuck):=rfl
@[simp] theorem zblk :eNot f σ au=(f σ au).bind λv st1=>(match v with
 | .bl b=>.ok (.bl (!b)) st1
 | _=>.stuck):=rfl
@[simp] theorem zbsk :bAnd f f' σ au=(f σ au).bind λb st1=>if b=true then f' σ st1 else .ok false st1:=rfl
@[simp] theorem zbvh :bOr f f' σ au=(f σ au).bind λb st1=>if b=true then .ok true st1 else f' σ st1:=rfl
@[simp] theorem zbvi :bNot f σ au=(f σ au).bind λb st1=>.ok (!b) st1:=rfl
@[simp] theorem zbvg:aI σ au=.ok true au:=rfl
@[simp] theorem zbuq  :eIf c f f' σ au=(c σ au).bind λb st1=>if b=true then f σ st1 else f' σ st1:=rfl
@[simp] theorem zbqt :aR g σ au=(g σ au).bind λxs st1=>if xs.length<=sizeLine then .ok (.tup xs) st1 else .stuck:=rfl
@[simp] theorem zbqu :eLst g σ au=(g σ au).bind λxs st1=>if xs.length<=sizeLine then .ok (.lst xs) st1 else .stuck:=rfl
@[simp] theorem zbll :eLstM g σ au=(g σ au).bind λxs st1=>if xs.length<=sizeLine then .ok (.ref st1.length) (st1++[.lst xs]) else .stuck:=rfl
@[simp] theorem zbqv  :eChain g g' f f' f'' σ au=(f σ au).bind λx st1=>(f' σ st1).bind λy st2=>(g x y st2).bind λz st3=>(match z with
 | .bl true=>(f'' σ st3).bind λw st4=>g' y w st4
 | .bl false=>.ok (.bl false) st3
 | _=>.stuck):=rfl
@[simp] theorem zbth:eDNew σ au=.ok (.ref au.length) (au++[.dT []]):=rfl
@[simp] theorem zbvk:sNx σ au=.ok (.nx σ) au:=rfl
@[simp] theorem zbtv:sBrk σ au=.ok (.brk σ) au:=rfl
@[simp] theorem zbof :sRet f σ au=(f σ au).bind λv st1=>.ok (.ret v) st1:=rfl
@[simp] theorem zbsv:sRetN σ au=.ok (.ret .non) au:=rfl
@[simp] theorem zbsw :sDrop f σ au=(f σ au).bind λ_ st1=>.ok (.nx σ) st1:=rfl
@[simp] theorem zbts  :aF i f σ au=(f σ au).bind λv st1=>.ok (.nx (σ.set i (some v))) st1:=rfl
@[simp] theorem zboe :aD s t σ au=(match s σ au with
 | .ok (.nx σ1) st1=>t σ1 st1
 | r=>r):=rfl
@[simp] theorem zbtt  :sIf c s t σ au=(c σ au).bind λb st1=>if b=true then s σ st1 else t σ st1:=rfl
@[simp] theorem zboh   :sAug i g f σ au=(match σ[i]? with
 | some (some x)=>(f σ au).bind λy st1=>(g x y st1).bind λz st2=>.ok (.nx (σ.set i (some z))) st2
 | _=>.stuck):=rfl
@[simp] theorem zbtu   :sFor it bd body σ au=(it σ au).bind λxs st1=>forF bd body xs σ st1:=rfl
@[simp] theorem zbqn :aH f σ au=(f σ au).bind λx st1=>(match seqV x with
 | some xs=>.ok xs st1
 | none=>.stuck):=rfl
@[simp] theorem zbul :iR1 g σ au=(g σ au).bind λxs st1=>(match xs with
 | [.int j]=>if RngOk j then .ok (rng 0 j.toNat) st1 else .stuck
 | _=>.stuck):=rfl
@[simp] theorem zbuk  : iR2 g σ au=(g σ au).bind λxs st1=>(match xs with
  | [.int i,.int j]=>if RngOk i/\RngOk j then .ok (rng i (j - i).toNat) st1 else .stuck
  | _=>.stuck):=by
  show(g σ au).bind _=_
  congr 1
  funext xs st1
  split
  · unfold RngOk
    simp only[and_assoc]
  · rename_i h
    first
      | rfl
      | (split
         · rename_i i j
           exact absurd rfl (h i j)
         · rfl)
@[simp] theorem zbtd :iDict f σ au=(f σ au).bind λx st1=>(match x with
 | .ref n=>(match st1[n]? with
  | some (.dT kvs)=>.ok (aJ (kvs.map (·.1))) (st1.set n (.fT kvs))
  | _=>.stuck)
 | _=>.stuck):=rfl
@[simp] theorem zbcr      :aG it k is bd c f σ au=(it σ au).bind λxs st1=>if xs.length<=sizeLine then(compF bd c f xs (aT k is σ) st1).bind λys st2=>.ok (.lst ys) st2 else .stuck:=rfl
@[simp] theorem zbur :eFz f σ au=(f σ au).bind λx st1=>(match x with
 | .ref n=>(match st1[n]? with
  | some (.lst xs)=>.ok (.lst xs) (st1.set n .dead)
  | _=>.stuck)
 | _=>.stuck):=rfl
@[simp] theorem zbtb:pNone σ au=.ok none au:=rfl
@[simp] theorem zbjs :pSome f σ au=(f σ au).bind λv st1=>(match v with
 | .int i=>.ok (some i) st1
 | _=>.stuck):=rfl
@[simp] theorem zbun  {lo:DS->Store->Res (Option Int)}:eSl f lo hi σ au=(f σ au).bind λx st1=>(lo σ st1).bind λl st2=>(hi σ st2).bind λh st3=>(match x with
 | .tup xs=>.ok (.tup (cutD xs l h)) st3
 | x=>match asL st3 x with
  | some xs=>.ok (.lst (cutD xs l h)) st3
  | none=>.stuck):=rfl
@[simp] theorem zbah  :eAppend f g σ au=(f σ au).bind λx st1=>(match x,asL st1 x with
 | .ref n,some _=>(g σ st1).bind λys st2=>(match ys,st2[n]? with
  | [y],some (.lst xs)=>if xs.length < sizeLine then .ok .non (st2.set n (.lst (xs++[y]))) else .stuck
  | _,_=>.stuck)
 | _,_=>.stuck):=rfl
@[simp] theorem zbag  :eExtend f g σ au=(f σ au).bind λx st1=>(match x,asL st1 x with
 | .ref n,some _=>(g σ st1).bind λys st2=>(match ys,st2[n]? with
  | [y],some (.lst xs)=>(match asL st2 y with
   | some zs=>if xs.length+zs.length<=sizeLine then .ok .non (st2.set n (.lst (xs++zs))) else .stuck
   | none=>.stuck)
  | _,_=>.stuck)
 | _,_=>.stuck):=rfl
@[simp] theorem zbea :sSetIx f g h σ au=(h σ au).bind λv st1=>(f σ st1).bind λx st2=>(g σ st2).bind λy st3=>(match x,y with
 | .ref n,.int k=>(match st3[n]? with
  | some (.lst xs)=>(match ixN xs.length k with
   | some j=>.ok (.nx σ) (st3.set n (.lst (xs.set j v)))
   | none=>.stuck)
  | _=>.stuck)
 | _,_=>.stuck):=rfl
@[simp] theorem zbgc :eDGet2 f g h σ au=(f σ au).bind λx st1=>(match pairsOf st1 x with
 | some _=>(g σ st1).bind λy st2=>(h σ st2).bind λz st3=>(match pairsOf st3 x,keyOf y with
  | some kvs,some k=>.ok ((valD kvs k).getD z) st3
  | _,_=>.stuck)
 | none=>.stuck):=rfl
@[simp] theorem zbtg :eDPop f g σ au=(f σ au).bind λx st1=>(match pairsOf st1 x with
 | some _=>(g σ st1).bind λy st2=>(match x,keyOf y with
  | .ref n,some k=>(match st2[n]? with
   | some (.dT kvs)=>(match valD kvs k with
    | some v=>.ok v (st2.set n (.dT (dropD kvs k)))
    | none=>.stuck)
   | _=>.stuck)
  | _,_=>.stuck)
 | none=>.stuck):=rfl
@[simp] theorem zbip :sDPut f g h σ au=(h σ au).bind λv st1=>(f σ st1).bind λx st2=>(g σ st2).bind λy st3=>(match x,keyOf y with
 | .ref n,some k=>(match st3[n]? with
  | some (.dT kvs)=>if kvs.length < sizeLine then .ok (.nx σ) (st3.set n (.dT (putD kvs k v))) else .stuck
  | _=>.stuck)
 | _,_=>.stuck):=rfl
theorem zbtf   :fnD n np b ds au=if ds.length=np then(match b (ds.map some++List.replicate (n - np) none) au with
 | .ok (.ret v) st'=>.ok v st'
 | .ok (.nx _) st'=>.ok .non st'
 | .exc x st'=>.exc x st'
 | _=>.stuck) else .stuck:=rfl
end
section
@[simp] theorem oI_v  [DecidableRel C] :oI C h (.int i) (.int j) au=if C i j then .ok (h i j) au else .stuck:=rfl
@[simp] theorem zbuj:aM (.int i) (.int j) au=.ok (.int (i+j)) au:=rfl
@[simp] theorem zbps :aM (.tup a) (.tup b) au=if a.length+b.length<=sizeLine then .ok (.tup (a++b)) au else .stuck:=rfl
@[simp] theorem zbuf:oLtT (.int i) (.int j) au=.ok (.bl (decide (i < j))) au:=rfl
@[simp] theorem zbud:oNeg (.int i) au=.ok (.int (-i)) au:=rfl
@[simp] theorem zbf (ns:List Int):asInts (ns.map .int)=some ns:=by
 induction ns with
 | nil=>rfl
 | cons n ns ih=>rw[xbs,asInts,ih];rfl
@[simp] theorem zbnd (l:List (List Int)):asRows (aJ l)=some l:=by
 induction l with
 | nil=>rfl
 | cons n ns ih =>
  unfold aJ at ih ⊢;rw[xbs,asRows,zbf,ih];rfl
@[simp] theorem zfb (ns:List Int):keyOf (aL ns)=some ns:=zbf ns
theorem zmb:dataOf au (.int i)=some (.int i):=rfl
@[simp] theorem zbui:oEq (.int i) (.int j) au=.ok (.bl (decide (i=j))) au:=by
 show oEqG false (.int i) (.int j) au=_;unfold oEqG;rw[zmb,zmb];dsimp only;rw[if_pos ⟨rfl,rfl⟩];show Res.ok (D.bl (i==j)) au=_;rw[show(i==j)=decide (i=j) from by rw[xfp];simp]
@[simp] theorem zbue:oNe (.int i) (.int j) au=.ok (.bl (!decide (i=j))) au:=by
 show oEqG true (.int i) (.int j) au=_;unfold oEqG;rw[zmb,zmb];dsimp only;rw[if_pos ⟨rfl,rfl⟩];show Res.ok (D.bl (!(i==j))) au=_;rw[show(i==j)=decide (i=j) from by rw[xfp];simp]
theorem zban (ns:List Int):toDatas (ns.map .int)=some (dI ns):=by
 induction ns with
 | nil=>rfl
 | cons n ns ih=>rw[xbs,toDatas,ih];rfl
theorem zbam (l:List (List Int)):toDatas (aJ l)=some (l.map dRow):=by
 induction l with
 | nil=>rfl
 | cons n ns ih =>
  unfold aJ at ih ⊢;rw[xbs,toDatas,ih,toData,zban];rfl
abbrev aK (l:List (List Int)):D:=.tup (aJ l)
theorem zwb (l:List (List Int)):dataOf au (aK l)=some (.tuple (l.map dRow)):=by
 show(toDatas (aJ l)).map PyData.tuple=_;rw[zbam];rfl
theorem znj  (a b:List (List Int)):oEqG neg (aK a) (aK b) au=.ok (.bl (if neg then !decide (a=b) else decide (a=b))) au:=by
 unfold oEqG;rw[zwb,zwb];dsimp only;rw[if_pos ⟨zjq a,zjq b⟩];have e:PyData.eqv (.tuple (a.map dRow)) (.tuple (b.map dRow))=decide (a=b):=zrg a b;rw[e]
theorem small (n:Nat)(h:n<=1000000):n<=sizeLine:=by rw[xji];lia
theorem smallT (n:Nat)(h:n<=1000000):n < sizeLine:=by rw[xji];lia
end
theorem zbcn   (I:Nat->DS->Store->Prop):∀(xs:List D) (k:Nat) (σ:DS) (au:Store),I k σ au ->
  (∀i x σ au,xs[i]?=some x->I (k+i) σ au->∃σ1 σ2 st2,bd x σ=some σ1/\body σ1 au=.ok (.nx σ2) st2/\I (k+i+1) σ2 st2)->∃σ' st',forF bd body xs σ au=.ok (.nx σ') st'/\I (k+xs.length) σ' st'
 | [],k,σ,au,h,_=>⟨σ,au,rfl,h⟩
 | x::xs,k,σ,au,h,s=>by
  obtain⟨σ1,σ2,st2,e1,e2,h2⟩:=s 0 x σ au rfl h;obtain⟨σ',st',e3,h3⟩:=zbcn I xs (k+1) σ2 st2 h2 λi y σ au hy hi=>by
   have:=s (i+1) y σ au (by simpa using hy) (by rw[show k+(i+1)=k+1+i by lia];exact hi);rw[show k+(i+1)+1=k+1+i+1 by lia] at this;exact this
  refine⟨σ',st',?_,by rw[xcc,show k+(xs.length+1)=k+1+xs.length by lia];exact h3⟩;unfold forF;rw[e1];dsimp only;rw[e2];exact e3
theorem zblf   (I:Nat->DS->Store->Prop)    (h0:I 0 σ au)
  (s:∀i x σ au,xs[i]?=some x->I i σ au->∃σ1 σ2 st2,bd x σ=some σ1/\body σ1 au=.ok (.nx σ2) st2/\I (i+1) σ2 st2):∃σ' st',forF bd body xs σ au=.ok (.nx σ') st'/\I xs.length σ' st':=by
 have:=zbcn I xs 0 σ au h0 λi x σ au hx hi=>by
  rw[xep] at hi ⊢;exact s i x σ au hx hi
 rw[xep] at this;exact this
theorem zboj {lo:Int}   (h:(rng lo n)[i]?=some x):i < n/\x=.int (lo+i):=zkk h
theorem zgb (lo:Int)(n:Nat):(rng lo n).length=n:=by simp[rng]
theorem zpk    (I:Nat->List D->DS->Store->Prop):∀(xs:List D) (k:Nat) (acc:List D) (σ:DS) (au:Store),I k acc σ au ->
  (∀i x acc σ au,xs[i]?=some x->I (k+i) acc σ au->∃σ1 b st1,bd x σ=some σ1/\c σ1 au=.ok b st1/\((b=false/\I (k+i+1) acc σ1 st1)\/(b=true/\∃y st2,f σ1 st1=.ok y st2/\I (k+i+1) (acc++[y]) σ1 st2))) ->
  ∃ys σ' st',compF bd c f xs σ au=.ok ys st'/\I (k+xs.length) (acc++ys) σ' st'
 | [],k,acc,σ,au,h,_=>⟨[],σ,au,rfl,by rw[xdm];exact h⟩
 | x::xs,k,acc,σ,au,h,s=>by
  have s':∀i y acc σ au,xs[i]?=some y->I (k+1+i) acc σ au->∃σ1 b st1,bd y σ=some σ1/\c σ1 au=.ok b st1/\((b=false/\I (k+1+i+1) acc σ1 st1)\/(b=true/\∃z st2,f σ1 st1=.ok z st2/\I (k+1+i+1) (acc++[z]) σ1 st2)):=λi y acc σ au hy hi=>by
   have:=s (i+1) y acc σ au (by simpa using hy) (by rw[show k+(i+1)=k+1+i by lia];exact hi);rw[show k+(i+1)+1=k+1+i+1 by lia] at this;exact this
  obtain⟨σ1,b,st1,e1,e2,h2⟩:=s 0 x acc σ au rfl h;rcases h2 with⟨rfl,h2⟩ | ⟨rfl,y,st2,e3,h2⟩
  ·obtain⟨ys,σ',st',e4,h3⟩:=zpk I xs (k+1) acc σ1 st1 h2 s';refine⟨ys,σ',st',?_,by rw[xcc,show k+(xs.length+1)=k+1+xs.length by lia];exact h3⟩;unfold compF;rw[e1];dsimp only;rw[e2];exact e4
  ·obtain⟨ys,σ',st',e4,h3⟩:=zpk I xs (k+1) (acc++[y]) σ1 st2 h2 s';refine⟨y::ys,σ',st',?_,by rw[xcc,show k+(xs.length+1)=k+1+xs.length by lia];rw[xck] at h3;exact h3⟩;unfold compF;rw[e1];dsimp only;rw[e2];dsimp only[zdm];rw[if_pos rfl,e3];dsimp only[zdm];rw[e4]
   rfl
theorem zbmn    (I:Nat->List D->DS->Store->Prop)    (h0:I 0 [] σ au)
  (s:∀i x acc σ au,xs[i]?=some x->I i acc σ au->∃σ1 b st1,bd x σ=some σ1/\c σ1 au=.ok b st1/\((b=false/\I (i+1) acc σ1 st1)\/(b=true/\∃y st2,f σ1 st1=.ok y st2/\I (i+1) (acc++[y]) σ1 st2))) :
  ∃ys σ' st',compF bd c f xs σ au=.ok ys st'/\I xs.length ys σ' st':=by
 have:=zpk I xs 0 [] σ au h0 λi x acc σ au hx hi=>by
  rw[xep] at hi ⊢;exact s i x acc σ au hx hi
 rw[xep] at this
 simpa using this
theorem zxv   (I:Nat->DS->Store->Prop)(post:DS->Store->Prop)    (h0:I k σ au)(hm:k < wCap)
  (s:∀j σ au,I j σ au->∃b st1,c σ au=.ok b st1/\((b=false/\post σ st1)\/(b=true/\∃i σ2 st2,body σ st1=.ok (.nx σ2) st2/\I i σ2 st2/\i < j))):∃σ' st',sWhile c body σ au=.ok (.nx σ') st'/\post σ' st':=by
 have main:∀n j σ au,I j σ au->j < n->∃σ' st',whileF c body n σ au=.ok (.nx σ') st'/\post σ' st':=by
  intro n
  induction n with
  | zero=>intro j σ au _ h;lia
  | succ n ih =>
   intro j σ au hI hlt;obtain⟨b,st1,e1,h⟩:=s j σ au hI;unfold whileF;rw[e1];dsimp only[zdm];rcases h with⟨rfl,h⟩ | ⟨rfl,i,σ2,st2,e2,h2,h3⟩
   ·exact⟨σ,st1,by rw[if_neg (by decide)],h⟩
   ·obtain⟨σ',st',e3,h4⟩:=ih i σ2 st2 h2 (by lia);refine⟨σ',st',?_,h4⟩;rw[if_pos rfl,e2];exact e3
 exact main wCap k σ au h0 hm
section
@[simp] theorem zbng:seqOf au (.tup xs)=some xs:=rfl
@[simp] theorem zbnh:seqOf au (.scr xs)=some xs:=rfl
@[simp] theorem zbni:seqOf au (.lst xs)=some xs:=rfl
@[simp] theorem zbob:seqV (.tup xs)=some xs:=rfl
@[simp] theorem zbod:seqV (.lst xs)=some xs:=rfl
@[simp] theorem zboc:seqV (.scr xs)=some xs:=rfl
@[simp] theorem zbtl:asL au (.lst xs)=some xs:=rfl
theorem zkw (h:au[n]?=some (.lst xs)):asL au (.ref n)=some xs:=by
 unfold asL;dsimp only;rw[h]
theorem zqi (h:au[n]?=some (.lst xs)):seqOf au (.ref n)=some xs:=zkw h
theorem zuy   (h:seqOf au x=some xs)(h2:L2.atI xs i=some d):oIx x (.int i) au=.ok d au:=by
 unfold oIx;rw[h];dsimp only;rw[h2]
@[simp] theorem zbsh:bLen [.tup xs] au=.ok (.int xs.length) au:=rfl
@[simp] theorem zbsj:bLen [.lst xs] au=.ok (.int xs.length) au:=rfl
@[simp] theorem zbsi:bLen [.scr xs] au=.ok (.int xs.length) au:=rfl
@[simp] theorem zbvj:bAbs [.int i] au=.ok (.int (if i < 0 then -i else i)) au:=rfl
@[simp] theorem zbvm  :b2I g [.int i,.int j] au=.ok (.int (g i j)) au:=rfl
@[simp] theorem zbsg :bSum [aL ns] au=.ok (.int ns.sum) au:=by
 unfold bSum;simp
@[simp] theorem zbmz:bTuple [.tup xs] au=.ok (.tup xs) au:=rfl
@[simp] theorem zwy:bTuple [.lst xs] au=.ok (.tup xs) au:=rfl
theorem zpq {l:List (List Int)}(h:l.length<=1000000):bSorted [.lst (aJ l)] au=.ok (.lst (aJ (sortR l))) au:=by
 unfold bSorted;simp[h]
theorem zpr  (h:au[n]?=some (.dT kvs))(hl:kvs.length<=1000000):bSorted [.ref n] au=.ok (.lst (aJ (sortR (kvs.map (·.1))))) au:=by
 unfold bSorted asL pairsOf;simp[h,hl]
theorem zxa {j:Nat}  (h:xs[j]?=some d):L2.atI xs (j:Int)=some d:=zbdg h
theorem zmv {au:Store}  (h:n < au.length):(au.set n o)[n]?=some o:=xdt h
section
variable {au:Store}{n:Nat}
theorem zcl {o:O}(h:au[n]?=some o):n < au.length:=(xbj.mp h).1
end
section
variable {au:Store}{n:Nat}{i:Int}
theorem zboa {o:O}(h:au[n]?=some o):au.set n o=au:=by
 apply xkx;intro i;by_cases e:i=n
 ·subst e;rw[xdt (zcl h),h]
 ·rw[xcm (xcx e)]
end
end
theorem zvv   {ds:List D}   (h:ds.length=np)(e:b (ds.map some++List.replicate (n - np) none) au=.ok (.ret v) st'):fnD n np b ds au=.ok v st':=by
 rw[zbtf,if_pos h,e]
theorem zbte   {ds:List D}   (h:ds.length=np)(e:b (ds.map some++List.replicate (n - np) none) au=.ok (.nx σ) st'):fnD n np b ds au=.ok .non st':=by
 rw[zbtf,if_pos h,e]
noncomputable abbrev bagO (c x:Int):O:=.lst [.int c,.int x]
def BagAt (au:Store) (n:Nat):Prop:=∃c x:Int,au[n]?=some (bagO c x)/\0<=c/\0<=x
structure Drew (au st':Store) (n:Nat):Prop where
 len:au.length<=st'.length
 keep:∀ i,i < au.length->i≠n->st'[i]?=au[i]?
 bag:BagAt st' n
theorem Drew.trans   (a:Drew au st1 n)(b:Drew st1 st2 n):Drew au st2 n :=
 ⟨xbc a.len b.len,λi h1 h2=>(b.keep i (xbk h1 a.len) h2).trans (a.keep i h1 h2),b.bag⟩
theorem Drew.set {au:Store}{n:Nat}{c x:Int}(h:BagAt au n)(hc:0<=c)(hx:0<=x):Drew au (au.set n (bagO c x)) n:=by
 obtain⟨_,_,e,_⟩:=h;exact⟨by rw[xex];exact xbg _,λi _ h2=>xcm (xcx h2),c,x,zmv (zcl e),hc,hx⟩
theorem Drew.more {au:Store}{n:Nat}(h:BagAt au n)(g:Store):Drew au (au++g) n:=by
 obtain⟨c,x,e,h1,h2⟩:=h;exact⟨by rw[xbh];lia,λi h _=>xcg h,c,x,by rw[xcg (zcl e)];exact e,h1,h2⟩
theorem zbih {au:Store}{n:Nat}{m:Int}(hb:BagAt au n)(h1:1<=m)(h2:m < 2 ^ 1000) :
  ∃r st',zr [.ref n,.int m] au=.ok (.int r) st'/\0<=r/\r < m/\Drew au st' n/\st'.length=au.length:=by
 obtain⟨c,x,hn,hc,hx⟩:=id hb;have s0:∀{c x:Int} {au:Store},au[n]?=some (bagO c x)->oIx (.ref n) (.int 0) au=.ok (.int c) au:=λh=>zuy (zqi h) rfl
 have s1:∀{c x:Int} {au:Store},au[n]?=some (bagO c x)->oIx (.ref n) (.int 1) au=.ok (.int x) au:=λh=>zuy (zqi h) rfl
 by_cases h0:0 < c
 ·have d1:CDivP c m:=⟨by lia,h2⟩
  have e0:ixN 2 0=some 0:=rfl;refine⟨c % m,au.set n (bagO (c / m) x),zvv rfl ?_,xkf _ (by lia),Int.emod_lt_of_pos _ (by lia),Drew.set hb (Int.ediv_nonneg hc (by lia)) hx,xex⟩;simp[s0 hn,h0,hn,e0,show(0:Int) < m by lia,d1]
 ·have hlen:=zcl hn
  have W:=zxv (c:=eB (aS oLtT (aA 4) (aA 1))) (body:=aD (sSetIx (aA 0) (eC (.int 1)) (aS oMod (aS aM (aS oMulI (aS oIx (aA 0) (eC (.int 1))) (eC (.int 48271))) (eC (.int 7919))) (eC (.int 2147483647))))
   (aD (aF 3 (aS aM (aS oMulI (aA 3) (eC (.int 1073741789))) (aS oMod (aS oMulI (aS oFdiv (aS oIx (aA 0) (eC (.int 1))) (eC (.int 8))) (eC (.int 69621))) (eC (.int 1073741789)))))
   (aF 4 (aS oMulI (aA 4) (eC (.int 1073741789)))))) (k:=1000) (σ:=[some (.ref n),some (.int m),none,some (.int 0),some (.int 1)]) (au:=au)
   (λj σ s=>∃c' x' nn rr:Int,σ=[some (.ref n),some (.int m),none,some (.int nn),some (.int rr)]/\s=au.set n (bagO c' x')/\0<=c'/\0<=x'/\0<=nn/\j<=1000/\2 ^ (1000 - j)<=rr)
   (λσ s=>∃c' x' nn:Int,(∃rr,σ=[some (.ref n),some (.int m),none,some (.int nn),some (.int rr)])/\s=au.set n (bagO c' x')/\0<=c'/\0<=x'/\0<=nn)
   ⟨c,x,0,1,rfl,(zboa hn).symm,hc,hx,by lia,by lia,by decide⟩ (by decide) (by
    rintro j σ s ⟨c',x',nn,rr,rfl,rfl,a1,a2,a3,a4,a5⟩;have g1:(au.set n (bagO c' x'))[n]?=some (bagO c' x'):=zmv hlen;by_cases hlt:rr < m
    ·have hj:1<=j:=by
      rcases xix j with z | z
      ·subst z;have a5':(2:Int) ^ 1000<=rr:=a5;lia
      ·exact z
     have e1:ixN 2 1=some 1:=rfl;have m1:CMul x' 48271:=.inr ⟨by decide,by decide⟩;have m2:CMul nn 1073741789:=.inr ⟨by decide,by decide⟩;have m3:CMul rr 1073741789:=.inr ⟨by decide,by decide⟩;have g2:∀y:Int,(au.set n (bagO c' y))[n]?=some (bagO c' y):=λy=>zmv hlen
     have m4:∀y:Int,CMul y 69621:=λy=>.inr ⟨by decide,by decide⟩
     have d8:∀y:Int,CDivP y 8:=λy=>⟨by decide,by decide +kernel⟩
     refine⟨true,au.set n (bagO c' x'),by simp[hlt],.inr ⟨rfl,j - 1,_,au.set n (bagO c' ((x' * 48271+7919) % 2147483647)),?_,⟨c',(x' * 48271+7919) % 2147483647,nn * 1073741789+(x' * 48271+7919) % 2147483647 / 8 * 69621 % 1073741789,rr * 1073741789,rfl,rfl,a1,?_,?_,by lia,?_⟩,by lia⟩⟩
     ·simp[s1 g1,g1,e1,m1,m2,m3,m4,d8,s1 (g2 _)]
     ·exact xkf _ (by lia)
     ·have a1:0<=nn * 1073741789:=Int.mul_nonneg a3 (by lia);have a2:=xkf ((x' * 48271+7919) % 2147483647 / 8 * 69621) (show(1073741789:Int)≠0 by lia);lia
     ·have e:(2:Int) ^ (1000 - (j - 1))=2 ^ (1000 - j) * 2:=by
       rw[← Int.pow_succ];congr 1;lia
      rw[e];have hp:(0:Int)<=2 ^ (1000 - j):=Int.pow_nonneg (by decide);lia
    ·exact⟨false,_,by simp[hlt],.inl ⟨rfl,c',x',nn,⟨rr,rfl⟩,rfl,a1,a2,a3⟩⟩)
  obtain⟨σ',st',e,c',x',nn,hσ,hst,k1,k2,k3⟩:=W;obtain⟨rr,rfl⟩:=hσ;subst hst;refine⟨nn % m,au.set n (bagO c' x'),zvv rfl ?_,xkf _ (by lia),Int.emod_lt_of_pos _ (by lia),Drew.set hb k1 k2,xex⟩;simp[s0 hn,h0,e,show(0:Int) < m by lia]
theorem zoa {ns:List Int}  (h:j < ns.length):L2.atI (ns.map D.int) (j:Int)=some (.int ns[j]):=zbdg (by rw[xcp,xbe h];rfl)
theorem zbsf  {ns:List Int}{i:Nat}(hl:ns.length<=63)(hi:i<=100000):∃c x:Int,0<=c/\0<=x/\zgq [.scr (ns.map .int),.int i] au=.ok (.ref au.length) (au++[bagO c x]):=by
 have cell:∃c:Int,0<=c/\sIf (eB (aS oLtT (aA 1) (aE bLen (aB (aA 0) aC)))) (aF 2 (aE bAbs (aB (aS oIx (aA 0) (aA 1)) aC))) sNx [some (.scr (ns.map .int)),some (.int i),some (.int 0),none,none] au
   = .ok (.nx [some (.scr (ns.map .int)),some (.int i),some (.int c),none,none]) au:=by
  by_cases h:i < ns.length
  ·have e:oIx (.scr (ns.map .int)) (.int i) au=.ok (.int ns[i]) au:=zuy rfl (zoa h);refine⟨if ns[i] < 0 then -ns[i] else ns[i],by split<;>lia,?_⟩;simp[h,e]
  ·exact⟨0,by lia,by simp[h]⟩
 obtain⟨c,hc,ec⟩:=cell;have hmin:(if(60:Int) < (ns.length:Int) then(60:Int) else ns.length).toNat<=ns.length:=by split<;>lia
 have W:=zblf (bd:=gN 4) (body:=aF 3 (aS oMod (aS aM (aS aM (aS oMulI (aA 3) (eC (.int 48271))) (aS oMod (aS oIx (aA 0) (aA 4)) (eC (.int 2147483647)))) (aA 4)) (eC (.int 2147483629))))
  (xs:=rng 0 (if(60:Int) < (ns.length:Int) then(60:Int) else ns.length).toNat) (σ:=[some (.scr (ns.map .int)),some (.int i),some (.int c),some (.int (7919 * i+17)),none]) (au:=au)
  (λj σ s=>s=au/\∃(mix:Int) (v:Option D),σ=[some (.scr (ns.map .int)),some (.int i),some (.int c),some (.int mix),v]/\0<=mix) ⟨rfl,_,none,rfl,by lia⟩ (by
   rintro j x σ s hx ⟨rfl,mix,v,rfl,hm⟩;obtain⟨hj,rfl⟩:=zboj hx;have hj2:j < ns.length:=by lia
   have e:oIx (.scr (ns.map .int)) (.int (0+j)) s=.ok (.int ns[j]) s:=zuy rfl (by rw[xhk];exact zoa hj2);rw[xhk] at e;have m1:CMul mix 48271:=.inr ⟨by decide,by decide⟩;refine⟨_,[some (.scr (ns.map .int)),some (.int i),some (.int c),some (.int ((mix * 48271+ns[j] % 2147483647+j) % 2147483629)),some (.int (0+j))],s,rfl,?_,rfl,_,_,rfl,xkf _ (by lia)⟩
   simp[e,m1])
 obtain⟨σ',st',e,rfl,mix,v,rfl,hm⟩:=W;have m0:CMul 7919 (i:Int):=.inl ⟨by decide,by decide⟩;have p0:CPow 10 18:=⟨by decide,by decide,by decide⟩
 have hr:RngOk (if(60:Int) < (ns.length:Int) then(60:Int) else ns.length):=by
  split<;>exact rngOk (by lia) (by lia)
 by_cases hlt:c < 1000000000000000000
 ·refine⟨0,mix,by lia,hm,zvv rfl ?_⟩;have hs:=small 2 (by lia);simp at ec;simp[ec,m0,hr,e,p0,hlt,hs]
 ·refine⟨c,mix,hc,hm,zvv rfl ?_⟩;have hs:=small 2 (by lia);simp at ec;simp[ec,m0,hr,e,p0,hlt,hs]
theorem seqN     (h:s σ au=.ok (.nx σ1) st1)(k:t σ1 st1=r):aD s t σ au=r:=by
 rw[zboe,h];exact k
noncomputable def aP (ks:List (List Int)) (k:List Int):List (List Int):=if k∈ks then ks.filter (λx=>decide (x≠k)) else ks++[k]
def aN (l:List (List Int)):List (List Int):=l.foldl aP []
theorem zig  :x∈aP ks k↔(x∈ks/\x≠k)\/(x=k/\k∉ks):=by
 unfold aP;split
 ·rename_i h;simp[xdy,h]
 ·rename_i h;simp only[xbx,xbt];constructor
  ·rintro(z | rfl)
   ·exact .inl ⟨z,λe=>h (e ▸ z)⟩
   ·exact .inr ⟨rfl,h⟩
  ·rintro(⟨z,_⟩ | ⟨z,_⟩)
   ·exact .inl z
   ·exact .inr z
theorem zsr {ks:List (List Int)}  (h:ks.Nodup):(aP ks k).Nodup:=by
 unfold aP;split
 ·exact h.filter _
 ·rename_i hk;rw[xjj];exact⟨h,by simp,λa ha b hb=>by simp at hb;subst hb;exact λe=>hk (e ▸ ha)⟩
theorem zph (ks:List (List Int))(k:List Int):(aP ks k).length<=ks.length+1:=by
 unfold aP;split
 ·exact xgh (xfs _ _)
 ·simp
theorem znh:∀(l ks:List (List Int)),ks.Nodup->(l.foldl aP ks).Nodup/\(l.foldl aP ks).length<=ks.length+l.length/\∀x,x∈l.foldl aP ks↔(l.count x+if x∈ks then 1 else 0) % 2=1
 | [],ks,h=>⟨h,by simp,λx=>by by_cases e:x∈ks<;>simp[e]⟩
 | a::l,ks,h=>by
  obtain⟨h1,h2,h3⟩:=znh l (aP ks a) (zsr h);refine⟨h1,?_,λx=>?_⟩
  ·have:=zph ks a;rw[xhq,xcc];lia
  ·rw[xhq,h3 x,xlq];by_cases e:x=a
   ·subst e;by_cases k:x∈ks
    ·have q:x∉aP ks x:=by rw[zig];simp[k]
     simp only[q,k,xeu,xec,xhc]<;>lia
    ·have q:x∈aP ks x:=by rw[zig];simp[k]
     simp only[q,k,xeu,xec,xhc]<;>lia
   ·have e':(a==x)=false:=by simpa using λz:a=x=>e z.symm
    by_cases k:x∈ks
    ·have q:x∈aP ks a:=by rw[zig];simp[k,e]
     simp[q,k,e']
    ·have q:x∉aP ks a:=by rw[zig];simp[k,e]
     simp[q,k,e']
theorem zej (l:List (List Int)):(aN l).Nodup:=(znh l [] xhb).1
theorem zcq (l:List (List Int)):(aN l).length<=l.length:=by have:=(znh l [] xhb).2.1;simpa [aN] using this
theorem zjb  :x∈aN l↔l.count x % 2=1:=by have:=(znh l [] xhb).2.2 x;simpa [aN] using this
theorem zkn {a b:List (List Int)}(h1:a.Nodup)(h2:b.Nodup)(h:∀x,x∈a↔x∈b):a.Perm b:=(xmr h1 h2).mpr h
theorem zrx {a:List (List Int)}(h:a.Perm b):sortR a=sortR b:=zld ((zct a).trans h) (zlc a)
def aO (l:List (List Int)):List (List Int):=sortR (aN l)
theorem zuw {l m:List (List Int)}(h1:m.Nodup)(h:∀x,x∈m↔l.count x % 2=1):sortR m=aO l:=zrx (zkn h1 (zej l) λx=>by rw[h,zjb])
theorem zbfb  :x∈aO l↔l.count x % 2=1:=by unfold aO;rw[(zct _).mem_iff,zjb]
theorem zcd   (h:x∈aO l):x∈l:=by
 rw[zbfb] at h;rcases xix (l.count x) with z | z
 ·rw[z] at h;cases h
 ·exact xiy.mp z
theorem zsk (l:List (List Int)):(aO l).length<=l.length:=by unfold aO;rw[zom];exact zcq l
theorem zei (l:List (List Int)):(aO l).Nodup:=(zct _).nodup_iff.mpr (zej l)
noncomputable abbrev aQ (ks:List (List Int)):List (List Int×D):=ks.map λk=>(k,.bl true)
theorem zqb  :valD (aQ ks) k=if k∈ks then some (.bl true) else none:=by
 induction ks with
 | nil=>rfl
 | cons a ks ih =>
  unfold valD aQ at ih ⊢;rw[xbs,xdn];by_cases e:a=k
  ·simp[e]
  ·simp only[xbz e];rw[ih];simp[xbm,show ¬ k=a from λz=>e z.symm]
theorem zvy  :dropD (aQ ks) k=aQ (ks.filter λx=>decide (x≠k)):=by
 unfold dropD aQ;rw[xlr]
 rfl
theorem zyt   (h:k∉ks):putD (aQ ks) k (.bl true)=aQ (ks++[k]):=by
 unfold putD;rw[if_neg]
 ·simp[aQ]
 ·simp only[List.any_map,xig,not_exists,not_and];intro x hx e;have:x=k:=by simpa using e
  exact h (this ▸ hx)
theorem zlg    (h:au[n]?=some (.dT kvs)):pairsOf au (.ref n)=some kvs:=by
 unfold pairsOf;dsimp only;rw[h]
theorem zbew    (h:au[n]?=some (.fT kvs)):pairsOf au (.ref n)=some kvs:=by
 unfold pairsOf;dsimp only;rw[h]
theorem zbkd     (h:pairsOf au (.ref n)=some kvs):oDIn false (aL k) (.ref n) au=.ok (.bl (valD kvs k).isSome) au:=by
 unfold oDIn;rw[zfb,h]
 rfl
theorem zuz      (h:pairsOf au (.ref n)=some kvs)(hv:valD kvs k=some v):oDGet (.ref n) (aL k) au=.ok v au:=by
 unfold oDGet;rw[zfb,h];dsimp only;rw[hv]
theorem zblg     (h:au[n]?=some (.dT (aQ ks)))(hl:ks.length<=1000000):zpu [.ref n,aL k] au=.ok .non (au.set n (.dT (aQ (aP ks k)))):=by
 have e1:=zbkd (k:=k) (zlg h);rw[zqb] at e1;by_cases hk:k∈ks
 ·refine zbte (σ:=[some (.ref n),some (aL k)]) rfl ?_;rw[if_pos hk] at e1;have e2:valD (aQ ks) k=some (.bl true):=by rw[zqb,if_pos hk]
  have e3:aP ks k=ks.filter λx=>decide (x≠k):=by unfold aP;rw[if_pos hk]
  rw[e3,← zvy];have e4:=zlg h;have e5:=zfb k;simp only[aL,aQ] at *
  simp[e1,e4,e5,h,e2]
 ·refine zbte (σ:=[some (.ref n),some (aL k)]) rfl ?_;rw[if_neg hk] at e1;have e3:aP ks k=ks++[k]:=by unfold aP;rw[if_neg hk]
  rw[e3,← zyt hk];have e5:=zfb k;have e6:(aQ ks).length < sizeLine:=by rw[xbb];exact smallT _ hl
  simp only[aL,aQ] at *
  simp[e1,e5,h,e6];rw[xbb] at e6;exact e6
theorem zcf {l:List (List Int)}{i:Nat}  (h:(aJ l)[i]?=some x):∃k,l[i]?=some k/\x=aL k:=by
 unfold aJ at h;rw[xcp] at h;cases e:l[i]? with
 | none=>rw[e] at h;cases h
 | some k=>rw[e] at h;exact⟨k,rfl,(xcs h).symm⟩
theorem zf (l:List (List Int)):(aJ l).length=l.length:=xbb _
theorem zj {α:Type}{l:List α}{i:Nat}{k:α}(h:l[i]?=some k):l.take (i+1)=l.take i++[k]:=by
 obtain⟨hi,e⟩:=xbj.mp h;rw[xih hi,e]
theorem zbru (xs:List D)(k:Nat):cutD xs none (some (k:Int))=xs.take k:=by
 unfold cutD;rw[HT.zuc,HT.zbbm,List.drop_zero,Nat.sub_zero];rcases Nat.le_total k xs.length with h | h
 ·rw[xez h]
 ·rw[xjq h,xch,xdj h]
theorem zwi (xs:List D)(k:Nat):cutD xs (some (k:Int)) none=xs.drop k:=by
 unfold cutD;rw[HT.zuc,HT.zbbm];rcases Nat.le_total k xs.length with h | h
 ·rw[xez h,xdj (by rw[xha];exact xbg _)]
 ·rw[xjq h,List.drop_length,List.drop_of_length_le h];simp
theorem zlw (l ks:List (List Int))(h:ks.Nodup):(l.foldl aP ks).length<=ks.length+l.length:=(znh l ks h).2.1
theorem zrw    (h:au[n]?=some (.dT (aQ ks)))(hl:ks.length<=1000000):bSorted [.ref n] au=.ok (.lst (aJ (sortR ks))) au:=by
 rw[zpr h (by rw[xbb];exact hl),xcv]
 congr 2
 exact congrArg (λl=>aJ (sortR l)) (xno ks)
end Dd
namespace K07
open PySem L2
theorem zeq (a b:Nat):Builtin.bitAnd (a:Int) (b:Int)=((a &&& b:Nat):Int):=rfl
theorem zzu (a b:Nat):(a &&& b=b)↔((a / 2 &&& b / 2=b / 2)/\¬ (b % 2=1/\a % 2=0)):=by
 have e1:(a &&& b) / 2=a / 2 &&& b / 2:=xls;have e2:(a &&& b) % 2=(a % 2) * (b % 2):=by
  have q:=@Nat.and_mod_two_eq_one a b;rcases xew a with h | h<;>rcases xew b with h' | h'<;>rw[h,h'] at q ⊢<;>lia
 constructor
 ·intro h;refine⟨by rw[← e1,h],?_⟩;rintro⟨h1,h2⟩;rw[h,h1,h2] at e2;lia
 ·rintro⟨h1,h2⟩;rw[← e1] at h1;have h3:(a &&& b) % 2=b % 2:=by
   rw[e2];rcases xew a with h | h<;>rcases xew b with h' | h'<;>simp[h,h']
   exact h2 ⟨h',h⟩
  lia
end K07
namespace K23
open PySem L2 K07
end K23
namespace Dd
open PySem L2 K07 K23
theorem zcr  :zbg [.int i] au=.ok (.bl true) au:=rfl
noncomputable def slowAt (r:List Int) (p:Nat):Prop:=∃a b:Int,r[p]?=some a/\r[p+1]?=some b/\a < 2 * b
instance (r:List Int) (p:Nat):Decidable (slowAt r p) :=
 match h1:r[p]?,h2:r[p+1]? with
 | some a,some b=>if h:a < 2 * b then .isTrue ⟨a,b,h1,h2,h⟩ else .isFalse λ⟨x,y,e1,e2,e3⟩=>by rw[h1] at e1;rw[h2] at e2;cases e1;cases e2;exact h e3
 | none,_=>.isFalse λ⟨x,y,e1,_⟩=>by rw[h1] at e1;cases e1
 | some _,none=>.isFalse λ⟨x,y,_,e2,_⟩=>by rw[h2] at e2;cases e2
theorem zbmk (r:List Int)(k:Nat):cutD (r.map .int) none (some (k:Int))=(r.take k).map .int:=by rw[zbru,List.map_take]
theorem zbas (r:List Int)(k:Nat):cutD (r.map .int) (some (k:Int)) none=(r.drop k).map .int:=by rw[zwi,List.map_drop]
structure CntG (f:Nat->D) (kvs:List (List Int×D)) (l:List (List Int)):Prop where
 nd:(kvs.map (·.1)).Nodup
 mem:∀k,k∈kvs.map (·.1)↔k∈l
 val:∀p∈kvs,p.2=f (l.count p.1)
 len:kvs.length<=l.length
theorem CntG.nil (f:Nat->D):CntG f [] []:=⟨xhb,λk=>by simp,λp h=>(by cases h),by simp⟩
theorem CntG.at    (h:CntG f kvs l)(k:List Int):valD kvs k=if k∈l then some (f (l.count k)) else none:=by
 have gen:∀kvs:List (List Int×D),(∀p∈kvs,p.2=f (l.count p.1))->valD kvs k=if k∈kvs.map (·.1) then some (f (l.count k)) else none:=by
  intro kvs
  induction kvs with
  | nil=>intro _;rfl
  | cons a kvs ih =>
   intro hv;have ih:=ih λp hp=>hv p (xbo _ hp)
   unfold valD at ih ⊢;rw[xdn];by_cases e:a.1=k
   ·have:=hv a xbq;simp only[e,xgm,Option.map_some,xbs,xbm,true_or,xeu];rw[this,e]
   ·simp only[xbz e];rw[ih];simp only[xbs,xbm,show ¬ k=a.1 from λz=>e z.symm,false_or]
 rw[gen kvs h.val];simp only[h.mem]
theorem CntG.put    (h:CntG f kvs l)(k:List Int):CntG f (putD kvs k (f (l.count k+1))) (l++[k]):=by
 have any:(kvs.any λkv=>decide (kv.1=k))=decide (k∈l):=by
  rw[xfp,xmy,← h.mem,xig,xbp];constructor
  ·rintro⟨x,hx,e⟩;exact⟨x,hx,by simpa using e⟩
  ·rintro⟨p,hp,e⟩;exact⟨p,hp,by simpa using e⟩
 unfold putD;rw[any];by_cases hk:k∈l
 ·rw[if_pos (by simpa using hk)];have keys:(kvs.map λkv=>if kv.1=k then(kv.1,f (l.count k+1)) else kv).map (·.1)=kvs.map (·.1):=by
   rw[xcv]
   congr 1
   funext p
   dsimp only[Function.comp];split<;>rfl
  refine⟨by rw[keys];exact h.nd,λx=>?_,λp hp=>?_,?_⟩
  ·rw[keys,h.mem,xbx,xbt];exact⟨.inl,λz=>z.elim id λe=>e ▸ hk⟩
  ·obtain⟨q,hq,rfl⟩:=xbp.mp hp;have:=h.val q hq;by_cases e:q.1=k
   ·rw[if_pos e];dsimp only;rw[e,xjk];simp
   ·rw[if_neg e,this,xjk];have:List.count q.1 [k]=0:=by rw[xgv];simpa using e
    rw[this];rfl
  ·rw[xbb,xbh];have:=h.len;lia
 ·rw[if_neg (by simpa using hk)];refine⟨?_,λx=>?_,λp hp=>?_,?_⟩
  ·rw[xdw,xjj];refine⟨h.nd,by simp,λa ha b hb=>?_⟩;simp at hb;subst hb;exact λe=>hk ((h.mem _).mp (e ▸ ha))
  ·rw[xdw,xbx,h.mem,xbx];simp
  ·rcases xbx.mp hp with hp | hp
   ·have e1:=h.val p hp;have e2:p.1≠k:=λe=>hk ((h.mem _).mp (e ▸ xbp.mpr ⟨p,hp,rfl⟩))
    rw[e1,xjk];have:List.count p.1 [k]=0:=by rw[xgv];simpa using e2
    rw[this];rfl
   ·simp at hp;subst hp;rw[xjk,xgv.mpr hk];simp
  ·rw[xbh,xbh];have:=h.len;simp;exact this
noncomputable def oddB (n:Nat):D:=.bl (decide (n % 2=1))
theorem zzh (n:Nat):oddB (n+1)=.bl (!decide (n % 2=1)):=by
 unfold oddB
 congr 1
 by_cases h:n % 2=1
 ·rw[xbw h,xbz (by lia)];rfl
 ·rw[xbz h,xbw (by lia)];rfl
theorem zso    (hx:seqV x=some (aJ l))(hl:l.length<=1000000)(ho:(aN l).length<=1000000):∃g,zca [x] au=.ok (aK (aO l)) (au++g):=by
 have W:=zblf (bd:=gN 2) (body:=zfw) (xs:=aJ l) (σ:=[some x,some (.ref au.length),none]) (au:=au++[.dT []])
  (λi σ s=>∃(v:Option D) (kvs:List (List Int×D)),σ=[some x,some (.ref au.length),v]/\s=au++[.dT kvs]/\CntG oddB kvs (l.take i)) ⟨none,[],rfl,rfl,CntG.nil _⟩ (by
   rintro i y σ s hy ⟨v,kvs,rfl,rfl,hc⟩;obtain⟨k,hk,rfl⟩:=zcf hy;have hc':=hc.put k;have hn:(au++[O.dT kvs])[au.length]?=some (.dT kvs):=by simp
   have e2:(valD kvs k).getD (.bl false)=.bl (decide ((l.take i).count k % 2=1)):=by
    rw[hc.at];split
    ·rfl
    ·rename_i z;rw[xgv.mpr z];rfl
   have e3:=zfb k;have e4:=zlg hn;have e5:kvs.length < sizeLine:=by
    have h1:=hc.len;have h2:(l.take i).length<=l.length:=by rw[xcz];exact xfu _ _
    exact smallT _ (by lia)
   refine⟨[some x,some (.ref au.length),some (aL k)],[some x,some (.ref au.length),some (aL k)],au++[.dT (putD kvs k (oddB ((l.take i).count k+1)))],rfl,?_,some (aL k),_,rfl,rfl,by rw[zj hk];exact hc'⟩;rw[zzh];unfold zfw;simp only[aL] at *
   simp only[zbip,zblk,zbgc,zbqs,eC_v,xip,List.getElem?_cons_zero,zdm,e4,e3,e2,hn,e5,xeu]
   simp)
 obtain⟨σ',st',e,v,kvs,rfl,rfl,hc⟩:=W;rw[zf,xch] at hc;have V:=zbmn (bd:=gN 0) (c:=eTru (aS oDGet (aA 1) (aA 0))) (f:=aA 0) (xs:=aJ (kvs.map (·.1))) (σ:=[none,some (.ref au.length)]) (au:=au++[.fT kvs])
  (λi acc σ s=>s=au++[.fT kvs]/\(∃w:Option D,σ=[w,some (.ref au.length)])/\acc=aJ (((kvs.map (·.1)).take i).filter λk=>decide (l.count k % 2=1))) ⟨rfl,⟨none,rfl⟩,rfl⟩ (by
   rintro i y acc σ s hy ⟨rfl,⟨w,rfl⟩,rfl⟩;obtain⟨k,hk,rfl⟩:=zcf hy;have hn:(au++[O.fT kvs])[au.length]?=some (.fT kvs):=by simp
   have hkl:k∈l:=(hc.mem k).mp (xcb hk);have e2:valD kvs k=some (oddB (l.count k)):=by rw[hc.at,if_pos hkl]
   have e3:oDGet (.ref au.length) (aL k) (au++[O.fT kvs])=.ok (oddB (l.count k)) _:=zuz (zbew hn) e2;refine⟨[some (aL k),some (.ref au.length)],decide (l.count k % 2=1),au++[.fT kvs],rfl,?_,?_⟩
   ·rw[zblj];show((oDGet (.ref au.length) (aL k) (au++[O.fT kvs])).bind _)=_;rw[e3]
    rfl
   ·by_cases ho:l.count k % 2=1
    ·refine .inr ⟨xbw ho,aL k,_,rfl,rfl,⟨_,rfl⟩,?_⟩;rw[zj hk,xfh];simp[ho,aJ]
    ·refine .inl ⟨xbz ho,rfl,⟨_,rfl⟩,?_⟩;rw[zj hk,xfh]
     simp[ho,aJ])
 obtain⟨ys,σ2,st2,e2,rfl,⟨w,rfl⟩,rfl⟩:=V;rw[zf,xch] at e2;refine⟨[.fT kvs],zvv rfl ?_⟩;have nd:((kvs.map (·.1)).filter λk=>decide (l.count k % 2=1)).Nodup:=hc.nd.filter _;have mm:∀k,k∈((kvs.map (·.1)).filter λk=>decide (l.count k % 2=1))↔l.count k % 2=1:=λk=>by
  rw[xdy,hc.mem,xmy];refine⟨λh=>h.2,λh=>⟨?_,h⟩⟩;rcases xix (l.count k) with z | z
  ·rw[z] at h;cases h
  ·exact xiy.mp z
 have e5:sortR ((kvs.map (·.1)).filter λk=>decide (l.count k % 2=1))=aO l:=zuw nd mm;have few:((kvs.map (·.1)).filter λk=>decide (l.count k % 2=1)).length<=1000000:=by
  have p:=zkn nd (zej l) λk=>by rw[mm,zjb]
  rw[p.length_eq];exact ho
 have e6:=zpq (au:=au++[.fT kvs]) few;rw[e5] at e6;have hlen:(aJ (kvs.map (·.1))).length<=sizeLine:=by
  rw[zf,xbb];exact small _ (by have:=hc.len;lia)
 refine seqN (σ1:=[some x,some (.ref au.length),none]) (st1:=au++[.dT []]) (by simp) ?_;refine seqN (σ1:=[some x,some (.ref au.length),v]) (st1:=au++[.dT kvs]) (by simp[hx,e]) ?_;have e7:aG (iDict (aA 1)) 1 [1] (gN 0) (eTru (aS oDGet (aA 1) (aA 0))) (aA 0) [some x,some (.ref au.length),v] (au++[.dT kvs])=.ok (.lst (aJ ((kvs.map (·.1)).filter λk=>decide (l.count k % 2=1)))) (au++[.fT kvs]):=by
  rw[zbcr];have e8:iDict (aA 1) [some x,some (.ref au.length),v] (au++[.dT kvs])=.ok (aJ (kvs.map (·.1))) (au++[.fT kvs]):=by
   simp
  rw[e8,zdm,if_pos hlen];show(compF _ _ _ _ [none,some (.ref au.length)] _).bind _=_;rw[e2]
  rfl
 rw[zbof,zbcs,zxi,zbcs,zxi,e7];simp only[zdm,zbsn,e6,zwy]
theorem rngN  (h1:-10000<=j)(h2:j<=10000):RngOk j:=rngOk (by lia) (by lia)
theorem Drew.over    (d:Drew au s n)(hn:n < au.length)(hk:au.length<=k):Drew au (s.set k o) n:=by
 obtain⟨c,x,eb,c0,x0⟩:=d.bag;exact⟨by rw[xex];exact d.len,λi h1 h2=>by rw[xcm (by lia)];exact d.keep i h1 h2,c,x,by rw[xcm (by lia)];exact eb,c0,x0⟩
end Dd
namespace Dd
open PySem L2
def WP {α:Type} (r:Res α) (Q:α->Store->Prop):Prop:=match r with
 | .ok a au=>Q a au
 | _=>False
theorem WP.get {α:Type}{r:Res α}{Q:α->Store->Prop}(h:WP r Q):∃a au,r=.ok a au/\Q a au:=by
 cases r with
 | ok a au=>exact⟨a,au,rfl,h⟩
 | exc x au=>exact h.elim
 | stuck=>exact h.elim
theorem WP.of {α:Type}{r:Res α}{Q:α->Store->Prop}{a:α}  (e:r=.ok a au)(h:Q a au):WP r Q:=by rw[e];exact h
theorem WP.mono {α:Type}{r:Res α}{Q Q':α->Store->Prop}(h:WP r Q)(k:∀a au,Q a au->Q' a au):WP r Q':=by
 obtain⟨a,au,rfl,q⟩:=h.get;exact k a au q
theorem zh {α β:Type}{r:Res α}{f:α->Store->Res β}{Q:β->Store->Prop}:WP (r.bind f) Q=WP r (λa au=>WP (f a au) Q):=by
 cases r<;>rfl
def seqK (t:SS) (Q:Fl->Store->Prop):Fl->Store->Prop:=λfl au=>match fl with
 | .nx σ=>WP (t σ au) Q
 | fl=>Q fl au
theorem zbhr    :WP (aD s t σ au) Q=WP (s σ au) (seqK t Q):=by
 unfold aD;cases s σ au with
 | ok fl st1=>cases fl<;>rfl
 | exc x au=>rfl
 | stuck=>rfl
theorem zxt {α:Type}  [Decidable c]{a b:Res α}{Q:α->Store->Prop}:WP (if c then a else b) Q=if c then WP a Q else WP b Q:=by
 split<;>rfl
theorem zof {α:Type}  [Decidable c]{a:Res α}{Q:α->Store->Prop}:WP (if c then a else .stuck) Q=(c/\WP a Q):=by
 by_cases h:c
 ·rw[if_pos h];simp[h]
 ·rw[if_neg h];simp[h,WP]
def retK (Q:D->Store->Prop):Fl->Store->Prop:=λfl au=>match fl with
 | .ret v=>Q v au
 | .nx _=>Q .non au
 | _=>False
theorem zey {n np:Nat}{b:SS}{ds:List D}{au:Store}{Q:D->Store->Prop}(h:ds.length=np)(k:WP (b (ds.map some++List.replicate (n - np) none) au) (retK Q)):WP (fnD n np b ds au) Q:=by
 obtain⟨fl,st',e,q⟩:=k.get;unfold fnD;rw[if_pos h,e];cases fl<;>first | exact q | exact q.elim
def bK (Q:Bool->Store->Prop):D->Store->Prop:=λv au=>match v with
 | .bl b=>Q b au
 | _=>False
def gK (bd:SG) (Q:Fl->Store->Prop) (σ:DS):D->Store->Prop:=λv au=>match bd v σ with
 | some σ1=>Q (.nx σ1) au
 | none=>False
theorem W:(∀{α:Type} {a:α} {au:Store} {Q:α->Store->Prop},WP (.ok a au) Q=Q a au)
 /\ (∀{s t:SS} {σ:DS} {au:Store} {Q:Fl->Store->Prop},WP (aD s t σ au) Q=WP (s σ au) (seqK t Q))
 /\ (∀{t:SS} {σ:DS} {au:Store} {Q:Fl->Store->Prop},seqK t Q (.nx σ) au=WP (t σ au) Q)
 /\ (∀{t:SS} {v:D} {au:Store} {Q:Fl->Store->Prop},seqK t Q (.ret v) au=Q (.ret v) au)
 /\ (∀{t:SS} {σ:DS} {au:Store} {Q:Fl->Store->Prop},seqK t Q (.brk σ) au=Q (.brk σ) au)
 /\ (∀{t:SS} {σ:DS} {au:Store} {Q:Fl->Store->Prop},seqK t Q (.ct σ) au=Q (.ct σ) au)
 /\ (∀{v:D} {au:Store} {Q:D->Store->Prop},retK Q (.ret v) au=Q v au)
 /\ (∀{σ:DS} {au:Store} {Q:D->Store->Prop},retK Q (.nx σ) au=Q .non au)
 /\ (∀{b:Bool} {au:Store} {Q:Bool->Store->Prop},bK Q (.bl b) au=Q b au)
 /\ (∀{d:D} {σ:DS} {au:Store} {Q:D->Store->Prop},WP (eC d σ au) Q=Q d au)
 /\ (∀{g:D->D->Store->Res D} {f f':SE} {σ:DS} {au:Store} {Q:D->Store->Prop},WP (aS g f f' σ au) Q=WP (f σ au) (λx st1=>WP (f' σ st1) (λy st2=>WP (g x y st2) Q)))
 /\ (∀{g:D->Store->Res D} {f:SE} {σ:DS} {au:Store} {Q:D->Store->Prop},WP (eUn g f σ au) Q=WP (f σ au) (λx st1=>WP (g x st1) Q))
 /\ (∀{g:List D->Store->Res D} {f:SA} {σ:DS} {au:Store} {Q:D->Store->Prop},WP (aE g f σ au) Q=WP (f σ au) (λx st1=>WP (g x st1) Q))
 /\ (∀{σ:DS} {au:Store} {Q:List D->Store->Prop},WP (aC σ au) Q=Q [] au)
 /\ (∀{f:SE} {g:SA} {σ:DS} {au:Store} {Q:List D->Store->Prop},WP (aB f g σ au) Q=WP (f σ au) (λx st1=>WP (g σ st1) (λxs st2=>Q (x::xs) st2)))
 /\ (∀{f:SE} {σ:DS} {au:Store} {Q:Bool->Store->Prop},WP (eB f σ au) Q=WP (f σ au) (bK Q))
 /\ (∀{f f':ST} {σ:DS} {au:Store} {Q:Bool->Store->Prop},WP (bAnd f f' σ au) Q=WP (f σ au) (λb st1=>if b=true then WP (f' σ st1) Q else Q false st1))
 /\ (∀{f f':ST} {σ:DS} {au:Store} {Q:Bool->Store->Prop},WP (bOr f f' σ au) Q=WP (f σ au) (λb st1=>if b=true then Q true st1 else WP (f' σ st1) Q))
 /\ (∀{f:ST} {σ:DS} {au:Store} {Q:Bool->Store->Prop},WP (bNot f σ au) Q=WP (f σ au) (λb st1=>Q (!b) st1))
 /\ (∀{σ:DS} {au:Store} {Q:Bool->Store->Prop},WP (aI σ au) Q=Q true au)
 /\ (∀{f f':SE} {σ:DS} {au:Store} {Q:D->Store->Prop},WP (eAnd f f' σ au) Q=WP (f σ au) (bK λb st1=>if b=true then WP (f' σ st1) Q else Q (.bl false) st1))
 /\ (∀{f f':SE} {σ:DS} {au:Store} {Q:D->Store->Prop},WP (eOr f f' σ au) Q=WP (f σ au) (bK λb st1=>if b=true then Q (.bl true) st1 else WP (f' σ st1) Q))
 /\ (∀{f:SE} {σ:DS} {au:Store} {Q:D->Store->Prop},WP (eNot f σ au) Q=WP (f σ au) (bK λb st1=>Q (.bl (!b)) st1))
 /\ (∀{c:ST} {f f':SE} {σ:DS} {au:Store} {Q:D->Store->Prop},WP (eIf c f f' σ au) Q=WP (c σ au) (λb st1=>if b=true then WP (f σ st1) Q else WP (f' σ st1) Q))
 /\ (∀{g:SA} {σ:DS} {au:Store} {Q:D->Store->Prop},WP (aR g σ au) Q=WP (g σ au) (λxs st1=>xs.length<=sizeLine/\Q (.tup xs) st1))
 /\ (∀{g:SA} {σ:DS} {au:Store} {Q:D->Store->Prop},WP (eLst g σ au) Q=WP (g σ au) (λxs st1=>xs.length<=sizeLine/\Q (.lst xs) st1))
 /\ (∀{g:SA} {σ:DS} {au:Store} {Q:D->Store->Prop},WP (eLstM g σ au) Q=WP (g σ au) (λxs st1=>xs.length<=sizeLine/\Q (.ref st1.length) (st1++[.lst xs])))
 /\ (∀{σ:DS} {au:Store} {Q:D->Store->Prop},WP (eDNew σ au) Q=Q (.ref au.length) (au++[.dT []]))
 /\ (∀{σ:DS} {au:Store} {Q:Fl->Store->Prop},WP (sNx σ au) Q=Q (.nx σ) au)
 /\ (∀{σ:DS} {au:Store} {Q:Fl->Store->Prop},WP (sBrk σ au) Q=Q (.brk σ) au)
 /\ (∀{σ:DS} {au:Store} {Q:Fl->Store->Prop},WP (sCt σ au) Q=Q (.ct σ) au)
 /\ (∀{σ:DS} {au:Store} {Q:Fl->Store->Prop},WP (sRetN σ au) Q=Q (.ret .non) au)
 /\ (∀{f:SE} {σ:DS} {au:Store} {Q:Fl->Store->Prop},WP (sRet f σ au) Q=WP (f σ au) (λv st1=>Q (.ret v) st1))
 /\ (∀{f:SE} {σ:DS} {au:Store} {Q:Fl->Store->Prop},WP (sDrop f σ au) Q=WP (f σ au) (λ_ st1=>Q (.nx σ) st1))
 /\ (∀{i:Nat} {f:SE} {σ:DS} {au:Store} {Q:Fl->Store->Prop},WP (aF i f σ au) Q=WP (f σ au) (λv st1=>Q (.nx (σ.set i (some v))) st1))
 /\ (∀{bd:SG} {f:SE} {σ:DS} {au:Store} {Q:Fl->Store->Prop},WP (sSetG bd f σ au) Q=WP (f σ au) (gK bd Q σ))
 /\ (∀{c:ST} {s t:SS} {σ:DS} {au:Store} {Q:Fl->Store->Prop},WP (sIf c s t σ au) Q=WP (c σ au) (λb st1=>if b=true then WP (s σ st1) Q else WP (t σ st1) Q))
 /\ (∀{it:SA} {bd:SG} {body:SS} {σ:DS} {au:Store} {Q:Fl->Store->Prop},WP (sFor it bd body σ au) Q=WP (it σ au) (λxs st1=>WP (forF bd body xs σ st1) Q))
 /\ (∀{it:SA} {k:Nat} {is:List Nat} {bd:SG} {c:ST} {f:SE} {σ:DS} {au:Store} {Q:D->Store->Prop},WP (aG it k is bd c f σ au) Q=WP (it σ au) (λxs st1=>xs.length<=sizeLine/\WP (compF bd c f xs (aT k is σ) st1) (λys st2=>Q (.lst ys) st2)))
 /\ (∀{it:SA} {k:Nat} {is:List Nat} {bd:SG} {c:ST} {f:SE} {σ:DS} {au:Store} {Q:D->Store->Prop},WP (eCompM it k is bd c f σ au) Q=WP (it σ au) (λxs st1=>xs.length<=sizeLine/\WP (compF bd c f xs (aT k is σ) st1) (λys st2=>Q (.ref st2.length) (st2++[.lst ys]))))
 /\ (∀{C:Int->Int->Prop} [DecidableRel C] {h:Int->Int->D} {i j:Int} {au:Store} {Q:D->Store->Prop},WP (oI C h (.int i) (.int j) au) Q=(C i j/\Q (h i j) au))
 /\ (∀{i j:Int} {au:Store} {Q:D->Store->Prop},WP (aM (.int i) (.int j) au) Q=Q (.int (i+j)) au)
 /\ (∀{a b:List D} {au:Store} {Q:D->Store->Prop},WP (aM (.tup a) (.tup b) au) Q=(a.length+b.length<=sizeLine/\Q (.tup (a++b)) au))
 /\ (∀{i j:Int} {au:Store} {Q:D->Store->Prop},WP (oLtT (.int i) (.int j) au) Q=Q (.bl (decide (i < j))) au)
 /\ (∀{i j:Int} {au:Store} {Q:D->Store->Prop},WP (oEqG false (.int i) (.int j) au) Q=Q (.bl (decide (i=j))) au)
 /\ (∀{i j:Int} {au:Store} {Q:D->Store->Prop},WP (oEqG true (.int i) (.int j) au) Q=Q (.bl (!decide (i=j))) au)
 /\ (∀{i:Int} {au:Store} {Q:D->Store->Prop},WP (oNeg (.int i) au) Q=Q (.int (-i)) au)
 /\ (∀{i j:Int} {g:Int->Int->Int} {au:Store} {Q:D->Store->Prop},WP (b2I g [.int i,.int j] au) Q=Q (.int (g i j)) au)
 /\ (∀{i:Int} {au:Store} {Q:D->Store->Prop},WP (bAbs [.int i] au) Q=Q (.int (if i < 0 then -i else i)) au)
 /\ (∀{b:Bool} {au:Store} {Q:D->Store->Prop},WP (bInt [.bl b] au) Q=Q (.int (if b=true then 1 else 0)) au)
 /\ (∀{xs:List D} {au:Store} {Q:D->Store->Prop},WP (bLen [.tup xs] au) Q=Q (.int xs.length) au)
 /\ (∀{xs:List D} {au:Store} {Q:D->Store->Prop},WP (bLen [.lst xs] au) Q=Q (.int xs.length) au)
 /\ (∀{xs:List D} {au:Store} {Q:D->Store->Prop},WP (bLen [.scr xs] au) Q=Q (.int xs.length) au)
 /\ (∀{xs:List D} {au:Store} {Q:D->Store->Prop},WP (bTuple [.tup xs] au) Q=Q (.tup xs) au)
 /\ (∀{xs:List D} {au:Store} {Q:D->Store->Prop},WP (bTuple [.lst xs] au) Q=Q (.tup xs) au)
 /\ (∀{xs:List D} {au:Store} {Q:D->Store->Prop},WP (bList [.tup xs] au) Q=Q (.lst xs) au)
 /\ (∀{xs:List D} {au:Store} {Q:D->Store->Prop},WP (bList [.lst xs] au) Q=Q (.lst xs) au)
 /\ (∀{d:D} {σ:DS} {au:Store} {Q:D->Store->Prop},WP (aA 0 (some d::σ) au) Q=Q d au)
 /\ (∀{i:Nat} {σ:DS} {au:Store} {Q:D->Store->Prop} {o:Option D},WP (aA (i+1) (o::σ) au) Q=WP (aA i σ au) Q)
 /\ (∀{f:SE} {σ:DS} {au:Store} {Q:List D->Store->Prop},WP (aH f σ au) Q=WP (f σ au) (λx st1=>∃xs,seqV x=some xs/\Q xs st1))
 /\ (∀{f:SE} {σ:DS} {au:Store} {Q:Bool->Store->Prop},WP (eTru f σ au) Q=WP (f σ au) (λx st1=>∃b,tru st1 x=some b/\Q b st1))
 /\ (∀{g:SA} {σ:DS} {au:Store} {Q:List D->Store->Prop},WP (iR1 g σ au) Q=WP (g σ au) (λxs st1=>∃j,xs=[.int j]/\RngOk j/\Q (rng 0 j.toNat) st1))
 /\ (∀{g:SA} {σ:DS} {au:Store} {Q:List D->Store->Prop},WP (iR2 g σ au) Q=WP (g σ au) (λxs st1=>∃i j,xs=[.int i,.int j]/\RngOk i/\RngOk j/\Q (rng i (j - i).toNat) st1)):=by
 have g2:∀{α:Type} {c:Prop} [Decidable c] {a:α} {au:Store} {Q:α->Store->Prop},WP (if c then .ok a au else .stuck) Q=(c/\Q a au):=λ{α c _ a au Q}=>zof
 refine⟨rfl,zbhr,rfl,rfl,rfl,rfl,rfl,rfl,rfl,rfl,?_⟩;refine⟨?_,?_⟩
 ·intros;rw[zbup,zh];congr;funext x st1;rw[zh]
 refine⟨zh,zh,rfl,?_⟩;refine⟨?_,?_⟩
 ·intros;rw[zxi,zh];congr;funext x st1;rw[zh];rfl
 refine⟨?_,?_⟩
 ·intros;rw[eB_v,zh];congr;funext x st1;cases x<;>rfl
 refine⟨?_,?_⟩
 ·intros;rw[zbsk,zh];congr;funext x st1;rw[zxt];rfl
 refine⟨?_,?_⟩
 ·intros;rw[zbvh,zh];congr;funext x st1;rw[zxt];rfl
 refine⟨zh,rfl,?_⟩;refine⟨?_,?_⟩
 ·intros;rw[zbqw,zh];congr;funext x st1;cases x<;>try rfl
  rename_i b;cases b<;>rfl
 refine⟨?_,?_⟩
 ·intros;rw[zbuo,zh];congr;funext x st1;cases x<;>try rfl
  rename_i b;cases b<;>rfl
 refine⟨?_,?_⟩
 ·intros;rw[zblk,zh];congr;funext x st1;cases x<;>rfl
 refine⟨?_,?_⟩
 ·intros;rw[zbuq,zh];congr;funext x st1;rw[zxt]
 refine⟨?_,?_⟩
 ·intros;rw[zbqt,zh];congr;funext x st1;rw[g2]
 refine⟨?_,?_⟩
 ·intros;rw[zbqu,zh];congr;funext x st1;rw[g2]
 refine⟨?_,?_⟩
 ·intros;rw[zbll,zh];congr;funext x st1;rw[g2]
 refine⟨rfl,rfl,rfl,rfl,rfl,zh,zh,zh,?_⟩;refine⟨?_,?_⟩
 ·intro bd f σ au Q;unfold sSetG;rw[zh];congr;funext x st1;unfold gK;cases bd x σ<;>rfl
 refine⟨?_,?_⟩
 ·intros;rw[zbtt,zh];congr;funext x st1;rw[zxt]
 refine⟨zh,?_⟩;refine⟨?_,?_⟩
 ·intros;rw[zbcr,zh];congr;funext x st1;rw[zof,zh];rfl
 refine⟨?_,?_⟩
 ·intros;unfold eCompM;rw[zh];congr;funext x st1;rw[zof,zh];rfl
 refine⟨?_,?_⟩
 ·intros;rw[oI_v,g2]
 refine⟨rfl,?_⟩;refine⟨?_,?_⟩
 ·intros;rw[zbps,g2]
 refine⟨rfl,?_⟩;refine⟨?_,?_⟩
 ·intros;rw[show ∀i j au,oEqG false (.int i) (.int j) au=_ from λi j au=>zbui];rfl
 refine⟨?_,?_⟩
 ·intros;rw[show ∀i j au,oEqG true (.int i) (.int j) au=_ from λi j au=>zbue];rfl
 refine⟨rfl,rfl,rfl,rfl,rfl,rfl,rfl,rfl,rfl,rfl,rfl,λ{d σ au Q}=>rfl,λ{i σ au Q o}=>rfl,?_⟩;refine⟨?_,?_⟩
 ·intros;rw[zbqn,zh];congr;funext x st1
  cases h:seqV x with
  | none=>simp[WP]
  | some xs=>simp[WP]
 refine⟨?_,?_⟩
 ·intros;rw[zblj,zh];congr;funext x st1
  cases h:tru st1 x with
  | none=>simp[WP]
  | some xs=>simp[WP]
 refine⟨?_,?_⟩
 ·intros;rw[zbul,zh];congr;funext x st1
  split
  ·rw[g2];simp[RngOk]
  ·rename_i hne;have:∀j,x≠[D.int j]:=λj h=>hne j h
   simp[WP,this]
 ·intros;rw[zbuk,zh];congr;funext x st1
  split
  ·rw[g2];simp only[RngOk,List.cons.injEq,D.int.injEq,and_true];apply propext;constructor
   ·rintro⟨h,q⟩;exact⟨_,_,⟨rfl,rfl⟩,h.1,h.2,q⟩
   ·rintro⟨i',j',⟨rfl,rfl⟩,h1,h2,q⟩;exact⟨⟨h1,h2⟩,q⟩
  ·rename_i hne;have:∀i j,x≠[D.int i,D.int j]:=λi j h=>hne i j h
   simp[WP,this]
def loopK (I:DS->Store->Prop) (Q:Fl->Store->Prop):Fl->Store->Prop:=λfl au=>match fl with
 | .nx σ=>I σ au
 | .ct σ=>I σ au
 | .brk σ=>Q (.nx σ) au
 | .ret v=>Q (.ret v) au
theorem zkj {bd:SG}{body:SS}{Q:Fl->Store->Prop}(I:Nat->DS->Store->Prop):∀(xs:List D) (k:Nat) (σ:DS) (au:Store),I k σ au ->
  (∀i x σ au,xs[i]?=some x->I (k+i) σ au->∃σ1,bd x σ=some σ1/\WP (body σ1 au) (loopK (I (k+i+1)) Q))->(∀σ au,I (k+xs.length) σ au->Q (.nx σ) au)->WP (forF bd body xs σ au) Q
 | [],k,σ,au,h,_,q=>q σ au h
 | x::xs,k,σ,au,h,s,q=>by
  obtain⟨σ1,e1,w⟩:=s 0 x σ au rfl h;obtain⟨fl,st2,e2,w⟩:=w.get;unfold forF;rw[e1];dsimp only;rw[e2]
  have go:∀σ2,I (k+0+1) σ2 st2->WP (forF bd body xs σ2 st2) Q:=λσ2 h2=>zkj I xs (k+1) σ2 st2 h2 (λi y σ au hy hi=>by
   have:=s (i+1) y σ au (by simpa using hy) (by rw[show k+(i+1)=k+1+i by lia];exact hi);rw[show k+(i+1)+1=k+1+i+1 by lia] at this
   exact this) (λσ au h=>q σ au (by rw[xcc,show k+(xs.length+1)=k+1+xs.length by lia];exact h))
  cases fl with
  | nx σ2=>exact go σ2 w
  | ct σ2=>exact go σ2 w
  | brk σ2=>exact w
  | ret v=>exact w
theorem zcy    (I:Nat->DS->Store->Prop)    (h0:I 0 σ au)
  (s:∀i x σ au,xs[i]?=some x->I i σ au->∃σ1,bd x σ=some σ1/\WP (body σ1 au) (loopK (I (i+1)) Q))(q:∀σ au,I xs.length σ au->Q (.nx σ) au):WP (forF bd body xs σ au) Q :=
 zkj I xs 0 σ au h0 (λi x σ au hx hi=>by rw[xep] at hi ⊢;exact s i x σ au hx hi) λσ au h=>q σ au (by rw[xep] at h;exact h)
theorem L:(∀{I:DS->Store->Prop} {Q:Fl->Store->Prop} {σ:DS} {au:Store},loopK I Q (.nx σ) au=I σ au)
 /\ (∀{I:DS->Store->Prop} {Q:Fl->Store->Prop} {σ:DS} {au:Store},loopK I Q (.ct σ) au=I σ au)
 /\ (∀{I:DS->Store->Prop} {Q:Fl->Store->Prop} {σ:DS} {au:Store},loopK I Q (.brk σ) au=Q (.nx σ) au)
 /\ (∀{I:DS->Store->Prop} {Q:Fl->Store->Prop} {v:D} {au:Store},loopK I Q (.ret v) au=Q (.ret v) au):=⟨rfl,rfl,rfl,rfl⟩
theorem zfs {bd:SG}{c:ST}{f:SE}(I:Nat->List D->DS->Store->Prop):∀(xs:List D) (k:Nat) (acc:List D) (σ:DS) (au:Store) (Q:List D->Store->Prop),I k acc σ au ->
  (∀i x acc σ au,xs[i]?=some x->I (k+i) acc σ au->∃σ1,bd x σ=some σ1/\WP (c σ1 au) (λb st1=>if b=true then WP (f σ1 st1) (λy st2=>I (k+i+1) (acc++[y]) σ1 st2) else I (k+i+1) acc σ1 st1)) ->
  (∀ys σ au,I (k+xs.length) (acc++ys) σ au->Q ys au)->WP (compF bd c f xs σ au) Q
 | [],k,acc,σ,au,Q,h,_,q=>q [] σ au (by rw[xdm];exact h)
 | x::xs,k,acc,σ,au,Q,h,s,q=>by
  obtain⟨σ1,e1,w⟩:=s 0 x acc σ au rfl h;obtain⟨b,st1,e2,w⟩:=w.get;have s':∀i y acc σ au,xs[i]?=some y->I (k+1+i) acc σ au->∃σ1,bd y σ=some σ1/\WP (c σ1 au) (λb st1=>if b=true then WP (f σ1 st1) (λy st2=>I (k+1+i+1) (acc++[y]) σ1 st2) else I (k+1+i+1) acc σ1 st1):=λi y acc σ au hy hi=>by
   have:=s (i+1) y acc σ au (by simpa using hy) (by rw[show k+(i+1)=k+1+i by lia];exact hi);rw[show k+(i+1)+1=k+1+i+1 by lia] at this;exact this
  have ln:∀(zs:List D) σ au,I (k+1+xs.length) zs σ au->I (k+(x::xs).length) zs σ au:=λzs σ au h=>by rw[xcc,show k+(xs.length+1)=k+1+xs.length by lia];exact h
  unfold compF;rw[e1];dsimp only;rw[e2];dsimp only[zdm];cases b with
  | false =>
   rw[if_neg (by decide)] at w ⊢;exact zfs I xs (k+1) acc σ1 st1 Q w s' λys σ au h=>q ys σ au (ln _ _ _ h)
  | true =>
   rw[if_pos rfl] at w ⊢;obtain⟨y,st2,e3,w⟩:=w.get;rw[e3];dsimp only[zdm];rw[zh];exact zfs I xs (k+1) (acc++[y]) σ1 st2 _ w s' λys σ au h=>q (y::ys) σ au (ln _ _ _ (by rw[xck] at h;exact h))
theorem zbbi     (I:Nat->List D->DS->Store->Prop)    (h0:I 0 [] σ au)
  (s:∀i x acc σ au,xs[i]?=some x->I i acc σ au->∃σ1,bd x σ=some σ1/\WP (c σ1 au) (λb st1=>if b=true then WP (f σ1 st1) (λy st2=>I (i+1) (acc++[y]) σ1 st2) else I (i+1) acc σ1 st1))
  (q:∀ys σ au,I xs.length ys σ au->Q ys au):WP (compF bd c f xs σ au) Q :=
 zfs I xs 0 [] σ au Q h0 (λi x acc σ au hx hi=>by rw[xep] at hi ⊢;exact s i x acc σ au hx hi) λys σ au h=>q ys σ au (by rw[xep] at h;simpa using h)
theorem zhw {bd:SG}{c:ST}{f:SE}{α:Type}(S:DS->Prop)(P:α->Bool)(G:α->D)(E:α->D){as:List α}{σ:DS}{au:Store}{Q:List D->Store->Prop}(h0:S σ)
  (s:∀x∈as,∀σ,S σ->∃σ1,bd (E x) σ=some σ1/\S σ1/\WP (c σ1 au) (λb st1=>st1=au/\b=P x)/\(P x=true->WP (f σ1 au) (λy st1=>st1=au/\y=G x)))
  (q:Q ((as.filter P).map G) au):WP (compF bd c f (as.map E) σ au) Q:=by
 refine zbbi (λi acc σ s'=>S σ/\s'=au/\acc=((as.take i).filter P).map G) ⟨h0,rfl,rfl⟩ (λi x acc σ s' hx hI=>?_) λys σ s' hI=>?_
 ·obtain⟨hS,rfl,rfl⟩:=hI;rw[xcp] at hx;obtain⟨z,hz,rfl⟩:=xdh.mp hx;obtain⟨σ1,e1,hS1,w1,w2⟩:=s z (xcb hz) σ hS;refine⟨σ1,e1,w1.mono λb st1 hb=>?_⟩;obtain⟨rfl,rfl⟩:=hb;cases hP:P z with
  | false =>
   rw[if_neg (by decide)];refine⟨hS1,rfl,?_⟩;rw[zj hz,xfh,xcy (by rw[hP];decide)];simp
  | true =>
   rw[if_pos rfl];refine(w2 hP).mono λy st2 hy=>?_
   obtain⟨rfl,rfl⟩:=hy;refine⟨hS1,rfl,?_⟩;rw[zj hz,xfh,xcq hP,xdw];simp
 ·obtain⟨_,rfl,rfl⟩:=hI;rw[xbb,xch];exact q
theorem V:(∀{α:Type} {a b:α} {l:List α},(a::l).set 0 b=b::l)
 /\ (∀{α:Type} {a b:α} {l:List α} {i:Nat},(a::l).set (i+1) b=a::l.set i b)
 /\ (∀{σ:DS} {k:Nat} {is:List Nat},aT k is σ=List.replicate k none++is.map λi=>(σ[i]?).getD none)
 /\ (∀{α:Type} {a:α} {k:Nat},List.replicate (k+1) a=a::List.replicate k a)
 /\ (∀{α:Type} {a:α},List.replicate 0 a=[])
 /\ (∀{α β:Type} {f:α->β} {a:α} {l:List α},(a::l).map f=f a::l.map f)
 /\ (∀{α β:Type} {f:α->β},([]:List α).map f=[])
 /\ (∀{α:Type} {a:α} {l m:List α},(a::l)++m=a::(l++m))
 /\ (∀{α:Type} {l:List α},[]++l=l)
 /\ (∀{α:Type} {a:α} {l:List α},(a::l)[0]?=some a)
 /\ (∀{α:Type} {a:α} {l:List α} {i:Nat},(a::l)[i+1]?=l[i]?)
 /\ (∀{α:Type} {a:α} {d:α},(some a).getD d=a)
 /\ (∀{i:Nat} {d:D} {σ:DS},gN i d σ=some (σ.set i (some d)))
 /\ (∀{p:Prop} [Decidable p],(decide p=true)=p)
 /\ (∀{p:Prop} [Decidable p],((!decide p)=true)=¬ p)
 /\ (∀{b:Bool},((!b)=true)=(b=false))
 /\ (∀{a b:Prop},(if True then a else b)=a)
 /\ (∀{a b:Prop},(if False then a else b)=b)
 /\ (∀{a b:Prop},(if true=true then a else b)=a)
 /\ (∀{a b:Prop},(if false=true then a else b)=b)
 /\ (∀{α:Type} {a b:α},(if True then a else b)=a)
 /\ (∀{α:Type} {a b:α},(if False then a else b)=b)
 /\ ((true=false)=False)/\((false=true)=False)/\((true=true)=True)/\((false=false)=True)/\((¬ True)=False)/\((¬ False)=True):=by
 refine⟨rfl,rfl,rfl,rfl,rfl,rfl,rfl,rfl,rfl,rfl,?_,rfl,rfl,?_,?_,?_,rfl,rfl,rfl,rfl,rfl,rfl,by simp,by simp,by simp,by simp,by simp,by simp⟩
 ·intros;rfl
 ·intro p _;simp
 ·intro p _;simp
 ·intro b;simp
theorem M:(∀{f:SE} {σ:DS} {au:Store} {Q:Option Int->Store->Prop},WP (pSome f σ au) Q=WP (f σ au) (λv st1=>∃i,v=.int i/\Q (some i) st1))
 /\ (∀{σ:DS} {au:Store} {Q:Option Int->Store->Prop},WP (pNone σ au) Q=Q none au)
 /\ (∀{f:SE} {lo hi:DS->Store->Res (Option Int)} {σ:DS} {au:Store} {Q:D->Store->Prop},WP (eSl f lo hi σ au) Q=WP (f σ au) (λx st1=>WP (lo σ st1) (λl st2=>WP (hi σ st2) (λh st3=>(∃xs,x=.tup xs/\Q (.tup (cutD xs l h)) st3)\/(∃xs,asL st3 x=some xs/\Q (.lst (cutD xs l h)) st3)))))
 /\ (∀{f:SE} {σ:DS} {au:Store} {Q:D->Store->Prop},WP (eFz f σ au) Q=WP (f σ au) (λx st1=>∃n xs,x=.ref n/\st1[n]?=some (.lst xs)/\Q (.lst xs) (st1.set n .dead)))
 /\ (∀{f g h:SE} {σ:DS} {au:Store} {Q:Fl->Store->Prop},WP (sSetIx f g h σ au) Q=WP (h σ au) (λv st1=>WP (f σ st1) (λx st2=>WP (g σ st2) (λy st3=>∃n k xs j,x=.ref n/\y=.int k/\st3[n]?=some (.lst xs)/\ixN xs.length k=some j/\Q (.nx σ) (st3.set n (.lst (xs.set j v)))))))
 /\ (∀{f:SE} {g:SA} {σ:DS} {au:Store} {Q:D->Store->Prop},WP (eAppend f g σ au) Q=WP (f σ au) (λx st1=>∃n xs0,x=.ref n/\st1[n]?=some (.lst xs0)/\WP (g σ st1) (λys st2=>∃y xs,ys=[y]/\st2[n]?=some (.lst xs)/\xs.length < sizeLine/\Q .non (st2.set n (.lst (xs++[y]))))))
 /\ (∀{x:D} {au:Store} {Q:D->Store->Prop},WP (bSum [x] au) Q=∃ns,(seqOf au x).bind asInts=some ns/\Q (.int ns.sum) au)
 /\ (∀{x:D} {al:Bool} {au:Store} {Q:D->Store->Prop},WP (bAny al [x] au) Q=∃bs,(asL au x).bind asBools=some bs/\Q (.bl (if al then bs.all id else bs.any id)) au)
 /\ (∀{x:D} {gt:Bool} {au:Store} {Q:D->Store->Prop},WP (bBest gt [x] au) Q=∃n ns,(seqOf au x).bind asInts=some (n::ns)/\Q (.int (bestI gt n ns)) au)
 /\ (∀{g:SA} {σ:DS} {au:Store} {Q:List D->Store->Prop},WP (iZipT g σ au) Q=WP (g σ au) (λxs st1=>∃a b,xs=[.tup a,.tup b]/\Q (pairsF a b) st1))
 /\ (∀{i:Nat} {g:D->D->Store->Res D} {f:SE} {σ:DS} {au:Store} {Q:Fl->Store->Prop},WP (sAug i g f σ au) Q=∃x,σ[i]?=some (some x)/\WP (f σ au) (λy st1=>WP (g x y st1) (λz st2=>Q (.nx (σ.set i (some z))) st2))):=by
 refine⟨?_,rfl,?_,?_,?_,?_,?_,?_,?_,?_,?_⟩
 ·intros;rw[zbjs,zh];congr;funext x st1
  cases x<;>simp[WP]
 ·intros;rw[zbun,zh];congr;funext x st1;rw[zh];congr;funext l st2;rw[zh];congr;funext h st3
  apply propext;split
  ·constructor
   ·intro q;exact .inl ⟨_,rfl,q⟩
   ·rintro(⟨xs,e,q⟩ | ⟨xs,e,q⟩)
    ·cases e;exact q
    ·cases e
  ·rename_i hne;constructor
   ·intro q;split at q
    ·rename_i xs e;exact .inr ⟨xs,e,q⟩
    ·exact q.elim
   ·rintro(⟨xs,e,q⟩ | ⟨xs,e,q⟩)
    ·exact absurd e (hne xs)
    ·rw[e];exact q
 ·intros;rw[zbur,zh];congr;funext x st1
  apply propext;constructor
  ·intro q;split at q
   ·split at q
    ·rename_i xs e;exact⟨_,xs,rfl,e,q⟩
    ·exact q.elim
   ·exact q.elim
  ·rintro⟨n,xs,rfl,e,q⟩;dsimp only;rw[e];exact q
 ·intros;rw[zbea,zh];congr;funext v st1;rw[zh];congr;funext x st2;rw[zh];congr;funext y st3
  apply propext;constructor
  ·intro q;split at q
   ·split at q
    ·split at q
     ·exact⟨_,_,_,_,rfl,rfl,by assumption,by assumption,q⟩
     ·exact q.elim
    ·exact q.elim
   ·exact q.elim
  ·rintro⟨n,k,xs,j,rfl,rfl,e1,e2,q⟩;dsimp only;rw[e1];dsimp only;rw[e2];exact q
 ·intros;rw[zbah,zh];congr;funext x st1
  apply propext;constructor
  ·intro q;split at q
   ·rename_i n xs0 e;rw[zh] at q;have e':st1[n]?=some (.lst xs0):=by
     unfold asL at e;dsimp only at e;split at e
     ·cases e;assumption
     ·cases e
    refine⟨n,xs0,rfl,e',q.mono λys st2 h=>?_⟩;split at h
    ·split at h
     ·exact⟨_,_,rfl,by assumption,by assumption,h⟩
     ·exact h.elim
    ·exact h.elim
   ·exact q.elim
  ·rintro⟨n,xs0,rfl,e,q⟩;rw[zkw e];dsimp only;rw[zh];refine q.mono λys st2 h=>?_
   obtain⟨y,xs,rfl,e2,hl,h⟩:=h;rw[e2];dsimp only;rw[if_pos hl];exact h
 ·intro x au Q;unfold bSum;dsimp only;cases h:(seqOf au x).bind asInts with
  | none=>simp[WP]
  | some ns=>simp[WP]
 ·intro x al au Q;unfold bAny;dsimp only;cases h:(asL au x).bind asBools with
  | none=>simp[WP]
  | some ns=>simp[WP]
 ·intro x gt au Q;unfold bBest;dsimp only;cases h:(seqOf au x).bind asInts with
  | none=>simp[WP]
  | some ns =>
   cases ns with
   | nil=>simp[WP]
   | cons n ns =>
    apply propext;constructor
    ·intro q;exact⟨_,_,rfl,q⟩
    ·rintro⟨a,b,e,q⟩;cases e;exact q
 ·intro g σ au Q;unfold iZipT;rw[zh];congr;funext x st1
  apply propext;constructor
  ·intro q;split at q
   ·exact⟨_,_,rfl,q⟩
   ·exact q.elim
  ·rintro⟨a,b,rfl,q⟩;exact q
 ·intro i g f σ au Q;rw[zboh];apply propext;constructor
  ·intro q;split at q
   ·rename_i x e;rw[zh] at q;exact⟨x,e,q.mono λy st1 h=>by rw[zh] at h;exact h⟩
   ·exact q.elim
  ·rintro⟨x,e,q⟩;rw[e];dsimp only;rw[zh];exact q.mono λy st1 h=>by rw[zh];exact h
theorem N:(∀{xs:List D} {P:List D->Prop},(∃ys,D.tup xs=D.tup ys/\P ys)=P xs)
 /\ (∀{i:Int} {P:Int->Prop},(∃j,D.int i=D.int j/\P j)=P i)
 /\ (∀{xs:List D} {au:Store} {P:List D->Prop},(∃ys,asL au (.tup xs)=some ys/\P ys)=False)
 /\ (∀{xs:List D} {au:Store} {P:List D->Prop},(∃ys,asL au (.lst xs)=some ys/\P ys)=P xs)
 /\ (∀{xs:List D} {P:List D->Prop},(∃ys,seqV (.tup xs)=some ys/\P ys)=P xs)
 /\ (∀{xs:List D} {P:List D->Prop},(∃ys,seqV (.lst xs)=some ys/\P ys)=P xs)
 /\ (∀{b:Bool} {au:Store} {P:Bool->Prop},(∃c,tru au (.bl b)=some c/\P c)=P b)
 /\ (∀{i:Int} {P:Int->Prop},(∃j,[D.int i]=[D.int j]/\P j)=P i)
 /\ (∀{i j:Int} {P:Int->Int->Prop},(∃k l,[D.int i,D.int j]=[D.int k,D.int l]/\P k l)=P i j)
 /\ (∀{x:D} {P:D->Prop},(∃y,[x]=[y]/\P y)=P x)
 /\ (∀{a b:List D} {P:List D->List D->Prop},(∃c d,[D.tup a,D.tup b]=[.tup c,.tup d]/\P c d)=P a b)
 /\ (∀{p:Prop},(p\/False)=p)/\(∀{p:Prop},(True/\p)=p):=by
 refine⟨?_,?_,?_,?_,?_,?_,?_,?_,?_,?_,?_,by simp,by simp⟩
 ·intros;apply propext;exact⟨λ⟨_,e,p⟩=>by cases e;exact p,λp=>⟨_,rfl,p⟩⟩
 ·intros;apply propext;exact⟨λ⟨_,e,p⟩=>by cases e;exact p,λp=>⟨_,rfl,p⟩⟩
 ·intros;apply propext;exact⟨λ⟨_,e,p⟩=>(by cases e),λp=>p.elim⟩
 ·intros;apply propext;exact⟨λ⟨_,e,p⟩=>by cases e;exact p,λp=>⟨_,rfl,p⟩⟩
 ·intros;apply propext;exact⟨λ⟨_,e,p⟩=>by cases e;exact p,λp=>⟨_,rfl,p⟩⟩
 ·intros;apply propext;exact⟨λ⟨_,e,p⟩=>by cases e;exact p,λp=>⟨_,rfl,p⟩⟩
 ·intros;apply propext;exact⟨λ⟨_,e,p⟩=>by cases e;exact p,λp=>⟨_,rfl,p⟩⟩
 ·intros;apply propext;exact⟨λ⟨_,e,p⟩=>by cases e;exact p,λp=>⟨_,rfl,p⟩⟩
 ·intros;apply propext;exact⟨λ⟨_,_,e,p⟩=>by cases e;exact p,λp=>⟨_,_,rfl,p⟩⟩
 ·intros;apply propext;exact⟨λ⟨_,e,p⟩=>by cases e;exact p,λp=>⟨_,rfl,p⟩⟩
 ·intros;apply propext;exact⟨λ⟨_,_,e,p⟩=>by cases e;exact p,λp=>⟨_,_,rfl,p⟩⟩
section
theorem zfm  (hb:BagAt au n)(h1:1<=m)(h2:m<=1000000)(k:∀r st',0<=r->r < m->Drew au st' n->Q (.int r) st'):WP (zr [.ref n,.int m] au) Q:=by
 obtain⟨r,st',e,a1,a2,a3,_⟩:=zbih hb h1 (Int.lt_of_le_of_lt h2 (by decide +kernel));exact WP.of e (k r st' a1 a2 a3)
theorem zdt     (h:seqOf au x=some xs)(h2:L2.atI xs i=some d)(q:Q d au):WP (oIx x (.int i) au) Q:=WP.of (zuy h h2) q
theorem zbje {xs:List D}{i:Int}(h0:0<=i)(h1:i < xs.length)(q:∀d∈xs,Q d au):WP (oIx (.lst xs) (.int i) au) Q:=by
 obtain⟨j,rfl⟩:=xgf h0;have hj:j < xs.length:=by lia
 exact zdt (xs:=xs) (d:=xs[j]) rfl (zxa (xbe hj)) (q _ (xda hj))
theorem zbse {ns:List Int}{i:Nat}(hl:ns.length<=63)(hi:i<=100000)(k:∀g,BagAt (au++g) au.length->Q (.ref au.length) (au++g)):WP (zgq [.scr (ns.map .int),.int i] au) Q:=by
 obtain⟨c,x,hc,hx,e⟩:=zbsf (au:=au) hl hi;exact WP.of e (k _ ⟨c,x,by simp,hc,hx⟩)
end
abbrev Rise (l:List (List Int)):Prop:=l.Pairwise λa b=>HT.lexLt a b=true
theorem Rise.nodup  (h:Rise l):l.Nodup:=xmw (λ{a b} q e=>by subst e;rw[Srt.zgj] at q;cases q) h
theorem Rise.up  (h:Rise l):UpR l:=xmw (λ{a b} q=>Srt.zqs q) h
theorem Rise.sort  (h:Rise l):sortR l=l:=(zld (.refl l) h.up).symm
theorem Rise.odd  (h:Rise l):aO l=l:=by
 rw[← zuw (m:=l) h.nodup λx=>?_,h.sort];by_cases c:x∈l
 ·have h1:l.count x<=1:=List.nodup_iff_count.mp h.nodup x;have h2:0 < l.count x:=xiy.mpr c;have h3:l.count x=1:=by lia
  simp[c,h3]
 ·simp[c,List.count_eq_zero_of_not_mem c]
theorem zbiq  (h:UpR l)(nd:l.Nodup):Rise l:=xmw (λ{a b} q=>by
 obtain⟨q1,q2⟩:=q;rcases Srt.znn a b with z | z | z
 ·exact z
 ·exact absurd z q2
 ·rw[q1] at z;cases z) (h.and nd)
theorem zzg (l:List (List Int)):Rise (aO l):=zbiq (zlc _) (zei l)
structure SumOk (n:Nat) (l:List (List Int)):Prop where
 rise:Rise l
 len:∀r∈l,r.length=n
 pos:∀r∈l,∀x∈r,0<=x
theorem zqd   (h:∀r∈l,r.length=n/\∀x∈r,0<=x):SumOk n (aO l):=⟨zzg l,λr hr=>(h r (zcd hr)).1,λr hr=>(h r (zcd hr)).2⟩
theorem BagAt.lt   (h:BagAt au n):n < au.length:=by obtain⟨c,x,e,_⟩:=h;exact zcl e
theorem BagAt.set    (h:BagAt au n)(hk:k≠n):BagAt (au.set k o) n:=by
 obtain⟨c,x,e,h1,h2⟩:=h;exact⟨c,x,by rw[xcm hk];exact e,h1,h2⟩
theorem zpc {r:List Int}{P:Int->Prop}(h:∀x∈r,P x){y:Int}(hy:P y):∀x∈r++[y],P x:=λx hx=>by
 rcases xbx.mp hx with hx | hx
 ·exact h x hx
 ·simp at hx;subst hx;exact hy
theorem zcn {α:Type}(l:List α):(l.filter λ_=>true)=l:=List.filter_eq_self.mpr (by simp)
theorem zdn {α:Type}(P:α->Bool):∀as:List α,asBools (as.map λx=>.bl (P x))=some (as.map P)
 | []=>rfl
 | x::as=>by rw[xbs,asBools,zdn P as];rfl
def riseB (l:List (List Int)):Bool:=(l.zip (l.drop 1)).all λp=>HT.lexLt p.1 p.2
theorem zqk:∀l:List (List Int),riseB l=true↔Rise l
 | []=>by simp[riseB,Rise]
 | [a]=>by simp[riseB,Rise]
 | a::b::l=>by
  have ih:=zqk (b::l);have e:riseB (a::b::l)=(HT.lexLt a b&&riseB (b::l)):=by simp[riseB]
  rw[e,xfv,ih];constructor
  ·rintro⟨h1,h2⟩;refine xfa.mpr ⟨λx hx=>?_,h2⟩;rcases xbm.mp hx with rfl | hx
   ·exact h1
   ·exact Srt.zgi h1 ((xfa.mp h2).1 x hx)
  ·intro h;obtain⟨h1,h2⟩:=xfa.mp h;exact⟨h1 b xbq,h2⟩
theorem zko:∀a b:List (List Int),pairsF (aJ a) (aJ b)=(a.zip b).map λp=>.tup [aL p.1,aL p.2]
 | [],b=>by simp[pairsF]
 | _::_,[]=>by simp[pairsF]
 | x::a,y::b=>by
  rw[xme,xbs,← zko a b]
  rfl
theorem zbkq  :oLtT (aL a) (aL b) au=.ok (.bl (HT.lexLt a b)) au:=by
 show(match asInts (a.map D.int),asInts (b.map D.int) with
  | some ns,some ms=>Res.ok (D.bl (HT.lexLt ns ms)) au
  | _,_=>Res.stuck)=_
 rw[zbf,zbf]
theorem zyn {l:List (List Int)}   (q:Q ((l.zip (l.drop 1)).map λp=>.bl (HT.lexLt p.1 p.2)) au) :
  WP (compF (gT 2 (gsCons (gN 0) (gsCons (gN 1) gsNil))) aI (aS oLtT (aA 0) (aA 1)) (pairsF (aJ l) (cutD (aJ l) (some 1) none)) [none,none] au) Q:=by
 have e:cutD (aJ l) (some 1) none=aJ (l.drop 1):=by
  have:=zwi (aJ l) 1;rw[show((1:Nat):Int)=1 from rfl] at this;rw[this,aJ,aJ,List.map_drop]
 rw[e,zko];refine zhw (as:=l.zip (l.drop 1)) (λσ=>∃v w,σ=[v,w]) (λ_=>true) (λp=>.bl (HT.lexLt p.1 p.2)) (λp=>.tup [aL p.1,aL p.2]) ⟨_,_,rfl⟩ ?_ (by rw[zcn];exact q);rintro p hp σ ⟨v,w,rfl⟩;refine⟨_,rfl,⟨_,_,rfl⟩,by simp only[W,xgb],λ_=>?_⟩;simp only[W,V];exact WP.of zbkq ⟨rfl,rfl⟩
section
theorem zvk (hb:BagAt au n)(k:∀(m:Int) st',1<=m->m<=10->Drew au st' n->Q (.int m) st'):WP (zde [.ref n] au) Q:=by
 refine zey rfl ?_;simp only[W,V];refine zfm hb (by lia) (by lia) λr st1 h1 h2 d1=>?_
 simp only[W,V];refine⟨small _ (by simp),?_⟩;refine zfm d1.bag (by lia) (by lia) λr2 st2 h3 h4 d2=>?_
 refine zbje h3 (by simp;lia) λd hd=>?_
 simp only[xbm,xfk,xjw] at hd;rcases hd with rfl | rfl | rfl | rfl | rfl | rfl | rfl | rfl | rfl | rfl | rfl<;>exact k _ _ (by lia) (by lia) (d1.trans d2)
theorem ztm (l:List Int)(j:Nat):(l.drop j++l.take j).length=l.length:=by rw[xbh,Nat.add_comm,← xbh,xdq]
theorem zbdt {l:List Int}   (h:l.length<=sizeLine):aM (.lst ((l.drop j).map .int)) (.lst ((l.take j).map .int)) s=.ok (.lst ((l.drop j++l.take j).map .int)) s:=by
 show(if _<=sizeLine then Res.ok (D.lst _) s else .stuck)=_;rw[if_pos,xdw];rw[xbb,xbb,← xbh,ztm];exact h
theorem zqo  {l:List (List Int)}(hx:seqV x=some (aJ l))(hl:l.length<=1000000)(k:∀g,Q (aK (aO l)) (au++g)):WP (zca [x] au) Q:=by
 have h1:=zcq l;obtain⟨g,e⟩:=zso (au:=au) hx (by lia) (by lia);exact WP.of e (k g)
theorem zblh   [Decidable p]   (q:Q (.int (if p then b else a)) au):WP (oIx (.lst [.int a,.int b]) (.int (if p then 1 else 0)) au) Q:=by
 by_cases h:p
 ·simp only[h,xeu] at q ⊢;exact zdt (xs:=[.int a,.int b]) rfl rfl q
 ·simp only[h,xec] at q ⊢;exact zdt (xs:=[.int a,.int b]) rfl rfl q
theorem zbab {N:Int}  (h:SumOk N.toNat l)(hN:0<=N)(hN2:N<=1000)(hl:l.length<=1000000)(q:Q (.bl true) au):WP (zcx [.int N,aK l] au) Q:=by
 refine zey rfl ?_;have ty:∀ ds:List D,bIsinst [.tup ds,.ty "tuple"] au=.ok (.bl true) au:=λds=>rfl
 simp only[W,V];refine WP.of (ty _) ⟨true,rfl,?_⟩;simp only[W,V];refine⟨_,rfl,?_⟩;refine zcy (λi σ s=>s=au/\∃v,σ=[some (.int N),some (aK l),v]) ⟨rfl,_,rfl⟩ ?_ ?_
 ·rintro i x σ s hx ⟨rfl,v,rfl⟩;obtain⟨r,hr,rfl⟩:=zcf hx;have hm:=xcb hr;refine⟨_,rfl,?_⟩;unfold zfr;simp only[W,V];refine WP.of (ty _) ⟨true,rfl,?_⟩;have e1:((r.map D.int).length:Int)=N:=by rw[xbb,h.len r hm];lia
  simp only[W,V,e1];refine⟨_,rfl,by rw[xbb,h.len r hm];exact small _ (by lia),?_⟩;refine zhw (as:=r) (λσ=>∃v,σ=[v]) (λ_=>true) (λx=>.bl (decide (0<=x))) .int ⟨_,rfl⟩ ?_ ?_
  ·rintro x hx σ ⟨v,rfl⟩;refine⟨_,rfl,⟨_,rfl⟩,by simp only[W,xgb],λ_=>?_⟩;simp only[W,V];exact WP.of (zcr (au:=s) (i:=x)) (by simp only[W,V,xgb])
  ·rw[zcn];simp only[M,W,V];refine⟨_,zdn _ _,true,?_,?_⟩
   ·rw[List.all_map];show some _=_
    congr 1
    rw[xcu];intro x hx;exact xbw (h.pos r hm x hx)
   ·simp only[W,V,L];exact⟨True.intro,_,rfl⟩
 ·rintro σ s ⟨rfl,v,rfl⟩;simp only[W,V,M];refine⟨1,rfl,.inl ⟨_,rfl,?_⟩⟩;refine⟨_,_,rfl,by rw[zeh,zf];exact small _ (by lia),zyn ?_⟩;refine⟨_,zdn _ _,?_⟩;rw[List.all_map];have:=(zqk l).mpr h.rise;unfold riseB at this;rw[show((id:Bool->Bool) ∘ λp:List Int×List Int=>HT.lexLt p.1 p.2)=λp=>HT.lexLt p.1 p.2 from rfl,this];exact q
end
section
end
section
end
section
end
theorem ztd     (h:WP (s σ au) R)(k:∀fl s',R fl s'->seqK t Q fl s'):WP (aD s t σ au) Q:=by
 rw[zbhr];exact h.mono k
section
end
section
theorem zbcp   (h:au[n]?=some (.dT (aQ ks)))(hl:ks.length<=1000000)(q:Q .non (au.set n (.dT (aQ (aP ks k))))):WP (zpu [.ref n,aL k] au) Q:=WP.of (zblg h hl) q
theorem zqf  (h:au[n]?=some (.dT (aQ ks)))(hl:ks.length<=1000000)(q:Q (.lst (aJ (sortR ks))) au):WP (bSorted [.ref n] au) Q:=WP.of (zrw h hl) q
theorem zoz   (hx:seqV x=some (aJ l))(hl:l.length<=1000000)(k:∀g,Q (aK (aO l)) (au++g)):WP (zgp [x] au) Q:=by
 refine zey rfl ?_;simp only[W,V];refine⟨_,hx,?_⟩;refine zcy (λi σ s=>(∃v,σ=[some x,some (.ref au.length),v])/\s=au++[.dT (aQ (aN (l.take i)))]) ⟨⟨_,rfl⟩,rfl⟩ ?_ ?_
 ·rintro i y σ s hy ⟨⟨v,rfl⟩,rfl⟩;obtain⟨r,hr,rfl⟩:=zcf hy;refine⟨_,rfl,?_⟩;unfold zhu;simp only[W,V,L];have h1:=zcq (l.take i);have h2:(l.take i).length<=l.length:=by rw[xcz];exact xfu _ _
  refine zbcp (ks:=aN (l.take i)) (by simp) (by lia) ⟨⟨_,rfl⟩,?_⟩;rw[zj hr];unfold aN;rw[xhx];simp
 ·rintro σ s ⟨⟨v,rfl⟩,rfl⟩;rw[zf,xch];simp only[W,V];have h1:=zcq l;refine zqf (ks:=aN l) (by simp) (by lia) ?_;simp only[W,V];exact k _
end
section
end
end Dd
namespace K03
end K03
namespace K13
open PySem PyProof.Rows
theorem zbfq (a b:Nat):(a &&& b) / 2=a / 2 &&& b / 2:=xls
theorem zbfp (a b:Nat):(a &&& b) % 2=(a % 2) * (b % 2):=by
 have q:=@Nat.and_mod_two_eq_one a b;rcases xew a with h | h<;>rcases xew b with h' | h'<;>rw[h,h'] at q ⊢<;>lia
noncomputable abbrev In (e y:Nat):Prop:=e &&& y=y
theorem zqw :In a b↔(In (a / 2) (b / 2)/\¬ (b % 2=1/\a % 2=0)):=K07.zzu a b
theorem In.le  (h:In e y):y<=e:=by rw[← h];exact Nat.and_le_left
theorem zbcg (e:Nat):In e 0:=Nat.and_zero e
theorem zbla (e:Nat):In e e:=Nat.and_self e
theorem zblc (e x:Nat):In e (e &&& x):=by unfold In;rw[← Nat.and_assoc,Nat.and_self]
theorem zbfw:∀(e y:Nat),In e y->In e (e - y):=λe=>by
 induction e using Nat.strongRecOn with
 | ind e ih =>
  intro y h;by_cases z:e=0
  ·subst z;rw[Nat.zero_sub];exact zbcg 0
  obtain⟨h1,h2⟩:=zqw.mp h;have i:=ih (e / 2) (by lia) (y / 2) h1;have l1:=h1.le;refine zqw.mpr ⟨?_,?_⟩
  ·rw[show(e - y) / 2=e / 2 - y / 2 by lia];exact i
  ·rintro⟨a,b⟩;lia
theorem zblb:∀(e d q:Nat),In e d->In e q->q < d->q<=e &&& (d - 1):=λe=>by
 induction e using Nat.strongRecOn with
 | ind e ih =>
  intro d q hd hq lt;by_cases z:e=0
  ·subst z;have:=hd.le;lia
  obtain⟨d1,d2⟩:=zqw.mp hd;obtain⟨q1,q2⟩:=zqw.mp hq;have e1:=zbfq e (d - 1);have e2:=zbfp e (d - 1);rcases xew d with c | c
  ·rw[show(d - 1) / 2=d / 2 - 1 by lia] at e1;rw[show(d - 1) % 2=1 by lia,Nat.mul_one] at e2;have i:=ih (e / 2) (by lia) (d / 2) (q / 2) d1 q1 (by lia);have:q % 2<=e % 2:=by lia
   lia
  ·rw[show(d - 1) / 2=d / 2 by lia,d1] at e1;lia
noncomputable def nxt (e j:Nat):Nat:=e - (e &&& (e - j - 1))
theorem zbkf  (h:j < e):j < nxt e j:=by
 have:=xgz (@Nat.and_le_right e (e - (j+1))) e;rw[Nat.sub_sub_self h] at this;exact this
theorem zbpt (e j:Nat):nxt e j<=e:=xgw _ _
theorem zbpu (e j:Nat):In e (nxt e j):=zbfw e _ (zblc e _)
theorem zzi  (hj:In e j)(hm:In e m)(lt:j < m):nxt e j<=m:=by
 have l1:=hm.le;have:=zblb e (e - j) (e - m) (zbfw e j hj) (zbfw e m hm) (Nat.sub_lt_sub_left (xbk lt l1) lt);exact Nat.sub_le_of_le_add (Nat.add_comm _ m ▸ Nat.sub_le_iff_le_add.mp this)
theorem zbke {e j:Nat}(h:j < e):Builtin.bitAnd ((j:Int) - (e:Int)) (e:Int)=(nxt e j:Nat):=by
 rw[bitAnd_np (by lia) (by lia)];have e1:(Builtin.bitNot ((j:Int) - (e:Int))).toNat=e - j - 1:=by
  unfold Builtin.bitNot;lia
 rw[e1,xea];have:=@Nat.and_le_left e (e - j - 1);unfold nxt;lia
noncomputable def subL (e:Nat) (lo hi:Int) (n:Nat):List Nat:=(List.range n).filter λx=>decide (e &&& x=x/\lo<=x/\(x:Int)<=hi)
theorem zlb (e:Nat)(lo hi:Int)(n:Nat):subL e lo hi (n+1)=subL e lo hi n++(if e &&& n=n/\lo<=n/\(n:Int)<=hi then[n] else[]):=by
 unfold subL;rw[xit,xfh]
 congr 1
 by_cases c:e &&& n=n/\lo<=n/\(n:Int)<=hi
 ·rw[if_pos c];exact xcq (p:=λx:Nat=>decide (e &&& x=x/\lo<=x/\(x:Int)<=hi)) (xbw c)
 ·rw[if_neg c];exact xcy (p:=λx:Nat=>decide (e &&& x=x/\lo<=x/\(x:Int)<=hi)) (by rw[xbz c];decide)
theorem zie {e:Nat}{lo hi:Int}{n:Nat}:∀(k:Nat),(∀x,n<=x->x < n+k->¬ (e &&& x=x/\lo<=x/\(x:Int)<=hi))->subL e lo hi (n+k)=subL e lo hi n
 | 0,_=>rfl
 | k+1,h=>by
  rw[← Nat.add_assoc,zlb,if_neg (h _ (by lia) (by lia)),xdm];exact zie k λx h1 h2=>h x h1 (by lia)
theorem ziv (e:Nat)(lo hi:Int)(n:Nat):(subL e lo hi n).length<=n:=by
 have:=xfs (λx=>decide (e &&& x=x/\lo<=x/\(x:Int)<=hi)) (List.range n);rw[xev] at this;exact this
def sharesL (e:Nat) (lo hi:Int):List Nat:=subL e lo hi (e+1)
theorem zdi {e j:Nat}{lo hi:Int}:j∈sharesL e lo hi↔(In e j/\lo<=j/\(j:Int)<=hi):=by
 unfold sharesL subL;rw[xdy,xby,xmy];exact⟨λh=>h.2,λh=>⟨xms h.1.le,h⟩⟩
theorem zyf {e j:Nat}{lo hi:Int}(hj:In e j)(lt:j < e)(hh:(j:Int)<=hi):subL e lo hi (nxt e j)=subL e lo hi j++(if lo<=j then[j] else[]):=by
 have g:=zbkf lt;obtain⟨k,hk⟩:∃k,nxt e j=(j+1)+k:=⟨nxt e j - (j+1),(xcl g).symm⟩
 rw[hk,zie k λx h1 h2 c=>?_,zlb]
 ·congr 1
  by_cases c:lo<=j
  ·rw[if_pos ⟨hj,c,hh⟩,if_pos c]
  ·rw[if_neg λz=>c z.2.1,if_neg c]
 ·have:=zzi hj c.1 (by lia);lia
theorem zoo {e j:Nat}{lo hi:Int}(hj:In e j)(hh:hi < j):sharesL e lo hi=subL e lo hi j:=by
 have:=hj.le;obtain⟨k,hk⟩:∃k,e+1=j+k:=⟨e+1 - j,(xcl (xgh this)).symm⟩
 unfold sharesL;rw[hk];exact zie k λx h1 h2 c=>by lia
theorem zrz {e:Nat}{lo hi:Int}(hh:(e:Int)<=hi):sharesL e lo hi=subL e lo hi e++(if lo<=e then[e] else[]):=by
 unfold sharesL;rw[zlb]
 congr 1
 by_cases c:lo<=e
 ·rw[if_pos ⟨zbla e,c,hh⟩,if_pos c]
 ·rw[if_neg λz=>c z.2.1,if_neg c]
end K13
namespace Dd
open PySem L2 K13
theorem zoe    (I:Nat->DS->Store->Prop)    (h0:I k σ au)(hm:k < 1000000)
  (s:∀j σ au,I j σ au->WP (c σ au) (λb st1=>if b=true then WP (body σ st1) (loopK (λσ2 st2=>∃i,i < j/\I i σ2 st2) Q) else Q (.nx σ) st1)):WP (sWhile c body σ au) Q:=by
 have main:∀n j σ au,I j σ au->j < n->WP (whileF c body n σ au) Q:=by
  intro n
  induction n with
  | zero=>intro j σ au _ h;lia
  | succ n ih =>
   intro j σ au hI hlt;obtain⟨b,st1,e1,w⟩:=(s j σ au hI).get;unfold whileF;rw[e1];dsimp only[zdm];cases b with
   | false=>exact w
   | true =>
    rw[if_pos rfl] at w ⊢;obtain⟨fl,st2,e2,w⟩:=w.get;rw[e2];cases fl with
    | nx σ2=>obtain⟨i,hi,h⟩:=w;exact ih i σ2 st2 h (by lia)
    | ct σ2=>obtain⟨i,hi,h⟩:=w;exact ih i σ2 st2 h (by lia)
    | brk σ2=>exact w
    | ret v=>exact w
 exact main wCap k σ au h0 hm
noncomputable def dN (j:Nat):D:=.int (j:Int)
section
theorem zyk {e:Nat}{lo hi:Int}(he:e<=100000)(k:∀g,Q (.lst ((sharesL e lo hi).map dN)) (au++g)):WP (zmh [.int e,.int lo,.int hi] au) Q:=by
 refine zey rfl ?_;simp only[W,V];refine⟨small _ (by simp),?_⟩;have fin:∀(xs:List Nat) (v:Option D),xs=sharesL e lo hi->WP (sRet (eFz (aA 3)) [some (.int e),some (.int lo),some (.int hi),some (.ref au.length),v] (au++[.lst (xs.map dN)])) (retK Q):=λxs v h=>by
  subst h;simp only[W,V,M];refine⟨_,_,rfl,by simp;rfl,?_⟩;have:=k [.dead]
  simpa using this
 refine zoe (λm σ s=>∃j:Nat,m=e - j/\σ=[some (.int e),some (.int lo),some (.int hi),some (.ref au.length),some (.int j)]/\In e j/\s=au++[.lst ((subL e lo hi j).map dN)]) (k:=e) ⟨0,rfl,rfl,zbcg e,rfl⟩ (by lia) ?_;rintro m σ s ⟨j,rfl,rfl,hj,rfl⟩;simp only[W,V,Dd.N];have hle:=hj.le;split
 ·rename_i hh;unfold zkx;refine ztd (R:=λfl s=>fl=.nx [some (.int e),some (.int lo),some (.int hi),some (.ref au.length),some (.int j)]/\s=au++[.lst ((subL e lo hi j++(if lo<=j then[j] else[])).map dN)]) ?_ ?_
  ·simp only[W,V,M,Dd.N];split
   ·rename_i c;have hlen:=ziv e lo hi j;refine⟨_,_,rfl,by simp;rfl,_,_,rfl,by simp;rfl,by rw[xbb];exact smallT _ (by lia),?_⟩;simp[dN,c]
   ·rename_i c;simp[c]
  ·rintro fl s ⟨rfl,rfl⟩;simp only[W,V,L];split
   ·rename_i c;have c':j=e:=by lia
    subst c';have:=fin (subL j lo hi j++(if lo<=j then[j] else[])) (some (.int j)) (zrz hh).symm;simp only[W,V] at this;exact this
   ·rename_i c;have lt:j < e:=by lia
    have g:=zbkf lt;have g2:=zbpt e j;refine⟨trivial,trivial,e - nxt e j,by lia,nxt e j,rfl,?_,zbpu e j,?_⟩
    ·rw[zbke lt]
    ·rw[zyf hj lt hh]
 ·rename_i hh;have:=fin (subL e lo hi j) (some (.int j)) (zoo hj (by lia)).symm;simp only[W,V] at this;exact this
end
noncomputable abbrev Pt:=List Int×Int
def ptD (p:Pt):D:=.tup [aL p.1,.int p.2]
def letJ (e:Nat) (rest:Int) (p:Pt):List Pt:=(sharesL e (p.2 - rest) p.2).map λj:Nat=>(p.1++[(e:Int)+(j:Int)],p.2 - (j:Int))
def letL (e:Nat) (rest:Int) (ps:List Pt):List Pt:=ps.flatMap (letJ e rest)
theorem zbfk (e:Nat)(rest:Int)(p:Pt):(letJ e rest p).length<=e+1:=by
 unfold letJ;rw[xbb];exact ziv _ _ _ _
theorem zpe (e:Nat)(rest:Int):∀ps:List Pt,(letL e rest ps).length<=ps.length * (e+1)
 | []=>by simp[letL]
 | p::ps=>by
  have e1:letL e rest (p::ps)=letJ e rest p++letL e rest ps:=by simp[letL]
  have:=zpe e rest ps;have:=zbfk e rest p;rw[e1,xbh,xcc,xkk];lia
theorem zzq (e:Nat)(rest:Int)(ps:List Pt)(p:Pt):letL e rest (ps++[p])=letL e rest ps++letJ e rest p:=by simp[letL]
theorem zbfh {e:Nat}{rest:Int}  :q∈letL e rest ps↔∃p∈ps,∃j:Nat,j∈sharesL e (p.2 - rest) p.2/\q=(p.1++[(e:Int)+(j:Int)],p.2 - (j:Int)):=by
 unfold letL letJ;simp only[xei,xbp];constructor
 ·rintro⟨p,hp,j,hj,rfl⟩;exact⟨p,hp,j,hj,rfl⟩
 ·rintro⟨p,hp,j,hj,rfl⟩;exact⟨p,hp,j,hj,rfl⟩
section
theorem zmu (o o':O)(g:Store):(au++o::g).set au.length o'=au++o'::g:=by simp
theorem zhq (o:O)(g:Store):(au++o::g)[au.length]?=some o:=by simp
theorem zhn {α:Type}{f:α->D}{l:List α}{i:Nat}{x:D}(h:(l.map f)[i]?=some x):∃a,l[i]?=some a/\x=f a:=by
 rw[xcp] at h;obtain⟨a,h1,h2⟩:=xdh.mp h;exact⟨a,h1,h2.symm⟩
section
variable {au:Store}{Q:D->Store->Prop}
theorem zjf {e:Nat}{rest:Int}{ps:List Pt}(he:e<=1000)(hl:ps.length * (e+1)<=100000)(hr:∀p∈ps,p.1.length<=1000)(k:∀g,Q (.lst ((letL e rest ps).map ptD)) (au++g)):WP (zch [.lst (ps.map ptD),.int e,.int rest] au) Q:=by
 refine zey rfl ?_;simp only[W,V,Dd.N];refine⟨small _ (by simp),?_⟩;refine zcy (λi σ s=>(∃v w z,σ=[some (.lst (ps.map ptD)),some (.int e),some (.int rest),some (.ref au.length),v,w,z])/\∃g,s=au++(.lst ((letL e rest (ps.take i)).map ptD)::g)) ⟨⟨_,_,_,rfl⟩,[],rfl⟩ ?_ ?_
 ·rintro i y σ s hy ⟨⟨v,w,z,rfl⟩,g,rfl⟩;obtain⟨p,hp,rfl⟩:=zhn hy;have hi:i < ps.length:=(xbj.mp hp).1;refine⟨_,rfl,?_⟩;unfold zdo;simp only[W,V,Dd.N];have hlen:(letL e rest (ps.take i)).length+(e+1)<=100000:=by
   have h1:=zpe e rest (ps.take i);have h2:(ps.take i).length=i:=by rw[xcz];lia
   rw[h2] at h1;have h3:(i+1) * (e+1)<=ps.length * (e+1):=xfb _ hi;rw[xkk] at h3;lia
  refine zyk (by lia) λg2=>?_
  simp only[W,V,Dd.N];rw[xck,xju];generalize g++g2=g3;have hsl:(sharesL e (p.2 - rest) p.2).length<=e+1:=ziv _ _ _ _;refine zcy (λj σ s=>(∃z,σ=[some (.lst (ps.map ptD)),some (.int e),some (.int rest),some (.ref au.length),some (aL p.1),some (.int p.2),z])/\s=au++(.lst ((letL e rest (ps.take i)++((sharesL e (p.2 - rest) p.2).take j).map λj:Nat=>(p.1++[(e:Int)+j],p.2 - (j:Int))).map ptD)::g3)) ⟨⟨_,rfl⟩,by simp⟩ ?_ ?_
  ·rintro j y σ s hy ⟨⟨z,rfl⟩,rfl⟩;obtain⟨a,ha,rfl⟩:=zhn hy;refine⟨_,rfl,?_⟩;unfold zdp dN;simp only[W,V,M,Dd.N,L];have h2:((sharesL e (p.2 - rest) p.2).take j).length<=(sharesL e (p.2 - rest) p.2).length:=by rw[xcz];exact xfu _ _
   have h3:=hr p (xcb hp);refine⟨_,_,rfl,zhq _ _,small _ (by simp),by rw[xbb];exact small _ (by simp;lia),small _ (by simp),_,_,rfl,zhq _ _,by rw[xbb,xbh,xbb];exact smallT _ (by lia),⟨_,rfl⟩,?_⟩;rw[zmu,zj ha];simp[ptD,aL]
  ·rintro σ s ⟨⟨z,rfl⟩,rfl⟩;simp only[L];refine⟨⟨_,_,_,rfl⟩,g3,?_⟩;rw[xbb,xch,zj hp,zzq]
   rfl
 ·rintro σ s ⟨⟨v,w,z,rfl⟩,g,rfl⟩;rw[xbb,xch];simp only[W,V,M,Dd.N];refine⟨_,_,rfl,zhq _ _,?_⟩;rw[zmu];exact k _
end
def stepP (s:Int×List Pt) (e:Int):Int×List Pt:=(s.1 - e,letL e.toNat (s.1 - e) s.2)
def prodS (r:List Int) (k:Int) (m:List Int):Int×List Pt:=m.foldl stepP (r.sum,[([],k)])
def prodP (r:List Int) (k:Int):List (List Int):=(prodS r k r).2.map (·.1)
noncomputable def box:List Int->Nat
 | []=>1
 | e::r=>(e.toNat+1) * box r
theorem zdl:∀a b:List Int,box (a++b)=box a * box b
 | [],b=>by simp[box]
 | e::a,b=>by rw[xju,box,box,zdl a b,Nat.mul_assoc]
theorem zbde:∀a:List Int,1<=box a
 | []=>xbg _
 | e::a=>by have:=zbde a;unfold box;exact xbc this (xlc _ (by lia))
theorem zwu (r:List Int)(i:Nat):box (r.take i)<=box r:=by
 have e:=zdl (r.take i) (r.drop i);rw[xdq] at e;rw[e];exact Nat.le_mul_of_pos_right _ (zbde _)
theorem zmx (r:List Int)(k:Int)(m:List Int)(e:Int):prodS r k (m++[e])=stepP (prodS r k m) e:=by unfold prodS;rw[xhx];rfl
theorem zql {r:List Int}{k:Int}{P:List Int->Int×List Pt->Prop}(h0:P [] (r.sum,[([],k)]))(h:∀m e s,P m s->P (m++[e]) (stepP s e)):∀(i:Nat),P (r.take i) (prodS r k (r.take i)):=λi=>by
 induction i with
 | zero=>exact h0
 | succ i ih =>
  by_cases c:i < r.length
  ·have g:r[i]?=some r[i]:=xbe c;rw[zj g,zmx];exact h _ _ _ ih
  ·rw[xdj (by lia)] at ih ⊢;exact ih
theorem zlf (r:List Int)(k:Int)(i:Nat):(prodS r k (r.take i)).2.length<=box (r.take i):=by
 refine zql (P:=λm s=>s.2.length<=box m) (by simp[box]) (λm e s hs=>?_) i;have:=zpe e.toNat (s.1 - e) s.2;rw[zdl];show(letL e.toNat (s.1 - e) s.2).length<=box m * ((e.toNat+1) * 1)
 rw[Nat.mul_one];exact xbc this (xfb _ hs)
theorem zyu (r:List Int)(k:Int)(i:Nat):∀p∈(prodS r k (r.take i)).2,p.1.length=(r.take i).length:=by
 refine zql (P:=λm s=>∀p∈s.2,p.1.length=m.length) (by simp) (λm e s hs=>?_) i;intro q hq;obtain⟨p,hp,j,hj,rfl⟩:=zbfh.mp hq;rw[xbh,xbh,hs p hp]
 rfl
section
variable {au:Store}{Q:D->Store->Prop}
theorem zhx {r:List Int}{t:Int}(hp:∀x∈r,0<=x/\x<=1000)(hl:r.length<=1000)(hb:box r<=20000)(k:∀g,Q (.lst (aJ (prodP r t))) (au++g)):WP (zbz [aL r,.int t] au) Q:=by
 refine zey rfl ?_;simp only[W,V,M,Dd.N];refine⟨small _ (by simp),small _ (by simp),small _ (by simp),r,zbf r,?_⟩;refine zcy (λi σ s=>(∃v,σ=[some (aL r),some (.int t),some (.lst ((prodS r t (r.take i)).2.map ptD)),some (.int (prodS r t (r.take i)).1),v])/\∃g,s=au++g) ⟨⟨_,rfl⟩,[],by simp⟩ ?_ ?_
 ·rintro i y σ s hy ⟨⟨v,rfl⟩,g,rfl⟩;obtain⟨e,he,rfl⟩:=zhn hy;refine⟨_,rfl,?_⟩;unfold zdd;obtain⟨h1,h2⟩:=hp e (xcb he);simp only[W,V,M,Dd.N,L];refine⟨_,rfl,?_⟩;have hlen:=zlf r t i;have hbx:=zwu r (i+1);rw[zj he,zdl,show box [e]=e.toNat+1 by simp[box]] at hbx;have hm:(prodS r t (r.take i)).2.length * (e.toNat+1)<=20000:=xbc (xfb _ hlen) (xbc hbx hb);have hrow:=zyu r t i;rw[zj he,zmx];generalize prodS r t (r.take i)=s at hm hrow ⊢;obtain⟨a,rfl⟩:=xgf h1;refine zjf (e:=a) (by lia) (by rw[xea] at hm;lia) (λp hp=>?_) λg2=>?_
  ·rw[hrow p hp,xcz];lia
  ·simp only[W,V,L];exact⟨⟨_,rfl⟩,g++g2,by simp⟩
 ·rintro σ s ⟨⟨v,rfl⟩,g,rfl⟩;rw[xbb,xch];simp only[W,V,M,Dd.N];have hlen:=zlf r t r.length;rw[xch] at hlen;refine⟨by rw[xbb];exact small _ (by lia),?_⟩;refine zhw (as:=(prodS r t r).2) (λσ=>∃v w,σ=[v,w]) (λ_=>true) (λp=>aL p.1) ptD ⟨_,_,rfl⟩ ?_ ?_
  ·rintro p hp σ ⟨v,w,rfl⟩;exact⟨_,rfl,⟨_,_,rfl⟩,by simp only[W,xgb],λ_=>by simp only[W,V,xgb]⟩
  ·rw[zcn];have:=k g;unfold prodP aJ at this;rw[xcv] at this;exact this
end
theorem zqm (r:List Int)(k:Int):(prodP r k).length<=box r:=by
 have:=zlf r k r.length;rw[xch] at this;unfold prodP;rw[xbb];exact this
def raiseR (k:Int) (r:List Int):List (List Int):=if k<=r.sum then prodP r k else[]
def raiseL (k:Int) (l:List (List Int)):List (List Int):=l.flatMap (raiseR k)
theorem zix    (h:box r<=B):(raiseR k r).length<=B:=by
 unfold raiseR;split
 ·exact xbc (zqm r k) h
 ·simp
theorem zgc  :∀{l:List (List Int)},(∀r∈l,box r<=B)->(raiseL k l).length<=l.length * B
 | [],_=>by simp[raiseL]
 | r::l,h=>by
  have e:raiseL k (r::l)=raiseR k r++raiseL k l:=by simp[raiseL]
  have h1:=zix (k:=k) (h r xbq);have h2:=zgc (k:=k) (l:=l) λx hx=>h x (xbo _ hx)
  rw[e,xbh,xcc,xkk];lia
theorem zkl (k:Int)(l:List (List Int))(r:List Int):raiseL k (l++[r])=raiseL k l++raiseR k r:=by simp[raiseL]
theorem zys   (ht:0<=t)(hp:∀r∈l,∀x∈r,0<=x/\x<=1000)(hr:∀r∈l,r.length<=1000)(hb:∀r∈l,box r<=20000)(hl:l.length<=45)(k:∀g,Q (aK (aO (raiseL t l))) (au++g)):WP (zmi [aK l,.int t] au) Q:=by
 refine zey rfl ?_;simp only[W,V,Dd.N];refine WP.of (zcr (au:=au) (i:=t)) ⟨true,rfl,?_⟩;have tn:¬ t < 0:=by lia
 simp only[W,V,Dd.N,tn,xfz];have total:(raiseL t l).length<=900000:=by
  have:=zgc (k:=t) hb;lia
 refine zcy (λi σ s=>(∃v w,σ=[some (aK l),some (.int t),some (.ref au.length),v,w])/\∃g,s=au++(.dT (aQ (aN (raiseL t (l.take i))))::g)) ⟨⟨_,_,rfl⟩,[],rfl⟩ ?_ ?_
 ·rintro i y σ s hy ⟨⟨v,w,rfl⟩,g,rfl⟩;obtain⟨r,hrr,rfl⟩:=zcf hy;have hm:=xcb hrr;have hi:i < l.length:=(xbj.mp hrr).1;refine⟨_,rfl,?_⟩;unfold zky;simp only[W,V,M,Dd.N,L];refine⟨r,zbf r,?_⟩;rw[zj hrr,zkl];have hlen:(aN (raiseL t (l.take i))).length<=900000:=by
   have h1:=zcq (raiseL t (l.take i));have h2:=zgc (k:=t) (l:=l.take i) (B:=20000) λx hx=>hb x (xfj hx)
   have h3:(l.take i).length=i:=by rw[xcz];lia
   rw[h3] at h2;lia
  split
  ·rename_i c;have er:raiseR t r=prodP r t:=by unfold raiseR;rw[if_pos c]
   rw[er];refine zhx (hp r hm) (hr r hm) (hb r hm) λg2=>?_
   simp only[W,V,Dd.N];rw[xck,xju];generalize g++g2=g3;have hpl:=xbc (zqm r t) (hb r hm);refine zcy (λj σ s=>(∃w,σ=[some (aK l),some (.int t),some (.ref au.length),some (aL r),w])/\s=au++(.dT (aQ (((prodP r t).take j).foldl aP (aN (raiseL t (l.take i)))))::g3)) ⟨⟨_,rfl⟩,rfl⟩ ?_ ?_
   ·rintro j y σ s hy ⟨⟨w,rfl⟩,rfl⟩;obtain⟨b,hb',rfl⟩:=zcf hy;refine⟨_,rfl,?_⟩;unfold zkz;simp only[W,V,L];have h1:=zlw ((prodP r t).take j) (aN (raiseL t (l.take i))) (zej _);have h2:((prodP r t).take j).length<=(prodP r t).length:=by rw[xcz];exact xfu _ _
    refine zbcp (ks:=((prodP r t).take j).foldl aP (aN (raiseL t (l.take i)))) (zhq _ _) (by lia) ⟨⟨_,rfl⟩,?_⟩;rw[zmu,zj hb',xhx]
    rfl
   ·rintro σ s ⟨⟨w,rfl⟩,rfl⟩;simp only[L];refine⟨⟨_,_,rfl⟩,g3,?_⟩;rw[zf,xch];unfold aN;rw[xhx]
  ·rename_i c;have er:raiseR t r=[]:=by unfold raiseR;rw[if_neg c]
   rw[er,xdm]
   try simp only[L]
   exact⟨⟨_,_,rfl⟩,g,rfl⟩
 ·rintro σ s ⟨⟨v,w,rfl⟩,g,rfl⟩;rw[zf,xch];simp only[W,V];have h1:=zcq (raiseL t l);refine zqf (ks:=aN (raiseL t l)) (zhq _ _) (by lia) ?_;simp only[W,V];exact k _
end
theorem zvc:∀{r:List Int},(∀x∈r,0<=x)->0<=r.sum
 | [],_=>by simp
 | x::r,h=>by
  have:=zvc (r:=r) λy hy=>h y (xbo _ hy)
  have:=h x xbq;rw[xhv];lia
theorem zbkh:∀{r:List Int},(∀x∈r,0<=x)->∀x∈r,x<=r.sum
 | [],_,_,h=>nomatch h
 | y::r,h,x,hx=>by
  have h1:=λz hz=>h z (xbo y hz)
  have h2:=zvc h1;have h3:=h y xbq;rw[xhv];rcases xbm.mp hx with rfl | hx
  ·lia
  ·have:=zbkh h1 x hx;lia
theorem zyh (e:Int)(suf:List Int)(ps:List Pt):(e::suf).foldl stepP ((e::suf).sum,ps)=suf.foldl stepP (suf.sum,letL e.toNat suf.sum ps):=by
 rw[xhq,xhv];unfold stepP;dsimp only;rw[show e+suf.sum - e=suf.sum by lia]
theorem zbdd:∀{r:List Int},(∀x∈r,x<=24)->box r<=25 ^ r.length
 | [],_=>xbg _
 | e::r,h=>by
  have h1:=h e xbq;have h2:=zbdd (r:=r) λx hx=>h x (xbo _ hx)
  rw[xcc,xlt,Nat.mul_comm];exact Nat.mul_le_mul (by lia) h2
theorem zwt:∀{r:List Int},(∀x∈r,0<=x)->box r<=2 ^ r.sum.toNat
 | [],_=>by simp[box]
 | e::r,h=>by
  have h1:=h e xbq;have h1':=λx hx=>h x (xbo e hx)
  have h2:=zwt h1';have h3:=zvc h1';rw[xhv,show(e+r.sum).toNat=e.toNat+r.sum.toNat by lia,Nat.pow_add];exact Nat.mul_le_mul (Nat.succ_le_of_lt Nat.lt_two_pow_self) h2
section
end
end Dd
namespace K13
end K13
namespace Dd
open PySem L2 K13
theorem zfz     :WP (eExtend f g σ au) Q=WP (f σ au) (λx st1=>∃n xs0,x=.ref n/\st1[n]?=some (.lst xs0)/\WP (g σ st1) (λys st2=>∃y xs zs,ys=[y]/\st2[n]?=some (.lst xs)/\asL st2 y=some zs/\xs.length+zs.length<=sizeLine/\Q .non (st2.set n (.lst (xs++zs))))):=by
 rw[zbag,zh]
 congr
 funext x st1
 apply propext;constructor
 ·intro q;split at q
  ·rename_i n xs0 e;rw[zh] at q;have e':st1[n]?=some (.lst xs0):=by
    unfold asL at e;dsimp only at e;split at e
    ·cases e;assumption
    ·cases e
   refine⟨n,xs0,rfl,e',q.mono λys st2 h=>?_⟩;split at h
   ·split at h
    ·split at h
     ·exact⟨_,_,_,rfl,by assumption,by assumption,by assumption,h⟩
     ·exact h.elim
    ·exact h.elim
   ·exact h.elim
  ·exact q.elim
 ·rintro⟨n,xs0,rfl,e,q⟩;rw[zkw e];dsimp only;rw[zh];refine q.mono λys st2 h=>?_
  obtain⟨y,xs,zs,rfl,e2,e3,hl,h⟩:=h;rw[e2];dsimp only;rw[e3];dsimp only;rw[if_pos hl];exact h
section
def lawJ (e:Nat) (p:Pt):List Pt:=(sharesL e 0 p.2).map λj:Nat=>(p.1++[(e:Int)+(j:Int)],p.2 - (j:Int))
def lawL (e:Nat) (ps:List Pt):List Pt:=ps.flatMap (lawJ e)
theorem zvp (e:Nat)(p:Pt):(lawJ e p).length<=e+1:=by
 unfold lawJ;rw[xbb];exact ziv _ _ _ _
theorem zzt (e:Nat)(ps:List Pt)(p:Pt):lawL e (ps++[p])=lawL e ps++lawJ e p:=by simp[lawL]
theorem zpf (e:Nat):∀ps:List Pt,(lawL e ps).length<=ps.length * (e+1)
 | []=>by simp[lawL]
 | p::ps=>by
  have e1:lawL e (p::ps)=lawJ e p++lawL e ps:=by simp[lawL]
  have:=zpf e ps;have:=zvp e p;rw[e1,xbh,xcc,xkk];lia
theorem zve   :q∈lawL e ps↔∃p∈ps,∃j:Nat,j∈sharesL e 0 p.2/\q=(p.1++[(e:Int)+(j:Int)],p.2 - (j:Int)):=by
 unfold lawL lawJ;simp only[xei,xbp];constructor
 ·rintro⟨p,hp,j,hj,rfl⟩;exact⟨p,hp,j,hj,rfl⟩
 ·rintro⟨p,hp,j,hj,rfl⟩;exact⟨p,hp,j,hj,rfl⟩
theorem zmt {e:Nat}{left:Int}(h:0<=left):(List.range ((if left < (e:Int) then left else(e:Int))+1).toNat).filter (λx=>decide (e &&& x=x))=sharesL e 0 left:=by
 have key:∀n:Nat,(n:Int)<=left+1->subL e 0 left n=(List.range n).filter (λx=>decide (e &&& x=x)):=λn hn=>by
  unfold subL;refine xhy λx hx=>?_
  have:=xby.mp hx;have h1:(0:Int)<=(x:Int):=by lia
  have h2:(x:Int)<=left:=by lia
  simp[h1,h2]
 rw[← key _ (by split<;>lia)];unfold sharesL;split
 ·rename_i c;obtain⟨k,hk⟩:∃k,e+1=(left+1).toNat+k:=⟨e+1 - (left+1).toNat,by lia⟩
  rw[hk];exact(zie k λx h1 h2 z=>by lia).symm
 ·rw[show((e:Int)+1).toNat=e+1 by lia]
end
def lawStep (ps:List Pt) (e:Int):List Pt:=lawL e.toNat ps
def lawS (k:Int) (m:List Int):List Pt:=m.foldl lawStep [([],k)]
def lawP (k:Int) (r:List Int):List (List Int):=((lawS k r).filter λp=>decide (p.2=0)).map (·.1)
theorem ztx   (h:0<=left):(sharesL e 0 left).filter (λj:Nat=>decide (left - (j:Int)<=S))=sharesL e (left - S) left:=by
 unfold sharesL subL;rw[xmh];refine xhy λx _=>?_
 rw[← xlu];exact xgp.mpr ⟨λh=>⟨h.2.1,by lia,h.2.2.2⟩,λh=>⟨by lia,h.1,by lia,h.2.2⟩⟩
theorem zzr {e:Nat}{S:Int}  (h:¬ p.2<=e+S):letJ e S p=[]:=by
 unfold letJ;have:sharesL e (p.2 - S) p.2=[]:=by
  refine xlv.mpr λj hj=>?_
  obtain⟨h1,h2,h3⟩:=zdi.mp hj;have:=h1.le;lia
 rw[this]
 rfl
theorem zbfo    (h:0<=p.2):(lawJ e p).filter (λq=>decide (q.2<=S))=letJ e S p:=by
 unfold lawJ letJ;rw[xlr,← ztx h]
 rfl
theorem zvo {e:Nat}{S:Int}:∀{ps:List Pt},(∀p∈ps,0<=p.2)->(lawL e ps).filter (λq=>decide (q.2<=S))=letL e S (ps.filter λp=>decide (p.2<=e+S))
 | [],_=>rfl
 | p::ps,h=>by
  have ih:=zvo (e:=e) (S:=S) (ps:=ps) λq hq=>h q (xbo _ hq)
  have e1:lawL e (p::ps)=lawJ e p++lawL e ps:=by simp[lawL]
  rw[e1,xfh,ih,zbfo (h p xbq)];by_cases c:p.2<=e+S
  ·rw[xcq (by simpa using c)];simp[letL]
  ·rw[xcy (by simpa using c),zzr c]
   rfl
theorem zrj:∀(suf:List Int) (ps:List Pt),(∀x∈suf,0<=x)->(∀p∈ps,0<=p.2)->(suf.foldl lawStep ps).filter (λp=>decide (p.2=0))=(suf.foldl stepP (suf.sum,ps.filter λp=>decide (p.2<=suf.sum))).2
 | [],ps,_,h=>by
  show ps.filter _=ps.filter _;refine xhy λp hp=>?_
  have:=h p hp;exact xgp.mpr ⟨λz=>by simp;lia,λz=>by simp at z;lia⟩
 | e::suf,ps,hs,h=>by
  have h1:=λz hz=>hs z (xbo e hz)
  have h3:=hs e xbq;rw[zyh,xhq,zrj suf (lawStep ps e) h1 (λq hq=>?_)]
  ·unfold lawStep;rw[zvo h,xhv,show((e.toNat:Nat):Int)=e by lia]
  ·obtain⟨p,hp,j,hj,rfl⟩:=zve.mp hq;obtain⟨j1,j2,j3⟩:=zdi.mp hj;dsimp only;lia
theorem zqe:∀(suf:List Int) (t:Int),(suf.foldl stepP (t,[])).2=[]
 | [],_=>rfl
 | e::suf,t=>by
  rw[xhq];exact zqe suf (t - e)
theorem zbcb   (h:∀x∈r,0<=x)(hk:0<=k):lawP k r=raiseR k r:=by
 unfold lawP lawS;rw[zrj r [([],k)] h (λp hp=>by rw[xbt.mp hp];exact hk)];unfold raiseR;by_cases c:k<=r.sum
 ·rw[if_pos c,xcq (by simpa using c)]
  rfl
 ·rw[if_neg c,xcy (by simpa using c)];show(r.foldl stepP (r.sum,[])).2.map _=[]
  rw[zqe]
  rfl
theorem zlt (k:Int)(m:List Int)(e:Int):lawS k (m++[e])=lawStep (lawS k m) e:=by unfold lawS;rw[xhx];rfl
theorem zvn {k:Int}{P:List Int->List Pt->Prop}(h0:P [] [([],k)])(h:∀m e s,P m s->P (m++[e]) (lawStep s e))(r:List Int):∀(i:Nat),P (r.take i) (lawS k (r.take i)):=λi=>by
 induction i with
 | zero=>exact h0
 | succ i ih =>
  by_cases c:i < r.length
  ·have g:r[i]?=some r[i]:=xbe c;rw[zj g,zlt];exact h _ _ _ ih
  ·rw[xdj (by lia)] at ih ⊢;exact ih
theorem zvm (r:List Int)(k:Int)(i:Nat):(lawS k (r.take i)).length<=box (r.take i):=by
 refine zvn (P:=λm s=>s.length<=box m) (by simp[box]) (λm e s hs=>?_) r i;have:=zpf e.toNat s;rw[zdl];show(lawL e.toNat s).length<=box m * ((e.toNat+1) * 1)
 rw[Nat.mul_one];exact xbc this (xfb _ hs)
theorem zbfm (r:List Int){k:Int}(hk:0<=k)(i:Nat):∀p∈lawS k (r.take i),p.1.length=(r.take i).length/\0<=p.2:=by
 refine zvn (P:=λm s=>∀p∈s,p.1.length=m.length/\0<=p.2) (by simpa using hk) (λm e s hs=>?_) r i;intro q hq;obtain⟨p,hp,j,hj,rfl⟩:=zve.mp hq;obtain⟨j1,j2,j3⟩:=zdi.mp hj;obtain⟨h1,h2⟩:=hs p hp;dsimp only;rw[xbh,xbh,h1];exact⟨rfl,by lia⟩
section
end
end Dd
namespace K08
end K08
namespace Dd
open PySem L2 K13
def outL (e:Nat):List Int:=(sharesL e 0 e).map λj:Nat=>(e:Int)+(j:Int)
noncomputable def longL (rows:List (List Int)) (xs:List Int):List (List Int):=rows.flatMap λrow=>xs.map λx=>row++[x]
def wholeStep (rows:List (List Int)) (e:Int):List (List Int):=longL rows (outL e.toNat)
def wholeS (m:List Int):List (List Int):=m.foldl wholeStep [[]]
theorem zdh (m:List Int)(e:Int):wholeS (m++[e])=wholeStep (wholeS m) e:=by unfold wholeS;rw[xhx];rfl
theorem zry  :(sharesL e 0 e).filter (λj:Nat=>decide ((j:Int)<=left))=sharesL e 0 left:=by
 unfold sharesL subL;rw[xmh];refine xhy λx hx=>?_
 have:=xby.mp hx;rw[← xlu];exact xgp.mpr ⟨λh=>⟨h.2.1,h.2.2.1,h.1⟩,λh=>⟨h.2.2,h.1,h.2.1,by lia⟩⟩
def fitP (k M:Int) (rows:List (List Int)):List Pt:=(rows.filter λrow=>decide (row.sum - M<=k)).map λrow=>(row,k - (row.sum - M))
theorem zvw {k M:Int}{e:Nat}:∀rows:List (List Int),fitP k (M+e) (longL rows (outL e))=lawL e (fitP k M rows)
 | []=>rfl
 | row::rows=>by
  have ih:=zvw (k:=k) (M:=M) (e:=e) rows;have e1:longL (row::rows) (outL e)=((outL e).map λx=>row++[x])++longL rows (outL e):=by simp[longL]
  have e2:fitP k (M+e) (longL (row::rows) (outL e))=fitP k (M+e) ((outL e).map λx=>row++[x])++fitP k (M+e) (longL rows (outL e)):=by
   rw[e1];unfold fitP;rw[xfh,xdw]
  have e3:fitP k (M+e) ((outL e).map λx=>row++[x])=(sharesL e 0 (k - (row.sum - M))).map λj:Nat=>(row++[(e:Int)+(j:Int)],k - (row.sum - M) - (j:Int)):=by
   unfold fitP outL;rw[xcv,xlr,xcv,show sharesL e 0 (k - (row.sum - M))=_ from zry.symm];have e4:∀j:Nat,(row++[(e:Int)+(j:Int)]).sum - (M+e)=row.sum - M+j:=λj=>by rw[xen];simp;lia
   have e5:(sharesL e 0 e).filter ((λr:List Int=>decide (r.sum - (M+e)<=k)) ∘ ((λx=>row++[x]) ∘ λj:Nat=>(e:Int)+(j:Int)))=(sharesL e 0 e).filter λj:Nat=>decide ((j:Int)<=k - (row.sum - M)) :=
    xhy λj _=>by
     show decide ((row++[(e:Int)+(j:Int)]).sum - (M+e)<=k)=_;rw[e4];exact xgp.mpr ⟨λh=>by lia,λh=>by lia⟩
   rw[e5];refine xkd λj _=>?_
   show(row++[(e:Int)+(j:Int)],k - ((row++[(e:Int)+(j:Int)]).sum - (M+e)))=_;rw[e4]
   congr 1
   lia
  rw[e2,ih,e3];by_cases c:row.sum - M<=k
  ·have e6:fitP k M (row::rows)=(row,k - (row.sum - M))::fitP k M rows:=by
    unfold fitP;rw[xcq (by simpa using c)]
    rfl
   rw[e6];simp[lawL,lawJ]
  ·have e6:fitP k M (row::rows)=fitP k M rows:=by
    unfold fitP;rw[xcy (by simpa using c)]
   have e7:sharesL e 0 (k - (row.sum - M))=[]:=xlv.mpr λj hj=>by
    obtain⟨_,h2,h3⟩:=zdi.mp hj;lia
   rw[e6,e7]
   rfl
theorem zbfn {r:List Int}{k:Int}(h:∀x∈r,0<=x)(hk:0<=k):∀i:Nat,lawS k (r.take i)=fitP k (r.take i).sum (wholeS (r.take i)):=λi=>by
 induction i with
 | zero =>
  show[([],k)]=fitP k 0 [[]];unfold fitP;rw[xcq (by simpa using hk)];simp
 | succ i ih =>
  by_cases c:i < r.length
  ·have g:r[i]?=some r[i]:=xbe c;have h0:=h r[i] (xda c);rw[zj g,zlt,zdh,ih];unfold lawStep wholeStep;rw[← zvw,xen,show(r.take i).sum+[r[i]].sum=(r.take i).sum+(r[i].toNat:Int) by simp;lia]
  ·rw[xdj (by lia)] at ih ⊢;exact ih
theorem zeg {r:List Int}{k:Int}(h:∀x∈r,0<=x)(hk:0<=k):raiseR k r=(wholeS r).filter λm=>decide (m.sum=r.sum+k):=by
 have e:=zbfn h hk r.length;rw[xch] at e;rw[← zbcb h hk];unfold lawP;rw[e];unfold fitP;rw[xlr,xcv,xmh];have:∀l:List (List Int),l.map ((λp:Pt=>p.1) ∘ λrow=>(row,k - (row.sum - r.sum)))=l:=λl=>by
  show l.map (λrow=>row)=l;exact xno l
 rw[this];refine xhy λm _=>?_
 show(decide (k - (m.sum - r.sum)=0)&&decide (m.sum - r.sum<=k))=_;rw[← xlu];exact xgp.mpr ⟨λh=>by lia,λh=>by lia⟩
theorem zml {r:List Int}(h:∀x∈r,0<=x):∀(i:Nat),∀m∈wholeS (r.take i),(r.take i).sum<=m.sum/\m.sum<=2 * (r.take i).sum:=λi=>by
 induction i with
 | zero=>intro m hm;rw[xbt.mp (show m∈[[]] from hm)];simp
 | succ i ih =>
  by_cases c:i < r.length
  ·have g:r[i]?=some r[i]:=xbe c;have h0:=h r[i] (xda c);intro m hm;rw[zj g,zdh] at hm;unfold wholeStep longL outL at hm;obtain⟨row,hrow,hm⟩:=xei.mp hm;rw[xcv] at hm;obtain⟨j,hj,rfl⟩:=xbp.mp hm;obtain⟨j1,j2,j3⟩:=zdi.mp hj;obtain⟨a,b⟩:=ih row hrow;rw[zj g];simp only[Function.comp,xen,xhv,List.sum_nil];lia
  ·rw[xdj (by lia)] at ih ⊢;exact ih
theorem zux {a b:List (List Int)}(h:∀x,a.count x % 2=b.count x % 2):aO a=aO b:=zuw (zej a) λx=>by rw[zjb,h x]
theorem zgl (a:List (List Int))(x:List Int):(aO a).count x % 2=a.count x % 2:=by
 have nd:=zei a;have mm:x∈aO a↔a.count x % 2=1:=by unfold aO;rw[(zct _).mem_iff,zjb]
 by_cases c:x∈aO a
 ·have h1:(aO a).count x<=1:=List.nodup_iff_count.mp nd x;have h2:0 < (aO a).count x:=xiy.mpr c;have:=mm.mp c;lia
 ·have h1:(aO a).count x=0:=xgv.mpr c;have:¬ a.count x % 2=1:=λz=>c (mm.mpr z)
  lia
theorem zxu {P:List Int->List (List Int)->Prop}(h0:P [] [[]])(h:∀m e s,P m s->P (m++[e]) (wholeStep s e))(r:List Int):∀(i:Nat),P (r.take i) (wholeS (r.take i)):=λi=>by
 induction i with
 | zero=>exact h0
 | succ i ih =>
  by_cases c:i < r.length
  ·have g:r[i]?=some r[i]:=xbe c;rw[zj g,zdh];exact h _ _ _ ih
  ·rw[xdj (by lia)] at ih ⊢;exact ih
theorem ztg (r:List Int)(i:Nat):∀m∈wholeS (r.take i),m.length=(r.take i).length:=by
 refine zxu (P:=λm s=>∀x∈s,x.length=m.length) (by simp) (λm e s hs=>?_) r i;intro x hx;unfold wholeStep longL at hx;obtain⟨row,h1,hx⟩:=xei.mp hx;obtain⟨y,h2,rfl⟩:=xbp.mp hx;rw[xbh,xbh,hs row h1]
 rfl
section
end
noncomputable abbrev Row:=List Int
noncomputable def tot {α:Type} (l:List α) (c:α->Nat):Nat:=(l.map c).sum
theorem zoi {α:Type}(a:α)(l:List α)(c:α->Nat):tot (a::l) c=c a+tot l c:=by simp[tot]
theorem ztp {α:Type}(a b:List α)(c:α->Nat):tot (a++b) c=tot a c+tot b c:=by simp[tot]
theorem zbdu {α:Type}{a b:List α}(h:a.Perm b)(c:α->Nat):tot a c=tot b c:=(h.map c).sum_nat
theorem zto (c:Row->Nat):∀(n:Nat) (l:List Row),l.length<=n->(∀x,l.count x % 2=0)->tot l c % 2=0
 | _,[],_,_=>rfl
 | 0,_::_,h,_=>by simp at h
 | n+1,y::l,hn,h=>by
  have h1:=h y;rw[List.count_cons_self] at h1;have hy:y∈l:=xiy.mp (by lia);have p:=List.perm_cons_erase hy;have ih:=zto c n (l.erase y) (by rw[List.length_erase_of_mem hy];simp at hn;lia) λx=>by
   have h2:=h x;rw[xlq,p.count_eq,xlq] at h2;split at h2<;>lia
  rw[zoi,zbdu p,zoi];lia
theorem zbif {a b:List Row}(c:Row->Nat)(h:∀x,a.count x % 2=b.count x % 2):tot a c % 2=tot b c % 2:=by
 have:=zto c _ (a++b) (xbg _) λx=>by rw[xjk];have:=h x;lia
 rw[ztp] at this;lia
theorem zez  (h:∀x∈r,0<=x):∀m∈wholeS r,r.sum<=m.sum/\m.length=r.length:=λm hm=>by
 have h1:=zml h r.length m (by rw[xch];exact hm);have h2:=ztg r r.length m (by rw[xch];exact hm);rw[xch] at h1 h2;exact⟨h1.1,h2⟩
noncomputable def xr {α:Type} (l:List α) (f:α->Nat):Nat:=l.foldr (λx b=>f x ^^^ b) 0
section
variable {α β:Type}
theorem zbx (x:α):xr (x::l) f=f x ^^^ xr l f:=rfl
theorem zfy:∀(l m:List α),xr (l++m) f=xr l f ^^^ xr m f
 | [],m=>(xhl _).symm
 | x::l,m=>by rw[xju,zbx,zbx,zfy l m,xds]
theorem zrt (h:β->α):∀l:List β,xr (l.map h) f=xr l λx=>f (h x)
 | []=>rfl
 | x::l=>by rw[xbs,zbx,zbx,zrt h l]
theorem zpw (h:β->List α):∀l:List β,xr (l.flatMap h) f=xr l λx=>xr (h x) f
 | []=>rfl
 | x::l=>by rw[xky,zfy,zbx,zpw h l]
theorem zm:∀{l:List α},(∀x∈l,f x=g x)->xr l f=xr l g
 | [],_=>rfl
 | x::l,h=>by rw[zbx,zbx,h x (xbq ..),zm λy hy=>h y (xbo _ hy)]
theorem zfx:∀l:List α,xr l (λ_=>0)=0
 | []=>rfl
 | x::l=>by rw[zbx,zfx l];rfl
theorem xor4' (a b c d:Nat):(a ^^^ b) ^^^ (c ^^^ d)=(a ^^^ c) ^^^ (b ^^^ d):=by
 rw[xds,xds,← xds b,← xds c,Nat.xor_comm b c]
theorem zim:∀l:List α,xr l (λx=>f x ^^^ g x)=xr l f ^^^ xr l g
 | []=>by show 0=0 ^^^ 0;rw[xfy]
 | x::l=>by rw[zbx,zbx,zbx,zim l,xor4']
theorem zex (p:α->Bool):∀l:List α,xr (l.filter p) f=xr l λx=>if p x=true then f x else 0
 | []=>rfl
 | x::l=>by
  rw[zbx,← zex p l];by_cases c:p x=true
  ·rw[xcq c,zbx,if_pos c]
  ·rw[xcy c,if_neg c,xhl]
theorem xif (p q:Bool)(z:Nat):(if p=true then z else 0) ^^^ (if q=true then z else 0)=if Bool.xor p q=true then z else 0:=by
 cases p<;>cases q<;>simp
theorem zxp (f:Nat->Nat)(N:Nat):xr (List.range (N+1)) f=f 0 ^^^ xr (List.range N) λc=>f (c+1):=by
 rw[List.range_succ_eq_map,zbx,zrt]
theorem zxo (f:Nat->Nat)(N:Nat):xr (List.range (N+1)) f=xr (List.range N) f ^^^ f N:=by
 rw[xit,zfy];show _ ^^^ (f N ^^^ 0)=_;rw[xer]
end
noncomputable def sb (e j:Nat):Bool:=decide (e &&& j=j)
theorem zua (e j:Nat):sb e j=(sb (e / 2) (j / 2)&&decide (j % 2<=e % 2)):=by
 unfold sb;rw[← xlu];refine xgp.mpr ?_;have h1:(e &&& j) / 2=e / 2 &&& j / 2:=xls;have h2:(e &&& j) % 2=1↔e % 2=1/\j % 2=1:=Nat.and_mod_two_eq_one;constructor
 ·intro h;rw[h] at h1 h2;exact⟨h1.symm,by lia⟩
 ·intro⟨a,b⟩;lia
theorem ziw (e:Nat):sb e 0=true:=by simp[sb]
theorem zub  (h:e < j):sb e j=false:=by
 refine xbz λz=>?_
 have:e &&& j<=e:=Nat.and_le_left;lia
theorem pas:∀e j:Nat,sb (e+1) (j+1)=Bool.xor (sb e (j+1)) (sb e j)
 | 0,j=>by
  by_cases c:j=0
  ·subst c;decide
  ·rw[zub (e:=0+1) (by lia),zub (e:=0) (by lia),zub (e:=0) (j:=j) (by lia)];rfl
 | e+1,j=>by
  rw[zua (e+1+1),zua (e+1),zua (e+1)];have hlt:(e+1) / 2 < e+1:=by lia
  by_cases c:(e+1) % 2=0
  ·rw[show(e+1+1) / 2=(e+1) / 2 by lia];by_cases d:j % 2=0
   ·rw[show(j+1) / 2=j / 2 by lia,xbw (show(j+1) % 2<=(e+1+1) % 2 by lia),xbz (show ¬ (j+1) % 2<=(e+1) % 2 by lia),xbw (show j % 2<=(e+1) % 2 by lia)];simp
   ·rw[xbw (show(j+1) % 2<=(e+1+1) % 2 by lia),xbw (show(j+1) % 2<=(e+1) % 2 by lia),xbz (show ¬ j % 2<=(e+1) % 2 by lia)];simp
  ·obtain⟨p,hp⟩:∃p,(e+1) / 2=p:=⟨_,rfl⟩
   rw[show(e+1+1) / 2=(e+1) / 2+1 by lia,hp];have:=pas p;by_cases d:j % 2=0
   ·rw[show(j+1) / 2=j / 2 by lia,xbz (show ¬ (j+1) % 2<=(e+1+1) % 2 by lia),xbw (show(j+1) % 2<=(e+1) % 2 by lia),xbw (show j % 2<=(e+1) % 2 by lia)];simp
   ·rw[show(j+1) / 2=j / 2+1 by lia,xbw (show(j+1) % 2<=(e+1+1) % 2 by lia),xbw (show(j+1) % 2<=(e+1) % 2 by lia),xbw (show j % 2<=(e+1) % 2 by lia)];rw[Bool.and_true,Bool.and_true,Bool.and_true];exact this (j / 2)
 termination_by e _=>e
theorem zxr (e:Nat)(g:Int->Nat):xr (outL e) g=xr (List.range (e+1)) λj=>if sb e j=true then g ((e:Int)+(j:Int)) else 0:=by
 have h:=zmt (e:=e) (left:=(e:Int)) (by lia);unfold outL;rw[zrt,← h,zex,show((if(e:Int) < (e:Int) then(e:Int) else(e:Int))+1).toNat=e+1 by split<;>lia]
 rfl
theorem zbey (e:Nat)(g:Int->Nat):xr (outL (e+1)) g=xr (outL e) (λy=>g (y+1)) ^^^ xr (outL e) (λy=>g (y+1+1)):=by
 rw[zxr,zxr,zxr,zxp,zxp (λj=>if sb e j=true then g ((e:Int)+(j:Int)+1) else 0) e];have e1:(xr (List.range (e+1)) λc=>if sb (e+1) (c+1)=true then g (((e+1:Nat):Int)+((c+1:Nat):Int)) else 0)
   =(xr (List.range (e+1)) λc=>if sb e (c+1)=true then g ((e:Int)+((c+1:Nat):Int)+1) else 0) ^^^ (xr (List.range (e+1)) λc=>if sb e c=true then g ((e:Int)+(c:Int)+1+1) else 0):=by
  rw[← zim];refine zm λc _=>?_
  rw[pas,← xif];rw[show((e+1:Nat):Int)+((c+1:Nat):Int)=(e:Int)+((c+1:Nat):Int)+1 by lia];rw[show(e:Int)+((c+1:Nat):Int)+1=(e:Int)+(c:Int)+1+1 by lia]
 rw[e1,zxo (N:=e) (f:=λc=>if sb e (c+1)=true then g ((e:Int)+((c+1:Nat):Int)+1) else 0),zub (e:=e) (j:=e+1) (by lia),ziw,ziw];simp only[xeu,xco,xec,xer];rw[show((e+1:Nat):Int)+((0:Nat):Int)=(e:Int)+((0:Nat):Int)+1 by lia,xds]
def T (k:Int) (φ:Row->Nat) (m:Row):Nat:=xr (wholeS m) λx=>if x.sum=m.sum+k then φ x else 0
theorem zxj    (h:∀x∈wholeS m,φ x=ψ x):T k φ m=T k ψ m:=zm λx hx=>by rw[h x hx]
theorem zbtm (k:Int)(φ ψ:Row->Nat)(m:Row):T k (λx=>φ x ^^^ ψ x) m=T k φ m ^^^ T k ψ m:=by
 unfold T;rw[← zim];refine zm λx _=>?_
 by_cases c:x.sum=m.sum+k
 ·rw[if_pos c,if_pos c,if_pos c]
 ·rw[if_neg c,if_neg c,if_neg c,xfy]
theorem zbso (k:Int)(m:Row):T k (λ_=>0) m=0:=by
 unfold T;rw[zm (g:=λ_=>0) λx _=>by split<;>rfl,zfx]
theorem zbbf (k:Int)(φ:Row->Nat)(r:Row)(e:Nat):T k φ (r++[(e:Int)])=xr (wholeS r) λu=>xr (outL e) λy=>if u.sum+y=r.sum+e+k then φ (u++[y]) else 0:=by
 unfold T;rw[zdh];unfold wholeStep longL;rw[zpw];refine zm λu _=>?_
 rw[zrt,xea];refine zm λy _=>?_
 rw[xen,xen,xhv,List.sum_nil,xhv,List.sum_nil,Int.add_zero,Int.add_zero]
def bump (x:Row):Row:=x.dropLast++[x.getLastD 0+1]
theorem zbaz (u:Row)(y:Int):bump (u++[y])=u++[y+1]:=by
 unfold bump;rw[List.dropLast_concat];simp
def up (φ:Row->Nat):Row->Nat:=λx=>φ (bump x)
theorem zhl (φ:Row->Nat)(u:Row)(y:Int):up φ (u++[y])=φ (u++[y+1]):=by unfold up;rw[zbaz]
theorem zbhg (k:Int)(φ:Row->Nat)(r:Row)(e:Nat):T k φ (r++[(e:Int)+1])=T k (up φ) (r++[(e:Int)]) ^^^ T (k - 1) (up (up φ)) (r++[(e:Int)]):=by
 rw[show(e:Int)+1=((e+1:Nat):Int) by lia,zbbf,zbbf,zbbf,← zim];refine zm λu _=>?_
 rw[zbey]
 congr 1
 ·refine zm λy _=>?_
  rw[zhl];by_cases c:u.sum+y=r.sum+e+k
  ·rw[if_pos c,if_pos (by lia)]
  ·rw[if_neg c,if_neg (by lia)]
 ·refine zm λy _=>?_
  rw[zhl,zhl];by_cases c:u.sum+y=r.sum+e+(k - 1)
  ·rw[if_pos c,if_pos (by lia)]
  ·rw[if_neg c,if_neg (by lia)]
def Nn (m:Row):Prop:=∀x∈m,0<=x
theorem zpx  (h:Nn m)(hx:x∈wholeS m):m.sum<=x.sum/\x.sum<=2 * m.sum:=by
 have:=zml h m.length;rw[xch] at this;exact this x hx
theorem zbph   (h:y∈outL e):(e:Int)<=y:=by
 unfold outL at h;obtain⟨j,_,rfl⟩:=xbp.mp h;lia
theorem zin  {e:Nat}(h:x∈wholeS (r++[(e:Int)])):∃u y,x=u++[((y:Nat):Int)]/\u∈wholeS r:=by
 rw[zdh] at h;unfold wholeStep longL at h;obtain⟨u,hu,h⟩:=xei.mp h;obtain⟨y,hy,rfl⟩:=xbp.mp h;rw[xea] at hy;have:=zbph hy;exact⟨u,y.toNat,by rw[Int.toNat_of_nonneg (by lia)],hu⟩
theorem ztt {P:Row->Prop}(h0:P [])(h1:∀r,Nn r->P r->P (r++[0]))(h2:∀r (e:Nat),Nn r->P (r++[(e:Int)])->P (r++[(e:Int)+1])):∀m:Row,Nn m->P m:=λm hm=>by
 suffices h:∀i,i<=m.length->P (m.take i) by have:=h m.length (xbg _);rw[xch] at this;exact this
 intro i
 induction i with
 | zero=>intro _;exact h0
 | succ i ih =>
  intro hi;have g:m[i]?=some m[i]:=xbe (by lia);rw[zj g];have nr:Nn (m.take i):=λx hx=>hm x (xfj hx)
  have n0:0<=m[i]:=hm _ (xda _);obtain⟨e,he⟩:∃e:Nat,m[i]=(e:Int):=⟨m[i].toNat,by lia⟩
  rw[he];clear g n0 he
  induction e with
  | zero=>exact h1 _ nr (ih (by lia))
  | succ e ie=>rw[show((e+1:Nat):Int)=(e:Int)+1 by lia];exact h2 _ e nr ie
theorem zio:∀m:Row,Nn m->∀x∈wholeS m,Nn x:=λm hm x hx=>by
 have h:∀i,∀x∈wholeS (m.take i),Nn x:=λi=>by
  induction i with
  | zero=>intro x hx;rw[xbt.mp (show x∈[[]] from hx)];intro y hy;cases hy
  | succ i ih =>
   by_cases c:i < m.length
   ·have g:m[i]?=some m[i]:=xbe c;have n0:0<=m[i]:=hm _ (xda c);obtain⟨e,he⟩:∃e:Nat,m[i]=(e:Int):=⟨m[i].toNat,by lia⟩
    intro x hx;rw[zj g,he] at hx;obtain⟨u,y,rfl,hu⟩:=zin hx;intro z hz;rcases xbx.mp hz with a | a
    ·exact ih u hu z a
    ·rw[xbt.mp a];lia
   ·rw[xdj (by lia)] at ih ⊢;exact ih
 have:=h m.length;rw[xch] at this;exact this x hx
theorem zbnq    (h:Nn m)(hk:k < 0):T k φ m=0:=by
 unfold T;rw[zm (g:=λ_=>0) λx hx=>if_neg (by have:=zpx h hx;lia),zfx]
theorem zbsp    (h:Nn m)(hk:m.sum < k):T k φ m=0:=by
 unfold T;rw[zm (g:=λ_=>0) λx hx=>if_neg (by have:=zpx h hx;lia),zfx]
theorem zbho (k:Int)(φ:Row->Nat):T k φ []=if k=0 then φ [] else 0:=by
 show(if([]:Row).sum=([]:Row).sum+k then φ [] else 0) ^^^ 0=_;rw[xer];by_cases c:k=0
 ·rw[if_pos c,if_pos (by rw[c];rfl)]
 ·rw[if_neg c,if_neg (by simp;lia)]
theorem zjy (k:Int)(φ:Row->Nat)(r:Row):T k φ (r++[0])=T k (λu=>φ (u++[0])) r:=by
 rw[show(0:Int)=((0:Nat):Int) from rfl,zbbf];refine zm λu _=>?_
 rw[zxr];show(if sb 0 0=true then(if u.sum+(((0:Nat):Int)+((0:Nat):Int))=r.sum+((0:Nat):Int)+k then φ (u++[((0:Nat):Int)+((0:Nat):Int)]) else 0) else 0) ^^^ 0=_;rw[xer,if_pos (ziw 0)];simp
theorem zbtn (a b:Int)(φ:Row->Nat)(r:Row)(e:Nat):T b (T a φ) (r++[(e:Int)+1])
  =(T b (T a (up φ)) (r++[(e:Int)]) ^^^ T b (T (a - 1) (up (up φ))) (r++[(e:Int)])) ^^^ (T (b - 1) (T a (up (up φ))) (r++[(e:Int)]) ^^^ T (b - 1) (T (a - 2) (up (up (up (up φ))))) (r++[(e:Int)])):=by
 rw[zbhg,← zbtm,← zbtm];have one:∀(c:Int) (ψ:Row->Nat) (u:Row) (y:Nat),up (T c ψ) (u++[(y:Int)])=T c (up ψ) (u++[(y:Int)]) ^^^ T (c - 1) (up (up ψ)) (u++[(y:Int)]):=λc ψ u y=>by rw[zhl,zbhg]
 congr 1
 ·refine zxj λx hx=>?_
  obtain⟨u,y,rfl,_⟩:=zin hx;exact one _ _ _ _
 ·refine zxj λx hx=>?_
  obtain⟨u,y,rfl,_⟩:=zin hx;have h:up (up (T a φ)) (u++[(y:Int)])=up (T a (up φ)) (u++[(y:Int)]) ^^^ up (T (a - 1) (up (up φ))) (u++[(y:Int)]):=by
   rw[zhl,show((y:Int)+1)=((y+1:Nat):Int) by lia,one,zhl,zhl]
   rfl
  rw[h,one,one,show a - 1 - 1=a - 2 by lia,xds,← xds (T (a - 1) (up (up (up φ))) _),xfy,xhl]
def co (b a:Int) (c:Nat):Bool:=decide (2 * (c:Int)<=a)&&(if(c:Int) < b then sb (b - 1 - c).toNat (a - 2 * c).toNat else decide ((c:Int)=b))
theorem zjr {b a:Int}{c:Nat}(h:a < 2 * (c:Int)):co b a c=false:=by unfold co;rw[xbz (by lia)];rfl
theorem zbau {b a:Int}{c:Nat}(h:b < (c:Int)):co b a c=false:=by
 unfold co;rw[if_neg (by lia),xbz (p:=(c:Int)=b) (by lia),xnp]
theorem zxn {b a:Int}{c:Nat}(h1:2 * (c:Int)<=a)(h2:(c:Int) < b):co b a c=sb (b - 1 - c).toNat (a - 2 * c).toNat:=by
 unfold co;rw[xbw h1,if_pos h2,Bool.true_and]
theorem zst {b a:Int}{c:Nat}(h1:2 * (c:Int)<=a)(h2:(c:Int)=b):co b a c=true:=by
 unfold co;rw[xbw h1,if_neg (by lia),xbw h2];rfl
theorem zbmo {b a:Int}{c:Nat}(h:2 * b<=a)(h2:(c:Int) < b):co b a c=false:=by
 rw[zxn (by lia) h2,zub (by lia)]
theorem zbmp (b a:Int)(c:Nat):co (b - 1) (a - 2) c=co b a (c+1):=by
 by_cases h:2 * (c:Int)<=a - 2
 ·by_cases g:(c:Int) < b - 1
  ·rw[zxn h g,zxn (by lia) (by lia),show(b - 1 - ((c+1:Nat):Int)).toNat=(b - 1 - 1 - (c:Int)).toNat by lia,show(a - 2 * ((c+1:Nat):Int)).toNat=(a - 2 - 2 * (c:Int)).toNat by lia]
  ·by_cases g2:(c:Int)=b - 1
   ·rw[zst h g2,zst (by lia) (by lia)]
   ·rw[zbau (by lia),zbau (by lia)]
 ·rw[zjr (by lia),zjr (by lia)]
theorem zbrx  (h:a<=2 * b - 1)(c:Nat):Bool.xor (co b a c) (co b a (c+1))=Bool.xor (co b (a - 1) c) (co (b - 1) a c):=by
 by_cases h0:a < 2 * (c:Int)
 ·rw[zjr h0,zjr (by lia),zjr (by lia),zjr h0]
 have hc:(c:Int) < b:=by lia
 rw[zxn (by lia) hc];by_cases h1:a=2 * (c:Int)
 ·rw[zjr (a:=a) (c:=c+1) (by lia),zjr (a:=a - 1) (by lia),show(a - 2 * (c:Int)).toNat=0 by lia,ziw];by_cases g:(c:Int) < b - 1
  ·rw[zxn (by lia) g,show(a - 2 * (c:Int)).toNat=0 by lia,ziw];rfl
  ·rw[zst (by lia) (by lia)];rfl
 rw[zxn (a:=a - 1) (by lia) hc];by_cases h2:a=2 * (c:Int)+1
 ·rw[zjr (a:=a) (c:=c+1) (by lia),show(a - 2 * (c:Int)).toNat=1 by lia,show(a - 1 - 2 * (c:Int)).toNat=0 by lia,ziw];by_cases g:(c:Int) < b - 1
  ·obtain⟨q,hq⟩:∃q:Nat,b - 1 - 1 - (c:Int)=q:=⟨(b - 1 - 1 - (c:Int)).toNat,by lia⟩
   rw[zxn (by lia) g,show(a - 2 * (c:Int)).toNat=0+1 by lia,show(b - 1 - 1 - (c:Int)).toNat=q by lia,show(b - 1 - (c:Int)).toNat=q+1 by lia,pas,ziw];cases sb q (0+1)<;>rfl
  ·rw[zst (by lia) (by lia),show(b - 1 - (c:Int)).toNat=0 by lia];rfl
 have g:(c:Int) < b - 1:=by lia
 obtain⟨q,hq⟩:∃q:Nat,b - 1 - 1 - (c:Int)=q:=⟨(b - 1 - 1 - (c:Int)).toNat,by lia⟩
 obtain⟨p,hp⟩:∃p:Nat,a - 2 * (c:Int)=p+2:=⟨(a - 2 * (c:Int) - 2).toNat,by lia⟩
 rw[zxn (c:=c+1) (by lia) (by lia),zxn (by lia) g,show(b - 1 - (c:Int)).toNat=q+1 by lia,show(b - 1 - 1 - (c:Int)).toNat=q by lia,show(b - 1 - ((c+1:Nat):Int)).toNat=q by lia,
  show(a - 2 * (c:Int)).toNat=p+1+1 by lia,show(a - 1 - 2 * (c:Int)).toNat=p+1 by lia,show(a - 2 * ((c+1:Nat):Int)).toNat=p by lia,pas,pas]
 cases sb q (p+1+1)<;>cases sb q (p+1)<;>cases sb q p<;>rfl
def cs (b a:Int) (N:Nat) (φ:Row->Nat) (m:Row):Nat:=xr (List.range N) λc=>if co b a c=true then T c (T (a+b - c) φ) m else 0
theorem zpv  :∀{N:Nat},k < N->(∀c,c≠k->f c=0)->xr (List.range N) f=f k
 | 0,h,_=>by lia
 | N+1,h,z=>by
  rw[zxo];by_cases c:k=N
  ·rw[zm (g:=λ_=>0) λx hx=>z x (by have:=xby.mp hx;lia),zfx,xhl,c]
  ·rw[zpv (by lia) z,z N (by lia),xer]
theorem zbml {b a:Int}{N:Nat}(φ:Row->Nat)(m:Row)(h0:0<=b)(h:2 * b<=a)(h1:a<=2 * b+1)(hN:b < N):cs b a N φ m=T b (T a φ) m:=by
 obtain⟨k,rfl⟩:∃k:Nat,b=k:=⟨b.toNat,by lia⟩
 unfold cs;rw[zpv (k:=k) (by lia) λc hc=>?_,zst h rfl,if_pos rfl,show a+(k:Int) - k=a by lia];by_cases g:(c:Int) < k
 ·rw[zbmo h g];rfl
 ·rw[zbau (by lia)];rfl
def AD (m:Row):Prop:=∀(φ:Row->Nat) (a b:Int) (N:Nat),a<=2 * b+1->b < N->T b (T a φ) m=cs b a N φ m
theorem zbmm {b a:Int}{N:Nat}(φ:Row->Nat)(m:Row)(h:a < 0):cs b a N φ m=0:=by
 unfold cs;rw[zm (g:=λ_=>0) λc _=>by rw[zjr (by lia)];rfl,zfx]
theorem zbnf  (hm:Nn m)(φ:Row->Nat)  (h:a < 0):T b (T a φ) m=0:=by
 rw[zxj (ψ:=λ_=>0) λx hx=>zbnq (zio m hm x hx) h,zbso]
theorem zbne  {e:Nat}(hn:Nn (r++[(e:Int)]))(ih:AD (r++[(e:Int)])):AD (r++[(e:Int)+1]):=λφ a b N h hN=>by
 have hn':Nn (r++[(e:Int)+1]):=λx hx=>by
  rcases xbx.mp hx with z | z
  ·exact hn x (xeb _ z)
  ·rw[xbt.mp z];lia
 by_cases a0:a < 0
 ·rw[zbmm _ _ a0,zbnf hn' _ a0]
 by_cases ap:2 * b<=a
 ·by_cases b0:0<=b
  ·rw[zbml _ _ b0 ap h hN]
  ·lia
 obtain⟨M,rfl⟩:∃M,N=M+1:=⟨N - 1,by lia⟩
 rw[zbtn];generalize hm:r++[(e:Int)]=m at *
 rw[ih (up φ) a b (M+1) h hN,ih (up (up φ)) (a - 1) b (M+1) (by lia) hN,ih (up (up φ)) a (b - 1) (M+1) (by lia) (by lia),ih _ (a - 2) (b - 1) (M+1) (by lia) (by lia)];have big:cs b a (M+1) φ (r++[(e:Int)+1])=((cs b a (M+1) (up φ) m) ^^^ xr (List.range (M+1)) λc=>if co b a c=true then T c (T (a+b - 1 - c) (up (up φ))) m else 0) ^^^
   ((xr (List.range (M+1)) λc=>if co b a (c+1)=true then T c (T (a+b - 1 - c) (up (up φ))) m else 0) ^^^ xr (List.range (M+1)) λc=>if co b a (c+1)=true then T c (T (a - 2+(b - 1) - c) (up (up (up (up φ))))) m else 0):=by
  have sh:∀Z:Nat->Nat,(xr (List.range (M+1)) λc=>if co b a (c+1)=true then Z (c+1) else 0)=xr (List.range (M+1)) λc=>if co b a c=true then(if c=0 then 0 else Z c) else 0:=λZ=>by
   rw[zxo,zbau (c:=M+1) (by lia),zxp];simp
  have e3:=sh λc=>T ((c:Int) - 1) (T (a+b - c) (up (up φ))) m
  have e4:=sh λc=>T ((c:Int) - 1) (T (a+b - c - 2) (up (up (up (up φ))))) m
  rw[zm (g:=λc=>if co b a (c+1)=true then T c (T (a+b - 1 - c) (up (up φ))) m else 0) λc _=>by
   show(if co b a (c+1)=true then T (((c+1:Nat):Int) - 1) (T (a+b - ((c+1:Nat):Int)) (up (up φ))) m else 0)=_
   rw[show((c+1:Nat):Int) - 1=c by lia,show a+b - ((c+1:Nat):Int)=a+b - 1 - c by lia]] at e3
  rw[zm (g:=λc=>if co b a (c+1)=true then T c (T (a - 2+(b - 1) - c) (up (up (up (up φ))))) m else 0) λc _=>by
   show(if co b a (c+1)=true then T (((c+1:Nat):Int) - 1) (T (a+b - ((c+1:Nat):Int) - 2) _) m else 0)=_
   rw[show((c+1:Nat):Int) - 1=c by lia,show a+b - ((c+1:Nat):Int) - 2=a - 2+(b - 1) - c by lia]] at e4
  rw[e3,e4];unfold cs;rw[← zim,← zim,← zim];refine zm λc _=>?_
  by_cases hc:co b a c=true
  ·rw[if_pos hc,if_pos hc,if_pos hc,if_pos hc,if_pos hc,zbtn,hm,show a+b - (c:Int) - 1=a+b - 1 - c by lia];by_cases c0:c=0
   ·subst c0;rw[if_pos rfl,if_pos rfl,zbnq (k:=((0:Nat):Int) - 1) hn (by lia),zbnq (k:=((0:Nat):Int) - 1) hn (by lia)]
   ·rw[if_neg c0,if_neg c0]
  ·rw[if_neg hc,if_neg hc,if_neg hc,if_neg hc,if_neg hc,xfy]
 rw[big];have four:cs (b - 1) (a - 2) (M+1) (up (up (up (up φ)))) m=xr (List.range (M+1)) λc=>if co b a (c+1)=true then T c (T (a - 2+(b - 1) - c) (up (up (up (up φ))))) m else 0:=by
  unfold cs;exact zm λc _=>by rw[zbmp]
 have two:cs b (a - 1) (M+1) (up (up φ)) m ^^^ cs (b - 1) a (M+1) (up (up φ)) m=(xr (List.range (M+1)) λc=>if co b a c=true then T c (T (a+b - 1 - c) (up (up φ))) m else 0) ^^^ xr (List.range (M+1)) λc=>if co b a (c+1)=true then T c (T (a+b - 1 - c) (up (up φ))) m else 0:=by
  unfold cs;rw[← zim,← zim];refine zm λc _=>?_
  rw[show a - 1+b - (c:Int)=a+b - 1 - c by lia,show a+(b - 1) - (c:Int)=a+b - 1 - c by lia,xif,xif,zbrx (by lia)]
 rw[four,xds,← xds (cs b (a - 1) _ _ _),two];simp only[xds]
theorem adem:∀m:Row,Nn m->AD m:=ztt
 (λφ a b N h hN=>by
  by_cases a0:a < 0
  ·rw[zbmm _ _ a0,zbnf (λx hx=>absurd hx (by simp)) _ a0]
  unfold cs;rw[zbho,zbho];by_cases b0:0<=b
  ·rw[zpv (k:=0) (by lia) λc hc=>by rw[zbho,if_neg (show ¬ (c:Int)=0 by lia)];split<;>rfl,zbho,zbho];by_cases bz:b=0
   ·subst bz;rw[zst (by lia) (by lia)];simp
   ·rw[if_neg bz,if_neg (show ¬ a+b - ((0:Nat):Int)=0 by lia)];simp
  ·lia)
 (λr hr ih φ a b N h hN=>by
  unfold cs;rw[zjy,show(λu:Row=>T a φ (u++[0]))=T a (λu=>φ (u++[0])) from funext λu=>zjy a φ u,ih _ a b N h hN];unfold cs;refine zm λc _=>?_
  rw[zjy,show(λu:Row=>T (a+b - c) φ (u++[0]))=T (a+b - c) (λu=>φ (u++[0])) from funext λu=>zjy _ φ u])
 (λr e hr ih=>zbne (λx hx=>by
  rcases xbx.mp hx with z | z
  ·exact hr x z
  ·rw[xbt.mp z];lia) ih)
inductive Lin (P:Nat->Prop):Nat->Prop
 | zero:Lin P 0
 | add {v w:Nat}:P v->Lin P w->Lin P (v ^^^ w)
theorem Lin.one   (h:P v):Lin P v:=by have:=Lin.add h .zero;rwa [xer] at this
theorem Lin.xor   (h:Lin P v)(g:Lin P w):Lin P (v ^^^ w):=by
 induction h with
 | zero=>rw[xhl];exact g
 | add p _ ih=>rw[xds];exact .add p ih
theorem Lin.bind  (h:∀v,P v->Lin R v)  (g:Lin P w):Lin R w:=by
 induction g with
 | zero=>exact .zero
 | add p _ ih=>exact(h _ p).xor ih
theorem Lin.xr {α:Type}{P:Nat->Prop}{f:α->Nat}:∀{l:List α},(∀x∈l,Lin P (f x))->Lin P (Dd.xr l f)
 | [],_=>.zero
 | x::l,h=>(h x (xbq ..)).xor (Lin.xr λy hy=>h y (xbo _ hy))
theorem T_id:∀m:Row,Nn m->∀φ,T 0 φ m=φ m:=ztt (P:=λm=>∀φ,T 0 φ m=φ m)
 (λφ=>by rw[zbho,if_pos rfl]) (λr _ ih φ=>by rw[zjy,ih])
 (λr e hr ih φ=>by
  rw[zbhg,ih,zbnq (k:=0 - 1) (λx hx=>?_) (by lia),xer,zhl];rcases xbx.mp hx with z | z
  ·exact hr x z
  ·rw[xbt.mp z];lia)
structure Mon (n:Nat) (s:Int) (m:Row):Prop where
 len:m.length=n
 nn:Nn m
 sum:m.sum=s
theorem zbto {P:Nat->Prop}{n:Nat}{s k:Int}{ψ:Row->Nat}{m:Row}(hm:Mon n s m)(h:∀x,Mon n (s+k) x->Lin P (ψ x)):Lin P (T k ψ m):=by
 unfold T;refine Lin.xr λx hx=>?_
 by_cases c:x.sum=m.sum+k
 ·rw[if_pos c];exact h x ⟨(zez hm.nn x hx).2.trans hm.len,zio m hm.nn x hx,by rw[c,hm.sum]⟩
 ·rw[if_neg c];exact .zero
def Gen (n:Nat) (d:Int) (φ:Row->Nat) (v:Nat):Prop:=∃(i:Nat) (m:Row),v=T ((2 ^ i:Nat):Int) φ m/\Mon n (d - ((2 ^ i:Nat):Int)) m/\2 * ((2 ^ i:Nat):Int)<=d
theorem dec {n:Nat}{d:Int}{φ:Row->Nat}:∀k:Nat,1<=k->∀m,Mon n (d - k) m->(k:Int)<=d->Lin (Gen n d φ) (T k φ m):=λk=>by
 induction k using Nat.strongRecOn with
 | _ k ih =>
 intro hk m hm hd;have h1:2 ^ k.log2<=k:=Nat.log2_self_le (by lia);have h2:k < 2 ^ (k.log2+1):=Nat.lt_log2_self;rw[xlt] at h2;generalize k.log2=j at h1 h2;have hp:1<=2 ^ j:=xmi;by_cases c:k=2 ^ j
 ·by_cases c2:2 * (k:Int)<=d
  ·exact .one ⟨j,m,by rw[c],by rw[← c];exact hm,by rw[← c];exact c2⟩
  ·rw[zbsp hm.nn (by rw[hm.sum];lia)];exact .zero
 ·obtain⟨a,ha⟩:∃a,k=a+2 ^ j:=⟨k - 2 ^ j,by lia⟩
  generalize hb:2 ^ j=b at *
  have rel:=adem m hm.nn φ a b (b+1) (by lia) (by lia);unfold cs at rel;rw[zxp] at rel;have c0:co b a 0=true:=by
   rw[zxn (by lia) (by lia),show((b:Int) - 1 - ((0:Nat):Int)).toNat=b - 1 by lia,show((a:Int) - 2 * ((0:Nat):Int)).toNat=a by lia,← hb];refine xbw ?_;rw[Nat.and_comm,Nat.and_two_pow_sub_one_eq_mod,Nat.mod_eq_of_lt (by lia)]
  rw[if_pos c0,show(((0:Nat):Int))=0 from rfl,T_id m hm.nn,show(a:Int)+b - 0=k by lia] at rel;have val:T k φ m=T b (T a φ) m ^^^ xr (List.range b) λc=>if co b a (c+1)=true then T ((c+1:Nat):Int) (T ((a:Int)+b - ((c+1:Nat):Int)) φ) m else 0:=by
   rw[rel,xds,xfy,xer]
  rw[val];refine(zbto hm λx hx=>ih a (by lia) (by lia) x (by rw[show d - (a:Int)=d - k+b by lia];exact hx) (by lia)).xor (.xr λc _=>?_);by_cases hc:co b a (c+1)=true
  ·rw[if_pos hc];have le:2 * ((c+1:Nat):Int)<=a:=by
    by_cases z:2 * ((c+1:Nat):Int)<=a
    ·exact z
    ·rw[zjr (by lia)] at hc;cases hc
   obtain⟨q,hq⟩:∃q,k=q+(c+1):=⟨k - (c+1),by lia⟩
   rw[show(a:Int)+b - ((c+1:Nat):Int)=q by lia];exact zbto hm λx hx=>ih q (by lia) (by lia) x (by rw[show d - (q:Int)=d - k+((c+1:Nat):Int) by lia];exact hx) (by lia)
  ·rw[if_neg hc];exact .zero
noncomputable def bl (v:Nat):Nat:=if v=0 then 0 else v.log2+1
theorem zta :bl v<=k↔v < 2 ^ k:=by
 unfold bl;by_cases c:v=0
 ·rw[if_pos c,c];exact⟨λ_=>xnm k,λ_=>xdu _⟩
 ·rw[if_neg c,Nat.succ_le_iff];exact Nat.log2_lt c
theorem zsw :v≠0↔1<=bl v:=by unfold bl;split<;>lia
theorem zbgy  (h:v≠0):v.testBit (bl v - 1)=true:=by
 have p:=zsw.mp h;have h1:v < 2 ^ (bl v - 1+1):=zta.mp (by lia);have h2:2 ^ (bl v - 1)<=v:=by
  rcases xgl v (2 ^ (bl v - 1)) with z | z
  ·have:=zta.mpr z;lia
  ·exact z
 exact Nat.testBit_of_two_pow_le_and_two_pow_add_one_gt h2 h1
theorem zbsb  (h:v≠0)(e:bl w=bl v):bl (v ^^^ w) < bl v:=by
 have p:=zsw.mp h;have hw:w≠0:=zsw.mpr (by lia)
 suffices v ^^^ w < 2 ^ (bl v - 1) by have:=zta.mpr this;lia
 refine Nat.lt_pow_two_of_testBit _ λi hi=>?_
 rw[xiz];by_cases c:i=bl v - 1
 ·have a:=zbgy h;have b:=zbgy hw;rw[e] at b;rw[c,a,b];rfl
 ·have k1:v < 2 ^ bl v:=zta.mp (xbg _);have k2:w < 2 ^ bl v:=zta.mp (by lia);have k3:2 ^ bl v<=2 ^ i:=xfl (by decide) (by lia);rw[xhe (by lia),xhe (by lia)];rfl
theorem zbsc  (e:bl w < bl v):bl (v ^^^ w)=bl v:=by
 have h:v≠0:=zsw.mpr (by lia);have k1:v < 2 ^ bl v:=zta.mp (xbg _);have k2:w < 2 ^ bl v:=zta.mp (by lia);have k3:=zta.mpr (xmj k1 k2);have k4:w < 2 ^ (bl v - 1):=zta.mp (by lia);have t:(v ^^^ w).testBit (bl v - 1)=true:=by rw[xiz,zbgy h,xhe k4];rfl
 have:=Nat.ge_two_pow_of_testBit t;rcases xgl (bl (v ^^^ w)) (bl v) with z | z
 ·have:=zta.mp (show bl (v ^^^ w)<=bl v - 1 by lia);lia
 ·lia
noncomputable abbrev Tab:=Nat->Option Nat
def Good (A:Tab):Prop:=∀k v,A k=some v->bl v=k/\v≠0
def sel (A:Tab) (S:Nat->Bool):Nat->Nat
 | 0=>0
 | N+1=>(if S (N+1)=true then(A (N+1)).getD 0 else 0) ^^^ sel A S N
def Span (A:Tab) (N:Nat) (v:Nat):Prop:=∃S,v=sel A S N
theorem zbio  (g:Good A)(S:Nat->Bool):∀N,bl (sel A S N)<=N/\(sel A S N≠0->(A (bl (sel A S N))).isSome=true)
 | 0=>⟨xbg _,λh=>absurd rfl h⟩
 | N+1=>by
  have ih:=zbio g S N;have skip:(0 ^^^ sel A S N=sel A S N):=xhl _;show bl (_ ^^^ sel A S N)<=N+1/\(_ ^^^ sel A S N≠0->(A (bl (_ ^^^ sel A S N))).isSome=true)
  by_cases c:S (N+1)=true
  ·rw[if_pos c];cases e:A (N+1) with
   | none=>rw[xnb,skip];exact⟨by lia,ih.2⟩
   | some v =>
    obtain⟨g1,g2⟩:=g _ _ e;rw[Option.getD_some,zbsc (by lia),g1];exact⟨xbg _,λ_=>by rw[e];rfl⟩
  ·rw[if_neg c,skip];exact⟨by lia,ih.2⟩
theorem Span.zero  {N:Nat}:Span A N 0:=⟨λ_=>false,by
 induction N with
 | zero=>rfl
 | succ N ih=>show 0=0 ^^^ sel A (λ_=>false) N;rw[← ih];rfl⟩
theorem Span.xor  {N v w:Nat}(h:Span A N v)(k:Span A N w):Span A N (v ^^^ w):=by
 obtain⟨S,rfl⟩:=h;obtain⟨R,rfl⟩:=k;refine⟨λi=>Bool.xor (S i) (R i),?_⟩
 induction N with
 | zero=>show 0 ^^^ 0=0;rw[xfy]
 | succ N ih =>
  show(_ ^^^ sel A S N) ^^^ (_ ^^^ sel A R N)=(if Bool.xor (S (N+1)) (R (N+1))=true then(A (N+1)).getD 0 else 0) ^^^ sel A _ N;rw[← ih,xor4',xif]
theorem Span.key   (h0:1<=k)(e:A k=some v):∀{N},k<=N->Span A N v:=λ{N} hN=>⟨λi=>decide (i=k),by
 have low:∀M,M < k->sel A (λi=>decide (i=k)) M=0:=λM=>by
  induction M with
  | zero=>intro _;rfl
  | succ M ih=>intro h;show(if decide (M+1=k)=true then _ else 0) ^^^ sel A _ M=0;rw[ih (by lia),xbz (by lia)];simp
 induction N with
 | zero=>lia
 | succ N ih =>
  show v=(if decide (N+1=k)=true then(A (N+1)).getD 0 else 0) ^^^ sel A _ N;by_cases c:N+1=k
  ·rw[xbw c,if_pos rfl,c,e,low N (by lia),xer];rfl
  ·rw[xbz c,← ih (by lia)];simp⟩
theorem Span.lin  {N:Nat}  (h:∀v,P v->Span A N v){w:Nat}(k:Lin P w):Span A N w:=by
 induction k with
 | zero=>exact .zero
 | add p _ ih=>exact(h _ p).xor ih
def setT (A:Tab) (k v:Nat):Tab:=λi=>if i=k then some v else A i
theorem Span.more  {k v:Nat}(e:A k=none){N w:Nat}(h:Span A N w):Span (setT A k v) N w:=by
 obtain⟨S,rfl⟩:=h;refine⟨λi=>if i=k then false else S i,?_⟩
 induction N with
 | zero=>rfl
 | succ N ih =>
  show _ ^^^ sel A S N=(if(if N+1=k then false else S (N+1))=true then(setT A k v (N+1)).getD 0 else 0) ^^^ sel (setT A k v) _ N;rw[← ih];unfold setT;by_cases c:N+1=k
  ·rw[if_pos c,c,e];simp
  ·rw[if_neg c,if_neg c]
structure Lds (N:Nat) (A:Tab) (L:List Nat):Prop where
 good:Good A
 top:∀k v,A k=some v->k<=N
 lin:∀k v,A k=some v->Lin (·∈L) v
 all:∀v∈L,Span A N v
theorem Lds.nil (N:Nat):Lds N (λ_=>none) []:=⟨(λ_ _ e=>nomatch e),(λ_ _ e=>nomatch e),(λ_ _ e=>nomatch e),(λ_ h=>absurd h (by simp))⟩
structure Less (N:Nat) (A:Tab) (x y:Nat):Prop where
 top:bl y<=N
 span:Span A N (x ^^^ y)
theorem Less.refl {N:Nat}  {x:Nat}(h:bl x<=N):Less N A x x:=⟨h,by rw[xfy];exact .zero⟩
theorem Less.step {N:Nat}  {L:List Nat}{x y v:Nat}(l:Lds N A L)(h:Less N A x y)(h0:y≠0)(e:A (bl y)=some v):Less N A x (y ^^^ v)/\bl (y ^^^ v) < bl y:=by
 have b:=zbsb h0 (l.good _ _ e).1;exact⟨⟨by have:=h.top;lia,by rw[← xds];exact h.span.xor (Span.key (zsw.mp h0) e h.top)⟩,b⟩
theorem Lds.lins {N:Nat}  {L:List Nat}(l:Lds N A L){w:Nat}(h:Span A N w):Lin (·∈L) w:=by
 obtain⟨S,rfl⟩:=h;have:∀M,Lin (·∈L) (sel A S M):=λM=>by
  induction M with
  | zero=>exact .zero
  | succ M ih =>
   refine Lin.xor ?_ ih;by_cases c:S (M+1)=true
   ·rw[if_pos c];cases e:A (M+1) with
    | none=>exact .zero
    | some v=>exact l.lin _ _ e
   ·rw[if_neg c];exact .zero
 exact this N
theorem Lin.more {L:List Nat}{x w:Nat}(h:Lin (·∈L) w):Lin (·∈L++[x]) w:=Lin.bind (λv hv=>.one (xeb _ hv)) h
theorem Lds.put {N:Nat}  {L:List Nat}{x y:Nat}(l:Lds N A L)(h:Less N A x y)(h0:y≠0)(e:A (bl y)=none):Lds N (setT A (bl y) y) (L++[x]):=by
 have ly:Lin (·∈L++[x]) y:=by
  have h1:=(l.lins h.span).more (x:=x);have h2:=Lin.xor (Lin.one (P:=(·∈L++[x])) (v:=x) (by simp)) h1
  rwa [← xds,xfy,xhl] at h2
 have sy:Span (setT A (bl y) y) N y:=Span.key (zsw.mp h0) (by unfold setT;rw[if_pos rfl]) h.top;refine⟨λk v z=>?_,λk v z=>?_,λk v z=>?_,λv hv=>?_⟩
 ·unfold setT at z;by_cases c:k=bl y
  ·rw[if_pos c] at z;cases z;exact⟨c.symm,h0⟩
  ·rw[if_neg c] at z;exact l.good _ _ z
 ·unfold setT at z;by_cases c:k=bl y
  ·rw[c];exact h.top
  ·rw[if_neg c] at z;exact l.top _ _ z
 ·unfold setT at z;by_cases c:k=bl y
  ·rw[if_pos c] at z;cases z;exact ly
  ·rw[if_neg c] at z;exact(l.lin _ _ z).more
 ·rcases xbx.mp hv with q | q
  ·exact(l.all v q).more e
  ·rw[xbt.mp q];have:=(h.span.more (v:=y) e).xor sy
   rwa [xds,xfy,xer] at this
theorem Lds.keep {N:Nat}  {L:List Nat}{x:Nat}(l:Lds N A L)(h:Less N A x 0):Lds N A (L++[x]) :=
 ⟨l.good,l.top,λk v z=>(l.lin k v z).more,λv hv=>by
  rcases xbx.mp hv with q | q
  ·exact l.all v q
  ·rw[xbt.mp q];have:=h.span;rwa [xer] at this⟩
section
theorem zbgz  (he:0<=e){σ1:DS}  (q:∀x,0<=x->x<=e->w (.int x) au) :
  WP (compF (gN 0) (eB (aS oLe (aA 0) (aA 1))) (aA 0) [.int 0,.int 1,.int 3,.int 7,.int 15] [none,some (.int e)] au) (λys st2=>WP (bBest true [.lst ys] st2) w):=by
 refine zhw (as:=[(0:Int),1,3,7,15]) (E:=λx=>D.int x) (λσ=>∃v,σ=[v,some (.int e)]) (λx=>decide (x<=e)) (λx=>.int x) ⟨_,rfl⟩ ?_ ?_
 ·rintro x hx σ ⟨v,rfl⟩;refine⟨_,rfl,⟨_,rfl⟩,?_,λ_=>?_⟩
  ·simp only[W,V,xgb]
  ·simp only[W,V,xgb]
 ·rw[xcq (by simpa using he)];simp only[M];refine⟨0,([1,3,7,15]:List Int).filter (λx=>decide (x<=e)),?_,?_⟩
  ·have:=zbf (0::([1,3,7,15]:List Int).filter (λx=>decide (x<=e)));exact this
  ·obtain⟨h1,h2⟩:=zme (([1,3,7,15]:List Int).filter (λx=>decide (x<=e))) 0;refine q _ (h2 0 xbq) ?_;rcases xbm.mp h1 with h | h
   ·rw[h];exact he
   ·simpa using (xdy.mp h).2
theorem zoy {n:Nat}{N d:Int}(hb:BagAt au n)(hN:1<=N)(hN2:N<=1000)(hd:0<=d)(hd2:d<=1000)(k:∀r st',r.length=N.toNat->(∀x∈r,0<=x)->r.sum=d->Drew au st' n->Q (aL r) st'):WP (zci [.ref n,.int N,.int d] au) Q:=by
 refine zey rfl ?_;simp only[W,V];refine⟨small _ (by simp),?_⟩;have D0:Drew au (au++[.lst []]) n:=.more hb _;refine zfm D0.bag (by lia) (by lia) λfk st2 h3 h4 d2=>?_
 have D2:=D0.trans d2;have hk:au.length<=au.length:=xbg _;have hkn:au.length≠n:=xhi hb.lt;have g0:st2[au.length]?=some (.lst []):=(d2.keep _ (by simp) hkn).trans (by simp)
 try simp only[W,V]
 refine⟨trivial,_,rfl,rngN (by lia) (by lia),?_⟩;refine zcy (λi σ s=>∃(left:Int) (r:List Int) (v w:Option D),σ=[some (.ref n),some (.int N),some (.int d),some (.int left),some (.ref au.length),some (.int fk),v,w,none]/\0<=left/\left+r.sum=d/\r.length=i/\(∀x∈r,0<=x)/\Drew au s n/\s[au.length]?=some (.lst (r.map .int)))
  ⟨d,[],none,none,rfl,hd,by simp,rfl,by simp,D2,g0⟩ ?_ ?_
 ·rintro i x σ s hx ⟨left,r,v,w,rfl,a1,a2,a3,a4,a5,a6⟩;obtain⟨hi,rfl⟩:=zkk hx;have rn:=zvc a4;refine⟨_,rfl,?_⟩;unfold zdr;refine ztd (R:=λfl s=>∃y:Int,fl=.nx [some (.ref n),some (.int N),some (.int d),some (.int left),some (.ref au.length),some (.int fk),some (.int (0+(i:Int))),some (.int y),none]/\0<=y/\y<=left/\Drew au s n/\s[au.length]?=some (.lst (r.map .int))) ?_ ?_
  ·simp only[W,V];refine zfm a5.bag (by lia) (by lia) λy s2 b1 b2 e2=>?_
   exact⟨y,rfl,b1,by lia,a5.trans e2,(e2.keep _ (zcl a6) hkn).trans a6⟩
  rintro fl s1 ⟨y,rfl,y1,y2,E1,g1⟩;show WP _ _;refine ztd (R:=λfl s=>∃y:Int,fl=.nx [some (.ref n),some (.int N),some (.int d),some (.int left),some (.ref au.length),some (.int fk),some (.int (0+(i:Int))),some (.int y),none]/\0<=y/\y<=left/\s=s1) ?_ ?_
  ·simp only[W,V,Dd.N];split
   ·refine⟨small _ (by simp),small _ (by simp),?_⟩;refine zbgz (σ1:=[]) y1 λz z1 z2=>?_
    exact⟨z,rfl,z1,by lia,rfl⟩
   ·exact⟨y,rfl,y1,y2,trivial⟩
  rintro fl s2 ⟨y,rfl,y1,y2,rfl⟩;show WP _ _;simp only[W,V,M,Dd.N,L];have hlt:=zcl g1;refine⟨_,_,rfl,g1,_,_,rfl,g1,by rw[xbb];exact smallT _ (by lia),left - y,r++[y],_,_,rfl,by lia,by rw[xen];simp;lia,by simp[a3],zpc a4 y1,E1.over hb.lt hk,?_⟩;rw[zmv hlt];simp
 ·rintro σ s ⟨left,r,v,w,rfl,a1,a2,a3,a4,a5,a6⟩;rw[zgb] at a3;simp only[W,V,M];have hlt:=zcl a6;refine⟨_,_,rfl,a6,_,_,rfl,a6,by rw[xbb];exact smallT _ (by lia),?_⟩;have a7:(s.set au.length (.lst (r.map D.int++[D.int left])))[au.length]?=some (.lst ((r++[left]).map .int)):=by rw[zmv hlt];simp
  have D5:Drew au (s.set au.length (.lst (r.map D.int++[D.int left]))) n:=a5.over hb.lt hk;refine zfm D5.bag (by lia) (by lia) λy s2 b1 b2 e2=>?_
  have a8:s2[au.length]?=some (.lst ((r++[left]).map .int)):=(e2.keep _ (zcl a7) hkn).trans a7;refine⟨y,rfl,.inr ⟨_,zkw a8,y,rfl,.inr ⟨_,zkw a8,?_⟩⟩⟩;obtain⟨j,rfl⟩:=xgf b1;rw[zbas,zbmk];refine WP.of (zbdt (small _ (by rw[xbh,xlj];lia))) ?_;simp only[W,V];refine k _ _ ?_ ?_ ?_ (D5.trans e2)
  ·rw[ztm,xbh,xlj];lia
  ·intro x hx;rcases xbx.mp hx with hx | hx
   ·exact zpc a4 a1 x (xhz hx)
   ·exact zpc a4 a1 x (xfj hx)
  ·have:=congrArg List.sum (xdq j (r++[left]));rw[xen,xen] at this;rw[xen];simp at this;lia
theorem zls   {ps:List Pt}   (he:e<=1000)(hl:ps.length * (e+1)<=100000)(hr:∀p∈ps,p.1.length<=1000/\0<=p.2)
  (k:∀w6 w7 w8 g,I [a0,a1,a2,a3,some (.lst ((lawL e ps).map ptD)),some (.int e),w6,w7,w8] (au++g)) :
  WP (zdf [a0,a1,a2,a3,some (.lst (ps.map ptD)),some (.int e),v6,v7,v8] au) (loopK I Q):=by
 unfold zdf;simp only[W,V,Dd.N];refine⟨small _ (by simp),?_⟩;refine zcy (λi σ s=>(∃v w,σ=[a0,a1,a2,a3,some (.lst (ps.map ptD)),some (.int e),some (.ref au.length),v,w])/\s=au++[.lst ((lawL e (ps.take i)).map ptD)]) ⟨⟨_,_,rfl⟩,rfl⟩ ?_ ?_
 ·rintro i y σ s hy ⟨⟨v,w,rfl⟩,rfl⟩;obtain⟨p,hp,rfl⟩:=zhn hy;have hi:i < ps.length:=(xbj.mp hp).1;obtain⟨h3,h4⟩:=hr p (xcb hp);refine⟨_,rfl,?_⟩;have hlen:(lawL e (ps.take i)).length+(e+1)<=100000:=by
   have h1:=zpf e (ps.take i);have h2:(ps.take i).length=i:=by rw[xcz];lia
   rw[h2] at h1;have h3:(i+1) * (e+1)<=ps.length * (e+1):=xfb _ hi;rw[xkk] at h3;lia
  have hJ:=zvp e p;unfold zfp;simp only[W,V,L,zfz];refine⟨_,_,rfl,by simp;rfl,_,rfl,rngN (by split<;>lia) (by split<;>lia),by rw[zgb];exact small _ (by split<;>lia),?_⟩;unfold rng;refine zhw (as:=List.range ((if p.2 < (e:Int) then p.2 else(e:Int))+1).toNat) (λσ=>∃v,σ=[v,some (aL p.1),some (.int p.2),some (.int e)]) (λx=>decide (e &&& x=x)) (λj:Nat=>ptD (p.1++[(e:Int)+(j:Int)],p.2 - (j:Int))) (λi=>.int (0+(i:Int))) ⟨_,rfl⟩ ?_ ?_
  ·rintro j hj σ ⟨v,rfl⟩;refine⟨_,rfl,⟨_,rfl⟩,?_,λ_=>?_⟩
   ·simp only[W,V];rw[xhk,K07.zeq];refine⟨trivial,trivial,?_⟩;exact xgp.mpr ⟨λh=>by lia,λh=>by lia⟩
   ·simp only[W,V,Dd.N];rw[xhk];refine⟨small _ (by simp),by rw[xbb];exact small _ (by simp;lia),small _ (by simp),?_⟩;simp[ptD,aL]
  ·rw[zmt h4];refine⟨_,_,_,rfl,by simp;rfl,rfl,?_,⟨_,_,rfl⟩,?_⟩
   ·rw[xbb,xbb];have:(sharesL e 0 p.2).length<=e+1:=ziv _ _ _ _;exact small _ (by lia)
   ·rw[zj hp,zzt];unfold lawJ;simp[xcv,Function.comp_def]
 ·rintro σ s ⟨⟨v,w,rfl⟩,rfl⟩;rw[xbb,xch];simp only[W,V,M,Dd.N,L];refine⟨_,_,rfl,by simp;rfl,?_⟩;have:=k (some (.ref au.length)) v w [.dead]
  simpa using this
theorem zho    (ht:0<=t)(hp:∀r∈l,∀x∈r,0<=x/\x<=1000)(hr:∀r∈l,r.length<=1000)(hb:∀r∈l,box r<=B)(hB:B<=20000)(hl:l.length * B<=900000)(k:∀g,Q (aK (aO (raiseL t l))) (au++g)):WP (zbu [aK l,.int t] au) Q:=by
 refine zey rfl ?_;simp only[W,V,Dd.N];refine⟨small _ (by simp),?_⟩;have lens:∀i,(raiseL t (l.take i)).length<=900000:=λi=>by
  have h2:=zgc (k:=t) (l:=l.take i) (B:=B) λx hx=>hb x (xfj hx)
  have h3:(l.take i).length * B<=l.length * B:=xfb _ (by rw[xcz];exact xfu _ _);lia
 refine zcy (λi σ s=>(∃v w x y z a,σ=[some (aK l),some (.int t),some (.ref au.length),v,w,x,y,z,a])/\∃g,s=au++(.lst (aJ (raiseL t (l.take i)))::g)) ⟨⟨_,_,_,_,_,_,rfl⟩,[],rfl⟩ ?_ ?_
 ·rintro i y σ s hy ⟨⟨v,w,x,y',z,a,rfl⟩,g,rfl⟩;obtain⟨r,hrr,rfl⟩:=zcf hy;have hm:=xcb hrr;have pos:∀x∈r,0<=x:=λx hx=>(hp r hm x hx).1
  refine⟨_,rfl,?_⟩;unfold zfo;simp only[W,V,Dd.N];refine⟨small _ (by simp),small _ (by simp),small _ (by simp),?_⟩;refine zcy (λj σ s=>(∃x y z a,σ=[some (aK l),some (.int t),some (.ref au.length),some (aL r),some (.lst ((lawS t (r.take j)).map ptD)),x,y,z,a])/\∃g,s=au++(.lst (aJ (raiseL t (l.take i)))::g)) ⟨⟨_,_,_,_,rfl⟩,g,rfl⟩ ?_ ?_
  ·rintro j y σ s hy ⟨⟨x,y',z,a,rfl⟩,g,rfl⟩;obtain⟨e,he,rfl⟩:=zhn hy;refine⟨_,rfl,?_⟩;obtain⟨h1,h2⟩:=hp r hm e (xcb he);have hlen:=zvm r t j;have hbx:=zwu r (j+1);rw[zj he,zdl,show box [e]=e.toNat+1 by simp[box]] at hbx;have hmm:(lawS t (r.take j)).length * (e.toNat+1)<=20000:=xbc (xfb _ hlen) (xbc hbx (xbc (hb r hm) hB));have hrow:=zbfm r ht j;have hrl:=hr r hm;rw[zj he,zlt];unfold lawStep;generalize lawS t (r.take j)=ps at hmm hrow ⊢;obtain⟨e',rfl⟩:=xgf h1;simp only[V];refine zls (e:=e') (by lia) (by rw[xea] at hmm;lia) (λp hp=>?_) λw6 w7 w8 g2=>?_
   ·obtain⟨q1,q2⟩:=hrow p hp;rw[q1,xcz];exact⟨by lia,q2⟩
   ·refine⟨⟨_,_,_,_,rfl⟩,g++g2,by simp⟩
  ·rintro σ s ⟨⟨x,y',z,a,rfl⟩,g,rfl⟩;rw[xbb,xch];simp only[W,V,Dd.N,L,zfz];have hlen:=zvm r t r.length;rw[xch] at hlen;have hbr:=hb r hm;refine⟨_,_,rfl,zhq _ _,by rw[xbb];exact small _ (by lia),?_⟩;refine zhw (as:=lawS t r) (λσ=>∃v w,σ=[v,w]) (λp=>decide (p.2=0)) (λp=>aL p.1) ptD ⟨_,_,rfl⟩ ?_ ?_
   ·rintro p hp σ ⟨v,w,rfl⟩;exact⟨_,rfl,⟨_,_,rfl⟩,by simp only[W,V,xgb],λ_=>by simp only[W,V,xgb]⟩
   ·have e1:((lawS t r).filter λp=>decide (p.2=0)).map (λp=>aL p.1)=aJ (raiseR t r):=by
     rw[← zbcb pos ht];unfold lawP aJ;rw[xcv]
     rfl
    rw[e1];have h1:=lens i;have h2:=zix (k:=t) (hb r hm);refine⟨_,_,_,rfl,zhq _ _,rfl,by rw[zf,zf];exact small _ (by lia),⟨_,_,_,_,_,_,rfl⟩,g,?_⟩;rw[zmu,zj hrr,zkl];simp[aJ]
 ·rintro σ s ⟨⟨v,w,x,y',z,a,rfl⟩,g,rfl⟩;rw[zf,xch];have h1:=lens l.length;rw[xch] at h1;simp only[W,V,M,Dd.N];refine⟨_,_,rfl,zhq _ _,?_⟩;refine zqo (l:=raiseL t l) rfl (by lia) λg2=>?_
  rw[zmu,xck];exact k _
end
section
end
section
end
section
end
end Dd
namespace K11
end K11
namespace Dd
open PySem L2 K13
section
end
end Dd
namespace K54
end K54
namespace Dd
open PySem L2
open PySem.Builtin.Int (intBits)
noncomputable def cntP (d:Int):Nat->Int
 | 0=>1
 | i+1=>cntP d i * (d+(1+(i:Int))) / (1+(i:Int))
theorem zrh  (h0:0<=d)(h1:d < 10 ^ 40):∀i:Nat,i<=20->intBits (cntP d i)<=200 * (i+1)
 | 0,_=>by show intBits 1<=200;decide
 | i+1,hi=>by
  have ih:=zrh h0 h1 i (by lia);have b:intBits (d+(1+(i:Int)))<=200:=by
   rw[intBits_le_iff];have:(10:Int) ^ 40<=2 ^ 199:=by decide
   have e:(2:Nat) ^ 200=2 ^ 199+2 ^ 199:=by decide
   have e2:(1000:Nat)<=2 ^ 199:=by decide
   lia
  have m:=intBits_mul_le ih b;unfold cntP;refine intBits_le_of_natAbs (Int.natAbs_ediv_le_natAbs _ _) (xbc m (by lia))
section
theorem zzj {N:Int}(hN:1<=N)(hN2:N<=10)(h0:0<=d)(h1:d < 10 ^ 40)(q:Q (.int (cntP d (N - 1).toNat)) au):WP (zbe [.int N,.int d] au) Q:=by
 refine zey rfl ?_;simp only[W,V,Dd.N];refine⟨rngN (by lia) (by lia),rngN (by lia) (by lia),?_⟩;refine zcy (λi σ s=>(∃v,σ=[some (.int N),some (.int d),some (.int (cntP d i)),v])/\s=au) ⟨⟨_,rfl⟩,rfl⟩ ?_ ?_
 ·rintro i y σ s hy ⟨⟨v,rfl⟩,rfl⟩;obtain⟨hi,rfl⟩:=zkk hy;refine⟨_,rfl,?_⟩;unfold zcc;simp only[W,V,L];have b:=zrh h0 h1 i (by lia);refine⟨⟨xbc b (by lia),?_⟩,⟨by lia,?_⟩,⟨_,rfl⟩,trivial⟩
  ·rw[intBits_le_iff];have:(10:Int) ^ 40<=2 ^ 199:=by decide
   have e2:(1000:Nat)<=2 ^ 199:=by decide
   have e3:(2:Nat) ^ 200<=2 ^ 60000:=xfl (by decide) (by decide);have e:(2:Nat) ^ 200=2 ^ 199+2 ^ 199:=by decide
   refine xbk ?_ e3;lia
  ·have:(1+(i:Int)) < 2 ^ 60:=Int.lt_of_le_of_lt (show(1+(i:Int))<=100 by lia) (by decide +kernel);exact Int.lt_of_lt_of_le this (by decide +kernel)
 ·rintro σ s ⟨⟨v,rfl⟩,rfl⟩;rw[zgb];simp only[W,V];exact q
theorem znd :∀{l:List Int},l≠[]->(∀x∈l,x=d)->once l=[d]
 | [],h,_=>absurd rfl h
 | [a],_,h=>by
  have:=h a (by simp);subst this
  rfl
 | a::b::l,_,h=>by
  have h1:=h a (by simp);have h2:=h b (by simp);have ih:=znd (d:=d) (l:=b::l) (by simp) λx hx=>h x (xbo _ hx)
  subst h1;unfold once;rw[if_pos (by rw[h2];simp)];exact ih
theorem zyi (d:Int):sortI [d]=[d]:=by
 have:=zga [d];exact List.perm_singleton.mp this
theorem znv {au:Store}{l:List Row}(hl:l.length<=1000)(hs:∀r∈l,0<=r.sum/\r.sum < 64)(q:Q (.ref au.length) (au++[.lst ((sortI (once (l.map List.sum))).map .int)])):WP (zik [aK l] au) Q:=by
 refine zey rfl ?_;simp only[W,V,Dd.N];refine⟨by rw[zf];exact small _ (by lia),?_⟩;refine zhw (as:=l) (λσ=>∃v,σ=[v]) (λ_=>true) (λr=>.int r.sum) aL ⟨_,rfl⟩ ?_ ?_
 ·rintro r hr σ ⟨v,rfl⟩;refine⟨_,rfl,⟨_,rfl⟩,by simp only[W,xgb],λ_=>?_⟩;simp only[W,V,M];exact⟨r,zbf r,trivial,rfl⟩
 ·rw[zcn];have e1:=zbf (l.map List.sum);rw[xcv] at e1;have e2:bSortSetM [.lst (l.map λr=>.int r.sum)] au=.ok (.ref au.length) (au++[.lst ((sortI (once (l.map List.sum))).map .int)]):=by
   unfold bSortSetM;dsimp only;rw[show(asL au (.lst (l.map λr=>D.int r.sum))).bind asInts=some (l.map List.sum) from e1];dsimp only;rw[if_pos];rw[xcu];intro x hx;obtain⟨r,hr,rfl⟩:=xbp.mp hx;have:=hs r hr;simp[smallI];lia
  exact WP.of e2 q
theorem zzy {N:Int}(hN:1<=N)(hN2:N<=10)(h0:0<=d)(h1:d<=if N<=3 then 24 else 10)(h2:cntP d (N - 1).toNat<=200)(q:Q (.int d) au):WP (zil [.int N,.int d] au) Q:=by
 refine zey rfl ?_;have hd:d < 10 ^ 40:=by
  have:(30:Int) < 10 ^ 40:=by decide
  split at h1<;>lia
 have key:WP (zcj [.int N,.int d] au) (λv s=>v=.bl true/\s=au):=by
  refine zey rfl ?_;simp only[W,V];refine WP.mono (Q:=λv s=>v=.int (if N<=3 then 24 else 10)/\s=au) ?_ ?_
  ·refine zey rfl ?_;simp only[W,V];refine⟨trivial,?_⟩;by_cases c:N<=3
   ·simp only[c,xeu,xgb]
   ·simp only[c,xec,xgb]
  ·rintro v s ⟨rfl,rfl⟩;simp only[W,V];refine⟨trivial,?_⟩;simp only[h1,xgm,xeu,W,V];refine zzj hN hN2 h0 hd ?_;simp only[W,V];refine⟨trivial,?_⟩;rw[xbw h2]
   first | exact⟨rfl,trivial⟩ | exact⟨rfl,rfl⟩ | simp
 obtain⟨v,s,e,rfl,rfl⟩:=key.get;simp only[W,V];refine WP.of e ?_;simp only[Dd.N,W,V,xjz];exact q
theorem znc {N:Int}{l:List Row}(hN:1<=N)(hN2:N<=10)(h0:0<=d)(h1:d<=if N<=3 then 24 else 10)(h2:cntP d (N - 1).toNat<=200)(hl:l.length<=1000)(ne:l≠[])(hs:∀r∈l,r.sum=d)(k:∀g,Q (.int d) (au++g)):WP (zcw [.int N,aK l] au) Q:=by
 refine zey rfl ?_;simp only[W,V];refine znv hl (λr hr=>by rw[hs r hr];split at h1<;>lia) ?_;have e1:once (l.map List.sum)=[d]:=znd (by simpa using ne) λx hx=>by
  obtain⟨r,hr,rfl⟩:=xbp.mp hx;exact hs r hr
 rw[e1,zyi];have g:(au++[O.lst ([d].map .int)])[au.length]?=some (.lst [.int d]):=by simp
 have s1:seqOf (au++[O.lst ([d].map .int)]) (.ref au.length)=some [.int d]:=by
  unfold seqOf asL;simp[g]
 have k1:=k [O.lst ([d].map .int)];generalize au++[O.lst ([d].map .int)]=st1 at g s1 k1;have e2:bLen [.ref au.length] st1=.ok (.int 1) st1:=by
  unfold bLen;dsimp only;rw[s1]
  rfl
 have e3:tru st1 (.ref au.length)=some true:=by
  unfold tru asL;simp[g]
 refine WP.of e2 ?_;simp only[W,V];refine⟨trivial,?_⟩;rw[if_neg (by decide)];refine⟨true,e3,?_⟩;simp only[V];refine zdt (d:=.int d) s1 rfl ?_;exact zzy hN hN2 h0 h1 h2 k1
theorem zpb {N:Int}(k:∀g,Q .non (au++g)):WP (zcw [.int N,aK []] au) Q:=by
 refine zey rfl ?_;simp only[W,V];refine znv (l:=[]) (by simp) (λr hr=>(by cases hr)) ?_;have e1:sortI (once (([]:List Row).map List.sum))=[]:=List.perm_nil.mp (zga _);rw[e1];have g:(au++[O.lst (([]:List Int).map .int)])[au.length]?=some (.lst []):=by simp
 have k1:=k [O.lst (([]:List Int).map .int)];generalize au++[O.lst (([]:List Int).map .int)]=st1 at g k1;have s1:seqOf st1 (.ref au.length)=some []:=by
  unfold seqOf asL;simp[g]
 have e2:bLen [.ref au.length] st1=.ok (.int 0) st1:=by
  unfold bLen;dsimp only;rw[s1]
  rfl
 have e3:tru st1 (.ref au.length)=some false:=by
  unfold tru asL;simp[g]
 refine WP.of e2 ?_;simp only[W,V];refine⟨trivial,?_⟩;rw[if_neg (by decide)];refine⟨false,e3,?_⟩;simp only[V];exact k1
def allJ (p:Pt):List Pt:=(List.range (p.2.toNat+1)).map λe:Nat=>(p.1++[(e:Int)],p.2 - (e:Int))
def allS (d:Int):Nat->List Pt
 | 0=>[([],d)]
 | k+1=>(allS d k).flatMap allJ
def allL (d:Int) (k:Nat):List Row:=(allS d k).map λp=>p.1++[p.2]
theorem zbcq {α:Type}{f:α->List Pt} :∀{l:List α},(∀a∈l,(f a).length<=B)->(l.flatMap f).length<=l.length * B
 | [],_=>by simp
 | a::l,h=>by
  have h1:=h a xbq;have h2:=zbcq (l:=l) λb hb=>h b (xbo _ hb)
  rw[xky,xbh,xcc,xkk];lia
theorem zjw  (h0:0<=d):∀k:Nat,∀p∈allS d k,p.1.length=k/\(∀x∈p.1,0<=x)/\0<=p.2/\p.1.sum+p.2=d
 | 0,p,hp=>by
  simp[allS] at hp;subst hp;exact⟨rfl,by simp,h0,by simp⟩
 | k+1,p,hp=>by
  obtain⟨q,hq,hp⟩:=xei.mp hp;obtain⟨h1,h2,h3,h4⟩:=zjw h0 k q hq;obtain⟨e,he,rfl⟩:=xbp.mp hp;have he:=xby.mp he;refine⟨by simp[h1],λx hx=>?_,by dsimp only;lia,by simp;lia⟩;rcases xbx.mp hx with hx | hx
  ·exact h2 x hx
  ·simp at hx;lia
theorem zxe  (h0:0<=d):∀k:Nat,(allS d k).length<=(d.toNat+1) ^ k
 | 0=>by simp[allS]
 | k+1=>by
  have ih:=zxe h0 k;have h:=zbcq (f:=allJ) (B:=d.toNat+1) (l:=allS d k) λp hp=>by
   obtain⟨_,h2,h3,h4⟩:=zjw h0 k p hp;have:=zvc h2;unfold allJ;rw[xbb,xev];lia
  show((allS d k).flatMap allJ).length<=_;rw[xlt];exact xbc h (xfb _ ih)
theorem zbhd:∀(a:Row) (d:Int),(∀x∈a,0<=x)->a.sum<=d->(a,d - a.sum)∈allS d a.length:=λa=>by
 induction hn:a.length generalizing a with
 | zero =>
  intro d _ _;have:a=[]:=xkq.mp hn;subst this;simp[allS]
 | succ k ih =>
  intro d ha hs;have ne:a≠[]:=by rintro rfl;simp at hn
  obtain⟨b,e,rfl⟩:∃b e,a=b++[e]:=⟨a.dropLast,a.getLast ne,(xmc ne).symm⟩
  have he:=ha e (by simp);have hb:=λx hx=>ha x (xeb _ hx)
  rw[xen,xmk] at hs;have h1:=ih b (by simp at hn;exact hn) d hb (by lia);refine xei.mpr ⟨_,h1,xbp.mpr ⟨e.toNat,xby.mpr (by dsimp only;lia),?_⟩⟩;have e1:((e.toNat:Nat):Int)=e:=by lia
  rw[xen,xmk,e1];dsimp only
  congr 1
  lia
theorem zjx {r:Row}   (hl:r.length=k+1)(hr:∀x∈r,0<=x)(hs:r.sum=d):r∈allL d k:=by
 have ne:r≠[]:=by rintro rfl;simp at hl
 obtain⟨b,e,rfl⟩:∃b e,r=b++[e]:=⟨r.dropLast,r.getLast ne,(xmc ne).symm⟩
 rw[xen,xmk] at hs;have h1:=zbhd b d (λx hx=>hr x (xeb _ hx)) (by have:=hr e (by simp);lia);have e1:b.length=k:=by simpa using hl
 rw[e1] at h1;refine xbp.mpr ⟨_,h1,?_⟩;dsimp only;rw[show d - b.sum=e by lia]
theorem zes {d:Int}(h0:0<=d){k:Nat}{r:Row}(h:r∈allL d k):r.length=k+1/\(∀x∈r,0<=x)/\r.sum=d:=by
 obtain⟨p,hp,rfl⟩:=xbp.mp h;obtain⟨h1,h2,h3,h4⟩:=zjw h0 k p hp;refine⟨by simp[h1],λx hx=>?_,by simp;lia⟩;rcases xbx.mp hx with hx | hx
 ·exact h2 x hx
 ·simp at hx;lia
end
end Dd
namespace Dd
open PySem L2
section
end
section
noncomputable def mostD (N:Int):Int:=([24,24,18,8,5,4,3,3,3,2]:List Int).getD (N - 1).toNat 0
theorem zzl:(List.range 10).all (λi=>decide (0<=mostD ((i:Int)+1)/\mostD ((i:Int)+1)<=(if((i:Int)+1)<=3 then 24 else 10)/\((mostD ((i:Int)+1)).toNat+1) ^ i<=100000))=true:=by decide +kernel
theorem zgf {N:Int}(h1:1<=N)(h2:N<=10):0<=mostD N/\mostD N<=(if N<=3 then 24 else 10)/\((mostD N).toNat+1) ^ (N - 1).toNat<=100000:=by
 have:=xcu.mp zzl (N - 1).toNat (xby.mpr (by lia));have:=xcr this;rw[show(((N - 1).toNat:Nat):Int)+1=N by lia] at this;exact this
theorem zbkl {N:Int}(h1:1<=N)(h2:N<=10):L2.atI (([24,24,18,8,5,4,3,3,3,2]:List Int).map D.int) (N - 1)=some (.int (mostD N)):=by
 obtain⟨j,hj⟩:=xgf (show 0<=N - 1 by lia);unfold mostD;rw[hj];refine zxa ?_;rw[xcp];have hlt:j < 10:=by lia
 rw[xea,xbi,xbe (by simpa using hlt)]
 rfl
theorem zbal {N:Int}(hb:BagAt au n)(h1:1<=N)(h2:N<=10)(k:∀(d:Int) st',0<=d->d<=mostD N->Drew au st' n->Q (.int d) st'):WP (zdz [.ref n,.int N] au) Q:=by
 obtain⟨m1,m2,m3⟩:=zgf h1 h2;have m4:mostD N<=24:=by split at m2<;>lia
 refine zey rfl ?_;simp only[W,V];refine⟨small _ (by simp),trivial,zdt (xs:=([24,24,18,8,5,4,3,3,3,2]:List Int).map D.int) rfl (zbkl h1 h2) ?_⟩;simp only[W,V];refine zfm hb (by lia) (by lia) λa s1 a1 a2 d1=>?_
 refine⟨small _ (by simp),?_⟩;refine zfm d1.bag (by lia) (by lia) λb s2 b1 b2 d2=>?_
 simp only[W,V];refine⟨trivial,?_⟩;by_cases c:0 < b
 ·simp only[c,xgm,xeu];exact zdt (xs:=[.int (mostD N),.int a]) rfl rfl (k _ _ a1 (by lia) (d1.trans d2))
 ·simp only[c,xfz];exact zdt (xs:=[.int (mostD N),.int a]) rfl rfl (k _ _ m1 (Int.le_refl _) (d1.trans d2))
end
end Dd
namespace K55
end K55
namespace Dd
open PySem L2 K13
theorem orx:∀v w:Nat,v ||| w=(v ^^^ w)+(v &&& w)/\v+w=(v ^^^ w)+2 * (v &&& w):=λv=>by
 induction v using Nat.strongRecOn with
 | _ v ih =>
 intro w;by_cases c:v=0
 ·subst c;simp
 ·have h:=ih (v / 2) (by lia) (w / 2);have a1:(v ||| w) / 2=v / 2 ||| w / 2:=Nat.or_div_two
  have a2:(v ^^^ w) / 2=v / 2 ^^^ w / 2:=Nat.xor_div_two;have a3:(v &&& w) / 2=v / 2 &&& w / 2:=xls;have b1:(v ||| w) % 2=1↔v % 2=1\/w % 2=1:=Nat.or_mod_two_eq_one;have b2:=Nat.xor_mod_two_eq_one (a:=v) (b:=w);have b3:(v &&& w) % 2=1↔v % 2=1/\w % 2=1:=Nat.and_mod_two_eq_one;rw[← a1,← a2,← a3] at h;generalize (v ||| w)=x at *
  generalize (v ^^^ w)=y at *
  generalize (v &&& w)=z at *
  lia
theorem zeq (v w:Nat):Builtin.bitAnd (v:Int) (w:Int)=((v &&& w:Nat):Int):=by simp[Builtin.bitAnd]
theorem zjt (v w:Nat):Builtin.bitXor (v:Int) (w:Int)=((v ^^^ w:Nat):Int):=by
 rw[PyProof.Rows.bitXor_and,zeq];have:=(orx v w).2;lia
theorem zrk (v w:Nat):Builtin.bitOr (v:Int) (w:Int)=((v ||| w:Nat):Int):=by
 have h:Builtin.bitXor (v:Int) (w:Int)=Builtin.bitOr v w - Builtin.bitAnd v w:=rfl;rw[zjt,zeq] at h;have:=(orx v w).1;lia
theorem zhe (v:Nat):Builtin.Int.intBits (v:Int)=bl v:=by
 unfold Builtin.Int.intBits bl;by_cases c:v=0
 ·rw[if_pos c,c];rfl
 ·rw[if_neg c,if_neg (by simp;exact c),Int.natAbs_natCast]
def pw (AL:List Row) (r:Row):Nat:=2 ^ AL.idxOf r
theorem pw_lt   (h:r∈AL):pw AL r < 2 ^ AL.length:=Nat.pow_lt_pow_right (by decide) (xgk h)
theorem zbnr {α:Type}{f:α->Nat}{N:Nat}:∀{l:List α},(∀x∈l,f x < 2 ^ N)->xr l f < 2 ^ N
 | [],_=>xnm N
 | x::l,h=>xmj (h x (xbq ..)) (zbnr λy hy=>h y (xbo _ hy))
theorem zbhq {AL:List Row} :∀{l:List Row},(∀x∈l,AL.idxOf x≠q)->(xr l (pw AL)).testBit q=false
 | [],_=>xng q
 | x::l,h=>by
  rw[zbx,xiz,zbhq λy hy=>h y (xbo _ hy)];unfold pw;rw[xik,xbz (h x (xbq ..))];rfl
theorem zbcj {AL:List Row}{x y:Row}(hx:x∈AL)(hy:y∈AL)(e:AL.idxOf x=AL.idxOf y):x=y:=by
 have a:=xml (xgk hx);have b:=xml (xgk hy);rw[← a,← b];congr 1
theorem zbdi {t:Nat}(h:t.testBit q=false):t &&& 2 ^ q=0:=by
 refine Nat.eq_of_testBit_eq λi=>?_
 rw[Nat.testBit_and,xik,xng];by_cases c:q=i
 ·rw[← c,h];rfl
 ·rw[xbz c,xnp]
theorem zbkg {AL l:List Row}{r:Row}(hl:∀x∈l,x∈AL)(hr:r∈AL)(n:r∉l):xr l (pw AL)+2 ^ AL.idxOf r=xr (l++[r]) (pw AL)/\(xr l (pw AL) ||| 2 ^ AL.idxOf r)=xr (l++[r]) (pw AL):=by
 have h:(xr l (pw AL)).testBit (AL.idxOf r)=false:=zbhq λx hx e=>n (zbcj (hl x hx) hr e ▸ hx)
 have z:=zbdi h;obtain⟨o1,o2⟩:=orx (xr l (pw AL)) (2 ^ AL.idxOf r);have e:xr (l++[r]) (pw AL)=xr l (pw AL) ^^^ 2 ^ AL.idxOf r:=by rw[zfy];show _ ^^^ (pw AL r ^^^ 0)=_;rw[xer];rfl
 rw[z] at o1 o2;rw[e];lia
theorem zxq  {a b:List Row}(h:∀x,a.count x % 2=b.count x % 2):xr a f=xr b f:=by
 have bit:∀(l:List Row) (i:Nat),(xr l f).testBit i=decide (tot l (λx=>if(f x).testBit i=true then 1 else 0) % 2=1):=λl i=>by
  induction l with
  | nil=>simp[xr,tot]
  | cons x l ih =>
   rw[zbx,xiz,ih,zoi];cases(f x).testBit i
   ·simp
   ·simp only[xeu];rw[xfp];simp;lia
 refine Nat.eq_of_testBit_eq λi=>?_
 rw[bit,bit,zbif _ h]
theorem zbdk    (hk:0<=k)(hp:Nn p):xr (aO (raiseL k [p])) f=T k f p:=by
 rw[zxq λx=>zgl (raiseL k [p]) x,show raiseL k [p]=raiseR k p by unfold raiseL;simp,zeg hp hk,zex];unfold T;refine zm λx _=>?_
 by_cases c:x.sum=p.sum+k
 ·rw[if_pos (xbw c),if_pos c]
 ·rw[if_neg (by simp[c]),if_neg c]
theorem zrr:∀(m:Nat) (d:Int),allS d (m+1)=(List.range (d.toNat+1)).flatMap λe:Nat=>(allS (d - e) m).map λp=>((e:Int)::p.1,p.2)
 | 0,d=>by
  show([(([]:Row),d)]:List Pt).flatMap allJ=_;rw[List.flatMap_singleton];unfold allJ;rw[List.map_eq_flatMap]
  rfl
 | m+1,d=>by
  show(allS d (m+1)).flatMap allJ=_;rw[zrr m d,List.flatMap_assoc];refine congrArg (λf=>List.flatMap f (List.range (d.toNat+1))) (funext λe=>?_);show _=((allS (d - e) m).flatMap allJ).map _;rw[List.flatMap_map,xjv];refine congrArg (λf=>List.flatMap f (allS (d - e) m)) (funext λp=>?_);unfold allJ;rw[xcv]
  rfl
theorem zrs (m:Nat)(d:Int):allL d (m+1)=(List.range (d.toNat+1)).flatMap λe:Nat=>(allL (d - e) m).map λr=>(e:Int)::r:=by
 unfold allL;rw[zrr,xjv];refine congrArg (λf=>List.flatMap f (List.range (d.toNat+1))) (funext λe=>?_);rw[xcv,xcv]
 rfl
theorem zod:∀(m:Nat) (d:Int),(allL d m).Nodup
 | 0,d=>by show[[d]].Nodup;simp
 | m+1,d=>by
  rw[zrs];refine List.pairwise_flatMap.mpr ⟨λe _=>?_,xnf.imp λ{a b} ne x hx y hy h=>?_⟩
  ·exact List.pairwise_map.mpr ((zod m _).imp λ{a b} ne h=>ne (List.cons.inj h).2)
  ·obtain⟨r,_,rfl⟩:=xbp.mp hx;obtain⟨s,_,rfl⟩:=xbp.mp hy;have:=(List.cons.inj h).1;lia
end Dd
namespace Dd
open PySem L2
section
end
section
end
section
end
section
end
section
end
section
end
end Dd
namespace K37
end K37
namespace Dd
open PySem L2
section
theorem _root_.List.set_getElem_self' {α:Type}{s:List α}  {x:α}(h:s[m]?=some x):s.set m x=s:=by
 obtain⟨hm,rfl⟩:=xbj.mp h;exact List.set_getElem_self hm
end
end Dd
namespace K39
end K39
namespace Dd
open PySem L2
namespace Tab
/- the law's side -/
/- what is looked at -/
end Tab
namespace Tab
theorem wp_grow {α:Type}{bd:SG}{body:SS}{au:Store}{Q:Fl->Store->Prop}(E:α->D)(f:α->List D)(S:DS->Prop)(B:Nat){as:List α}{acc:List D}{σ:DS}{g:Store}(h0:S σ)(hB:(acc++as.flatMap f).length<=B)
  (t:∀a∈as,∀σ acc g,S σ->(acc++f a).length<=B->∃σ1,bd (E a) σ=some σ1/\∀R:Fl->Store->Prop,(∀σ' g',S σ'->R (.nx σ') (au++(.lst (acc++f a)::g')))->WP (body σ1 (au++(.lst acc::g))) R)
  (q:∀σ' g',S σ'->Q (.nx σ') (au++(.lst (acc++as.flatMap f)::g'))):WP (forF bd body (as.map E) σ (au++(.lst acc::g))) Q:=by
 refine zcy (λi σ s=>∃g,S σ/\s=au++(.lst (acc++(as.take i).flatMap f)::g)) ⟨g,h0,by simp⟩ ?_ ?_
 ·rintro i x σ s hx ⟨g,hS,rfl⟩;rw[xcp] at hx;obtain⟨z,hz,rfl⟩:=xdh.mp hx;have e:(as.take (i+1)).flatMap f=(as.take i).flatMap f++f z:=by rw[zj hz,List.flatMap_append];simp
  have hl:((as.take (i+1)).flatMap f).length<=(as.flatMap f).length:=by
   conv=>rhs;rw[← xdq (i+1) as,List.flatMap_append,xbh]
   lia
  rw[e] at hl;rw[xbh] at hB hl;obtain⟨σ1,e1,w⟩:=t z (xcb hz) σ (acc++(as.take i).flatMap f) g hS (by simp only[xbh];lia);refine⟨σ1,e1,w _ λσ' g' h'=>?_⟩;simp only[L];exact⟨g',h',by rw[e,xck]⟩
 ·rintro σ s ⟨g,hS,rfl⟩;rw[xbb,xch];exact q _ _ hS
section
end
end Tab
end Dd
namespace Dd
open PySem L2 K13
def bitK (Q:D->Store->Prop):D->Store->Prop:=λv s=>match v with
 | .int i=>Q (.int (Builtin.Int.intBits i)) s
 | _=>False
theorem ztf    :WP (eBits f σ au) Q=WP (f σ au) (bitK Q):=by
 unfold eBits;rw[zh]
 congr
 funext x s
 cases x<;>rfl
theorem zpp   :bitK Q (.int i) s=Q (.int (Builtin.Int.intBits i)) s:=rfl
theorem zte   :WP (eDNewI σ au) Q=Q (.ref au.length) (au++[.dI []]):=rfl
theorem zbql      (h:au[n]?=some (.dI kvs)):oIIn neg (.int k) (.ref n) au=.ok (.bl (if neg then !(valI kvs k).isSome else(valI kvs k).isSome)) au:=by
 unfold oIIn intsOf;simp only[h]
theorem zbch      (h:au[n]?=some (.dI kvs))(hv:valI kvs k=some v):oIGet (.ref n) (.int k) au=.ok v au:=by
 unfold oIGet intsOf;simp only[h,hv]
theorem zbhs     (q:WP (h σ au) (λv s1=>WP (f σ s1) (λx s2=>WP (g σ s2) (λy s3=>∃n k kvs,x=.ref n/\y=.int k/\s3[n]?=some (.dI kvs)/\kvs.length < sizeLine/\Q (.nx σ) (s3.set n (.dI (putI kvs k v))))))):WP (sIPut f g h σ au) Q:=by
 unfold sIPut;rw[zh];refine q.mono λv s1 q=>?_
 rw[zh];refine q.mono λx s2 q=>?_
 rw[zh];refine q.mono λy s3 q=>?_
 obtain⟨n,k,kvs,rfl,rfl,e,hl,q⟩:=q;simp only[e,hl,xeu];exact q
theorem zbht     (q:WP (h σ au) (λv s1=>WP (f σ s1) (λx s2=>WP (g σ s2) (λy s3=>∃n r kvs,x=.ref n/\y=aL r/\s3[n]?=some (.dT kvs)/\kvs.length < sizeLine/\Q (.nx σ) (s3.set n (.dT (putD kvs r v))))))):WP (sDPut f g h σ au) Q:=by
 unfold sDPut;rw[zh];refine q.mono λv s1 q=>?_
 rw[zh];refine q.mono λx s2 q=>?_
 rw[zh];refine q.mono λy s3 q=>?_
 obtain⟨n,r,kvs,rfl,rfl,e,hl,q⟩:=q;rw[zfb];simp only[e,hl,xeu];exact q
theorem zvx {κ:Type}[DecidableEq κ]{kvs:List (κ×D)}{k j:κ}{v:D}:((if(kvs.any λkv=>decide (kv.1=k))=true then kvs.map (λkv=>if kv.1=k then(kv.1,v) else kv) else kvs++[(k,v)]).find? λkv=>decide (kv.1=j)).map (·.2)=if j=k then some v else(kvs.find? λkv=>decide (kv.1=j)).map (·.2):=by
 by_cases c:(kvs.any λkv=>decide (kv.1=k))=true
 ·rw[if_pos c]
  induction kvs with
  | nil=>simp at c
  | cons p kvs ih =>
   rw[xbs,xdn,xdn];by_cases e:p.1=k
   ·rw[if_pos e];by_cases z:p.1=j
    ·simp only[z,xgm,Option.map_some];rw[if_pos (z.symm.trans e)]
    ·have zk:¬ j=k:=λq=>z (e.trans q.symm)
     simp only[z,xfz,if_neg zk];by_cases c2:(kvs.any λkv=>decide (kv.1=k))=true
     ·rw[ih c2,if_neg zk]
     ·have:kvs.map (λkv=>if kv.1=k then(kv.1,v) else kv)=kvs:=by
       refine(xkd λq hq=>?_).trans (xno _);by_cases y:q.1=k
       ·exact absurd (xig.mpr ⟨q,hq,by simp[y]⟩) c2
       ·rw[if_neg y];rfl
      rw[this]
   ·rw[if_neg e];have c2:(kvs.any λkv=>decide (kv.1=k))=true:=by rw[xhu,xbz e,Bool.false_or] at c;exact c
    by_cases z:p.1=j
    ·simp only[z,xgm];rw[if_neg (λq=>e (z.trans q))]
    ·simp only[z,xfz];exact ih c2
 ·rw[if_neg c,List.find?_append];by_cases z:j=k
  ·subst z;have:kvs.find? (λkv=>decide (kv.1=j))=none:=by
    refine xiw.mpr λq hq=>?_
    intro y;exact c (xig.mpr ⟨q,hq,y⟩)
   rw[this];simp
  ·rw[if_neg z];have:[(k,v)].find? (λkv=>decide (kv.1=j))=none:=by
    rw[xdn];have:¬ k=j:=λq=>z q.symm
    simp[this]
   rw[this,Option.or_none]
theorem zti {kvs:List (Int×D)}{k j:Int}{v:D}:valI (putI kvs k v) j=if j=k then some v else valI kvs j:=zvx
theorem zbdq {kvs:List (Row×D)}{k j:Row}{v:D}:valD (putD kvs k v) j=if j=k then some v else valD kvs j:=zvx
theorem zbbz {κ:Type}[DecidableEq κ]{kvs:List (κ×D)}{k:κ}{v:D}:(if(kvs.any λkv=>decide (kv.1=k))=true then kvs.map (λkv=>if kv.1=k then(kv.1,v) else kv) else kvs++[(k,v)]).length<=kvs.length+1:=by
 split
 ·rw[xbb];lia
 ·rw[xbh];exact xbg _
theorem zbed {kvs:List (Int×D)}{k:Int}{v:D}:(putI kvs k v).length<=kvs.length+1:=zbbz
theorem zbee {kvs:List (Row×D)}{k:Row}{v:D}:(putD kvs k v).length<=kvs.length+1:=zbbz
theorem zbdo     (h:WP (f σ au) (λx s=>∃xs,x=.lst xs/\Q (numF 0 xs) s)):WP (iEn0 f σ au) Q:=by
 unfold iEn0;rw[zh];refine h.mono λx s q=>?_
 obtain⟨xs,rfl,q⟩:=q;exact q
theorem small17  (h:n < 16000000):n < sizeLine:=by rw[xji];lia
theorem zmg  (h0:0<=d)(m:Nat):(allL d m).length<=(d.toNat+1) ^ m:=by unfold allL;rw[xbb];exact zxe h0 m
theorem zbiz:∀(f m:Nat) {d:Int} {N:Int} {au:Store} {Q:D->Store->Prop},m<=f->m<=100->N=(m:Int)+1->0<=d->d<=1000->(d.toNat+1) ^ m<=100000 ->
  (∀g,Q (.lst (aJ (allL d m))) (au++g))->WP (iterF zo (f+1) [.int N,.int d] au) Q:=λf=>by
 induction f with
 | zero =>
  intro m d N au Q hm _ hN h0 hd hb k;obtain rfl:m=0:=by lia
  show WP (fnD 4 2 _ [.int N,.int d] au) Q;refine zey rfl ?_;simp only[W,V];rw[if_pos (show N=1 by lia)];refine⟨small _ (by simp),small _ (by simp),?_⟩;have:=k [];rw[xdm] at this;exact this
 | succ f ih =>
  intro m d N au Q hm hm2 hN h0 hd hb k;show WP (fnD 4 2 _ [.int N,.int d] au) Q;refine zey rfl ?_;simp only[W,V];by_cases c:m=0
  ·subst c;rw[if_pos (show N=1 by lia)];refine⟨small _ (by simp),small _ (by simp),?_⟩;have:=k [];rw[xdm] at this;exact this
  ·obtain⟨j,rfl⟩:∃j,m=j+1:=⟨m - 1,by lia⟩
   rw[if_neg (show ¬ N=1 by lia)];simp only[W,V,Dd.N];refine⟨small _ (by simp),rngN (by lia) (by lia),?_⟩;have fl:=zmg h0 (j+1);have hd1:(d+1).toNat=d.toNat+1:=by lia
   have e0:aJ (allL d (j+1))=(List.range (d.toNat+1)).flatMap λe:Nat=>(allL (d - e) j).map λr=>aL ((e:Int)::r):=by
    rw[zrs];unfold aJ;rw[xjv];simp only[xcv];rfl
   rw[hd1];unfold rng;refine Tab.wp_grow (λe:Nat=>.int (0+(e:Int))) (λe:Nat=>(allL (d - e) j).map λr=>aL ((e:Int)::r)) (λσ=>∃v,σ=[some (.int N),some (.int d),some (.ref au.length),v]) 100000 (acc:=[]) (g:=[]) ⟨_,rfl⟩ ?_ ?_ ?_
   ·rw[xiv,← e0,zf];lia
   ·rintro e he σ acc g ⟨v,rfl⟩ hB;have he:=xby.mp he;refine⟨_,rfl,λR hR=>?_⟩;rw[xhk];unfold zcb;simp only[W,V,zfz];refine⟨_,_,rfl,by simp;rfl,?_⟩;have pb:((d - (e:Int)).toNat+1) ^ j<=100000:=by
     have p1:((d - (e:Int)).toNat+1) ^ j<=(d.toNat+1) ^ j:=xil (by lia) _;have p2:(d.toNat+1) ^ j<=(d.toNat+1) ^ (j+1):=xfl (by lia) (by lia);lia
    refine⟨trivial,trivial,?_⟩;refine ih j (d:=d - (e:Int)) (N:=N - 1) (by lia) (by lia) (by lia) (by lia) (by lia) pb λg2=>?_
    refine⟨_,rfl,?_⟩;have fl2:=zmg (show 0<=d - (e:Int) by lia) j;have fc:=λr hr=>@zes (d - (e:Int)) (by lia) j r hr
    refine⟨by rw[zf];exact small _ (by lia),?_⟩;unfold aJ;refine zhw (λσ=>∃v,σ=[v,some (.int (e:Int))]) (λ_=>true) (λr=>aL ((e:Int)::r)) aL ⟨_,rfl⟩ ?_ ?_
    ·rintro r hr σ ⟨v,rfl⟩;refine⟨_,rfl,⟨_,rfl⟩,by simp only[W,xgb],λ_=>?_⟩;simp only[W,V,aL];have:=(fc r hr).1;refine⟨small _ (by simp),small _ (by simp;lia),trivial,?_⟩;simp
    ·rw[zcn];rw[xbh] at hB;refine⟨_,_,_,rfl,by simp;rfl,rfl,by rw[xbb] at hB ⊢;exact small _ (by lia),?_⟩;have:=hR _ (g++g2) ⟨some (.int e),rfl⟩
     simpa using this
   ·rintro σ g ⟨v,rfl⟩;simp only[W,V,M,Dd.N,L];refine⟨_,_,rfl,by simp;rfl,?_⟩;rw[← e0];have:=k (.dead::g)
    simpa using this
noncomputable def twos (i:Nat):List Int:=(List.range i).map λt=>((2 ^ t:Nat):Int)
structure Enough (d:Int) (i:Nat):Prop where
 low:∀t,t < i->2 * ((2 ^ t:Nat):Int)<=d
 top:d < 2 * ((2 ^ i:Nat):Int)
theorem zbev    (h0:0<=d)(hd:d<=1000)(k:∀i g,Enough d i->Q (.lst ((twos i).map .int)) (au++g)):WP (zcp [.int d] au) Q:=by
 refine zey rfl ?_;simp only[W,V];refine⟨small _ (by simp),?_⟩;refine zoe (λm σ s=>∃i:Nat,m=(d+1 - ((2 ^ i:Nat):Int)).toNat/\σ=[some (.int d),some (.ref au.length),some (.int ((2 ^ i:Nat):Int))]/\s=au++[.lst ((twos i).map .int)]/\∀t,t < i->2 * ((2 ^ t:Nat):Int)<=d) (k:=(d+1 - ((2 ^ 0:Nat):Int)).toNat)
  ⟨0,rfl,rfl,by simp[twos],λt ht=>absurd ht (by lia)⟩ (by lia) ?_
 rintro m σ s ⟨i,hm,rfl,rfl,low⟩;have p0:1<=2 ^ i:=xmi;have p1:2 ^ (i+1)=2 * 2 ^ i:=by rw[xlt];lia
 simp only[W,V];refine⟨.inl ⟨by decide,by decide⟩,trivial,?_⟩;by_cases c:2 * ((2 ^ i:Nat):Int)<=d
 ·rw[if_pos c];have hi:i < 1000:=by
   have:i < 2 ^ i:=Nat.lt_two_pow_self;lia
  unfold zeb;simp only[W,V,M,Dd.N,L];refine⟨_,_,rfl,by simp;rfl,_,_,rfl,by simp;rfl,?_,?_⟩
  ·rw[xbb];unfold twos;rw[xbb,xev];exact small17 (by lia)
  ·refine⟨.inl ⟨by decide,by decide⟩,(d+1 - ((2 ^ (i+1):Nat):Int)).toNat,by lia,i+1,rfl,by rw[p1];simp,?_,λt ht=>?_⟩
   ·unfold twos;rw[xit];simp
   ·by_cases z:t=i
    ·rw[z];exact c
    ·exact low t (by lia)
 ·rw[if_neg c];simp only[W,V,M,Dd.N,L];refine⟨_,_,rfl,by simp;rfl,?_⟩;have:=k i [.dead] ⟨low,by lia⟩
  simpa using this
section
def srcs (d:Int) (m i:Nat):List (Int×Row):=(twos i).flatMap λk=>(allL (d - k) m).map λp=>(k,p)
def srcD (p:Int×Row):D:=.tup [.int p.1,aL p.2]
structure Fit (m:Nat) (d:Int):Prop where
 m9:m<=9
 d0:0<=d
 d24:d<=24
 few:(d.toNat+1) ^ m<=100000
 ten:2 < m->d<=10
theorem Fit.less   (h:Fit m d)(h0:0<=k)(hk:k<=d):Fit m (d - k):=⟨h.m9,by lia,by have:=h.d24;lia,xbc (xil (by have:=h.d0;lia) _) h.few,λz=>by have:=h.ten z;lia⟩
theorem Fit.len   (h:Fit m d):(allL d m).length<=100000:=xbc (zmg h.d0 m) h.few
theorem Enough.few   (h:Enough d i)(hd:d<=24):i<=4:=by
 rcases xgl 4 i with z | z
 ·have:=h.low 4 z;lia
 ·exact z
theorem zit   (h:Enough d i)(hk:k∈twos i):∃t,k=((2 ^ t:Nat):Int)/\2 * k<=d/\1<=k:=by
 unfold twos at hk;obtain⟨t,ht,rfl⟩:=xbp.mp hk;have:1<=2 ^ t:=xmi;exact⟨t,rfl,h.low t (xby.mp ht),by lia⟩
theorem zok   (h:Fit m d):∀{ks:List Int},(∀k∈ks,0<=k/\k<=d)->(ks.flatMap λk=>(allL (d - k) m).map λp=>(k,p)).length<=ks.length * 100000
 | [],_=>xbg _
 | k::ks,hk=>by
  rw[xky,xbh,xbb,xcc];have a:=(h.less (hk k (xbq ..)).1 (hk k (xbq ..)).2).len;have b:=zok h (ks:=ks) λx hx=>hk x (xbo _ hx)
  lia
theorem zgx {N d:Int}{m:Nat}(hN:N=(m:Int)+1)(h:Fit m d)(k:∀i g,Enough d i->Q (.lst ((srcs d m i).map srcD)) (au++g)):WP (zbt [.int N,.int d] au) Q:=by
 have h24:=h.d24;have hd0:=h.d0;refine zey rfl ?_;simp only[W,V];refine⟨small _ (by simp),?_⟩;refine zbev h.d0 (by lia) λi g0 en=>?_
 have i4:=en.few h24;simp only[Dd.N];have e0:(srcs d m i).map srcD=(twos i).flatMap λk=>(allL (d - k) m).map λp=>srcD (k,p):=by
  unfold srcs;rw[xjv];simp only[xcv];rfl
 rw[xck];refine Tab.wp_grow (λk:Int=>.int k) (λk=>(allL (d - k) m).map λp=>srcD (k,p)) (λσ=>∃v,σ=[some (.int N),some (.int d),some (.ref au.length),v]) 500000 (acc:=[]) (g:=g0) ⟨_,rfl⟩ ?_ ?_ ?_
 ·rw[xiv,← e0,xbb];have:=zok h (ks:=twos i) λk hk=>by obtain⟨t,_,a,b⟩:=zit en hk;lia
  have l:(twos i).length=i:=by unfold twos;simp
  rw[l] at this;unfold srcs;lia
 ·rintro k hk σ acc g ⟨v,rfl⟩ hB;obtain⟨t,_,a,b⟩:=zit en hk;have hf:=h.less (k:=k) (by lia) (by lia);refine⟨_,rfl,λR hR=>?_⟩;unfold zcv;simp only[W,V,zfz];refine⟨_,_,rfl,by simp;rfl,?_⟩;refine⟨trivial,zbiz 9 m (d:=d - k) (N:=N) hf.m9 (by have:=hf.m9;lia) hN hf.d0 (by lia) hf.few λg2=>?_⟩;refine⟨_,rfl,by rw[zf];exact small _ (by have:=hf.len;lia),?_⟩;unfold aJ;refine zhw (λσ=>∃v,σ=[v,some (.int k)]) (λ_=>true) (λr=>srcD (k,r)) aL ⟨_,rfl⟩ ?_ ?_
  ·rintro r hr σ ⟨v,rfl⟩;refine⟨_,rfl,⟨_,rfl⟩,by simp only[W,xgb],λ_=>?_⟩;simp only[W,V];exact⟨small _ (by simp),trivial,rfl⟩
  ·rw[zcn];rw[xbh] at hB;refine⟨_,_,_,rfl,by simp;rfl,rfl,by rw[xbb] at hB ⊢;exact small _ (by lia),?_⟩;have:=hR _ (g++g2) ⟨some (.int k),rfl⟩
   simpa using this
 ·rintro σ g ⟨v,rfl⟩;simp only[W,V,M,Dd.N,L];refine⟨_,_,rfl,by simp;rfl,?_⟩;rw[← e0];have:=k i (.dead::g) en
  simpa using this
structure Plc (AL:List Row) (i:Nat) (kvs:List (Row×D)):Prop where
 val:∀r,valD kvs r=if AL.idxOf r < i then some (.int (AL.idxOf r:Int)) else none
 len:kvs.length<=i
theorem zbqm {AL:List Row}(nd:AL.Nodup)   (h:AL[i]?=some r)(x:Row):AL.idxOf x=i↔x=r:=by
 obtain⟨hi,e⟩:=xbj.mp h;constructor
 ·intro q;have:AL.idxOf x < AL.length:=by lia
  have:=xml this;rw[← this,← e];simp only[q]
 ·intro q;rw[q,← e];exact List.Nodup.idxOf_getElem nd i hi
theorem Plc.put {AL:List Row}(nd:AL.Nodup)    (h:Plc AL i kvs)(hr:AL[i]?=some r):Plc AL (i+1) (putD kvs r (.int (0+(i:Int)))):=⟨λx=>by
 rw[zbdq,h.val x];have q:=zbqm nd hr x;by_cases c:x=r
 ·rw[if_pos c,q.mpr c,if_pos (by lia),xhk]
 ·rw[if_neg c];have:AL.idxOf x≠i:=λz=>c (q.mp z)
  by_cases d:AL.idxOf x < i
  ·rw[if_pos d,if_pos (by lia)]
  ·rw[if_neg d,if_neg (by lia)],xbc zbee (by have:=h.len;lia)⟩
theorem Plc.at   (h:Plc AL AL.length kvs)  (hr:r∈AL):valD kvs r=some (.int (AL.idxOf r:Int)):=by
 rw[h.val,if_pos (xgk hr)]
theorem zyw {au:Store}{AL:List Row}(nd:AL.Nodup)(hl:AL.length<=100000)(k:∀kvs,Plc AL AL.length kvs->Q (.ref au.length) (au++[.dT kvs])):WP (zfh [.lst (aJ AL)] au) Q:=by
 refine zey rfl ?_;simp only[W,V];refine zbdo ?_;simp only[W,V];refine⟨_,rfl,?_⟩;refine zcy (λi σ s=>(∃v w,σ=[some (.lst (aJ AL)),some (.ref au.length),v,w])/\∃kvs,s=au++[.dT kvs]/\Plc AL i kvs) ⟨⟨_,_,rfl⟩,[],rfl,λr=>(by rw[if_neg (by lia)];rfl),xbg _⟩ ?_ ?_
 ·rintro i x σ s hx ⟨⟨v,w,rfl⟩,kvs,rfl,pl⟩;obtain⟨y,hy,rfl⟩:=zjc hx;obtain⟨r,hr,rfl⟩:=zcf hy;have hi:i < AL.length:=(xbj.mp hr).1;refine⟨_,rfl,?_⟩;unfold zgn;refine zbht ?_;simp only[W,V,L];exact⟨_,_,_,rfl,rfl,by simp;rfl,small17 (by have:=pl.len;lia),⟨_,_,rfl⟩,_,by simp,pl.put nd hr⟩
 ·rintro σ s ⟨⟨v,w,rfl⟩,kvs,rfl,pl⟩;rw[zfa,zf] at pl;simp only[W,V];exact k kvs pl
theorem zpa {l:List Row}   (nd:l.Nodup)(h:l[i]?=some r):r∉l.take i:=λhm=>by
 have n:=nd.sublist (xkt (i+1) l);rw[zj h] at n;exact(xjj.mp n).2.2 r hm r (by simp) rfl
theorem zjv {l:List Row}   (hp:au[n]?=some (.dT kvs))(pl:Plc AL AL.length kvs)(hl:AL.length<=100000)(nd:l.Nodup)(hm:∀x∈l,x∈AL)(q:Q (.int (xr l (pw AL):Nat)) au):WP (zcs [.ref n,aK l] au) Q:=by
 refine zey rfl ?_;simp only[W,V,Dd.N];refine zcy (λi σ s=>(∃v,σ=[some (.ref n),some (aK l),some (.int (xr (l.take i) (pw AL):Nat)),v])/\s=au) ⟨⟨_,rfl⟩,rfl⟩ ?_ ?_
 ·rintro i x σ s hx ⟨⟨v,rfl⟩,rfl⟩;obtain⟨r,hr,rfl⟩:=zcf hx;have hrm:=xcb hr;have hix:=xgk (hm r hrm);refine⟨_,rfl,?_⟩;unfold zgr;simp only[W,V];rw[zuz (zlg hp) (pl.at (hm r hrm))];simp only[W,V,L];refine⟨⟨by lia,by lia,by decide⟩,trivial,⟨some (aL r),?_⟩,trivial⟩;have nw:=zbkg (AL:=AL) (l:=l.take i) (r:=r) (λx hx=>hm x (xfj hx)) (hm r hrm) (zpa nd hr);rw[show(1:Int) * 2 ^ (AL.idxOf r:Int).toNat=((2 ^ AL.idxOf r:Nat):Int) by rw[Int.one_mul,xea];simp,zrk,nw.2,← zj hr]
 ·rintro σ s ⟨⟨v,rfl⟩,rfl⟩;rw[zf,xch];simp only[W,V];exact q
end
section
theorem len59   (h:au[m]?=some (.lst xs)):bLen [.ref m] au=.ok (.int xs.length) au:=by
 unfold bLen;dsimp only;rw[show seqOf au (.ref m)=some xs from zkw h]
theorem Fit.box   (h:Fit m d){p:Row}(f1:p.length=m+1)(f2:Nn p)(f3:p.sum<=d):Dd.box p<=20000:=by
 have h24:=h.d24;have x24:∀x∈p,x<=24:=λx hx=>by have:=zbkh f2 x hx;lia
 by_cases c:m<=2
 ·have b1:=zbdd x24;rw[f1] at b1;have b2:25 ^ (m+1)<=25 ^ 3:=xfl (by lia) (by lia);lia
 ·have t:=h.ten (by lia);have b1:=zwt f2;have b2:2 ^ p.sum.toNat<=2 ^ 10:=xfl (by lia) (by lia);lia
theorem zui    (h0:0<=k)(hp:Mon (m+1) (d - k) p)(hx:x∈aO (raiseL k [p])):x∈allL d m:=by
 have h1:=zcd hx;rw[show raiseL k [p]=raiseR k p by unfold raiseL;simp,zeg hp.nn h0] at h1;obtain⟨a,b⟩:=xdy.mp h1;exact zjx ((zez hp.nn x a).2.trans hp.len) (zio p hp.nn x a) (by rw[xcr b,hp.sum];lia)
theorem zxf   (h0:0<=d)  (h:p∈allL d m):Mon (m+1) d p:=by
 obtain⟨a,b,c⟩:=zes h0 h;exact⟨a,b,c⟩
end
section
end
end Dd
namespace Dd
open PySem L2
noncomputable def Sh (n:Nat) (d:D):Prop:=∃p,toData d=some p/\p.canLay0=true/\p.depth<=n
theorem Sh.int  :Sh n (.int i):=⟨_,rfl,rfl,xdu _⟩
theorem Sh.str   (h:(PyData.str x).canLay0=true):Sh n (.str x):=⟨_,rfl,h,xdu _⟩
theorem Sh.all :∀{ds:List D},(∀d∈ds,Sh n d)->∃ps,toDatas ds=some ps/\PyData.canLayAll0 ps=true/\PyData.depthAll ps<=n
 | [],_=>⟨[],rfl,rfl,xdu _⟩
 | d::ds,h=>by
  obtain⟨p,e,h1,h2⟩:=h d (by simp);obtain⟨ps,es,h3,h4⟩:=Sh.all (ds:=ds) λx hx=>h x (by simp[hx])
  refine⟨p::ps,by rw[toDatas,e,es];rfl,?_,?_⟩
  ·show(p.canLay0&&PyData.canLayAll0 ps)=true;rw[h1,h3];rfl
  ·show max p.depth (PyData.depthAll ps)<=n;lia
theorem Sh.tup   (h:∀d∈ds,Sh n d):Sh (n+1) (.tup ds):=by
 obtain⟨ps,e,h1,h2⟩:=Sh.all h;exact⟨.tuple ps,by rw[toData,e];rfl,h1,xfi h2⟩
theorem Sh.mono  (h:n<=m)  (s:Sh n d):Sh m d:=by
 obtain⟨p,e,h1,h2⟩:=s;exact⟨p,e,h1,xbc h2 h⟩
theorem Sh.row  :Sh (n+1) (aL r):=Sh.tup λd hd=>by
 obtain⟨x,_,rfl⟩:=xbp.mp hd;exact .int
theorem Sh.sum  :Sh (n+2) (aK l):=Sh.tup λd hd=>by
 obtain⟨x,_,rfl⟩:=xbp.mp (show d∈aJ l from hd);exact .row
theorem Sh.ok   (e:toData d=some p)(h1:p.canLay0=true)(h2:p.depth<=64):PySem.SeqAt.shaped p=true/\PyData.eqv p p=true:=by
 refine⟨?_,PySem.SeqAt.eqv_refl p h1⟩;show(p.canLay0&&decide (p.depth<=64))=true;rw[h1,xbw h2];rfl
theorem zjk    (hx:now au x=d)(hy:now au y=d)(h:Sh 64 d):oEqG neg x y au=.ok (.bl (!neg)) au:=by
 obtain⟨p,e,h1,h2⟩:=h;obtain⟨s1,s2⟩:=Sh.ok e h1 h2;unfold oEqG dataOf;rw[hx,hy,e];dsimp only;rw[if_pos ⟨s1,s1⟩,s2];cases neg<;>rfl
end Dd
namespace Dd
open PySem L2 K13
section
theorem zbfz:(List.range 10).all (λi=>(List.range 25).all λd=>decide ((d:Int)<=mostD ((i:Int)+1)->cntP (d:Int) i<=200))=true:=by decide +kernel
theorem zbdv:(List.range 10).all (λi=>decide (2 < i->mostD ((i:Int)+1)<=10))=true:=by decide +kernel
theorem zbga {N d:Int}(h1:1<=N)(h2:N<=10)(d0:0<=d)(hd:d<=mostD N):cntP d (N - 1).toNat<=200/\Fit (N - 1).toNat d:=by
 obtain⟨f1,f2,f3⟩:=zgf h1 h2;have d24:d<=24:=by split at f2<;>lia
 obtain⟨i,hi⟩:∃i:Nat,N=(i:Int)+1:=⟨(N - 1).toNat,by lia⟩
 obtain⟨e,rfl⟩:=xgf d0;have hi2:(N - 1).toNat=i:=by lia
 rw[hi2];have a:=xcr (xcu.mp (xcu.mp zbfz i (xby.mpr (by lia))) e (xby.mpr (by lia)));have b:=xcr (xcu.mp zbdv i (xby.mpr (by lia)));rw[← hi] at a b;refine⟨a hd,by lia,by lia,by lia,?_,λz=>by have:=b z;lia⟩;rw[hi2] at f3;exact xbc (xil (by lia) _) f3
end
end Dd
namespace K59
end K59
namespace Dd
open PySem L2 K13
section
abbrev gv (f:Row->Nat) (p:Int×Row):Nat:=T p.1 f p.2
def ux (f:Row->Nat) (so:List (Int×Row)) (u:Nat):Nat:=xr (List.range so.length) λj=>if u.testBit j=true then gv f (so.getD j (0,[])) else 0
theorem zbib (f:Row->Nat)(so:List (Int×Row)):ux f so 0=0:=by
 unfold ux;rw[zm (g:=λ_=>0) λj _=>by rw[xng];rfl,zfx]
theorem zbic (so:List (Int×Row))(u w:Nat):ux f so (u ^^^ w)=ux f so u ^^^ ux f so w:=by
 unfold ux;rw[← zim];exact zm λj _=>by rw[xiz,xif]
theorem zbbj {so:List (Int×Row)}  (h:u < 2 ^ so.length)(p:Int×Row):ux f (so++[p]) u=ux f so u:=by
 unfold ux;rw[xbh,show so.length+[p].length=so.length+1 from rfl,zxo,xhe h,if_neg (by decide),xer];refine zm λj hj=>?_
 have:=xby.mp hj;rw[xbi,xbi,xcg this]
theorem zbid {so:List (Int×Row)}  (h:u < 2 ^ so.length)(p:Int×Row):ux f (so++[p]) (u ||| 2 ^ so.length)=ux f so u ^^^ gv f p/\u ||| 2 ^ so.length < 2 ^ (so++[p]).length:=by
 have z:=zbdi (xhe h);obtain⟨o1,o2⟩:=orx u (2 ^ so.length);have e:u ||| 2 ^ so.length=u ^^^ 2 ^ so.length:=by lia
 refine⟨?_,?_⟩
 ·rw[e,zbic,zbbj h]
  congr 1
  unfold ux;rw[xbh,show so.length+[p].length=so.length+1 from rfl,zpv (k:=so.length) (by lia) λj hj=>?_]
  ·rw[Nat.testBit_two_pow_self,if_pos rfl,xbi,xdk (xbg _),xki];rfl
  ·rw[xik,xbz (by lia)];rfl
 ·rw[xbh,show so.length+[p].length=so.length+1 from rfl,xlt];lia
structure PRepU (f:Row->Nat) (so:List (Int×Row)) (A:Tab) (kvs:List (Int×D)):Prop where
 yes:∀k v,A k=some v->∃u:Nat,valI kvs k=some (.tup [.int (v:Nat),.int (u:Nat)])/\v=ux f so u/\u < 2 ^ so.length
 no:∀k:Nat,A k=none->valI kvs k=none
theorem PRepU.is    (h:PRepU f so A kvs)(k:Nat):(valI kvs k).isSome=(A k).isSome:=by
 cases e:A k with
 | none=>rw[h.no k e];rfl
 | some v=>obtain⟨u,z,_⟩:=h.yes k v e;rw[z];rfl
theorem PRepU.put    (h:PRepU f so A kvs)(k v u:Nat)(p:Int×Row)(hv:v=ux f so u ^^^ gv f p)(hu:u < 2 ^ so.length):PRepU f (so++[p]) (setT A k v) (putI kvs k (.tup [.int (v:Nat),.int ((u ||| 2 ^ so.length:Nat):Int)])):=⟨λj w e=>by
 unfold setT at e;rw[zti];by_cases c:j=k
 ·rw[if_pos c] at e;cases e;rw[if_pos (by rw[c])];exact⟨_,rfl,by rw[(zbid hu p).1,hv],(zbid (f:=f) hu p).2⟩
 ·rw[if_neg c] at e;rw[if_neg (by lia)]
  obtain⟨u,a,b,c⟩:=h.yes j w e;refine⟨u,a,by rw[zbbj c,b],?_⟩;rw[xbh];exact xbk c (xfl (by decide) (by lia)),λj e=>by
 unfold setT at e;rw[zti];by_cases c:j=k
 ·rw[if_pos c] at e;cases e
 ·rw[if_neg c] at e;rw[if_neg (by lia)];exact h.no j e⟩
theorem zjg {N x n:Nat}   {gs:List Nat}  (hn:au[n]?=some (.dI kvs))(rp:PRepU f so A kvs)(ld:Lds N A gs)(hx:bl x<=N)(hN:N<=100000)
  (k:∀y u:Nat,Less N A x y->(y≠0->A (bl y)=none)->x ^^^ y=ux f so u->u < 2 ^ so.length->Q (.tup [.int (y:Nat),.int (u:Nat)]) au):WP (zdq [.ref n,.int (x:Nat)] au) Q:=by
 refine zey rfl ?_;simp only[W,V];refine zoe (λm σ s=>∃(y u:Nat) (v:Option D),m=bl y/\σ=[some (.ref n),some (.int (y:Nat)),some (.int (u:Nat)),v]/\s=au/\Less N A x y/\x ^^^ y=ux f so u/\u < 2 ^ so.length) (k:=bl x) ⟨x,0,_,rfl,rfl,rfl,.refl hx,by rw[xfy,zbib],xnm _⟩ (by lia) ?_;rintro m σ s ⟨y,u,v,rfl,rfl,rfl,ls,ex,ul⟩;simp only[W,V];refine⟨_,rfl,?_⟩;by_cases c:y=0
 ·subst c;rw[show(((0:Nat):Int) != 0)=false from rfl,if_neg (by decide)];exact⟨small _ (by simp),k 0 u ls (λz=>absurd rfl z) ex ul⟩
 ·rw[show(((y:Nat):Int) != 0)=true by simp[c],if_pos rfl,ztf];simp only[W,V,zpp];rw[zhe,zbql hn];simp only[W,V,rp.is,xco,xec];cases e:A (bl y) with
  | none =>
   simp only[Option.isSome_none,xco,xec,W,V];exact⟨small _ (by simp),k y u ls (λ_=>e) ex ul⟩
  | some w =>
   simp only[Option.isSome_some,xeu];obtain⟨u',hu,hw,ul'⟩:=rp.yes _ _ e;obtain⟨l2,l3⟩:=ls.step ld c e;unfold zhv;simp only[W,V,ztf,zpp];rw[zhe,zbch hn hu];simp only[W,V,M,Dd.N,L];refine zdt rfl rfl ?_;simp only[W,V];rw[zjt];refine⟨trivial,zdt rfl rfl ?_⟩;simp only[W,V];rw[zjt];exact⟨trivial,_,l3,_,_,_,rfl,rfl,trivial,l2,by rw[← xds,ex,zbic,← hw],xmj ul ul'⟩
theorem zoc {N d:Int}{m n:Nat}  (hN:N=(m:Int)+1)(h:Fit m d)(hp:au[n]?=some (.dT pk))(pl:Plc (allL d m) (allL d m).length pk)
  (k:∀kvs so g A i,Enough d i->PRepU (pw (allL d m)) so A kvs->(∀p∈so,p∈srcs d m i)->so.length<=400000->Lds (allL d m).length A ((srcs d m i).map (gv (pw (allL d m))))->Q (.tup [.ref au.length,.lst (so.map srcD)]) (au++.dI kvs::.dead::g)):WP (zfj [.int N,.int d,.ref n] au) Q:=by
 have hl:=h.len;have h24:=h.d24;refine zey rfl ?_;simp only[W,V,zte];refine⟨small _ (by simp),?_⟩;refine zgx hN h λi g0 en=>?_
 simp only[Dd.N];have i4:=en.few h24;have sl:(srcs d m i).length<=400000:=by
  have:=zok h (ks:=twos i) λk hk=>by obtain⟨t,_,a,b⟩:=zit en hk;lia
  have l:(twos i).length=i:=by unfold twos;simp
  rw[l] at this;unfold srcs;lia
 have mem:∀p∈srcs d m i,1<=p.1/\2 * p.1<=d/\Mon (m+1) (d - p.1) p.2:=λp hp=>by
  unfold srcs at hp;obtain⟨k,hk,hp⟩:=xei.mp hp;obtain⟨r,hr,rfl⟩:=xbp.mp hp;obtain⟨t,_,a,b⟩:=zit en hk;exact⟨b,a,zxf (by lia) hr⟩
 have k:=λkvs so g A=>k kvs so g A i en
 generalize srcs d m i=ss at sl mem k ⊢;generalize hAL:allL d m=AL at *
 refine zcy (λj σ s=>(∃v5 v6 v7,σ=[some (.int N),some (.int d),some (.ref n),some (.ref au.length),some (.ref (au.length+1)),v5,v6,v7])/\∃kvs so g A,s=au++.dI kvs::.lst (so.map srcD)::g/\kvs.length<=j/\so.length<=j/\(∀p∈so,p∈ss)/\PRepU (pw AL) so A kvs/\Lds AL.length A ((ss.take j).map (gv (pw AL))))
  ⟨⟨none,none,none,by simp⟩,[],[],g0,λ_=>none,by simp,xbg _,xbg _,λp hp=>absurd hp (by simp),⟨(λ_ _ e=>nomatch e),λ_ _=>rfl⟩,Lds.nil _⟩ ?_ ?_
 ·rintro j x σ s hx ⟨⟨v5,v6,v7,rfl⟩,kvs,so,g,A,rfl,hk,hs,sm,rp,ld⟩;obtain⟨p,hpj,rfl⟩:=zhn hx;obtain⟨p1,p2,p3⟩:=mem p (xcb hpj);have hj:j < ss.length:=(xbj.mp hpj).1;refine⟨_,rfl,?_⟩;unfold zgs;simp only[W,V];refine⟨small _ (by simp),?_⟩;have one:∀{P:Row->Prop},P p.2->∀r∈[p.2],P r:=λh r hr=>by simp at hr;subst hr;exact h
  have hsum:=p3.sum;refine zys (l:=[p.2]) (by lia) (one λx hx=>⟨p3.nn x hx,by have:=zbkh p3.nn x hx;lia⟩) (one (by have:=p3.len;have:=h.m9;lia)) (one (h.box p3.len p3.nn (by lia))) (by simp) λg2=>?_
  have inn:∀x∈aO (raiseL p.1 [p.2]),x∈AL:=λx hx=>by rw[← hAL];exact zui (by lia) p3 hx
  have hn:n < au.length:=(xbj.mp hp).1;have hp':((au++.dI kvs::.lst (so.map srcD)::g)++g2)[n]?=some (.dT pk):=by rw[xck,xcg hn];exact hp
  refine zjv hp' pl hl (zei _) inn ?_;have hb:=zta.mpr (zbnr (λx hx=>pw_lt (inn x hx)):xr (aO (raiseL p.1 [p.2])) (pw AL) < 2 ^ AL.length);rw[zbdk (by lia) p3.nn] at hb ⊢;refine zjg (kvs:=kvs) (by simp) rp ld hb hl λy u ls hy ex ul=>?_
  refine zdt rfl rfl ⟨_,rfl,?_⟩;by_cases c:y=0
  ·subst c;rw[show(((0:Nat):Int) != 0)=false from rfl,if_neg (by decide)];simp only[L];refine⟨⟨_,_,_,rfl⟩,kvs,so,g++g2,A,by simp,by lia,by lia,sm,rp,?_⟩;rw[zj hpj,xdw];exact ld.keep ls
  ·rw[show(((y:Nat):Int) != 0)=true by simp[c],if_pos rfl];refine zbhs ?_;simp only[W,V,M,Dd.N,ztf];refine zdt rfl rfl ?_;refine zdt rfl rfl ?_;have e1:((au++.dI kvs::.lst (so.map srcD)::g)++g2)[au.length+1]?=some (.lst (so.map srcD)):=by simp
   rw[len59 e1,xbb];simp only[W,V];refine⟨⟨by lia,by lia,by decide⟩,trivial,small _ (by simp),zdt rfl rfl ?_⟩;rw[zpp,zhe,show(1:Int) * 2 ^ (so.length:Int).toNat=((2 ^ so.length:Nat):Int) by rw[Int.one_mul,xea];simp,zrk];refine⟨_,_,kvs,rfl,rfl,by simp,small17 (by lia),_,_,rfl,by simp;rfl,?_⟩;simp only[W,V,M,Dd.N,L];have val:y=ux (pw AL) so u ^^^ gv (pw AL) p:=by rw[← ex,Nat.xor_comm (T p.1 (pw AL) p.2),xds,xfy,xer]
   refine⟨small _ (by simp),_,so.map srcD,rfl,by simp,small17 (by rw[xbb];lia),⟨_,_,_,rfl⟩,putI kvs (bl y:Nat) _,so++[p],g++g2,setT A (bl y) y,by simp;rfl,xbc zbed (by lia),by simp;lia,λq hq=>?_,rp.put (bl y) y u p val ul,?_⟩
   ·rcases xbx.mp hq with z | z
    ·exact sm q z
    ·rw[xbt.mp z];exact xcb hpj
   ·rw[zj hpj,xdw];exact ld.put ls c (hy c)
 ·rintro σ s ⟨⟨v5,v6,v7,rfl⟩,kvs,so,g,A,rfl,hk,hs,sm,rp,ld⟩;rw[xbb,xch] at ld;rw[xbb] at hs;simp only[W,V,M,Dd.N,L];refine⟨_,_,rfl,by simp;rfl,small _ (by simp),?_⟩;have:=k kvs so g A rp sm (by lia) ld
  simpa using this
end
end Dd
namespace Dd
open PySem L2 K07 K23
section
theorem zty {L:Nat}{k:Int}(hf:f σ au=.ok (.ref L) au)(h0:au[L]?=some (.dI kv0))(hg:g σ au=.ok [.int k,d] st2)(h1:st2[L]?=some (.dI kvs))(hl:kvs.length < sizeLine)(hv:valI kvs k=some v):eSetDI f g σ au=.ok v st2:=by
 unfold eSetDI;rw[hf,zdm];dsimp only;rw[h0];dsimp only;rw[hg,zdm]
 try dsimp only
 rw[h1]
 try dsimp only
 rw[if_pos hl,hv]
theorem ztz {L:Nat}{k:Int}(hf:f σ au=.ok (.ref L) au)(h0:au[L]?=some (.dI kv0))(hg:g σ au=.ok [.int k,d] st2)(h1:st2[L]?=some (.dI kvs))(hl:kvs.length < sizeLine)(hv:valI kvs k=none):eSetDI f g σ au=.ok d (st2.set L (.dI (putI kvs k d))):=by
 unfold eSetDI;rw[hf,zdm];dsimp only;rw[h0];dsimp only;rw[hg,zdm]
 try dsimp only
 rw[h1]
 try dsimp only
 rw[if_pos hl,hv]
end
theorem zbfd {α β:Type}{f:α->β}:∀{l:List α},(l.map f).Nodup->∀{x y:α},x∈l->y∈l->f x=f y->x=y
 | [],_,x,y,hx,_,_=>by cases hx
 | a::l,nd,x,y,hx,hy,e=>by
  rw[xbs,xem] at nd;rcases xbm.mp hx with h1 | h1
  ·rcases xbm.mp hy with h2 | h2
   ·rw[h1,h2]
   ·exact absurd (xbp.mpr ⟨y,h2,by rw[← e,h1]⟩) nd.1
  ·rcases xbm.mp hy with h2 | h2
   ·exact absurd (xbp.mpr ⟨x,h1,by rw[e,h2]⟩) nd.1
   ·exact zbfd nd.2 h1 h2 e
end Dd
namespace Dd
open PySem L2 K13
section
theorem zzz {N:Int}{r:Row}(hN:(r.length:Int)=N)(hl:r.length<=1000)(nn:Nn r)(q:Q (.bl true) au):WP (zea [.int N,aL r] au) Q:=by
 refine zey rfl ?_;simp only[W,V];refine WP.of (show bIsinst [aL r,.ty "tuple"] au=.ok (.bl true) au from rfl) ⟨true,rfl,?_⟩
 have e1:((r.map D.int).length:Int)=N:=by rw[xbb];exact hN
 unfold aL;simp only[W,V,e1];refine⟨_,rfl,by rw[xbb];exact small _ (by lia),?_⟩;refine zhw (as:=r) (λσ=>∃v,σ=[v]) (λ_=>true) (λx=>.bl (decide (0<=x))) .int ⟨_,rfl⟩ ?_ ?_
 ·rintro x hx σ ⟨v,rfl⟩;refine⟨_,rfl,⟨_,rfl⟩,by simp only[W,xgb],λ_=>?_⟩;simp only[W,V];exact WP.of (zcr (au:=au) (i:=x)) (by simp only[W,V,xgb])
 ·rw[zcn];simp only[M,W,V];refine⟨_,zdn _ _,?_⟩;rw[List.all_map,show(r.all (id ∘ λx=>decide (0<=x)))=true from xcu.mpr λx hx=>xbw (nn x hx)];exact q
theorem ztq {N:Int}  (h:∀r∈l,(r.length:Int)=N/\Nn r)(hN:N<=100)(hl:l.length<=1000000)(k:∀g,Q (aK (aO l)) (au++g)):WP (zij [.int N,.lst (aJ l)] au) Q:=by
 refine zey rfl ?_;simp only[W,V];refine zbdo ?_;simp only[W,V];refine⟨_,rfl,?_⟩;refine zcy (λi σ s=>s=au/\∃v w,σ=[some (.int N),some (.lst (aJ l)),v,w]) ⟨rfl,_,_,rfl⟩ ?_ ?_
 ·rintro i x σ s hx ⟨rfl,v,w,rfl⟩;obtain⟨y,hy,rfl⟩:=zjc hx;obtain⟨r,hr,rfl⟩:=zcf hy;obtain⟨h1,h2⟩:=h r (xcb hr);refine⟨_,rfl,?_⟩;unfold zht;simp only[W,V];refine zzz h1 (by lia) h2 ⟨true,rfl,?_⟩;simp only[W,V,L,xjz,xco,xec];exact⟨trivial,_,_,rfl⟩
 ·rintro σ s ⟨rfl,v,w,rfl⟩;simp only[W,V];exact zoz rfl hl k
def selP (so:List (Int×Row)) (u j:Nat):List (Int×Row):=((List.range j).filter λi=>u.testBit i).map λi=>so.getD i (0,[])
theorem zyl    (u:Nat)(h:so[j]?=some p):selP so u (j+1)=selP so u j++if u.testBit j=true then[p] else[]:=by
 unfold selP;rw[xit,xfh,xdw]
 congr 1
 by_cases c:u.testBit j=true
 ·rw[if_pos c,xcq c];simp[xbi,h]
 ·rw[if_neg c,xcy c];rfl
theorem zbnu (so:List (Int×Row))(u:Nat):ux f so u=xr (selP so u so.length) (gv f):=by
 unfold ux selP;rw[zrt,zex]
theorem zle {so:List (Int×Row)} :∀{j:Nat},j<=so.length->∀p∈selP so u j,p∈so:=λ{j} hj p hp=>by
 unfold selP at hp;obtain⟨i,hi,rfl⟩:=xbp.mp hp;have:=xby.mp (xdy.mp hi).1;rw[xbi,xbe (by lia),Option.getD_some];exact xda _
def grp (sel:List (Int×Row)) (k:Int):List Row:=(sel.filter λp=>decide (p.1=k)).map (·.2)
theorem zpg (sel:List (Int×Row))(p:Int×Row)(k:Int):grp (sel++[p]) k=grp sel k++if p.1=k then[p.2] else[]:=by
 unfold grp;rw[xfh,xdw]
 congr 1
 by_cases c:p.1=k
 ·rw[if_pos c,xcq (by simpa using c)];rfl
 ·rw[if_neg c,xcy (by simpa using c)];rfl
noncomputable def refD (q:Int×Nat):Int×D:=(q.1,.ref q.2)
structure Grp (s:Store) (b:Nat) (prs:List (Int×Nat)) (sel:List (Int×Row)):Prop where
 keys:(prs.map (·.1)).Nodup
 refs:(prs.map (·.2)).Nodup
 low:∀q∈prs,b < q.2
 at':∀q∈prs,s[q.2]?=some (.lst (aJ (grp sel q.1)))
 has:∀p∈sel,p.1∈prs.map (·.1)
 own:∀q∈prs,∃p∈sel,p.1=q.1
theorem zla :∀{prs:List (Int×Nat)},valI (prs.map refD) k=(prs.find? λq=>decide (q.1=k)).map λq=>D.ref q.2
 | []=>rfl
 | q::prs=>by
  have ih:=zla (k:=k) (prs:=prs);unfold valI at ih ⊢;rw[xbs,xdn,xdn];show Option.map _ (match decide (q.1=k) with | true=>_ | false=>_)=_;by_cases c:q.1=k
  ·simp[c,refD]
  ·simp only[c,xfz];exact ih
theorem zbis   {prs:List (Int×Nat)}(h:k∉prs.map (·.1)):putI (prs.map refD) k (.ref n)=(prs++[(k,n)]).map refD:=by
 unfold putI;rw[if_neg,xdw]
 ·rfl
 ·intro z;obtain⟨x,hx,hk⟩:=xig.mp z;obtain⟨q,hq,rfl⟩:=xbp.mp hx;exact h (xbp.mpr ⟨q,hq,xcr hk⟩)
theorem zjd {s:Store}{n:Nat}{o:O}(h:s[n]?=some o):n < s.length:=(xbj.mp h).1
theorem zbcf {prs:List (Int×Nat)}(nd:(prs.map (·.2)).Nodup)  (hq:q∈prs)(hr:r∈prs)(e:q.2=r.2):q=r:=zbfd nd hq hr e
theorem zvs {prs:List (Int×Nat)}(nd:(prs.map (·.1)).Nodup)  (hq:q∈prs)(hr:r∈prs)(e:q.1=r.1):q=r:=zbfd nd hq hr e
theorem Grp.old {s:Store}{b:Nat}{prs:List (Int×Nat)}{sel:List (Int×Row)}(h:Grp s b prs sel){p:Int×Row}{q:Int×Nat}(hq:q∈prs)(e:q.1=p.1)(x:List O) :
  Grp ((s++x).set q.2 (.lst (aJ (grp sel p.1)++[aL p.2]))) b prs (sel++[p]):=by
 refine⟨h.keys,h.refs,h.low,λr hr=>?_,λp' hp'=>?_,λr hr=>?_⟩
 ·have g:=h.at' r hr;have gl:=zjd g;rw[zpg];by_cases c:r=q
  ·subst c;rw[xdt (by rw[xbh];lia),if_pos e.symm,e];unfold aJ;rw[xdw];rfl
  ·rw[xcm (λz=>c (zbcf h.refs hr hq z.symm)),xcg gl,g,if_neg (λz=>c (zvs h.keys hr hq (z.symm.trans e.symm))),xdm]
 ·rcases xbx.mp hp' with z | z
  ·exact h.has p' z
  ·rw[xbt.mp z,← e];exact xbp.mpr ⟨q,hq,rfl⟩
 ·obtain⟨p',h1,h2⟩:=h.own r hr;exact⟨p',xeb _ h1,h2⟩
theorem Grp.new {s:Store}{b:Nat}{prs:List (Int×Nat)}{sel:List (Int×Row)}(h:Grp s b prs sel){p:Int×Row}(hb:b < s.length)(e:p.1∉prs.map (·.1)){o:O} :
  Grp (((s++[O.lst []]).set b o).set s.length (O.lst [aL p.2])) b (prs++[(p.1,s.length)]) (sel++[p]):=by
 have none:grp sel p.1=[]:=by
  unfold grp;rw[List.filter_eq_nil_iff.mpr λq hq z=>?_];rfl
  have z:q.1=p.1:=xcr z;exact e (z ▸ h.has q hq)
 have ne:∀r∈prs,r.2≠s.length:=λr hr z=>by have:=zjd (h.at' r hr);lia
 refine⟨?_,?_,λr hr=>?_,λr hr=>?_,λp' hp'=>?_,λr hr=>?_⟩
 ·rw[xdw];refine xjj.mpr ⟨h.keys,by simp,λx hx y hy=>?_⟩;rw[xbt.mp hy];intro z;rw[z] at hx;exact e hx
 ·rw[xdw];refine xjj.mpr ⟨h.refs,by simp,λx hx y hy=>?_⟩;obtain⟨r,hr,rfl⟩:=xbp.mp hx;rw[xbt.mp hy];exact ne r hr
 ·rcases xbx.mp hr with z | z
  ·exact h.low r z
  ·rw[xbt.mp z];exact hb
 ·rcases xbx.mp hr with z | z
  ·have g:=h.at' r z;have gl:=zjd g;have lo:=h.low r z;rw[xcm (xcx (ne r z)),xcm (by lia),xcg gl,g,zpg,if_neg (λq=>e (xbp.mpr ⟨r,z,q.symm⟩)),xdm]
  ·rw[xbt.mp z,xdt (by rw[xex,xbh];simp),zpg,if_pos rfl,none];rfl
 ·rw[xdw];rcases xbx.mp hp' with z | z
  ·exact xeb _ (h.has p' z)
  ·rw[xbt.mp z];exact xde _ (by simp)
 ·rcases xbx.mp hr with z | z
  ·obtain⟨p',h1,h2⟩:=h.own r z;exact⟨p',xeb _ h1,h2⟩
  ·rw[xbt.mp z];exact⟨p,by simp,rfl⟩
end
section
theorem zbmx (u j:Nat):(Builtin.bitAnd ((u:Int) / 2 ^ (0+(j:Int)).toNat) 1 != 0)=u.testBit j:=by
 rw[xhk,xea,show((u:Int) / 2 ^ j)=((u / 2 ^ j:Nat):Int) by simp,show(1:Int)=((1:Nat):Int) from rfl,zeq,Nat.and_one_is_mod,Nat.testBit_eq_decide_div_mod_eq];have:u / 2 ^ j % 2=0\/u / 2 ^ j % 2=1:=by lia
 rcases this with h | h<;>rw[h]<;>rfl
theorem zun {N:Int}  {u:Nat}(hk:∀p∈so,p.1∈([1,2,4,8]:List Int))(hl:so.length<=400000)  
  (k:∀v4 v5 prs g,Grp (au++.dI (prs.map refD)::g) au.length prs (selP so u so.length)->QQ (.nx [some (.int N),some (.lst (so.map srcD)),some (.int (u:Nat)),some (.ref au.length),v4,v5]) (au++.dI (prs.map refD)::g)) :
  WP (forF (gT 2 (gsCons (gN 4) (gsCons (gN 5) gsNil))) zeu (numF 0 (so.map srcD)) [some (.int N),some (.lst (so.map srcD)),some (.int (u:Nat)),some (.ref au.length),v4,v5] (au++[.dI []])) QQ:=by
 refine zcy (λj σ s=>(∃v4 v5,σ=[some (.int N),some (.lst (so.map srcD)),some (.int (u:Nat)),some (.ref au.length),v4,v5])/\∃prs g,s=au++.dI (prs.map refD)::g/\Grp s au.length prs (selP so u j)) ⟨⟨_,_,rfl⟩,[],[],rfl,⟨by simp,by simp,by simp,by simp,λp hp=>absurd hp (by simp[selP]),by simp⟩⟩ ?_ ?_
 ·rintro j x σ s hx ⟨⟨v4,v5,rfl⟩,prs,g,hs,gr⟩;obtain⟨y,hy,rfl⟩:=zjc hx;obtain⟨p,hp,rfl⟩:=zhn hy;have hj:j < so.length:=(xbj.mp hp).1;have sn:=zyl u hp;refine⟨_,rfl,?_⟩;unfold zeu;simp only[W,V];refine⟨by lia,trivial,_,rfl,?_⟩;rw[zbmx];by_cases c:u.testBit j=true
  ·rw[if_pos c] at sn ⊢;have hD:s[au.length]?=some (.dI (prs.map refD)):=by rw[hs];simp
   have hlt:=zjd hD;have few:prs.length<=4:=by
    have:=xeg gr.keys (l₂:=([1,2,4,8]:List Int)) λx hx=>by
     obtain⟨q,hq,rfl⟩:=xbp.mp hx;obtain⟨p',h1,h2⟩:=gr.own q hq;rw[← h2];exact hk p' (zle (by lia) p' h1)
    rw[xbb] at this;exact this
   have lenG:(grp (selP so u j) p.1).length<=400000:=by
    unfold grp selP;rw[xbb];refine xbc (xfs _ _) ?_;rw[xbb];refine xbc (xfs _ _) ?_;rw[xev];lia
   simp only[W,V,M,Dd.N];generalize hσ:[some (D.int N),some (D.lst (so.map srcD)),some (D.int (u:Nat)),some (D.ref au.length),some (D.int (0+(j:Int))),some (srcD p)]=σ;have hg:∃ys s',(aB (aS oIx (aA 5) (eC (.int 0))) (aB (eLstM aC) aC)) σ s=.ok ys s'/\ys=[.int p.1,.ref s.length]/\s'=s++[.lst []]:=by
    have:WP ((aB (aS oIx (aA 5) (eC (.int 0))) (aB (eLstM aC) aC)) σ s) (λys s'=>ys=[.int p.1,.ref s.length]/\s'=s++[.lst []]):=by
     rw[← hσ];simp only[W,V];refine zdt rfl rfl ?_;exact⟨small _ (by simp),rfl,rfl⟩
    exact this.get
   obtain⟨_,_,hg,rfl,rfl⟩:=hg;have hD2:(s++[O.lst []])[au.length]?=some (.dI (prs.map refD)):=by rw[xcg hlt];exact hD
   have hv3:aA 3 σ s=.ok (.ref au.length) s:=by rw[← hσ];rfl
   have kl:(prs.map refD).length < sizeLine:=by rw[xbb];exact small17 (by lia)
   by_cases kn:p.1∈prs.map (·.1)
   ·obtain⟨q,hq,eq⟩:=xbp.mp kn;have hv:valI (prs.map refD) p.1=some (.ref q.2):=by
     rw[zla];cases e:prs.find? λq=>decide (q.1=p.1) with
     | none=>exact absurd (xbw eq) (by simpa using xiw.mp e q hq)
     | some r =>
      have h1:=xke e;have h2:r.1=p.1:=by have:=xnl e;simpa using this
      have:r=q:=zvs gr.keys h1 hq (h2.trans eq.symm);rw[this];rfl
    refine WP.of (zty hv3 hD hg hD2 kl hv) ?_;have ga:=gr.at' q hq;have gl:=zjd ga;have ga2:(s++[O.lst []])[q.2]?=some (.lst (aJ (grp (selP so u j) p.1))):=by rw[xcg gl,ga,eq]
    refine⟨_,_,rfl,ga2,zdt rfl rfl ⟨_,_,rfl,ga2,by rw[zf];exact small17 (by lia),?_⟩⟩;simp only[L];rw[← hσ];refine⟨⟨_,_,rfl⟩,prs,(g++[O.lst []]).set (q.2 - au.length - 1) (.lst (aJ (grp (selP so u j) p.1)++[aL p.2])),?_,?_⟩
    ·rw[hs];have lo:=gr.low q hq;obtain⟨z,hz⟩:∃z,q.2=au.length+(z+1):=⟨q.2 - au.length - 1,by lia⟩
     rw[hz,show au.length+(z+1) - au.length - 1=z by lia,xck,xjp _ _ (by lia),show au.length+(z+1) - au.length=z+1 by lia,xju,xmm]
    ·rw[sn];exact gr.old hq eq _
   ·have hv:valI (prs.map refD) p.1=none:=by
     rw[zla,xiw.mpr λq hq z=>kn (xbp.mpr ⟨q,hq,xcr z⟩)];rfl
    refine WP.of (ztz hv3 hD hg hD2 kl hv) ?_;have ga2:((s++[O.lst []]).set au.length (.dI (putI (prs.map refD) p.1 (.ref s.length))))[s.length]?=some (.lst []):=by
     rw[xcm (by lia)];simp
    refine⟨_,_,rfl,ga2,zdt rfl rfl ⟨_,_,rfl,ga2,small17 (by simp),?_⟩⟩;simp only[L];rw[← hσ];refine⟨⟨_,_,rfl⟩,prs++[(p.1,s.length)],(g++[O.lst []]).set (s.length - au.length - 1) (.lst ([]++[aL p.2])),?_,?_⟩
    ·rw[zbis kn];have sl:s.length=au.length+(g.length+1):=by rw[hs];simp
     have e1:(s++[O.lst []]).set au.length (.dI ((prs++[(p.1,s.length)]).map refD))=au++O.dI ((prs++[(p.1,s.length)]).map refD)::(g++[O.lst []]):=by
      generalize O.dI ((prs++[(p.1,s.length)]).map refD)=o;rw[hs];simp
     rw[e1,sl,xjp _ _ (by lia),show au.length+(g.length+1) - au.length=g.length+1 by lia,xmm,show g.length+1 - 1=g.length by lia]
    ·rw[sn];exact gr.new hlt kn
  ·rw[if_neg c] at sn ⊢;rw[xdm] at sn;simp only[W,V,L];exact⟨⟨_,_,rfl⟩,prs,g,hs,by rw[sn];exact gr⟩
 ·rintro σ s ⟨⟨v4,v5,rfl⟩,prs,g,rfl,gr⟩;rw[zfa,xbb] at gr;exact k _ _ _ _ gr
structure Keys (sel:List (Int×Row)) (ks:List Int):Prop where
 nd:ks.Nodup
 has:∀p∈sel,p.1∈ks
 own:∀k∈ks,∃p∈sel,p.1=k
theorem zsb {N:Int}  {u:Nat}(hk:∀p∈so,p.1∈([1,2,4,8]:List Int)/\(p.2.length:Int)=N/\Nn p.2)(hN:N<=100)(hl:so.length<=400000)
  (k:∀ks g,Keys (selP so u so.length) ks->Q (.tup (ks.map λk=>.tup [.int k,aK (aO (grp (selP so u so.length) k))])) (au++g)):WP (zgo [.int N,.lst (so.map srcD),.int (u:Nat)] au) Q:=by
 refine zey rfl ?_;simp only[W,V,zte];refine zbdo ?_;simp only[W,V];refine⟨_,rfl,?_⟩;refine zun (λp hp=>(hk p hp).1) hl λv4 v5 prs g gr=>?_
 simp only[W,V];have few:prs.length<=4:=by
  have:=xeg gr.keys (l₂:=([1,2,4,8]:List Int)) λx hx=>by
   obtain⟨q,hq,rfl⟩:=xbp.mp hx;obtain⟨p',h1,h2⟩:=gr.own q hq;rw[← h2];exact(hk p' (zle (xbg _) p' h1)).1
  rw[xbb] at this;exact this
 have es:bSortDI [.ref au.length] (au++.dI (prs.map refD)::g)=.ok (.lst ((sortI (prs.map (·.1))).map .int)) (au++.dI (prs.map refD)::g):=by
  unfold bSortDI;have:(au++O.dI (prs.map refD)::g)[au.length]?=some (.dI (prs.map refD)):=by simp
  simp only[this];rw[if_pos (by rw[xbb];lia),xcv]
  rfl
 refine WP.of es ⟨_,rfl,?_⟩;have pm:=zga (prs.map (·.1));have ndk:(sortI (prs.map (·.1))).Nodup:=pm.nodup_iff.mpr gr.keys;have kq:∀k∈sortI (prs.map (·.1)),∃q∈prs,q.1=k:=λk hk=>by
  obtain⟨q,hq,e⟩:=xbp.mp (pm.mem_iff.mp hk);exact⟨q,hq,e⟩
 have lk:(sortI (prs.map (·.1))).length=prs.length:=by rw[pm.length_eq,xbb]
 refine⟨by rw[xbb,lk];exact small _ (by lia),?_⟩
 have fin:Keys (selP so u so.length) (sortI (prs.map (·.1))):=⟨ndk,λp hp=>pm.mem_iff.mpr (gr.has p hp),λk hk=>by
  obtain⟨q,hq,e⟩:=kq k hk;obtain⟨p,h1,h2⟩:=gr.own q hq
  exact⟨p,h1,h2.trans e⟩⟩
 generalize sortI (prs.map (·.1))=ks at ndk kq lk fin;refine zbbi (λi acc σ s=>(∃v,σ=[v,some (.int N),some (.ref au.length)])/\(∃g,s=au++.dI (prs.map refD)::g)/\(∀q∈prs,q.1∈ks.drop i->s[q.2]?=some (.lst (aJ (grp (selP so u so.length) q.1))))/\acc=(ks.take i).map λk=>.tup [.int k,aK (aO (grp (selP so u so.length) k))])
  ⟨⟨_,rfl⟩,⟨g,rfl⟩,λq hq _=>gr.at' q hq,rfl⟩ ?_ ?_
 ·rintro i x acc σ s hx ⟨⟨v,rfl⟩,⟨g,rfl⟩,ha,rfl⟩;obtain⟨kk,hkk,rfl⟩:=zhn hx;obtain⟨q,hq,eq⟩:=kq kk (xcb hkk);have hi:i < ks.length:=(xbj.mp hkk).1;have hd:ks.drop i=kk::ks.drop (i+1):=by
   rw[xfr hi];congr 1;exact(xbj.mp hkk).2
  have ga:=ha q hq (by rw[hd,eq];simp);have gl:=zjd ga;refine⟨_,rfl,?_⟩;simp only[W,V];rw[show ∀{f:SE} {σ:DS} {au:Store} {Q:D->Store->Prop},WP (eFz f σ au) Q=WP (f σ au) (λx st1=>∃n xs,x=.ref n/\st1[n]?=some (.lst xs)/\Q (.lst xs) (st1.set n .dead)) from λ{f σ au Q}=>M.2.2.2.1];simp only[W,V];have hv:valI (prs.map refD) kk=some (.ref q.2):=by
   rw[zla];cases e:prs.find? λq=>decide (q.1=kk) with
   | none=>exact absurd (xbw eq) (by simpa using xiw.mp e q hq)
   | some r =>
    have h1:=xke e;have h2:r.1=kk:=by have:=xnl e;simpa using this
    have:r=q:=zvs gr.keys h1 hq (h2.trans eq.symm);rw[this];rfl
  have hD:(au++O.dI (prs.map refD)::g)[au.length]?=some (.dI (prs.map refD)):=by simp
  rw[zbch hD hv];simp only[W,V];refine⟨_,_,rfl,ga,?_⟩;rw[eq];have hg:∀r∈grp (selP so u so.length) kk,(r.length:Int)=N/\Nn r:=λr hr=>by
   unfold grp at hr;obtain⟨p,hp,rfl⟩:=xbp.mp hr;exact(hk p (zle (xbg _) p (xdy.mp hp).1)).2
  have lg:(grp (selP so u so.length) kk).length<=1000000:=by
   unfold grp selP;rw[xbb];refine xbc (xfs _ _) ?_;rw[xbb];refine xbc (xfs _ _) ?_;rw[xev];lia
  refine ztq hg hN lg λg2=>?_
  have lo:=gr.low q hq;obtain⟨z,hz⟩:∃z,q.2=au.length+(z+1):=⟨q.2 - au.length - 1,by lia⟩
  refine⟨small _ (by simp),⟨_,rfl⟩,⟨g.set z .dead++g2,?_⟩,λr hr hrd=>?_,?_⟩
  ·rw[hz,xjp _ _ (by lia),show au.length+(z+1) - au.length=z+1 by lia,xmm];simp
  ·have ne:r.2≠q.2:=λw=>by
    have:r=q:=zbcf gr.refs hr hq w;rw[this,eq] at hrd;have nd2:=ndk.sublist (xkw i ks);rw[hd,xem] at nd2;exact nd2.1 hrd
   have g1:=ha r hr (by rw[hd];exact xbo _ hrd);rw[xcg (by rw[xex];exact zjd g1),xcm (xcx ne)];exact g1
  ·rw[zj hkk,xdw];rfl
 ·rintro ys σ s ⟨_,⟨g,rfl⟩,_,rfl⟩;rw[xbb,xch];exact k ks _ fin
end
section
theorem ztr   (en:Enough d i)(hd:d<=24)  (hp:p∈srcs d m i):p.1∈([1,2,4,8]:List Int)/\1<=p.1/\p.1<=d/\Mon (m+1) (d - p.1) p.2:=by
 unfold srcs at hp;obtain⟨k,hk,hp⟩:=xei.mp hp;obtain⟨r,hr,rfl⟩:=xbp.mp hp;obtain⟨_,_,a,b⟩:=zit en hk;refine⟨?_,b,by lia,zxf (by lia) hr⟩;have i4:=en.few hd;unfold twos at hk;obtain⟨t,ht,rfl⟩:=xbp.mp hk;have ht:=xby.mp ht
 match t,ht with
 | 0,_=>simp
 | 1,_=>simp
 | 2,_=>simp
 | 3,_=>simp
 | t+4,ht=>lia
theorem zbfy {m i:Nat}{d:Int}(en:Enough d i){k:Nat}  (h1:1<=k)(hk:(k:Int)<=d)(hp:Mon (m+1) (d - k) p):Lin (·∈(srcs d m i).map (gv (pw (allL d m)))) (T k (pw (allL d m)) p):=by
 refine Lin.bind (λw hw=>?_) (dec (n:=m+1) (d:=d) (φ:=pw (allL d m)) k h1 p hp hk);obtain⟨s,r,rfl,mr,le⟩:=hw;refine .one (xbp.mpr ⟨(((2 ^ s:Nat):Int),r),?_,rfl⟩);unfold srcs;refine xei.mpr ⟨_,?_,xbp.mpr ⟨r,zjx mr.len mr.nn mr.sum,rfl⟩⟩;unfold twos;refine xbp.mpr ⟨s,xby.mpr ?_,rfl⟩;rcases xgl s i with z | z
 ·exact z
 ·have:=en.top;have:2 ^ i<=2 ^ s:=xfl (by decide) z;lia
theorem zsn {N x y:Nat}  {gs:List Nat}(ld:Lds N A gs)(hx:Lin (·∈gs) x)(ls:Less N A x y)(hy:y≠0->A (bl y)=none):y=0:=by
 rcases xix y with z | z
 ·exact z
 ·exfalso
  have s1:=(Span.lin ld.all hx).xor ls.span;rw[← xds,xfy,xhl] at s1;obtain⟨S,hS⟩:=s1;have:=(zbio ld.good S N).2;rw[← hS,hy (by lia)] at this;exact absurd (this (by lia)) (by decide)
structure Src (m:Nat) (d:Int) (sel:List (Int×Row)):Prop where
 all:∀p∈sel,p.1∈([1,2,4,8]:List Int)/\1<=p.1/\p.1<=d/\Mon (m+1) (d - p.1) p.2
theorem zji {N d:Int}  (h1:1<=N)(h2:N<=10)(d0:0<=d)(hd:d<=mostD N)(ne:l≠[])(nd:l.Nodup)(hm:∀r∈l,r∈allL d (N - 1).toNat)(hl:l.length<=1000)
  (lin:∀i,Enough d i->Lin (·∈(srcs d (N - 1).toNat i).map (gv (pw (allL d (N - 1).toNat)))) (xr l (pw (allL d (N - 1).toNat))))
  (k:∀ ks sel g,Keys sel ks->Src (N - 1).toNat d sel->xr l (pw (allL d (N - 1).toNat))=xr sel (gv (pw (allL d (N - 1).toNat)))->Q (.tup [.str "raised", .int N,aK l,.tup (ks.map λk=>.tup [.int k,aK (aO (grp sel k))])]) (au++g)):WP (zew [.int N,aK l] au) Q:=by
 obtain⟨fw,fit⟩:=zbga h1 h2 d0 hd;have hmf:=zgf h1 h2;have hN:N=((N - 1).toNat:Int)+1:=by lia
 have h24:=fit.d24;have hAL:=fit.len;refine zey rfl ?_;simp only[W,V];refine znc h1 h2 d0 (by have:=hmf.2.1;split at this<;>split<;>lia) fw hl ne (λr hr=>(zes d0 (hm r hr)).2.2) λg0=>?_
 refine WP.of (show oIsN false (.int d) .non (au++g0)=.ok (.bl false) (au++g0) from rfl) ?_
 try simp only[W,V,xco,xec]
 refine zbiz 9 (N - 1).toNat (d:=d) (N:=N) fit.m9 (by have:=fit.m9;lia) hN d0 (by lia) fit.few λg1=>?_
 try simp only[W,V]
 refine zyw (zod _ _) hAL λpk pl=>?_
 try simp only[W,V]
 refine zoc hN fit (n:=(au++g0++g1).length) (by simp) pl λkvs so g B i en rp sm sl lb=>?_
 try simp only[W,V]
 refine zdt rfl rfl ?_;refine zjv (n:=(au++g0++g1).length) (kvs:=pk) (by simp) pl hAL nd hm ?_;have hb:=zta.mpr (zbnr (λx hx=>pw_lt (hm x hx)):xr l (pw (allL d (N - 1).toNat)) < 2 ^ (allL d (N - 1).toNat).length);refine zjg (kvs:=kvs) (by simp) rp lb hb hAL λy u ls hy ex ul=>?_
 obtain rfl:=zsn lb (lin i en) ls hy;rw[xer] at ex
 try simp only[W,V]
 refine zdt rfl rfl ?_
 try simp only[W,V]
 rw[if_pos (show((0:Nat):Int)=0 from rfl)];refine zdt rfl rfl ?_;refine zdt rfl rfl ?_;have sf:∀p∈so,_:=λp hp=>ztr en h24 (sm p hp)
 refine zsb (λp hp=>⟨(sf p hp).1,by have:=(sf p hp).2.2.2.len;lia,(sf p hp).2.2.2.nn⟩) (by lia) sl λks g2 kf=>?_
 refine⟨small _ (by simp),?_⟩;have:=k ks (selP so u so.length) (g0++g1++.dT pk::.dI kvs::.dead::g++g2) kf ⟨λp hp=>sf p (zle (xbg _) p hp)⟩ (by rw[ex,zbnu])
 simpa using this
end
theorem zbbh {α β:Type}(h:α->β->Nat)(m:List β):∀l:List α,xr l (λa=>xr m (h a))=xr m (λb=>xr l λa=>h a b)
 | []=>by show 0=xr m λ_=>0;rw[zfx]
 | a::l=>by rw[zbx,zbbh h m l,← zim];rfl
theorem zbhp  (c:Nat):∀{ks:List Int},ks.Nodup->k∈ks->xr ks (λj=>if k=j then c else 0)=c
 | [],_,h=>absurd h (by simp)
 | j::ks,nd,h=>by
  rw[xem] at nd;rw[zbx];by_cases e:k=j
  ·subst e;rw[if_pos rfl,zm (g:=λ_=>0) λx hx=>if_neg (λz:k=x=>nd.1 (z ▸ hx)),zfx,xer]
  ·rw[if_neg e,xhl];exact zbhp c nd.2 ((xbm.mp h).resolve_left e)
theorem zxs {f:Row->Nat}{sel:List (Int×Row)}{ks:List Int}(h:Keys sel ks):xr ks (λk=>xr (grp sel k) (T k f))=xr sel (gv f):=by
 have e:∀k,xr (grp sel k) (T k f)=xr sel λp=>if p.1=k then gv f p else 0:=λk=>by
  unfold grp;rw[zrt,zex];refine zm λp _=>?_
  by_cases c:p.1=k
  ·rw[if_pos (xbw c),if_pos c,← c]
  ·rw[if_neg (by simp[c]),if_neg c]
 rw[zm λk _=>e k,zbbh (λk (p:Int×Row)=>if p.1=k then gv f p else 0)];exact zm λp hp=>zbhp _ h.nd (h.has p hp)
theorem zmd   (hx:x∈AL):∀{l:List Row},(∀y∈l,y∈AL)->(xr l (pw AL)).testBit (AL.idxOf x)=decide (l.count x % 2=1)
 | [],_=>by simp[xr]
 | y::l,h=>by
  rw[zbx,xiz,zmd hx λz hz=>h z (xbo _ hz),xlq];unfold pw;rw[xik];by_cases c:y=x
  ·subst c;rw[xbw rfl,if_pos (by simp),xfp];simp;lia
  ·rw[xbz (λz=>c (zbcj (h y (xbq ..)) hx z)),if_neg (by simpa using c)];simp
theorem zbdz  (ha:∀y∈a,y∈AL)(hl:∀y∈l,y∈AL)(rise:Rise l)(e:xr a (pw AL)=xr l (pw AL)):aO a=l:=by
 rw[← rise.odd];refine zux λx=>?_
 by_cases c:x∈AL
 ·have h:=zmd c ha;rw[e,zmd c hl] at h;have:=xgp.mp h;lia
 ·rw[xgv.mpr λz=>c (ha x z),xgv.mpr λz=>c (hl x z)]
def pairD (sel:List (Int×Row)) (k:Int):D:=.tup [.int k,aK (aO (grp sel k))]
def foundL (sel:List (Int×Row)) (ks:List Int):List Row:=ks.flatMap λk=>aO (raiseL k (aO (grp sel k)))
section
theorem zwv:(List.range 25).all (λa=>(List.range 25).all λb=>(List.range 25).all λc=>decide (a+b+c<=24->(a+1) * ((b+1) * (c+1))<=729))=true:=by decide +kernel
theorem zhh  (h:a+b+c<=24):(a+1) * ((b+1) * (c+1))<=729:=by
 have h0:=zwv;rw[xcu] at h0;have h1:=h0 a (xby.mpr (by lia));rw[xcu] at h1;have h2:=h1 b (xby.mpr (by lia));rw[xcu] at h2;exact xcr (h2 c (xby.mpr (by lia))) h
theorem zbba:∀{r:Row},r.length<=3->Nn r->r.sum<=24->box r<=729
 | [],_,_,_=>by simp[box]
 | [a],_,h,s=>by
  have:=zhh (a:=a.toNat) (b:=0) (c:=0) (by simp at s;lia)
  simpa [box] using this
 | [a,b],_,h,s=>by
  have h1:=h a (by simp);have h2:=h b (by simp);have:=zhh (a:=a.toNat) (b:=b.toNat) (c:=0) (by simp at s;lia)
  simpa [box] using this
 | [a,b,c],_,h,s=>by
  have h1:=h a (by simp);have h2:=h b (by simp);have h3:=h c (by simp);have:=zhh (a:=a.toNat) (b:=b.toNat) (c:=c.toNat) (by simp at s;lia)
  simpa [box] using this
 | _::_::_::_::_,h,_,_=>by simp at h
noncomputable def boxB (m:Nat) (d:Int):Nat:=if m<=2 then 729 else 2 ^ d.toNat
theorem zbbb:(List.range 10).all (λi=>decide (((mostD ((i:Int)+1)).toNat+1) ^ i * boxB i (mostD ((i:Int)+1))<=900000/\boxB i (mostD ((i:Int)+1))<=20000))=true:=by decide +kernel
theorem zbmv {N:Int}(h1:1<=N)(h2:N<=10):((mostD N).toNat+1) ^ (N - 1).toNat * boxB (N - 1).toNat (mostD N)<=900000/\boxB (N - 1).toNat (mostD N)<=20000:=by
 obtain⟨i,hi⟩:∃i:Nat,N=(i:Int)+1:=⟨(N - 1).toNat,by lia⟩
 have b:=xcr (xcu.mp zbbb i (xby.mpr (by lia)));rw[← hi] at b;rw[show(N - 1).toNat=i by lia];exact b
theorem zbgx   {r:Row}(hd:d<=24)(hl:r.length=m+1)(nn:Nn r)(hs:r.sum<=d):box r<=boxB m d:=by
 unfold boxB;by_cases c:m<=2
 ·rw[if_pos c];exact zbba (by lia) nn (by lia)
 ·rw[if_neg c];exact xbc (zwt nn) (xfl (by lia) (by lia))
theorem znk {l:List Row}  (hl:l.length<=1000000)(q:w (.int (topI 0 (l.map List.sum))) au) :
  (aJ l).length<=sizeLine/\WP (compF (gN 0) aI (aE bSum (aB (aA 0) aC)) (aJ l) [none] au) (λys st2=>WP (bMaxD 0 [.lst ys] st2) w):=by
 refine⟨by rw[zf];exact small _ hl,?_⟩;refine zhw (as:=l) (λσ=>∃v,σ=[v]) (λ_=>true) (λr=>.int r.sum) aL ⟨_,rfl⟩ ?_ ?_
 ·rintro r hr σ ⟨v,rfl⟩;refine⟨_,rfl,⟨_,rfl⟩,by simp only[W,xgb],λ_=>?_⟩;simp only[W,V,M];exact⟨r,zbf r,trivial,rfl⟩
 ·rw[zcn];have e1:bMaxD 0 [.lst (l.map λr=>.int r.sum)] au=.ok (.int (topI 0 (l.map List.sum))) au:=by
   have:=zbf (l.map List.sum);rw[xcv] at this;unfold bMaxD;dsimp only;rw[show(seqOf au (.lst (l.map λr=>.int r.sum))).bind asInts=some (l.map List.sum) from this]
  exact WP.of e1 q
theorem zmk      (h:WP (f σ au) (λx st1=>∃n xs0,x=.ref n/\st1[n]?=some (.lst xs0)/\WP (g σ st1) (λys st2=>∃y xs zs,ys=[y]/\st2[n]?=some (.lst xs)/\asL st2 y=some zs/\xs.length+zs.length<=sizeLine/\Q .non (st2.set n (.lst (xs++zs)))))):WP (eExtend f g σ au) Q:=by
 rw[zfz];exact h
section
variable {au:Store}
theorem zsq {N d:Int}{l:List Row}{ks:List Int}{sel:List (Int×Row)}{told v4 v5 v6 v8:Option D}{QQ:Fl->Store->Prop}(h1:1<=N)(h2:N<=10)(d0:0<=d)(hd:d<=mostD N)(kf:Keys sel ks)(sf:Src (N - 1).toNat d sel)(few:ks.length<=4)
  (k:∀v8 g,(foundL sel ks).length<=500000->QQ (.nx [some (.int N),some (aK l),told,some (.int d),v4,v5,v6,some (.ref au.length),v8]) (au++.lst (aJ (foundL sel ks))::g)) :
  WP (forF (gN 8) zdg (ks.map (pairD sel)) [some (.int N),some (aK l),told,some (.int d),v4,v5,v6,some (.ref au.length),v8] (au++[.lst []])) QQ:=by
 obtain⟨fw,fit⟩:=zbga h1 h2 d0 hd;have h24:=fit.d24;have hAL:=fit.len;have bb:=zbmv h1 h2;have mf:=zgf h1 h2;have sub:∀k∈ks,1<=k/\k<=d/\∀r∈grp sel k,Mon ((N - 1).toNat+1) (d - k) r:=λk hk=>by
  obtain⟨p,hp,e⟩:=kf.own k hk;obtain⟨_,a,b,_⟩:=sf.all p hp;refine⟨by lia,by lia,λr hr=>?_⟩;unfold grp at hr;obtain⟨q,hq,rfl⟩:=xbp.mp hr;obtain⟨q1,q2⟩:=xdy.mp hq;have:=(sf.all q q1).2.2.2;rw[xcr q2] at this;exact this
 have inn:∀k∈ks,∀x∈aO (raiseL k (aO (grp sel k))),x∈allL d (N - 1).toNat:=λk hk x hx=>by
  obtain⟨a,b,c⟩:=sub k hk;have h1:=zcd hx;unfold raiseL at h1;obtain⟨p,hp,hx⟩:=xei.mp h1;have mp:=c p (zcd hp);rw[zeg mp.nn (by lia)] at hx;obtain⟨w,z⟩:=xdy.mp hx;exact zjx ((zez mp.nn x w).2.trans mp.len) (zio p mp.nn x w) (by rw[xcr z,mp.sum];lia)
 have e0:aJ (foundL sel ks)=ks.flatMap λk=>aJ (aO (raiseL k (aO (grp sel k)))):=by
  unfold foundL aJ;rw[xjv]
 have each:∀k∈ks,(aO (raiseL k (aO (grp sel k)))).length<=100000:=λk hk =>
  xbc (xeg (zei _) λx hx=>inn k hk x hx) hAL
 have tot:∀l:List Int,(∀k∈l,k∈ks)->(l.flatMap λk=>aJ (aO (raiseL k (aO (grp sel k))))).length<=l.length * 100000:=λl=>by
  induction l with
  | nil=>intro _;exact xbg _
  | cons a l ih =>
   intro h;rw[xky,xbh,zf,xcc];have:=each a (h a (xbq ..));have:=ih λk hk=>h k (xbo _ hk)
   lia
 refine Tab.wp_grow (pairD sel) (λk=>aJ (aO (raiseL k (aO (grp sel k))))) (λσ=>∃v8,σ=[some (.int N),some (aK l),told,some (.int d),v4,v5,v6,some (.ref au.length),v8]) 500000 (acc:=[]) (g:=[]) ⟨_,rfl⟩ ?_ ?_ ?_
 ·rw[xiv];have:=tot ks λk hk=>hk
  lia
 ·rintro kk hk σ acc g ⟨v,rfl⟩ hB;obtain⟨k1,kd,mon⟩:=sub kk hk;have ok:SumOk N.toNat (aO (grp sel kk)):=zqd λr hr=>⟨by rw[(mon r hr).len];lia,(mon r hr).nn⟩
  have hf:=fit.less (k:=kk) (by lia) (by lia);have gl:(aO (grp sel kk)).length<=(d.toNat+1) ^ (N - 1).toNat:=by
   refine xbc (xeg (zei _) (l₂:=allL (d - kk) (N - 1).toNat) λx hx=>?_) ?_
   ·have m:=mon x (zcd hx);exact zjx m.len m.nn m.sum
   ·exact xbc (zmg hf.d0 _) (xil (by lia) _)
  have gl2:(aO (grp sel kk)).length * boxB (N - 1).toNat (mostD N)<=900000:=xbc (xfb _ (xbc gl (xil (by lia) _))) bb.1;have gl3:(aO (grp sel kk)).length<=100000:=xbc gl fit.few;refine⟨_,rfl,λR hR=>?_⟩;unfold zdg pairD;simp only[W,V];refine WP.of (show bIsinst [D.tup [.int kk,aK (aO (grp sel kk))],.ty "tuple"] (au++.lst acc::g)=.ok (.bl true) (au++.lst acc::g) from rfl) ⟨true,rfl,?_⟩
  simp only[W,V,xjz,xco,xec];rw[if_neg (by simp)];refine zdt rfl rfl ?_;refine WP.of (zcr (au:=_) (i:=_)) ⟨true,rfl,?_⟩;rw[if_neg (by decide)];refine zdt rfl rfl ?_;simp only[W,V];rw[if_neg (by lia)];refine zdt rfl rfl ?_;refine zbab ok (by lia) (by lia) (by lia) ⟨true,rfl,?_⟩;rw[if_neg (by decide)];refine zdt rfl rfl ⟨_,rfl,?_⟩;refine⟨by rw[zf];exact small _ (by lia),?_⟩;refine zhw (as:=aO (grp sel kk)) (λσ=>∃v,σ=[v,some (.int d),some (.tup [.int kk,aK (aO (grp sel kk))])]) (λ_=>true) (λ_=>.bl false) aL ⟨_,rfl⟩ ?_ ?_
  ·rintro r hr σ ⟨v,rfl⟩;refine⟨_,rfl,⟨_,rfl⟩,by simp only[W,xgb],λ_=>?_⟩;simp only[W,V,M];refine⟨r,zbf r,zdt rfl rfl ?_⟩;simp only[W,V];have:=(mon r (zcd hr)).sum;refine⟨trivial,trivial,?_⟩;rw[xbw this];rfl
  rw[zcn];simp only[M,W,V];refine⟨_,zdn (λ_=>false) _,_,rfl,?_⟩;rw[show(List.map (λ_=>false) (aO (grp sel kk))).any id=false from by rw[List.any_map];simp];rw[if_neg (by decide)];refine zmk ?_;simp only[W,V];refine⟨_,_,rfl,by simp;rfl,?_⟩;refine zdt rfl rfl (zdt rfl rfl ?_);refine zho (B:=boxB (N - 1).toNat (mostD N)) (by lia) (λr hr x hx=>⟨ok.pos r hr x hx,?_⟩) (λr hr=>by rw[ok.len r hr];lia) (λr hr=>?_) bb.2 gl2 λg2=>?_
  ·have:=zbkh (ok.pos r hr) x hx;have:=(mon r (zcd hr)).sum;lia
  ·have m:=mon r (zcd hr);exact zbgx (by have:=mf.2.1;split at this<;>lia) m.len m.nn (by rw[m.sum];lia)
  simp only[W,V];rw[xbh,zf] at hB;refine⟨_,_,_,rfl,by simp;rfl,rfl,by rw[zf];exact small _ (by lia),?_⟩;have:=hR [some (.int N),some (aK l),told,some (.int d),v4,v5,v6,some (.ref au.length),some (.tup [.int kk,aK (aO (grp sel kk))])] (g++g2) ⟨_,rfl⟩
  simpa using this
 ·rintro σ g ⟨v,rfl⟩;rw[xiv,← e0];refine k _ _ ?_;have:=tot ks λk hk=>hk
  rw[← e0,zf] at this;lia
end
theorem zbfr {m:Nat}{d:Int}{sel:List (Int×Row)}{ks:List Int}(kf:Keys sel ks)(sf:Src m d sel):ks.length<=4 :=
 xeg kf.nd (l₂:=([1,2,4,8]:List Int)) λx hx=>by
  obtain⟨p,h1,h2⟩:=kf.own x hx;rw[← h2];exact(sf.all p h1).1
theorem zbaf {m:Nat}{d:Int}{l:List Row}{ks:List Int}{sel:List (Int×Row)}(rise:Rise l)(hm:∀r∈l,r∈allL d m)(kf:Keys sel ks)(sf:Src m d sel)(ex:xr l (pw (allL d m))=xr sel (gv (pw (allL d m)))):aO (foundL sel ks)=l:=by
 have sub:∀k∈ks,1<=k/\k<=d/\∀r∈grp sel k,Mon (m+1) (d - k) r:=λk hk=>by
  obtain⟨p,hp,e⟩:=kf.own k hk;obtain⟨_,a,b,_⟩:=sf.all p hp;refine⟨by lia,by lia,λr hr=>?_⟩;unfold grp at hr;obtain⟨q,hq,rfl⟩:=xbp.mp hr;obtain⟨q1,q2⟩:=xdy.mp hq;have:=(sf.all q q1).2.2.2;rw[xcr q2] at this;exact this
 refine zbdz (AL:=allL d m) (λx hx=>?_) hm rise ?_
 ·unfold foundL at hx;obtain⟨k,hk,hx⟩:=xei.mp hx;obtain⟨a,b,c⟩:=sub k hk;have h1:=zcd hx;unfold raiseL at h1;obtain⟨p,hp,hx⟩:=xei.mp h1;have mp:=c p (zcd hp);rw[zeg mp.nn (by lia)] at hx;obtain⟨w,z⟩:=xdy.mp hx;exact zjx ((zez mp.nn x w).2.trans mp.len) (zio p mp.nn x w) (by rw[xcr z,mp.sum];lia)
 ·rw[ex,← zxs kf];unfold foundL;rw[zpw];refine zm λk hk=>?_
  obtain⟨a,b,c⟩:=sub k hk;rw[zxq λx=>zgl (raiseL k (aO (grp sel k))) x];unfold raiseL;rw[zpw,← zxq (f:=T k (pw (allL d m))) λx=>zgl (grp sel k) x];refine zm λp hp=>?_
  have mp:=c p (zcd hp);rw[zeg mp.nn (by lia),zex];unfold T;refine zm λx _=>?_
  by_cases z:x.sum=p.sum+k
  ·rw[if_pos (xbw z),if_pos z]
  ·rw[if_neg (by simp[z]),if_neg z]
theorem zbig :∀{ns:List Int},ns≠[]->(∀x∈ns,x=d)->topI 0 ns=d
 | [],h,_=>absurd rfl h
 | n::ns,_,h=>by
  obtain⟨h1,_⟩:=zme ns n;exact h _ h1
theorem zbik  (ha:(PyData.str a).canLay0=true)(hb:(PyData.str b).canLay0=true)(e:PyData.eqv (.str a) (.str b)=false):oEqG false (.str a) (.str b) au=.ok (.bl false) au:=by
 obtain⟨s1,_⟩:=Sh.ok (d:=.str a) (p:=.str a) rfl ha (xdu _);obtain⟨s2,_⟩:=Sh.ok (d:=.str b) (p:=.str b) rfl hb (xdu _);unfold oEqG dataOf;rw[show now au (.str a)=.str a from rfl,show now au (.str b)=.str b from rfl,show toData (.str a)=some (.str a) from rfl,show toData (.str b)=some (.str b) from rfl];dsimp only;rw[if_pos ⟨s1,s2⟩,e]
 rfl
section
variable {au:Store}{Q:D->Store->Prop}
theorem znp {N d:Int}{l:List Row}{ks:List Int}{sel:List (Int×Row)}(h1:1<=N)(h2:N<=10)(d0:0<=d)(hd:d<=mostD N)(ne:l≠[])(ok:SumOk N.toNat l)(hl:l.length<=1000)(hm:∀r∈l,r∈allL d (N - 1).toNat)(kf:Keys sel ks)(sf:Src (N - 1).toNat d sel)
  (ex:xr l (pw (allL d (N - 1).toNat))=xr sel (gv (pw (allL d (N - 1).toNat))))(k:∀ g,Q (.str "raised") (au++g)):WP (zbv [.int N,aK l,.tup [.str "raised", .int N,aK l,.tup (ks.map (pairD sel))]] au) Q:=by
 have few:=zbfr kf sf;have fo:=zbaf ok.rise hm kf sf ex;have shS:∀{n:Nat} (x:Str),(PyData.str x).canLay0=true->Sh n (.str x):=λx h=>Sh.str h
 refine zey rfl ?_;simp only[W,V];refine WP.of (show bIsinst [D.tup [.str "raised", .int N,aK l,.tup (ks.map (pairD sel))],.ty "tuple"] au=.ok (.bl true) au from rfl) ⟨true,rfl,?_⟩
 simp only[W,V,M,xjz,xco,xec];rw[if_neg (by simp)]
 have shT:Sh 64 (.tup [.int N,aK l]):=(Sh.tup (n:=5) λx hx=>by
  simp only[xbm,xfk,xjw] at hx;rcases hx with rfl | rfl
  ·exact .int
  ·exact Sh.sum).mono (by lia)
 refine⟨1,rfl,3,rfl,.inl ⟨_,rfl,small _ (by simp),WP.of (zjk (d:=.tup [.int N,aK l]) rfl rfl shT) ?_⟩⟩;dsimp only[bK];rw[if_neg (by decide)];refine zdt rfl rfl ?_;refine WP.of (zcr (au:=_) (i:=_)) ⟨true,rfl,?_⟩;rw[if_neg (by decide)];refine⟨_,rfl,znk (by lia) ?_⟩
 rw[zbig (d:=d) (by simpa using ne) λx hx=>by
  obtain⟨r,hr,rfl⟩:=xbp.mp hx
  exact(zes d0 (hm r hr)).2.2]
 refine zdt rfl rfl ?_;refine WP.of (zbik (a:="raised") (b:="not") (by decide +kernel) (by decide +kernel) (by decide +kernel)) ?_
 dsimp only[bK];rw[if_neg (by decide)];refine zdt rfl rfl ?_;refine WP.of (zjk (d:=.str "raised") rfl rfl (Sh.str (by decide +kernel))) ?_
 dsimp only[bK];rw[if_neg (by decide)];refine zdt rfl rfl ?_;refine WP.of (show bIsinst [D.tup (ks.map (pairD sel)),.ty "tuple"] au=.ok (.bl true) au from rfl) ⟨true,rfl,?_⟩
 rw[if_neg (by decide)];refine zdt rfl rfl ?_;simp only[W,V];refine⟨trivial,?_⟩;rw[if_neg (by rw[xbb];lia)];refine⟨small _ (by simp),zdt rfl rfl ⟨_,rfl,?_⟩⟩;refine zsq h1 h2 d0 hd kf sf few λv8 g fl=>?_
 simp only[W,V];refine⟨small _ (by simp),WP.of (znj (neg:=false) l []) ?_⟩;dsimp only[bK];rw[if_neg (by simp[ne])];simp only[W,V,M,Dd.N];refine⟨_,_,rfl,by simp;rfl,?_⟩;refine zqo (l:=foundL sel ks) rfl (by lia) λg2=>?_
 rw[fo];refine WP.of (znj (neg:=true) l l) ?_;dsimp only[bK];rw[if_neg (by simp)];have:=k (.dead::(g++g2))
 simpa using this
end
end
section
structure Made (N d:Int) (l:List Row):Prop where
 ok:SumOk N.toNat l
 few:l.length<=1000
 inn:∀r∈l,r∈allL d (N - 1).toNat
 lin:∀i,Enough d i->Lin (·∈(srcs d (N - 1).toNat i).map (gv (pw (allL d (N - 1).toNat)))) (xr l (pw (allL d (N - 1).toNat)))
theorem Drew.far    (h:Drew au s n)(hb:au.length<=b)(hn:n < au.length):Drew au (s.set b o) n :=
 ⟨by rw[xex];exact h.len,λi hi ne=>by rw[xcm (by lia)];exact h.keep i hi ne,h.bag.set (by lia)⟩
theorem zbbx {n:Nat}{N d:Int}(hb:BagAt au n)(h1:1<=N)(h2:N<=10)(d1:1<=d)(hd:d<=mostD N)(k:∀l st',Made N d l->Drew au st' n->Q (aK l) st'):WP (zds [.ref n,.int N,.int d] au) Q:=by
 obtain⟨fw,fit⟩:=zbga h1 h2 (by lia) hd;have h24:=fit.d24;have hAL:=fit.len;have nlt:=hb.lt;refine zey rfl ?_;simp only[W,V];refine⟨small _ (by simp),?_⟩;have hb0:BagAt (au++[O.lst []]) n:=(Drew.more hb _).bag;refine zfm hb0 (by lia) (by lia) λc s1 c0 c3 dr=>?_
 try simp only[W,V]
 refine⟨small _ (by simp),zblh ?_⟩;refine⟨_,rfl,rngN (by split<;>lia) (by split<;>lia),?_⟩;have cnt:(if N < 4 then 1+c else 1).toNat<=3:=by split<;>lia
 generalize (if N < 4 then 1+c else 1).toNat=turns at cnt ⊢;have b0:s1[au.length]?=some (.lst []):=by rw[dr.keep _ (by simp) (by lia)];simp
 have dr0:Drew au s1 n:=(Drew.more hb _).trans dr;refine zcy (λj σ s=>(∃v4 v5,σ=[some (.ref n),some (.int N),some (.int d),some (.ref au.length),v4,v5,none])/\Drew au s n/\∃F:List Row,s[au.length]?=some (.lst (aJ F))/\F.length<=j * 20000/\(∀r∈F,r∈allL d (N - 1).toNat)/\∀i,Enough d i->Lin (·∈(srcs d (N - 1).toNat i).map (gv (pw (allL d (N - 1).toNat)))) (xr F (pw (allL d (N - 1).toNat))))
  ⟨⟨_,_,rfl⟩,dr0,[],b0,xbg _,by simp,λ_ _=>.zero⟩ ?_ ?_
 ·rintro j x σ s hx ⟨⟨v4,v5,rfl⟩,D,F,hF,lF,iF,nF⟩;obtain⟨hj,rfl⟩:=zkk hx;refine⟨_,rfl,?_⟩;unfold zfq;simp only[W,V];refine zfm D.bag (by split<;>lia) (by split<;>lia) λb s2 b1 b2 D2=>?_
  have hb8:b < d/\b < 8:=by split at b2<;>lia
  try simp only[W,V]
  have lt2:au.length < s.length:=zjd hF;have hF2:s2[au.length]?=some (.lst (aJ F)):=by rw[D2.keep _ lt2 (by lia)];exact hF
  refine zmk ?_;simp only[W,V];refine⟨_,_,rfl,hF2,?_⟩;refine⟨trivial,zoy D2.bag h1 (by lia) (by lia) (by lia) λr s3 r1 r2 r3 D3=>?_⟩;refine⟨small _ (by simp),?_⟩;have lt3:au.length < s2.length:=zjd hF2;have hF3:s3[au.length]?=some (.lst (aJ F)):=by rw[D3.keep _ lt3 (by lia)];exact hF2
  have mon:Mon ((N - 1).toNat+1) (d - (1+b)) r:=⟨by lia,r2,r3⟩
  have one:∀{P:Row->Prop},P r->∀q∈[r],P q:=λh q hq=>by simp at hq;subst hq;exact h
  refine zho (l:=[r]) (B:=20000) (by lia) (one λx hx=>⟨r2 x hx,by have:=zbkh r2 x hx;lia⟩) (one (by lia)) (one (fit.box mon.len r2 (by lia))) (by lia) (by simp) λg=>?_
  have hF4:(s3++g)[au.length]?=some (.lst (aJ F)):=by rw[xcg (zjd hF3)];exact hF3
  simp only[W,V];have ln:(aO (raiseL (1+b) [r])).length<=20000:=by
   refine xbc (zsk _) ?_;rw[show raiseL (1+b) [r]=raiseR (1+b) r by unfold raiseL;simp];exact zix (fit.box mon.len r2 (by lia))
  refine⟨_,_,_,rfl,hF4,rfl,by rw[zf,zf];exact small _ (by lia),?_⟩;simp only[L];have D4:Drew au (s3++g) n:=((D.trans D2).trans D3).trans (.more D3.bag g);refine⟨⟨_,_,rfl⟩,D4.far (xbg _) nlt,F++aO (raiseL (1+b) [r]),?_,?_,λq hq=>?_,λi en=>?_⟩
  ·rw[xdt (zjd hF4)];unfold aJ;rw[xdw]
  ·rw[xbh];lia
  ·rcases xbx.mp hq with z | z
   ·exact iF q z
   ·exact zui (by lia) mon z
  ·rw[zfy,zbdk (by lia) r2];obtain⟨e,he⟩:∃e:Nat,1+b=(e:Int):=⟨(1+b).toNat,by lia⟩
   rw[he] at mon ⊢;exact(nF i en).xor (zbfy en (by lia) (by lia) mon)
 ·rintro σ s ⟨⟨v4,v5,rfl⟩,D,F,hF,lF,iF,nF⟩;rw[zgb] at lF;simp only[W,V,M,Dd.N];refine⟨_,_,rfl,hF,?_⟩;refine zqo (l:=F) rfl (by lia) λg=>?_
  simp only[W,V];refine⟨small _ (by simp),zblh ?_⟩;have hlim:(if N < 4 then(40:Int) else 8)<=40:=by split<;>lia
  generalize (if N < 4 then(40:Int) else 8)=lim at hlim ⊢;simp only[W,V];have D5:Drew au (s.set au.length .dead++g) n:=(D.far (xbg _) nlt).trans (.more (D.far (xbg _) nlt).bag g);have ok:SumOk N.toNat (aO F):=zqd λr hr=>by
   obtain⟨a,b,_⟩:=zes (by lia) (iF r hr);exact⟨by rw[a];lia,b⟩
  refine⟨trivial,?_⟩;by_cases lt:lim < ((aJ (aO F)).length:Int)
  ·rw[if_pos lt];refine⟨small _ (by simp),k [] _ ⟨⟨List.Pairwise.nil,by simp,by simp⟩,by simp,by simp,λ_ _=>.zero⟩ D5⟩
  ·rw[if_neg lt];rw[zf] at lt;refine k _ _ ⟨ok,by lia,λr hr=>iF r (zcd hr),λi en=>?_⟩ D5;rw[zxq λx=>zgl F x];exact nF i en
theorem zhp {N:Int}(k:∀ g,Q (.tup [.str "raised", .int N,aK [],.tup []]) (au++g)):WP (zew [.int N,aK []] au) Q:=by
 refine zey rfl ?_;simp only[W,V];refine zpb λg=>?_
 refine WP.of (show oIsN false .non .non (au++g)=.ok (.bl true) (au++g) from rfl) ?_;simp only[W,V,xeu];exact⟨small _ (by simp),small _ (by simp),k g⟩
theorem zia {N:Int}(k:∀ g,Q (.str "raised") (au++g)):WP (zbv [.int N,aK [],.tup [.str "raised", .int N,aK [],.tup []]] au) Q:=by
 refine zey rfl ?_;simp only[W,V];refine WP.of (show bIsinst [D.tup [.str "raised", .int N,aK [],.tup []],.ty "tuple"] au=.ok (.bl true) au from rfl) ⟨true,rfl,?_⟩
 simp only[W,V,M,xjz,xco,xec];rw[if_neg (by simp)]
 have shT:Sh 64 (.tup [.int N,aK []]):=(Sh.tup (n:=5) λx hx=>by
  simp only[xbm,xfk,xjw] at hx;rcases hx with rfl | rfl
  ·exact .int
  ·exact Sh.sum).mono (by lia)
 refine⟨1,rfl,3,rfl,.inl ⟨_,rfl,small _ (by simp),WP.of (zjk (d:=.tup [.int N,aK []]) rfl rfl shT) ?_⟩⟩;dsimp only[bK];rw[if_neg (by decide)];refine zdt rfl rfl ?_;refine WP.of (zcr (au:=_) (i:=_)) ⟨true,rfl,?_⟩;rw[if_neg (by decide)];refine⟨_,rfl,znk (l:=[]) (by simp) ?_⟩;refine zdt rfl rfl ?_;refine WP.of (zbik (a:="raised") (b:="not") (by decide +kernel) (by decide +kernel) (by decide +kernel)) ?_
 dsimp only[bK];rw[if_neg (by decide)];refine zdt rfl rfl ?_;refine WP.of (zjk (d:=.str "raised") rfl rfl (Sh.str (by decide +kernel))) ?_
 dsimp only[bK];rw[if_neg (by decide)];refine zdt rfl rfl ?_;refine WP.of (show bIsinst [D.tup [],.ty "tuple"] au=.ok (.bl true) au from rfl) ⟨true,rfl,?_⟩
 rw[if_neg (by decide)];refine zdt rfl rfl ?_;simp only[W,V];refine⟨trivial,?_⟩;rw[if_neg (by simp)];refine⟨small _ (by simp),zdt rfl rfl ⟨_,rfl,?_⟩⟩;refine zcy (λi σ s=>σ=[some (.int N),some (aK []),some (.tup [.str "raised", .int N,aK [],.tup []]),some (.int (topI 0 (([]:List Row).map List.sum))),none,none,none,some (.ref au.length),none]/\s=au++[.lst []]) ⟨rfl,rfl⟩ (λi x σ s hx _=>absurd hx (by simp)) ?_
 rintro σ s ⟨rfl,rfl⟩;simp only[W,V];refine⟨small _ (by simp),WP.of (znj (neg:=false) [] []) ?_⟩;dsimp only[bK];rw[if_pos (by simp)];refine zdt rfl rfl ⟨small _ (by simp),WP.of (znj (neg:=true) [] []) ?_⟩;dsimp only[bK];rw[if_neg (by simp)];simp only[W,V,M,Dd.N];refine⟨_,_,rfl,by simp;rfl,?_⟩;refine zqo (l:=[]) rfl (by simp) λg2=>?_
 refine WP.of (znj (neg:=true) _ []) ?_;dsimp only[bK];rw[if_neg (by simp[show aO []=[] from rfl])];have:=k (.dead::g2)
 simpa using this
theorem zbnc {N d:Int}  (h1:1<=N)(h2:N<=10)(d0:0<=d)(hd:d<=mostD N)(m:Made N d l)  (k:∀ g,QQ (.str "raised") (au++g)):WP (zew [.int N,aK l] au) (λx s=>WP (zbv [.int N,aK l,x] s) QQ):=by
 by_cases c:l=[]
 ·subst c;refine zhp λg=>zia λg2=>?_
  have:=k (g++g2)
  simpa using this
 ·refine zji h1 h2 d0 hd c m.ok.rise.nodup m.inn m.few m.lin λks sel g kf sf ex=>?_
  refine znp h1 h2 d0 hd c m.ok m.few m.inn kf sf ex λg2=>?_
  have:=k (g++g2)
  simpa using this
end
theorem zbfe:(List.range 10).all (λi=>decide (2<=mostD ((i:Int)+1)/\(i < 3->12<=mostD ((i:Int)+1))))=true:=by decide +kernel
theorem zkr {N:Int}(h1:1<=N)(h2:N<=10):2<=mostD N/\(N<=3->12<=mostD N):=by
 obtain⟨i,hi⟩:∃i:Nat,N=(i:Int)+1:=⟨(N - 1).toNat,by lia⟩
 have b:=xcr (xcu.mp zbfe i (xby.mpr (by lia)));rw[← hi] at b;exact⟨b.1,λh=>b.2 (by lia)⟩
theorem zzx (ns:List Int)(hl:ns.length<=63):∃st',zbsr [.scr (ns.map .int)] []=.ok (.bl true) st':=by
 have shR:Sh 64 (.str "raised"):=Sh.str (by decide +kernel)
 have key:WP (zbsr [.scr (ns.map .int)] []) (λv _=>v=.bl true):=by
  refine zey rfl ?_;simp only[W,V];have hle:((ns.map D.int).length:Int)<=63:=by rw[xbb];lia
  have hge:(0:Int)<=((ns.map D.int).length:Int):=by lia
  generalize ((ns.map D.int).length:Int)=len at hle hge;refine⟨_,rfl,rngN (by split<;>lia) (by split<;>lia),?_⟩;refine zcy (λi σ s=>∃v1 v2 v3 v4 v5 v6:Option D,σ=[some (.scr (ns.map .int)),v1,v2,v3,v4,v5,v6]) ⟨_,_,_,_,_,_,rfl⟩ ?_ ?_
  ·rintro i x σ s hx ⟨v1,v2,v3,v4,v5,v6,rfl⟩;obtain⟨hi,rfl⟩:=zkk hx;have hi2:i<=3:=by split at hi<;>lia
   refine⟨_,rfl,?_⟩;unfold zxk;simp only[W,V];rw[xhk];refine zbse hl (by lia) λg hb=>?_
   refine zvk hb λN s2 n1 n2 d2=>?_
   refine zbal d2.bag n1 n2 λd s3 d0 hd d3=>?_
   have tw:=zkr n1 n2
   try simp only[W,V]
   have hmx:1<=(if d > 1 then d else 1)/\(if d > 1 then d else 1)<=mostD N:=by split<;>lia
   generalize (if d > 1 then d else 1)=e at hmx ⊢;refine zbbx d3.bag n1 n2 hmx.1 hmx.2 λl s4 ml D4=>?_
   refine zbnc n1 n2 (by lia) hmx.2 ml λg4=>?_
   refine WP.of (zjk (neg:=true) rfl rfl shR) ?_;dsimp only[bK];rw[if_neg (by decide)];have B4:BagAt (s4++g4) s.length:=(Drew.more D4.bag g4).bag;refine zfm B4 (by lia) (by lia) λt s5 t0 t1 D5=>?_
   simp only[W,V];have hfew:1<=(if 3 < N then 3 else N)/\(if 3 < N then 3 else N)<=3:=by split<;>lia
   generalize (if 3 < N then 3 else N)=fw at hfew ⊢;have tf:=(zkr (N:=fw) (by lia) (by lia)).2 (by lia);refine zbbx D5.bag (by lia) (by lia) (by lia) (by lia) λl2 s6 ml2 D6=>?_
   refine⟨_,rfl,rngN (by lia) (by lia),?_⟩;refine zcy (λj σ s'=>∃w6:Option D,σ=[some (.scr (ns.map .int)),some (.int (i:Int)),some (.ref s.length),some (.int N),some (aK l2),some (.int fw),w6]) ⟨_,rfl⟩ ?_ ?_
   ·rintro j x σ s7 hx ⟨w6,rfl⟩;refine⟨_,rfl,?_⟩;unfold zxl;simp only[W,V];refine zbnc (by lia) (by lia) (by lia) (by lia) ml2 λg7=>?_
    refine WP.of (zjk (neg:=true) rfl rfl shR) ?_;dsimp only[bK];rw[if_neg (by decide)];simp only[L];exact⟨_,rfl⟩
   ·rintro σ s7 ⟨w6,rfl⟩;simp only[W,V];refine⟨small _ (by simp),zhp λg8=>?_⟩;refine⟨small _ (by simp),small _ (by simp),small _ (by simp),?_⟩
    have shT:Sh 64 (.tup [.str "raised", .int N,.tup [],.tup []]):=(Sh.tup (n:=5) λx hx=>by
     simp only[xbm,xfk,xjw] at hx;rcases hx with rfl | rfl | rfl | rfl
     ·exact Sh.str (by decide +kernel)
     ·exact .int
     ·exact Sh.sum (l:=[])
     ·exact Sh.sum (l:=[])).mono (by lia)
    refine WP.of (zjk (neg:=true) (d:=.tup [.str "raised", .int N,.tup [],.tup []]) rfl rfl shT) ?_
    dsimp only[bK];rw[if_neg (by decide)];simp only[L];exact⟨_,_,_,_,_,_,rfl⟩
  ·rintro σ s ⟨v1,v2,v3,v4,v5,v6,rfl⟩;simp only[W,V]
 obtain⟨a,st',e,rfl⟩:=key.get;exact⟨st',e⟩
end Dd
namespace K56
theorem holds:∀ns:List Int,ns.length<=63->∃st',Dd.zbsr [.scr (ns.map .int)] []=.ok (.bl true) st':=λns hl=>Dd.zzx ns hl
end K56
namespace K56
open PySem L2 Dd
noncomputable def top (i:Nat):Stmt:=PySem.Challenge.pw_raisedsums_k56_sums_judged_raised.main.body.getD i (.Pass ⟨0,0,0,0⟩)
section
theorem zsi {Y:En}(T:TopF Y.K "_law_bag" (top 39))(Aa:Y.mg "len"=none)(z_abs:Y.mg "abs"=none)(Ai:Y.mg "min"=none)(Ab:Y.mg "range"=none):Cl Y "_law_bag" 1 ["_law_script","_law_at"] zgq:=cmk ["_law_script","_law_at","_law_cell","_law_mix","_law_k"] T λnd f cdv A outer s H E hr=>(za (sst nd zd)
 (za (zbo (zp (znb hr.units0) zni sv (zg zt zhj rfl Aa zhg (sa1 sv)) (nomark _)) (zc (sst nd (zg zbgv zbsl rfl z_abs zbsa (sa1 (zdc sv sv (λ_ _=>rfl)))))) zy)
 (za (sst nd (sad (zda zmz (oI_D λ_ _ _ _=>.int _) zd sv) zd))
 (za (sfr (zbr rfl Ab (sa1 (zg (zgm rfl) zbhl rfl Ai zws (sa2 (zg zt zhj rfl Aa zhg (sa1 sv)) zd)))) (sgn nd)
 (zc (sst nd (zda zna (oI_D λ_ _ _ _=>.int _) (sad (sad (zda zmz (oI_D λ_ _ _ _=>.int _) sv zd) (zda zna (oI_D λ_ _ _ _=>.int _) (zdc sv sv (λ_ _=>rfl)) zd)) sv) zd))))
 (za (zbo (zp (znb hr.units0) zni sv (zda zbpi (oI_D λ_ _ _ _=>.int _) zd zd) (nomark _)) (zc (sst nd zd)) zy)
 (zc (zi (zdb (sa2 sv sv)))))))))
theorem zow {Y:En}(T:TopF Y.K "_law_take" (top 40))  : Cl Y "_law_take" 1 ["_law_bag_here","_law_many"] zr:=cmk ["_law_bag_here","_law_many","_law_digit","_law_number_here","_law_room"] T λnd f cdv A outer s H E hr=>(za (zbo (zp zbjy (zge λ_ _ _ _=>.bl _) (zdc sv zd (λ_ _=>rfl)) zd (nomark _)) (za (sst nd (zda zna (oI_D λ_ _ _ _=>.int _) (zdc sv zd (λ_ _=>rfl)) sv))
 (za (zrb (zda zos (oI_D λ_ _ _ _=>.int _) (zdc sv zd (λ_ _=>rfl)) sv) sv zd)
 (zc (zi sv)))) zy)
 (za (sst nd zd)
 (za (sst nd zd)
 (za (zgk xhs (zp (znb hr.units0) zni sv sv (nomark _)) (za (zrb (zda zna (oI_D λ_ _ _ _=>.int _) (sad (zda zmz (oI_D λ_ _ _ _=>.int _) (zdc sv zd (λ_ _=>rfl)) zd) zd) zd) sv zd)
 (za (sst nd (sad (zda zmz (oI_D λ_ _ _ _=>.int _) sv zd) (zda zna (oI_D λ_ _ _ _=>.int _) (zda zmz (oI_D λ_ _ _ _=>.int _) (zda zos (oI_D λ_ _ _ _=>.int _) (zdc sv zd (λ_ _=>rfl)) zd) zd) zd)))
 (zc (sst nd (zda zmz (oI_D λ_ _ _ _=>.int _) sv zd))))))
 (zc (zi (zda zna (oI_D λ_ _ _ _=>.int _) sv sv)))))))
theorem zkc {Y:En}(T:TopF Y.K "_law_letters" (top 44))(Ad:Cl Y "_law_take" 1 ["_law_bag_here","_law_many"] zr):Cl Y "_law_letters" 2 ["_law_bag_here"] zde:=cmk ["_law_bag_here"] T λnd f cdv A outer s H E hr=>(zc (zi (zdc (zkg (ze zd (ze zd (ze zd (ze zd (ze zd (ze zd (ze zd (ze zd (ze zd (sa2 zd (sad zd (scl Ad hr (sa2 sv zd)))))))))))))) (scl Ad hr (sa2 sv zd)) (λ_ _=>rfl))))
theorem zsh {Y:En}(T:TopF Y.K "_law_odd" (top 41))(Af:Y.mg "sorted"=none)(Ac:Y.mg "tuple"=none):Cl Y "_law_odd" 1 ["_law_things"] zca:=cmk ["_law_things","_law_odd_here","_law_thing"] T λnd f cdv A outer s H E hr=>(za (sst nd zrd)
 (za (sfr (zba sv) (sgn nd)
 (zc (zpi (zqx hr) sv sv (zbap (zbgq (zqx hr) sv sv zxm ⟨rfl,rfl,rfl,rfl⟩)) rfl)))
 (zc (zi (zbs zbw zhi rfl Ac zck (sa1 (zg (zfv rfl hr.units) zmf rfl Af zfg (sa1 (zeo rfl (zbgl sv) (λ_ _ _ _ _=>(zbq (i:=0) (show(["_law_thing","_law_odd_here"]:List Str).Nodup from by decide +kernel) rfl (Or.inl rfl))) (λ_ _ _ _ _=>(zhf (zbk (zwf (zqx hr) sv sv (λ_ _=>rfl))))) (λ_ _ _ _ _=>sv) (N:=["_law_thing","_law_odd_here"]) (k:=1) (is:=[1]) (zep (by rfl)))))))))))
theorem zll {Y:En}(T:TopF Y.K "_law_raised" (top 47))(Ai:Y.mg "min"=none)(Ab:Y.mg "range"=none)(Aj:Cl Y "_law_odd" 1 ["_law_things"] zca):Cl Y "_law_raised" 2 ["_law_some","_law_k"] zbu:=cmk ["_law_some","_law_k","_law_found","_law_product","_law_ways","_law_e","_law_further","_law_grown","_law_left"] T λnd f cdv A outer s H E hr=>(za (sst nd (zdb zbc))
 (za (sfr (zba sv) (sgn nd)
 (za (sst nd (zkg (sa1 (zbj (sa2 (zbj zbc) sv)))))
 (za (sfr (zba sv) (sgn nd)
 (za (sst nd (zdb zbc))
 (za (sfr (zba sv) (zen rfl (zq (sgn nd) (zq (sgn nd) zcu)))
 (zc (zbl (zdw sv (sa1 (zeo rfl (zbr rfl Ab (sa1 (sad (zg (zgm rfl) zbhl rfl Ai zws (sa2 sv sv)) zd))) (λ_ _ _ _ _=>(zbq (i:=0) (show(["_law_j","_law_grown","_law_left","_law_e"]:List Str).Nodup from by decide +kernel) rfl (Or.inl rfl))) (λ_ _ _ _ _=>(zhf (zp (ziy hr.units) zif (zda zsc (zge λ_ _ _ _=>.int _) sv sv) sv (nomark _)))) (λ_ _ _ _ _=>(zbj (sa2 (sad sv (zbj (sa1 (sad sv sv)))) (ssb sv sv)))) (N:=["_law_j","_law_grown","_law_left","_law_e"]) (k:=1) (is:=[7,8,5]) (zep (by rfl))))))))
 (zc (sst nd (zsz sv))))))
 (zc (zbl (zdw sv (sa1 (zeo rfl (zba sv) (λ_ _ _ _ _=>(zen rfl (zq (zbq (i:=0) (show(["_law_grown","_law_left"]:List Str).Nodup from by decide +kernel) rfl (Or.inl rfl)) (zq (zbq (i:=1) (show(["_law_grown","_law_left"]:List Str).Nodup from by decide +kernel) rfl (Or.inl rfl)) zcu)))) (λ_ _ _ _ _=>(zhf (zp (ziy hr.units) zif sv zd (nomark _)))) (λ_ _ _ _ _=>sv) (N:=["_law_grown","_law_left"]) (k:=2) (is:=[]) (zep (by rfl))))))))))
 (zc (zi (scl Aj hr (sa1 (zsz sv)))))))
theorem zhz {Y:En}(T:TopF Y.K "_law_of_degree" (top 46))(Ab:Y.mg "range"=none)(Ak:Y.mg "max"=none)(Ac:Y.mg "tuple"=none)(Ad:Cl Y "_law_take" 1 ["_law_bag_here","_law_many"] zr):Cl Y "_law_of_degree" 2 ["_law_bag_here","_law_n","_law_d"] zci:=cmk ["_law_bag_here","_law_n","_law_d","_law_left","_law_exponents","_law_fork","_law_k","_law_e","_law_at"] T λnd f cdv A outer s H E hr=>(za (sst nd sv)
  (za (sst nd (zdb zbc))
  (za (sst nd (scl Ad hr (sa2 sv zd)))
  (za (sfr (zbr rfl Ab (sa1 (ssb sv zd))) (sgn nd)
  (za (sst nd (scl Ad hr (sa2 sv (sad sv zd))))
  (za (zbo (zp (ziy hr.units) zif sv zd (nomark _)) (zc (sst nd (zg (zbax rfl) zbnb rfl Ak zbmt (sa1 (zeo rfl (zba (zbj (ze zd (ze zd (ze zd (sa2 zd zd)))))) (λ_ _ _ _ _=>(zbq (i:=0) (show(["_law_x","_law_e"]:List Str).Nodup from by decide +kernel) rfl (Or.inl rfl))) (λ_ _ _ _ _=>(zhf (zp zbfa (zge λ_ _ _ _=>.bl _) sv sv (nomark _)))) (λ_ _ _ _ _=>sv) (N:=["_law_x","_law_e"]) (k:=1) (is:=[7]) (zep (by rfl))))))) zy)
  (za (zbl (zdx sv (sa1 sv)))
  (zc (sst nd (ssb sv sv)))))))
  (za (zbl (zdx sv (sa1 sv)))
  (za (sst nd (scl Ad hr (sa2 sv sv)))
  (zc (zi (zbs zbw zhi rfl Ac zck (sa1 (sad (zbno sv (zjm sv) zpj) (zbno sv zpj (zjm sv)))))))))))))
theorem zox {Y:En}(T:TopF Y.K "_law_made" (top 51))(Ag:Y.mg "int"=none)(Ab:Y.mg "range"=none)(Ai:Y.mg "min"=none)(Aq:Y.mg "list"=none)(Aa:Y.mg "len"=none)(Ad:Cl Y "_law_take" 1 ["_law_bag_here","_law_many"] zr)(An:Cl Y "_law_raised" 2 ["_law_some","_law_k"] zbu)(A2:Cl Y "_law_of_degree" 2 ["_law_bag_here","_law_n","_law_d"] zci)(Aj:Cl Y "_law_odd" 1 ["_law_things"] zca):Cl Y "_law_made" 3 ["_law_bag_here","_law_n","_law_d"] zds:=cmk ["_law_bag_here","_law_n","_law_d","_law_found","_law_turn","_law_by","_law_grown"] T λnd f cdv A outer s H E hr=>(za (sst nd (zdb zbc))
 (za (sfr (zbr rfl Ab (sa1 (zdc (zkg (sa2 zd (sad zd (scl Ad hr (sa2 sv zd))))) (zbs zii zbbe rfl Ag zsv (sa1 (zjp (znb hr.units0) zni sv zd (nomark _)))) (λ_ _=>rfl)))) (sgn nd)
 (za (sst nd (sad zd (scl Ad hr (sa2 sv (zg (zgm rfl) zbhl rfl Ai zws (sa2 sv zd))))))
 (zc (zbl (zdw sv (sa1 (zbs zjs zbdf rfl Aq zbdb (sa1 (scl An hr (sa2 (zbj (sa1 (scl A2 hr (ze sv (sa2 sv (ssb sv sv)))))) sv))))))))))
 (za (sst nd (scl Aj hr (sa1 (zsz sv))))
 (za (zbo (zp zbjy (zge λ_ _ _ _=>.bl _) (zg zt zhj rfl Aa zhg (sa1 sv)) (zdc (zkg (sa2 zd zd)) (zbs zii zbbe rfl Ag zsv (sa1 (zjp (znb hr.units0) zni sv zd (nomark _)))) (λ_ _=>rfl)) (nomark _)) (zc (zi (zbj zbc))) zy)
 (zc (zi sv))))))
theorem zlm {Y:En}(T:TopF Y.K "_law_number" (top 42))(Ar:Y.mg "bool"=none)(Ae:Y.mg "isinstance"=none)(Ag:Y.mg "int"=none):Cl Y "_law_number" 1 ["_law_thing"] zbg:=cmk ["_law_thing"] T λnd f cdv A outer s H E hr=>(zc (zi (zwg (zg zbi zcg rfl Ae zbb (sa2 sv (zic (zfn (v:=.ty "int") rfl Ag zsv rfl) (λ_ _=>.ty _)))) (zwc (zbap (zg zbi zcg rfl Ae zbb (sa2 sv (zic (zfn (v:=.ty "bool") rfl Ar zbdc rfl) (λ_ _=>.ty _)))))))))
theorem zsj {Y:En}(T:TopF Y.K "_law_all" (top 48))(Ab:Y.mg "range"=none):Cl Y "_law_all" 1 ["_law_n","_law_d"] zmj:=cmk ["_law_n","_law_d","_law_found","_law_k","_law_further","_law_grown","_law_left"] T λnd f cdv A outer s H E hr=>(za (sst nd (zkg (sa1 (zbj (sa2 (zbj zbc) sv)))))
 (za (sfr (zbr rfl Ab (sa1 (ssb sv zd))) (sgn nd)
 (za (sst nd (zdb zbc))
 (za (sfr (zba sv) (zen rfl (zq (sgn nd) (zq (sgn nd) zcu)))
 (zc (zbl (zdw sv (sa1 (scp ["_law_e","_law_grown","_law_left"] (zbr rfl Ab (sa1 (sad sv zd))) (λ_ _ _ _ _=>(zbj (sa2 (sad sv (zbj (sa1 sv))) (ssb sv sv))))))))))
 (zc (sst nd (zsz sv))))))
 (zc (zi (zeo rfl (zba sv) (λ_ _ _ _ _=>(zen rfl (zq (zbq (i:=0) (show(["_law_grown","_law_left"]:List Str).Nodup from by decide +kernel) rfl (Or.inl rfl)) (zq (zbq (i:=1) (show(["_law_grown","_law_left"]:List Str).Nodup from by decide +kernel) rfl (Or.inl rfl)) zcu)))) (λ_ _ _ _ _=>zjn) (λ_ _ _ _ _=>(sad sv (zbj (sa1 sv)))) (N:=["_law_grown","_law_left"]) (k:=2) (is:=[]) (zep (by rfl)))))))
theorem zlo {Y:En}(T:TopF Y.K "_law_is_sum" (top 43))(Ac:Y.mg "tuple"=none)(Ae:Y.mg "isinstance"=none)(Aa:Y.mg "len"=none)(Ao:Y.mg "all"=none)(z_zip:Y.mg "zip"=none)(Ap:Cl Y "_law_number" 1 ["_law_thing"] zbg):Cl Y "_law_is_sum" 2 ["_law_n","_law_thing"] zcx:=cmk ["_law_n","_law_thing","_law_product"] T λnd f cdv A outer s H E hr=>(za (zbo (zcz (zbk (zg zbi zcg rfl Ae zbb (sa2 sv (zic (zfn (v:=.ty "tuple") rfl Ac zck rfl) (λ_ _=>.ty _)))))) (zc (zi zxm)) zy)
 (za (sfr (zba sv) (sgn nd)
 (za (zbo (JW.pt (zfu (zcz (zbk (zg zbi zcg rfl Ae zbb (sa2 sv (zic (zfn (v:=.ty "tuple") rfl Ac zck rfl) (λ_ _=>.ty _)))))) (zem (zp (zgy hr.units) zif (zg zt zhj rfl Aa zhg (sa1 sv)) sv (nomark _)) (by first | exact Or.inl rfl | exact Or.inr rfl)))) (zc (zi zxm)) zy)
 (zc (zbo (zcz (zbk (zg (zpo rfl) zwz rfl Ao zbgw (sa1 (scp ["_law_e"] (zba sv) (λ_ _ _ _ _=>(zwg (scl Ap hr (sa1 sv)) (zwc (zjp zbpn (zge λ_ _ _ _=>.bl _) sv zd (nomark _)))))))))) (zc (zi zxm)) zy))))
 (zc (zi (zg (zpo rfl) zwz rfl Ao zbgw (sa1 (zeo rfl (zblv rfl z_zip (sa2 sv (zbno sv (zjm zd) zpj))) (λ_ _ _ _ _=>(zen rfl (zq (zbq (i:=0) (show(["_law_one","_law_other"]:List Str).Nodup from by decide +kernel) rfl (Or.inl rfl)) (zq (zbq (i:=1) (show(["_law_one","_law_other"]:List Str).Nodup from by decide +kernel) rfl (Or.inl rfl)) zcu)))) (λ_ _ _ _ _=>zjn) (λ_ _ _ _ _=>(zjp (znb hr.units0) zni sv sv (nomark _))) (N:=["_law_one","_law_other"]) (k:=2) (is:=[]) (zep (by rfl)))))))))
theorem zng {Y:En}(T:TopF Y.K "_law_meets" (top 49))(Aa:Y.mg "len"=none):Cl Y "_law_meets" 1 ["_law_row","_law_some"] zfi:=cmk ["_law_row","_law_some"] T λnd f cdv A outer s H E hr=>(zc (zi (zjp (ziy hr.units) zif (zda zna (oI_D λ_ _ _ _=>.int _) (zg zt zhj rfl Aa zhg (sa1 (zeo rfl (zba sv) (λ_ _ _ _ _=>(zbq (i:=0) (show(["_law_product","_law_some"]:List Str).Nodup from by decide +kernel) rfl (Or.inl rfl))) (λ_ _ _ _ _=>(zhf (zp (zbpm hr.units) zbuh sv sv rfl))) (λ_ _ _ _ _=>sv) (N:=["_law_product","_law_some"]) (k:=1) (is:=[1]) (zep (by rfl))))) zd) zd (nomark _))))
theorem zln {Y:En}(T:TopF Y.K "_law_judged" (top 50))(Aa:Y.mg "len"=none)(Ac:Y.mg "tuple"=none)(Ae:Y.mg "isinstance"=none)(Ah:Y.mg "sum"=none)(Ak:Y.mg "max"=none)(z_any:Y.mg "any"=none)(Ab:Y.mg "range"=none)(Ag:Y.mg "int"=none)(Aq:Y.mg "list"=none)(Ap:Cl Y "_law_number" 1 ["_law_thing"] zbg)(Ay:Cl Y "_law_is_sum" 2 ["_law_n","_law_thing"] zcx)(A3:Cl Y "_law_all" 1 ["_law_n","_law_d"] zmj)(Az:Cl Y "_law_meets" 1 ["_law_row","_law_some"] zfi)(An:Cl Y "_law_raised" 2 ["_law_some","_law_k"] zbu)(Aj:Cl Y "_law_odd" 1 ["_law_things"] zca):Cl Y "_law_judged" 3 ["_law_n","_law_some","_law_told"] zbv:=cmk ["_law_n","_law_some","_law_told","_law_d","_law_row","_law_less","_law_product","_law_found","_law_duo"] T λnd f cdv A outer s H E hr=>(za (zbo (JW.pt (zfu (zcz (zbk (zg zbi zcg rfl Ae zbb (sa2 sv (zic (zfn (v:=.ty "tuple") rfl Ac zck rfl) (λ_ _=>.ty _)))))) (zfu (zp (zgy hr.units) zif (zg zt zhj rfl Aa zhg (sa1 sv)) zd (nomark _)) (zfu (zp (zgy hr.units) zif (zbno sv (zjm zd) (zjm zd)) (zbj (sa2 sv sv)) (nomark _)) (zem (zcz (zbk (scl Ap hr (sa1 (zdc sv zd (λ_ _=>rfl)))))) (by first | exact Or.inl rfl | exact Or.inr rfl)))))) (zc (zi zkf)) zy)
 (za (sst nd (zbmc rfl rfl Ak (sa1 (scp ["_law_product"] (zba sv) (λ_ _ _ _ _=>(zg (zff rfl) zsx rfl Ah zsu (sa1 sv)))))))
 (za (zbo (zp (ziy hr.units) zif (zdc sv zd (λ_ _=>rfl)) zke (nomark _)) (za (sst nd (zdc sv zd (λ_ _=>rfl)))
 (za (zbo (JW.pt (zfu (zcz (zbk (scl Ay hr (sa2 sv sv)))) (zfu (zp (ziy hr.units) zif (zg zt zhj rfl Aa zhg (sa1 sv)) zd (nomark _)) (zem (zbk (zg (zwp rfl) zwz rfl z_any zbmu (sa1 (scp ["_law_product","_law_d"] (zba sv) (λ_ _ _ _ _=>(zjp (zgy hr.units) zif (zg (zff rfl) zsx rfl Ah zsu (sa1 sv)) sv (nomark _))))))) (by first | exact Or.inl rfl | exact Or.inr rfl))))) (zc (zi zkf)) zy)
 (za (sfr (zbr rfl Ab (sa1 sv)) (sgn nd)
 (zc (sfr (zba (scl A3 hr (sa2 sv sv))) (sgn nd)
 (zc (zbo (zbk (scl Az hr (sa2 sv (scl An hr (sa2 (zbj (sa1 sv)) (ssb sv sv)))))) (zc (zi zkf)) zy)))))
 (zc (zi (zdc (zkg (sa2 zke zkf)) (zbs zii zbbe rfl Ag zsv (sa1 (zbap (scl Az hr (sa2 sv sv))))) (λ_ _=>rfl))))))) zy)
 (za (zbo (JW.pt (zfu (zp (zgy hr.units) zif (zdc sv zd (λ_ _=>rfl)) zke (nomark _)) (zfu (zcz (zbk (zg zbi zcg rfl Ae zbb (sa2 (zdc sv zd (λ_ _=>rfl)) (zic (zfn (v:=.ty "tuple") rfl Ac zck rfl) (λ_ _=>.ty _)))))) (zem (zp zbjy (zge λ_ _ _ _=>.bl _) (zg zt zhj rfl Aa zhg (sa1 (zdc sv zd (λ_ _=>rfl)))) zd (nomark _)) (by first | exact Or.inl rfl | exact Or.inr rfl))))) (zc (zi zkf)) zy)
 (za (sst nd (zdb zbc))
 (za (sfr (zba (zdc sv zd (λ_ _=>rfl))) (sgn nd)
 (za (zbo (JW.pt (zfu (zcz (zbk (zg zbi zcg rfl Ae zbb (sa2 sv (zic (zfn (v:=.ty "tuple") rfl Ac zck rfl) (λ_ _=>.ty _)))))) (zfu (zp (zgy hr.units) zif (zg zt zhj rfl Aa zhg (sa1 sv)) zd (nomark _)) (zfu (zcz (zbk (scl Ap hr (sa1 (zdc sv zd (λ_ _=>rfl)))))) (zem (zp (znb hr.units0) zni (zdc sv zd (λ_ _=>rfl)) zd (nomark _)) (by first | exact Or.inl rfl | exact Or.inr rfl)))))) (zc (zi zkf)) zy)
 (za (zbo (JW.pt (zfu (zcz (zbk (scl Ay hr (sa2 sv (zdc sv zd (λ_ _=>rfl)))))) (zem (zbk (zg (zwp rfl) zwz rfl z_any zbmu (sa1 (scp ["_law_product","_law_d","_law_duo"] (zba (zdc sv zd (λ_ _=>rfl))) (λ_ _ _ _ _=>(zjp (zgy hr.units) zif (zg (zff rfl) zsx rfl Ah zsu (sa1 sv)) (ssb sv (zdc sv zd (λ_ _=>rfl))) (nomark _))))))) (by first | exact Or.inl rfl | exact Or.inr rfl)))) (zc (zi zkf)) zy)
 (zc (zbl (zdw sv (sa1 (zbs zjs zbdf rfl Aq zbdb (sa1 (scl An hr (sa2 (zdc sv zd (λ_ _=>rfl)) (zdc sv zd (λ_ _=>rfl)))))))))))))
 (za (zbo (JW.pt (zfu (JW.pt (zbct (zp (ziy hr.units) zif sv (zbj zbc) (nomark _)) (zem (zp (zgy hr.units) zif (zdc sv zd (λ_ _=>rfl)) (zbj zbc) (nomark _)) (by first | exact Or.inl rfl | exact Or.inr rfl)))) (zem (zp (zgy hr.units) zif (scl Aj hr (sa1 (zsz sv))) sv (nomark _)) (by first | exact Or.inl rfl | exact Or.inr rfl)))) (zc (zi zkf)) zy)
 (zc (zi zke)))))))))
theorem zuu {Y:En}(T:TopF Y.K "degrees" (top 20))(Ah:Y.mg "sum"=none)(Af:Y.mg "sorted"=none)(z_set:Y.mg "set"=none):Cl Y "degrees" 1 ["some"] zik:=cmk ["some"] T λnd f cdv A outer s H E hr=>(zc (zi (zbuy rfl zsy rfl Af zfg rfl z_set zbrz (sa1 (scp ["product"] (zba sv) (λ_ _ _ _ _=>(zg (zff rfl) zsx rfl Ah zsu (sa1 sv))))))))
theorem zlk {Y:En}(T:TopF Y.K "most_degree" (top 21))  (m_FEW_LETTERS:Y.mg "FEW_LETTERS"=some (.int 3 k_FEW_LETTERS)):Cl Y "most_degree" 1 ["n"] zev:=cmk ["n"] T λnd f cdv A outer s H E hr=>(zc (zi (zbtk (zp zbfa (zge λ_ _ _ _=>.bl _) sv (zic (zbbq (v:=.int 3) rfl m_FEW_LETTERS ⟨_,rfl⟩) (λ_ _=>.int _)) (nomark _)) zd zd)))
theorem zfl {Y:En}(T:TopF Y.K "number_of_products" (top 22))(Ab:Y.mg "range"=none):Cl Y "number_of_products" 1 ["n","d"] zbe:=cmk ["n","d","told","i"] T λnd f cdv A outer s H E hr=>(za (sst nd zd)
 (za (sfr (zvz rfl Ab (sa2 zd sv)) (sgn nd)
 (zc (sst nd (zda zos (oI_D λ_ _ _ _=>.int _) (zda zbjx (oI_D λ_ _ _ _=>.int _) sv (sad sv sv)) sv))))
 (zc (zi sv))))
theorem zja {Y:En}(T:TopF Y.K "can_be_judged" (top 24))  (m_MOST_JUDGED:Y.mg "MOST_JUDGED"=some (.int 200 k_MOST_JUDGED))(A4:Cl Y "number_of_products" 1 ["n","d"] zbe)(A5:Cl Y "most_degree" 1 ["n"] zev):Cl Y "can_be_judged" 2 ["n","d"] zcj:=cmk ["n","d"] T λnd f cdv A outer s H E hr=>(zc (zi (zwg (zjp zbfa (zge λ_ _ _ _=>.bl _) sv (scl A5 hr (sa1 sv)) (nomark _)) (zwc (zjp zbfa (zge λ_ _ _ _=>.bl _) (scl A4 hr (sa2 sv sv)) (zic (zbbq (v:=.int 200) rfl m_MOST_JUDGED ⟨_,rfl⟩) (λ_ _=>.int _)) (nomark _))))))
theorem zuv {Y:En}(T:TopF Y.K "bounded" (top 27))(A6:Cl Y "can_be_judged" 2 ["n","d"] zcj):Cl Y "bounded" 3 ["n","d"] zil:=cmk ["n","d"] T λnd f cdv A outer s H E hr=>(za (zbo (zcz (zbk (scl A6 hr (sa2 sv sv)))) (zc zih) zy)
 (zc (zi sv)))
theorem zne {Y:En}(T:TopF Y.K "one_degree" (top 28))(Aa:Y.mg "len"=none)(A7:Cl Y "degrees" 1 ["some"] zik)(A8:Cl Y "bounded" 3 ["n","d"] zil):Cl Y "one_degree" 4 ["n","some"] zcw:=cmk ["n","some","told"] T λnd f cdv A outer s H E hr=>(za (sst nd (scl A7 hr (sa1 sv)))
 (za (zbo (zp zbjy (zge λ_ _ _ _=>.bl _) (zg zt zhj rfl Aa zhg (sa1 sv)) zd (nomark _)) (zc zih) zy)
 (zc (zi (zbtk (zbk sv) (scl A8 hr (sa2 sv (zdc sv zd (λ_ _=>rfl)))) zkf)))))
theorem zbp:FnScope ["n","d","told","e"] ["n","d"] (defScope (top 23)):=⟨rfl,rfl,rfl,by decide +kernel,rfl,by decide +kernel,by decide +kernel⟩
theorem zec {Y:En}   (hj:1<=j)(hself:∀ ds au v st', fF ds au=.ok v st'->ds.length=2)(T:TopF Y.K "products_of_degree" (top 23))(Ab:Y.mg "range"=none)(Am:Cl Y "products_of_degree" j ["n","d"] fF):Cl Y "products_of_degree" (j + 1) ["n","d"] (zo fF) :=
 have nd:=zbp.nd
 zwr (k:=j) T Y.X Y.G zbp (λ_ _ _ _ _ _ us hl=>len2 us hl λ_ _=>rfl) λf cdv A outer s H E hr=>(za (zbo (zp (ziy hr.units) zif (zjo (pv 0)) zd (nomark _)) (zc (zi (zkg (ze (zbj (ze (zjo (pv 1)) zbc)) zbc)))) zy)
 (za (zbcu (i:=2) nd rfl (Or.inl rfl) (zdb zbc))
 (za (zbcv xhs rfl (zbr rfl Ab (ze (zda zus zbfc (zjo (pv 1)) zd) zbc)) (zbq (i:=3) nd rfl (Or.inr rfl))
 (zc (zbl (zdw (zjo (pv 2)) (ze (zeo rfl (zba (zbcz Am hself hr rfl (ze (zda zbez (zge λ_ _ _ _=>.int _) (zjo (pv 0)) zd) (ze (zda zbez (zge λ_ _ _ _=>.int _) (zjo (pv 1)) (zjo (pv 3))) zbc)))) (λ_ _ _ _ _=>(zbq (i:=0) (show(["rest","e"]:List Str).Nodup from by decide +kernel) rfl (Or.inl rfl))) (λ_ _ _ _ _=>zjn) (λ_ _ _ _ _=>(zda zus zbfc (zbj (ze (zjo (pv 1)) zbc)) (zjo (pv 0)))) (N:=["rest","e"]) (k:=1) (is:=[3]) (zep (by rfl))) zbc)))))
 (zc (zi (zsz (zjo (pv 2))))))))
theorem zfk {Y:En}(T:TopF Y.K "products_of_degree" (top 23))(Ab:Y.mg "range"=none):Cl Y "products_of_degree" 11 ["n","d"] (iterF zo 10):=CalD.iter (L:=1) (zwq T Y.X Y.G zbp (λ_ _ _ _ _ _ us hl=>len2 us hl λ_ _=>rfl)) (λ_ _ _ _ _ h=>zbco h) (λF j hj hs c=>zec hj hs T Ab c) 10
theorem zot {Y:En}(T:TopF Y.K "places_of" (top 31))(Al:Y.mg "enumerate"=none):Cl Y "places_of" 1 ["products"] zfh:=cmk ["products","told","place","product"] T λnd f cdv A outer s H E hr=>(za (sst nd zrd)
 (za (sfr (zlz rfl Al sv) (zen rfl (zq (sgn nd) (zq (sgn nd) zcu)))
 (zc (zpi (zqx hr) sv sv sv rfl)))
 (zc (zi sv))))
theorem zka {Y:En}(T:TopF Y.K "parts_enough" (top 29))  : Cl Y "parts_enough" 1 ["d"] zcp:=cmk ["d","told","k"] T λnd f cdv A outer s H E hr=>(za (sst nd (zdb zbc))
 (za (sst nd zd)
 (za (zgk xhs (zp zbfa (zge λ_ _ _ _=>.bl _) (zda zmz (oI_D λ_ _ _ _=>.int _) zd sv) sv (nomark _)) (za (zbl (zdx sv (sa1 sv)))
 (zc (sst nd (zda zmz (oI_D λ_ _ _ _=>.int _) zd sv)))))
 (zc (zi (zsz sv))))))
theorem zha {Y:En}(T:TopF Y.K "raised_products" (top 30))(A9:Cl Y "parts_enough" 1 ["d"] zcp)(Am:Cl Y "products_of_degree" 11 ["n","d"] (iterF zo 10)):Cl Y "raised_products" 12 ["n","d"] zbt:=cmk ["n","d","told","k"] T λnd f cdv A outer s H E hr=>(za (sst nd (zdb zbc))
 (za (sfr (zba (scl A9 hr (sa1 sv))) (sgn nd)
 (zc (zbl (zdw sv (sa1 (scp ["product","k"] (zba (scl Am hr (sa2 sv (ssb sv sv)))) (λ_ _ _ _ _=>(zbj (sa2 sv sv)))))))))
 (zc (zi (zsz sv)))))
theorem zsf {Y:En}(T:TopF Y.K "lessened" (top 33))  : Cl Y "lessened" 1 ["leads","number"] zdq:=cmk ["leads","number","used","two"] T λnd f cdv A outer s H E hr=>(za (sst nd zd)
 (za (zgk xhs (JW.pt (zbct (zbk sv) (zem (zblm (zbjp (zqx hr) (zre sv) sv)) (by first | exact Or.inl rfl | exact Or.inr rfl)))) (za (sst nd (zwd (zqx hr) sv (zre sv) (λ_ _=>rfl)))
 (za (sst nd (zda zbjv (zge λ_ _ _ _=>.int _) sv (zdc sv zd (λ_ _=>rfl))))
 (zc (sst nd (zda zbjv (zge λ_ _ _ _=>.int _) sv (zdc sv zd (λ_ _=>rfl))))))))
 (zc (zi (zbj (sa2 sv sv))))))
theorem zou {Y:En}(T:TopF Y.K "as_number" (top 32))  : Cl Y "as_number" 1 ["places","some"] zcs:=cmk ["places","some","told","product"] T λnd f cdv A outer s H E hr=>(za (sst nd zd)
 (za (sfr (zba sv) (sgn nd)
 (zc (sst nd (zda zbpj (zge λ_ _ _ _=>.int _) sv (zda zza (oI_D λ_ _ _ _=>.int _) zd (zwf (zqx hr) sv sv (λ_ _=>rfl)))))))
 (zc (zi sv))))
theorem zsg {Y:En}(T:TopF Y.K "is_whole" (top 7))(Ar:Y.mg "bool"=none)(Ae:Y.mg "isinstance"=none)(Ag:Y.mg "int"=none):Cl Y "is_whole" 1 ["thing"] zbg:=cmk ["thing"] T λnd f cdv A outer s H E hr=>(zc (zi (zwg (zg zbi zcg rfl Ae zbb (sa2 sv (zic (zfn (v:=.ty "int") rfl Ag zsv rfl) (λ_ _=>.ty _)))) (zwc (zbap (zg zbi zcg rfl Ae zbb (sa2 sv (zic (zfn (v:=.ty "bool") rfl Ar zbdc rfl) (λ_ _=>.ty _)))))))))
theorem zzc {Y:En}(T:TopF Y.K "shares" (top 11))  : Cl Y "shares" 1 ["e","least","most"] zmh:=cmk ["e","least","most","told","j"] T λnd f cdv A outer s H E hr=>(za (sst nd (zdb zbc))
 (za (sst nd zd)
 (za (zgk xhs (zp zbfa (zge λ_ _ _ _=>.bl _) sv sv (nomark _)) (za (zbo (zp zbpn (zge λ_ _ _ _=>.bl _) sv sv (nomark _)) (zc (zbl (zdx sv (sa1 sv)))) zy)
 (za (zbo (zp (ziy hr.units) zif sv sv (nomark _)) (zc zbai) zy)
 (zc (sst nd (zda zsc (zge λ_ _ _ _=>.int _) (ssb sv sv) sv))))))
 (zc (zi (zsz sv))))))
theorem ziz {Y:En}(T:TopF Y.K "letter_raised" (top 12))(Ba:Cl Y "shares" 1 ["e","least","most"] zmh):Cl Y "letter_raised" 2 ["partly","e","rest"] zch:=cmk ["partly","e","rest","told","made","left","j"] T λnd f cdv A outer s H E hr=>(za (sst nd (zdb zbc))
 (za (sfr (zba sv) (zen rfl (zq (sgn nd) (zq (sgn nd) zcu)))
 (zc (sfr (zba (scl Ba hr (ze sv (sa2 (ssb sv sv) sv)))) (sgn nd)
 (zc (zbl (zdx sv (sa1 (zbj (sa2 (sad sv (zbj (sa1 (sad sv sv)))) (ssb sv sv))))))))))
 (zc (zi (zsz sv)))))
theorem zhy {Y:En}(T:TopF Y.K "product_raised" (top 13))(Ah:Y.mg "sum"=none)(Bb:Cl Y "letter_raised" 2 ["partly","e","rest"] zch):Cl Y "product_raised" 3 ["product","k"] zbz:=cmk ["product","k","partly","rest","e"] T λnd f cdv A outer s H E hr=>(za (sst nd (zkg (sa1 (zbj (sa2 (zbj zbc) sv)))))
 (za (sst nd (zg (zff rfl) zsx rfl Ah zsu (sa1 sv)))
 (za (sfr (zba sv) (sgn nd)
 (za (zbcw (i:=3) nd rfl (Or.inl rfl) sv zbqi ip_D)
 (zc (sst nd (scl Bb hr (ze sv (sa2 sv sv)))))))
 (zc (zi (zeo rfl (zba sv) (λ_ _ _ _ _=>(zen rfl (zq (zbq (i:=0) (show(["made","left"]:List Str).Nodup from by decide +kernel) rfl (Or.inl rfl)) (zq (zbq (i:=1) (show(["made","left"]:List Str).Nodup from by decide +kernel) rfl (Or.inl rfl)) zcu)))) (λ_ _ _ _ _=>zjn) (λ_ _ _ _ _=>sv) (N:=["made","left"]) (k:=2) (is:=[]) (zep (by rfl))))))))
theorem zbkb {Y:En}(T:TopF Y.K "flip" (top 8))  : Cl Y "flip" 1 ["kept","thing"] zpu:=cmk ["kept","thing"] T λnd f cdv A outer s H E hr=>(zc (zbo (zblm (zbpg (zqx hr) sv sv)) (zc (zbl (zbmd (zqx hr) sv sv ⟨rfl,rfl,rfl,rfl⟩))) (zc (zpi (zqx hr) sv sv zxm rfl))))
theorem zzd {Y:En}(T:TopF Y.K "raised" (top 14))(Ah:Y.mg "sum"=none)(Af:Y.mg "sorted"=none)(Ac:Y.mg "tuple"=none)(As:Cl Y "is_whole" 1 ["thing"] zbg)(Bc:Cl Y "product_raised" 3 ["product","k"] zbz)(Au:Cl Y "flip" 1 ["kept","thing"] zpu):Cl Y "raised" 4 ["some","k"] zmi:=cmk ["some","k","kept","product","made"] T λnd f cdv A outer s H E hr=>(za (zbo (JW.pt (zfu (zcz (zbk (scl As hr (sa1 sv)))) (zem (zp (znb hr.units0) zni sv zd (nomark _)) (by first | exact Or.inl rfl | exact Or.inr rfl)))) (zc zih) zy)
 (za (sst nd zrd)
 (za (sfr (zba sv) (sgn nd)
 (zc (zbo (zp zbfa (zge λ_ _ _ _=>.bl _) sv (zg (zff rfl) zsx rfl Ah zsu (sa1 sv)) (nomark _)) (zc (sfr (zba (scl Bc hr (sa2 sv sv))) (sgn nd)
 (zc (zbl (scl Au hr (sa2 sv sv)))))) zy)))
 (zc (zi (zbs zbw zhi rfl Ac zck (sa1 (zg (zfv rfl hr.units) zmf rfl Af zfg (sa1 sv)))))))))
theorem zov {Y:En}(T:TopF Y.K "all_leads" (top 34))(Aa:Y.mg "len"=none)(Bd:Cl Y "raised_products" 12 ["n","d"] zbt)(Av:Cl Y "lessened" 1 ["leads","number"] zdq)(Aw:Cl Y "as_number" 1 ["places","some"] zcs)(Be:Cl Y "raised" 4 ["some","k"] zmi):Cl Y "all_leads" 13 ["n","d","places"] zfj:=cmk ["n","d","places","leads","sources","k","product","left"] T λnd f cdv A outer s H E hr=>(za (sst nd zwe)
 (za (sst nd (zdb zbc))
 (za (sfr (zba (scl Bd hr (sa2 sv sv))) (zen rfl (zq (sgn nd) (zq (sgn nd) zcu)))
 (za (sst nd (scl Av hr (sa2 sv (scl Aw hr (sa2 sv (scl Be hr (sa2 (zbj (sa1 sv)) sv)))))))
 (zc (zbo (zbk (zdc sv zd (λ_ _=>rfl))) (za (zbgh (zqx hr) sv (zre (zdc sv zd (λ_ _=>rfl))) (zbj (sa2 (zdc sv zd (λ_ _=>rfl)) (zda zbpj (zge λ_ _ _ _=>.int _) (zdc sv zd (λ_ _=>rfl)) (zda zza (oI_D λ_ _ _ _=>.int _) zd (zg zt zhj rfl Aa zhg (sa1 sv)))))) rfl)
 (zc (zbl (zdx sv (sa1 (zbj (sa2 sv sv))))))) zy))))
 (zc (zi (zbj (sa2 sv (zsz sv))))))))
theorem zkb {Y:En}(T:TopF Y.K "ones_counted" (top 26))  : Cl Y "ones_counted" 1 ["number"] zdy:=cmk ["number","told"] T λnd f cdv A outer s H E hr=>(za (sst nd zd)
 (za (zgk xhs (zbk sv) (za (sst nd (zda zsc (zge λ_ _ _ _=>.int _) sv (ssb sv zd)))
 (zc (zbcw (i:=1) nd rfl (Or.inl rfl) zd zbqj ip_D))))
 (zc (zi sv))))
theorem zlj {Y:En}(T:TopF Y.K "row_against" (top 36))(Af:Y.mg "sorted"=none)(Bf:Cl Y "ones_counted" 1 ["number"] zdy):Cl Y "row_against" 2 ["leads","length"] zet:=cmk ["leads","length","row","longer"] T λnd f cdv A outer s H E hr=>(za (sst nd (zda zza (oI_D λ_ _ _ _=>.int _) zd (ssb sv zd)))
 (za (sfr (zba (zg (zhs rfl) zrp rfl Af zfg (sa1 sv))) (sgn nd)
 (zc (zbo (zp (ziy hr.units) zif (zda zna (oI_D λ_ _ _ _=>.int _) (scl Bf hr (sa1 (zda zsc (zge λ_ _ _ _=>.int _) sv (zdc (zwd (zqx hr) sv sv (λ_ _=>rfl)) zd (λ_ _=>rfl))))) zd) zd (nomark _)) (zc (sst nd (zda zbpj (zge λ_ _ _ _=>.int _) sv (zda zza (oI_D λ_ _ _ _=>.int _) zd (ssb sv zd))))) zy)))
 (zc (zi sv))))
theorem zse {Y:En}(T:TopF Y.K "odd_ones" (top 9))(Af:Y.mg "sorted"=none)(Ac:Y.mg "tuple"=none)(Au:Cl Y "flip" 1 ["kept","thing"] zpu):Cl Y "odd_ones" 2 ["things"] zgp:=cmk ["things","kept","thing"] T λnd f cdv A outer s H E hr=>(za (sst nd zrd)
 (za (sfr (zba sv) (sgn nd)
 (zc (zbl (scl Au hr (sa2 sv sv)))))
 (zc (zi (zbs zbw zhi rfl Ac zck (sa1 (zg (zfv rfl hr.units) zmf rfl Af zfg (sa1 sv))))))))
theorem znf {Y:En}(T:TopF Y.K "is_product" (top 18))(Aa:Y.mg "len"=none)(Ac:Y.mg "tuple"=none)(Ae:Y.mg "isinstance"=none)(Ao:Y.mg "all"=none)(As:Cl Y "is_whole" 1 ["thing"] zbg):Cl Y "is_product" 2 ["n","thing"] zea:=cmk ["n","thing"] T λnd f cdv A outer s H E hr=>(za (zbo (JW.pt (zfu (zcz (zbk (zg zbi zcg rfl Ae zbb (sa2 sv (zic (zfn (v:=.ty "tuple") rfl Ac zck rfl) (λ_ _=>.ty _)))))) (zem (zp (zgy hr.units) zif (zg zt zhj rfl Aa zhg (sa1 sv)) sv (nomark _)) (by first | exact Or.inl rfl | exact Or.inr rfl)))) (zc (zi zxm)) zy)
 (zc (zi (zg (zpo rfl) zwz rfl Ao zbgw (sa1 (scp ["e"] (zba sv) (λ_ _ _ _ _=>(zwg (scl As hr (sa1 sv)) (zwc (zjp zbpn (zge λ_ _ _ _=>.bl _) sv zd (nomark _)))))))))))
theorem zzb {Y:En}(T:TopF Y.K "sum_of" (top 19))(Al:Y.mg "enumerate"=none)(Bg:Cl Y "is_product" 2 ["n","thing"] zea)(Bh:Cl Y "odd_ones" 2 ["things"] zgp):Cl Y "sum_of" 3 ["n","things"] zij:=cmk ["n","things","at","thing"] T λnd f cdv A outer s H E hr=>(za (sfr (zlz rfl Al sv) (zen rfl (zq (sgn nd) (zq (sgn nd) zcu)))
 (zc (zbo (zcz (zbk (scl Bg hr (sa2 sv sv)))) (zc zih) zy)))
 (zc (zi (scl Bh hr (sa1 sv)))))
theorem zsd {Y:En}(T:TopF Y.K "pairs_of" (top 35))(Al:Y.mg "enumerate"=none)(Af:Y.mg "sorted"=none)(Ac:Y.mg "tuple"=none)(Bi:Cl Y "sum_of" 3 ["n","things"] zij):Cl Y "pairs_of" 4 ["n","sources","used"] zgo:=cmk ["n","sources","used","products","number","source"] T λnd f cdv A outer s H E hr=>(za (sst nd zwe)
 (za (sfr (zlz rfl Al sv) (zen rfl (zq (sgn nd) (zq (sgn nd) zcu)))
 (zc (zbo (zbk (zda zsc (zge λ_ _ _ _=>.int _) (zda zbjw (oI_D λ_ _ _ _=>.int _) sv sv) zd)) (zc (zbl (zdx (zbgo sv (sa2 (zdc sv zd (λ_ _=>rfl)) (zdb zbc))) (sa1 (zdc sv zd (λ_ _=>rfl)))))) zy)))
 (zc (zi (zbs zbw zhi rfl Ac zck (sa1 (scp ["k","n","products"] (zba (zg (zhs rfl) zrp rfl Af zfg (sa1 sv))) (λ_ _ _ _ _=>(zbj (sa2 sv (scl Bi hr (sa2 sv (zsz (zwd (zqx hr) sv sv (λ_ _=>rfl)))))))))))))))
theorem zze {Y:En}(T:TopF Y.K "judged" (top 37))(Ac:Y.mg "tuple"=none)(Bj:Cl Y "one_degree" 4 ["n","some"] zcw)(Am:Cl Y "products_of_degree" 11 ["n","d"] (iterF zo 10))(Bk:Cl Y "places_of" 1 ["products"] zfh)(Bl:Cl Y "all_leads" 13 ["n","d","places"] zfj)(Av:Cl Y "lessened" 1 ["leads","number"] zdq)(Aw:Cl Y "as_number" 1 ["places","some"] zcs)(Bm:Cl Y "pairs_of" 4 ["n","sources","used"] zgo)(Bn:Cl Y "row_against" 2 ["leads","length"] zet):Cl Y "judged" 14 ["n","some"] zew:=cmk ["n","some","d","products","places","found","left","row"] T λnd f cdv A outer s H E hr=>(za (sst nd (scl Bj hr (sa2 sv sv)))
 (za (zbo (zp zbpl zbpr sv zkf (nomark _)) (zc (zi (zbj (ze zke (ze sv (sa2 sv (zbj zbc))))))) zy)
 (za (sst nd (scl Am hr (sa2 sv sv)))
 (za (sst nd (scl Bk hr (sa1 sv)))
 (za (sst nd (scl Bl hr (ze sv (sa2 sv sv))))
 (za (sst nd (scl Av hr (sa2 (zdc sv zd (λ_ _=>rfl)) (scl Aw hr (sa2 sv sv)))))
 (za (zbo (zp (ziy hr.units) zif (zdc sv zd (λ_ _=>rfl)) zd (nomark _)) (zc (zi (zbj (ze zke (ze sv (sa2 sv (scl Bm hr (ze sv (sa2 (zdc sv zd (λ_ _=>rfl)) (zdc sv zd (λ_ _=>rfl))))))))))) zy)
 (za (sst nd (scl Bn hr (sa2 (zdc sv zd (λ_ _=>rfl)) (zre (zdc sv zd (λ_ _=>rfl))))))
 (zc (zi (zbj (ze zke (ze sv (sa2 sv (zbs zbw zhi rfl Ac zck (sa1 (zeo rfl (zba sv) (λ_ _ _ _ _=>(zbq (i:=0) (show(["product","row","places"]:List Str).Nodup from by decide +kernel) rfl (Or.inl rfl))) (λ_ _ _ _ _=>(zhf (zbk (zda zsc (zge λ_ _ _ _=>.int _) (zda zbjw (oI_D λ_ _ _ _=>.int _) sv (zwf (zqx hr) sv sv (λ_ _=>rfl))) zd)))) (λ_ _ _ _ _=>sv) (N:=["product","row","places"]) (k:=1) (is:=[7,4]) (zep (by rfl)))))))))))))))))))
theorem zlp {Y:En}(T:TopF Y.K "_law_degree" (top 45))(Ag:Y.mg "int"=none)(Ad:Cl Y "_law_take" 1 ["_law_bag_here","_law_many"] zr):Cl Y "_law_degree" 2 ["_law_bag_here","_law_n"] zdz:=cmk ["_law_bag_here","_law_n","_law_most"] T λnd f cdv A outer s H E hr=>(za (sst nd (zdc (zkg (ze zd (ze zd (ze zd (ze zd (ze zd (ze zd (ze zd (ze zd (sa2 zd zd)))))))))) (ssb sv zd) (λ_ _=>rfl)))
 (zc (zi (zdc (zkg (sa2 sv (scl Ad hr (sa2 sv (sad sv zd))))) (zbs zii zbbe rfl Ag zsv (sa1 (zjp zbjy (zge λ_ _ _ _=>.bl _) (scl Ad hr (sa2 sv zd)) zd (nomark _)))) (λ_ _=>rfl)))))
theorem zbpq {Y:En}   (F:Fun Y.K "law" "law" (top 52) f fd)(Aa:Y.mg "len"=none)(Ai:Y.mg "min"=none)(Ab:Y.mg "range"=none)(Ak:Y.mg "max"=none)(Bo:Cl Y "_law_bag" 1 ["_law_script","_law_at"] zgq)(Bp:Cl Y "_law_letters" 2 ["_law_bag_here"] zde)(A0:Cl Y "_law_made" 3 ["_law_bag_here","_law_n","_law_d"] zds)(Bq:Cl Y "_law_degree" 2 ["_law_bag_here","_law_n"] zdz)(A1:Cl Y "_law_judged" 3 ["_law_n","_law_some","_law_told"] zbv)(Ax:Cl Y "judged" 14 ["n","some"] zew)(Ad:Cl Y "_law_take" 1 ["_law_bag_here","_law_many"] zr):FnOk Y.P Y.w Y.K Y.mg Y.base CX0 15 f fd ["_law_script"] (spLaw Y.K) :=
 have sc:FnScope ["_law_script","_law_k","_law_bag_here","_law_n","_law_some","_law_few","_law_again"] ["_law_script"] (defScope (top 52)):=⟨rfl,rfl,rfl,by decide +kernel,rfl,by decide +kernel,by decide +kernel⟩
 have nd:=sc.nd
 zbks (k:=14) F sc rfl (λcdv A outer s H E hr=>(za (sfr (zbr rfl Ab (sa1 (sad (zg (zgm rfl) zbhl rfl Ai zws (sa2 zd (zg zt zhj rfl Aa zhg (sa1 sv)))) zd))) (sgn nd)
 (za (sst nd (scl Bo hr (sa2 sv sv)))
 (za (sst nd (scl Bp hr (sa1 sv)))
 (za (sst nd (scl A0 hr (ze sv (sa2 sv (zg (zbay rfl) zbhl rfl Ak zbmt (sa2 zd (scl Bq hr (sa2 sv sv))))))))
 (za (zbo (zp (zgy hr.units) zif (scl A1 hr (ze sv (sa2 sv (scl Ax hr (sa2 sv sv))))) zke (nomark _)) (zc (zi zxm)) zy)
 (za (sst nd (zg (zgm rfl) zbhl rfl Ai zws (sa2 sv zd)))
 (za (sst nd (scl A0 hr (ze sv (sa2 sv (sad zd (scl Ad hr (sa2 sv zd)))))))
 (za (sfr (zbr rfl Ab (sa1 zd)) (sgn nd)
 (zc (zbo (zp (zgy hr.units) zif (scl A1 hr (ze sv (sa2 sv (scl Ax hr (sa2 sv sv))))) zke (nomark _)) (zc (zi zxm)) zy)))
 (zc (zbo (zp (zgy hr.units) zif (scl Ax hr (sa2 sv (zbj zbc))) (zbj (ze zke (ze sv (sa2 (zbj zbc) (zbj zbc))))) (nomark _)) (zc (zi zxm)) zy))))))))))
 (zc (zi zxm)))) K56.holds
end
theorem all_mk {l:W.OpenLaw}  {K:Fg}      (X:K.In h)(G:h.Ns mainGlobals mg)(hfa:mg "law"=some (.ref fa))
  (t1:TopF K "_law_bag" (top 39))(t2:TopF K "_law_take" (top 40))(t3:TopF K "_law_letters" (top 44))(t4:TopF K "_law_odd" (top 41))(t5:TopF K "_law_raised" (top 47))(t6:TopF K "_law_of_degree" (top 46))(t7:TopF K "_law_made" (top 51))(t8:TopF K "_law_number" (top 42))(t9:TopF K "_law_all" (top 48))(t10:TopF K "_law_is_sum" (top 43))(t11:TopF K "_law_meets" (top 49))(t12:TopF K "_law_judged" (top 50))(t13:TopF K "degrees" (top 20))(t14:TopF K "most_degree" (top 21))(t15:TopF K "number_of_products" (top 22))(t16:TopF K "can_be_judged" (top 24))(t17:TopF K "bounded" (top 27))(t18:TopF K "one_degree" (top 28))(t19:TopF K "products_of_degree" (top 23))(t20:TopF K "places_of" (top 31))(t21:TopF K "parts_enough" (top 29))(t22:TopF K "raised_products" (top 30))(t23:TopF K "lessened" (top 33))(t24:TopF K "as_number" (top 32))(t25:TopF K "is_whole" (top 7))(t26:TopF K "shares" (top 11))(t27:TopF K "letter_raised" (top 12))(t28:TopF K "product_raised" (top 13))(t29:TopF K "flip" (top 8))(t30:TopF K "raised" (top 14))(t31:TopF K "all_leads" (top 34))(t32:TopF K "ones_counted" (top 26))(t33:TopF K "row_against" (top 36))(t34:TopF K "odd_ones" (top 9))(t35:TopF K "is_product" (top 18))(t36:TopF K "sum_of" (top 19))(t37:TopF K "pairs_of" (top 35))(t38:TopF K "judged" (top 37))(t39:TopF K "_law_degree" (top 45))(t40:TopF K "law" (top 52))  (z0:W.nsIn K mainGlobals "len"=some none)(z1:W.nsIn K mainGlobals "abs"=some none)(z2:W.nsIn K mainGlobals "min"=some none)(z3:W.nsIn K mainGlobals "range"=some none)(z4:W.nsIn K mainGlobals "sorted"=some none)(z5:W.nsIn K mainGlobals "tuple"=some none)(z6:W.nsIn K mainGlobals "max"=some none)(z7:W.nsIn K mainGlobals "int"=some none)(z8:W.nsIn K mainGlobals "list"=some none)(z9:W.nsIn K mainGlobals "bool"=some none)(z10:W.nsIn K mainGlobals "isinstance"=some none)(z11:W.nsIn K mainGlobals "all"=some none)(z12:W.nsIn K mainGlobals "zip"=some none)(z13:W.nsIn K mainGlobals "sum"=some none)(z14:W.nsIn K mainGlobals "any"=some none)(z15:W.nsIn K mainGlobals "set"=some none)(z16:W.nsIn K mainGlobals "enumerate"=some none)(y0:W.nsIn K mainGlobals "FEW_LETTERS"=some (some (.int 3 u0)))(y1:W.nsIn K mainGlobals "MOST_JUDGED"=some (some (.int 200 u1)))  :
  ∃ fd:FuncData,(∀(s:Shared) (v:Value),BindsTo s fd ⟨[v],[]⟩ [("_law_script", v)])/\∀ base:Heap,K.In base->base.Ns mainGlobals mg->FnOk l.prog w K mg base CX0 15 fa fd ["_law_script"] (spLaw K):=by
 have Aa:=xdb X G z0;have z_abs:=xdb X G z1;have Ai:=xdb X G z2;have Ab:=xdb X G z3;have Af:=xdb X G z4;have Ac:=xdb X G z5;have Ak:=xdb X G z6;have Ag:=xdb X G z7;have Aq:=xdb X G z8;have Ar:=xdb X G z9;have Ae:=xdb X G z10;have Ao:=xdb X G z11;have z_zip:=xdb X G z12;have Ah:=xdb X G z13;have z_any:=xdb X G z14;have z_set:=xdb X G z15;have Al:=xdb X G z16;have m_FEW_LETTERS:=xmp X G y0;have m_MOST_JUDGED:=xmp X G y1;obtain⟨f,fd,a,F⟩:=t40;have e:=hfa.symm.trans (xmp X G a);cases e;obtain⟨oc,od,kV,doc,pm,an,cdv,ct,osl,rfl,lk,hcd⟩:=id F.ex;refine⟨W.fnOf "law" "law" (defArgs (top 52)) (defBody (top 52)) (defScope (top 52)) .none kV doc pm an cdv ct,λs v=>.of_eq rfl,λbase _ _=>?_⟩
 let Y:En:=⟨l.prog,w,K,mg,base,h,X,G⟩
 have Bo:=zsi (Y:=Y) t1 Aa z_abs Ai Ab;have Ad:=zow (Y:=Y) t2;have Bp:=zkc (Y:=Y) t3 Ad;have Aj:=zsh (Y:=Y) t4 Af Ac;have An:=zll (Y:=Y) t5 Ai Ab Aj;have A2:=zhz (Y:=Y) t6 Ab Ak Ac Ad;have A0:=zox (Y:=Y) t7 Ag Ab Ai Aq Aa Ad An A2 Aj;have Ap:=zlm (Y:=Y) t8 Ar Ae Ag;have A3:=zsj (Y:=Y) t9 Ab;have Ay:=zlo (Y:=Y) t10 Ac Ae Aa Ao z_zip Ap;have Az:=zng (Y:=Y) t11 Aa;have A1:=zln (Y:=Y) t12 Aa Ac Ae Ah Ak z_any Ab Ag Aq Ap Ay A3 Az An Aj;have A7:=zuu (Y:=Y) t13 Ah Af z_set;have A5:=zlk (Y:=Y) t14 m_FEW_LETTERS;have A4:=zfl (Y:=Y) t15 Ab;have A6:=zja (Y:=Y) t16 m_MOST_JUDGED A4 A5;have A8:=zuv (Y:=Y) t17 A6;have Bj:=zne (Y:=Y) t18 Aa A7 A8;have Am:=zfk (Y:=Y) t19 Ab;have Bk:=zot (Y:=Y) t20 Al;have A9:=zka (Y:=Y) t21;have Bd:=zha (Y:=Y) t22 A9 Am;have Av:=zsf (Y:=Y) t23;have Aw:=zou (Y:=Y) t24
 have As:=zsg (Y:=Y) t25 Ar Ae Ag;have Ba:=zzc (Y:=Y) t26;have Bb:=ziz (Y:=Y) t27 Ba;have Bc:=zhy (Y:=Y) t28 Ah Bb;have Au:=zbkb (Y:=Y) t29;have Be:=zzd (Y:=Y) t30 Ah Af Ac As Bc Au;have Bl:=zov (Y:=Y) t31 Aa Bd Av Aw Be;have Bf:=zkb (Y:=Y) t32;have Bn:=zlj (Y:=Y) t33 Af Bf;have Bh:=zse (Y:=Y) t34 Af Ac Au;have Bg:=znf (Y:=Y) t35 Aa Ac Ae Ao As;have Bi:=zzb (Y:=Y) t36 Al Bg Bh;have Bm:=zsd (Y:=Y) t37 Al Af Ac Bi;have Ax:=zze (Y:=Y) t38 Ac Bj Am Bk Bl Av Aw Bm Bn;have Bq:=zlp (Y:=Y) t39 Ag Ad;exact zbpq (Y:=Y) F Aa Ai Ab Ak Bo Bp A0 Bq A1 Ax Ad
end K56
end
open PySem PySem.W PyProof.Rows
set_option maxRecDepth 100000 in
set_option maxHeartbeats 0 in
theorem PySem.Challenge.cw_raisedsums_k56_sums_judged_raised_holds : PySem.Challenge.rw_raisedsums_k56_sums_judged_raised.Holds := by
  w_on; o_law; k_head; (case hw => w_witness2)
  k_fill
  refine L2.zbhv (l := PySem.Challenge.rw_raisedsums_k56_sums_judged_raised) (n := 63) (k := 15) (x := "_law_script") (CX := fun _ => L2.CX0) (sp := fun w => Dd.spLaw _) rfl (by decide) rfl ⟨rfl, by decide, by decide⟩ (fun w h Y => PySem.W.kIn_of Y) ?F (fun _ _ a ns hl _ hS => ⟨a, ns, rfl, hS, hl, fun _ => rfl⟩) (fun _ _ _ _ _ z => z)
  case F =>
    intro w mg fa h KX G hmg
    refine' K56.all_mk KX G hmg ?t1 ?t2 ?t3 ?t4 ?t5 ?t6 ?t7 ?t8 ?t9 ?t10 ?t11 ?t12 ?t13 ?t14 ?t15 ?t16 ?t17 ?t18 ?t19 ?t20 ?t21 ?t22 ?t23 ?t24 ?t25 ?t26 ?t27 ?t28 ?t29 ?t30 ?t31 ?t32 ?t33 ?t34 ?t35 ?t36 ?t37 ?t38 ?t39 ?t40  ?z0 ?z1 ?z2 ?z3 ?z4 ?z5 ?z6 ?z7 ?z8 ?z9 ?z10 ?z11 ?z12 ?z13 ?z14 ?z15 ?z16 ?y0 ?y1 
    all_goals first|k_is|kernel_rfl|(refine' L2.zbd ?a ?l ?c ?k;(case a=>k_is);(case l=>k_is);(case c=>k_is);(case k=>k_is))|skip
#print axioms PySem.Challenge.cw_raisedsums_k56_sums_judged_raised_holds
