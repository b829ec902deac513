import PyProof.Rows.All
import Wide.All
import OpenK.AllK
import Wide.FinOn
import PyProof.EqAt
import PyProof.EqKinds
import PyProof.TupleCall
import PySem.Challenge.RW_raisedsums_k62_whole_halving
set_option Elab.async false
set_option linter.all false
set_option maxRecDepth 100000
noncomputable section
namespace PySem.W.Fast
theorem tw9710033963840360126:True:=⟨⟩
theorem tw4429535412056313738:True:=⟨⟩
theorem tw7028061913236377507:True:=⟨⟩
theorem tw6263277071060281894:True:=⟨⟩
theorem tw9314316549287881680:True:=⟨⟩
theorem tw1277730208511702535:True:=⟨⟩
theorem tw7770758367241896208:True:=⟨⟩
theorem tw12221781549384147737:True:=⟨⟩
theorem tw15300681441904264292:True:=⟨⟩
theorem tw1047409214508732553:True:=⟨⟩
theorem tw1170272148102407300:True:=⟨⟩
theorem tw1518465911320707590:True:=⟨⟩
theorem tw4855989445565569440:True:=⟨⟩
theorem tw17275411815064181148:True:=⟨⟩
theorem tw14896701214343416522:True:=⟨⟩
theorem tw3792253548360376587:True:=⟨⟩
theorem tw13469325902564702786:True:=⟨⟩
theorem tw3307480739832037296:True:=⟨⟩
theorem tw15942221060331596741:True:=⟨⟩
theorem tw14970401094286883424:True:=⟨⟩
theorem tw1309462921987005420:True:=⟨⟩
theorem tw14749952505216922502:True:=⟨⟩
theorem tw285073864539895177:True:=⟨⟩
theorem tw2060305979005932482:True:=⟨⟩
theorem tw5026102839254222791:True:=⟨⟩
theorem tw11186806392040078790:True:=⟨⟩
theorem tw2300940786728968644:True:=⟨⟩
theorem tw1014932285174051274:True:=⟨⟩
theorem tw5714671166343172930:True:=⟨⟩
theorem tw12437410071335307330:True:=⟨⟩
theorem tw14203808434814960539:True:=⟨⟩
theorem tw4859896779011581871:True:=⟨⟩
theorem tw15799050630496466246:True:=⟨⟩
theorem tw12983401748914497759:True:=⟨⟩
theorem tw4360405803596505398:True:=⟨⟩
theorem tw7137617810197000689:True:=⟨⟩
theorem tw14294294815780324453:True:=⟨⟩
theorem tw10631030135357464509:True:=⟨⟩
theorem tw14479009424081126533:True:=⟨⟩
theorem tw7313622742909842326:True:=⟨⟩
theorem tw16833034932783511194:True:=⟨⟩
theorem tw2837234125321889679:True:=⟨⟩
theorem tw6097726674081977978:True:=⟨⟩
theorem tw12145050280644256683:True:=⟨⟩
theorem tw2134069602332954029:True:=⟨⟩
theorem tw951967522333330440:True:=⟨⟩
theorem tw15470104355922871514:True:=⟨⟩
theorem tw12556892808522265866:True:=⟨⟩
theorem tw14242307206513462396:True:=⟨⟩
theorem tw13379388822941887722:True:=⟨⟩
theorem tw5077234312747402654:True:=⟨⟩
theorem tw7178940012237698810:True:=⟨⟩
theorem tw3769092706378847993:True:=⟨⟩
theorem tw11597404019194856989:True:=⟨⟩
theorem tw12789271685952515323:True:=⟨⟩
theorem tw10135750115831275560:True:=⟨⟩
theorem tw8912787673424876736:True:=⟨⟩
theorem tw6800828450560280077:True:=⟨⟩
theorem tw10438028934090965958:True:=⟨⟩
theorem tw14208922397907566430:True:=⟨⟩
theorem tw14583617171215122071:True:=⟨⟩
theorem tw2985459521601830906:True:=⟨⟩
theorem tw15506499543639490192:True:=⟨⟩
theorem tw6320433791037798321:True:=⟨⟩
theorem tw13262214827776207819:True:=⟨⟩
theorem tw8256581603955491661:True:=⟨⟩
theorem tw5744528620189462637:True:=⟨⟩
theorem tw17495626034280289672:True:=⟨⟩
theorem tw13190759839265269357:True:=⟨⟩
theorem tw16455530311085475143:True:=⟨⟩
theorem tw4721887171381314944:True:=⟨⟩
theorem tw8997691365579139993:True:=⟨⟩
theorem tw16739742836530531254:True:=⟨⟩
theorem tw12064771231725660798:True:=⟨⟩
theorem tw11497092873291406860:True:=⟨⟩
theorem tw5427451272494984707:True:=⟨⟩
theorem tw8808887133345369541:True:=⟨⟩
theorem tw3252812834901083144:True:=⟨⟩
theorem tw17962930675686308971:True:=⟨⟩
theorem tw7072268742530305531:True:=⟨⟩
theorem tw3310763497142467914:True:=⟨⟩
theorem tw16648056743864206259:True:=⟨⟩
theorem tw4193236935648962780:True:=⟨⟩
theorem tw2806477498288576088:True:=⟨⟩
theorem tw3161996508169453984:True:=⟨⟩
theorem tw13927320613325085740:True:=⟨⟩
end PySem.W.Fast
set_option genSizeOfSpec false
set_option genInjectivity false
abbrev Fg:=PySem.W.Frag
abbrev xba:=@PySem.wpAny_bind
abbrev xbb:=@List.length_map
abbrev xbc:=@Nat.le_trans
abbrev xbd:=@List.getElem?_eq_getElem
abbrev xbe:=@PySem.wpAny_pure
abbrev xbf:=@Nat.le_refl
abbrev xbg:=@List.getElem?_eq_some_iff
abbrev xbh:=@Nat.lt_of_lt_of_le
abbrev xbi:=@List.length_append
abbrev xbj:=@List.getD_eq_getElem?_getD
abbrev xbk:=@List.mem_map
abbrev xbl:=@PyProof.Rows.wpS_bind
abbrev xbm:=@List.mem_cons_of_mem
abbrev xbn:=@PySem.Heap.get?_push_of_some
abbrev xbo:=@PyProof.Rows.wpS_pure
abbrev xbp:=@List.mem_cons_self
abbrev xbq:=@List.mem_singleton
abbrev xbr:=@List.mem_append
abbrev xbs:=@List.mem_cons
abbrev xbt:=@List.size_toArray
abbrev xbu:=@List.map_cons
abbrev xbv:=@decide_eq_true
abbrev xbw:=@List.getElem?_append_left
abbrev xbx:=@PySem.Heap.lt_size
abbrev xby:=@decide_eq_false
abbrev xbz:=@List.mem_of_getElem?
abbrev xca:=@Nat.le_of_lt
abbrev xcb:=@List.length_cons
abbrev xcc:=@Nat.le_add_right
abbrev xcd:=@Array.length_toList
abbrev xce:=@List.take_length
abbrev xcf:=@List.mem_range
abbrev xcg:=@PySem.Heap.get?_push_size
abbrev xch:=@Array.getElem?_toList
abbrev xci:=@Nat.ne_of_lt
abbrev xcj:=@Nat.le_of_not_lt
abbrev xck:=@List.append_assoc
abbrev xcl:=@List.getElem?_set_ne
abbrev xcm:=@Nat.add_sub_cancel'
abbrev xcn:=@Nat.add_le_add_left
abbrev xco:=@List.getElem?_map
abbrev xcp:=@List.filter_cons_of_pos
abbrev xcq:=@Bool.false_eq_true
abbrev xcr:=@List.map_map
abbrev xcs:=@Nat.le_of_lt_succ
abbrev xct:=@List.getElem?_append_right
abbrev xcu:=@List.length_take
abbrev xcv:=@Option.some.inj
abbrev xcw:=@Array.getD_eq_getD_getElem?
abbrev xcx:=@List.filter_cons_of_neg
abbrev xcy:=@List.append_nil
abbrev xcz:=@of_decide_eq_true
abbrev xda:=@List.getElem_mem
abbrev xdb:=@Nat.le_of_eq
abbrev xdc:=@Nat.add_sub_cancel_left
abbrev xdd:=@Array.getElem?_eq_getElem
abbrev xde:=@List.mem_append_right
abbrev xdf:=@List.take_append_drop
abbrev xdg:=@Nat.lt_of_le_of_lt
abbrev xdh:=@Nat.lt_of_le_of_ne
abbrev xdi:=@PySem.W.mg_none_of
abbrev xdj:=@Option.map_eq_some_iff
abbrev xdk:=@List.take_of_length_le
abbrev xdl:=@Nat.le_sub_one_of_lt
abbrev xdm:=@Nat.xor_assoc
abbrev xdn:=@List.all_eq_true
abbrev xdo:=@List.mem_filter
abbrev xdp:=@List.find?_cons
abbrev xdq:=@Nat.le_of_succ_le
abbrev xdr:=@List.map_append
abbrev xds:=@Nat.le_of_add_left_le
abbrev xdt:=@Nat.zero_add
abbrev xdu:=@Array.toList_append
abbrev xdv:=@List.getElem?_set_self
abbrev xdw:=@List.filterMap_cons_some
abbrev xdx:=@Nat.mod_two_eq_zero_or_one
abbrev xdy:=@PyProof.Rows.wpS_forRange
abbrev xdz:=@Nat.le_antisymm
abbrev xea:=@Nat.sub_lt_left_of_lt_add
abbrev xeb:=@List.mem_append_left
abbrev xec:=@List.idxOf_lt_length_of_mem
abbrev xed:=@Nat.add_lt_of_lt_sub'
abbrev xee:=@Nat.zero_le
abbrev xef:=@Int.toNat_natCast
abbrev xeg:=@Nat.xor_zero
abbrev xeh:=@if_false
abbrev xei:=@List.length_set
abbrev xej:=@List.sum_append
abbrev xek:=@List.filterMap_cons_none
abbrev xel:=@List.mem_flatMap
abbrev xem:=@List.getElem_of_mem
abbrev xen:=@Nat.add_lt_add_left
abbrev xeo:=@List.length_range
abbrev xep:=@PySem.wpAny_newObj_type
abbrev xeq:=@Option.bind_eq_some_iff
abbrev xer:=@Ne.symm
abbrev xes:=@if_true
abbrev xet:=@List.nodup_cons
abbrev xeu:=@Nat.sub_lt_sub_right
abbrev xev:=@Nat.min_eq_left
abbrev xew:=@List.mem_of_mem_take
abbrev xex:=@Nat.pow_le_pow_right
abbrev xey:=@Nat.not_lt_of_le
abbrev xez:=@Nat.testBit_lt_two_pow
abbrev xfa:=@PySem.wpAny_call_entry
abbrev xfb:=@List.pairwise_iff_getElem
abbrev xfc:=@PySem.Heap.SameBut.update
abbrev xfd:=@Array.toList_push
abbrev xfe:=@PySem.wpAny_holding
abbrev xff:=@Nat.lt_or_ge
abbrev xfg:=@Nat.le_sub_of_add_le'
abbrev xfh:=@List.length_filter_le
abbrev xfi:=@PySem.W.kia_one
abbrev xfj:=@List.filter_append
abbrev xfk:=@Nat.succ_le_succ
abbrev xfl:=@Nat.mul_le_mul_right
abbrev xfm:=@PySem.wpAny_mono
abbrev xfn:=@Array.perm_iff_toList_perm
abbrev xfo:=@Nat.lt_of_succ_lt
abbrev xfp:=@beq_eq_false_iff_ne
abbrev xfq:=@List.drop_eq_getElem_cons
abbrev xfr:=@List.Nodup.length_le_of_subset
abbrev xfs:=@PySem.Heap.get?_update_self
abbrev xft:=@Bool.false_ne_true
abbrev xfu:=@Nat.min_le_right
abbrev xfv:=@List.lookup_cons
abbrev xfw:=@List.getElem?_drop
abbrev xfx:=@Nat.xor_self
abbrev xfy:=@PyProof.Rows.wpS_mono
abbrev xfz:=@PySem.F.slot_dict_keyiterator_next
abbrev xga:=@Nat.sub_le_sub_right
abbrev xgb:=@List.pairwise_append
abbrev xgc:=@Nat.sub_pos_of_lt
abbrev xgd:=@Nat.le_succ_of_le
abbrev xge:=@and_self
abbrev xgf:=@decide_false
abbrev xgg:=@Bool.and_eq_true
abbrev xgh:=@Nat.lt_of_not_le
abbrev xgi:=@List.Perm.append_left
abbrev xgj:=@List.Pairwise.sublist
abbrev xgk:=@Nat.lt_of_lt_of_eq
abbrev xgl:=@List.pairwise_cons
abbrev xgm:=@decide_true
abbrev xgn:=@Nat.sub_le
abbrev xgo:=@List.count_append
abbrev xgp:=@PySem.wpAny_truthy_bool
abbrev xgq:=@Nat.lt_irrefl
abbrev xgr:=@List.sum_cons
abbrev xgs:=@PySem.wpAny_typeNameOfWhole_keyiter
abbrev xgt:=@Int.eq_ofNat_of_zero_le
abbrev xgu:=@PySem.mem_of_lookup
abbrev xgv:=@Nat.sub_le_sub_left
abbrev xgw:=@List.length_drop
abbrev xgx:=@List.nodup_nil
abbrev xgy:=@beq_self_eq_true
abbrev xgz:=@decide_eq_decide
abbrev xha:=@beq_iff_eq
abbrev xhb:=@PyProof.Rows.wpS_modify
abbrev xhc:=@PyProof.Rows.callWith_type1
abbrev xhd:=@Nat.sub_add_cancel
abbrev xhe:=@Int.zero_add
abbrev xhf:=@Nat.zero_xor
abbrev xhg:=@List.getElem_idxOf
abbrev xhh:=@PySem.tupleKind_room_in1
abbrev xhi:=@List.length_replicate
abbrev xhj:=@Bool.eq_iff_iff
abbrev xhk:=@List.perm_append_comm
abbrev xhl:=@List.foldl_cons
abbrev xhm:=@List.getElem?_eq_none
abbrev xhn:=@PySem.PassesOwn.never
abbrev xho:=@PySem.wpAny_passesOwn
abbrev xhp:=@List.any_cons
abbrev xhq:=@Nat.lt_succ_of_lt
abbrev xhr:=@List.foldl_append
abbrev xhs:=@List.filter_congr
abbrev xht:=@List.mem_of_mem_drop
abbrev xhu:=@PySem.sizeLine_eq
abbrev xhv:=@List.take_succ_eq_append_getElem
abbrev xhw:=@PySem.F.called_set
abbrev xhx:=@List.cons_append
abbrev xhy:=@Nat.testBit_two_pow
abbrev xhz:=@PyProof.Rows.slot_tuple_getitem
abbrev xia:=@List.countP_cons_of_pos
abbrev xib:=@Nat.lt_add_of_pos_right
abbrev xic:=@List.pairwise_singleton
abbrev xid:=@PySem.Paired.length
abbrev xie:=@PyProof.Rows.wpS_get
abbrev xig:=@PySem.Calls.spliced_cons
abbrev xih:=@List.range_succ
abbrev xii:=@PySem.Obj.data_mapFields
abbrev xij:=@Nat.sub_lt
abbrev xik:=@Nat.min_le_left
abbrev xil:=@List.find?_eq_none
abbrev xim:=@Nat.eq_zero_or_pos
abbrev xin:=@List.count_pos_iff
abbrev xio:=@List.count_eq_zero
abbrev xip:=@Nat.testBit_xor
abbrev xiq:=@PySem.wpAny_rule
abbrev xir:=@PySem.Calls.callWith_builtin
abbrev xis:=@List.Perm.append_right
abbrev xit:=@List.drop_eq_nil_of_le
abbrev xiu:=@List.pairwise_map
abbrev xiv:=@List.nodup_append
abbrev xiw:=@PySem.wpAny_pyIter_list
abbrev xix:=@PySem.wpAny_dictEntries
abbrev xiy:=@List.length_singleton
abbrev xiz:=@Nat.lt_trans
abbrev xja:=@PySem.Obj.isFreed_of_fields
abbrev xjb:=@Nat.add_zero
abbrev xjc:=@Array.extract_eq_empty_of_le
abbrev xjd:=@List.set_append_right
abbrev xje:=@Nat.min_eq_right
abbrev xjf:=@Array.toList_reverse
abbrev xjg:=@List.reverse_reverse
abbrev xjh:=@Nat.lt_succ_self
abbrev xji:=@List.any_eq_true
abbrev xjj:=@List.dropLast_concat
abbrev xjk:=@Nat.zero_testBit
abbrev xjl:=@PySem.wpAny_askSetting
abbrev xjm:=@Array.getElem?_setIfInBounds_self_of_lt
abbrev xjn:=@Bool.and_true
abbrev xjo:=@List.map_congr_left
abbrev xjp:=@List.mem_of_find?_eq_some
abbrev xjq:=@Int.emod_nonneg
abbrev xjr:=@List.count_cons
abbrev xjs:=@PySem.wpAny_ite_split
abbrev xjt:=@Nat.ne_of_gt
abbrev xju:=@Option.isSome_iff_exists
abbrev xjv:=@PySem.F.args_tuple_add_2
abbrev xjw:=@Nat.sub_self
abbrev xjx:=@Nat.succ_mul
abbrev xjy:=@List.Nodup.idxOf_getElem
abbrev xjz:=@PySem.wpAny_Call_Name_kw
abbrev xka:=@PyProof.Rows.slot_tuple_getitem
abbrev xkb:=@Bool.and_false
abbrev xkc:=@PySem.wpAny_setField
abbrev xkd:=@PySem.F.entry_tuple_add
abbrev xke:=@PySem.F.plainAttrs_dict
abbrev xkf:=@List.countP_cons_of_neg
abbrev xkg:=@List.getElem?_cons_succ
abbrev xkh:=@List.length_eq_zero_iff
abbrev xki:=@List.eraseIdx_cons_succ
abbrev xkj:=@PySem.Calls.spliced_nil
abbrev xkk:=@List.take_sublist
abbrev xkl:=@Nat.zero_lt_of_lt
abbrev xkm:=@List.drop_sublist
abbrev xkn:=@List.ext_getElem?
abbrev xko:=@List.flatMap_cons
abbrev xkp:=@PySem.wpAny_setState_of
abbrev xkq:=@PySem.F.slot_tuple_add
abbrev xkr:=@Array.getElem?_eq_none
abbrev xks:=@Nat.le_mul_of_pos_left
abbrev xkt:=@Nat.le_succ
abbrev xku:=@PySem.wpAny_attempt
abbrev xkv:=@List.getElem_map
abbrev xkw:=@List.mem_reverse
abbrev xkx:=@List.map_flatMap
abbrev xky:=@PyProof.Rows.wpS_lift
abbrev xkz:=@PySem.F.slot_tuple_lt
abbrev xla:=@PySem.F.slot_dict_get
abbrev xlb:=@Array.getElem?_setIfInBounds_ne
abbrev xlc:=@Array.mem_toList_iff
abbrev xld:=@List.length_nil
abbrev xle:=@PySem.Calls.evalArgs_plain
abbrev xlf:=@Array.toList_extract
abbrev xlg:=@List.nil_append
abbrev xlh:=@PySem.Around.under_plainId
abbrev xli:=@List.filter_map
abbrev xlj:=@Nat.and_div_two
abbrev xlk:=@Nat.pow_succ
abbrev xll:=@Bool.decide_and
abbrev xlm:=@List.eq_nil_iff_forall_not_mem
abbrev xln:=@PySem.wpAny_execs_nil
abbrev xlo:=@PySem.codeAny_mono
abbrev xlp:=@PySem.codeAny_builtin
abbrev xlq:=@List.filterMap_cons
abbrev xlr:=@List.flatMap_append
abbrev xls:=@Nat.pow_le_pow_left
abbrev xlt:=@PySem.wpAny_setEntries_of
abbrev xlu:=@List.drop_drop
abbrev xlv:=@PySem.F.slot_dict_setdefault
abbrev xlw:=@List.dropLast_concat_getLast
abbrev xlx:=@PySem.wpAny_fieldsOf
abbrev xly:=@Array.append_empty
abbrev xlz:=@Nat.pos_of_ne_zero
abbrev xma:=@Int.lt_of_le_of_lt
abbrev xmb:=@List.filter_filter
abbrev xmc:=@Nat.one_le_two_pow
abbrev xmd:=@Nat.xor_lt_two_pow
abbrev xme:=@List.sum_singleton
abbrev xmf:=@List.set_cons_succ
abbrev xmg:=@PySem.wpAny_pyIter_tuple
abbrev xmh:=@of_decide_eq_false
abbrev xmi:=@Int.fdiv_eq_ediv_of_nonneg
abbrev xmj:=@PySem.W.mg_of
abbrev xmk:=@Array.getElem?_eq_some_iff
abbrev xml:=@Bool.not_true
abbrev xmm:=@List.perm_ext_iff_of_nodup
abbrev xmn:=@Option.isSome_map
abbrev xmo:=@Nat.lt_succ_of_le
abbrev xmp:=@PySem.Obj.cls_mapFields
abbrev xmq:=@List.mapM_toArray
abbrev xmr:=@List.getElem_drop
abbrev xms:=@List.getElem_take
abbrev xmt:=@List.Pairwise.imp
abbrev xmu:=@PySem.wpAny_pyIter_slot
abbrev xmv:=@decide_eq_true_eq
abbrev xmw:=@Nat.mod_lt
abbrev xmx:=@Nat.lt_pow_two_of_testBit
abbrev xmy:=@List.map_nil
abbrev xmz:=@Option.getD_none
abbrev xna:=@List.ext_getElem
abbrev xnb:=@Nat.max_eq_right
abbrev xnc:=@List.perm_middle
abbrev xnd:=@List.nodup_range
abbrev xne:=@map_eq_pure_bind
abbrev xnf:=@List.of_mem_zip
abbrev xng:=@Nat.le_add_left
abbrev xnh:=@List.find?_some
abbrev xni:=@Nat.two_pow_pos
abbrev xnj:=@Nat.two_pos
abbrev xnk:=@List.map_id
abbrev xnl:=@Nat.add_mod
abbrev xnm:=@List.Perm.refl
set_option maxHeartbeats 0
namespace L2
open PySem PySem.Spec PyProof.Rows
noncomputable abbrev Key:=Sum Int Str
def keyIs:Key->Value->Bool
 | .inl k,v=>Value.isInt k v
 | .inr x,v=>Value.isStrOf x v
def keyH (w:World):Key->Int
 | .inl k=>hashInt k
 | .inr x=>hashStr w x
theorem zbf:∀{k:Key} {v:Value},keyIs k v=true->(∃i t,k=Sum.inl i/\v=Value.int i t)\/(∃x t,k=Sum.inr x/\v=Value.str x t)
 | .inl i,v,h=>by
  obtain⟨t,e⟩:=Value.isInt_shape (k:=i) (v:=v) h;exact .inl ⟨i,t,rfl,e⟩
 | .inr x,v,h=>by
  obtain⟨t,e⟩:=Value.isStrOf_shape (x:=x) (v:=v) h;exact .inr ⟨x,t,rfl,e⟩
theorem zzr (i:Int)(t:Tok):keyIs (.inl i) (.int i t)=true:=by simp[keyIs,Value.isInt]
theorem zzq (x:Str)(t:Tok):keyIs (.inr x) (.str x t)=true:=by simp[keyIs,Value.isStrOf]
theorem zbps (a b:Int):decide ((Sum.inl a:Key)=Sum.inl b)=(a==b):=by
 by_cases e:a=b
 ·subst e;simp
 ·have h:¬ (Sum.inl a:Key)=Sum.inl b:=λq=>e (Sum.inl.inj q)
  rw[xby h];exact(xfp.mpr e).symm
theorem zbpp (a b:Str):decide ((Sum.inr a:Key)=Sum.inr b)=decide (a=b):=by
 by_cases e:a=b
 ·subst e;simp
 ·have h:¬ (Sum.inr a:Key)=Sum.inr b:=λq=>e (Sum.inr.inj q)
  rw[xby h,xby e]
theorem zbpr (a:Int)(b:Str):decide ((Sum.inl a:Key)=Sum.inr b)=false:=xby (λq=>nomatch q)
theorem zbpq (a:Str)(b:Int):decide ((Sum.inr a:Key)=Sum.inl b)=false:=xby (λq=>nomatch q)
def mixKind (prog:Program) (w:World):PySem.KeyKind prog w Key where
 is:=keyIs
 hash:=keyH w
 inj:=λv a b ha hb=>by
  rcases zbf ha with⟨i,t,rfl,rfl⟩ | ⟨x,t,rfl,rfl⟩
  ·rcases zbf hb with⟨j,u,rfl,e⟩ | ⟨y,u,rfl,e⟩
   ·injection e with e1 _;rw[e1]
   ·exact nomatch e
  ·rcases zbf hb with⟨j,u,rfl,e⟩ | ⟨y,u,rfl,e⟩
   ·exact nomatch e
   ·injection e with e1 _;rw[e1]
 byValue:=λk v h=>by
  rcases zbf h with⟨i,t,rfl,rfl⟩ | ⟨x,t,rfl,rfl⟩<;>rfl
 pyHash:=λhv h=>by
  rcases zbf hv with⟨i,t,rfl,rfl⟩ | ⟨x,t,rfl,rfl⟩
  ·exact wpAny_pyHash_int h
  ·exact wpAny_pyHash_str h
 eqBool:=λhu hv h=>by
  rcases zbf hu with⟨i,t,rfl,rfl⟩ | ⟨x,t,rfl,rfl⟩
  ·rcases zbf hv with⟨j,u,rfl,rfl⟩ | ⟨y,u,rfl,rfl⟩
   ·rw[zbps] at h;exact wpAny_eqBool_int h
   ·rw[zbpr] at h;exact SeqAt.EqAt.int_str i t y u _ _ _ _ h
  ·rcases zbf hv with⟨j,u,rfl,rfl⟩ | ⟨y,u,rfl,rfl⟩
   ·rw[zbpq] at h;exact SeqAt.EqAt.str_int x t j u _ _ _ _ h
   ·rw[zbpp] at h;exact wpAny_eqBool_str h
 «strs»:=λk x t v h=>by
  rcases zbf h with⟨i,u,rfl,e⟩ | ⟨y,u,rfl,e⟩
  ·exact nomatch e
  ·injection e with e1 _
   subst e1;cases v<;>rfl
theorem zsd (prog:Program)(w:World)(i:Int)(t:Tok):(mixKind prog w).is (.inl i) (.int i t)=true:=zzr i t
theorem zsc (prog:Program)(w:World)(x:Str)(t:Tok):(mixKind prog w).is (.inr x) (.str x t)=true:=zzq x t
set_option genInjectivity true in
inductive V where
 | non | bl (b:Bool) | int (i:Int) | str (x:Str) | byt (b:Array UInt8) | flt (b:UInt64) | ref (a:Addr) | ty (n:String)
 deriving DecidableEq
noncomputable def RelV:V->Value->Prop
 | .non,u=>u=Value.none
 | .bl b,u=>u=Value.bool b
 | .int i,u=>∃t,u=Value.int i t
 | .str x,u=>∃t,u=Value.str x t
 | .byt b,u=>∃t,u=Value.bytes b t
 | .flt b,u=>∃t,u=Value.float b t
 | .ref a,u=>u=Value.ref a
 | .ty n,u=>u=Value.type n
abbrev Vals:List V->List Value->Prop:=Paired RelV
theorem Vals.length   (r:Vals xs us):xs.length=us.length:=xid r
theorem Vals.get:∀{xs:List V} {us:List Value} {i:Nat} {x:V},Vals xs us->xs[i]?=some x->∃u,us[i]?=some u/\RelV x u
 | _,_,_,_,.nil,e=>by simp at e
 | _,_,0,_,.cons r _,e=>by simp at e;subst e;exact⟨_,rfl,r⟩
 | _,_,i+1,x,.cons _ t,e=>by
  obtain⟨u,h1,h2⟩:=Vals.get (i:=i) (x:=x) t (by simpa using e);exact⟨u,by simpa using h1,h2⟩
theorem Vals.set   (r:RelV x u):∀{xs:List V} {us:List Value} (i:Nat),Vals xs us->Vals (xs.set i x) (us.set i u)
 | _,_,_,.nil=>.nil
 | _,_,0,.cons _ t=>.cons r t
 | _,_,i+1,.cons q t=>.cons q (Vals.set r i t)
theorem Vals.append:∀{xs ys:List V} {us ws:List Value},Vals xs us->Vals ys ws->Vals (xs++ys) (us++ws)
 | _,_,_,_,.nil,s=>s
 | _,_,_,_,.cons r t,s=>.cons r (Vals.append t s)
theorem Vals.take:∀{xs:List V} {us:List Value} (n:Nat),Vals xs us->Vals (xs.take n) (us.take n)
 | _,_,0,_=>.nil
 | _,_,_+1,.nil=>.nil
 | _,_,n+1,.cons r t=>.cons r (Vals.take n t)
theorem Vals.drop:∀{xs:List V} {us:List Value} (n:Nat),Vals xs us->Vals (xs.drop n) (us.drop n)
 | _,_,0,r=>r
 | _,_,_+1,.nil=>.nil
 | _,_,n+1,.cons _ t=>Vals.drop n t
def RelO:Option V->Option Value->Prop
 | some v,some u=>RelV v u
 | none,none=>True
 | _,_=>False
def KV {κ:Type}:List (κ×V)->List (κ×Value)->Prop:=Paired λ(p:κ×V) (q:κ×Value)=>p.1=q.1/\RelV p.2 q.2
def kV:Key->V
 | .inl i=>.int i
 | .inr x=>.str x
set_option genInjectivity true in
inductive HO where
 /-- a list -/
 | lst (xs:List V)
 /-- a tuple (never changes) -/
 | tup (xs:List V)
 /-- a dict whose keys are ints and texts;one whose keys are tuples of ints and texts (the empty one is both) -/
 | dK (kvs:List (Key×V)) | dT (kvs:List (List Key×V))
 /-- a set of ints: its members,its size -/
 | set (S:Int->Bool) (n:Nat)
 /-- an instance of the class at C,its dict at dx,its attributes -/
 | ins (C dx:Addr) (fs:List (Str×V))
 /-- the dict of the instance at x -/
 | own (x:Addr)
 /-- the dict of an exception -/
 | xd (fs:List (Str×V))
 /-- a bound method,f of x -/
 | met (f x:Addr)
 /-- a range object lo,lo+1,.. below hi -/
 | rng (lo hi:Int)
 /-- a thing that is known to the object (the script;a dict while a loop walks it): read,never written while it is so -/
 | frz (o:Obj) (u:HO)
 /-- a code object's table -/
 | tbl (ps:Array Value)
 /-- any other thing,by what is true of its one object (a def of one's own: SetO a S n:=HO.ext λh=>..) -/
 | ext (φ:Heap->Prop)
noncomputable abbrev Hp:=Addr->Option HO
def upd (H:Hp) (a:Addr) (o:HO):Hp:=λb=>if b=a then some o else H b
theorem zq   :upd H a o a=some o:=by unfold upd;rw[if_pos rfl]
theorem zt    (h:b≠a):upd H a o b=H b:=by unfold upd;rw[if_neg h]
theorem zbsp {H:Hp}{a b:Addr}{o u:HO}(h:H a=some o)(h':H b=some u)(d:o≠u):a≠b:=by
 intro e;subst e;rw[h] at h';exact d (xcv h')
theorem zn {H:Hp}{a b:Addr}{o:HO}(h:H a=some o)(h':H b=none):a≠b:=by
 intro e;subst e;rw[h] at h';cases h'
section
variable (P:Program)(w:World)
def ObjOk (H:Hp) (h:Heap) (a:Addr):HO->Prop
 | .lst xs=>xs.length<=sizeLine/\∃(its:List Value) (n:Nat),Vals xs its/\h.get? a=some { cls:=.type "list", data:=.seq its.toArray n }
 | .tup xs=>xs.length<=sizeLine/\∃its:List Value,Vals xs its/\IsTup h a its.toArray
 | .dK kvs=>kvs.length<=sizeLine/\(a==sysModules)=false/\∃vs,KV kvs vs/\h.DictOf (mixKind P w) a vs
 | .dT kvs=>kvs.length<=sizeLine/\(a==sysModules)=false/\∃xs:List (List Key×Addr×Value),
  Paired (λ(p:List Key×V) (q:List Key×Addr×Value)=>p.1=q.1/\H q.2.1=some (.tup (p.1.map kV))/\RelV p.2 q.2.2) kvs xs /\
  ∃o es ep,h.get? a=some o/\o.ExactDict/\o.data=.dict es ep/\es.toList=xs.map (entryOfKey (tupleKind (mixKind P w)))/\(xs.map (·.1)).Nodup
 | .set S n=>h.SetOf (intKind P w) a S n
 | .ins C dx fs=>H dx=some (.own a)/\fs.length<=1000/\dx≠a/\h.get? a=some (W.instObj C dx) /\
  ∃mA,h.Ns1 dx mA/\(∀f,RelO (fs.lookup f) (mA f))/\PySem.Within mA (fs.map (·.1))
 | .own _=>∃o,h.get? a=some o
 | .xd fs=>∃mA,h.Ns1 a mA/\∀f,RelO (fs.lookup f) (mA f)
 | .rng lo hi=>∃ t u v,h.get? a=some { cls:=.type "range", data:=.fields #[.int lo t,.int hi u,.int 1 v] }
 | .frz o u=>h.get? a=some o/\ObjOk H h a u
 | .tbl ps=>h.get? a=some {cls:=.none,data:=.fields ps}
 | .met f x=>h.get? a=some (W.methodObj (.ref f) (.ref x))
 | .ext φ=>φ h/\(∃o,h.get? a=some o)/\∀h1 h2:Heap,φ h1->(∀o,h1.get? a=some o->h2.get? a=some o)->φ h2
def HOk (H:Hp) (h:Heap):Prop:=∀a o,H a=some o->ObjOk P w H h a o
end
section
theorem ObjOk.lt (x:ObjOk P w H h a o):a < h.objs.size:=by
 cases o with
 | lst xs=>obtain⟨_,_,_,_,e⟩:=x;exact xbx e
 | tup xs=>obtain⟨_,_,_,p⟩:=x;exact p.lt
 | dK kvs=>obtain⟨_,_,_,_,o,_,_,e,_⟩:=x;exact xbx e
 | dT kvs=>obtain⟨_,_,_,_,o,_,_,e,_⟩:=x;exact xbx e
 | set S n=>obtain⟨o,_,_,_,e,_⟩:=x;exact xbx e
 | ins C dx fs=>obtain⟨_,_,_,e,_⟩:=x;exact xbx e
 | own y=>obtain⟨_,e⟩:=x;exact xbx e
 | xd fs=>obtain⟨_,⟨_,_,_,e,_⟩,_⟩:=x;exact xbx e
 | rng lo hi=>obtain⟨_,_,_,e⟩:=x;exact xbx e
 | frz ob u=>obtain⟨e,_⟩:=x;exact xbx e
 | tbl ps=>exact xbx (show h.get? a=some _ from x)
 | met f y=>exact xbx (show h.get? a=some _ from x)
 | ext φ=>obtain⟨_,⟨_,e⟩,_⟩:=x;exact xbx e
section
variable {a:Addr}
theorem Paired.mapP {α β:Type}{F G:α->β->Prop}:∀{l₁:List α} {l₂:List β},Paired F l₁ l₂->(∀a b,F a b->G a b)->Paired G l₁ l₂
 | _,_,.nil,_=>.nil
 | _,_,.cons r t,f=>.cons (f _ _ r) (Paired.mapP t f)
end
theorem ObjOk.stay {h:Heap}{h':Heap}(x:ObjOk P w H h a o)(k:∀b u,(b=a\/H b=some (.own a))->h.get? b=some u->h'.get? b=some u)
  (ho:∀b,H b=some (.own a)->H' b=some (.own a))(ht:∀b xs,H b=some (.tup xs)->H' b=some (.tup xs)):ObjOk P w H' h' a o:=by
 induction o with
 | lst xs=>obtain⟨z,its,n,r,e⟩:=x;exact⟨z,its,n,r,k _ _ (.inl rfl) e⟩
 | tup xs=>obtain⟨z,its,r,ob,e,c⟩:=x;exact⟨z,its,r,ob,k _ _ (.inl rfl) e,c⟩
 | dK kvs=>obtain⟨z,y,vs,r,ob,es,ep,e,c⟩:=x;exact⟨z,y,vs,r,ob,es,ep,k _ _ (.inl rfl) e,c⟩
 | dT kvs =>
  obtain⟨z,y,xs,r,ob,es,ep,e,c⟩:=x;exact⟨z,y,xs,Paired.mapP r λp q z=>⟨z.1,ht _ _ z.2.1,z.2.2⟩,ob,es,ep,k _ _ (.inl rfl) e,c⟩
 | set S n=>obtain⟨ob,es,ep,t,e,c⟩:=x;exact⟨ob,es,ep,t,k _ _ (.inl rfl) e,c⟩
 | ins C dx fs =>
  obtain⟨d,z,ne,e,mA,⟨od,es,ep,e2,c⟩,r⟩:=x;exact⟨ho _ d,z,ne,k _ _ (.inl rfl) e,mA,⟨od,es,ep,k _ _ (.inr d) e2,c⟩,r⟩
 | own y=>obtain⟨ob,e⟩:=x;exact⟨ob,k _ _ (.inl rfl) e⟩
 | xd fs=>obtain⟨mA,⟨od,es,ep,e,c⟩,r⟩:=x;exact⟨mA,⟨od,es,ep,k _ _ (.inl rfl) e,c⟩,r⟩
 | rng lo hi=>obtain⟨t,u,v,e⟩:=x;exact⟨t,u,v,k _ _ (.inl rfl) e⟩
 | frz ob u ih=>obtain⟨e,q⟩:=x;exact⟨k _ _ (.inl rfl) e,ih q⟩
 | tbl ps =>
  have e:h.get? a=some {cls:=.none,data:=.fields ps}:=x;show h'.get? a=some {cls:=.none,data:=.fields ps};exact k a _ (.inl rfl) e
 | met f y =>
  have e:h.get? a=some (W.methodObj (.ref f) (.ref y)):=x;show h'.get? a=some (W.methodObj (.ref f) (.ref y));exact k a _ (.inl rfl) e
 | ext φ=>obtain⟨p,⟨o,e⟩,au⟩:=x;exact⟨au _ _ p λo q=>k _ _ (.inl rfl) q,⟨o,k _ _ (.inl rfl) e⟩,au⟩
theorem HOk.lt (x:HOk P w H h)(e:H a=some o):a < h.objs.size:=(x a o e).lt
theorem HOk.fresh (x:HOk P w H h)(e:h.objs.size<=a):H a=none:=by
 cases q:H a with
 | none=>rfl
 | some u=>exact absurd (xbh (x.lt q) e) (xgq _)
theorem HOk.kept {h':Heap}(x:HOk P w H h)(k:∀b u,h.get? b=some u->h'.get? b=some u):HOk P w H h':=λa o e =>
 (x a o e).stay (λb u _ q=>k b u q) (λ_ q=>q) λ_ _ q=>q
section
variable {P:Program}{w:World}{H:Hp}{h:Heap}{h':Heap}{a:Addr}{o:HO}
theorem HOk.laid (x:HOk P w H h)(k:∀b u,h.get? b=some u->h'.get? b=some u)(hp:h.objs.size<=a)(new:ObjOk P w (upd H a o) h' a o):HOk P w (upd H a o) h':=λb u e=>by
 have hn:=x.fresh hp;by_cases hb:b=a
 ·subst hb;rw[zq] at e;cases e;exact new
 ·rw[zt hb] at e;exact(x b u e).stay (λc v _ q=>k c v q) (λc q=>by rw[zt (zn q hn)];exact q) λc xs q=>by rw[zt (zn q hn)];exact q
end
end
def Rd (H:Hp) (a:Addr) (u:HO):Prop:=H a=some u\/∃o,H a=some (.frz o u)
theorem Rd.ok       (r:Rd H a u)(x:HOk P w H h):ObjOk P w H h a u:=by
 rcases r with r | ⟨o,r⟩
 ·exact x a u r
 ·obtain⟨_,q⟩:=x a _ r;exact q
noncomputable def Mut:Option HO->Prop
 | some (.lst _)=>True
 | some (.dK _)=>True
 | some (.dT _)=>True
 | some (.set _ _)=>True
 | some (.ins _ _ _)=>True
 | some (.ext _)=>True
 | _=>False
section
theorem HOk.write {h':Heap}(ok:HOk P w H h)(mu:Mut (H x))(he:e=x\/H e=some (.own x))(k:∀b u,b≠e->h.get? b=some u->h'.get? b=some u)(heo:∃u,h'.get? e=some u)
  (new:ObjOk P w (upd H x o') h' x o'):HOk P w (upd H x o') h':=λb u q=>by
 have nown:∀c y,H c=some (.own y)->c≠x:=λc y r z=>by subst z;rw[r] at mu;exact mu
 have ntup:∀c xs,H c=some (.tup xs)->c≠x:=λc xs r z=>by subst z;rw[r] at mu;exact mu
 by_cases hb:b=x
 ·subst hb;rw[zq] at q;cases q;exact new
 ·rw[zt hb] at q;by_cases hbe:b=e
  ·have q':H b=some (.own x):=by
    rcases he with z | z
    ·exact absurd (hbe.trans z) hb
    ·rw[hbe];exact z
   rw[q] at q';cases q'
   obtain⟨v,hv⟩:=heo;exact⟨v,by rw[hbe];exact hv⟩
  ·refine(ok b u q).stay (λc v hc r=>k c v ?_ r) (λc r=>by rw[zt (nown c b r)];exact r) λc xs r=>by rw[zt (ntup c xs r)];exact r
   rcases hc with rfl | hc
   ·exact hbe
   ·rintro rfl;rcases he with z | z
    ·exact nown c b hc z
    ·rw[hc] at z;cases z;exact hb rfl
end
structure Un (fs ex:List Addr) (H H':Hp) (h h':Heap):Prop where
 keep:∀b o,h.get? b=some o->H b=none->b∉fs->b∉ex->h'.get? b=some o
 slot:∀b o,h.get? b=some o->H b=none->b∈fs->b∉ex->∃sl,h'.get? b=some {o with slots:=sl}
 free:∀b o,h.get? b=some o->H b=none->b∉ex->H' b=none
 there:∀b o,h.get? b=some o->b∉ex->∃o',h'.get? b=some o'
 tups:∀b xs,H b=some (.tup xs)->H' b=some (.tup xs)
 frzs:∀b o u,H b=some (.frz o u)->H' b=some (.frz o u)
 tbls:∀b ps,H b=some (.tbl ps)->∃more,H' b=some (.tbl (ps++more))
section
theorem Un.any (u:Un fs ex H H1 h h1)   (q:h.get? b=some ob)(n:H b=none)(hx:b∉ex):∃sl,h1.get? b=some {ob with slots:=sl}:=by
 by_cases hb:b∈fs
 ·exact u.slot b ob q n hb hx
 ·exact⟨ob.slots,u.keep b ob q n hb hx⟩
theorem Un.kept {h:Heap}{h':Heap}(k:∀b u,h.get? b=some u->h'.get? b=some u):Un fs ex H H h h' :=
 ⟨λb ob q _ _ _=>k b ob q,λb ob q _ _ _=>⟨ob.slots,k b ob q⟩,λ_ _ _ n _=>n,λb ob q _=>⟨ob,k b ob q⟩,λ_ _ q=>q,λ_ _ _ q=>q,λ_ ps q=>⟨#[],by rw[q];simp⟩⟩
theorem Un.refl:Un fs ex H H h h:=Un.kept λ_ _ q=>q
section
variable {fs:List Addr}{ex:List Addr}{H:Hp}{h:Heap}{h':Heap}{a:Addr}{o:HO}
theorem Un.laid (k:∀b u,h.get? b=some u->h'.get? b=some u)(hp:h.objs.size<=a)(hn:H a=none):Un fs ex H (upd H a o) h h' where
 keep:=λb u q _ _ _=>k b u q
 slot:=λb u q _ _ _=>⟨u.slots,k b u q⟩
 free:=λb u q n _=>by rw[zt (xci (xbh (xbx q) hp))];exact n
 there:=λb u q _=>⟨u,k b u q⟩
 tups:=λb xs q=>by rw[zt (zn q hn)];exact q
 frzs:=λb u xs q=>by rw[zt (zn q hn)];exact q
 tbls:=λb ps q=>⟨#[],by rw[zt (zn q hn),q];simp⟩
end
theorem Un.write {h:Heap}{h':Heap}(mu:Mut (H x))(he:e=x\/H e=some (.own x))(k:∀b u,b≠e->h.get? b=some u->h'.get? b=some u)(heo:∃u,h'.get? e=some u):Un fs ex H (upd H x o) h h':=by
 have hx:∀b,H b=none->b≠x:=λb n z=>by subst z;rw[n] at mu;exact mu
 have hb:∀b,H b=none->b≠e:=λb n z=>by
  subst z;rcases he with r | r
  ·exact hx b n r
  ·rw[n] at r;cases r
 have hm:∀b u,H b=some u->¬ Mut (some u)->b≠x:=λb u q nm z=>by subst z;rw[q] at mu;exact nm mu
 refine⟨λb u q n _ _=>k b u (hb b n) q,λb u q n _ _=>⟨u.slots,k b u (hb b n) q⟩,λb u q n _=>by rw[zt (hx b n)];exact n,λb u q _=>?_,
  λb xs q=>by rw[zt (hm b _ q λz=>z)];exact q,λb u xs q=>by rw[zt (hm b _ q λz=>z)];exact q,λb ps q=>⟨#[],by rw[zt (hm b _ q λz=>z),q];simp⟩⟩
 by_cases hbe:b=e
 ·subst hbe;exact heo
 ·exact⟨u,k b u hbe q⟩
end
def trk (h:Heap) (H:Hp):List Addr:=(List.range h.objs.size).filter λa=>(H a).isSome
def hidT (h:Heap) (H:Hp):Heap:=W.hideAll h (trk h H)
theorem zzw (h:Heap)(H:Hp):(hidT h H).objs.size=h.objs.size:=W.hideAll_size _ _
theorem zbfl {h:Heap}    (e:h.get? b=some o)(n:H b=none):(hidT h H).get? b=some o :=
 W.hideAll_get _ e λhm=>by
  have q:(H b).isSome=true:=(xdo.mp hm).2;rw[n] at q;simp at q
theorem zbjo     (e:(hidT h H).get? b=some o):h.get? b=some o/\H b=none:=by
 have e':h.get? b=some o:=W.of_hideAll (trk h H) e;refine⟨e',?_⟩;cases q:H b with
 | none=>rfl
 | some x =>
  have hm:b∈trk h H:=xdo.mpr ⟨xcf.mpr (xbx e'),by simp[q]⟩;have z:(hidT h H).get? b=none:=W.hideAll_none (trk h H) hm;rw[z] at e;cases e
structure Mod (K:Fg) (mg:Str->Option Value) (base:Heap):Prop where
 kin:K.In base
 glob:base.Ns mainGlobals mg
 blt:∃ mb,base.Ns builtinsNs mb/\∀ x:Str,x≠"__name__"->mb x=bootBuiltins x
 nolimit:base.NoLimit
structure Cx where
 prog:Program
 w:World
 K:Fg
 mg:Str->Option Value
 base:Heap
 A:Around
 N:List Str
 s₀:Shared
 H₀:Hp
 env:Env
 outer:List Env
 stack:List Env
 ex:List Addr
 fn:Str->Bool
 calm:Bool
 pn:List (Addr×Obj)
 xe:Value->Shared->Prop
noncomputable def frs (l:List Env):List Addr:=l.filterMap (·.frame)
abbrev Cx.fs (X:Cx):List Addr:=frs X.outer
noncomputable def Vis (sc:Scope) (x:Str):Prop:=sc.names.lookup x=some .local\/sc.names.lookup x=some .cell\/sc.names.lookup x=some .free
noncomputable def Loc (sc:Scope) (x:Str):Prop:=sc.names.lookup x=some .local\/sc.names.lookup x=some .cell
noncomputable def Look (env:Env) (h:Heap) (m:Str->Option Value) (x:Str) (u:Value):Prop :=
 (env.kindOf x=some .local/\m x=some u)\/((env.kindOf x=some .cell\/env.kindOf x=some .free)/\∃c,env.cells.lookup x=some c/\h.IsCell c (some u))
structure Cx.Ok (X:Cx):Prop where
 mod:Mod X.K X.mg X.base
 kind:X.env.scope.kind=.function
 glob:X.env.globals=mainGlobals
 blt:X.env.builtins=builtinsNs
 above:X.s₀.heap.objs.size<=X.env.locals
 inj:∀x y c,X.env.cells.lookup x=some c->X.env.cells.lookup y=some c->x=y
 has:∀x,(X.env.kindOf x=some .cell\/X.env.kindOf x=some .free)->∃c,X.env.cells.lookup x=some c
 cab:∀x c,X.fn x=true->X.env.cells.lookup x=some c->X.s₀.heap.objs.size<=c
 hd:X.calm=true->X.A.handled=none
 frames:X.A.frames=some X.stack
 stk:X.stack=X.outer\/(X.stack=X.env::X.outer/\X.env.frame=some X.env.locals)
 exf:∀b∈X.ex,b≠X.env.locals/\∀x c,X.env.cells.lookup x=some c->c≠b
 bs:∀b o,X.base.get? b=some o->X.s₀.heap.get? b=some o/\X.H₀ b=none
 bsz:X.base.objs.size<=X.s₀.heap.objs.size
 noex:∀b o,X.base.get? b=some o->b∉X.ex
 exfs:∀b∈X.ex,b∉X.fs
 funs:X.s₀.heap.FunFrames X.base X.outer
 frf:∀b∈X.fs,X.H₀ b=none
def Hnd (A:Around) (H:Hp):Prop:=∀v,A.handled=some v->∃a o,v=.ref a/\H a=some (.frz o (.ext λ_=>True))/\∃vs,o.data=.fields vs/\vs[2]?=some .none
theorem Hnd.map   (h:Hnd A H)(f:∀b o u,H b=some (.frz o u)->H' b=some (.frz o u)):Hnd A H':=λv e=>let ⟨a,o,h1,h2,h3⟩:=h v e;⟨a,o,h1,f _ _ _ h2,h3⟩
theorem Hnd.none {A:Around}  (h:A.handled=.none):Hnd A H:=λv e=>by rw[h] at e;cases e
structure Inv (X:Cx) (aU:List (Addr×Obj)) (σ:List (Option V)) (H:Hp) (s:Shared):Prop where
 ok:X.Ok
 os:s.os=X.s₀.os
 bare:AllBare s.gens
 base:Un X.fs X.ex X.H₀ H X.s₀.heap s.heap
 loc:∃m,s.heap.Ns X.env.locals m/\∀(i:Nat) (x:Str) (v:V),X.N[i]?=some x->σ[i]?=some (some v)->Vis X.env.scope x->∃u,RelV v u/\Look X.env s.heap m x u
 cell:∀x c,X.env.cells.lookup x=some c->∃v,s.heap.IsCell c v
 free:H X.env.locals=none
 freeC:∀x c,X.env.cells.lookup x=some c->H c=none
 pin:∀p∈X.pn++aU,s.heap.get? p.1=some p.2/\H p.1=none/\p.1≠X.env.locals/\p.1∉X.fs/\∀v,p.2.data≠.cell v
 hok:HOk X.prog X.w H s.heap
 len:σ.length=X.N.length
 hnd:Hnd X.A H
section
theorem Cx.Ok.nofr {X:Cx}(ok:X.Ok)   (e:X.base.get? b=some o):b∉X.fs:=λhb=>by
 have:=(ok.funs.mem hb).1;rw[e] at this;cases this
theorem Inv.bs (I:Inv X aU σ H s):∀b o,X.base.get? b=some o->s.heap.get? b=some o/\H b=none:=λb o e =>
 ⟨I.base.keep b o (I.ok.bs b o e).1 (I.ok.bs b o e).2 (I.ok.nofr e) (I.ok.noex b o e),I.base.free b o (I.ok.bs b o e).1 (I.ok.bs b o e).2 (I.ok.noex b o e)⟩
theorem Inv.bk (I:Inv X aU σ H s):∀b o,X.base.get? b=some o->s.heap.get? b=some o:=λb o e=>(I.bs b o e).1
theorem Inv.mod (I:Inv X aU σ H s):Mod X.K X.mg X.base:=I.ok.mod
theorem Inv.kIn (I:Inv X aU σ H s):X.K.In s.heap:=I.ok.mod.kin.keeps I.bk
theorem Inv.lt (I:Inv X aU σ H s):X.env.locals < s.heap.objs.size:=let ⟨_,hn,_⟩:=I.loc;hn.lt
theorem Inv.sz (I:Inv X aU σ H s):X.s₀.heap.objs.size<=s.heap.objs.size:=xbc I.ok.above (xca I.lt)
theorem Inv.nofs (I:Inv X aU σ H s)  (h:s.heap.objs.size<=a):a∉X.fs:=λhb=>by
 obtain⟨_,o,ho,_⟩:=I.ok.funs.mem hb;exact absurd (xbh (xbx ho) (xbc I.sz h)) (xgq _)
theorem Inv.cne (I:Inv X aU σ H s):∀x c,X.env.cells.lookup x=some c->c≠X.env.locals:=λx c e z=>by
 obtain⟨v,o,ho,hd⟩:=I.cell x c e;obtain⟨m,⟨o',es,ep,ho',hd',_⟩,_⟩:=I.loc;rw[z,ho'] at ho;cases ho;rw[hd'] at hd;cases hd
theorem Inv.funs (I:Inv X aU σ H s):s.heap.FunFrames X.base X.outer:=by
 have all:∀(l:List Env),(∀b∈frs l,b∈X.fs)->X.s₀.heap.FunFrames X.base l->s.heap.FunFrames X.base l:=by
  intro l
  induction l with
  | nil=>intro _ _;trivial
  | cons env r ih =>
   intro hs hl;obtain⟨hk,⟨L,o,hf,hn,ho,hd⟩,hr⟩:=hl;have hL:L∈X.fs:=hs L (by unfold frs;rw[xlq,hf];exact xbp);obtain⟨sl,e⟩:=I.base.slot L o ho (I.ok.frf L hL) hL λz=>I.ok.exfs L z hL
   exact⟨hk,⟨L,_,hf,hn,e,hd⟩,ih (λb hb=>hs b (by unfold frs;rw[xlq,hf];exact xbm _ hb)) hr⟩
 exact all X.outer (λ_ hb=>hb) I.ok.funs
theorem Inv.stack (I:Inv X aU σ H s):s.heap.FunFrames X.base X.stack:=by
 rcases I.ok.stk with e | ⟨e,hf⟩
 ·rw[e];exact I.funs
 ·rw[e];obtain⟨m,hn,_⟩:=I.loc;refine .cons (by rw[I.ok.kind];decide) hf hn ?_ I.funs;exact Heap.get?_none_of_le (xbc I.ok.bsz I.ok.above)
theorem Inv.stkSub (I:Inv X aU σ H s):∀b∈frs X.stack,b∈X.env.locals::X.fs:=λb hb=>by
 rcases I.ok.stk with e | ⟨e,hf⟩
 ·rw[e] at hb;exact xbm _ hb
 ·rw[e] at hb;unfold frs at hb;rw[xlq,hf] at hb;exact hb
theorem Inv.stkFree (I:Inv X aU σ H s):∀b∈frs X.stack,H b=none:=λb hb=>by
 rcases xbs.mp (I.stkSub b hb) with e | hb
 ·rw[e];exact I.free
 ·obtain⟨_,o,ho,_⟩:=I.ok.funs.mem hb;exact I.base.free b o ho (I.ok.frf b hb) λz=>I.ok.exfs b z hb
section
variable {X:Cx}{aU:List (Addr×Obj)}{σ:List (Option V)}{H:Hp}{H':Hp}{s:Shared}{h':Heap}
theorem Inv.step {g':Array GenState}{t':Nat}{d':Drawn}{ch:List Addr}(I:Inv X aU σ H s)
  (hch:∀b∈ch,(b∈X.ex\/X.s₀.heap.objs.size<=b)/\b≠X.env.locals/\(∀x c,X.env.cells.lookup x=some c->c≠b)/\∀p∈X.pn++aU,p.1≠b)
  (keep:∀b o,b≠X.env.locals->b∉X.fs->b∉ch->s.heap.get? b=some o->H b=none->h'.get? b=some o)
  (slot:∀b o,b≠X.env.locals->b∈X.fs->b∉ch->s.heap.get? b=some o->H b=none->∃sl,h'.get? b=some {o with slots:=sl})(free:∀b o,b∉ch->s.heap.get? b=some o->H b=none->H' b=none)
  (there:∀b o,b∉ch->s.heap.get? b=some o->∃o',h'.get? b=some o')
  (tups:∀b xs,H b=some (.tup xs)->H' b=some (.tup xs))(frzs:∀b o u,H b=some (.frz o u)->H' b=some (.frz o u))(tbls:∀b ps,H b=some (.tbl ps)->∃more,H' b=some (.tbl (ps++more)))
  (ns:∀m,s.heap.Ns X.env.locals m->h'.Ns X.env.locals m)(hok:HOk X.prog X.w H' h')(hg:AllBare g') :
  Inv X aU σ H' {s with heap:=h',gens:=g',drawn:=d',toks:=t'}:=by
 have neL:∀b o,X.s₀.heap.get? b=some o->b≠X.env.locals:=λb o e=>xci (xbh (xbx e) I.ok.above)
 have neC:∀b o,X.s₀.heap.get? b=some o->b∉X.ex->b∉ch:=λb o e hx hb=>by
  rcases(hch b hb).1 with z | z
  ·exact hx z
  ·exact absurd (xbh (xbx e) z) (xgq _)
 have cellK:∀x c,X.env.cells.lookup x=some c->∀v,s.heap.IsCell c v->h'.IsCell c v:=λx c e v hq0=>by
  obtain⟨o,ho,hd⟩:=hq0;have nch:c∉ch:=λz=>(hch c z).2.2.1 x c e rfl
  by_cases hc:c∈X.fs
  ·obtain⟨sl,q⟩:=slot c o (I.cne x c e) hc nch ho (I.freeC x c e);exact⟨_,q,hd⟩
  ·exact⟨o,keep c o (I.cne x c e) hc nch ho (I.freeC x c e),hd⟩
 refine⟨I.ok,I.os,hg,⟨λb o e n hb hx=>?_,λb o e n hb hx=>?_,λb o e n hx=>?_,λb o e hx=>?_,λb xs e=>tups b xs (I.base.tups b xs e),λb o xs e=>frzs b o xs (I.base.frzs b o xs e),λb ps e=>?_⟩,?_,λx c e=>?_,?_,λx c e=>?_,λp hp=>?_,hok,I.len,I.hnd.map frzs⟩
 ·exact keep b o (neL b o e) hb (neC b o e hx) (I.base.keep b o e n hb hx) (I.base.free b o e n hx)
 ·obtain⟨sl,e1⟩:=I.base.slot b o e n hb hx;obtain⟨sl',e2⟩:=slot b _ (neL b o e) hb (neC b o e hx) e1 (I.base.free b o e n hx);exact⟨sl',e2⟩
 ·obtain⟨o',e1⟩:=I.base.there b o e hx;exact free b o' (neC b o e hx) e1 (I.base.free b o e n hx)
 ·obtain⟨o',e1⟩:=I.base.there b o e hx;exact there b o' (neC b o e hx) e1
 ·obtain⟨m1,e1⟩:=I.base.tbls b ps e;obtain⟨m2,e2⟩:=tbls b _ e1;exact⟨m1++m2,by rw[e2,Array.append_assoc]⟩
 ·obtain⟨m,hn,hl⟩:=I.loc;refine⟨m,ns m hn,λi x v e1 e2 e3=>?_⟩;obtain⟨u,r,l⟩:=hl i x v e1 e2 e3;refine⟨u,r,?_⟩;rcases l with l | ⟨k,c,e,z⟩
  ·exact .inl l
  ·exact .inr ⟨k,c,e,cellK x c e _ z⟩
 ·obtain⟨v,z⟩:=I.cell x c e;exact⟨v,cellK x c e v z⟩
 ·obtain⟨m,⟨o,_,_,ho,_⟩,_⟩:=I.loc;exact free _ o (λz=>(hch _ z).2.1 rfl) ho I.free
 ·obtain⟨v,o,ho,hd⟩:=I.cell x c e;exact free c o (λz=>(hch c z).2.2.1 x c e rfl) ho (I.freeC x c e)
 ·obtain⟨e,n,ne,nf,d⟩:=I.pin p hp;have nch:p.1∉ch:=λz=>(hch p.1 z).2.2.2 p hp rfl
  exact⟨keep p.1 p.2 ne nf nch e n,free p.1 p.2 nch e n,ne,nf,d⟩
theorem Inv.un {t':Nat}(I:Inv X aU σ H s)(u:Un X.fs [] H H' s.heap h')(hok:HOk X.prog X.w H' h'):Inv X aU σ H' {s with heap:=h',toks:=t'}:=by
 obtain⟨m,⟨o,es,ep,ho,r⟩,_⟩:=id I.loc;obtain⟨sl,hL⟩:=u.any ho I.free (by simp)
 exact I.step (g':=s.gens) (d':=s.drawn) (ch:=[]) (λ_ z=>nomatch z) (λb o _ hb _ e n=>u.keep b o e n hb (by simp)) (λb o _ hb _ e n=>u.slot b o e n hb (by simp)) (λb o _ e n=>u.free b o e n (by simp)) (λb o _ e=>u.there b o e (by simp)) u.tups u.frzs u.tbls (λm' hm=>by
  obtain⟨o',es',ep',ho',r'⟩:=hm;rw[ho] at ho';cases ho'
  exact⟨_,es',ep',hL,r'⟩) hok I.bare
theorem Inv.call {g':Array GenState}{t':Nat}{d':Drawn}{ch:List Addr}(I:Inv X aU σ H s)(u:Un (frs X.stack) ch H H' s.heap h')(hok:HOk X.prog X.w H' h')(hg:AllBare g')
  (hch:∀b∈ch,(b∈X.ex\/X.s₀.heap.objs.size<=b)/\b≠X.env.locals/\(∀x c,X.env.cells.lookup x=some c->c≠b)/\∀p∈X.pn++aU,p.1≠b) :
  Inv X aU σ H' {s with heap:=h',gens:=g',drawn:=d',toks:=t'}:=by
 obtain⟨m,⟨o,es,ep,ho,r⟩,_⟩:=id I.loc;obtain⟨sl,hL⟩:=u.any ho I.free λz=>(hch _ z).2.1 rfl
 exact I.step (ch:=ch) hch (λb o hL hb hc e n=>u.keep b o e n (λz=>(xbs.mp (I.stkSub b z)).elim hL hb) hc) (λb o _ _ hc e n=>u.any e n hc) (λb o hc e n=>u.free b o e n hc) (λb o hc e=>u.there b o e hc) u.tups u.frzs u.tbls (λm' hm=>by
  obtain⟨o',es',ep',ho',r'⟩:=hm;rw[ho] at ho';cases ho'
  exact⟨_,es',ep',hL,r'⟩) hok hg
end
section
variable {X:Cx}{aU:List (Addr×Obj)}{σ:List (Option V)}{H:Hp}{s:Shared}{h':Heap}
theorem Inv.turned {t':Nat}{it:Addr}(I:Inv X aU σ H s)(k:∀b o,b≠it->s.heap.get? b=some o->h'.get? b=some o)(hn:H it=none)(hL:it≠X.env.locals)
  (h1:it∈X.ex\/X.s₀.heap.objs.size<=it)(h2:∀x c,X.env.cells.lookup x=some c->c≠it)(h3:∀p∈X.pn++aU,p.1≠it):Inv X aU σ H {s with heap:=h',toks:=t'}:=by
 have nit:∀b u,H b=some u->b≠it:=λb u e z=>by rw[z,hn] at e;cases e
 refine I.step (g':=s.gens) (d':=s.drawn) (ch:=[it]) (λb hb=>?_) (λb o _ _ hc e _=>k b o (λz=>hc (by simp[z])) e) (λb o _ _ hc e _=>⟨o.slots,k b o (λz=>hc (by simp[z])) e⟩) (λ_ _ _ _ n=>n)
  (λb o hc e=>⟨o,k b o (λz=>hc (by simp[z])) e⟩) (λ_ _ e=>e) (λ_ _ _ e=>e) (λb ps e=>⟨#[],by rw[e];simp⟩) (λm hm=>?_) (λb u e=>?_) I.bare
 ·have e:b=it:=by simpa using hb
  subst e;exact⟨h1,hL,h2,h3⟩
 ·obtain⟨o,es,ep,ho,r⟩:=hm;exact⟨o,es,ep,k _ o (xer hL) ho,r⟩
 ·refine(I.hok b u e).stay (λc v hc q=>k c v ?_ q) (λ_ q=>q) λ_ _ q=>q
  rcases hc with z | z
  ·rw[z];exact nit b u e
  ·exact nit c _ z
end
theorem Inv.tok (I:Inv X aU σ H s)(t:Nat):Inv X aU σ H {s with toks:=t}:=I.un (h':=s.heap) (t':=t) Un.refl I.hok
theorem Inv.kept {h':Heap}  (I:Inv X aU σ H s)(k:∀b u,s.heap.get? b=some u->h'.get? b=some u):Inv X aU σ H {s with heap:=h',toks:=t'}:=I.un (Un.kept k) (I.hok.kept k)
theorem Inv.laid {h':Heap}    (I:Inv X aU σ H s)(k:∀b u,s.heap.get? b=some u->h'.get? b=some u)(hp:s.heap.objs.size<=a)(new:ObjOk X.prog X.w (upd H a o) h' a o) :
 Inv X aU σ (upd H a o) {s with heap:=h',toks:=t'}:=I.un (Un.laid k hp (I.hok.fresh hp)) (I.hok.laid k hp new)
theorem Inv.write {h':Heap}    (I:Inv X aU σ H s)(mu:Mut (H x))(he:e=x\/H e=some (.own x))(k:∀b u,b≠e->s.heap.get? b=some u->h'.get? b=some u)(heo:∃u,h'.get? e=some u)
 (new:ObjOk X.prog X.w (upd H x o) h' x o):Inv X aU σ (upd H x o) {s with heap:=h',toks:=t'}:=I.un (Un.write mu he k heo) (I.hok.write mu he k heo new)
theorem Inv.pins_of  (I:Inv X aU σ H s)(h:∀p∈pins',s.heap.get? p.1=some p.2/\H p.1=none/\p.1≠X.env.locals/\p.1∉X.fs/\∀v,p.2.data≠.cell v):Inv X pins' σ H s :=
 ⟨I.ok,I.os,I.bare,I.base,I.loc,I.cell,I.free,I.freeC,λp hp=>(xbr.mp hp).elim (λz=>I.pin p (xeb _ z)) (h p),I.hok,I.len,I.hnd⟩
theorem zus {N:List Str}(hN:N.Nodup){i j:Nat}{x:Str}(a:N[i]?=some x)(b:N[j]?=some x):i=j:=by
 obtain⟨h1,e1⟩:=xbg.mp a;obtain⟨h2,e2⟩:=xbg.mp b;exact(List.getElem_inj hN).mp (e1.trans e2.symm)
theorem zyb {s:Shared}{M:Model}   {i:Nat}{x:Str}    (I:Inv X aU σ H s)(hN:X.N.Nodup)(hi:X.N[i]?=some x)(hx:Loc X.env.scope x)(r:RelV v u)
  (h:∀s',Inv X aU (σ.set i (some v)) H s'->(∃a,Heap.SameBut a s.heap s'.heap/\(a=X.env.locals\/X.env.cells.lookup x=some a))->Q () s')(hf:X.fn x=true\/X.env.scope.names.lookup x=some .local:=by first | exact .inl rfl | exact .inr rfl | assumption):wpAny M A (storeName X.env x u) Q E s:=by
 obtain⟨m,hn,hl⟩:=id I.loc;have hcls:(X.env.scope.kind==.class||(X.env.scope.kind==.module&&X.env.locals != X.env.globals))=false:=by rw[I.ok.kind];rfl
 have hiσ:i < σ.length:=by rw[I.len];exact(xbg.mp hi).1
 have cne:=I.cne;have tracked:∀{a:Addr} {h':Heap},(∃o,s.heap.get? a=some o/\H a=none)->Heap.SameBut a s.heap h'->HOk X.prog X.w H h':=λ{a h'} ha hs b ob e=>by
  obtain⟨_,_,hfree⟩:=ha;refine(I.hok b ob e).stay (λc w' hc q=>(hs.2 c ?_).trans q) (λ_ q=>q) λ_ _ q=>q
  rintro rfl;rcases hc with rfl | hc
  ·rw[hfree] at e;cases e
  ·rw[hfree] at hc;cases hc
 rcases hx with hk | hk
 ·refine wpAny_storeName_local hk hn (λh' hn' hs=>?_) hcls;obtain⟨oL,_,_,hoL,_⟩:=id hn;refine h _ ⟨I.ok,I.os,I.bare,⟨λb o e n hb hx=>?_,λb o e n hb hx=>?_,I.base.free,λb o e hx=>?_,I.base.tups,I.base.frzs,I.base.tbls⟩,⟨_,hn',λj y v' e1 e2 e3=>?_⟩,λy c e=>?_,I.free,I.freeC,λp hp=>?_,tracked ⟨oL,hoL,I.free⟩ hs,by simpa using I.len,I.hnd⟩ ⟨_,hs,.inl rfl⟩
  ·exact(hs.2 b (xci (xbh (xbx e) I.ok.above))).trans (I.base.keep b o e n hb hx)
  ·obtain⟨sl,e1⟩:=I.base.slot b o e n hb hx;exact⟨sl,(hs.2 b (xci (xbh (xbx e) I.ok.above))).trans e1⟩
  ·obtain⟨o',e1⟩:=I.base.there b o e hx;exact⟨o',(hs.2 b (xci (xbh (xbx e) I.ok.above))).trans e1⟩
  ·by_cases hj:j=i
   ·subst hj;rw[hi] at e1;cases e1
    rw[xdv hiσ] at e2;cases e2;exact⟨u,r,.inl ⟨hk,by simp⟩⟩
   ·rw[xcl (xer hj)] at e2;obtain⟨u',r',q⟩:=hl j y v' e1 e2 e3;refine⟨u',r',?_⟩;rcases q with⟨k,e⟩ | ⟨k,c,e,z⟩
    ·refine .inl ⟨k,?_⟩;have:y≠x:=λe=>hj (zus hN e1 (e ▸ hi))
     simp[this,e]
    ·exact .inr ⟨k,c,e,z.sameBut hs (cne y c e)⟩
  ·obtain⟨w',z⟩:=I.cell y c e;exact⟨w',z.sameBut hs (cne y c e)⟩
  ·obtain⟨e,n,ne,nf,d⟩:=I.pin p hp;exact⟨(hs.2 p.1 ne).trans e,n,ne,nf,d⟩
 ·have hfn:X.fn x=true:=by
   rcases hf with z | z
   ·exact z
   ·rw[z] at hk;cases hk
  obtain⟨c,hc⟩:=I.ok.has x (.inl hk);obtain⟨w',z⟩:=I.cell x c hc;refine wpAny_storeName_cell I.ok.kind hk hc z (λh' hc' hs=>?_);obtain⟨oc,hoc,hocd⟩:=id z;refine h {s with heap:=h'} ⟨I.ok,I.os,I.bare,⟨λb o e n hb hx=>?_,λb o e n hb hx=>?_,I.base.free,λb o e hx=>?_,I.base.tups,I.base.frzs,I.base.tbls⟩,⟨m,hn.sameBut hs (xer (cne x c hc)),λj y v' e1 e2 e3=>?_⟩,λy c' e=>?_,I.free,I.freeC,λp hp=>?_,tracked ⟨oc,hoc,I.freeC x c hc⟩ hs,by simpa using I.len,I.hnd⟩ ⟨c,hs,.inr hc⟩
  ·exact(hs.2 b (xci (xbh (xbx e) (I.ok.cab x c hfn hc)))).trans (I.base.keep b o e n hb hx)
  ·obtain⟨sl,e1⟩:=I.base.slot b o e n hb hx;exact⟨sl,(hs.2 b (xci (xbh (xbx e) (I.ok.cab x c hfn hc)))).trans e1⟩
  ·obtain⟨o',e1⟩:=I.base.there b o e hx;exact⟨o',(hs.2 b (xci (xbh (xbx e) (I.ok.cab x c hfn hc)))).trans e1⟩
  ·by_cases hj:j=i
   ·subst hj;rw[hi] at e1;cases e1
    rw[xdv hiσ] at e2;cases e2;exact⟨u,r,.inr ⟨.inl hk,c,hc,hc'⟩⟩
   ·rw[xcl (xer hj)] at e2;obtain⟨u',r',q⟩:=hl j y v' e1 e2 e3;refine⟨u',r',?_⟩;rcases q with q | ⟨k,c',e,z'⟩
    ·exact .inl q
    ·refine .inr ⟨k,c',e,z'.sameBut hs ?_⟩;rintro rfl;exact hj (zus hN e1 (I.ok.inj _ _ _ e hc ▸ hi))
  ·by_cases hcc:c'=c
   ·subst hcc;exact⟨_,hc'⟩
   ·obtain⟨w2,z2⟩:=I.cell y c' e;exact⟨w2,z2.sameBut hs hcc⟩
  ·obtain⟨e,n,ne,nf,d⟩:=I.pin p hp;refine⟨(hs.2 p.1 ?_).trans e,n,ne,nf,d⟩;intro q;rw[q,hoc] at e;have q':oc=p.2:=xcv e;exact d w' (by rw[← q'];exact hocd)
theorem znv {M:Model}        (I:Inv X aU σ H s)(hN:X.N.Nodup)(hi:X.N[i]?=some x)(hx:Loc X.env.scope x)(r:RelV v u)
  (h:∀s',Inv X aU (σ.set i (some v)) H s'->Q () s')(hf:X.fn x=true\/X.env.scope.names.lookup x=some .local:=by first | exact .inl rfl | exact .inr rfl | assumption):wpAny M A (storeName X.env x u) Q E s :=
 zyb I hN hi hx r (λs' I' _=>h s' I') hf
theorem Inv.call' {s':Shared}{ch:List Addr}(I:Inv X aU σ H s)(ho:s'.os=s.os)(u:Un (frs X.stack) ch H H' s.heap s'.heap)(hok:HOk X.prog X.w H' s'.heap)(hg:AllBare s'.gens)
  (hch:∀b∈ch,(b∈X.ex\/X.s₀.heap.objs.size<=b)/\b≠X.env.locals/\(∀x c,X.env.cells.lookup x=some c->c≠b)/\∀p∈X.pn++aU,p.1≠b):Inv X aU σ H' s':=by
 obtain⟨h',g',d',t',o'⟩:=s';have e:o'=s.os:=ho;subst e;exact I.call (g':=g') (t':=t') (d':=d') u hok hg hch
end
abbrev XK:=Value->Option Addr->Hp->Prop
noncomputable abbrev St:=List (Option V)
abbrev VK:=V->Hp->Prop
abbrev TE:=St->Hp->VK->Prop
abbrev TT:=St->Hp->(Bool->Hp->Prop)->Prop
abbrev TA:=St->Hp->(List V->Hp->Prop)->Prop
structure Ends where
 nx:St->Hp->Prop
 rt:VK
 bk:St->Hp->Prop:=λ_ _=>False
 ct:St->Hp->Prop:=λ_ _=>False
abbrev TS:=Ends->St->Hp->Prop
def EP (X:Cx) (aU:List (Addr×Obj)) (σ:St) (Q:VK) (u:Value) (s':Shared):Prop:=∃v H',Inv X aU σ H' s'/\RelV v u/\Q v H'
def TP (X:Cx) (aU:List (Addr×Obj)) (σ:St) (Q:Bool->Hp->Prop) (b:Bool) (s':Shared):Prop:=∃H',Inv X aU σ H' s'/\Q b H'
def AP (X:Cx) (aU:List (Addr×Obj)) (σ:St) (Q:List V->Hp->Prop) (us:List Value) (s':Shared):Prop:=∃vs H',Inv X aU σ H' s'/\Vals vs us/\Q vs H'
def SP (X:Cx) (aU:List (Addr×Obj)) (D:Ends) (f:Flow) (s':Shared):Prop :=
 match f with
 | .next=>∃σ' H',Inv X aU σ' H' s'/\D.nx σ' H'
 | .brk=>∃σ' H',Inv X aU σ' H' s'/\D.bk σ' H'
 | .cont=>∃σ' H',Inv X aU σ' H' s'/\D.ct σ' H'
 | .ret u=>∃v σ' H',Inv X aU σ' H' s'/\RelV v u/\D.rt v H'
def PE (X:Cx) (e:Expr) (t:TE):Prop :=
 ∀(aU:List (Addr×Obj)) (s:Shared) (σ:St) (H:Hp) (Q:VK),Inv X aU σ H s->t σ H Q->wpAny (model X.prog X.w) X.A (eval e X.env) (EP X aU σ Q) X.xe s
def PT (X:Cx) (e:Expr) (t:TT):Prop :=
 ∀(aU:List (Addr×Obj)) (s:Shared) (σ:St) (H:Hp) (Q:Bool->Hp->Prop),Inv X aU σ H s->t σ H Q->wpAny (model X.prog X.w) X.A (isTrue e X.env (eval e X.env)) (TP X aU σ Q) X.xe s
def PW (X:Cx) (e:Expr) (t:TT):Prop :=
 ∀(whole:Sem Value) (aU:List (Addr×Obj)) (s:Shared) (σ:St) (H:Hp) (Q:Bool->Hp->Prop),Inv X aU σ H s->t σ H Q->wpAny (model X.prog X.w) X.A (isTrue e X.env whole) (TP X aU σ Q) X.xe s
theorem PW.pt    (h:PW X e t):PT X e t:=h _
def PA (X:Cx) (es:List Expr) (t:TA):Prop :=
 ∀(pos:Pos) (aU:List (Addr×Obj)) (s:Shared) (σ:St) (H:Hp) (Q:List V->Hp->Prop),Inv X aU σ H s->t σ H Q->wpAny (model X.prog X.w) X.A (spliced (backTo pos (starEach es X.env))) (AP X aU σ Q) X.xe s
def PS (X:Cx) (au:Stmt) (t:TS):Prop :=
 ∀(aU:List (Addr×Obj)) (s:Shared) (σ:St) (H:Hp) (D:Ends),Inv X aU σ H s->t D σ H->wpAny (model X.prog X.w) X.A (exec au X.env) (SP X aU D) X.xe s
def PSs (X:Cx) (au:List Stmt) (t:TS):Prop :=
 ∀(aU:List (Addr×Obj)) (s:Shared) (σ:St) (H:Hp) (D:Ends),Inv X aU σ H s->t D σ H->wpAny (model X.prog X.w) X.A (execs au X.env) (SP X aU D) X.xe s
theorem thn {α:Type}{t:Sem α}{Q Q':α->Shared->Prop}{M:Model}    (h:wpAny M A t Q E s)(hQ:∀a s,Q a s->Q' a s):wpAny M A t Q' E s:=xfm h hQ λ_ _ x=>x
section
def tVar (i:Nat):TE:=λσ H Q=>∃v,σ[i]?=some (some v)/\Q v H
def tC (v:V):TE:=λ_ H Q=>Q v H
theorem zbok {X:Cx}    (hN:X.N[i]?=some x)(hv:Vis X.env.scope x)(hd:(x==("__debug__" : Str))=false:=by decide)(hcd:(x==("__classdict__" : Str))=false:=by decide):PE X (.Name x pos) (tVar i):=by
 intro aU s σ H Q I h;obtain⟨v,e,h⟩:=h;obtain⟨m,hn,hl⟩:=I.loc;obtain⟨u,r,l⟩:=hl i x v hN e hv;have fin:EP X aU σ Q u s:=⟨v,H,I,r,h⟩
 rcases l with⟨hk,hm⟩ | ⟨hk,c,hc,hcell⟩
 ·exact wpAny_Name (wpAny_loadName_local I.ok.kind hk hn hm fin) hd
 ·rcases hk with hk | hk
  ·exact wpAny_Name (wpAny_loadName_cell I.ok.kind hk hc hcell fin) hd
  ·exact wpAny_Name (wpAny_loadName_free I.ok.kind hk hc hcell fin hcd) hd
theorem zboq {i j pos}:PE X (.Constant (.int i) j pos) (tC (.int i)):=λ_ _ _ H _ I h=>wpAny_Constant_int ⟨.int i,H,I.tok _,⟨_,rfl⟩,h⟩
theorem zbto {b j pos}:PE X (.Constant (.bool b) j pos) (tC (.bl b)):=λ_ _ _ H _ I h=>Constant_bool ⟨.bl b,H,I,rfl,h⟩
theorem zbop {j pos}:PE X (.Constant .none j pos) (tC .non):=λ_ _ _ H _ I h=>Constant_none ⟨.non,H,I,rfl,h⟩
theorem zbom {x j pos}:PE X (.Constant (.str x) j pos) (tC (.str x)):=λ_ _ _ H _ I h=>Calls.Constant_str ⟨.str x,H,I.tok _,⟨_,rfl⟩,h⟩
noncomputable def Gl (X:Cx) (x:Str):Prop:=X.env.kindOf x=some .globalImplicit
theorem zbbl          (I:Inv X aU σ H s)(hg:Gl X x)(hm:X.mg x=some u)(h:Q u s)
  (hd:(x==("__debug__" : Str))=false:=by decide):wpAny (model X.prog X.w) X.A (eval (.Name x pos) X.env) Q E s :=
 Calls.Name_function_global I.ok.kind hg (Calls.loadGlobal_global (by rw[I.ok.glob];exact I.mod.glob.keeps I.bk) hm h) hd
theorem zsf          (I:Inv X aU σ H s)(hg:Gl X x)(hm:X.mg x=none)(hv:bootBuiltins x=some u)(h:Q u s)
  (hn:x≠"__name__":=by decide)(hd:(x==("__debug__" : Str))=false:=by decide):wpAny (model X.prog X.w) X.A (eval (.Name x pos) X.env) Q E s:=by
 obtain⟨mb,h1,h2⟩:=I.mod.blt;exact Calls.Name_function_global I.ok.kind hg (Calls.loadGlobal_builtin (by rw[I.ok.glob];exact I.mod.glob.keeps I.bk) hm (by rw[I.ok.blt];exact h1.keeps I.bk) ((h2 x hn).trans hv) h) hd
theorem zbbb     (hg:Gl X x)(hm:X.mg x=some u)(r:RelV v u)(hd:(x==("__debug__" : Str))=false:=by decide):PE X (.Name x pos) (tC v) :=
 λ_ _ _ H _ I h=>zbbl I hg hm ⟨v,H,I,r,h⟩ hd
theorem zty     (hg:Gl X x)(hm:X.mg x=none)(hv:bootBuiltins x=some u)(r:RelV v u)(hn:x≠"__name__":=by decide)(hd:(x==("__debug__" : Str))=false:=by decide):PE X (.Name x pos) (tC v) :=
 λ_ _ _ H _ I h=>zsf I hg hm hv ⟨v,H,I,r,h⟩ hn hd
def PC (X:Cx) (op:CmpOp) (a b:Expr) (t:TE):Prop :=
 ∀(aU:List (Addr×Obj)) (s:Shared) (σ:St) (H:Hp) (Q:VK),Inv X aU σ H s->t σ H Q ->
  wpAny (model X.prog X.w) X.A (eval a X.env) (λv s₁=>wpAny (model X.prog X.w) X.A (eval b X.env) (λu s₂=>wpAny (model X.prog X.w) X.A (compareOp op v u) (EP X aU σ Q) X.xe s₂) X.xe s₁) X.xe s
def tB (t:TE):TT:=λσ H Q=>t σ H λx H1=>∃c,x=.bl c/\Q c H1
section
variable {X:Cx}{a:Expr}{b:Expr}{pos:Pos}
theorem zbob {op:CmpOp}{t:TE}(h:PC X op a b t)(h1:behindInMarks op b=false:=by first | exact nobehind _ (by decide) (by decide) | rfl):PT X (.Compare a [op] [b] pos) (tB t):=by
 intro aU s σ H Q I hw;refine wpAny_isTrue_Compare1 (thn (h aU s σ H _ I hw) λv s1 h1=>thn h1 λu s2 h2=>thn h2 λc s3 hq0=>?_) h1;obtain⟨x,H1,I1,r1,q1⟩:=hq0;obtain⟨d,rfl,q⟩:=q1;cases r1;exact xgp ⟨H1,I1,q⟩
end
def tAnd (t u:TT):TT:=λσ H Q=>t σ H λc H1=>if c=true then u σ H1 Q else Q false H1
def tOr (t u:TT):TT:=λσ H Q=>t σ H λc H1=>if c=true then Q true H1 else u σ H1 Q
def tNot (t:TT):TT:=λσ H Q=>t σ H λc H1=>Q (!c) H1
section
variable {X:Cx}{a:Expr}{pos:Pos}{tA:TT}
theorem pw_and1 (ha:PT X a tA):PW X (.BoolOp .And [a] pos) tA:=by
 intro wh aU s σ H Q I h;refine isTrue_and (thn (ha aU s σ H Q I h) λc s1 e=>?_);cases c with
 | true=>exact isTrue_and_nil e
 | false=>exact e
theorem pw_or1 (ha:PT X a tA):PW X (.BoolOp .Or [a] pos) tA:=by
 intro wh aU s σ H Q I h;refine isTrue_or (thn (ha aU s σ H Q I h) λc s1 e=>?_);cases c with
 | false=>exact isTrue_or_nil e
 | true=>exact e
end
section
variable {X:Cx}{a:Expr}{b:Expr}{pos:Pos}{tA:TT}{tB':TT}{rest:List Expr}
theorem pw_and (ha:PT X a tA)(hb:PW X (.BoolOp .And (b::rest) pos) tB'):PW X (.BoolOp .And (a::b::rest) pos) (tAnd tA tB'):=by
 intro wh aU s σ H Q I h;refine isTrue_and (thn (ha aU s σ H _ I h) λc s1 hq0=>?_);obtain⟨H1,I1,q1⟩:=hq0;cases c with
 | true=>exact hb wh aU s1 σ H1 Q I1 q1
 | false=>exact⟨H1,I1,q1⟩
theorem pw_or (ha:PT X a tA)(hb:PW X (.BoolOp .Or (b::rest) pos) tB'):PW X (.BoolOp .Or (a::b::rest) pos) (tOr tA tB'):=by
 intro wh aU s σ H Q I h;refine isTrue_or (thn (ha aU s σ H _ I h) λc s1 hq0=>?_);obtain⟨H1,I1,q1⟩:=hq0;cases c with
 | true=>exact⟨H1,I1,q1⟩
 | false=>exact hb wh aU s1 σ H1 Q I1 q1
end
theorem zboa (ha:PT X a tA):PT X (.UnaryOp .Not a pos) (tNot tA):=by
 intro aU s σ H Q I h;exact isTrue_not (ha aU s σ H (λc H1=>Q (!c) H1) I h)
def tAndV (ta tb:TE):TE:=λσ H Q=>ta σ H λx H1=>∃c,x=.bl c/\if c=true then tb σ H1 Q else Q (.bl false) H1
def tNotV (ta:TE):TE:=λσ H Q=>ta σ H λx H1=>∃c,x=.bl c/\Q (.bl (!c)) H1
theorem zbon {op}  (h:PE X a t):PE X (.BoolOp op [a] pos) t:=λaU s σ H Q I hw=>BoolOp_one (h aU s σ H Q I hw)
section
variable {X:Cx}{a:Expr}{b:Expr}{ta:TE}{tb:TE}{pos:Pos}{rest:List Expr}
theorem zbot (ha:PE X a ta)(hb:PE X (.BoolOp .And (b::rest) pos) tb):PE X (.BoolOp .And (a::b::rest) pos) (tAndV ta tb):=by
 intro aU s σ H Q I h;refine BoolOp_and (thn (ha aU s σ H _ I h) λv s1 hq0=>?_);obtain⟨x,H1,I1,r1,q1⟩:=hq0;obtain⟨c,rfl,q1⟩:=q1;cases r1;refine xgp ?_;cases c with
 | true=>exact hb aU s1 σ H1 Q I1 q1
 | false=>exact⟨.bl false,H1,I1,rfl,q1⟩
end
section
variable {X:Cx}{a:Expr}{ta:TE}{pos:Pos}
theorem zboo (ha:PE X a ta):PE X (.UnaryOp .Not a pos) (tNotV ta):=by
 intro aU s σ H Q I h;refine UnaryOp_ (thn (ha aU s σ H _ I h) λv s1 hq0=>?_);obtain⟨x,H1,I1,r1,q1⟩:=hq0;obtain⟨c,rfl,q1⟩:=q1;cases r1;exact not_of (xgp ⟨.bl (!c),H1,I1,rfl,q1⟩)
end
def tIf (t:TT) (ta tb:TE):TE:=λσ H Q=>t σ H λc H1=>if c=true then ta σ H1 Q else tb σ H1 Q
section
variable {X:Cx}{a:Expr}{b:Expr}{ta:TE}{tb:TE}{pos:Pos}{tA:TT}
theorem zbea {c:Expr}(hc:PT X c tA)(ha:PE X a ta)(hb:PE X b tb):PE X (.IfExp c a b pos) (tIf tA ta tb):=by
 intro aU s σ H Q I h;refine wpAny_IfExp (thn (hc aU s σ H _ I h) λd s1 hq0=>?_);obtain⟨H1,I1,q1⟩:=hq0;cases d with
 | true=>exact ha aU s1 σ H1 Q I1 q1
 | false=>exact hb aU s1 σ H1 Q I1 q1
end
end
def SqL (K:Fg) (H:Hp) (a:Addr) (xs:List V):Prop :=
 Rd H a (.lst xs) \/
  ∃(o:Obj) (its:Array Value) (n:Nat),K.lookup a=some o/\o.cls=.type "list"/\o.dict=none/\o.data=.seq its n/\its.size<=sizeLine/\Vals xs its.toList
def SqT (K:Fg) (H:Hp) (a:Addr) (xs:List V):Prop :=
 Rd H a (.tup xs) \/
  ∃(o:Obj) (its:Array Value) (n:Nat),K.lookup a=some o/\o.cls=.type "tuple"/\o.data=.seq its n/\its.size<=sizeLine/\Vals xs its.toList
noncomputable def absV:Value->Option V
 | .none=>some .non
 | .bool b=>some (.bl b)
 | .int i _=>some (.int i)
 | .str x _=>some (.str x)
 | .bytes b _=>some (.byt b)
 | .float b _=>some (.flt b)
 | .ref a=>some (.ref a)
 | .type n=>some (.ty n)
 | _=>none
theorem RelV.abs   (r:RelV x u):absV u=some x:=by
 cases x with
 | non=>cases r;rfl
 | bl _=>cases r;rfl
 | int _=>obtain⟨t,rfl⟩:=r;rfl
 | str _=>obtain⟨t,rfl⟩:=r;rfl
 | byt _=>obtain⟨t,rfl⟩:=r;rfl
 | flt _=>obtain⟨t,rfl⟩:=r;rfl
 | ref _=>cases r;rfl
 | ty _=>cases r;rfl
theorem RelV.inj   (r:RelV x u)(q:RelV y u):x=y:=xcv (r.abs.symm.trans q.abs)
theorem Vals.inj:∀{xs ys:List V} {us:List Value},Vals xs us->Vals ys us->xs=ys
 | _,_,_,.nil,.nil=>rfl
 | _,_,_,.cons r t,.cons r' t'=>by rw[r.inj r',Vals.inj t t']
section
section
variable {H:Hp}{a:Addr}{xs:List V}
theorem SqL.of {K:Fg}(h:H a=some (.lst xs)):SqL K H a xs:=.inl (.inl h)
theorem SqT.of {K:Fg}(h:H a=some (.tup xs)):SqT K H a xs:=.inl (.inl h)
end
theorem Inv.list (I:Inv X aU σ H s)(h:SqL X.K H a xs):∃its:List Value,Vals xs its/\PlainL s.heap a its.toArray/\xs.length<=sizeLine:=by
 rcases h with h | ⟨o,its,n,hk,hc,hd,hs,hz,r⟩
 ·obtain⟨z,its,n,r,e⟩:=h.ok I.hok;exact⟨its,r,⟨_,n,e,rfl,rfl,rfl⟩,z⟩
 ·refine⟨its.toList,r,⟨o,n,I.kIn a o hk,hc,hd,by simpa using hs⟩,?_⟩;have e:=r.length;simp only[xcd] at e;lia
theorem Inv.tuple (I:Inv X aU σ H s)(h:SqT X.K H a xs):∃its:List Value,Vals xs its/\IsTup s.heap a its.toArray/\xs.length<=sizeLine:=by
 rcases h with h | ⟨o,its,n,hk,hc,hs,hz,r⟩
 ·obtain⟨z,its,r,p⟩:=h.ok I.hok;exact⟨its,r,p,z⟩
 ·refine⟨its.toList,r,⟨o,I.kIn a o hk,hc,n,by simpa using hs⟩,?_⟩;have e:=r.length;simp only[xcd] at e;lia
theorem Inv.list_inj (I:Inv X aU σ H s)(h:SqL X.K H a xs)(h':SqL X.K H a ys):xs=ys:=by
 obtain⟨its,r,⟨o,n,e,_,_,d⟩,_⟩:=I.list h;obtain⟨its',r',⟨o',n',e',_,_,d'⟩,_⟩:=I.list h';rw[e] at e';cases e'
 rw[d] at d';injection d' with d1 _
 have:its=its':=by simpa using congrArg Array.toList d1
 subst this;exact r.inj r'
theorem Inv.tuple_inj (I:Inv X aU σ H s)(h:SqT X.K H a xs)(h':SqT X.K H a ys):xs=ys:=by
 obtain⟨its,r,⟨o,e,_,n,d⟩,_⟩:=I.tuple h;obtain⟨its',r',⟨o',e',_,n',d'⟩,_⟩:=I.tuple h';rw[e] at e';cases e'
 rw[d] at d';injection d' with d1 _
 have:its=its':=by simpa using congrArg Array.toList d1
 subst this;exact r.inj r'
end
noncomputable abbrev Cx.wish (X:Cx) (E:Value->Shared->Prop):Cx:={X with xe:=E}
abbrev Cx.nox (X:Cx):Cx:=X.wish λ_ _=>False
theorem Cx.Ok.wish {X:Cx}(ok:X.Ok)(E:Value->Shared->Prop):(X.wish E).Ok :=
 ⟨ok.mod,ok.kind,ok.glob,ok.blt,ok.above,ok.inj,ok.has,ok.cab,ok.hd,ok.frames,ok.stk,ok.exf,ok.bs,ok.bsz,ok.noex,ok.exfs,ok.funs,ok.frf⟩
theorem Cx.Ok.unwish {X:Cx}  (ok:(X.wish E).Ok):X.Ok :=
 ⟨ok.mod,ok.kind,ok.glob,ok.blt,ok.above,ok.inj,ok.has,ok.cab,ok.hd,ok.frames,ok.stk,ok.exf,ok.bs,ok.bsz,ok.noex,ok.exfs,ok.funs,ok.frf⟩
section
theorem Inv.wish (I:Inv X aU σ H s)(E:Value->Shared->Prop):Inv (X.wish E) aU σ H s:=⟨I.ok.wish E,I.os,I.bare,I.base,I.loc,I.cell,I.free,I.freeC,I.pin,I.hok,I.len,I.hnd⟩
theorem Inv.unwish {X:Cx}(I:Inv (X.wish E) aU σ H s):Inv X aU σ H s:=⟨I.ok.unwish,I.os,I.bare,I.base,I.loc,I.cell,I.free,I.freeC,I.pin,I.hok,I.len,I.hnd⟩
theorem SP.unwish {X:Cx}{D:Ends}   (h:SP (X.wish E) aU D f s'):SP X aU D f s':=by
 cases f with
 | next=>obtain⟨σ',H',I,q⟩:=h;exact⟨σ',H',I.unwish,q⟩
 | brk=>obtain⟨σ',H',I,q⟩:=h;exact⟨σ',H',I.unwish,q⟩
 | cont=>obtain⟨σ',H',I,q⟩:=h;exact⟨σ',H',I.unwish,q⟩
 | ret u=>obtain⟨v,σ',H',I,r,q⟩:=h;exact⟨v,σ',H',I.unwish,r,q⟩
section
variable {X:Cx}{aU:List (Addr×Obj)}{σ:St}{H:Hp}{s:Shared}
theorem PSs.nox {au:List Stmt}{t:TS}(h:PSs X.nox au t):PSs X au t:=λaU s σ H D I hw =>
 xfm (h aU s σ H D (I.wish _) hw) (λ_ _ q=>q.unwish) λ_ _ z=>False.elim z
end
end
section
def tNext:TS:=λD σ H=>D.nx σ H
def tSeq (t u:TS):TS:=λD σ H=>t {D with nx:=u D} σ H
theorem zbin:PSs X [] tNext:=λ_ _ σ H _ I h=>xln ⟨σ,H,I,h⟩
section
variable {X:Cx}{au:Stmt}{rest:List Stmt}{t:TS}{u:TS}
theorem zbdq (h1:PS X au t)(h2:PSs X rest u):PSs X (au::rest) (tSeq t u):=by
 intro aU s σ H D I h;refine wpAny_execs_cons (thn (h1 aU s σ H {D with nx:=u D} I h) λf s1 q=>?_);cases f with
 | next =>
  obtain⟨σ',H',I',q⟩:=q;exact h2 aU s1 σ' H' D I' q
 | ret v=>exact q
 | brk=>exact q
 | cont=>exact q
end
section
variable {X:Cx}{au:Stmt}{t:TS}
theorem zbim (h1:PS X au t):PSs X [au] t:=by
 intro aU s σ H D I h;refine wpAny_execs_cons (thn (h1 aU s σ H D I h) λf s1 q=>?_);cases f with
 | next=>exact xln q
 | ret v=>exact q
 | brk=>exact q
 | cont=>exact q
end
def tBreak:TS:=λD σ H=>D.bk σ H
theorem zbds:PS X (.Break pos) tBreak:=λ_ _ σ H _ I h=>wpAny_Break ⟨σ,H,I,h⟩
theorem Inv.quiet     (I:Inv X aU σ H s):interactive X.env=false:=by simp[interactive,I.ok.kind]
def tDrop (te:TE):TS:=λD σ H=>te σ H λ_ H1=>D.nx σ H1
section
variable {X:Cx}{e:Expr}{te:TE}{pos:Pos}
theorem zbio (he:PE X e te)(hs:swapsWith e none pos.line X.env=pure false:=by rfl):PS X (.Expr e pos) (tDrop te):=by
 intro aU s σ H D I h;exact wpAny_Expr_any (thn (he aU s σ H _ I h) λv s1 ⟨x,H1,I1,r1,q1⟩=>⟨σ,H1,I1,q1⟩) I.quiet hs
end
def tRet (te:TE):TS:=λD σ H=>te σ H D.rt
section
variable {X:Cx}{e:Expr}{te:TE}{pos:Pos}
theorem zbod (he:PE X e te):PS X (.Return (some e) pos) (tRet te):=by
 intro aU s σ H D I h;exact wpAny_Return_some (thn (he aU s σ H _ I h) λv s1 ⟨x,H1,I1,r1,q1⟩=>⟨x,σ,H1,I1,r1,q1⟩)
end
def tIfS (c:TT) (t u:TS):TS:=λD σ H=>c σ H λb H1=>if b=true then t D σ H1 else u D σ H1
section
variable {X:Cx}{t:TS}{u:TS}{pos:Pos}
theorem zbtk {c:Expr}{a b:List Stmt}{tc:TT}(hc:PT X c tc)(ha:PSs X a t)(hb:PSs X b u):PS X (.If c a b pos) (tIfS tc t u):=by
 intro aU s σ H D I h;refine wpAny_If (thn (hc aU s σ H _ I h) λd s1 hq0=>?_);obtain⟨H1,I1,q1⟩:=hq0;cases d with
 | true=>exact ha aU s1 σ H1 D I1 q1
 | false=>exact hb aU s1 σ H1 D I1 q1
end
end
abbrev TG:=V->St->Hp->(St->Hp->Prop)->Prop
abbrev TGs:=List V->St->Hp->(St->Hp->Prop)->Prop
def PG (X:Cx) (target:Expr) (t:TG):Prop :=
 ∀(aU:List (Addr×Obj)) (s:Shared) (σ:St) (H:Hp) (v:V) (u:Value) (Q:St->Hp->Prop),Inv X aU σ H s->RelV v u->t v σ H Q ->
  wpAny (model X.prog X.w) X.A (assign target X.env u) (λ_ s'=>∃σ' H',Inv X aU σ' H' s'/\Q σ' H') X.xe s
def PGs (X:Cx) (ts:List Expr) (t:TGs):Prop :=
 ∀(aU:List (Addr×Obj)) (s:Shared) (σ:St) (H:Hp) (vs:List V) (us:List Value) (Q:St->Hp->Prop),Inv X aU σ H s->Vals vs us->t vs σ H Q ->
  wpAny (model X.prog X.w) X.A (assignInOrder ((assignEach ts X.env).map (·.2)) us) (λ_ s'=>∃σ' H',Inv X aU σ' H' s'/\Q σ' H') X.xe s
abbrev TSet:=V->V->V->Hp->(Hp->Prop)->Prop
def PSet (X:Cx) (t:TSet):Prop :=
 ∀(aU:List (Addr×Obj)) (s:Shared) (σ:St) (H:Hp) (o i v:V) (ov iv u:Value) (Q:Hp->Prop),Inv X aU σ H s->RelV o ov->RelV i iv->RelV v u->t o i v H Q ->
  wpAny (model X.prog X.w) X.A (setItem ov iv u) (λ_ s'=>∃H',Inv X aU σ H' s'/\Q H') X.xe s
abbrev TIp:=V->V->Hp->VK->Prop
def PIp (X:Cx) (op:Operator) (t:TIp):Prop :=
 ∀(aU:List (Addr×Obj)) (s:Shared) (σ:St) (H:Hp) (x y:V) (v u:Value) (Q:VK),Inv X aU σ H s->RelV x v->RelV y u->t x y H Q ->
  wpAny (model X.prog X.w) X.A (inplaceOp op v u) (EP X aU σ Q) X.xe s
section
def gName (i:Nat):TG:=λv σ H Q=>Q (σ.set i (some v)) H
theorem zbiy {X:Cx}   (hN:X.N.Nodup)(hi:X.N[i]?=some x)(hx:Loc X.env.scope x)(hf:X.fn x=true\/X.env.scope.names.lookup x=some .local:=by first | exact .inl rfl | exact .inr rfl | assumption):PG X (.Name x pos) (gName i):=by
 intro aU s σ H v u Q I r h;exact wpAny_assign_Name (znv I hN hi hx r (λs' I'=>⟨_,H,I',h⟩) hf)
def gNil:TGs:=λvs σ H Q=>vs=[]/\Q σ H
def gCons (t:TG) (u:TGs):TGs:=λvs σ H Q=>∃v r,vs=v::r/\t v σ H λσ' H'=>u r σ' H' Q
theorem zbix:PGs X [] gNil:=by
 intro aU s σ H vs us Q I r h;obtain⟨e,h⟩:=h;subst e;cases r;exact assignInOrder_nil ⟨σ,H,I,h⟩
section
variable {X:Cx}
theorem zbdy {e:Expr}{es:List Expr}{t:TG}{u:TGs}(h1:PG X e t)(h2:PGs X es u)
  (hs:(assignEach (e::es) X.env).map (·.2)=assign e X.env::(assignEach es X.env).map (·.2):=by rfl):PGs X (e::es) (gCons t u):=by
 intro aU s σ H vs us Q I r h;obtain⟨v,vr,e1,h⟩:=h;subst e1;cases r with
 | cons r rr =>
  rw[hs];refine assignInOrder_cons (thn (h1 aU s σ H _ _ _ I r h) λ_ s1 hq0=>?_);obtain⟨σ1,H1,I1,q1⟩:=hq0;exact h2 aU s1 σ1 H1 _ _ Q I1 rr q1
end
def gTup (K:Fg) (n:Nat) (t:TGs):TG:=λv σ H Q=>∃a xs,v=.ref a/\SqT K H a xs/\xs.length=n/\t xs σ H Q
theorem zboi {X:Cx}     (hc:X.calm=true)(h:PGs X es t)
  (hn:(assignEach es X.env).length=n:=by rfl)(hst:(assignEach es X.env).findIdx? (·.1)=none:=by rfl):PG X (.Tuple es k pos) (gTup X.K n t):=by
 intro aU s σ H v u Q I r hw;obtain⟨a,xs,e1,hq,hl,hw⟩:=hw;subst e1;cases r;obtain⟨its,rv,ht,hz⟩:=I.tuple hq;refine assign_Tuple_tuple (I.ok.hd hc) ht (by simp[hn,← hl,rv.length]) hst λh' hx=>?_
 have I1:Inv X aU σ H {s with heap:=h'}:=I.kept (t':=s.toks) λb o e=>hx b o (xci (xbx e)) e
 exact h aU _ σ H xs _ Q I1 (by simpa using rv) hw
def gSub (to ti:TE) (t:TSet):TG:=λv σ H Q=>to σ H λo H1=>ti σ H1 λi H2=>t o i v H2 λH3=>Q σ H3
section
variable {X:Cx}{pos:Pos}
theorem zboj {o i:Expr}{to ti:TE}{t:TSet}(ho:PE X o to)(hi:PE X i ti)(hs:PSet X t)
  (ha:∀v,assign (.Subscript o i pos) X.env v=(do
   let ov ← holding [v] (eval o X.env)
   let iv ← holding [v,ov] (eval i X.env)
   standAt pos
   holding [v,ov,iv] (setItem ov iv v)
   release [v,ov,iv] []):=by intro _;rfl):PG X (.Subscript o i pos) (gSub to ti t):=by
 intro aU s σ H v u Q I r h;rw[ha];refine xba (xfe (thn (ho aU s σ H _ I h) λov s1 hq0=>?_));obtain⟨x,H1,I1,r1,q1⟩:=hq0;refine xba (xfe (thn (hi aU s1 σ H1 _ I1 q1) λiv s2 hq0=>?_));obtain⟨y,H2,I2,r2,q2⟩:=hq0;refine xba (wpAny_standAt (xba (xfe (thn (hs aU s2 σ H2 x y v ov iv u _ I2 r1 r2 r q2) λ_ s3 hq0=>?_))));obtain⟨H3,I3,q3⟩:=hq0;exact wpAny_release ⟨σ,H3,I3,q3⟩
end
def tAsg (te:TE) (g:TG):TS:=λD σ H=>te σ H λx H1=>g x σ H1 D.nx
section
variable {X:Cx}{pos:Pos}
theorem zbog {tg e:Expr}{te:TE}{g:TG}(he:PE X e te)(hg:PG X tg g)(hs:swapsWithSole [tg] e pos.line X.env=pure false:=by rfl)(hw:swappedStores [tg] e X.env=pure none:=by rfl)
  (h1:(assignEach [tg] X.env).map (·.2)=[assign tg X.env]:=by rfl):PS X (.Assign [tg] e pos) (tAsg te g):=by
 intro aU s σ H D I h;refine wpAny_Assign_stores (thn (he aU s σ H _ I h) λv s1 hq0=>?_) hs hw;obtain⟨x,H1,I1,r1,q1⟩:=hq0;rw[h1];exact thn (hg aU s1 σ H1 x v _ I1 r1 q1) λ_ s2 q=>q
theorem zboc {i:Nat}{x:Str}{e:Expr}{te:TE}{pos':Pos}(hN:X.N.Nodup)(hi:X.N[i]?=some x)(hx:Loc X.env.scope x)(he:PE X e te)(hs:swapsWith e (some (.Name x pos')) pos.line X.env=pure false:=by rfl)(hf:X.fn x=true\/X.env.scope.names.lookup x=some .local:=by first | exact .inl rfl | exact .inr rfl | assumption) :
  PS X (.Assign [.Name x pos'] e pos) (tAsg te (gName i)):=by
 intro aU s σ H D I h;refine wpAny_Assign_Name (thn (he aU s σ H _ I h) λv s1 hq0=>?_) hs;obtain⟨y,H1,I1,r1,q1⟩:=hq0;exact znv I1 hN hi hx r1 (λs2 I2=>⟨_,H1,I2,q1⟩) hf
end
def tAug (i:Nat) (te:TE) (ti:TIp):TS:=λD σ H=>∃x,σ[i]?=some (some x)/\te σ H λy H1=>ti x y H1 λz H2=>D.nx (σ.set i (some z)) H2
section
variable {X:Cx}{pos:Pos}
theorem zbof {i:Nat}{x:Str}{e:Expr}{te:TE}{op:Operator}{ti:TIp}{pos':Pos}(hN:X.N.Nodup)(hi:X.N[i]?=some x)(hx:Loc X.env.scope x)(he:PE X e te)(ho:PIp X op ti)(hf:X.fn x=true\/X.env.scope.names.lookup x=some .local:=by first | exact .inl rfl | exact .inr rfl | assumption) :
  PS X (.AugAssign (.Name x pos') op e pos) (tAug i te ti):=by
 intro aU s σ H D I h;obtain⟨v,e1,h⟩:=h;obtain⟨m,hn,hl⟩:=I.loc;have vis:Vis X.env.scope x:=by rcases hx with k | k;exact .inl k;exact .inr (.inl k)
 obtain⟨u,r,l⟩:=hl i x v hi e1 vis;refine wpAny_AugAssign_Name ?_;have go:wpAny (model X.prog X.w) X.A (eval e X.env) (λw s₂=>wpAny (model X.prog X.w) X.A (inplaceOp op u w) (λr s₃=>wpAny (model X.prog X.w) X.A (storeName X.env x r) (λ_=>SP X aU D .next) X.xe s₃) X.xe s₂) X.xe s:=by
  refine thn (he aU s σ H _ I h) λw s1 hq0=>?_
  obtain⟨y,H1,I1,r1,q1⟩:=hq0;refine thn (ho aU s1 σ H1 v y u w _ I1 r r1 q1) λz s2 hq0=>?_
  obtain⟨zv,H2,I2,r2,q2⟩:=hq0;exact znv I2 hN hi hx r2 (λs3 I3=>⟨_,H2,I3,q2⟩) hf
 rcases l with⟨hk,hm⟩ | ⟨hk,c,hc,hcell⟩
 ·exact wpAny_loadName_local I.ok.kind hk hn hm go
 ·rcases hk with hk | hk
  ·exact wpAny_loadName_cell I.ok.kind hk hc hcell go
  ·rcases hx with k | k
   ·have:X.env.scope.names.lookup x=some .free:=hk;rw[k] at this;cases this
   ·have:X.env.scope.names.lookup x=some .free:=hk;rw[k] at this;cases this
end
def ipI (f:Int->Int->Int):TIp:=λx y H Q=>∃i j,x=.int i/\y=.int j/\Q (.int (f i j)) H
theorem zbpx:PIp X .Add (ipI λi j=>i+j):=by
 intro aU s σ H x y v u Q I r1 r2 h;obtain⟨i,j,e1,e2,q⟩:=h;subst e1;subst e2
 obtain⟨t,rfl⟩:=r1;obtain⟨t',rfl⟩:=r2;exact iadd_int ⟨.int _,H,I.tok _,⟨_,rfl⟩,q⟩
theorem zbpw:PIp X .Sub (ipI λi j=>i - j):=by
 intro aU s σ H x y v u Q I r1 r2 h;obtain⟨i,j,e1,e2,q⟩:=h;subst e1;subst e2
 obtain⟨t,rfl⟩:=r1;obtain⟨t',rfl⟩:=r2;exact isub_int ⟨.int _,H,I.tok _,⟨_,rfl⟩,q⟩
end
section
def tWhile (c:TT) (tb:TS):TS:=λD σ H=>∃W:Nat->St->Hp->Prop,(∃m,W m σ H)/\∀m σ H,W m σ H ->
 c σ H λb H1=>if b=true then ∃N:St->Hp->Prop,(∀σ' H',N σ' H'->∃m',m' < m/\W m' σ' H')/\tb {D with nx:=N,ct:=N,bk:=D.nx} σ H1 else D.nx σ H1
section
variable {X:Cx}{pos:Pos}
theorem zbdr {c:Expr}{body:List Stmt}{tc:TT}{tb:TS}(hp:PassesOwn (model X.prog X.w) X.A X.env X.xe)(hc:PT X c tc)(hb:PSs X body tb):PS X (.While c body [] pos) (tWhile tc tb):=by
 intro aU s σ H D I h;obtain⟨W,⟨m0,w0⟩,turn⟩:=h;refine wpAny_While (codeAny_whileLoop (λn s'=>∃σ' H',Inv X aU σ' H' s'/\W n σ' H') ?_ m0 ⟨σ,H,I,w0⟩);rintro n s1 ⟨σ1,H1,I1,w1⟩;refine xho hp (thn (hc aU s1 σ1 H1 _ I1 (turn n σ1 H1 w1)) λb s2 hq0=>?_);obtain⟨H2,I2,q2⟩:=hq0;cases b with
 | true =>
  obtain⟨N,hN,q2⟩:=q2;rw[if_pos rfl];refine xho hp (thn (hb aU s2 σ1 H2 _ I2 q2) λf s3 q3=>?_);cases f with
  | next =>
   obtain⟨σ3,H3,I3,n3⟩:=q3;obtain⟨m',hm,w3⟩:=hN σ3 H3 n3;exact⟨m',hm,σ3,H3,I3,w3⟩
  | cont =>
   obtain⟨σ3,H3,I3,n3⟩:=q3;obtain⟨m',hm,w3⟩:=hN σ3 H3 n3;exact⟨m',hm,σ3,H3,I3,w3⟩
  | brk=>exact q3
  | ret v=>exact q3
 | false =>
  rw[if_neg xft];exact xln ⟨σ1,H2,I2,q2⟩
end
end
structure It where
 go:Nat->Hp->Prop
 yld:Nat->Hp->V->Hp->Prop
 stop:Nat->Hp->Prop
def FpOk (X:Cx) (aU:List (Addr×Obj)) (H:Hp) (b:Addr):Prop :=
 H b=none/\b≠X.env.locals/\b∉X.fs/\(b∈X.ex\/X.s₀.heap.objs.size<=b)/\(∀x c,X.env.cells.lookup x=some c->c≠b)/\∀p∈X.pn++aU,p.1≠b
theorem Inv.fpOk       (I:Inv X aU σ H s)(hb:s.heap.objs.size<=b)(hn:H' b=none):FpOk X aU H' b:=by
 refine⟨hn,xjt (xbh I.lt hb),I.nofs hb,.inr (xbc I.sz hb),λx c e z=>?_,λp hp z=>?_⟩
 ·obtain⟨v,q⟩:=I.cell x c e;exact absurd (xbh q.lt (by rw[z];exact hb)) (xgq _)
 ·exact absurd (xbh (xbx (I.pin p hp).1) (by rw[z];exact hb)) (xgq _)
structure Turn (P:Program) (w:World) (K:Fg) (tg:Expr) (J:It) (fp:List Addr) (it:Addr) (tn:Nat->Heap->Prop):Prop where
 mem:it∈fp
 obj:∀i h,tn i h->∀b∈fp,∃o,h.get? b=some o/\∀v,o.data≠.cell v
 keep:∀i h h',tn i h->(∀b∈fp,∀o,h.get? b=some o->h'.get? b=some o)->tn i h'
 item:∀(X:Cx),X.prog=P->X.w=w->X.K=K->X.calm=true->∀(i:Nat) (aU:List (Addr×Obj)) (s:Shared) (σ:St) (H:Hp) (E:Value->Shared->Prop),Inv X aU σ H s->(∀b∈fp,FpOk X aU H b)->tn i s.heap->J.go i H ->
  wpAny (model P w) X.A (pyNext (.ref it)) (λr s1=>∃u,r=some u /\
   wpAny (model P w) X.A (letOwnedTupleGo tg (.ref it) u) (λ_ s2=>∃x H',Inv X aU σ H' s2/\RelV x u/\J.yld i H x H'/\tn (i+1) s2.heap/\∀b∈fp,H' b=none) E s1) E s
 done:∀(X:Cx),X.prog=P->X.w=w->X.K=K->X.calm=true->∀(i:Nat) (aU:List (Addr×Obj)) (s:Shared) (σ:St) (H:Hp) (E:Value->Shared->Prop),Inv X aU σ H s->(∀b∈fp,FpOk X aU H b)->tn i s.heap->J.stop i H ->
  wpAny (model P w) X.A (pyNext (.ref it)) (λr s1=>r=none/\Inv X aU σ H s1) E s
 self:∀(A:Around) (i:Nat) (s:Shared) (Q:Value->Shared->Prop) (E:Value->Shared->Prop),tn i s.heap->Q (.ref it) s->wpAny (model P w) A (pyIter (.ref it)) Q E s
abbrev TI:=St->Hp->(It->Hp->Prop)->Prop
def PIE (X:Cx) (aU:List (Addr×Obj)) (σ:St) (tg:Expr) (R:It->Hp->Prop) (itv:Value) (s2:Shared):Prop :=
 ∃(it:Addr) (fp:List Addr) (tn:Nat->Heap->Prop) (J:It) (H':Hp),itv=.ref it/\Inv X aU σ H' s2/\Turn X.prog X.w X.K tg J fp it tn/\tn 0 s2.heap/\(∀b∈fp,FpOk X aU H' b)/\R J H'
def PI (X:Cx) (tg iter:Expr) (wi:TI):Prop :=
 ∀(aU:List (Addr×Obj)) (s:Shared) (σ:St) (H:Hp) (R:It->Hp->Prop),Inv X aU σ H s->wi σ H R ->
  wpAny (model X.prog X.w) X.A (eval iter X.env) (λv s1=>wpAny (model X.prog X.w) X.A (pyIter v) (PIE X aU σ tg R) X.xe s1) X.xe s
theorem zbng {M:Model}   {s:Shared}        (ho:s.heap.get? it=some o)(hc:o.cls=.type n)(hd:o.data=.fields vs)
    (hn:["enumerate","zip","dict_itemiterator","dict_reverseitemiterator","odict_iterator","itertools.zip_longest","itertools.pairwise"].contains n=false)(hQ:Q () s):wpAny M A (letOwnedTupleGo tg (.ref it) u) Q E s:=by
  unfold letOwnedTupleGo;cases tg <;> first
    | exact xbe hQ
    | (cases u <;> first
        | exact xbe hQ
        | (refine xba (wpAny_load ho ?_)
           rw[hc,hd];show wpAny M A (if(["enumerate","zip","dict_itemiterator","dict_reverseitemiterator","odict_iterator","itertools.zip_longest","itertools.pairwise"].contains n&&vs[0]?==some (rawInt _))=true then _ else _) Q E s
           rw[if_neg (by intro h; rw[hn,Bool.false_and] at h; cases h)]
           exact xbe hQ))
def Itl (K:Fg) (a:Addr):It :=
 ⟨λi H=>∃xs x,SqL K H a xs/\xs[i]?=some x,λi H x H'=>H'=H/\∀xs,SqL K H a xs->xs[i]?=some x,λi H=>∃xs,SqL K H a xs/\xs.length<=i⟩
def Itt (K:Fg) (a:Addr):It :=
 ⟨λi H=>∃xs x,SqT K H a xs/\xs[i]?=some x,λi H x H'=>H'=H/\∀xs,SqT K H a xs->xs[i]?=some x,λi H=>∃xs,SqT K H a xs/\xs.length<=i⟩
noncomputable def Itr (lo:Int) (n:Nat):It:=⟨λi _=>i < n,λi H x H'=>H'=H/\x=.int (lo+i),λi _=>n<=i⟩
theorem zxw {P:Program}{w:World}{K:Fg}{tg:Expr}(a it:Addr):Turn P w K tg (Itl K a) [it] it (λi h=>h.IsListIter it a i) where
 mem:=by simp
 obj:=λi h au b hb=>by
  have e:b=it:=by simpa using hb
  subst e;obtain⟨o,e,c,d⟩:=au;exact⟨o,e,λv z=>by rw[d] at z;cases z⟩
 keep:=λi h h' au k=>au.at λo e=>k it (by simp) o e
 item:=by
  intro X hP hw hK hc i aU s σ H E I hf au hg;subst hP hw hK;obtain⟨xs,x,hq,hx⟩:=hg;obtain⟨its,rv,p,hz⟩:=I.list hq;obtain⟨u,hu,ru⟩:=rv.get hx;obtain⟨f0,f1,f2,f3,f4,f5⟩:=hf it (by simp);refine wpAny_pyNext_list_item au p.isList (x:=u) (by simpa using hu) λh' st' sb=>?_
  have I1:Inv X aU σ H {s with heap:=h'}:=I.turned (t':=s.toks) (λb o hb e=>(sb.2 b hb).trans e) f0 f1 f3 f4 f5;obtain⟨o,e,c,d⟩:=id st';exact⟨u,rfl,zbng (s:={s with heap:=h'}) e c d (by decide) ⟨x,H,I1,ru,⟨rfl,λys hy=>by rw[I.list_inj hy hq];exact hx⟩,st',λb hb=>(hf b hb).1⟩⟩
 done:=by
  intro X hP hw hK hc i aU s σ H E I hf au hg;subst hP hw hK;obtain⟨xs,hq,hx⟩:=hg;obtain⟨its,rv,p,hz⟩:=I.list hq;obtain⟨f0,f1,f2,f3,f4,f5⟩:=hf it (by simp);have hl:=rv.length;exact wpAny_pyNext_list_end (I.ok.hd hc) au p.isList (by simp;lia) λh' eb=>⟨rfl,I.turned (t':=s.toks) (λb o hb e=>eb b o hb e) f0 f1 f3 f4 f5⟩
 self:=λ_ _ _ _ _ au h=>wpAny_pyIter_listiter au h
theorem zsz {P:Program}{w:World}{K:Fg}{tg:Expr}(a it:Addr):Turn P w K tg (Itt K a) [it] it (λi h=>h.IsTupleIter it a i) where
 mem:=by simp
 obj:=λi h au b hb=>by
  have e:b=it:=by simpa using hb
  subst e;obtain⟨o,e,c,d⟩:=au;exact⟨o,e,λv z=>by rw[d] at z;cases z⟩
 keep:=λi h h' au k=>au.at λo e=>k it (by simp) o e
 item:=by
  intro X hP hw hK hc i aU s σ H E I hf au hg;subst hP hw hK;obtain⟨xs,x,hq,hx⟩:=hg;obtain⟨its,rv,p,hz⟩:=I.tuple hq;obtain⟨u,hu,ru⟩:=rv.get hx;obtain⟨f0,f1,f2,f3,f4,f5⟩:=hf it (by simp);refine wpAny_pyNext_tuple_item au (show s.heap.IsTuple a its.toArray from p) (x:=u) (by simpa using hu) λh' st' sb=>?_
  have I1:Inv X aU σ H {s with heap:=h'}:=I.turned (t':=s.toks) (λb o hb e=>(sb.2 b hb).trans e) f0 f1 f3 f4 f5;obtain⟨o,e,c,d⟩:=id st';exact⟨u,rfl,zbng (s:={s with heap:=h'}) e c d (by decide) ⟨x,H,I1,ru,⟨rfl,λys hy=>by rw[I.tuple_inj hy hq];exact hx⟩,st',λb hb=>(hf b hb).1⟩⟩
 done:=by
  intro X hP hw hK hc i aU s σ H E I hf au hg;subst hP hw hK;obtain⟨xs,hq,hx⟩:=hg;obtain⟨its,rv,p,hz⟩:=I.tuple hq;obtain⟨f0,f1,f2,f3,f4,f5⟩:=hf it (by simp);have hl:=rv.length;exact wpAny_pyNext_tuple_end (I.ok.hd hc) au (show s.heap.IsTuple a its.toArray from p) (by simp;lia) λh' eb=>⟨rfl,I.turned (t':=s.toks) (λb o hb e=>eb b o hb e) f0 f1 f3 f4 f5⟩
 self:=λ_ _ _ _ _ au h=>wpAny_pyIter_tupleiter au h
theorem zta {P:Program}{w:World}{K:Fg}{tg:Expr}(it:Addr)(lo:Int)(n:Nat):Turn P w K tg (Itr lo n) [it] it (λi h=>IsRangeIter h it (lo+(i:Nat) * 1) ((n:Int) - (i:Nat)) 1) where
 mem:=by simp
 obj:=λi h au b hb=>by
  have e:b=it:=by simpa using hb
  subst e
  exact⟨_,au,λv z=>by
   have z':Data.fields _=Data.cell v:=z
   cases z'⟩
 keep:=λi h h' au k=>k it (by simp) _ au
 item:=by
  intro X hP hw hK hc i aU s σ H E I hf au hg;subst hP hw hK;obtain⟨f0,f1,f2,f3,f4,f5⟩:=hf it (by simp);have W:=Walks.range (prog:=X.prog) (w:=X.w) (I.ok.hd hc) it lo 1 n;refine W.item i s _ _ hg au λv h' tk hv st' kk=>?_
  obtain⟨t,rfl⟩:=hv;have I1:Inv X aU σ H {s with heap:=h',toks:=tk}:=I.turned (λb o hb e=>kk b o (by simpa using hb) e) f0 f1 f3 f4 f5;refine⟨_,rfl,zbng (s:={ s with heap:=h', toks:=tk }) (n:="range_iterator") st' rfl rfl (by decide) ⟨.int (lo + i),H,I1,⟨t,?_⟩,⟨rfl,rfl⟩,st', λb hb=>(hf b hb).1⟩⟩
  rw[Int.mul_one]
 done:=by
  intro X hP hw hK hc i aU s σ H E I hf au hg;subst hP hw hK;obtain⟨f0,f1,f2,f3,f4,f5⟩:=hf it (by simp);exact wpAny_pyNext_range_end (I.ok.hd hc) au (by have:n<=i:=hg;lia) λh' eb=>⟨rfl,I.turned (t':=s.toks) (λb o hb e=>eb b o hb e) f0 f1 f3 f4 f5⟩
 self:=λ_ _ _ _ _ au h=>wpAny_pyIter_rangeiter au h
section
def iList (K:Fg) (tl:TE):TI:=λσ H R=>tl σ H λx H1=>∃a,x=.ref a/\(∃xs,SqL K H1 a xs)/\R (Itl K a) H1
def iTup (K:Fg) (tl:TE):TI:=λσ H R=>tl σ H λx H1=>∃a,x=.ref a/\(∃xs,SqT K H1 a xs)/\R (Itt K a) H1
section
variable {X:Cx}{tg:Expr}
theorem zbiu {l:Expr}{tl:TE}(hl:PE X l tl):PI X tg l (iList X.K tl):=by
 intro aU s σ H R I h;refine thn (hl aU s σ H _ I h) λv s1 hq0=>?_
 obtain⟨x,H1,I1,r1,q1⟩:=hq0;obtain⟨a,e,⟨xs,hq⟩,q⟩:=q1;subst e;cases r1;obtain⟨its,rv,p,hz⟩:=I1.list hq;refine xiw p.isList ?_;refine⟨s1.heap.objs.size,[s1.heap.objs.size],_,_,H1,rfl,I1.kept (t':=s1.toks) λb o e=>xbn _ e,zxw a _,⟨_,xcg _ rfl,rfl,rfl⟩,λb hb=>?_,q⟩;have e:b=s1.heap.objs.size:=by simpa using hb
 subst e;exact I1.fpOk (xbf _) (I1.hok.fresh (xbf _))
theorem zboh {l:Expr}{tl:TE}(hl:PE X l tl):PI X tg l (iTup X.K tl):=by
 intro aU s σ H R I h;refine thn (hl aU s σ H _ I h) λv s1 hq0=>?_
 obtain⟨x,H1,I1,r1,q1⟩:=hq0;obtain⟨a,e,⟨xs,hq⟩,q⟩:=q1;subst e;cases r1;obtain⟨its,rv,p,hz⟩:=I1.tuple hq;refine xmg (show s1.heap.IsTuple a its.toArray from p) ?_;refine⟨s1.heap.objs.size,[s1.heap.objs.size],_,_,H1,rfl,I1.kept (t':=s1.toks) λb o e=>xbn _ e,zsz a _,⟨_,xcg _ rfl,rfl,rfl⟩,λb hb=>?_,q⟩;have e:b=s1.heap.objs.size:=by simpa using hb
 subst e;exact I1.fpOk (xbf _) (I1.hok.fresh (xbf _))
end
theorem zts    {s:Shared}   {lo hi:Int}  {tk:Nat}(I:Inv X aU σ H s)(h1:-(2 ^ 62)<=lo)(h2:lo < 2 ^ 62)(h3:-(2 ^ 62)<=hi)(h4:hi < 2 ^ 62)
  (q:R (Itr lo (hi - lo).toNat) H):wpAny (model X.prog X.w) X.A (pyIter (.ref s.heap.objs.size)) (PIE X aU σ tg R) E { s with heap:=s.heap.push { cls:=.type "range", data:=.fields #[.int lo t,.int hi u,.int 1 v] },toks:=tk }:=by
 refine wpAny_pyIter_range (IsRange.new ..) (small_one h1 h2 h3 h4) ?_;have I1:Inv X aU σ H { s with heap:=s.heap.push { cls:=.type "range", data:=.fields #[.int lo t,.int hi u,.int 1 v] },toks:=tk }:=I.kept λb o e=>xbn _ e
 refine⟨(s.heap.push { cls:=.type "range", data:=.fields #[.int lo t,.int hi u,.int 1 v] }).objs.size,[(s.heap.push { cls:=.type "range", data:=.fields #[.int lo t,.int hi u,.int 1 v] }).objs.size],_,_,H,rfl,
  I1.kept (t':=tk) λb o e=>xbn _ e,zta _ lo (hi - lo).toNat,?_,λb hb=>?_,q⟩
 ·have e1:lo+((0:Nat):Int) * 1=lo:=by simp
  have e2:(((hi - lo).toNat:Nat):Int) - ((0:Nat):Int)=Builtin.Range.rangeSize lo hi 1:=by rw[rangeSize_one];split<;>lia
  show IsRangeIter _ _ (lo+((0:Nat):Int) * 1) ((((hi - lo).toNat:Nat):Int) - ((0:Nat):Int)) 1;rw[e1,e2];exact xcg _ rfl
 ·have e:b=(s.heap.push { cls:=.type "range", data:=.fields #[.int lo t,.int hi u,.int 1 v] }).objs.size:=by simpa using hb
  subst e;exact I1.fpOk (xbf _) (I1.hok.fresh (xbf _))
def iRng1 (ta:TA):TI:=λσ H R=>ta σ H λvs H1=>∃j:Int,vs=[.int j]/\-(2 ^ 62)<=j/\j < 2 ^ 62/\R (Itr 0 j.toNat) H1
def iRng2 (ta:TA):TI:=λσ H R=>ta σ H λvs H1=>∃i j:Int,vs=[.int i,.int j]/\(-(2 ^ 62)<=i/\i < 2 ^ 62/\-(2 ^ 62)<=j/\j < 2 ^ 62)/\R (Itr i (j - i).toNat) H1
section
variable {X:Cx}{tg:Expr}
theorem zyr {a:Expr}{ta:TA}{p pos:Pos}(hg:Gl X "range")(hm:X.mg "range"=none)(ha:PA X [a] ta)(hs:starEach [a] X.env=[(false,eval a X.env)]:=by rfl):PI X tg (.Call (.Name "range" p) [a] [] pos) (iRng1 ta):=by
 intro aU s σ H R I h;refine Call_ (zsf I hg hm boot_range (xhc (thn (ha pos aU s σ H _ I h) λus s1 hq0=>?_) hs rfl));obtain⟨vs,H1,I1,r1,q1⟩:=hq0;obtain⟨j,e,q1,q2,q⟩:=q1;subst e;cases r1 with
 | cons r rr =>
  cases rr;obtain⟨t,rfl⟩:=r;exact call_range_1 (zts I1 (by lia) (by lia) q1 q2 (by simpa using q))
theorem zyq {a b:Expr}{ta:TA}{p pos:Pos}(hg:Gl X "range")(hm:X.mg "range"=none)(ha:PA X [a,b] ta)(hs:starEach [a,b] X.env=[(false,eval a X.env),(false,eval b X.env)]:=by rfl)(hs2:starEach [b] X.env=[(false,eval b X.env)]:=by rfl) :
  PI X tg (.Call (.Name "range" p) [a,b] [] pos) (iRng2 ta):=by
 intro aU s σ H R I h;refine Call_ (zsf I hg hm boot_range (xhc (thn (ha pos aU s σ H _ I h) λus s1 ⟨vs,H1,I1,r1,q1⟩=>?_) (by rw[hs,hs2]) (by rw[hs2];rfl)));obtain⟨i,j,e,⟨q1,q2,q3,q4⟩,q⟩:=q1;subst e;cases r1 with
 | cons r rr =>
  cases rr with
  | cons r' rr =>
   cases rr;obtain⟨t,rfl⟩:=r;obtain⟨t',rfl⟩:=r';exact call_range_2 (zts I1 q1 q2 q3 q4 q)
end
def tFor (wi:TI) (g:TG) (tb:TS):TS:=λD σ H=>wi σ H λJ H1=>∃W:Nat->Nat->St->Hp->Prop,(∃m,W 0 m σ H1)/\∀i m σ H,W i m σ H ->
 (J.stop i H/\D.nx σ H)\/(J.go i H/\∃N:St->Hp->Prop,(∀σ' H',N σ' H'->∃m',m' < m/\W (i+1) m' σ' H')/\∀x H',J.yld i H x H'->g x σ H' λσ2 H2=>tb {D with nx:=N,ct:=N,bk:=D.nx} σ2 H2)
noncomputable def pinsAt (fp:List Addr) (h:Heap):List (Addr×Obj):=fp.filterMap λb=>(h.get? b).map λo=>(b,o)
theorem zfu  {h:Heap}   (hb:b∈fp)(e:h.get? b=some o):(b,o)∈pinsAt fp h:=List.mem_filterMap.mpr ⟨b,hb,by rw[e];rfl⟩
theorem zzb    (hp:p∈pinsAt fp h):p.1∈fp/\h.get? p.1=some p.2:=by
 obtain⟨b,hb,e⟩:=List.mem_filterMap.mp hp;cases q:h.get? b with
 | none=>rw[q] at e;cases e
 | some o =>
  rw[q] at e;have e':(b,o)=p:=xcv e;subst e';exact⟨hb,q⟩
theorem Inv.pinned      (I:Inv X aU σ H s)(hf:∀b∈fp,FpOk X aU H b)(ho:∀b∈fp,∃o,s.heap.get? b=some o/\∀v,o.data≠.cell v):Inv X (aU++pinsAt fp s.heap) σ H s :=
 I.pins_of λp hp=>(xbr.mp hp).elim (λz=>I.pin p (xde _ z)) λz=>by
  obtain⟨hb,e⟩:=zzb z;obtain⟨f0,f1,f2,_⟩:=hf p.1 hb;obtain⟨o,e',d⟩:=ho p.1 hb;rw[e] at e';cases e'
  exact⟨e,f0,f1,f2,d⟩
theorem Inv.unpinned     (I:Inv X (aU++pl) σ H s):Inv X aU σ H s:=I.pins_of λp hp=>I.pin p (xde _ (xeb _ hp))
section
variable {X:Cx}{tg:Expr}
theorem zboe {iter:Expr}{body:List Stmt}{wi:TI}{g:TG}{tb:TS}{pos:Pos}(hp:PassesOwn (model X.prog X.w) X.A X.env X.xe)(hc:X.calm=true)(hi:PI X tg iter wi)(hg:PG X tg g)(hb:PSs X body tb)
  (hs:∀x,foldedSetIterable iter X.env x=pure x:=by intro _;rfl):PS X (.For tg iter body [] pos) (tFor wi g tb):=by
 intro aU s σ H D I h;refine wpAny_For (thn (hi aU s σ H _ I h) λv s1 h1=>thn h1 λitv s2 h2=>?_) hs;obtain⟨it,fp,tn,J,H2,e,I2,T,st2,f2,W,⟨m0,w0⟩,turn⟩:=h2;subst e;have stat:∀{H':Hp},(∀b∈fp,H' b=none)->∀b∈fp,FpOk X aU H' b:=λhn b hb=>⟨hn b hb,(f2 b hb).2⟩
 refine codeAny_forLoop_any (λn s'=>∃i σ' H',Inv X aU σ' H' s'/\tn i s'.heap/\(∀b∈fp,H' b=none)/\W i n σ' H') ?_ m0 ⟨0,σ,H2,I2,st2,λb hb=>(f2 b hb).1,w0⟩;rintro n s3 ⟨i,σ3,H3,I3,st3,fr3,w3⟩;rcases turn i n σ3 H3 w3 with⟨stop,qn⟩ | ⟨go,N,hN,step⟩
 ·refine xho hp (thn (T.done X rfl rfl rfl hc i aU s3 σ3 H3 X.xe I3 (stat fr3) st3 stop) λr s4 hq0=>?_);obtain⟨hr,I4⟩:=hq0;subst hr;exact xln ⟨σ3,H3,I4,qn⟩
 ·refine xho hp (thn (T.item X rfl rfl rfl hc i aU s3 σ3 H3 X.xe I3 (stat fr3) st3 go) λr s4 hq0=>?_);obtain⟨u,hr,h4⟩:=hq0;subst hr;refine xho hp (thn h4 λ_ s5 hq0=>?_);obtain⟨x,H5,I5,r5,y5,st5,fr5⟩:=hq0;have I5':=I5.pinned (stat fr5) (T.obj _ _ st5);refine xho hp (thn (hg _ s5 σ3 H5 x u _ I5' r5 (step x H5 y5)) λ_ s6 hq0=>?_);obtain⟨σ6,H6,I6,q6⟩:=hq0;refine xho hp (thn (hb _ s6 σ6 H6 _ I6 q6) λf s7 q7=>?_);have again:∀{σ7:St} {H7:Hp},Inv X (aU++pinsAt fp s5.heap) σ7 H7 s7->N σ7 H7->∃m,m < n/\∃i σ' H',Inv X aU σ' H' s7/\tn i s7.heap/\(∀b∈fp,H' b=none)/\W i m σ' H':=λ{σ7 H7} I7 n7=>by
   obtain⟨m',hm,w7⟩:=hN σ7 H7 n7;refine⟨m',hm,i+1,σ7,H7,I7.unpinned,T.keep _ _ _ st5 λb hb o e=>(I7.pin (b,o) (xde _ (xde _ (zfu hb e)))).1,λb hb=>?_,w7⟩;obtain⟨o,e,d⟩:=T.obj _ _ st5 b hb;exact(I7.pin (b,o) (xde _ (xde _ (zfu hb e)))).2.1
  cases f with
  | next=>obtain⟨σ7,H7,I7,n7⟩:=q7;exact again I7 n7
  | cont=>obtain⟨σ7,H7,I7,n7⟩:=q7;exact again I7 n7
  | brk=>obtain⟨σ7,H7,I7,q7⟩:=q7;exact⟨σ7,H7,I7.unpinned,q7⟩
  | ret v=>obtain⟨x7,σ7,H7,I7,r7,q7⟩:=q7;exact⟨x7,σ7,H7,I7.unpinned,r7,q7⟩
end
end
abbrev R2:=V->V->Hp->VK->Prop
def OpR (X:Cx) (f:Value->Value->Sem Value) (r:R2):Prop :=
 ∀(aU:List (Addr×Obj)) (s:Shared) (σ:St) (H:Hp) (x y:V) (v u:Value) (Q:VK),Inv X aU σ H s->RelV x v->RelV y u->r x y H Q ->
  wpAny (model X.prog X.w) X.A (f v u) (EP X aU σ Q) X.xe s
def CallR (X:Cx) (f:Value) (r:List V->Hp->VK->Prop):Prop :=
 ∀(aU:List (Addr×Obj)) (s:Shared) (σ:St) (H:Hp) (xs:List V) (us:List Value) (Q:VK),Inv X aU σ H s->Vals xs us->r xs H Q ->
  wpAny (model X.prog X.w) X.A (call f us) (EP X aU σ Q) X.xe s
def TruR (X:Cx) (r:V->Hp->(Bool->Hp->Prop)->Prop):Prop :=
 ∀(aU:List (Addr×Obj)) (s:Shared) (σ:St) (H:Hp) (x:V) (v:Value) (Q:Bool->Hp->Prop),Inv X aU σ H s->RelV x v->r x H Q ->
  wpAny (model X.prog X.w) X.A (truthy v) (TP X aU σ Q) X.xe s
def tOp (r:R2) (ta tb:TE):TE:=λσ H Q=>ta σ H λx H1=>tb σ H1 λy H2=>r x y H2 Q
def rI (C:Int->Int->Prop) (g:Int->Int->V):R2:=λx y H Q=>∃i j,x=.int i/\y=.int j/\C i j/\Q (g i j) H
def rI0 (g:Int->Int->V):R2:=λx y H Q=>∃i j,x=.int i/\y=.int j/\Q (g i j) H
section
section
variable {X:Cx}{a:Expr}{b:Expr}{ta:TE}{tb:TE}
theorem binT (ha:PE X a ta)(hb:PE X b tb){aU:List (Addr×Obj)}{s:Shared}{σ:St}{H:Hp}{R:V->V->Hp->Prop}(I:Inv X aU σ H s)
  (h:ta σ H λx H1=>tb σ H1 λy H2=>R x y H2){Q:Value->Shared->Prop}{f:Value->Value->Sem Value}
  (hf:∀v u s2 x y H2,Inv X aU σ H2 s2->RelV x v->RelV y u->R x y H2->wpAny (model X.prog X.w) X.A (f v u) Q X.xe s2) :
  wpAny (model X.prog X.w) X.A (eval a X.env) (λv s₁=>wpAny (model X.prog X.w) X.A (eval b X.env) (λu s₂=>wpAny (model X.prog X.w) X.A (f v u) Q X.xe s₂) X.xe s₁) X.xe s:=by
 refine thn (ha aU s σ H _ I h) λv s1 hq0=>?_
 obtain⟨x,H1,I1,r1,q1⟩:=hq0;refine thn (hb aU s1 σ H1 _ I1 q1) λu s2 hq0=>?_
 obtain⟨y,H2,I2,r2,q2⟩:=hq0;exact hf v u s2 x y H2 I2 r1 r2 q2
end
section
variable {X:Cx}{a:Expr}{b:Expr}{ta:TE}{tb:TE}{pos:Pos}
theorem zbtm {op:Operator}{r:R2}(ho:OpR X (binaryOp op) r)(ha:PE X a ta)(hb:PE X b tb):PE X (.BinOp a op b pos) (tOp r ta tb):=by
 intro aU s σ H Q I h;exact wpAny_BinOp (binT ha hb I h λv u s2 x y H2 I2 rx ry q=>ho aU s2 σ H2 x y v u Q I2 rx ry q)
end
section
variable {X:Cx}
theorem opI {f:Value->Value->Sem Value}{C:Int->Int->Prop}{g:Int->Int->Int}
  (rule:∀(i j:Int) (t u:Tok) (s:Shared) (Q:Value->Shared->Prop) (E:Value->Shared->Prop),C i j->Q (.int (g i j) s.toks) {s with toks:=s.toks+1}->wpAny (model X.prog X.w) X.A (f (.int i t) (.int j u)) Q E s) :
  OpR X f (rI C λi j=>.int (g i j)):=by
 intro aU s σ H x y v u Q I rx ry h;obtain⟨i,j,rfl,rfl,hc,q⟩:=h;obtain⟨t,rfl⟩:=rx;obtain⟨t',rfl⟩:=ry;exact rule i j t t' s _ _ hc ⟨.int (g i j),H,I.tok _,⟨_,rfl⟩,q⟩
theorem opI0 {f:Value->Value->Sem Value}{g:Int->Int->Int}
  (rule:∀(i j:Int) (t u:Tok) (s:Shared) (Q:Value->Shared->Prop) (E:Value->Shared->Prop),Q (.int (g i j) s.toks) {s with toks:=s.toks+1}->wpAny (model X.prog X.w) X.A (f (.int i t) (.int j u)) Q E s) :
  OpR X f (rI0 λi j=>.int (g i j)):=by
 intro aU s σ H x y v u Q I rx ry h;obtain⟨i,j,rfl,rfl,q⟩:=h;obtain⟨t,rfl⟩:=rx;obtain⟨t',rfl⟩:=ry;exact rule i j t t' s _ _ ⟨.int (g i j),H,I.tok _,⟨_,rfl⟩,q⟩
theorem opB0 {f:Value->Value->Sem Value}{g:Int->Int->Bool}
  (rule:∀(i j:Int) (t u:Tok) (s:Shared) (Q:Value->Shared->Prop) (E:Value->Shared->Prop),Q (.bool (g i j)) s->wpAny (model X.prog X.w) X.A (f (.int i t) (.int j u)) Q E s) :
  OpR X f (rI0 λi j=>.bl (g i j)):=by
 intro aU s σ H x y v u Q I rx ry h;obtain⟨i,j,rfl,rfl,q⟩:=h;obtain⟨t,rfl⟩:=rx;obtain⟨t',rfl⟩:=ry;exact rule i j t t' s _ _ ⟨.bl (g i j),H,I,rfl,q⟩
end
noncomputable def CPow (i j:Int):Prop:=0<=j/\j<=1000000/\i.natAbs < 2 ^ 64
noncomputable def CMul (i j:Int):Prop:=(-(2 ^ 64) < i/\i < 2 ^ 64)\/(-(2 ^ 64) < j/\j < 2 ^ 64)
theorem CMul.ok  (h:CMul i j):IntMulOk i j:=by
 rcases h with⟨h1,h2⟩ | ⟨h1,h2⟩
 ·exact .of_left (intBits_le_64 h1 h2)
 ·exact .of_right (intBits_le_64 h1 h2)
theorem zsy (k:Nat):(0:Int)<=2 ^ k:=by
 rw[two_pow_cast];exact Int.natCast_nonneg _
theorem zbpc:OpR X (binaryOp .Add) (rI0 λi j=>.int (i+j)):=opI0 λ_ _ _ _ _ _ _ q=>add_int q
theorem zbek:OpR X (binaryOp .Sub) (rI0 λi j=>.int (i - j)):=opI0 λ_ _ _ _ _ _ _ q=>sub_int q
section
variable {X:Cx}
theorem zhn:OpR X (binaryOp .Mult) (rI CMul λi j=>.int (i * j)):=opI λ_ _ _ _ _ _ _ hc q=>mul_int q hc.ok
end
theorem zkt:OpR X (binaryOp .Mod) (rI (λ_ j=>0 < j) λi j=>.int (i % j)):=opI λi j _ _ _ _ _ hc q=>by
 have h1:(0:Int) < j:=hc;exact mod_int' (by lia) (by rw[Int.fmod_eq_emod_of_nonneg i (by lia)];exact q)
section
variable {X:Cx}
theorem zbow:OpR X (binaryOp .Pow) (rI CPow λi j=>.int (i ^ j.toNat)):=opI λ_ _ _ _ _ _ _ hc q=>pow_int_small hc.1 hc.2.1 hc.2.2 q
theorem zyt:OpR X (binaryOp .LShift) (rI CPow λi j=>.int (i * 2 ^ j.toNat)):=opI λ_ _ _ _ _ _ _ hc q=>lshift_int_small hc.1 hc.2.1 hc.2.2 q
end
theorem zbjj:OpR X (binaryOp .RShift) (rI (λ_ j=>0<=j) λi j=>.int (i / 2 ^ j.toNat)):=opI λi j _ _ _ _ _ hc q =>
 rshift_int hc (by rw[xmi i (zsy _)];exact q)
theorem zrt:OpR X (binaryOp .BitAnd) (rI0 λi j=>.int (Builtin.bitAnd i j)):=opI0 λ_ _ _ _ _ _ _ q=>and_int q
theorem zbox:OpR X (binaryOp .BitOr) (rI0 λi j=>.int (Builtin.bitOr i j)):=opI0 λ_ _ _ _ _ _ _ q=>or_int q
theorem zbji:OpR X (binaryOp .BitXor) (rI0 λi j=>.int (Builtin.bitXor i j)):=opI0 λ_ _ _ _ _ _ _ q=>xor_int q
end
section
theorem zbqc       (I:Inv X aU σ H s)(q:Q (.bl k) H)(e:k=k'):EP X aU σ Q (.bool k') s:=by
 subst e;exact⟨.bl k,H,I,rfl,q⟩
theorem zbtq:OpR X (compareOp .Lt) (rI0 λi j=>.bl (decide (i < j))):=opB0 λ_ _ _ _ _ _ _ q=>lt_int q
theorem zyv:OpR X (compareOp .LtE) (rI0 λi j=>.bl (decide (i<=j))):=opB0 λ_ _ _ _ _ _ _ q=>le_int q
theorem zbel:OpR X (compareOp .Gt) (rI0 λi j=>.bl (decide (j < i))):=opB0 λ_ _ _ _ _ _ _ q=>gt_int q
theorem zbpa:OpR X (compareOp .GtE) (rI0 λi j=>.bl (decide (j<=i))):=opB0 λ_ _ _ _ _ _ _ q=>ge_int q
theorem zboz:OpR X (compareOp .Is) (λx y H Q=>y=.non/\Q (.bl (decide (x=.non))) H):=by
 intro aU s σ H x y v u Q I rx ry h;obtain⟨rfl,q⟩:=h;cases ry;refine is_none_gen (zbqc I q ?_);cases x<;>first
  | (cases rx;rfl)
  | (obtain⟨t,rfl⟩:=rx;rfl)
theorem OpR.or   (h:OpR X f r)(h':OpR X f r'):OpR X f (λx y H Q=>r x y H Q\/r' x y H Q):=by
 intro aU s σ H x y v u Q I rx ry q;rcases q with q | q
 ·exact h aU s σ H x y v u Q I rx ry q
 ·exact h' aU s σ H x y v u Q I rx ry q
theorem nomark (b:Expr)  (h:op≠.In:=by decide)(h2:op≠.NotIn:=by decide):behindInMarks op b=false:=by
 have e1:(op==CmpOp.In)=false:=by cases op<;>first | rfl | exact absurd rfl h
 have e2:(op==CmpOp.NotIn)=false:=by cases op<;>first | rfl | exact absurd rfl h2
 cases b<;>simp[behindInMarks,e1,e2]
theorem zbja   (ho:OpR X (compareOp op) r)(ha:PE X a ta)(hb:PE X b tb)(hm:behindInMarks op b=false):PE X (.Compare a [op] [b] pos) (tOp r ta tb):=by
 intro aU s σ H Q I h;exact wpAny_Compare1 (binT ha hb I h λv u s2 x y H2 I2 rx ry q=>ho aU s2 σ H2 x y v u Q I2 rx ry q) hm
def tTest (t:TE):TT:=λσ H Q=>t σ H λx H'=>∃k,x=.bl k/\Q k H'
section
variable {X:Cx}{a:Expr}{b:Expr}{c:Expr}{ta:TE}{tb:TE}{pos:Pos}
theorem zbik {op:CmpOp}{r:R2}(ho:OpR X (compareOp op) r)(ha:PE X a ta)(hb:PE X b tb)(hm:behindInMarks op b=false):PT X (.Compare a [op] [b] pos) (tTest (tOp r ta tb)):=by
 intro aU s σ H Q I h
 refine wpAny_isTrue_Compare1 (thn (ha aU s σ H _ I h) λv s1 ⟨x,H1,I1,r1,q1⟩=>thn (hb aU s1 σ H1 _ I1 q1) λu s2 ⟨y,H2,I2,r2,q2⟩ =>
  thn (ho aU s2 σ H2 x y v u _ I2 r1 r2 q2) λc s3 ⟨z,H3,I3,r3,k,e,q3⟩=>?_) hm
 subst e;cases r3;exact xgp ⟨H3,I3,q3⟩
end
def TruV (K:Fg) (x:V) (H:Hp) (k:Bool):Prop :=
 match x with
 | .non=>k=false
 | .bl b=>k=b
 | .int i=>k=(i != 0)
 | .str y=>y.length<=sizeLine/\k=((y.length:Int) != 0)
 | .byt y=>y.size<=sizeLine/\k=((y.size:Int) != 0)
 | .ref p=>(∃xs,SqL K H p xs/\k=!xs.isEmpty)\/(∃xs,SqT K H p xs/\k=!xs.isEmpty)\/∃kvs,H p=some (.dK kvs)/\k=!kvs.isEmpty
 | _=>False
theorem zvi {κ:Type}{kvs:List (κ×V)}{vs:List (κ×Value)}(r:KV kvs vs):(!vs.isEmpty)=!kvs.isEmpty:=by
 cases r<;>rfl
theorem znc   (r:Vals xs its):(!its.toArray.isEmpty)=!xs.isEmpty:=by
 cases r<;>simp
theorem line63:(sizeLine:Nat) < 2 ^ 63:=by rw[xhu];decide
section
variable {X:Cx}{b:Expr}
theorem zbnl:TruR X (λx H Q=>∃k,TruV X.K x H k/\Q k H):=by
 intro aU s σ H x v Q I rx h;obtain⟨k,e,q⟩:=h;have hl:=line63;have hs:sizeLine=16777216:=xhu;cases x with
 | non =>
  cases rx;have e':k=false:=e;subst e';exact truthy_none ⟨H,I,q⟩
 | bl b =>
  cases rx;have e':k=b:=e;subst e';exact xgp ⟨H,I,q⟩
 | int i =>
  obtain⟨t,rfl⟩:=rx;have e':k=(i != 0):=e;subst e';exact PySem.P.truthy_int ⟨H,I,q⟩
 | str y =>
  obtain⟨t,rfl⟩:=rx;obtain⟨hy,e'⟩:y.length<=sizeLine/\k=((y.length:Int) != 0):=e;subst e';exact PySem.P.truthy_str (by lia) ⟨H,I.tok _,q⟩
 | byt y =>
  obtain⟨t,rfl⟩:=rx;obtain⟨hy,e'⟩:y.size<=sizeLine/\k=((y.size:Int) != 0):=e;subst e';exact W.truthy_bytes (by lia) ⟨H,I.tok _,q⟩
 | ref p =>
  cases rx;have e':(∃xs,SqL X.K H p xs/\k=!xs.isEmpty)\/(∃xs,SqT X.K H p xs/\k=!xs.isEmpty)\/∃kvs,H p=some (.dK kvs)/\k=!kvs.isEmpty:=e
  rcases e' with⟨xs,hx,e'⟩ | ⟨xs,hx,e'⟩ | ⟨kvs,hx,e'⟩
  ·subst e';obtain⟨its,r,pl,hz⟩:=I.list hx;have hlen:=r.length;exact wpAny_truthy_list pl.isList (by simp only[xbt];lia) ⟨H,I.tok _,by rw[znc r];exact q⟩
  ·subst e';obtain⟨its,r,pl,hz⟩:=I.tuple hx;have hlen:=r.length;exact truthy_tuple pl (by simp only[xbt];lia) ⟨H,I.tok _,by rw[znc r];exact q⟩
  ·subst e';obtain⟨hz,hS,vs,r,m⟩:kvs.length<=sizeLine/\(p==sysModules)=false/\∃vs,KV kvs vs/\s.heap.DictOf (mixKind X.prog X.w) p vs:=I.hok p _ hx
   have hlen:kvs.length=vs.length:=xid r;exact wpAny_truthy_dict hS m (by lia) ⟨H,I.tok _,by rw[zvi r];exact q⟩
 | _=>exact(show False from e).elim
end
section
variable {X:Cx}{a:Expr}{ta:TE}
theorem zbdp (ha:PE X a ta)(he:∀whole,isTrue a X.env whole=(do let v ← whole;standAt a.pos;holding [v] (truthy v))) :
  PT X a (λσ H Q=>ta σ H λx H'=>∃k,TruV X.K x H' k/\Q k H'):=by
 intro aU s σ H Q I h;exact isTrue_plain (thn (ha aU s σ H _ I h) λv s1 ⟨x,H1,I1,r1,q1⟩=>zbnl aU s1 σ H1 x v Q I1 r1 q1) (he _)
end
theorem zuf:OpR X (binaryOp .Add) (λx y H Q=>∃i j,x=.str i/\y=.str j/\i.length+j.length<=sizeLine/\Q (.str (i++j)) H):=by
 intro aU s σ H x y v u Q I rx ry h;obtain⟨i,j,rfl,rfl,hz,q⟩:=h;obtain⟨t,rfl⟩:=rx;obtain⟨t',rfl⟩:=ry;exact add_str (λt' tk=>⟨.str (i++j),H,I.tok _,⟨_,rfl⟩,q⟩) hz
theorem vals1   (r:Vals [x] us):∃u,us=[u]/\RelV x u:=by
 cases r with
 | cons r1 r2=>cases r2;exact⟨_,rfl,r1⟩
theorem vals2   (r:Vals [x,y] us):∃u w',us=[u,w']/\RelV x u/\RelV y w':=by
 cases r with
 | cons r1 r2 =>
  cases r2 with
  | cons r3 r4=>cases r4;exact⟨_,_,rfl,r1,r3⟩
theorem zbgn:CallR X (.builtin "abs") (λxs H Q=>∃ i,xs=[.int i]/\Q (.int (if i < 0 then -i else i)) H):=by
 intro aU s σ H xs us Q I r h;obtain⟨i,rfl,q⟩:=h;obtain⟨u,rfl,t,rfl⟩:=vals1 r;exact call_abs_int λu tk=>⟨.int (if i < 0 then -i else i),H,I.tok _,⟨_,rfl⟩,q⟩
theorem zls {X:Cx}(hc:X.calm=true):CallR X (.builtin "min") (λxs H Q=>∃ i j,xs=[.int i,.int j]/\Q (.int (if j < i then j else i)) H):=by
 intro aU s σ H xs us Q I r h;obtain⟨i,j,rfl,q⟩:=h;obtain⟨u,w',rfl,⟨t,rfl⟩,⟨t',rfl⟩⟩:=vals2 r;refine min_two_ints (I.ok.hd hc) λh' tk k=>⟨_,H,I.kept k,?_,q⟩
 by_cases hj:j < i
 ·rw[if_pos hj,if_pos hj];exact⟨_,rfl⟩
 ·rw[if_neg hj,if_neg hj];exact⟨_,rfl⟩
theorem zlt:CallR X (.type "int") (λxs H Q=>(∃ i,xs=[.int i]/\Q (.int i) H)\/∃ k,xs=[.bl k]/\Q (.int (if k then 1 else 0)) H):=by
 intro aU s σ H xs us Q I r h;rcases h with⟨i,rfl,q⟩ | ⟨k,rfl,q⟩
 ·obtain⟨u,rfl,t,rfl⟩:=vals1 r;exact call_int_int ⟨.int i,H,I,⟨_,rfl⟩,q⟩
 ·obtain⟨u,rfl,r1⟩:=vals1 r;cases r1;exact call_int_bool ⟨.int (if k then 1 else 0),H,I.tok _,⟨_,rfl⟩,q⟩
end
structure ObjM (h:Heap) (x dx C:Addr) (mA:Str->Option Value):Prop where
 obj:h.get? x=some (W.instObj C dx)
 ns:h.Ns1 dx mA
 ne:dx≠x
theorem zzj {h:Heap}   (n:h.Ns1 dx mA):∃od,h.get? dx=some od/\∀name,W.lookIn name od=some (mA name):=by
 obtain⟨o,es,ep,ho,hd,hk,_,hm⟩:=n;refine⟨o,ho,λname=>?_⟩;have e:=hm name;unfold nsFind findBy at e;rw[← Array.find?_toList] at e;unfold W.lookIn;rw[hd];dsimp only;split
 ·rename_i y q;rw[q] at e;exact congrArg some e
 ·rename_i q;rw[q] at e;have a:es.toList.any (·.refKey)=false:=by
   rw[List.any_eq_false];intro y hy;obtain⟨z,t,hkey⟩:=hk y (xlc.mp hy);simp[DictEntry.refKey,hkey]
  have a':¬ es.toList.any (·.refKey)=true:=by rw[a];exact xft
  rw[if_neg a'];exact congrArg some e
theorem ObjM.look    (I:ObjM h x dx C mA):∃od,W.InstAt h x (W.instObj C dx) C (some od)/\∀name,W.lookIn name od=some (mA name) :=
 let ⟨od,ho,hl⟩:=zzj I.ns
 ⟨od,⟨I.obj,rfl,rfl,ho⟩,hl⟩
section
end
theorem RelO.some_of   (r:RelO (some v) o):∃u,o=some u/\RelV v u:=by
 cases o with
 | none=>exact(show False from r).elim
 | some u=>exact⟨u,rfl,r⟩
section
theorem zbki (hok:HOk P w H h)(e:H a=some (.ins C dx fs)):∃mA,ObjM h a dx C mA/\(∀f,RelO (fs.lookup f) (mA f))/\PySem.Within mA (fs.map (·.1))/\fs.length<=1000/\H dx=some (.own a):=by
 obtain⟨d,z,ne,ob,mA,n,r,q⟩:=(show ObjOk P w H h a (.ins C dx fs) from hok a _ e)
 exact⟨mA,⟨ob,n,ne⟩,r,q,z,d⟩
end
structure Cls (K:Fg) (C:Addr):Prop where
 pg:W.plainGet K C Str.empty=true
 hd:W.hasDictIn K C=true
 po:W.plainOver K C=true
 sa:W.findIn K (.ref C) "__setattr__"=some (some (.builtin "object.__setattr__"))
theorem Cls.get {K:Fg}{C:Addr}(c:Cls K C)(f:Str):W.plainGet K C f=true:=c.pg
section
end
section
end
section
inductive TyOf (K:Fg) (H:Hp):V->Value->Prop where
 | non:TyOf K H .non (.type "NoneType")
 | bl (x:Bool):TyOf K H (.bl x) (.type "bool")
 | int (i:Int):TyOf K H (.int i) (.type "int")
 | str (x:Str):TyOf K H (.str x) (.type "str")
 | flt (x:UInt64):TyOf K H (.flt x) (.type "float")
 | lst {a:Addr} {xs:List V} (e:H a=some (.lst xs)):TyOf K H (.ref a) (.type "list")
 | frz {a:Addr} {o:Obj} {xs:List V} (e:H a=some (.frz o (.lst xs))):TyOf K H (.ref a) (.type "list")
 | tup {a:Addr} {xs:List V} (e:H a=some (.tup xs)):TyOf K H (.ref a) (.type "tuple")
 | dK {a:Addr} {kvs:List (Key×V)} (e:H a=some (.dK kvs)):TyOf K H (.ref a) (.type "dict")
 | dT {a:Addr} {kvs:List (List Key×V)} (e:H a=some (.dT kvs)):TyOf K H (.ref a) (.type "dict")
 | ins {a C dx:Addr} {fs:List (Str×V)} (e:H a=some (.ins C dx fs)) (cl:Cls K C) (ha:W.findIn K (.ref C) "__class__"=some (some (.builtin "object.__class__")))
  (hn:W.specialIn K (.builtin "object.__class__") "__get__"=some (some (.builtin "getset_descriptor.__get__")))(htk:W.takesIn K (.builtin "object.__class__")=some true)
  (hm:W.mroIn K C (.type "object")=some true):TyOf K H (.ref a) (.ref C)
theorem zzu   (I:Inv X aU σ H s)(rx:RelV x u)(ty:TyOf X.K H x t)(e:W.kitOne X.K t c=some b)(h:∀tk,Q (.bool b) {s with toks:=tk}) :
  wpAny (model X.prog X.w) A (call (.builtin "isinstance") [u,c]) Q E s:=by
 cases ty with
 | non=>cases(show u=Value.none from rx);exact xfi W.kitx_none I.kIn True.intro e (λz=>nomatch z) h
 | bl y=>cases(show u=Value.bool y from rx);exact xfi W.kitx_bool I.kIn True.intro e (λz=>nomatch z) h
 | int i=>obtain⟨t,q⟩:=(show ∃t,u=Value.int i t from rx);cases q;exact xfi W.kitx_int I.kIn True.intro e (λz=>nomatch z) h
 | str y=>obtain⟨t,q⟩:=(show ∃t,u=Value.str y t from rx);cases q;exact xfi W.kitx_str I.kIn True.intro e (λz=>nomatch z) h
 | flt y=>obtain⟨t,q⟩:=(show ∃t,u=Value.float y t from rx);cases q;exact xfi W.kitx_float I.kIn True.intro e (λz=>nomatch z) h
 | @lst a xs ea =>
  cases(show u=Value.ref a from rx);obtain⟨_,_,n,_,h1⟩:=(show ObjOk X.prog X.w H s.heap a (.lst xs) from I.hok a _ ea)
  exact xfi W.kitx_list I.kIn ⟨_,h1,rfl⟩ e (λz=>nomatch z) h
 | @frz a ob xs ea =>
  cases(show u=Value.ref a from rx);obtain⟨_,_,_,n,_,h1⟩:=(show ObjOk X.prog X.w H s.heap a (.frz ob (.lst xs)) from I.hok a _ ea)
  exact xfi W.kitx_list I.kIn ⟨_,h1,rfl⟩ e (λz=>nomatch z) h
 | @tup a xs ea =>
  cases(show u=Value.ref a from rx);obtain⟨_,_,_,p⟩:=(show ObjOk X.prog X.w H s.heap a (.tup xs) from I.hok a _ ea)
  obtain⟨o,h1,h2,_⟩:=p;exact xfi W.kitx_tuple I.kIn ⟨o,h1,h2⟩ e (λz=>nomatch z) h
 | @dK a kvs ea =>
  cases(show u=Value.ref a from rx);obtain⟨_,_,vs,_,p⟩:=(show ObjOk X.prog X.w H s.heap a (.dK kvs) from I.hok a _ ea)
  obtain⟨o,es,ep,h1,h2,_⟩:=p;exact xfi W.kitx_dict I.kIn ⟨o,h1,h2.1⟩ e (λz=>nomatch z) h
 | @dT a kvs ea =>
  cases(show u=Value.ref a from rx);obtain⟨_,_,xs,_,o,es,ep,h1,h2,_⟩:=(show ObjOk X.prog X.w H s.heap a (.dT kvs) from I.hok a _ ea)
  exact xfi W.kitx_dict I.kIn ⟨o,h1,h2.1⟩ e (λz=>nomatch z) h
 | @ins a C dx fs ea cl ha hn htk hm =>
  cases(show u=Value.ref a from rx);obtain⟨mA,O,_⟩:=zbki I.hok ea;obtain⟨od,J,_⟩:=O.look;exact xfi (W.kitx_own (cl.get _) cl.hd ha hn htk hm) I.kIn J e (λz=>nomatch z) h
end
structure Room (k:Nat) (A:Around):Prop where
 hd:A.handled=none
 dp:A.depth+3 * k+5 < recursionLimit
 un:A.units+16 * k+200 < cLine
theorem Room.mono   (r:Room k A)(h:j<=k):Room j A:=⟨r.hd,by have:=r.dp;lia,by have:=r.un;lia⟩
theorem Room.deeper   (r:Room (k+1) A)(env:Env):Room k (A.deeper env) :=
 ⟨r.hd,by have:=r.dp;show A.depth+1+3 * k+5 < _;lia,by have:=r.un;show A.units+3+16 * k+200 < _;lia⟩
theorem Room.depth   (r:Room k A):A.depth < recursionLimit:=by have:=r.dp;lia
theorem Room.units   (r:Room k A):A.units+64 < cLine:=by have:=r.un;lia
theorem Room.units0   (r:Room k A):A.units < cLine:=by have:=r.un;lia
def tNil:TA:=λ_ H Q=>Q [] H
def tCons (ta:TE) (tr:TA):TA:=λσ H Q=>ta σ H λx H1=>tr σ H1 λxs H2=>Q (x::xs) H2
section
theorem zbje:PA X [] tNil:=λ_ _ _ _ H Q I h=>xkj ⟨[],H,I,.nil,h⟩
theorem zbbe (ha:PE X e te)(hr:PA X es t)(hs:starEach (e::es) X.env=(false,eval e X.env)::starEach es X.env:=by rfl):PA X (e::es) (tCons te t):=by
 intro pos aU s σ H Q I h;rw[hs];show wpAny _ _ (spliced ((false,eval e X.env)::backTo pos (starEach es X.env))) _ _ s;refine xig (thn (ha aU s σ H _ I h) λu s1 hq0=>?_);obtain⟨x,H1,I1,r1,q1⟩:=hq0;exact thn (hr pos aU s1 σ H1 _ I1 q1) λus s2 ⟨xs,H2,I2,r2,q2⟩=>⟨x::xs,H2,I2,.cons r1 r2,q2⟩
def tTup (t:TA):TE:=λσ H Q=>t σ H λxs H1=>xs.length<=sizeLine/\∀p,H1 p=none->Q (.ref p) (upd H1 p (.tup xs))
def tLst (t:TA):TE:=λσ H Q=>t σ H λxs H1=>xs.length<=sizeLine/\∀p,H1 p=none->Q (.ref p) (upd H1 p (.lst xs))
theorem zbol {x1}(h:PA X es t):PE X (.Tuple es x1 pos) (tTup t):=by
 intro aU s σ H Q I hq;refine wpAny_Tuple_spliced (thn (h pos aU s σ H _ I hq) λus s1 ⟨xs,H1,I1,r,z,q⟩=>⟨by rw[← r.length];exact z,?_⟩);have hf:H1 s1.heap.objs.size=none:=I1.hok.fresh (xbf _);refine⟨.ref s1.heap.objs.size,upd H1 s1.heap.objs.size (.tup xs),I1.laid (t':=s1.toks) (λb u e=>xbn _ e) (xbf _) ?_,rfl,q _ hf⟩;exact⟨z,us,r,⟨_,xcg _ rfl,rfl,_,rfl⟩⟩
theorem zbiz (h:PA X es t):PE X (.List es pos) (tLst t):=by
 intro aU s σ H Q I hq;refine wpAny_List_spliced (thn (h pos aU s σ H _ I hq) λus s1 ⟨xs,H1,I1,r,z,q⟩=>⟨by rw[← r.length];exact z,?_⟩);have hf:H1 s1.heap.objs.size=none:=I1.hok.fresh (xbf _);refine⟨.ref s1.heap.objs.size,upd H1 s1.heap.objs.size (.lst xs),I1.laid (t':=s1.toks) (λb u e=>xbn _ e) (xbf _) ?_,rfl,q _ hf⟩;exact⟨z,us,0,r,xcg _ rfl⟩
end
abbrev Sp:=List V->Hp->VK->XK->Prop
abbrev CXT:=List Env->Hp->Shared->XK->Value->Shared->Prop
structure Env0 (P:Program) (w:World) (K:Fg) (mg:Str->Option Value) (base:Heap) (A:Around) (outer:List Env) (s:Shared) (H:Hp):Prop where
 frames:A.frames=some outer
 mod:Mod K mg base
 bs:∀b o,base.get? b=some o->s.heap.get? b=some o/\H b=none
 bsz:base.objs.size<=s.heap.objs.size
 funs:s.heap.FunFrames base outer
 frf:∀b∈frs outer,H b=none
 hok:HOk P w H s.heap
 bare:AllBare s.gens
def CE (outer:List Env) (P:Program) (w:World) (H:Hp) (s:Shared) (Q:VK) (u:Value) (s':Shared):Prop :=
 ∃v H',s'.os=s.os/\AllBare s'.gens/\Un (frs outer) [] H H' s.heap s'.heap/\HOk P w H' s'.heap/\RelV v u/\Q v H'
def CR (CX:CXT) (outer:List Env) (P:Program) (w:World) (H:Hp) (s:Shared) (Q:VK) (E:XK) (r:Result) (s':Shared):Prop :=
 match r with
 | .ok (.ret u)=>CE outer P w H s Q u s'
 | .ok _=>False
 | .error e=>CX outer H s E e s'
structure FnOk (P:Program) (w:World) (K:Fg) (mg:Str->Option Value) (base:Heap) (CX:CXT) (k:Nat) (f:Addr) (fd:FuncData) (ps:List Str) (sp:Sp):Prop where
 len:∀vs H Q E,sp vs H Q E->vs.length=ps.length
 run:∀(A:Around) (outer:List Env) (s:Shared) (H:Hp) (args:Args) (us:List Value) (vs:List V) (Q:VK) (E:XK),Room k A->Env0 P w K mg base A outer s H->BindsTo s fd args (ps.zip us)->Vals vs us->sp vs H Q E ->
  codeAny (model P w) A (.call (.ref f) args) (CR CX outer P w H s Q E) s
section
theorem Inv.env0 (I:Inv X aU σ H s):Env0 X.prog X.w X.K X.mg X.base X.A X.stack s H :=
 ⟨I.ok.frames,I.ok.mod,I.bs,xbc I.ok.bsz I.sz,I.stack,I.stkFree,I.hok,I.bare⟩
theorem Inv.after   (I:Inv X aU σ H s)(h:CE X.stack X.prog X.w H s Q u s'):EP X aU σ Q u s':=by
 obtain⟨v,H',os,bare,un,hok,r,q⟩:=h;obtain⟨hh,g,d,t,os'⟩:=s';obtain rfl:os'=s.os:=os;exact⟨v,H',I.call (h':=hh) (g':=g) (d':=d) (t':=t) (ch:=[]) un hok bare (λb z=>absurd z (by simp)),r,q⟩
end
def tCall (sp:Sp) (dvs:List V) (E:XK) (t:TA):TE:=λσ H Q=>t σ H λvs H1=>sp (vs++dvs) H1 Q E
noncomputable def Binds (K:Fg) (fd:FuncData) (ps:List Str) (ds:List Value):Prop :=
 ∀(s:Shared) (us:List Value),K.In s.heap->(us++ds).length=ps.length->BindsTo s fd ⟨us,[]⟩ (ps.zip (us++ds))
theorem Binds.all {K:Fg}  {ps:List Str}(h:∀us:List Value,us.length=ps.length->bindArgs fd ⟨us,[]⟩=pure (ps.zip us)):Binds K fd ps []:=λs us _ hl=>by
 rw[xcy] at hl ⊢;exact .of_eq (h us hl)
def Passes (CX:CXT) (X:Cx) (E:XK):Prop:=∀(aU:List (Addr×Obj)) (σ:St) (H:Hp) (s:Shared) (e:Value) (s':Shared),Inv X aU σ H s->CX X.stack H s E e s'->X.xe e s'
section
theorem zbnx {X:Cx}        (F:FnOk X.prog X.w X.K X.mg X.base CX k f fd ps sp)(hr:Room k X.A)(hb:Binds X.K fd ps ds)(hd:Vals dvs ds)(hx:Passes CX X E)
  (I:Inv X aU σ H s)(r:Vals vs us)(h:sp (vs++dvs) H Q E):wpAny (model X.prog X.w) X.A (call (.ref f) us) (EP X aU σ Q) X.xe s:=by
 have r2:Vals (vs++dvs) (us++ds):=r.append hd;have hl:(us++ds).length=ps.length:=by rw[← r2.length];exact F.len _ _ _ _ h
 refine wpAny_call (xlo (F.run X.A X.stack s H ⟨us,[]⟩ (us++ds) (vs++dvs) Q E hr I.env0 (hb s us I.kIn hl) r2 h) λr s' hq=>?_);cases r with
 | error e=>exact hx aU σ H s e s' I hq
 | ok fl =>
  cases fl with
  | ret u=>exact I.after hq
  | next=>exact False.elim hq
  | brk=>exact False.elim hq
  | cont=>exact False.elim hq
theorem zbjb {X:Cx}(F:FnOk X.prog X.w X.K X.mg X.base CX k f fd ps sp)(hr:Room k X.A)(hg:Gl X x)(hm:X.mg x=some (.ref f))(hk:W.keepIn X.K (.ref f)=true)(hb:Binds X.K fd ps ds)(hd:Vals dvs ds)(hx:Passes CX X E)
  (ha:PA X (e::es) t)(hdb:(x==("__debug__" : Str))=false:=by decide)(he:starEach (e::es) X.env=(false,eval e X.env)::starEach es X.env:=by rfl)(hpl:(backTo pos (starEach es X.env)).any (·.1)=false:=by rfl) :
  PE X (.Call (.Name x p) (e::es) [] pos) (tCall sp dvs E t):=by
 intro aU s σ H Q I h;refine xjz (zbbl I hg hm ?_ hdb);refine W.callWith_K (h₀:=X.base) I.ok.mod.kin hk (thn (ha pos aU s σ H _ I h) λus s1 ⟨vs,H1,I1,r,q⟩=>⟨I1.kIn,?_⟩) he hpl;exact zbnx F hr hb hd hx I1 r q
end
section
end
structure FnScope (N P:List Str) (sc:Scope):Prop where
 kind:sc.kind=.function
 co:sc.isCoroutine=false
 gen:sc.isGenerator=false
 nd:N.Nodup
 pre:N.take P.length=P
 par:∀x∈P,sc.names.lookup x=some .local\/sc.names.lookup x=some .cell
 nofree:∀y∈sc.names,y.2≠.free
theorem zrc {kindOf:Str->Option NameKind} :∀{binds:List (Str×Value)} {m:Str->Option Value},(∀v,(x,v)∉binds)->bindL kindOf binds m x=m x
 | [],_,_=>rfl
 | (n,v)::r,m,h=>by
  unfold bindL;rw[zrc λw hw=>h w (xbm _ hw)];split
  ·have:x≠n:=by rintro rfl;exact h v xbp
   simp[this]
  ·rfl
theorem zre {kindOf:Str->Option NameKind} :∀{binds:List (Str×Value)} {m:Str->Option Value},(∀v,(x,v)∉binds)->bindC kindOf binds m x=m x
 | [],_,_=>rfl
 | (n,v)::r,m,h=>by
  unfold bindC;rw[zre λw hw=>h w (xbm _ hw)];split
  ·rfl
  ·have:x≠n:=by rintro rfl;exact h v xbp
   simp[this]
theorem zrd {kindOf:Str->Option NameKind}  :∀{P:List Str} {vs:List Value} {i:Nat} {m:Str->Option Value},P.Nodup->P[i]?=some x->vs[i]?=some v->kindOf x=some .local ->
  bindL kindOf (P.zip vs) m x=some v
 | [],_,_,_,_,h,_,_=>by simp at h
 | _::_,[],_,_,_,_,h,_=>by simp at h
 | p::P,w::vs,0,m,nd,h1,h2,hk=>by
  simp at h1 h2;subst h1;subst h2
  show bindL kindOf ((p,w)::P.zip vs) m p=_;unfold bindL;rw[zrc λv hv=>(xet.mp nd).1 (xnf hv).1,if_pos hk];simp
 | p::P,w::vs,i+1,m,nd,h1,h2,hk=>by
  show bindL kindOf ((p,w)::P.zip vs) m x=_;unfold bindL;exact zrd (i:=i) (xet.mp nd).2 (by simpa using h1) (by simpa using h2) hk
theorem zrf {kindOf:Str->Option NameKind}  :∀{P:List Str} {vs:List Value} {i:Nat} {m:Str->Option Value},P.Nodup->P[i]?=some x->vs[i]?=some v->kindOf x≠some .local ->
  bindC kindOf (P.zip vs) m x=some v
 | [],_,_,_,_,h,_,_=>by simp at h
 | _::_,[],_,_,_,_,h,_=>by simp at h
 | p::P,w::vs,0,m,nd,h1,h2,hk=>by
  simp at h1 h2;subst h1;subst h2
  show bindC kindOf ((p,w)::P.zip vs) m p=_;unfold bindC;rw[zre λv hv=>(xet.mp nd).1 (xnf hv).1,if_neg hk];simp
 | p::P,w::vs,i+1,m,nd,h1,h2,hk=>by
  show bindC kindOf ((p,w)::P.zip vs) m x=_;unfold bindC;exact zrf (i:=i) (xet.mp nd).2 (by simpa using h1) (by simpa using h2) hk
def start (N:List Str) (vs:List V):St:=vs.map some++List.replicate (N.length - vs.length) none
def cxOf (CX:CXT) (P:Program) (w:World) (K:Fg) (mg:Str->Option Value) (base:Heap) (N:List Str) (qual:Str) (scope:Scope) (f:Addr) (cd:Value) (A:Around) (outer:List Env) (s:Shared) (H:Hp) (E:XK):Cx where
 prog:=P
 w:=w
 K:=K
 mg:=mg
 base:=base
 A:=A.deeper (envOfC qual scope s.heap.objs.size f cd)
 N:=N
 s₀:=s
 H₀:=H
 env:=envOfC qual scope s.heap.objs.size f cd
 outer:=outer
 stack:=envOfC qual scope s.heap.objs.size f cd::outer
 ex:=[]
 calm:=true
 fn:=λ_=>true
 pn:=[]
 xe:=λe s'=>wpAny (model P w) (A.deeper (envOfC qual scope s.heap.objs.size f cd)) (leaving (envOfC qual scope s.heap.objs.size f cd) e) (λ_ s''=>CX outer H s E e s'') (λe' s''=>CX outer H s E e' s'') s'
theorem zwm {sc:Scope}   (h:sc.names.lookup x=some .cell):∃c,(cellsFrom n sc.names []).lookup x=some c:=by
 have q:=W.cellsFrom_some sc.names n [] (.inl h);exact xju.mp q
theorem zzv    {K:Fg}   {N:List Str}     {A:Around}      {vs:List V}
  (S:FnScope N ps scope)(hd:A.handled=none)(e0:Env0 P w K mg base A outer s H)(hl:vs.length=ps.length)(r:Vals vs us)
  (x:InCallC s s.heap.objs.size (bindL (envOfC qual scope s.heap.objs.size f cd).kindOf (ps.zip us) λ_=>none) (cellsFrom (s.heap.objs.size+1) scope.names []) (bindC (envOfC qual scope s.heap.objs.size f cd).kindOf (ps.zip us) λ_=>none) s1) :
  Inv (cxOf CX P w K mg base N qual scope f cd A outer s H E) [] (start N vs) H s1:=by
 have hpl:ps.length<=N.length:=by have:=congrArg List.length S.pre;rw[xcu] at this;lia
 obtain⟨h1,tk,rfl,hk⟩:=x.done;have noA:∀b:Addr,b∉(cxOf CX P w K mg base N qual scope f cd A outer s H E).ex:=λb z=>absurd (show b∈([]:List Addr) from z) (by simp)
 refine⟨⟨e0.mod,S.kind,rfl,rfl,xbf _,λy z c h1 h2=>?_,λy hy=>?_,λy c _ h=>?_,λ_=>hd,Around.frames_deeper e0.frames,.inr ⟨rfl,rfl⟩,λb z=>absurd z (noA b),e0.bs,e0.bsz,λb _ _=>noA b,λb z=>absurd z (noA b),e0.funs,e0.frf⟩,
  rfl,e0.bare,Un.kept hk,⟨_,x.toInCall.ns,λi y v h1 h2 h3=>?_⟩,λy c h=>⟨_,x.cell y c h⟩,e0.hok.fresh (xbf _),λy c h=>?_,λp hp=>absurd (show p∈([]:List (Addr×Obj)) from hp) (by simp),e0.hok.kept hk,?_,Hnd.none hd⟩
 ·exact name_of_addr x.apart (xgu h1) (xgu h2)
 ·have hy:scope.names.lookup y=some .cell\/scope.names.lookup y=some .free:=hy;rcases hy with hy | hy
  ·exact zwm hy
  ·exact absurd rfl (S.nofree _ (xgu hy))
 ·exact xca (x.above y c (xgu h))
 ·have hi:i < vs.length:=by
   unfold start at h2;by_cases hi:i < vs.length
   ·exact hi
   ·rw[xct (by simpa using hi)] at h2;rw[List.getElem?_replicate] at h2;split at h2<;>cases h2
  have ha:vs[i]?=some v:=by
   unfold start at h2;rw[xbw (by simpa using hi),xco] at h2;cases e:vs[i]? with
   | none=>rw[e] at h2;cases h2
   | some a=>rw[e] at h2;cases h2;rfl
  obtain⟨u,hu,rv⟩:=r.get ha;have hp:ps[i]?=some y:=by
   rw[← S.pre,List.getElem?_take_of_lt (by lia)];exact h1
  have ndP:ps.Nodup:=by rw[← S.pre];exact S.nd.sublist (xkk _ _)
  refine⟨u,rv,?_⟩;rcases S.par y (xbz hp) with k | k
  ·exact .inl ⟨k,zrd ndP hp hu k⟩
  ·obtain⟨c,e⟩:=zwm (n:=s.heap.objs.size+1) k;refine .inr ⟨.inl k,c,e,?_⟩;have q:=x.cell y c e;rw[zrf ndP hp hu (by show scope.names.lookup y≠_;rw[k];decide)] at q;exact q
 ·exact e0.hok.fresh (xca (x.above y c (xgu h)))
 ·unfold start;show _=N.length;rw[xbi,xbb,xhi];lia
theorem zbtz    {K:Fg}         {kV:Value} 
     {N:List Str}  (lk:K.lookup f=some ⟨oc,od,.func (W.fnOf name qual params body scope dV kV doc pm an cdv ct),osl⟩)(hcd:W.codeIn K cdv qual=true)(S:FnScope N ps scope)
    (len:∀ vs H Q E,sp vs H Q E->vs.length=ps.length)
    (hbody:∀(A:Around) (outer:List Env) (s:Shared) (H:Hp) (vs:List V) (Q:VK) (E:XK),Room k (A.deeper (envOfC qual scope s.heap.objs.size f cdv))->sp vs H Q E ->
      ∃ t,PSs (cxOf CX P w K mg base N qual scope f cdv A outer s H E) body t/\t { nx:=λ_ H'=>Q .non H', rt:=Q } (start N vs) H) :
    FnOk P w K mg base CX (k + 1) f (W.fnOf name qual params body scope dV kV doc pm an cdv ct) ps sp:=by
  refine⟨len,λA outer s H args us vs Q E hr e0 hb r hsp=>?_⟩;have hl:=len _ _ _ _ hsp;have KX:K.In s.heap:=e0.mod.kin.keeps λb o e=>(e0.bs b o e).1
  have lim:s.heap.NoLimit:=e0.mod.nolimit.keeps λb o e=>(e0.bs b o e).1
  have hkind:∀ y∈ps.zip us,scope.names.lookup y.1=some .local\/(scope.names.lookup y.1=some .cell/\((cellsFrom (s.heap.objs.size + 1) scope.names []).lookup y.1).isSome=true):=λhq0 hy=>by
    obtain⟨n,v⟩:=hq0;rcases S.par n (xnf hy).1 with q | q
    · exact .inl q
    · exact .inr ⟨q,W.cellsFrom_some _ _ _ (.inl q)⟩
  refine codeAny_call_function hr.depth (KX _ _ lk) rfl S.co S.gen rfl (W.codeRec_of KX hcd) (hb _ _ _ _ ?_);refine wpAny_newFunctionEnv_cells S.kind hkind λenv he s1 x=>?_
  subst he;refine⟨lim.keeps x.toInCall.keep,codeAny_func ?_⟩;obtain⟨t,ht,hq⟩:=hbody A outer s H vs Q E (hr.deeper _) hsp;have I:Inv (cxOf CX P w K mg base N qual scope f cdv A outer s H E) [] (start N vs) H s1:=zzv S hr.hd e0 hl r x;refine xfm (ht [] s1 (start N vs) H _ I hq) (λfl s' hs=>?_) λe s' hs=>hs
  have fin:∀{σ':St} {H':Hp} {v:V} {u:Value},Inv (cxOf CX P w K mg base N qual scope f cdv A outer s H E) [] σ' H' s'->RelV v u->Q v H'->CE outer P w H s Q u s' :=
    λ{σ' H' v u} J rv q=>⟨v,H', J.os,J.bare,J.base,J.hok,rv,q⟩
  cases fl with
  | ret u =>
    obtain⟨v,σ', H', J,rv,q⟩:=hs;exact fin J rv q
  | next =>
    obtain⟨σ', H', J,q⟩:=hs;exact fin (v:=V.non) (u:=Value.none) J rfl q
  | brk =>
    obtain⟨_,_,_,q⟩:=hs;exact False.elim q
  | cont =>
    obtain⟨_,_,_,q⟩:=hs;exact False.elim q
section
def tCB (r:List V->Hp->VK->Prop) (t:TA):TE:=λσ H Q=>t σ H λvs H1=>r vs H1 Q
theorem ztx {id:String}(hc:CallR X (.builtin id) r)(hg:Gl X x)(hm:X.mg x=none)(hv:bootBuiltins x=some (.builtin id))(ha:PA X (e::es) t)(hn:x≠"__name__":=by decide)(hdb:(x==("__debug__" : Str))=false:=by decide)
  (he:starEach (e::es) X.env=(false,eval e X.env)::starEach es X.env:=by rfl)(hpl:(backTo pos (starEach es X.env)).any (·.1)=false:=by rfl):PE X (.Call (.Name x p) (e::es) [] pos) (tCB r t):=by
 intro aU s σ H Q I h;refine xjz (zsf I hg hm hv ?_ hn hdb);exact PyProof.Rows.callWith_builtin1 (thn (ha pos aU s σ H _ I h) λus s1 ⟨vs,H1,I1,r1,q1⟩=>hc aU s1 σ H1 vs us Q I1 r1 q1) he hpl
theorem zqh {T:String}(hc:CallR X (.type T) r)(hg:Gl X x)(hm:X.mg x=none)(hv:bootBuiltins x=some (.type T))(ha:PA X (e::es) t)(hn:x≠"__name__":=by decide)(hdb:(x==("__debug__" : Str))=false:=by decide)
  (he:starEach (e::es) X.env=(false,eval e X.env)::starEach es X.env:=by rfl)(hpl:(backTo pos (starEach es X.env)).any (·.1)=false:=by rfl):PE X (.Call (.Name x p) (e::es) [] pos) (tCB r t):=by
 intro aU s σ H Q I h;refine xjz (zsf I hg hm hv ?_ hn hdb);exact xhc (thn (ha pos aU s σ H _ I h) λus s1 ⟨vs,H1,I1,r1,q1⟩=>hc aU s1 σ H1 vs us Q I1 r1 q1) he hpl
end
end L2
namespace HT
open PySem PyProof.Rows
noncomputable def lexLt:List Int->List Int->Bool
 | [],[]=>false
 | [],_::_=>true
 | _::_,[]=>false
 | x::xs,y::ys=>if x=y then lexLt xs ys else decide (x < y)
theorem zcb (x y:Int)(xs ys:List Int):lexLt (x::xs) (y::ys)=if x=y then lexLt xs ys else decide (x < y):=rfl
theorem zee:lexLt [] []=false:=rfl
theorem zch (y:Int)(ys:List Int):lexLt [] (y::ys)=true:=rfl
theorem zdp (x:Int)(xs:List Int):lexLt (x::xs) []=false:=rfl
theorem zbfp (A:Around)(s:Shared)(a:Int)(t:Tok)(c:Int)(u:Tok):∃e,SeqAt.EqAt A s (.int a t) (.int c u) e/\(e=true↔a=c) :=
 ⟨(a==c),SeqAt.EqAt.int_int a t c u,by simp⟩
theorem zbdk (A:Around)(s:Shared)(a:Int)(t:Tok)(c:Int)(u:Tok)(prog:Program)(w:World)(E:Value->Shared->Prop)(Q:Value->Shared->Prop)(h:Q (.bool (decide (a < c))) s) :
  wpAny (model prog w) A (richCompare .Lt (.int a t) (.int c u)) Q E s :=
 (PyProof.Rows.lt_int h:wpAny (model prog w) A (compareOp .Lt (.int a t) (.int c u)) Q E s)
section
open PySem.SeqAt
open PySem.AutoSeq1 (wpAny_loadPart')
open PySem.MeetsSeq PySem.MeetsSeq2 PySem.MeetsSeq3
theorem zha (l b:Addr)(items items2:Array Value)(n n2:Nat)(dd dd2:Option Addr)(sl sl2:Array (Option Value))(ns ms:List Int)(hi:IntsAre items.toList ns)(hj:IntsAre items2.toList ms) :
  Meets (Builtin.«tuple.__lt__» ⟨[.ref l,.ref b],[]⟩)
   (λ_ R s=>s.heap.get? l=some { cls:=.type "tuple", dict:=dd,data:=.seq items n,slots:=sl }/\s.heap.get? b=some { cls:=.type "tuple", dict:=dd2,data:=.seq items2 n2,slots:=sl2 } /\
    R (.ok (.ret (.bool (lexLt ns ms)))) s) :=
 .of_wp λprog w A R s h=>by
  obtain⟨hp,g,d,tk,os⟩:=s;obtain⟨hl,hb,h⟩:=h
  have f2:=AutoSeq1.sub_tuple_tuple;have z1:items.size=ns.length:=by rw[← hi.length];simp
  have z2:items2.size=ms.length:=by rw[← hj.length];simp
  wp_walk using wpAny_loadPart' hl,wpAny_loadPart' hb,wpAny_forIn_list _ (λrest b s'=>b.1=none/\s'=⟨hp,g,d,tk,os⟩/\∃(vs ws:List Value) (ns' ms':List Int),rest=vs.zip ws /\
   IntsAre vs ns'/\IntsAre ws ms'/\ns'.length+items2.size=ms'.length+items.size/\R (.ok (.ret (.bool (lexLt ns' ms')))) ⟨hp,g,d,tk,os⟩) _
  case turn =>
   rintro⟨y,x⟩ rest b s' ⟨hb',rfl,vs,ws,ns',ms',hz,hvi,hwi,hlen,hR⟩;cases hvi with
   | nil=>rw[List.zip_nil_left] at hz;cases hz
   | cons a t hvi' =>
    cases hwi with
    | nil=>rw[List.zip_nil_right] at hz;cases hz
    | cons c u hwi' =>
     rw[List.zip_cons_cons] at hz;injection hz with hyx hrest
     injection hyx with hy hx
     subst hy hx;rw[zcb] at hR;simp only[xcb] at hlen;obtain⟨e,he,hiff⟩:=zbfp A.in1 ⟨hp,g,d,tk,os⟩ a t c u;refine xba (he prog w _ _ ?_);cases e with
     | true =>
      rw[if_pos (hiff.mp rfl)] at hR
      wp_walk
      exact⟨rfl,rfl,_,_,_,_,hrest,hvi',hwi',by lia,hR⟩
     | false =>
      rw[if_neg (λq=>absurd (hiff.mpr q) xft)] at hR;have hri:=zbdk A.in1 ⟨hp,g,d,tk,os⟩ a t c u prog w
      wp_walk using hri
      exact⟨_,rfl,by simpa using hR⟩
  case fin =>
   rintro⟨b1,b2⟩ s' ⟨hb',rfl,vs,ws,ns',ms',hz,hvi,hwi,hlen,hR⟩;simp only at hb';subst hb';have hv:lexLt ns' ms'=decide (items.size < items2.size):=by
    cases hvi with
    | nil =>
     cases hwi with
     | nil =>
      simp only[xld] at hlen;rw[zee];exact(xby (by lia)).symm
     | cons c u hw =>
      simp only[xld,xcb] at hlen;rw[zch];exact(xbv (by lia)).symm
    | cons a t hv =>
     cases hwi with
     | nil =>
      simp only[xld,xcb] at hlen;rw[zdp];exact(xby (by lia)).symm
     | cons c u hw =>
      rw[List.zip_cons_cons] at hz;cases hz
   rw[hv] at hR
   wp_walk
   exact⟨_,rfl,by simpa [Builtin.Tuple.tupleCompareSizes] using hR⟩
  case h =>
   exact⟨rfl,rfl,items.toList,items2.toList,ns,ms,rfl,hi,hj,by lia,h⟩
end
section
theorem zmx {A:Around}{s:Shared}     (hl:IsTup s.heap l items)(hb:IsTup s.heap b items2)(hi:IntsAre items.toList ns)(hj:IntsAre items2.toList ms)
  (hu:A.units < cLine)(h:Q (.bool (lexLt ns ms)) s):wpAny (model prog w) A (compareOp .Lt (.ref l) (.ref b)) Q E s:=by
 obtain⟨⟨cls,dd,data,sl⟩,ho,hc,n,hd⟩:=id hl;obtain⟨⟨cls2,dd2,data2,sl2⟩,ho2,hc2,n2,hd2⟩:=id hb;simp only at hc hd hc2 hd2;subst hc hd hc2 hd2;exact richCompare_meets_room (op:=.Lt) ⟨_,ho,rfl⟩ ⟨_,ho2,rfl⟩ xkz F.entry_tuple_lt (F.args_tuple_lt_2 _ _) (zha l b items items2 n n2 dd dd2 sl sl2 ns ms hi hj)
  ⟨ho,ho2,show Value.bool (lexLt ns ms)≠Value.notImplemented/\Q (.bool (lexLt ns ms)) s from⟨(λx=>nomatch x),h⟩⟩ hu
theorem zbmf {s:Shared}  {vs ws:List Value}  (ht:IsTup s.heap t vs.toArray)(hb:IsTup s.heap b ws.toArray)(hv:vs≠[])
  (h1:ws=[]->Q (.ref t) s)(h2:ws≠[]->Q (.ref s.heap.objs.size) { s with heap:=s.heap.push { cls:=.type "tuple", data:=.seq (vs++ws).toArray } })
  (hsz:vs.length+ws.length<=sizeLine):wpAny (model prog w) A (binaryOp .Add (.ref t) (.ref b)) Q E s:=by
 obtain⟨⟨cls,dd,data,sl⟩,ho,hc,n,hd⟩:=id ht;obtain⟨⟨cls2,dd2,data2,sl2⟩,ho2,hc2,n2,hd2⟩:=id hb;simp only at hc hd hc2 hd2;subst hc hd hc2 hd2;have e:vs.toArray++ws.toArray=(vs++ws).toArray:=by simp
 by_cases hw:ws=[]
 ·exact concat_meets ⟨_,ho,rfl⟩ ⟨_,ho2,rfl⟩ noFill_tuple_add seq_tuple_add xkq xkd (xjv _ _)
   (tuple_addW1 t b vs.toArray ws.toArray n n2 dd dd2 sl sl2 (by simpa using hv) (by simp[hw])) ⟨ho,ho2,h1 hw⟩
 ·refine concat_meets ⟨_,ho,rfl⟩ ⟨_,ho2,rfl⟩ noFill_tuple_add seq_tuple_add xkq xkd (xjv _ _)
   (tuple_addW2 t b vs.toArray ws.toArray n n2 dd dd2 sl sl2 (by simpa using hv) (by simpa using hw) (by rw[xbt,xbt];exact hsz)) ⟨ho,ho2,?_⟩
  rw[e];exact h2 hw
noncomputable def sIx (n d:Nat):Option Int->Nat
 | none=>d
 | some v=>if v < 0 then(v+(n:Int)).toNat else min v.toNat n
theorem ztp (n d:Nat):sIx n d none=d:=rfl
theorem zbax (n d k:Nat):sIx n d (some (k:Int))=min k n:=by
 show(if(k:Int) < 0 then((k:Int)+(n:Int)).toNat else min (k:Int).toNat n)=min k n;rw[if_neg (by lia),xef]
theorem zbnv (n d:Nat)(hd:d<=n)(o:Option Int):sIx n d o<=n:=by
 cases o with
 | none=>exact hd
 | some v =>
  show(if v < 0 then(v+(n:Int)).toNat else min v.toNat n)<=n;by_cases hv:v < 0
  ·rw[if_pos hv];lia
  ·rw[if_neg hv];exact xfu _ _
theorem zbcn (v:Int)(n d:Nat):(if v < 0 then max (v+(n:Int)) 0 else min v (n:Int))=((sIx n d (some v):Nat):Int):=by
 show(if v < 0 then max (v+(n:Int)) 0 else min v (n:Int))=(((if v < 0 then(v+(n:Int)).toNat else min v.toNat n):Nat):Int)
 by_cases hv:v < 0
 ·simp only[if_pos hv];lia
 ·simp only[if_neg hv];lia
theorem zxc (lo hi:Option Int)(n:Nat):Builtin.Slice.sliceAdjust lo hi 1 (n:Int)=(((sIx n 0 lo:Nat):Int),((sIx n n hi:Nat):Int)):=by
 have h1:¬ ((1:Int) < 0):=by lia
 unfold Builtin.Slice.sliceAdjust;simp only[h1,xeh];refine Prod.ext ?_ ?_
 ·cases lo with
  | none=>rfl
  | some v=>exact zbcn v n 0
 ·cases hi with
  | none=>rfl
  | some v=>exact zbcn v n n
theorem ztw (i j:Nat):Builtin.Slice.slicePlaces (i:Int) (j:Int) 1=j - i:=by
 unfold Builtin.Slice.slicePlaces;have h1:(1:Int) > 0:=by lia
 simp only[h1,xes,Int.ediv_one];split<;>lia
theorem zmj    (p:IsPart v o)(h:Q o s):wpAny (model prog w) A (Builtin.Slice.slicePartIndex v) Q E s:=by
 cases p with
 | none=>exact slicePart_none h
 | int i t=>exact slicePart_int h
theorem zea {s:Shared}   {lo hi:Option Int}{n:Nat}  (hs:s.heap.IsSliceOf sl vl vu .none)(pl:IsPart vl lo)(pu:IsPart vu hi)
  (h:Q (((sIx n 0 lo:Nat):Int),1,sIx n n hi - sIx n 0 lo) s):wpAny (model prog w) A (Builtin.Slice.sliceApplied (.ref sl) (pure (n:Int))) Q E s:=by
 obtain⟨os,hos,hcs,hds⟩:=id hs;unfold Builtin.Slice.sliceApplied Builtin.Slice.sliceFields;refine xba (xba (wpAny_field hos hds (x:=vl) rfl (xba (wpAny_field hos hds (x:=vu) rfl (xba (wpAny_field hos hds (x:=.none) rfl (xbe ?_)))))));refine xba (slicePart_none ?_);show wpAny _ _ (if((1:Int)==0)=true then _ else _) _ _ s;rw[if_neg (by decide)];refine xba (zmj pl (xba (zmj pu (xba (xbe ?_)))));show wpAny _ _ (match Builtin.Slice.sliceAdjust lo hi 1 (n:Int) with | (lo,hi)=>pure (lo,(1:Int),Builtin.Slice.slicePlaces lo hi 1)) _ _ s;rw[zxc lo hi n];show wpAny _ _ (pure (((sIx n 0 lo:Nat):Int),(1:Int),Builtin.Slice.slicePlaces ((sIx n 0 lo:Nat):Int) ((sIx n n hi:Nat):Int) 1)) _ _ s;rw[ztw];exact xbe h
theorem zbdw (xs:Array Value)(i k:Nat):((List.range k).filterMap λ(m:Nat)=>xs[((i:Int)+(m:Int) * 1).toNat]?).toArray=((xs.toList.drop i).take k).toArray:=by
 have e:(λ(m:Nat)=>xs[((i:Int)+(m:Int) * 1).toNat]?)=λm=>xs[i+m]?:=by
  funext m
  have:((i:Int)+(m:Int) * 1).toNat=i+m:=by lia
  rw[this]
 rw[e];have:=pick_run xs i k;rw[List.filterMap_map] at this;have e2:((λx=>xs[x]?) ∘ λx=>i+x)=λm=>xs[i+m]?:=rfl
 rw[e2] at this;rw[this]
theorem zhq {s:Shared}    {lo:Option Int}  (ht:IsTup s.heap t items)(hs:s.heap.IsSliceOf sl vl vu .none)(pl:IsPart vl lo)(pu:IsPart vu hi)
  (hw:¬ (sIx items.size 0 lo=0/\sIx items.size items.size hi=items.size))
  (h:Q (.ref s.heap.objs.size) { s with heap:=s.heap.push { cls:=.type "tuple", data:=.seq ((items.toList.drop (sIx items.size 0 lo)).take (sIx items.size items.size hi - sIx items.size 0 lo)).toArray } })
  (hsz:items.size<=sizeLine):wpAny (model prog w) A (getItem (.ref t) (.ref sl)) Q E s:=by
 have htake:sizeOk (.seq ((items.toList.drop (sIx items.size 0 lo)).take (sIx items.size items.size hi - sIx items.size 0 lo)).toArray):=by
  show((items.toList.drop (sIx items.size 0 lo)).take (sIx items.size items.size hi - sIx items.size 0 lo)).toArray.size<=sizeLine;rw[xbt,xcu,xgw,xcd];lia
 have hj:sIx items.size items.size hi<=items.size:=zbnv _ _ (xbf _) hi;obtain⟨os,hos,hcs,hds⟩:=id hs;have hTs:s.TypeIs (.ref sl) "slice":=⟨os,hos,hcs⟩
 unfold getItem
 try with_reducible refine xfe ?_
 first | refine xba (xbe ?_) | skip
 refine xba (wpAny_sequenceKey ht.typeIs (by decide) ?_)
 refine xba (wpAny_callSpecial?_slot (name:=Str.ofString "__getitem__") ht.typeIs xhz
  (xfa xhz ht.typeIs entry_tuple_getitem ?_ (args_tuple_getitem _ _)))
 show wpAny _ _ (Builtin.Tuple.tupleItemsOf (.ref t) >>= _) _ _ s;refine xba (tupleItemsOf_ ht ?_);refine xba (wpAny_typeOf hTs ?_);rw[if_pos (by decide)];refine xba (zea hs pl pu ?_);have hno:¬ ((((sIx items.size 0 lo:Nat):Int)==0&&(1:Int)==1&&(sIx items.size items.size hi - sIx items.size 0 lo)==items.size)=true):=by
  intro q;rw[xgg,xgg] at q;have q1:((sIx items.size 0 lo:Nat):Int)=0:=eq_of_beq q.1.1;have q2:sIx items.size items.size hi - sIx items.size 0 lo=items.size:=eq_of_beq q.2;exact hw ⟨by lia,by lia⟩
 show wpAny _ _ (if(((sIx items.size 0 lo:Nat):Int)==0&&(1:Int)==1&&(sIx items.size items.size hi - sIx items.size 0 lo)==items.size)=true then _ else _) _ _ s;rw[if_neg hno,zbdw]
 first
  | exact xba (m:=Builtin.Tuple.tupleExact _) (xep (xbe ⟨_,rfl,xbe h⟩) htake)
  | exact xba (m:=Builtin.Tuple.tupleExact _) (xep (xba (xbe (xbe ⟨_,rfl,xbe h⟩))) htake)
  | exact xba (xba (m:=Builtin.Tuple.tupleExact _) (xep (xbe (xbe ⟨_,rfl,xbe h⟩)) htake))
  | exact xba (xba (m:=Builtin.Tuple.tupleExact _) (xep (xbe ⟨_,rfl,xbe h⟩) htake))
end
end HT
namespace L2
open PySem PySem.Spec PyProof.Rows
abbrev TO:=St->Hp->(Option Int->Hp->Prop)->Prop
def PO (X:Cx) (e:Option Expr) (t:TO):Prop :=
 ∀(aU:List (Addr×Obj)) (s:Shared) (σ:St) (H:Hp) (Q:Option Int->Hp->Prop),Inv X aU σ H s->t σ H Q ->
  wpAny (model X.prog X.w) X.A (evalPart e X.env) (λu s'=>∃o H',Inv X aU σ H' s'/\IsPart u o/\Q o H') X.xe s
def tNoPart:TO:=λ_ H Q=>Q none H
def tPart (t:TE):TO:=λσ H Q=>t σ H λx H1=>∃i,x=.int i/\Q (some i) H1
theorem zef {ns:List Int}:∀{us:List Value},Vals (ns.map V.int) us->IntsAre us ns:=by
 induction ns with
 | nil=>intro us r;rw[xmy] at r;cases r;exact .nil
 | cons n ns ih =>
  intro us r;rw[xbu] at r;cases r with
  | cons r1 r2 =>
   obtain⟨t,e⟩:=r1;subst e;exact .cons n t (ih r2)
section
theorem zbiq:PO X none tNoPart:=by
 intro aU s σ H Q I h;rw[evalPart_none];exact xbe ⟨none,H,I,.none,h⟩
theorem zbip (h:PE X e te):PO X (some e) (tPart te):=by
 intro aU s σ H Q I hw;rw[evalPart_some];refine thn (h aU s σ H _ I hw) λu s1 hq0=>?_
 obtain⟨x,H1,I1,r1,q1⟩:=hq0;obtain⟨i,rfl,q⟩:=q1;obtain⟨t,rfl⟩:=r1;exact⟨some i,H1,I1,.int i t,q⟩
def SlR (X:Cx) (r:V->Option Int->Option Int->Hp->VK->Prop):Prop :=
 ∀(aU:List (Addr×Obj)) (s:Shared) (σ:St) (H:Hp) (x:V) (v vl vu:Value) (lo hi:Option Int) (sl:Addr) (Q:VK),Inv X aU σ H s->RelV x v->s.heap.IsSliceOf sl vl vu .none->IsPart vl lo->IsPart vu hi->r x lo hi H Q ->
  ∃ T id,typeLookup (.type T) "__getitem__"=pure (some (.builtin id))/\s.TypeIs v T/\wpAny (model X.prog X.w) X.A (getItem v (.ref sl)) (EP X aU σ Q) X.xe s
section
variable {lo:Option Expr}
theorem SlR.or  (h:SlR X r)(h':SlR X r'):SlR X (λx lo hi H Q=>r x lo hi H Q\/r' x lo hi H Q):=by
 intro aU s σ H x v vl vu lo hi sl Q I rx hs pl pu q;rcases q with q | q
 ·exact h aU s σ H x v vl vu lo hi sl Q I rx hs pl pu q
 ·exact h' aU s σ H x v vl vu lo hi sl Q I rx hs pl pu q
end
def tSl (r:V->Option Int->Option Int->Hp->VK->Prop) (te:TE) (tl th:TO):TE:=λσ H Q=>te σ H λx H1=>tl σ H1 λl H2=>th σ H2 λu H3=>r x l u H3 Q
theorem zbdz {lo:Option Expr}  (hr:SlR X r)(he:PE X e te)(hl:PO X lo tl)(hu:PO X hi th):PE X (.Subscript e (.Slice lo hi none p2) pos) (tSl r te tl th):=by
 intro aU s σ H Q I h;refine Subscript_ (thn (he aU s σ H _ I h) λv s1 hq0=>?_);obtain⟨x,H1,I1,r1,q1⟩:=hq0;refine wpAny_Slice (thn (hl aU s1 σ H1 _ I1 q1) λvl s2 ⟨l,H2,I2,pl,q2⟩=>thn (hu aU s2 σ H2 _ I2 q2) λvu s3 hq0=>?_);obtain⟨u,H3,I3,pu,q3⟩:=hq0;rw[evalPart_none];refine xbe ?_;have I4:Inv X aU σ H3 { s3 with heap:=s3.heap.push { cls:=.type "slice", data:=.fields #[vl,vu,.none] } }:=I3.kept (t':=s3.toks) λb ob q=>xbn _ q
 obtain⟨T,id,hT,ht,hg⟩:=hr aU { s3 with heap:=s3.heap.push { cls:=.type "slice", data:=.fields #[vl,vu,.none] } } σ H3 x v vl vu l u s3.heap.objs.size Q I4 r1 (Heap.IsSliceOf.new ..) pl pu q3
 show wpAny (model X.prog X.w) X.A (subscriptTail e (.Slice lo hi none p2) v (.ref s3.heap.objs.size)) (EP X aU σ Q) X.xe { s3 with heap:=s3.heap.push { cls:=.type "slice", data:=.fields #[vl,vu,.none] } }
 exact tail_any (ops:=[.ref s3.heap.objs.size,v]) ht hT hg (by with_unfolding_all rfl)
def cutV (xs:List V) (lo hi:Option Int):List V:=(xs.drop (HT.sIx xs.length 0 lo)).take (HT.sIx xs.length xs.length hi - HT.sIx xs.length 0 lo)
theorem zke (xs:List V)(lo hi:Option Int):(cutV xs lo hi).length<=xs.length:=by
 unfold cutV;rw[xcu,xgw];lia
def rSlT (K:Fg):V->Option Int->Option Int->Hp->VK->Prop:=λx lo hi H Q=>∃a xs,x=.ref a/\SqT K H a xs /\
 ¬ (HT.sIx xs.length 0 lo=0/\HT.sIx xs.length xs.length hi=xs.length)/\∀p,H p=none->Q (.ref p) (upd H p (.tup (cutV xs lo hi)))
theorem zbno:SlR X (rSlT X.K):=by
 intro aU s σ H x v vl vu lo hi sl Q I rx hs pl pu h;obtain⟨a,xs,rfl,hx,hw,q⟩:=h;cases rx;obtain⟨its,r,ht,hz⟩:=I.tuple hx;have hlen:its.toArray.size=xs.length:=by rw[xbt];exact r.length.symm
 refine⟨"tuple", _,xhz.lookup,ht.typeIs,?_⟩
 refine HT.zhq ht hs pl pu (by rw[hlen];exact hw) ?_ (by rw[hlen];exact hz);rw[hlen];refine⟨.ref s.heap.objs.size,_,I.laid (t':=s.toks) (o:=.tup (cutV xs lo hi)) (λb ob q=>xbn _ q) (xbf _) ?_,rfl,q _ (I.hok.fresh (xbf _))⟩;exact⟨xbc (zke xs lo hi) hz,_,(r.drop (HT.sIx xs.length 0 lo)).take (HT.sIx xs.length xs.length hi - HT.sIx xs.length 0 lo),IsTup.new _ _⟩
def rLtT (K:Fg):R2:=λx y H Q=>∃a b ns ms,x=.ref a/\y=.ref b/\SqT K H a (ns.map V.int)/\SqT K H b (ms.map V.int)/\Q (.bl (HT.lexLt ns ms)) H
theorem zboy {X:Cx}(hu:X.A.units < cLine):OpR X (compareOp .Lt) (rLtT X.K):=by
 intro aU s σ H x y v u Q I rx ry h;obtain⟨a,b,ns,ms,rfl,rfl,ha,hb,q⟩:=h;cases rx;cases ry;obtain⟨its,r1,p1,_⟩:=I.tuple ha;obtain⟨its2,r2,p2,_⟩:=I.tuple hb;have i1:IntsAre its.toArray.toList ns:=zef r1;have i2:IntsAre its2.toArray.toList ms:=zef r2;exact HT.zmx p1 p2 i1 i2 hu ⟨.bl (HT.lexLt ns ms),H,I,rfl,q⟩
def rCatT (K:Fg):R2:=λx y H Q=>∃a b xs ys,x=.ref a/\y=.ref b/\SqT K H a xs/\SqT K H b ys/\xs≠[]/\xs.length+ys.length<=sizeLine /\
 (ys=[]->Q (.ref a) H)/\(ys≠[]->∀p,H p=none->Q (.ref p) (upd H p (.tup (xs++ys))))
theorem Vals.nil_iff   (r:Vals xs us):us=[]↔xs=[]:=by
 cases r with
 | nil=>simp
 | cons _ _=>simp
theorem zbjl:OpR X (binaryOp .Add) (rCatT X.K):=by
 intro aU s σ H x y v u Q I rx ry h;obtain⟨a,b,xs,ys,rfl,rfl,ha,hb,hx,hz,q1,q2⟩:=h;cases rx;cases ry;obtain⟨its,r1,p1,_⟩:=I.tuple ha;obtain⟨its2,r2,p2,_⟩:=I.tuple hb;refine HT.zbmf p1 p2 (λz=>hx (r1.nil_iff.mp z)) (λz=>⟨.ref a,H,I,rfl,q1 (r2.nil_iff.mp z)⟩) (λz=>?_) (by rw[← r1.length,← r2.length];exact hz);refine⟨.ref s.heap.objs.size,_,I.laid (t':=s.toks) (o:=.tup (xs++ys)) (λb ob q=>xbn _ q) (xbf _) ?_,rfl,q2 (λw=>z (r2.nil_iff.mpr w)) _ (I.hok.fresh (xbf _))⟩;exact⟨by rw[xbi];exact hz,_,r1.append r2,IsTup.new _ _⟩
end
noncomputable def ixN (n:Nat) (i:Int):Option Nat:=if 0<=i then(if i < n then some i.toNat else none) else if -(n:Int)<=i then some (i+n).toNat else none
def atI {α:Type} (xs:List α) (i:Int):Option α:=(ixN xs.length i).bind λj=>xs[j]?
theorem zbbo    (h:ixN n i=some j):seqIndex? i n=some j/\j < n/\-(n:Int)<=i/\i < n:=by
 unfold ixN at h;by_cases h0:0<=i
 ·rw[if_pos h0] at h;by_cases h1:i < n
  ·rw[if_pos h1] at h;have e:i.toNat=j:=xcv h;exact⟨by rw[seqIndex_of h0 h1,e],by lia,by lia,h1⟩
  ·rw[if_neg h1] at h;cases h
 ·rw[if_neg h0] at h;by_cases h1:-(n:Int)<=i
  ·rw[if_pos h1] at h;have e:(i+n).toNat=j:=xcv h;exact⟨by rw[seqIndex_neg (by lia) h1,e],by lia,h1,by lia⟩
  ·rw[if_neg h1] at h;cases h
theorem zwv {α:Type}{xs:List α}  {v:α}(h:atI xs i=some v):∃j,seqIndex? i xs.length=some j/\xs[j]?=some v/\j < xs.length/\-(xs.length:Int)<=i/\i < xs.length:=by
 unfold atI at h;cases e:ixN xs.length i with
 | none=>rw[e] at h;cases h
 | some j =>
  rw[e] at h;obtain⟨h1,h2,h3,h4⟩:=zbbo e;exact⟨j,h1,h,h2,h3,h4⟩
theorem zbcr {α:Type}{xs:List α}{j:Nat}{v:α}(h:xs[j]?=some v):atI xs (j:Int)=some v:=by
 have hj:j < xs.length:=(xbg.mp h).1;have e:ixN xs.length (j:Int)=some j:=by
  unfold ixN;rw[if_pos (by lia),if_pos (by lia)];simp
 unfold atI;rw[e];exact h
noncomputable def PlainIx (b:Expr):Prop:=∀o i,subscripted b false o i=operate [o,i] (getItem o i)
def IxR (X:Cx) (r:R2):Prop :=
 ∀(value slice:Expr) (aU:List (Addr×Obj)) (s:Shared) (σ:St) (H:Hp) (x y:V) (v u:Value) (Q:VK),Inv X aU σ H s->RelV x v->RelV y u->r x y H Q ->
  subscripted slice false v u=operate [v,u] (getItem v u)->wpAny (model X.prog X.w) X.A (subscriptTail value slice v u) (EP X aU σ Q) X.xe s
def MtR (X:Cx) (id:String) (r:V->List V->Hp->VK->Prop):Prop :=
 ∀(aU:List (Addr×Obj)) (s:Shared) (σ:St) (H:Hp) (x:V) (xs:List V) (v:Value) (us:List Value) (Q:VK),Inv X aU σ H s->RelV x v->Vals xs us->r x xs H Q ->
  wpAny (model X.prog X.w) X.A (call (.builtin id) (v::us)) (EP X aU σ Q) X.xe s
section
theorem IxR.or  (h:IxR X r)(h':IxR X r'):IxR X (λx y H Q=>r x y H Q\/r' x y H Q):=by
 intro value slice aU s σ H x y v u Q I rx ry q hs;rcases q with q | q
 ·exact h value slice aU s σ H x y v u Q I rx ry q hs
 ·exact h' value slice aU s σ H x y v u Q I rx ry q hs
theorem zbtn  (hr:IxR X r)(ha:PE X a ta)(hb:PE X b tb)(hs:PlainIx b):PE X (.Subscript a b pos) (tOp r ta tb):=by
 intro aU s σ H Q I h;exact Subscript_ (binT ha hb I h λv u s2 x y H2 I2 rx ry q=>hr a b aU s2 σ H2 x y v u Q I2 rx ry q (hs _ _))
def rIxL (K:Fg):R2:=λx y H Q=>∃p xs i v,x=.ref p/\y=.int i/\SqL K H p xs/\atI xs i=some v/\Q v H
def rIxT (K:Fg):R2:=λx y H Q=>∃p xs i v,x=.ref p/\y=.int i/\SqT K H p xs/\atI xs i=some v/\Q v H
def rIxS:R2:=λx y H Q=>∃z i c,x=.str z/\y=.int i/\z.length<=sizeLine/\atI z.cps.toList i=some c/\Q (.str ⟨#[c]⟩) H
theorem zbkc:IxR X (rIxL X.K):=by
 intro value slice aU s σ H x y v u Q I rx ry h hs;obtain⟨p,xs,i,z,rfl,rfl,hq,he,q⟩:=h;cases rx;obtain⟨t,rfl⟩:=ry;obtain⟨its,r,pl,hz⟩:=I.list hq;obtain⟨j,h1,h2,h3,h4,h5⟩:=zwv he;obtain⟨w,ew,rw'⟩:=r.get h2;have hl:=r.length;have hn:=line63;have fin:EP X aU σ Q w s:=⟨z,H,I,rw',q⟩
 by_cases h0:0<=i
 ·have hj:i.toNat=j:=by
   rw[seqIndex_of h0 h5] at h1;exact xcv h1
  exact item_listR pl.isList h0 (by lia) (by rw[hj];simpa using ew) fin hs
 ·have hj:(i+(its.toArray.size:Int)).toNat=j:=by
   rw[seqIndex_neg (by lia) h4] at h1;rw[xbt,← hl];exact xcv h1
  exact subscriptTail_builtinR (x:=w) pl.isList.typeIs slot_list_getitem.lookup
   (wpAny_getItem_list_neg (Q:=λr s'=>r=w/\EP X aU σ Q r s') pl.isList (by lia) (by rw[xbt]<;>lia) (by lia) (by rw[hj];simpa using ew) ⟨rfl,fin⟩) hs
theorem zbpt:IxR X (rIxT X.K):=by
 intro value slice aU s σ H x y v u Q I rx ry h hs;obtain⟨p,xs,i,z,rfl,rfl,hq,he,q⟩:=h;cases rx;obtain⟨t,rfl⟩:=ry;obtain⟨its,r,pl,hz⟩:=I.tuple hq;obtain⟨j,h1,h2,h3,h4,h5⟩:=zwv he;obtain⟨w,ew,rw'⟩:=r.get h2;have hl:=r.length;have hn:=line63;have fin:EP X aU σ Q w s:=⟨z,H,I,rw',q⟩
 exact subscriptTail_builtinR (x:=w) pl.typeIs xka.lookup
  (getItem_tuple (j:=j) (Q:=λr s'=>r=w/\EP X aU σ Q r s') pl (by lia) (by lia) (by rw[xbt,← hl];exact h1) (by simpa using ew) ⟨rfl,fin⟩) hs
theorem zbpu:IxR X rIxS:=by
 intro value slice aU s σ H x y v u Q I rx ry h hs;obtain⟨z,i,c,rfl,rfl,hz,he,q⟩:=h;obtain⟨t,rfl⟩:=rx;obtain⟨t',rfl⟩:=ry;obtain⟨j,h1,h2,h3,h4,h5⟩:=zwv he;have hl:z.cps.toList.length=z.length:=by simp[Str.length]
 rw[hl] at h1 h4 h5;have hn:=line63
 exact tail_any (typeIs_str s z t) slot_str_getitem.lookup (getItem_str (c:=c) (by
  have e1:decide (i < -(2 ^ 63:Int))=false:=xby (by lia);have e2:decide (i ≥ 2 ^ 63)=false:=xby (by lia)
  rw[e1,e2,Bool.or_false]) (by rw[h1];simpa using h2) ⟨.str ⟨#[c]⟩,H,I.tok _,⟨_,rfl⟩,q⟩) hs
def rIx (K:Fg):R2:=λx y H Q=>rIxL K x y H Q\/rIxT K x y H Q\/rIxS x y H Q
theorem zbpv:IxR X (rIx X.K):=zbkc.or (zbpt.or zbpu)
theorem zuv (its:List Value)(n j:Nat)(u:Value):Obj.mapSeq (·.setIfInBounds j u) { cls:=.type "list", data:=.seq its.toArray n }={ cls:=.type "list", data:=.seq (its.set j u).toArray n }:=by
 simp[Obj.mapSeq]
theorem Inv.lst       (I:Inv X aU σ H s)(h:H p=some (.lst xs)) :
  ∃(its:List Value) (n:Nat),Vals xs its/\s.heap.get? p=some { cls:=.type "list", data:=.seq its.toArray n }/\xs.length<=sizeLine:=by
 obtain⟨z,its,n,r,e⟩:=I.hok p _ h;exact⟨its,n,r,e,z⟩
theorem Inv.lstUpd       {its its':List Value}   (I:Inv X aU σ H s)(h:H p=some (.lst xs))
  (ho:s.heap.get? p=some { cls:=.type "list", data:=.seq its.toArray n })(hf:f { cls:=.type "list", data:=.seq its.toArray n }={ cls:=.type "list", data:=.seq its'.toArray n' })(r:Vals ys its')(hz:ys.length<=sizeLine)(t:Nat) :
  Inv X aU σ (upd H p (.lst ys)) {s with heap:=s.heap.update p f,toks:=t}:=by
 have e:(s.heap.update p f).get? p=some { cls:=.type "list", data:=.seq its'.toArray n' }:=by
  rw[xfs f ho (by rw[hf]<;>rfl),hf]
 refine I.write (x:=p) (e:=p) (by rw[h];trivial) (.inl rfl) (λb u hb q=>(Heap.get?_update_other _ _ (xer hb)).trans q) ⟨_,e⟩ ?_;exact⟨hz,its',n',r,e⟩
def rSetL:V->V->V->Hp->(Hp->Prop)->Prop:=λo i v H Q=>∃p xs k j,o=.ref p/\i=.int k/\H p=some (.lst xs)/\ixN xs.length k=some j/\Q (upd H p (.lst (xs.set j v)))
theorem zbdh:PSet X rSetL:=by
 intro aU s σ H o i v ov iv u Q I ro ri rv h;obtain⟨p,xs,k,j,rfl,rfl,hp,hj,q⟩:=h;cases ro;obtain⟨t,rfl⟩:=ri;obtain⟨its,n,r,ho,hz⟩:=I.lst hp;obtain⟨h1,h2,h3,h4⟩:=zbbo hj;have hl:=r.length;have hn:=line63;have I':Inv X aU σ (upd H p (.lst (xs.set j v))) {s with heap:=s.heap.update p (Obj.mapSeq (·.setIfInBounds j u))} :=
  I.lstUpd hp ho (zuv its n j u) (r.set rv j) (by rw[xei];exact hz) s.toks
 by_cases h0:0<=k
 ·have hk:k.toNat=j:=by
   rw[seqIndex_of h0 h4] at h1;exact xcv h1
  exact W.ki_setAt ho h0 (by lia) (by rw[xbt,← hl];exact h4) (by rw[hk];exact⟨_,I',q⟩)
 ·have hk:(k+(its.toArray.size:Int)).toNat=j:=by
   rw[seqIndex_neg (by lia) h3] at h1;rw[xbt,← hl];exact xcv h1
  exact W.ki_setBack ho (by lia) (by rw[xbt,← hl];exact h3) (by lia) (by rw[hk];exact⟨_,I',q⟩)
theorem zob (lo hi:Option Int)(n:Nat):(sliceBounds lo hi none n).1=((HT.sIx n 0 lo:Nat):Int)/\(sliceBounds lo hi none n).2.1=((HT.sIx n n hi:Nat):Int)/\(sliceBounds lo hi none n).2.2=1:=by
 refine⟨?_,?_,rfl⟩
 ·cases lo with
  | none=>simp[sliceBounds,HT.sIx]
  | some i =>
   simp only[sliceBounds,HT.sIx,xmz,show(1:Int) > 0 by decide,xes];by_cases h:i < 0
   ·simp only[h,xes]<;>lia
   ·simp only[h,xeh]<;>lia
 ·cases hi with
  | none=>simp[sliceBounds,HT.sIx]
  | some i =>
   simp only[sliceBounds,HT.sIx,xmz,show(1:Int) > 0 by decide,xes];by_cases h:i < 0
   ·simp only[h,xes]<;>lia
   ·simp only[h,xeh]<;>lia
theorem zmi (its:List Value)(lo hi:Option Int):slicePick its.toArray lo hi none=((its.drop (HT.sIx its.length 0 lo)).take (HT.sIx its.length its.length hi - HT.sIx its.length 0 lo)).toArray:=by
 obtain⟨h1,h2,h3⟩:=zob lo hi its.toArray.size;unfold slicePick;rw[h1,h2,h3];simp only[sliceRange_one,pick_run,xbt]<;>rfl
def rSlL (K:Fg):V->Option Int->Option Int->Hp->VK->Prop:=λx lo hi H Q=>∃a xs,x=.ref a/\SqL K H a xs/\∀p,H p=none->Q (.ref p) (upd H p (.lst (cutV xs lo hi)))
theorem zbid:SlR X (rSlL X.K):=by
 intro aU s σ H x v vl vu lo hi sl Q I rx hs pl pu h;obtain⟨a,xs,rfl,hx,q⟩:=h;cases rx;obtain⟨its,r,ht,hz⟩:=I.list hx;have hlen:=r.length;refine⟨"list", _,slot_list_getitem.lookup,ht.isList.typeIs,?_⟩
 refine wpAny_getItem_list_slice ht.isList hs pl pu .none (by simp) ?_ (by rw[xbt]<;>lia);rw[zmi,← hlen];refine⟨.ref s.heap.objs.size,_,I.laid (t':=s.toks) (o:=.lst (cutV xs lo hi)) (λb ob q=>xbn _ q) (xbf _) ?_,rfl,q _ (I.hok.fresh (xbf _))⟩;exact⟨xbc (zke xs lo hi) hz,_,0,(r.drop (HT.sIx xs.length 0 lo)).take (HT.sIx xs.length xs.length hi - HT.sIx xs.length 0 lo),xcg _ rfl⟩
theorem zbc:CallR X (.builtin "len") (λxs H Q=>∃ p ys,xs=[.ref p]/\(SqL X.K H p ys\/SqT X.K H p ys)/\Q (.int ys.length) H):=by
 intro aU s σ H xs us Q I r h;obtain⟨p,ys,rfl,hq,q⟩:=h;obtain⟨u,rfl,rx⟩:=vals1 r;cases rx;have hn:=line63;rcases hq with hq | hq
 ·obtain⟨its,r',pl,hz⟩:=I.list hq;have hlen:=r'.length;exact Calls.call_len_list pl.isList (by simp only[xbt]<;>lia) ⟨.int ys.length,H,I.tok _,⟨s.toks+1,by rw[xbt,hlen]⟩,q⟩
 ·obtain⟨its,r',pl,hz⟩:=I.tuple hq;have hlen:=r'.length;exact len_tuple pl (by simp only[xbt]<;>lia) ⟨.int ys.length,H,I.tok _,⟨s.toks+1,by rw[xbt,hlen]⟩,q⟩
theorem CallR.or   (h:CallR X f r)(h':CallR X f r'):CallR X f (λxs H Q=>r xs H Q\/r' xs H Q):=by
 intro aU s σ H xs us Q I rs q;rcases q with q | q
 ·exact h aU s σ H xs us Q I rs q
 ·exact h' aU s σ H xs us Q I rs q
theorem zpi:CallR X (.type "list") (λxs H Q=>∃ p ys,xs=[.ref p]/\(SqL X.K H p ys\/SqT X.K H p ys)/\∀ l,H l=none->Q (.ref l) (upd H l (.lst ys))):=by
 intro aU s σ H xs us Q I r h;obtain⟨p,ys,rfl,hq,q⟩:=h;obtain⟨u,rfl,rx⟩:=vals1 r;cases rx;have fin:∀(its:List Value),Vals ys its->ys.length<=sizeLine->∀(h':Heap) (c':Nat),(∀b o',s.heap.get? b=some o'->h'.get? b=some o') ->
   h'.get? s.heap.objs.size=some { cls:=.type "list", dict:=none,data:=.seq its.toArray c', slots:=#[] }->EP X aU σ Q (.ref s.heap.objs.size) { s with heap:=h' }:=λits r' hz h' c' kp e =>
  ⟨.ref s.heap.objs.size,_,I.laid (t':=s.toks) kp (xbf _) (show ObjOk X.prog X.w _ h' _ (.lst ys) from⟨hz,its,c',r',e⟩),rfl,q _ (I.hok.fresh (xbf _))⟩
 rcases hq with hq | hq
 ·obtain⟨its,r',pl,hz⟩:=I.list hq;have hlen:=r'.length;obtain⟨o,ho,hc,n,hd⟩:=pl.isList;exact call_list_seq p (.inl rfl) ho hc hd (λh' c' kp e=>fin its r' hz h' c' kp e) (by simp only[xbt]<;>lia)
 ·obtain⟨its,r',pl,hz⟩:=I.tuple hq;have hlen:=r'.length;obtain⟨o,ho,hc,n,hd⟩:=pl;exact call_list_seq p (.inr rfl) ho hc hd (λh' c' kp e=>fin its r' hz h' c' kp e) (by simp only[xbt]<;>lia)
theorem zx:CallR X (.type "tuple") (λxs H Q=>∃ p ys,xs=[.ref p]/\((SqL X.K H p ys/\∀ l,H l=none->Q (.ref l) (upd H l (.tup ys)))\/(SqT X.K H p ys/\Q (.ref p) H))):=by
 intro aU s σ H xs us Q I r h;obtain⟨p,ys,rfl,h⟩:=h;obtain⟨u,rfl,rx⟩:=vals1 r;cases rx;rcases h with⟨hq,q⟩ | ⟨hq,q⟩
 ·obtain⟨its,r',pl,hz⟩:=I.list hq;have hlen:=r'.length;refine call_tuple_list pl.isList (λh' kp=>?_) (by simp only[xbt]<;>lia);have I1:Inv X aU σ H {s with heap:=h'}:=I.kept (t':=s.toks) kp;have I2:Inv X aU σ (upd H h'.objs.size (.tup ys)) { s with heap:=h'.push { cls:=.type "tuple", data:=.seq its.toArray } } :=
   I1.laid (t':=s.toks) (λb o e=>xbn _ e) (xbf _) (show ObjOk X.prog X.w _ _ _ (.tup ys) from⟨hz,its,r',IsTup.new _ _⟩)
  exact⟨.ref h'.objs.size,_,I2,rfl,q _ (I1.hok.fresh (xbf _))⟩
 ·obtain⟨its,r',pl,hz⟩:=I.tuple hq;exact call_tuple_same pl ⟨.ref p,H,I,rfl,q⟩
def tyV (K:Fg) (T:String) (x:V) (H:Hp):Prop:=match x with
 | .str _=>T="str"
 | .int _=>T="int"
 | .ref p=>(T="list"/\∃ xs,SqL K H p xs)\/(T="tuple"/\∃ o,K.lookup p=some o/\o.cls=.type "tuple"/\o.dict=none) \/
  (T="dict"/\((∃ kvs,H p=some (.dK kvs))\/∃ kvs,H p=some (.dT kvs)))\/(T="set"/\∃ S n,H p=some (.set S n))
 | _=>False
theorem zbhw     {T:String}   (I:Inv X aU σ H s)(r:RelV x v)(ty:tyV X.K T x H) :
  s.TypeIs v T/\∀a,v=.ref a->∃ob,s.heap.get? a=some ob/\ob.dict=none:=by
 cases x with
 | str z =>
  obtain⟨t,rfl⟩:=r;cases(show T="str" from ty)
  exact⟨typeIs_str s z t,λ_ e=>nomatch e⟩
 | int i =>
  obtain⟨t,rfl⟩:=r;cases(show T="int" from ty)
  exact⟨typeIs_int s i t,λ_ e=>nomatch e⟩
 | ref p =>
  cases r;rcases ty with⟨rfl,xs,hq⟩ | ⟨rfl,o,hk,hc,hd⟩ | ⟨rfl,hk⟩ | ⟨rfl,S,n,hk⟩
  ·obtain⟨its,_,pl,_⟩:=I.list hq;refine⟨pl.isList.typeIs,λa e=>?_⟩;cases e;obtain⟨o,n,e,c,hd,_⟩:=pl;exact⟨o,e,hd⟩
  ·refine⟨⟨o,I.kIn p o hk,hc⟩,λa e=>?_⟩;cases e;exact⟨o,I.kIn _ o hk,hd⟩
  ·have z:∃o,s.heap.get? p=some o/\o.ExactDict:=by
    rcases hk with⟨kvs,hk⟩ | ⟨kvs,hk⟩
    ·obtain⟨_,_,_,_,o,_,_,e,ex,_⟩:=I.hok p _ hk;exact⟨o,e,ex⟩
    ·obtain⟨_,_,_,_,o,_,_,e,ex,_⟩:=I.hok p _ hk;exact⟨o,e,ex⟩
   obtain⟨o,e,ex⟩:=z;refine⟨⟨o,e,ex.1⟩,λa e2=>?_⟩;cases e2;exact⟨o,e,ex.2.1⟩
  ·obtain⟨o,_,_,_,e,ex,_⟩:=I.hok p _ hk;refine⟨⟨o,e,ex.1⟩,λa e2=>?_⟩;cases e2;exact⟨o,e,ex.2.1⟩
 | _=>exact False.elim ty
def tBM0 (K:Fg) (T:String) (r:V->List V->Hp->VK->Prop) (to:TE):TE:=λσ H Q=>to σ H λx H1=>tyV K T x H1/\r x [] H1 Q
def tBM (K:Fg) (T:String) (r:V->List V->Hp->VK->Prop) (to:TE) (t:TA):TE:=λσ H Q=>to σ H λx H1=>tyV K T x H1/\t σ H1 λxs H2=>r x xs H2 Q
theorem zbor {apos:Pos}{cpos:Pos}{T:String}{id:String}(pa:PlainAttrs T)(slot:Slot T name id)(hty:typeOf (.builtin id)=pure (.type "method_descriptor"))(hm:MtR X id r)(ho:PE X o to)
  (hbase:attributeBase o name X.env (eval o X.env)=eval o X.env:=by rfl)(hline:(apos.endLine==cpos.line)=true:=by rfl):PE X (.Call (.Attribute o name apos) [] [] cpos) (tBM0 X.K T r to):=by
 intro aU s σ H Q I h;refine wpAny_Call_method0_late hbase hline (thn (ho aU s σ H _ I h) λv s1 hq0=>?_);obtain⟨x,H1,I1,r1,ty,q1⟩:=hq0;obtain⟨h1,h2⟩:=zbhw I1 r1 ty;exact⟨T,id,pa,slot,hty,h1,h2,xir rfl (PySem.evalArgs_none (hm aU s1 σ H1 x [] v [] Q I1 r1 .nil q1))⟩
theorem zbos {apos:Pos}{T:String}{id:String}(pa:PlainAttrs T)(slot:Slot T name id)(hty:typeOf (.builtin id)=pure (.type "method_descriptor"))(hm:MtR X id r)(ho:PE X o to)(ha:PA X (e::es) t)
  (hbase:attributeBase o name X.env (eval o X.env)=eval o X.env:=by rfl)
  (hfew:((backTo cpos (starEach (e::es) X.env)).all (λx=>!x.1)&&(backToKw cpos (keywordEach [] X.env)).all (λx=>x.1.isSome)
   && decide ((e::es).length+([]:List Keyword).length+(if([]:List Keyword).isEmpty then 0 else 1) < 30))=true:=by rfl)
  (hline:(apos.endLine==cpos.line)=true:=by rfl)(hs:starEach (e::es) X.env=(false,eval e X.env)::starEach es X.env:=by rfl)(hplain:(backTo cpos (starEach es X.env)).any (·.1)=false:=by rfl) :
  PE X (.Call (.Attribute o name apos) (e::es) [] cpos) (tBM X.K T r to t):=by
 intro aU s σ H Q I h;refine wpAny_Call_method_late hbase hfew hline rfl (thn (ho aU s σ H _ I h) λv s1 hq0=>?_);obtain⟨x,H1,I1,r1,ty,q1⟩:=hq0;obtain⟨h1,h2⟩:=zbhw I1 r1 ty;refine⟨T,id,pa,slot,hty,h1,h2,?_⟩;have hA:=ha cpos aU s1 σ H1 _ I1 q1;rw[hs] at hA ⊢;refine xir (by show(false||(backTo cpos (starEach es X.env)).any (·.1))=false;rw[hplain]<;>rfl) (xle ?_);exact thn hA λus s2 ⟨vs,H2,I2,r2,q2⟩=>hm aU s2 σ H2 x vs v us Q I2 r1 r2 q2
/- xs.append(e),list.index on a module's tuple .. are MtR facts of 06m -/
end
def MtM (X:Cx) (id:String) (r:V->List V->Hp->VK->Prop):Prop :=
 ∀(aU:List (Addr×Obj)) (s:Shared) (σ:St) (H:Hp) (x:V) (xs:List V) (v:Value) (us:List Value) (Q:VK),Inv X aU σ H s->RelV x v->Vals xs us->r x xs H Q ->
  wpAny (model X.prog X.w) X.A (call (.builtin id) (v::us)) (EP X aU σ Q) X.xe s
theorem Vals.one:∀{x:V} {us:List Value},Vals [x] us->∃u,us=[u]/\RelV x u
 | _,_,.cons r .nil=>⟨_,rfl,r⟩
section
theorem Inv.lset {its its':List Value}    (I:Inv X aU σ H s)(hH:H l=some (.lst xs))
  (e:s.heap.get? l=some { cls:=.type "list", data:=.seq its.toArray n })(hf:f its.toArray=its'.toArray)(hv:Vals ys its')(hz:ys.length<=sizeLine) :
  Inv X aU σ (upd H l (.lst ys)) {s with heap:=s.heap.update l (Obj.mapSeq f),toks:=t'}:=by
 have q:=PySem.IsL.update e f;rw[hf] at q;refine I.write (x:=l) (e:=l) (by rw[hH];exact trivial) (.inl rfl) (λb' u hb hu=>(Heap.get?_update_other s.heap (Obj.mapSeq f) (xer hb)).trans hu) ⟨_,q⟩ ?_;exact⟨hz,its',_,hv,q⟩
theorem Inv.lnew   (I:Inv X aU σ H s)(hv:Vals ys its)(hz:ys.length<=sizeLine) :
  Inv X aU σ (upd H s.heap.objs.size (.lst ys)) { s with heap:=s.heap.push { cls:=.type "list", data:=.seq its.toArray },toks:=t' } :=
 I.laid (λ_ _ q=>xbn _ q) (xbf _) ⟨hz,its,0,hv,xcg _ rfl⟩
theorem Inv.fresh (I:Inv X aU σ H s):H s.heap.objs.size=none:=I.hok.fresh (xbf _)
theorem Inv.lstM (I:Inv X aU σ H s)(hH:H l=some (.lst xs)):xs.length<=sizeLine/\∃(its:List Value) (n:Nat),Vals xs its/\xs.length=its.length/\s.heap.get? l=some { cls:=.type "list", data:=.seq its.toArray n }:=by
 obtain⟨z,its,n,r,e⟩:=I.hok l _ hH;exact⟨z,its,n,r,r.length,e⟩
theorem notLongL  (h:n<=sizeLine):Builtin.List.listTooLong n=false:=by
 unfold Builtin.List.listTooLong;exact xby (by lia)
end
section
def rAppend:V->List V->Hp->VK->Prop:=λx vs H Q=>∃l xs y,x=.ref l/\vs=[y]/\H l=some (.lst xs)/\xs.length < sizeLine/\Q .non (upd H l (.lst (xs++[y])))
theorem zqk:MtM X "list.append" rAppend:=by
 intro aU s σ H x vs v us Q I rx rv h;obtain⟨l,xs,y,rfl,rfl,hH,hz,q⟩:=h;cases rx;obtain⟨u,rfl,ru⟩:=rv.one;obtain⟨z,its,n,r,hl,e⟩:=I.lstM hH;refine call_meets F.slot_list_append ⟨_,e,rfl⟩ F.entry_list_append (F.args_list_append_2 _ _) (PySem.list_append l its.toArray n u (by rw[xbt];lia)) ⟨e,?_⟩;refine⟨.non,_,I.lset (its':=its++[u]) hH e (by simp) (r.append (.cons ru .nil)) ?_,rfl,q⟩;rw[xbi,xiy];lia
def rExtend:V->List V->Hp->VK->Prop:=λx vs H Q=>∃l b xs zs,x=.ref l/\vs=[.ref b]/\H l=some (.lst xs)/\H b=some (.lst zs)/\xs.length+zs.length<=sizeLine/\Q .non (upd H l (.lst (xs++zs)))
theorem zzg:MtM X "list.extend" rExtend:=by
 intro aU s σ H x vs v us Q I rx rv h;obtain⟨l,b,xs,zs,rfl,rfl,hH,hB,hz,q⟩:=h;cases rx;obtain⟨u,rfl,ru⟩:=rv.one;cases ru;obtain⟨z,its,n,r,hl,e⟩:=I.lstM hH;obtain⟨z2,its2,n2,r2,hl2,e2⟩:=I.lstM hB;have hsz:its.toArray.size+its2.toArray.size<=sizeLine:=by rw[xbt,xbt];lia
 have hlong:¬ (!its.toArray.isEmpty&&Builtin.List.listTooLong (its.toArray.size+its2.toArray.size))=true:=by
  rw[notLongL hsz,xkb];exact xft
 refine call_meets F.slot_list_extend ⟨_,e,rfl⟩ F.entry_list_extend (F.args_list_extend_2 _ _)
  (AutoSeq1.list_extend_list_list_0 l its.toArray n b its2.toArray n2 hlong (by rw[xbt];lia) (by lia)) ⟨e,e2,?_⟩
 refine⟨.non,_,I.lset (its':=its++its2) hH e (by simp) (r.append r2) ?_,rfl,q⟩;rw[xbi];lia
def rCat:R2:=λx y H Q=>∃l b xs zs,x=.ref l/\y=.ref b/\H l=some (.lst xs)/\H b=some (.lst zs)/\xs.length+zs.length<=sizeLine/\∀p,H p=none->Q (.ref p) (upd H p (.lst (xs++zs)))
theorem zbpb:OpR X (binaryOp .Add) rCat:=by
 intro aU s σ H x y v u Q I rx ry h;obtain⟨l,b,xs,zs,rfl,rfl,hH,hB,hz,q⟩:=h;cases rx;cases ry;obtain⟨z,its,n,r,hl,e⟩:=I.lstM hH;obtain⟨z2,its2,n2,r2,hl2,e2⟩:=I.lstM hB;refine PySem.P.add_list e e2 ?_ (by rw[xbt,xbt];lia);have ea:its.toArray++its2.toArray=(its++its2).toArray:=by simp
 rw[ea];exact⟨.ref _,_,I.lnew (t':=s.toks) (r.append r2) (by rw[xbi];lia),rfl,q _ I.fresh⟩
end
section
end
section
end
section
variable {κ:Type}[DecidableEq κ]
noncomputable def valV (kvs:List (κ×V)) (k:κ):Option V:=(kvs.find? λkv=>decide (kv.1=k)).map (·.2)
noncomputable def putK (kvs:List (κ×V)) (k:κ) (v:V):List (κ×V) :=
 if(kvs.any λkv=>decide (kv.1=k))=true then kvs.map (λkv=>if kv.1=k then(kv.1,v) else kv) else kvs++[(k,v)]
noncomputable def dropK (kvs:List (κ×V)) (k:κ):List (κ×V):=kvs.filter λkv=>decide (kv.1≠k)
theorem zig {p:κ×V}{r:List (κ×V)}{k:κ}(e:p.1=k):valV (p::r) k=some p.2:=by simp[valV,xdp,e]
theorem zih {p:κ×V}{r:List (κ×V)}{k:κ}(e:¬ p.1=k):valV (p::r) k=valV r k:=by simp[valV,xdp,e]
theorem zsw (k:κ):∀kvs:List (κ×V),(kvs.any λkv=>decide (kv.1=k))=(valV kvs k).isSome
 | []=>rfl
 | p::r=>by
  rw[xhp];by_cases e:p.1=k
  ·simp only[zig e,xbv e,Bool.true_or,Option.isSome_some]
  ·rw[zih e,xby e,Bool.false_or];exact zsw k r
theorem zgo (kvs:List (κ×V))(k:κ)(v:V):(putK kvs k v).length<=kvs.length+1:=by
 unfold putK;split
 ·rw[xbb];lia
 ·rw[xbi,xcb,xld];lia
theorem RelO.isSome_eq   (r:RelO o u):o.isSome=u.isSome:=by
 cases o with
 | none=>cases u with
  | none=>rfl
  | some _=>exact(show False from r).elim
 | some _=>cases u with
  | none=>exact(show False from r).elim
  | some _=>rfl
theorem RelO.getD     (r:RelO o u)(rd:RelV d d'):RelV (o.getD d) (u.getD d'):=by
 cases o with
 | none=>cases u with
  | none=>exact rd
  | some _=>exact(show False from r).elim
 | some _=>cases u with
  | none=>exact(show False from r).elim
  | some _=>exact r
theorem KV.val   (r:KV kvs vs)(k:κ):RelO (valV kvs k) (valueAt vs k):=by
 unfold KV at r
 induction r with
 | nil=>exact True.intro
 | @cons p q ps qs h t ih =>
  obtain⟨h1,h2⟩:=h;by_cases e:p.1=k
  ·have e':q.1=k:=h1.symm.trans e;have b:valueAt (q::qs) k=some q.2:=by simp[valueAt,xdp,e']
   rw[zig e,b];exact h2
  ·have e':¬ q.1=k:=λz=>e (h1.trans z)
   have b:valueAt (q::qs) k=valueAt qs k:=by simp[valueAt,xdp,e']
   rw[zih e,b];exact ih
theorem KV.any   (r:KV kvs vs)(k:κ):(kvs.any λkv=>decide (kv.1=k))=vs.any λkv=>decide (kv.1=k):=by
 unfold KV at r
 induction r with
 | nil=>rfl
 | cons h t ih=>rw[xhp,xhp,ih,h.1]
theorem KV.repl   (r:KV kvs vs)(k:κ)   (ry:RelV y u) :
  KV (kvs.map λkv=>if kv.1=k then(kv.1,y) else kv) (vs.map λkv=>if kv.1=k then(kv.1,u) else kv):=by
 unfold KV at r ⊢
 induction r with
 | nil=>exact .nil
 | @cons p q ps qs h t ih =>
  rw[xbu,xbu];refine .cons ?_ ih;obtain⟨h1,h2⟩:=h;by_cases e:p.1=k
  ·rw[if_pos e,if_pos (h1.symm.trans e)];exact⟨h1,ry⟩
  ·rw[if_neg e,if_neg (λz=>e (h1.trans z))];exact⟨h1,h2⟩
theorem KV.put   (r:KV kvs vs)(k:κ)   (ry:RelV y u):KV (putK kvs k y) (stored vs k u):=by
 unfold putK stored;rw[r.any k];by_cases e:(vs.any λkv=>decide (kv.1=k))=true
 ·rw[if_pos e,if_pos e];exact r.repl k ry
 ·rw[if_neg e,if_neg e];exact Paired.snoc r ⟨rfl,ry⟩
theorem KV.keys {kvs:List (κ×V)}{vs:List (κ×Value)}(r:KV kvs vs):kvs.map (·.1)=vs.map (·.1):=by
 unfold KV at r
 induction r with
 | nil=>rfl
 | cons h t ih=>rw[xbu,xbu,ih,h.1]
theorem KV.length   (r:KV kvs vs):kvs.length=vs.length:=xid r
end
theorem zbfg     (r:RelV (kV k) u):(mixKind P w).is k u=true:=by
 cases k with
 | inl i=>obtain⟨t,e⟩:=(show ∃t,u=Value.int i t from r);subst e;exact zsd P w i t
 | inr x=>obtain⟨t,e⟩:=(show ∃t,u=Value.str x t from r);subst e;exact zsc P w x t
theorem zqn  :∀{ks:List Key} {us:List Value},Vals (ks.map kV) us->ItemsAre (mixKind P w) ks us
 | [],_,r=>by rw[xmy] at r;cases r;exact .nil
 | k::ks,_,r=>by
  rw[xbu] at r;cases r with
  | cons h t=>exact .cons (zbfg h) (zqn t)
abbrev KT (H:Hp):List (List Key×V)->List (List Key×Addr×Value)->Prop:=Paired λp q=>p.1=q.1/\H q.2.1=some (.tup (p.1.map kV))/\RelV p.2 q.2.2
theorem KT.val    (r:KT H kvs xs)(k:List Key):RelO (valV kvs k) ((atKey xs k).map (·.2)):=by
 induction r with
 | nil=>exact True.intro
 | @cons p q ps qs h t ih =>
  obtain⟨h1,_,h2⟩:=h;by_cases e:p.1=k
  ·have e':q.1=k:=h1.symm.trans e;have b:atKey (q::qs) k=some q.2:=by simp[atKey,xdp,e']
   rw[zig e,b];exact h2
  ·have e':¬ q.1=k:=λz=>e (h1.trans z)
   have b:atKey (q::qs) k=atKey qs k:=by simp[atKey,xdp,e']
   rw[zih e,b];exact ih
theorem KT.repl    (r:KT H kvs xs)(k:List Key)   (ry:RelV y u) :
  KT H (kvs.map λkv=>if kv.1=k then(kv.1,y) else kv) (xs.map (putAt k u)):=by
 induction r with
 | nil=>exact .nil
 | @cons p q ps qs h t ih =>
  rw[xbu,xbu];refine .cons ?_ ih;obtain⟨h1,h2,h3⟩:=h;unfold putAt;by_cases e:p.1=k
  ·rw[if_pos e,if_pos (h1.symm.trans e)];exact⟨h1,h2,ry⟩
  ·rw[if_neg e,if_neg (λz=>e (h1.trans z))];exact⟨h1,h2,h3⟩
theorem KT.put    (r:KT H kvs xs)(k:List Key)    (hb:H b=some (.tup (k.map kV)))(ry:RelV y u) :
  KT H (putK kvs k y) (storedH xs k b u):=by
 have e:(kvs.any λkv=>decide (kv.1=k))=(atKey xs k).isSome:=by
  rw[zsw,(r.val k).isSome_eq,xmn]
 unfold putK storedH;rw[e];by_cases q:(atKey xs k).isSome=true
 ·rw[if_pos q,if_pos q];exact r.repl k ry
 ·rw[if_neg q,if_neg q];exact Paired.snoc r ⟨rfl,hb,ry⟩
theorem KT.keeps    (r:KT H kvs xs)(ht:∀b ys,H b=some (.tup ys)->H' b=some (.tup ys)):KT H' kvs xs :=
 Paired.mapP r λ_ _ z=>⟨z.1,ht _ _ z.2.1,z.2.2⟩
section
theorem zbsj  (ok:HOk P w H h)(e:Rd H a u):ObjOk P w H h a u:=e.ok ok
theorem zbcj  (ok:HOk P w H h)(e:Rd H a (.dK kvs)):kvs.length<=sizeLine/\(a==sysModules)=false/\∃vs,KV kvs vs/\h.DictOf (mixKind P w) a vs :=
 show ObjOk P w H h a (.dK kvs) from zbsj ok e
theorem zbsx  (ok:HOk P w H h)(e:H a=some (.dK kvs)):kvs.length<=sizeLine/\(a==sysModules)=false/\∃vs,KV kvs vs/\h.DictOf (mixKind P w) a vs:=zbcj ok (.inl e)
theorem zot {ks:List Key}(ok:HOk P w H h)(e:H a=some (.tup (ks.map kV))):(tupleKind (mixKind P w)).is h ks a:=by
 obtain⟨_,its,r,o,h1,h2,n,h3⟩:=(show ObjOk P w H h a (.tup (ks.map kV)) from ok a _ e)
 exact⟨o,its.toArray,n,h1,h2,h3,by simpa using zqn r⟩
theorem zbfs  (ok:HOk P w H h)(e:Rd H a (.dT kvs)):kvs.length<=sizeLine/\(a==sysModules)=false /\
  ∃xs,KT H kvs xs/\h.DictOfH (tupleKind (mixKind P w)) a xs:=by
 obtain⟨z,y,xs,r,o,es,ep,h1,h2,h3,h4,h5⟩:=(show ObjOk P w H h a (.dT kvs) from zbsj ok e)
 refine⟨z,y,xs,r,o,es,ep,h1,h2,h3,h4,λx hx=>?_,h5⟩;have all:∀{l:List (List Key×V)} {m:List (List Key×Addr×Value)},KT H l m->∀x∈m,(tupleKind (mixKind P w)).is h x.1 x.2.1:=by
  intro l m q
  induction q with
  | nil=>intro x hx;exact nomatch hx
  | @cons p q ps qs hq t ih =>
   intro x hx;rcases xbs.mp hx with e | hx
   ·subst e;exact zot ok (by rw[← hq.1];exact hq.2.1)
   ·exact ih x hx
 exact all r x hx
theorem zbsw  (ok:HOk P w H h)(e:H a=some (.dT kvs)):kvs.length<=sizeLine/\(a==sysModules)=false /\
 ∃xs,KT H kvs xs/\h.DictOfH (tupleKind (mixKind P w)) a xs:=zbfs ok (.inl e)
end
def DGet (H:Hp) (a:Addr) (y:V) (r:Option V):Prop :=
 (∃kvs k,Rd H a (.dK kvs)/\y=kV k/\r=valV kvs k)\/∃kvs k b,Rd H a (.dT kvs)/\y=.ref b/\H b=some (.tup (k.map kV))/\r=valV kvs k
def DPut (H:Hp) (a:Addr) (y v:V) (H':Hp):Prop :=
 (∃kvs k,H a=some (.dK kvs)/\y=kV k/\kvs.length < sizeLine/\H'=upd H a (.dK (putK kvs k v))) \/
 ∃kvs k b,H a=some (.dT kvs)/\y=.ref b/\H b=some (.tup (k.map kV))/\kvs.length < sizeLine/\H'=upd H a (.dT (putK kvs k v))
theorem DPut.k {H:Hp}{a:Addr}{kvs:List (Key×V)}{k:Key}{v:V}(e:H a=some (.dK kvs))(hl:kvs.length < sizeLine):DPut H a (kV k) v (upd H a (.dK (putK kvs k v))):=.inl ⟨kvs,k,e,rfl,hl,rfl⟩
theorem DPut.t    {k:List Key}  (e:H a=some (.dT kvs))(eb:H b=some (.tup (k.map kV)))(hl:kvs.length < sizeLine) :
 DPut H a (.ref b) v (upd H a (.dT (putK kvs k v))):=.inr ⟨kvs,k,b,e,rfl,eb,hl,rfl⟩
section
theorem Inv.big (I:Inv X aU σ H s):sysModules < s.heap.objs.size:=by
 have h:mainGlobals < s.heap.objs.size:=(I.mod.glob.keeps I.bk).lt;exact xiz (by decide) h
theorem zbai {A:Around}  (hu:A.units+1 < cLine)(I:Inv X aU σ H s)(g:DGet H a y (some v))(ry:RelV y u)(h:∀w' s',Inv X aU σ H s'->RelV v w'->Q w' s') :
  wpAny (model X.prog X.w) A (getItem (.ref a) u) Q E s:=by
 rcases g with⟨kvs,k,e,ey,l⟩ | ⟨kvs,k,b,e,ey,eb,l⟩
 ·subst ey;obtain⟨z,hd,vs,rel,dd⟩:=zbcj I.hok e;obtain⟨w',hw,rw'⟩:=RelO.some_of (v:=v) (o:=valueAt vs k) (by rw[l];exact rel.val k);exact wpAny_getItem_of (zbfg ry) dd.mapOf hw (h w' _ (I.tok _) rw')
 ·subst ey;cases(show u=Value.ref b from ry);obtain⟨z,hd,xs,rel,dd⟩:=zbfs I.hok e;obtain⟨w',hw,rw'⟩:=RelO.some_of (v:=v) (o:=(atKey xs k).map (·.2)) (by rw[l];exact rel.val k);obtain⟨p,hp,hp2⟩:=xdj.mp hw;refine wpAny_getItem_heap (xhh hu) (zot I.hok eb) dd hp ?_;rw[hp2];exact h w' _ (I.tok _) rw'
theorem d_in {A:Around}  (hu:A.units+1 < cLine)(I:Inv X aU σ H s)(g:DGet H a y o)(ry:RelV y u)(h:∀s',Inv X aU σ H s'->Q (.bool o.isSome) s') :
  wpAny (model X.prog X.w) A (compareOp .In u (.ref a)) Q E s:=by
 rcases g with⟨kvs,k,e,ey,l⟩ | ⟨kvs,k,b,e,ey,eb,l⟩
 ·subst ey;obtain⟨z,hd,vs,rel,dd⟩:=zbcj I.hok e;refine wpAny_in_of (zbfg ry) hd dd.mapOf ?_;rw[← (rel.val k).isSome_eq,← l];exact h _ (I.tok _)
 ·subst ey;cases(show u=Value.ref b from ry);obtain⟨z,hd,xs,rel,dd⟩:=zbfs I.hok e;refine wpAny_in_heap (xhh hu) (zot I.hok eb) hd dd ?_;have q:=(rel.val k).isSome_eq;rw[xmn] at q;rw[← q,← l];exact h _ (I.tok _)
theorem zblo {A:Around}  (hu:A.units+1 < cLine)(I:Inv X aU σ H s)(g:DGet H a y o)(ry:RelV y u)(h:∀s',Inv X aU σ H s'->Q (.bool (!o.isSome)) s') :
  wpAny (model X.prog X.w) A (compareOp .NotIn u (.ref a)) Q E s:=by
 rcases g with⟨kvs,k,e,ey,l⟩ | ⟨kvs,k,b,e,ey,eb,l⟩
 ·subst ey;obtain⟨z,hd,vs,rel,dd⟩:=zbcj I.hok e;refine wpAny_notIn_of (zbfg ry) hd dd.mapOf ?_;rw[← (rel.val k).isSome_eq,← l];exact h _ (I.tok _)
 ·subst ey;cases(show u=Value.ref b from ry);obtain⟨z,hd,xs,rel,dd⟩:=zbfs I.hok e;refine wpAny_notIn_heap (xhh hu) (zot I.hok eb) hd dd ?_;have q:=(rel.val k).isSome_eq;rw[xmn] at q;rw[← q,← l];exact h _ (I.tok _)
theorem zqv    (I:Inv X aU σ H s)(mu:Mut (H a))(hs:Heap.SameBut a s.heap h')(he:∃q,h'.get? a=some q)(new:ObjOk X.prog X.w (upd H a ob) h' a ob) :
  Inv X aU σ (upd H a ob) {s with heap:=h',toks:=t'} :=
 I.write (x:=a) (e:=a) mu (.inl rfl) (λb q hb z=>(hs.2 b hb).trans z) he new
theorem zbld    {h':Heap}{kvs:List (Key×V)}  (z:kvs.length<=sizeLine)(hd:(a==sysModules)=false)(rel:KV kvs vs)(dd:h'.DictOf (mixKind P w) a vs) :
 ObjOk P w H' h' a (.dK kvs):=⟨z,hd,vs,rel,dd⟩
theorem zbah {A:Around}   (hu:A.units+1 < cLine)(I:Inv X aU σ H s)(g:DPut H a y v H')(ry:RelV y u)(rv:RelV v r)(h:∀s',Inv X aU σ H' s'->Q () s') :
  wpAny (model X.prog X.w) A (setItem (.ref a) u r) Q E s:=by
 rcases g with⟨kvs,k,e,ey,l,eH⟩ | ⟨kvs,k,b,e,ey,eb,l,eH⟩
 ·subst ey eH;obtain⟨z,hd,vs,rel,dd⟩:=zbsx I.hok e;have hz:vs.length<=sizeLine:=by rw[← rel.length];exact z
  have hl:(putK kvs k v).length<=sizeLine:=by have:=zgo kvs k v;lia
  refine wpAny_setItem_pairs (hsz:=hz) (zbfg ry) dd λh' dd' hs=>h _ ?_
  have he:∃q,h'.get? a=some q:=let ⟨q,_,_,hq,_⟩:=dd';⟨q,hq⟩
  exact zqv I (by rw[e];exact True.intro) hs he (zbld hl hd (rel.put k rv) dd')
 ·subst ey eH;cases(show u=Value.ref b from ry);obtain⟨z,hd,xs,rel,dd⟩:=zbsw I.hok e;have hz:xs.length<=sizeLine:=by rw[← xid rel];exact z
  have hl:(putK kvs k v).length<=sizeLine:=by have:=zgo kvs k v;lia
  refine wpAny_setItem_heap (hsz:=hz) (xhh hu) (zot I.hok eb) dd λh' dd' hs=>h _ ?_
  obtain⟨q,es,ep,hq,h2,h3,h4,_,h5⟩:=dd';refine zqv I (by rw[e];exact True.intro) hs ⟨q,hq⟩ ⟨hl,hd,_,(rel.put k eb rv).keeps λc ys ec=>?_,q,es,ep,hq,h2,h3,h4,h5⟩;rw[zt (zbsp ec e (λz=>nomatch z))];exact ec
end
section
end
noncomputable def NoSl (i:Expr):Prop:=∀ov iv,subscripted i false ov iv=operate [ov,iv] (getItem ov iv)
theorem zbia         {T id:String} 
  (hl:typeLookup (.type T) "__getitem__"=pure (some (.builtin id)))(hs:NoSl slice)
  (h:wpAny (model prog w) A (eval value env) (λo s₁=>wpAny (model prog w) A (eval slice env) (λi s₂=>s₂.TypeIs o T/\wpAny (model prog w) A (getItem o i) Q E s₂) E s₁) E s) :
  wpAny (model prog w) A (eval (.Subscript value slice pos) env) Q E s:=by
 refine Subscript_ (xfm h (λo s₁ h₁=>xfm h₁ (λi s₂ h₂=>?_) λ_ _ x=>x) λ_ _ x=>x);obtain⟨hT,h₂⟩:=h₂;unfold subscriptTail;refine xba ?_;rw[getitemInPython_of_ne hT.not_modules];refine xba (wpAny_specialOf hT hl ?_);have fin:wpAny (model prog w) A (subscripted slice false o i) (λr s₃=>wpAny (model prog w) A (letTemporaryGo value o r >>= λ_=>pure r) Q E s₃) E s₂:=by
  rw[hs o i];exact wpAny_operating (xfm h₂ (λr s₃ h₃=>xba (wpAny_letTemporaryGo (xbe h₃))) λ_ _ x=>x)
 first
  | exact xbe (xba fin)
  | exact xba (xbe (xba fin))
  | exact xba fin
theorem zsj         (I:Inv X aU σ H s)(g:DGet H a y o):s.TypeIs (.ref a) "dict":=by
 rcases g with⟨kvs,k,e,_,_⟩ | ⟨kvs,k,b,e,_,_,_⟩
 ·obtain⟨_,_,vs,_,dd⟩:=zbcj I.hok e;exact dd.typeIs
 ·obtain⟨_,_,xs,_,dd⟩:=zbfs I.hok e;exact dd.typeIs
def tDGet (td ty:TE):TE:=λσ H Q=>td σ H λx H1=>ty σ H1 λy H2=>∃a v,x=.ref a/\DGet H2 a y (some v)/\Q v H2
def tDIn (ty td:TE):TE:=λσ H Q=>ty σ H λy H1=>td σ H1 λx H2=>∃a o,x=.ref a/\DGet H2 a y o/\Q (.bl o.isSome) H2
def tDNotIn (ty td:TE):TE:=λσ H Q=>ty σ H λy H1=>td σ H1 λx H2=>∃a o,x=.ref a/\DGet H2 a y o/\Q (.bl (!o.isSome)) H2
def sDPut (td ty tv:TE):TS:=λD σ H=>tv σ H λv H1=>td σ H1 λx H2=>ty σ H2 λy H3=>∃a H4,x=.ref a/\DPut H3 a y v H4/\D.nx σ H4
section
theorem zbbc {X:Cx}(hu:X.A.units+1 < cLine)(ho:PE X o td)(hi:PE X i ty)(hs:NoSl i):PE X (.Subscript o i pos) (tDGet td ty):=by
 intro aU s σ H Q I h;refine zbia F.slot_dict_getitem.lookup hs (thn (ho aU s σ H _ I h) λu s1 ⟨x,H1,I1,rx,q1⟩=>thn (hi aU s1 σ H1 _ I1 q1) λiv s2 hq0=>?_);obtain⟨y,H2,I2,ry,a,v,ex,g,q2⟩:=hq0;subst ex;obtain rfl:u=Value.ref a:=rx;exact⟨zsj I2 g,zbai hu I2 g ry λw' s3 I3 rw'=>⟨v,H2,I3,rw',q2⟩⟩
theorem zbjd {X:Cx}(hu:X.A.units+1 < cLine)(hi:PE X i ty)(ho:PE X o td):PC X .In i o (tDIn ty td):=by
 intro aU s σ H Q I h;refine thn (hi aU s σ H _ I h) λiv s1 ⟨y,H1,I1,ry,q1⟩=>thn (ho aU s1 σ H1 _ I1 q1) λu s2 hq0=>?_
 obtain⟨x,H2,I2,rx,a,ov,ex,g,q2⟩:=hq0;subst ex;obtain rfl:u=Value.ref a:=rx;exact d_in hu I2 g ry λs3 I3=>⟨.bl ov.isSome,H2,I3,rfl,q2⟩
theorem zys {X:Cx}(hu:X.A.units+1 < cLine)(hi:PE X i ty)(ho:PE X o td):PC X .NotIn i o (tDNotIn ty td):=by
 intro aU s σ H Q I h;refine thn (hi aU s σ H _ I h) λiv s1 ⟨y,H1,I1,ry,q1⟩=>thn (ho aU s1 σ H1 _ I1 q1) λu s2 hq0=>?_
 obtain⟨x,H2,I2,rx,a,ov,ex,g,q2⟩:=hq0;subst ex;obtain rfl:u=Value.ref a:=rx;exact zblo hu I2 g ry λs3 I3=>⟨.bl (!ov.isSome),H2,I3,rfl,q2⟩
theorem zbaz {X:Cx}{pos:Pos}(hu:X.A.units+1 < cLine)(ho:PE X o td)(hi:PE X i ty)(hv:PE X value tv)(hs:swapsWith value (some (.Subscript o i pos')) pos.line X.env=pure false) :
  PS X (.Assign [.Subscript o i pos'] value pos) (sDPut td ty tv):=by
 intro aU s σ H D I h;refine wpAny_Assign_Subscript (thn (hv aU s σ H _ I h) λr s1 ⟨v,H1,I1,rv,q1⟩=>thn (ho aU s1 σ H1 _ I1 q1) λu s2 ⟨x,H2,I2,rx,q2⟩=>thn (hi aU s2 σ H2 _ I2 q2) λiv s3 hq0=>?_) hs;obtain⟨y,H3,I3,ry,a,H4,ex,g,q3⟩:=hq0;subst ex;obtain rfl:u=Value.ref a:=rx;exact zbah hu I3 g ry rv λs4 I4=>⟨σ,H4,I4,q3⟩
end
theorem zbga    (h:Heap)(hb:sysModules < h.objs.size):ObjOk P w H (h.push { cls:=.type "dict", data:=.dict #[] }) h.objs.size (.dK []) :=
 ⟨xee _,xfp.mpr (xer (xci hb)),[],.nil,Heap.DictOf.new h⟩
theorem zbfu    (h:Heap)(hb:sysModules < h.objs.size):ObjOk P w H (h.push { cls:=.type "dict", data:=.dict #[] }) h.objs.size (.dT []) :=
 ⟨xee _,xfp.mpr (xer (xci hb)),[],.nil,_,#[],0,xcg _ rfl,⟨rfl,rfl,rfl⟩,rfl,rfl,xgx⟩
def tDNewK:TE:=λ_ H Q=>∀p,H p=none->Q (.ref p) (upd H p (.dK []))
def tDNewT:TE:=λ_ H Q=>∀p,H p=none->Q (.ref p) (upd H p (.dT []))
section
theorem zbed:PE X (.Dict [] [] pos) tDNewK:=λaU s σ H Q I h =>
 wpAny_Dict_empty ⟨.ref s.heap.objs.size,_,I.laid (a:=s.heap.objs.size) (o:=.dK []) (t':=s.toks) (λ_ _ q=>xbn _ q) (xbf _) (zbga s.heap I.big),rfl,h _ (I.hok.fresh (xbf _))⟩
theorem zbec:PE X (.Dict [] [] pos) tDNewT:=λaU s σ H Q I h =>
 wpAny_Dict_empty ⟨.ref s.heap.objs.size,_,I.laid (a:=s.heap.objs.size) (o:=.dT []) (t':=s.toks) (λ_ _ q=>xbn _ q) (xbf _) (zbfu s.heap I.big),rfl,h _ (I.hok.fresh (xbf _))⟩
end
structure M1 (X:Cx) (o:Expr) (m:Str) (apos:Pos) (e:Expr) (cpos:Pos):Prop where
 base:attributeBase o m X.env (eval o X.env)=eval o X.env
 few:((backTo cpos (starEach [e] X.env)).all (λx=>!x.1)&&(backToKw cpos (keywordEach [] X.env)).all (λx=>x.1.isSome)
  && decide (([e]:List Expr).length+([]:List Keyword).length+(if([]:List Keyword).isEmpty then 0 else 1) < 30))=true
 line:(apos.endLine==cpos.line)=true
 trees:backTo cpos (starEach [e] X.env)=[(false,eval e X.env)]
structure M2 (X:Cx) (o:Expr) (m:Str) (apos:Pos) (e f:Expr) (cpos:Pos):Prop where
 base:attributeBase o m X.env (eval o X.env)=eval o X.env
 few:((backTo cpos (starEach [e,f] X.env)).all (λx=>!x.1)&&(backToKw cpos (keywordEach [] X.env)).all (λx=>x.1.isSome)
  && decide (([e,f]:List Expr).length+([]:List Keyword).length+(if([]:List Keyword).isEmpty then 0 else 1) < 30))=true
 line:(apos.endLine==cpos.line)=true
 trees:backTo cpos (starEach [e,f] X.env)=[(false,eval e X.env),(false,eval f X.env)]
def IsD (H:Hp) (a:Addr):Prop:=(∃kvs,Rd H a (.dK kvs))\/∃kvs,Rd H a (.dT kvs)
theorem zbkh       (I:Inv X aU σ H s)(d:IsD H a) :
  s.TypeIs (.ref a) "dict"/\(∀ b,Value.ref a=.ref b->∃ ob,s.heap.get? b=some ob/\ob.dict=none)/\(a==sysModules)=false:=by
 rcases d with⟨kvs,e⟩ | ⟨kvs,e⟩
 ·obtain⟨_,hd,vs,_,dd⟩:=zbcj I.hok e;refine⟨dd.typeIs,λb q=>?_,hd⟩;cases q;obtain⟨ob,_,_,h1,h2,_⟩:=dd;exact⟨ob,h1,h2.2.1⟩
 ·obtain⟨_,hd,xs,_,dd⟩:=zbfs I.hok e;refine⟨dd.typeIs,λb q=>?_,hd⟩;cases q;obtain⟨ob,_,_,h1,h2,_⟩:=dd;exact⟨ob,h1,h2.2.1⟩
section
theorem zbra {A:Around}  (hu:A.units+1 < cLine)(I:Inv X aU σ H s)(g:DGet H a y o)(ry:RelV y u)(rd:RelV d r)(h:∀w' s',Inv X aU σ H s'->RelV (o.getD d) w'->Q w' s') :
  wpAny (model X.prog X.w) A (call (.builtin "dict.get") [.ref a,u,r]) Q E s:=by
 rcases g with⟨kvs,k,e,ey,l⟩ | ⟨kvs,k,b,e,ey,eb,l⟩
 ·subst ey;obtain⟨z,hd,vs,rel,dd⟩:=zbcj I.hok e;refine call_meetsIn xla dd.typeIs F.entry_dict_get (F.args_dict_get_3 _ _ _) (meets_dict_get_default (mixKind X.prog X.w) a (zbfg ry) hd r) ⟨_,dd.mapOf,h _ _ (I.tok _) ?_⟩;rw[l];exact(rel.val k).getD rd
 ·subst ey;cases(show u=Value.ref b from ry);obtain⟨z,hd,xs,rel,dd⟩:=zbfs I.hok e;refine call_meetsIn xla dd.typeIs F.entry_dict_get (F.args_dict_get_3 _ _ _) (meetsH_dict_get_default (tupleKind (mixKind X.prog X.w)) a b hd r) ⟨xhh hu,k,xs,zot I.hok eb,dd,h _ _ (I.tok _) ?_⟩;rw[l];exact(rel.val k).getD rd
end
def tDGet2 (td ty tx:TE):TE:=λσ H Q=>td σ H λx H1=>∃a,x=.ref a/\IsD H1 a/\ty σ H1 λy H2=>tx σ H2 λz H3=>∃o,DGet H3 a y o/\Q (o.getD z) H3
section
theorem zbee {X:Cx}(hu:X.A.units + 1 < cLine)(ho:PE X o td)(he:PE X e ty)(hf:PE X f tx)(m:M2 X o "get" apos e f cpos):PE X (.Call (.Attribute o "get" apos) [e,f] [] cpos) (tDGet2 td ty tx):=by
 intro aU s σ H Q I h;refine wpAny_Call_method m.base m.few m.line xke xla F.type_dict_get (thn (ho aU s σ H _ I h) λu s1 hq0=>?_);obtain⟨x,H1,I1,rx,a,ex,d,q1⟩:=hq0;subst ex;obtain rfl:u=Value.ref a:=rx;obtain⟨t1,t2,_⟩:=zbkh I1 d;refine⟨t1,t2,?_⟩;rw[m.trees]
 refine xir rfl (xle (xig (thn (he aU s1 σ H1 _ I1 q1) λiv s2 ⟨y,H2,I2,ry,q2⟩ =>
  xig (thn (hf aU s2 σ H2 _ I2 q2) λfv s3 ⟨z,H3,I3,rz,ov,g,q3⟩=>xkj ?_))))
 exact zbra hu I3 g ry rz λw' s4 I4 rw'=>⟨_,H3,I4,rw',q3⟩
end
section
end
section
end
end L2
namespace Att
open PySem PySem.W PySem.Calls PyProof.Rows
theorem zjp  :∀(ns:List Int) (vs:List Value),WellAll P h vs (ns.map WData.int)->IntsAre vs ns:=by
 intro ns
 induction ns with
 | nil =>
  intro vs w;rw[xmy] at w;cases w;exact .nil
 | cons n ns ih =>
  intro vs w;rw[xbu] at w;cases w with
  | cons a b =>
   cases a;exact .cons _ _ (ih _ b)
theorem zyh {l:OpenLaw}  (hn:l.most=some n)    
  (hpre:l.row.toRowW.claim.pre args=true)(hwl:WellAll P h vals args) :
  ∃ a vs ns,vals=[Value.ref a]/\args=[WData.list (ns.map WData.int)]/\h.get? a=some { cls:=.type "list", data:=.seq vs.toArray }/\IntsAre vs ns/\ns.length<=n:=by
 have hsh:WShape.hasAll [] args [.list .int]=true:=(pre_splitW hpre).1;have hc:l.pre.holds [] {args:=args}=true:=(pre_splitW hpre).2;obtain⟨d,r,rfl,h1,h2⟩:=hasAllW_cons hsh;obtain rfl:=hasAllW_nil h2;obtain⟨xs,rfl,h3⟩:=hasW_list h1;obtain⟨ns,rfl⟩:=items_int h3;have hlen:ns.length<=n:=by
  unfold OpenLaw.pre at hc;have h4:(WTm.not (.lt (.lit (.int (n:Int))) (.len (.arg 0)))).holds [] {args:=[.list (ns.map .int)]}=true:=by
   have h4:=(holds_andW hc).1;rw[hn] at h4;exact h4
  have h5:=condW_of h4 (w_not (w_lt w_lit (w_len_list (w_arg rfl))));rw[xbb] at h5;refine xcj λq=>?_
  have q':(n:Int) < ((ns.length:Nat):Int):=by lia
  first
   | (rw[xbv q'] at h5;exact absurd h5 (by decide))
   | (simp at h5;lia)
 cases hwl with
 | cons w1 w2 =>
  cases w2;cases w1 with
  | list ho hall=>exact⟨_,_,ns,rfl,rfl,ho,zjp ns _ hall,hlen⟩
theorem zyo (l:OpenLaw)(args:List WData):l.row.toRowW.claim.post args (.bool true) args=true :=
 postW_of (r:=l.row.toRowW) (X:=(true==true))
  (show WShape.has [] (.bool true) .bool=true by first | rfl | decide | simp[WShape.has,WShape.arms,WShape.armsAll])
  (show(WTm.eq .res (.lit (.bool true))).value [] {args:=args,res:=some (.bool true),after:=args}=some (.bool (true==true)) from w_eq_bool (w_res rfl) w_lit) rfl
theorem attach_call {l:OpenLaw}      {d:DefRec}
  (hn:l.most=some n)(hdf:d.params.defaults=[])
  (call:∀(w:World) (s₀ s₁:Shared) (mg mb:Str->Option Value) (fa:Addr) (o:Obj) (pm cd doc:Value) (a:Addr) (vs:List Value) (ns:List Int),
   Ground q loose [] XP w s₀ mg mb s₁.heap->YP w s₁.heap ->
   s₁.heap.get? fa=some o->o.data=.func (docDef d.name d.params d.body d.scope pm cd doc)->s₁.heap.CodeRec cd d.name->mg d.name=some (.ref fa) ->
   s₁.heap.get? a=some { cls:=.type "list", data:=.seq vs.toArray }->IntsAre vs ns->ns.length<=n->s₁.gens=#[] ->
   codeAny (model l.prog w) callerA (.call (.ref fa) ⟨[.ref a],[]⟩) (λr s'=>r=.ok (.ret (.bool true))/\OldK s₁.heap s'.heap/\s'.os=s₁.os/\AllBare s'.gens) s₁) :
  WalkO q loose XP YP l.row.toRowW d [] (λf vs=>PySem.call f vs):=by
 intro w s₀ s₁ mg mb G Y fa o pm cd doc dV kV ho hd hcd hD hmg hg args vals as hpre hlay hrd hwl hlo;obtain rfl:dV=.none:=Dflts.none hD hdf;obtain rfl:kV=.none:=Dflts.noKw hD;obtain⟨a,vs,ns,rfl,rfl,hobj,hints,hlen⟩:=zyh hn hpre hwl;refine enter_call (xlo (call w s₀ s₁ mg mb fa o pm cd doc a vs ns G Y ho (fd_plain hd) hcd hmg hobj hints hlen hg) λr s' hq=>?_);obtain⟨rfl,h2,h3,h4⟩:=hq;exact⟨.inl ⟨.bool true,.bool true,[],rfl,λ_=>rfl,.bool true,zyo l _,λ_=>⟨List.Pairwise.nil,λ_ hm=>(nomatch hm)⟩⟩,h2,h3,h4⟩
section
end
end Att
namespace L2
open PySem PySem.Spec PyProof.Rows
theorem zpu:∀{vs:List Value} {ns:List Int},IntsAre vs ns->Vals (ns.map V.int) vs
 | _,_,.nil=>.nil
 | _,_,.cons n t h=>.cons ⟨t,rfl⟩ (zpu h)
def Only (H:Hp):Prop:=∀b,H b=none\/∃o xs,H b=some (.frz o (.lst xs))
theorem zbez   {K:Fg}        {s₁:Shared}{vs:List Value} 
  (KX:K.In s₁.heap)(hns:s₁.heap.Ns mainGlobals mg)(hb:s₁.heap.Ns builtinsNs mb)(hbb:∀ x:Str,x≠"__name__"->mb x=bootBuiltins x)(hlim:s₁.heap.NoLimit)(hg:s₁.gens=#[])
  (ha:s₁.heap.get? a=some { cls:=.type "list", data:=.seq vs.toArray })(hi:IntsAre vs ns)(hl:ns.length<=sizeLine)(hr:Room k callerA)
  (F:∀base:Heap,K.In base->base.Ns mainGlobals mg->FnOk P w K mg base CX k fa fd [x] sp)(hbind:∀(s:Shared) (u:Value),BindsTo s fd ⟨[u],[]⟩ [(x,u)])
  (hsp:∀H:Hp,Only H->SqL K H a (ns.map V.int)->sp [.ref a] H (λv _=>v=.bl true) λ_ _ _=>False)
  (hCX:∀H e s',CX [] H s₁ (λ_ _ _=>False) e s'->False) :
  codeAny (model P w) callerA (.call (.ref fa) ⟨[.ref a],[]⟩) (λr s'=>r=.ok (.ret (.bool true))/\OldK s₁.heap s'.heap/\s'.os=s₁.os/\AllBare s'.gens) s₁:=by
 have rv:=zpu hi;have lenV:=hi.length;have core:∀H:Hp,Only H->SqL K H a (ns.map V.int)->HOk P w H s₁.heap->(∀b,H b≠none->b=a)->(H a≠none->K.lookup a=none) ->
   codeAny (model P w) callerA (.call (.ref fa) ⟨[.ref a],[]⟩) (λr s'=>r=.ok (.ret (.bool true))/\OldK s₁.heap s'.heap/\s'.os=s₁.os/\AllBare s'.gens) s₁:=by
  intro H hO hS hok hA hK;have base_of:∀{b:Addr} {o:Obj},s₁.heap.get? b=some o->H b=none->(hidT s₁.heap H).get? b=some o:=λe n=>zbfl e n
  have noA:∀{b:Addr} {o:Obj} {es:Array DictEntry} {ep:Nat},s₁.heap.get? b=some o->o.data=.dict es ep->H b=none:=λ{b o es ep} e d=>by
   cases q:H b with
   | none=>rfl
   | some u =>
    have e':b=a:=hA b (by rw[q];simp);subst e';rw[ha] at e;cases e
    have d':Data.seq vs.toArray _=Data.dict es ep:=d;cases d'
  have nsK:∀{b:Addr} {m:Str->Option Value},s₁.heap.Ns b m->(hidT s₁.heap H).Ns b m:=λ{b m} ⟨o,es,ep,e,d,r⟩=>⟨o,es,ep,base_of e (noA e d),d,r⟩
  have hKb:K.In (hidT s₁.heap H):=λb o e=>base_of (KX b o e) (by
   cases q:H b with
   | none=>rfl
   | some u =>
    have e':b=a:=hA b (by rw[q];simp);subst e'
    rw[hK (by rw[q];simp)] at e;cases e)
  have hM:Mod K mg (hidT s₁.heap H):=⟨hKb,nsK hns,⟨mb,nsK hb,hbb⟩,let ⟨mc,h1,h2⟩:=hlim;⟨mc,nsK h1,h2⟩⟩
  have e0:Env0 P w K mg (hidT s₁.heap H) callerA [] s₁ H:=⟨rfl,hM,λb o e=>zbjo e,xdb (zzw _ _),trivial,λb hb=>absurd (show b∈([]:List Addr) from hb) (by simp),hok,.of_eq hg⟩
  refine xlo ((F _ hKb (nsK hns)).run callerA [] s₁ H ⟨[.ref a],[]⟩ [.ref a] [.ref a] _ _ hr e0 (hbind s₁ (.ref a)) (.cons rfl .nil) (hsp H hO hS)) λr s' h=>?_
  cases r with
  | error e=>exact(hCX H e s' h).elim
  | ok fl =>
   cases fl with
   | next=>exact False.elim h
   | brk=>exact False.elim h
   | cont=>exact False.elim h
   | ret u =>
    obtain⟨v,H',os,bare,un,hok',r',q⟩:=h;have q':v=.bl true:=q;subst q';obtain rfl:u=Value.bool true:=r';refine⟨rfl,OldK.of_keep λb o e=>?_,os,bare⟩;cases q:H b with
    | none=>exact un.keep b o e q (by intro z;exact absurd (show b∈([]:List Addr) from z) (by simp)) (by simp)
    | some u =>
     rcases hO b with z | ⟨ob,xs,z⟩
     ·rw[q] at z;cases z
     ·have z2:=un.frzs b ob _ z;obtain⟨e1,_⟩:=hok b _ z;obtain⟨e2,_⟩:=hok' b _ z2;rw[e] at e1;cases e1
      exact e2
 cases hk:K.lookup a with
 | some o =>
  have e:=KX a o hk;rw[ha] at e;cases e;refine core (λ_=>none) (λ_=>.inl rfl) (.inr ⟨_,vs.toArray,_,hk,rfl,rfl,rfl,by rw[xbt,lenV];exact hl,by simpa using rv⟩) (λb u z=>by have z':(none:Option HO)=some u:=z;cases z') (λb z=>absurd rfl z) λz=>absurd rfl z
 | none =>
  refine core (λb=>if b=a then some (.frz { cls:=.type "list", data:=.seq vs.toArray } (.lst (ns.map V.int))) else none) (λb=>?_) (.inl (.inr ⟨{ cls:=.type "list", data:=.seq vs.toArray },if_pos rfl⟩)) (λb u z=>?_) (λb z=>?_) λ_=>hk
  ·by_cases hb:b=a
   ·exact .inr ⟨_,_,if_pos hb⟩
   ·exact .inl (if_neg hb)
  ·by_cases hb:b=a
   ·have z':=(if_pos hb).symm.trans z;cases z';subst hb;exact⟨ha,by rw[xbb];exact hl,vs,_,rv,ha⟩
   ·have z':=(if_neg hb).symm.trans z;cases z'
  ·by_cases hb:b=a
   ·exact hb
   ·exact absurd (if_neg hb) z
theorem zbhn {l:W.OpenLaw}{n k:Nat}{q:Program}{loose:List Str}{XP:(Str->Option Value)->Heap->Prop}{YP:World->Heap->Prop}{d:DefRec}{K:Params->Fg}{CX:World->CXT}{sp:World->Sp}{x:Str}
  (hn:l.most=some n)(hn2:n<=sizeLine)(hdf:d.params.defaults=[])(hr:Room k callerA)
  (hY:∀(w:World) (h:Heap),YP w h->(K w.params).In h)
  (F:∀(w:World) (mg:Str->Option Value) (fa:Addr) (h:Heap),(K w.params).In h->h.Ns mainGlobals mg->mg d.name=some (.ref fa) ->
   ∃fd:FuncData,(∀(s:Shared) (u:Value),BindsTo s fd ⟨[u],[]⟩ [(x,u)]) /\
    ∀base:Heap,(K w.params).In base->base.Ns mainGlobals mg->FnOk l.prog w (K w.params) mg base (CX w) k fa fd [x] (sp w))
  (hsp:∀(w:World) (H:Hp) (a:Addr) (ns:List Int),ns.length<=n->Only H->SqL (K w.params) H a (ns.map V.int)->sp w [.ref a] H (λv _=>v=.bl true) λ_ _ _=>False)
  (hCX:∀(w:World) (H:Hp) (s:Shared) (e:Value) (s':Shared),CX w [] H s (λ_ _ _=>False) e s'->False) :
  W.WalkO q loose XP YP l.row.toRowW d [] (λf vs=>PySem.call f vs):=by
 refine Att.attach_call hn hdf λw s₀ s₁ mg mb fa o pm cd doc a vs ns G Y ho hd hcd hmg hobj hints hlen hg=>?_
 have KX:=hY w _ Y;obtain⟨fd,hb,hF⟩:=F w mg fa _ KX G.T.g hmg;exact zbez KX G.T.g G.T.b G.T.builtins G.T.nolimit hg hobj hints (xbc hlen hn2) hr hF hb (λH hO hS=>hsp w H a ns hlen hO hS) λH e s'=>hCX w H s₁ e s'
end L2
/- THE LAST THEOREM (shape;LID,My.* are yours):
 My.Adr: a structure of the addresses that your layer names (classes,functions);My.Txt K t: a structure (Prop) of the equations over K;
 My.txt_mk:{K} {implicit addresses ..} (e1:nsIn K mainGlobals "law"=some (some (.ref f))) (e2:K.lookup f=some ⟨oc,od,.func (fnOf "law" "law" params body scope dV kV doc pm an cdv ct),sl⟩) (e3:codeIn K cdv "law"=true) ..:∃ t,My.Txt K t
(the tactic k_is has no namespace: write k_is) -/
namespace L2
open PySem PySem.Spec PyProof.Rows
noncomputable def defArgs (s:Stmt):Arguments:=match s with
 | .FunctionDef _ a _ _ _ _ _ _ _ _=>a
 | _=>{posonlyargs:=[],args:=[],vararg:=none,kwonlyargs:=[],kw_defaults:=[],kwarg:=none,defaults:=[]}
noncomputable def defBody (s:Stmt):List Stmt:=match s with
 | .FunctionDef _ _ b _ _ _ _ _ _ _=>b
 | _=>[]
noncomputable def defScope (s:Stmt):Scope:=match s with
 | .FunctionDef _ _ _ _ _ _ sc _ _ _=>sc
 | _=>{kind:=.function,names:=[],isGenerator:=false,isCoroutine:=false}
abbrev CX0:CXT:=λ_ _ _ _ _ _=>False
abbrev E0:XK:=λ_ _ _=>False
theorem pass0 :Passes CX0 X E0:=λ_ _ _ _ _ _ _ h=>h.elim
structure Fun (K:Fg) (x qual:Str) (au:Stmt) (f:Addr) (fd:FuncData):Prop where
 ex:∃(oc:Value) (od:Option Addr) (kV doc pm:Value) (an:Option Addr) (cdv ct:Value) (osl:Array (Option Value)),
  fd=W.fnOf x qual (defArgs au) (defBody au) (defScope au) .none kV doc pm an cdv ct/\K.lookup f=some ⟨oc,od,.func fd,osl⟩/\W.codeIn K cdv qual=true
 kp:W.keepIn K (.ref f)=true
section
theorem Fun.ok {K:Fg}     {N:List Str}   (F:Fun K x qual au f fd)(S:FnScope N ps (defScope au))(len:∀vs H Q E,sp vs H Q E->vs.length=ps.length)
  (hbody:∀(cdv:Value) (A:Around) (outer:List Env) (s:Shared) (H:Hp) (vs:List V) (Q:VK) (E:XK),Room k (A.deeper (envOfC qual (defScope au) s.heap.objs.size f cdv))->sp vs H Q E ->
   ∃t,PSs (cxOf CX0 P w K mg base N qual (defScope au) f cdv A outer s H E).nox (defBody au) t/\t {nx:=λ_ H'=>Q .non H',rt:=Q} (start N vs) H):FnOk P w K mg base CX0 (k+1) f fd ps sp:=by
 obtain⟨oc,od,kV,doc,pm,an,cdv,ct,osl,rfl,lk,hcd⟩:=F.ex;refine zbtz lk hcd S len λA outer s H vs Q E hr hsp=>?_
 obtain⟨t,h,q⟩:=hbody cdv A outer s H vs Q E hr hsp;exact⟨t,h.nox,q⟩
theorem Fun.binds {K:Fg}     {ps:List Str}(F:Fun K x qual au f fd)
  (h:∀(kV doc pm:Value) (an:Option Addr) (cdv ct:Value) (us:List Value),us.length=ps.length->bindArgs (W.fnOf x qual (defArgs au) (defBody au) (defScope au) .none kV doc pm an cdv ct) ⟨us,[]⟩=pure (ps.zip us)):Binds K fd ps []:=by
 obtain⟨oc,od,kV,doc,pm,an,cdv,ct,osl,rfl,lk,hcd⟩:=F.ex;exact .all (h kV doc pm an cdv ct)
theorem zbqb {K:Fg}       {kV:Value}(l:K.lookup f=some ⟨oc,od,.func (W.fnOf x qual (defArgs au) (defBody au) (defScope au) .none kV doc pm an cdv ct),osl⟩)
 (c:W.codeIn K cdv qual=true)(k:W.keepIn K (.ref f)=true):Fun K x qual au f (W.fnOf x qual (defArgs au) (defBody au) (defScope au) .none kV doc pm an cdv ct):=⟨⟨oc,od,kV,doc,pm,an,cdv,ct,osl,rfl,l,c⟩,k⟩
end
theorem zov   (hr:Room k A):A.units+1 < cLine:=xdg (xcn (by decide:1<=64) _) hr.units
section
theorem pv {X:Cx}(i:Nat)   (hN:X.N[i]?=some x:=by rfl)(hv:Vis X.env.scope x:=by first | exact Or.inl rfl | exact Or.inr (Or.inl rfl) | exact Or.inr (Or.inr rfl))(hd:(x==("__debug__" : Str))=false:=by decide)
 (hcd:(x==("__classdict__" : Str))=false:=by decide):PE X (.Name x pos) (tVar i):=zbok hN hv hd hcd
end
theorem iteF {A B:Prop}(h:B):if false=true then A else B:=by
 rw[if_neg xft];exact h
theorem iteT {A B:Prop}(h:A):if true=true then A else B:=by
 rw[if_pos rfl];exact h
section
end
section
variable {κ:Type}[DecidableEq κ]
end
section
noncomputable abbrev NoX:Value->Shared->Prop:=λ_ _=>False
noncomputable abbrev testsOf (cs:List Expr) (ev:Env):Sem Bool :=
 forIn cs true λd b=>if b=true then do let z ← isTrue d ev (eval d ev);pure (ForInStep.yield z) else pure (ForInStep.yield b)
def CompStep (P:Program) (w:World) (B:Around) (tg x:Expr) (cs:List Expr) (ev:Env) (i l:Value) (K:Shared->Prop) (v:Value) (sa:Shared):Prop :=
 wpAny (model P w) B (letOwnedTupleGo tg i v) (λ_ sb=>wpAny (model P w) B (assign tg ev v) (λ_ sc=>wpAny (model P w) B (testsOf cs ev) (λok sd =>
  if ok=true then wpAny (model P w) B (eval x ev) (λy se=>wpAny (model P w) B (call (.builtin "list.append") [l,y]) (λ_ sf=>K sf) NoX se) NoX sd else K sd) NoX sc) NoX sb) NoX sa
theorem zbal  {cs:List Expr}     (J:Nat->Shared->Prop)
  (go:∀k sk,J k sk->wpAny (model P w) B (pyNext i) (λo sa=>match o with
   | none=>R (.ok .next) sa
   | some v=>CompStep P w B tg x cs ev i l (λsf=>∃k',k' < k/\J k' sf) v sa) NoX sk)
  (k:Nat)(hJ:J k sh):codeAny (model P w) B (.compLoop (.ListComp x [⟨tg,it,cs,0⟩] sc ps) 0 i l ev) R sh:=by
 have none_:∀{E:Value->Shared->Prop} (e:Value) (z:Shared),NoX e z->E e z:=λ_ _ z=>z.elim
 refine codeAny_loop rfl J (λk sk hk=>wpAny_noted (by
  rw[compTurn_list];refine xba (wpAny_standAt (xba (xfm (go k sk hk) (λo sa ho=>?_) none_)))
  match o,ho with
  | none,ho=>exact xbe ho
  | some v,ho =>
   refine xba (xfm ho (λ_ sb hb=>xba (xfm hb (λ_ sc' hc=>xba (xfm hc (λok sd hd=>?_) none_)) none_)) none_)
   match ok,hd with
   | false,hd=>exact xbe (And.intro rfl hd)
   | true,hd=>exact xba (xba (xfm hd (λy se he=>xba (xfm he (λ_ sf hf=>xbe (xbe (And.intro rfl hf))) none_)) none_)))) k hJ
end
theorem zpg {env:Env}:∀(names:List (Str×NameKind)) (acc:List (Str×Addr)),(∀y∈names,y.2=.free->∃c,env.cells.lookup y.1=some c)->(∀x c,acc.lookup x=some c->env.cells.lookup x=some c) ->
  ∃cl:List (Str×Addr),(forIn names acc (λx r=>if(x.2==NameKind.free)=true then do let a ← cellOf env x.1;pure (ForInStep.yield ((x.1,a)::r)) else pure (ForInStep.yield r)):Sem (List (Str×Addr)))=pure cl /\
   (∀x c,cl.lookup x=some c->env.cells.lookup x=some c)/\(∀x c,acc.lookup x=some c->∃c',cl.lookup x=some c')/\∀x,(x,NameKind.free)∈names->∃c,cl.lookup x=some c:=by
 intro names
 induction names with
 | nil=>intro acc _ ha;exact⟨acc,rfl,ha,λx c e=>⟨c,e⟩,λx z=>(nomatch z)⟩
 | cons y r ih =>
  intro acc hf ha;obtain⟨n,k⟩:=y;by_cases hk:k=.free
  ·subst hk;obtain⟨c,hc⟩:=hf (n,.free) xbp rfl
   obtain⟨cl,e,h1,h2,h3⟩:=ih ((n,c)::acc) (λy hy=>hf y (xbm _ hy)) (λx c' e=>by
    rw[xfv] at e;by_cases hx:x=n
    ·subst hx;rw[xgy] at e;cases e;exact hc
    ·rw[xfp.mpr hx] at e
     exact ha x c' e)
   refine⟨cl,?_,h1,λx c' e'=>?_,λx hx=>?_⟩
   ·rw[List.forIn_cons];simp only[xgy,ite_true];have q:cellOf env n=pure c:=by unfold cellOf;rw[hc]
    rw[q];simp only[pure_bind];exact e
   ·by_cases hx:x=n
    ·subst hx;exact h2 x c (by rw[xfv,xgy])
    ·exact h2 x c' (by rw[xfv,xfp.mpr hx];exact e')
   ·rcases xbs.mp hx with z | z
    ·cases z;exact h2 n c (by rw[xfv,xgy])
    ·exact h3 x z
  ·obtain⟨cl,e,h1,h2,h3⟩:=ih acc (λy hy=>hf y (xbm _ hy)) ha;refine⟨cl,?_,h1,h2,λx hx=>?_⟩
   ·rw[List.forIn_cons];have hb:(k==NameKind.free)=false:=by simpa using hk
    simp only[hb,xcq,xeh,pure_bind];exact e
   ·rcases xbs.mp hx with z | z
    ·cases z;exact absurd rfl hk
    ·exact h3 x z
theorem zwl {scope:Scope}{env:Env}(h:∀y∈scope.names,y.2=.free->∃c,env.cells.lookup y.1=some c) :
  ∃cl,closureFor scope env=pure cl/\(∀x c,cl.lookup x=some c->env.cells.lookup x=some c)/\∀x,(x,NameKind.free)∈scope.names->∃c,cl.lookup x=some c:=by
 obtain⟨cl,e,h1,_,h3⟩:=zpg (env:=env) scope.names [] h (λx c e=>(nomatch e));refine⟨cl,?_,h1,h3⟩;unfold closureFor;have e':=congrArg (λm=>m >>= λr=>(pure r:Sem (List (Str×Addr)))) e;simp only[pure_bind] at e';exact e'
theorem zbj {env:Env}:∀{names:List (Str×NameKind)} {x:Str} {k:NameKind},(names.map λ(n,k)=>if(k==NameKind.free&&env.scope.kind==.function&&env.kindOf n==some .cell) then(n,NameKind.cell) else(n,k)).lookup x=some k ->
  names.lookup x=some k\/(k=.cell/\names.lookup x=some .free)
 | [],_,_,h=>by simp at h
 | (n,k')::r,x,k,h=>by
  have ih:=@zbj env r x k;have h':List.lookup x ((if(k'==NameKind.free&&env.scope.kind==.function&&env.kindOf n==some .cell)=true then(n,NameKind.cell) else(n,k'))::_)=_:=h;cases hx:x==n with
  | true =>
   by_cases hc:(k'==NameKind.free&&env.scope.kind==.function&&env.kindOf n==some .cell)=true
   ·rw[if_pos hc] at h';simp only[xfv,hx] at h' ⊢;cases h';rw[xgg,xgg] at hc;exact .inr ⟨rfl,by rw[eq_of_beq hc.1.1]⟩
   ·rw[if_neg hc] at h';simp only[xfv,hx] at h' ⊢;exact .inl h'
  | false =>
   have h2:(r.map λ(n,k)=>if(k==NameKind.free&&env.scope.kind==.function&&env.kindOf n==some .cell) then(n,NameKind.cell) else(n,k)).lookup x=some k:=by
    by_cases hc:(k'==NameKind.free&&env.scope.kind==.function&&env.kindOf n==some .cell)=true
    ·rw[if_pos hc] at h';simp only[xfv,hx] at h';exact h'
    ·rw[if_neg hc] at h';simp only[xfv,hx] at h';exact h'
   simp only[xfv,hx];exact ih h2
def cxC (X:Cx) (N:List Str) (scope:Scope) (cl:List (Str×Addr)) (C:Addr) (fp:List Addr) (s:Shared) (H:Hp):Cx :=
 {X with N:=N,s₀:=s,H₀:=H,env:=compEnvC scope cl C X.env,outer:=X.stack,ex:=fp,fn:=λ_=>false,pn:=[],xe:=λ_ _=>False}
def startC (k:Nat) (is:List Nat) (σ:St):St:=List.replicate k none++is.map λi=>(σ[i]?).getD none
structure CompScope (X:Cx) (N:List Str) (k:Nat) (is:List Nat) (scope:Scope):Prop where
 kind:scope.kind=.function
 nocell:∀y∈scope.names,y.2≠.cell
 names:∀y∈scope.names,y.2=.local->scope.names.lookup y.1=some .local
 frees:∀y∈scope.names,y.2=.free->X.env.kindOf y.1=some .cell\/X.env.kindOf y.1=some .free
 len:N.length=k+is.length
 own:∀j i,is[j]?=some i->∃x,N[k+j]?=some x/\X.N[i]?=some x/\scope.names.lookup x=some .free
theorem zfv   {l:List (Str×NameKind)}(h:l.lookup x=some k):(x,k)∈l:=xgu h
section
theorem zbfi {N:List Str}    {cl:List (Str×Addr)}  {h1:Heap}  (S:CompScope X N k is scope)(I:Inv X aU σ H s)
  (c1:∀x c,cl.lookup x=some c->X.env.cells.lookup x=some c)(c2:∀x,(x,NameKind.free)∈scope.names->∃c,cl.lookup x=some c)
  (hf:∀b∈fp,FpOk X aU H b)(hfo:∀b∈fp,∃o,s.heap.get? b=some o)(hn:h1.Ns s.heap.objs.size (λ_=>none))(hk:∀b o,s.heap.get? b=some o->h1.get? b=some o) :
  Inv (cxC X N scope cl s.heap.objs.size fp s H) [] (startC k is σ) H {s with heap:=h1,toks:=tk}:=by
 have hC:∀b o,s.heap.get? b=some o->b≠s.heap.objs.size:=λb o e=>xci (xbx e)
 have nfs:∀b∈fp,b∉frs X.stack:=λb hb z=>by
  rcases xbs.mp (I.stkSub b z) with e | e
  ·exact(hf b hb).2.1 e
  ·exact(hf b hb).2.2.1 e
 refine⟨⟨I.ok.mod,S.kind,I.ok.glob,I.ok.blt,xbf _,λx y c e1 e2=>I.ok.inj x y c (c1 x c e1) (c1 y c e2),λx hx=>?_,λx c z=>?_,I.ok.hd,I.ok.frames,.inl rfl,λb hb=>⟨?_,λx c e=>?_⟩,I.bs,xbc I.ok.bsz I.sz,λb o e hb=>?_,nfs,I.stack,I.stkFree⟩,
  rfl,I.bare,Un.kept hk,⟨_,hn,λi x v e1 e2 e3=>?_⟩,λx c e=>?_,I.hok.fresh (xbf _),λx c e=>I.freeC x c (c1 x c e),λp hp=>(nomatch hp),I.hok.kept hk,?_,I.hnd⟩
 ·have hx':(scope.names.map λ(n,k)=>if(k==NameKind.free&&X.env.scope.kind==.function&&X.env.kindOf n==some .cell) then(n,NameKind.cell) else(n,k)).lookup x=some .cell\/(scope.names.map λ(n,k)=>if(k==NameKind.free&&X.env.scope.kind==.function&&X.env.kindOf n==some .cell) then(n,NameKind.cell) else(n,k)).lookup x=some .free:=hx;have q:scope.names.lookup x=some .free:=by
   rcases hx' with z | z
   ·rcases zbj z with q | ⟨_,q⟩
    ·exact absurd rfl (S.nocell _ (zfv q))
    ·exact q
   ·rcases zbj z with q | ⟨q,_⟩
    ·exact q
    ·cases q
  exact c2 x (zfv q)
 ·cases z
 ·obtain⟨o,e⟩:=hfo b hb;exact hC b o e
 ·exact(hf b hb).2.2.2.2.1 x c (c1 x c e)
 ·rcases(hf b hb).2.2.2.1 with z | z
  ·exact I.ok.noex b o e z
  ·exact absurd (xbh (xbx (I.ok.bs b o e).1) z) (xgq _)
 ·-- a name of the def around
  unfold startC at e2;have hi:k<=i:=by
   rcases xff i k with z | z
   ·rw[xbw (by rw[xhi];exact z),List.getElem?_replicate,if_pos z] at e2;cases e2
   ·exact z
  rw[xct (by rw[xhi];exact hi),xhi,xco] at e2;cases ej:is[i - k]? with
  | none=>rw[ej] at e2;cases e2
  | some j =>
   rw[ej] at e2;have e2':(σ[j]?).getD none=some v:=xcv e2;obtain⟨y,y1,y2,y3⟩:=S.own (i - k) j ej;have ey:y=x:=by
    have z:N[i]?=some y:=by rw[← y1];congr 1;lia
    have e1':N[i]?=some x:=e1;rw[z] at e1';exact xcv e1'
   subst ey;have e4:σ[j]?=some (some v):=by
    cases q:σ[j]? with
    | none=>rw[q] at e2';cases e2'
    | some o=>rw[q] at e2';exact congrArg some e2'
   have kd:=S.frees _ (zfv y3) rfl;have vis:Vis X.env.scope y:=.inr kd;obtain⟨m,_,hl⟩:=I.loc;obtain⟨u,r,lk⟩:=hl j y v y2 e4 vis;refine⟨u,r,?_⟩;rcases lk with⟨z,_⟩ | ⟨_,c,e5,cc⟩
   ·rcases kd with q | q<;>(rw[q] at z;cases z)
   ·obtain⟨c',e6⟩:=c2 y (zfv y3);have:c'=c:=by
     have z:=c1 y c' e6;rw[e5] at z;exact(xcv z).symm
    subst this;refine .inr ⟨?_,c',e6,?_⟩
    ·rcases e3 with z | z | z
     ·exact absurd (zbj z) (by
       rw[y3];rintro(q | ⟨q,_⟩)
       ·cases q
       ·cases q)
     ·exact .inl z
     ·exact .inr z
    ·obtain⟨o,ho,hd⟩:=cc;exact⟨o,hk _ o ho,hd⟩
 ·obtain⟨v,o,ho,hd⟩:=I.cell x c (c1 x c e);exact⟨v,o,hk _ o ho,hd⟩
 ·unfold startC;rw[xbi,xhi,xbb];exact S.len.symm
theorem zbfj {N:List Str}        (I:Inv X aU σ H s)(hf:∀b∈fp,FpOk X aU H b)(J:Inv (cxC X N scope cl s.heap.objs.size fp s H) [] σ' H' s')
  (hs:Heap.SameBut s.heap.objs.size s'.heap h'):Inv X aU σ H' {s' with heap:=h'}:=by
 have hC:∀b o,s.heap.get? b=some o->b≠s.heap.objs.size:=λb o e=>xci (xbx e)
 have hH:H' s.heap.objs.size=none:=J.free;have B:Un (frs X.stack) fp H H' s.heap s'.heap:=J.base
 have U:Un (frs X.stack) fp H H' s.heap h':=⟨λb o e n h1 h2=>hs.extBut b o (hC b o e) (B.keep b o e n h1 h2),λb o e n h1 h2=>by
   obtain⟨sl,q⟩:=B.slot b o e n h1 h2;exact⟨sl,hs.extBut b _ (hC b o e) q⟩,B.free,λb o e hx=>by
   obtain⟨o',q⟩:=B.there b o e hx
   exact⟨o',hs.extBut b o' (hC b o e) q⟩,B.tups,B.frzs,B.tbls⟩
 refine I.call' (s':={s' with heap:=h'}) J.os U (λa o e=>?_) J.bare (λb hb=>⟨(hf b hb).2.2.2.1,(hf b hb).2.1,(hf b hb).2.2.2.2.1,(hf b hb).2.2.2.2.2⟩);refine(J.hok a o e).stay (λb u hb q=>hs.extBut b u ?_ q) (λ_ q=>q) λ_ _ q=>q
 rcases hb with z | z
 ·intro y;rw[z] at y;rw[y,hH] at e;cases e
 ·intro y;rw[y,hH] at z;cases z
end
structure OffC (X:Cx) (aU:List (Addr×Obj)) (H:Hp) (C:Addr):Prop where
 free:H C=none
 loc:C≠X.env.locals
 young:X.s₀.heap.objs.size<=C
 cell:∀x c,X.env.cells.lookup x=some c->c≠C
 pin:∀p∈X.pn++aU,p.1≠C
theorem OffC.back        (o:OffC X aU H C)(I:Inv X aU σ H s)(hs:Heap.SameBut C s.heap h'):Inv X aU σ H {s with heap:=h'} :=
 I.turned (t':=s.toks) (λb u hb e=>hs.extBut b u hb e) o.free o.loc (.inr o.young) o.cell o.pin
def nxC (p:Addr) (te:TE) (tc:TT) (N:St->Hp->Prop):St->Hp->Prop:=λσ2 H3=>tc σ2 H3 λb H4 =>
 if b=true then te σ2 H4 λy H5=>∃xs,H5 p=some (.lst xs)/\xs.length < sizeLine/\N σ2 (upd H5 p (.lst (xs++[y]))) else N σ2 H4
def CompG (J:It) (g:TG) (tc:TT) (te:TE) (Q:VK) (p:Addr) (σ:St) (H:Hp):Prop:=∃W:Nat->Nat->St->Hp->Prop,(∃m,W 0 m σ H) /\
 ∀i m σ' H',W i m σ' H'->(J.stop i H'/\Q (.ref p) H')\/(J.go i H'/\∃N:St->Hp->Prop,(∀σ2 H2,N σ2 H2->∃m',m' < m/\W (i+1) m' σ2 H2)/\∀x H2,J.yld i H' x H2->g x σ' H2 (nxC p te tc N))
def tComp (wi:TI) (k:Nat) (is:List Nat) (g:TG) (tc:TT) (te:TE):TE:=λσ H Q=>wi σ H λJ H1=>∀p,H1 p=none->CompG J g tc te Q p (startC k is σ) (upd H1 p (.lst []))
def tYes:TT:=λ_ H Q=>Q true H
section
def PIf (X:Cx) (ifs:List Expr) (t:TT):Prop :=
 ∀(aU:List (Addr×Obj)) (s:Shared) (σ:St) (H:Hp) (Q:Bool->Hp->Prop),Inv X aU σ H s->t σ H Q ->
  wpAny (model X.prog X.w) X.A (forIn ifs true λc r=>if r=true then do let ok ← isTrue c X.env (eval c X.env);pure (ForInStep.yield ok) else pure (ForInStep.yield r)) (TP X aU σ Q) X.xe s
theorem zbis:PIf X [] tYes:=λaU s σ H Q I h=>wpAny_tests_nil ⟨H,I,h⟩
theorem zbir   (h:PT X c t):PIf X [c] t:=λaU s σ H Q I hq=>wpAny_tests_one (h aU s σ H Q I hq)
section
variable {X:Cx}{tg:Expr}{iter:Expr}{elt:Expr}{ifs:List Expr}{g:TG}{tc:TT}{te:TE}{N:List Str}{k:Nat}{is:List Nat}{scope:Scope}{pos:Pos}
theorem zwi (hcalm:X.calm=true)(hg:∀cl C fp s H,PG (cxC X N scope cl C fp s H) tg g)(hc:∀cl C fp s H,PIf (cxC X N scope cl C fp s H) ifs tc)(he:∀cl C fp s H,PE (cxC X N scope cl C fp s H) elt te)
  (S:CompScope X N k is scope){aU:List (Addr×Obj)}{σ:St}{H2:Hp}{s2:Shared}{cl:List (Str×Addr)}{it:Addr}{fp:List Addr}{tn:Nat->Heap->Prop}{J:It}{Q:VK}{E:Value->Shared->Prop}{RR:Value->Addr->Result->Shared->Prop}
  (I2:Inv X aU σ H2 s2)(T:Turn X.prog X.w X.K tg J fp it tn)(st2:tn 0 s2.heap)(f2:∀b∈fp,FpOk X aU H2 b)
  (c1:∀x c,cl.lookup x=some c->X.env.cells.lookup x=some c)(c2:∀x,(x,NameKind.free)∈scope.names->∃c,cl.lookup x=some c)
  (h:∀p,H2 p=none->∃W:Nat->Nat->St->Hp->Prop,(∃m,W 0 m (startC k is σ) (upd H2 p (.lst []))) /\
   ∀i m σ' H',W i m σ' H'->(J.stop i H'/\Q (.ref p) H')\/(J.go i H'/\∃N:St->Hp->Prop,(∀σ2 H2,N σ2 H2->∃m',m' < m/\W (i+1) m' σ2 H2)/\∀x H2,J.yld i H' x H2->g x σ' H2 (nxC p te tc N)))
  (hR:∀(p C:Addr) (s':Shared) (H':Hp) (m:Str->Option Value),OffC X aU H' C->s'.heap.Ns C m->Inv X aU σ H' s'->Q (.ref p) H'->RR (.ref p) C (.ok .next) s') :
  wpAny (model X.prog X.w) X.A (newList []) (λacc s₃=>wpAny (model X.prog X.w) X.A (newFunctionEnv scope X.env.globals cl [] X.env.qual none .none (some X.env)) (λcenv s₄ =>
   codeAny (model X.prog X.w) X.A (.compStart (.ListComp elt [⟨tg,iter,ifs,0⟩] scope pos) 0 (.ref it) acc {cenv with scope:=relabel scope X.env}) (RR acc cenv.locals) s₄) E s₃) E s2:=by
 refine xep ?_;have fresh:H2 s2.heap.objs.size=none:=I2.fresh;have I3:Inv X aU σ (upd H2 s2.heap.objs.size (.lst [])) { s2 with heap:=s2.heap.push { cls:=.type "list", dict:=none,data:=.seq ([]:List Value).toArray } }:=I2.lnew (t':=s2.toks) (.nil) (by decide)
 generalize hs3:({ s2 with heap:=s2.heap.push { cls:=.type "list", dict:=none,data:=.seq ([]:List Value).toArray } }:Shared)=s3 at I3
 have k3:∀b o,s2.heap.get? b=some o->s3.heap.get? b=some o:=λb o e=>by rw[← hs3];exact xbn _ e
 refine wpAny_newFunctionEnv S.nocell (by intro y hy;simp at hy) (λh₁ hns₁ hsb₁=>?_) S.kind;have st3:tn 0 s3.heap:=T.keep _ _ _ st2 λb _ o e=>k3 b o e
 have f3:∀b∈fp,FpOk X aU (upd H2 s2.heap.objs.size (.lst [])) b:=λb hb=>by
  obtain⟨o,e,_⟩:=T.obj _ _ st2 b hb;exact⟨by rw[zt (xci (xbx e))];exact(f2 b hb).1,(f2 b hb).2⟩
 have k4:∀b o,s3.heap.get? b=some o->h₁.get? b=some o:=λb o e=>hsb₁.extBut b o (xci (xbx e)) (xbn _ e)
 have J4:=zbfi (tk:=s3.toks+([]:List (Str×Value)).length) S I3 c1 c2 f3 (λb hb=>let ⟨o,e,_⟩:=T.obj _ _ st3 b hb;⟨o,e⟩) hns₁ k4;obtain⟨W,⟨m0,w0⟩,turn⟩:=h s2.heap.objs.size fresh;have st4:tn 0 h₁:=T.keep _ _ _ st3 λb _ o e=>k4 b o e
 have loop:codeAny (model X.prog X.w) X.A (.compLoop (.ListComp elt [⟨tg,iter,ifs,0⟩] scope pos) 0 (.ref it) (.ref s2.heap.objs.size) (compEnvC scope cl s3.heap.objs.size X.env)) (RR (.ref s2.heap.objs.size) s3.heap.objs.size) {s3 with heap:=h₁,toks:=s3.toks+([]:List (Str×Value)).length}:=by
  have stat:∀{H':Hp},(∀b∈fp,H' b=none)->∀b∈fp,FpOk (cxC X N scope cl s3.heap.objs.size fp s3 (upd H2 s2.heap.objs.size (.lst []))) [] H' b:=λ{H'} hn b hb=>by
   obtain⟨o,e,_⟩:=T.obj _ _ st3 b hb;refine⟨hn b hb,xci (xbx e),J4.ok.exfs b hb,.inl hb,λx c e'=>(f3 b hb).2.2.2.2.1 x c (c1 x c e'),λp hp=>(nomatch hp)⟩
  refine zbal (λn s'=>∃i σ' H',Inv (cxC X N scope cl s3.heap.objs.size fp s3 (upd H2 s2.heap.objs.size (.lst []))) [] σ' H' s'/\tn i s'.heap/\(∀b∈fp,H' b=none)/\W i n σ' H') ?_ m0
   ⟨0,_,_,J4,st4,λb hb=>(f3 b hb).1,w0⟩
  rintro n s5 ⟨i,σ5,H5,I5,st5,fr5,w5⟩;rcases turn i n σ5 H5 w5 with⟨stop,q⟩ | ⟨go,N',hN',step⟩
  ·refine thn (T.done (cxC X N scope cl s3.heap.objs.size fp s3 (upd H2 s2.heap.objs.size (.lst []))) rfl rfl rfl hcalm i [] s5 σ5 H5 _ I5 (stat fr5) st5 stop) λr s6 hq0=>?_
   obtain⟨hr,I6⟩:=hq0;subst hr;obtain⟨m,hm,_⟩:=I6.loc;refine hR _ _ s6 H5 m ⟨I6.free,xjt I3.lt,I3.sz,λx c e=>?_,λp hp=>xci (xbx (I3.pin p hp).1)⟩ hm (zbfj (h':=s6.heap) I3 f3 I6 (.refl ..)) q;obtain⟨v,o,ho,_⟩:=I3.cell x c e;exact xci (xbx ho)
  ·refine thn (T.item (cxC X N scope cl s3.heap.objs.size fp s3 (upd H2 s2.heap.objs.size (.lst []))) rfl rfl rfl hcalm i [] s5 σ5 H5 _ I5 (stat fr5) st5 go) λr s6 hq0=>?_
   obtain⟨u,hr,h6⟩:=hq0;subst hr;refine thn h6 λ_ s7 hq0=>?_
   obtain⟨x,H7,I7,r7,y7,st7,fr7⟩:=hq0;have I7':=I7.pinned (stat fr7) (T.obj _ _ st7);refine thn (hg cl s3.heap.objs.size fp s3 _ _ s7 σ5 H7 x u _ I7' r7 (step x H7 y7)) λ_ s8 hq0=>?_
   obtain⟨σ8,H8,I8,q8⟩:=hq0;refine thn (hc cl s3.heap.objs.size fp s3 _ _ s8 σ8 H8 _ I8 q8) λb s9 hq0=>?_
   obtain⟨H9,I9,q9⟩:=hq0;have again:∀{σ':St} {H':Hp} {s':Shared} {m':Nat},Inv (cxC X N scope cl s3.heap.objs.size fp s3 (upd H2 s2.heap.objs.size (.lst []))) ([]++pinsAt fp s7.heap) σ' H' s'->m' < n->W (i+1) m' σ' H' ->
     ∃m,m < n/\∃i σ' H',Inv (cxC X N scope cl s3.heap.objs.size fp s3 (upd H2 s2.heap.objs.size (.lst []))) [] σ' H' s'/\tn i s'.heap/\(∀b∈fp,H' b=none)/\W i m σ' H':=λ{σ' H' s' m'} I' hm w'=>by
    refine⟨m',hm,i+1,σ',H',I'.unpinned,T.keep _ _ _ st7 λb hb o e=>(I'.pin (b,o) (xde _ (xde _ (zfu hb e)))).1,λb hb=>?_,w'⟩;obtain⟨o,e,d⟩:=T.obj _ _ st7 b hb;exact(I'.pin (b,o) (xde _ (xde _ (zfu hb e)))).2.1
   cases b with
   | false =>
    obtain⟨m',hm,w'⟩:=hN' _ _ q9;exact again I9 hm w'
   | true =>
    refine thn (he cl s3.heap.objs.size fp s3 _ _ s9 σ8 H9 _ I9 q9) λv s10 hq0=>?_
    obtain⟨y,H10,I10,r10,xs,hxs,hz,n10⟩:=hq0;obtain⟨m',hm,w'⟩:=hN' _ _ n10;refine thn (zqk (X:=cxC X N scope cl s3.heap.objs.size fp s3 (upd H2 s2.heap.objs.size (.lst []))) _ s10 σ8 H10 (.ref s2.heap.objs.size) [y] _ [v] (λ_ H'=>H'=upd H10 s2.heap.objs.size (.lst (xs++[y]))) I10 rfl (.cons r10 .nil) ⟨_,xs,y,rfl,rfl,hxs,hz,rfl⟩) λ_ s11 hq0=>?_
    obtain⟨_,H11,I11,_,e11⟩:=hq0;subst e11;exact again I11 hm w'
 have hs3':s2.heap.push { cls:=.type "list", dict:=none,data:=.seq ([]:List Value).toArray }=s3.heap:=by rw[← hs3]
 have fin:=codeAny_compStart_list (elt:=elt) (target:=tg) (iter:=iter) (ifs:=ifs) (rest:=[]) (scope:=scope) (pos:=pos) loop (T.self X.A 0 _ _ _ st4 loop);exact fin
end
theorem zpf {N:List Str}(S:CompScope X N k is scope)     (I:Inv X aU σ H s) :
  ∃cl,closureFor scope X.env=pure cl/\(∀x c,cl.lookup x=some c->X.env.cells.lookup x=some c)/\∀x,(x,NameKind.free)∈scope.names->∃c,cl.lookup x=some c :=
 zwl λy hy hf=>I.ok.has y.1 (S.frees y hy hf)
theorem zbbd {X:Cx}{N:List Str}(hcalm:X.calm=true)(hi:PI X tg iter wi)(hg:∀cl C fp s H,PG (cxC X N scope cl C fp s H) tg g)(hc:∀cl C fp s H,PIf (cxC X N scope cl C fp s H) ifs tc)(he:∀cl C fp s H,PE (cxC X N scope cl C fp s H) elt te)
  (S:CompScope X N k is scope)(hs:∀x,foldedSetIterable iter X.env x=pure x:=by intro _;rfl):PE X (.ListComp elt [⟨tg,iter,ifs,0⟩] scope pos) (tComp wi k is g tc te):=by
 intro aU s σ H Q I h;obtain⟨cl,e,c1,c2⟩:=zpf S I;rw[eval_ListComp];refine wpAny_comprehension_free (use:=none) rfl hs e S.kind S.names (thn (hi aU s σ H _ I h) λxv s1 h1=>thn h1 λitv s2 h2=>?_);obtain⟨it,fp,tn,J,H2,e2,I2,T,st2,f2,h3⟩:=h2;subst e2;refine zwi (Q:=Q) (RR:=λacc C=>compPost (model X.prog X.w) X.A X.xe none (EP X aU σ Q) acc C) hcalm hg hc he S I2 T st2 f2 c1 c2 h3 ?_;intro p C s' H' m off hm I' q;exact⟨m,hm,λh' hs'=>⟨.ref p,H',off.back I' hs',rfl,q⟩⟩
end
section
end
def Callee (P:Program) (w:World) (K:Fg) (mg:Str->Option Value) (base:Heap) (x:Str) (k:Nat) (ps:List Str) (sp:Sp):Prop :=
 ∃f fd,FnOk P w K mg base CX0 k f fd ps sp/\Binds K fd ps []/\W.keepIn K (.ref f)=true/\mg x=some (.ref f)
section
theorem zbef {X:Cx}(c:Callee X.prog X.w X.K X.mg X.base x k ps sp)(hr:Room k X.A)(hg:Gl X x)(ha:PA X (e::es) t)(hdb:(x==("__debug__" : Str))=false:=by decide)
  (he:starEach (e::es) X.env=(false,eval e X.env)::starEach es X.env:=by rfl)(hpl:(backTo pos (starEach es X.env)).any (·.1)=false:=by rfl) :
  PE X (.Call (.Name x p) (e::es) [] pos) (tCall sp [] E0 t):=by
 obtain⟨f,fd,F,b,kp,m⟩:=c;exact zbjb F hr hg m kp b .nil pass0 ha hdb he hpl
end
noncomputable def TopF (K:Fg) (x:Str) (au:Stmt):Prop :=
 ∃f fd,W.nsIn K mainGlobals x=some (some (.ref f))/\Fun K x x au f fd
theorem zbb {K:Fg}{x:Str}{au:Stmt}{f:Addr}{od an:Option Addr}{sl:Array (Option Value)}{oc kV dc pm cd ct:Value}
  (a:W.nsIn K mainGlobals x=some (some (.ref f)))(l:K.lookup f=some ⟨oc,od,.func (W.fnOf x x (defArgs au) (defBody au) (defScope au) .none kV dc pm an cd ct),sl⟩)(c:W.codeIn K cd x=true)(k:W.keepIn K (.ref f)=true):TopF K x au :=
 ⟨f,_,a,zbqb l c k⟩
theorem zqz {P:Program}{w:World}{K:Fg}{mg:Str->Option Value}{base h:Heap}{x:Str}{au:Stmt}{N ps:List Str}{k:Nat}{sp:Sp}(T:TopF K x au)(X:K.In h)(G:h.Ns mainGlobals mg)(S:FnScope N ps (defScope au))
  (bd:∀(kV doc pm:Value) (an:Option Addr) (cdv ct:Value) (us:List Value),us.length=ps.length->bindArgs (W.fnOf x x (defArgs au) (defBody au) (defScope au) .none kV doc pm an cdv ct) ⟨us,[]⟩=pure (ps.zip us))
  (len:∀vs H Q E,sp vs H Q E->vs.length=ps.length)
  (hbody:∀(f:Addr) (cdv:Value) (A:Around) (outer:List Env) (s:Shared) (H:Hp) (vs:List V) (Q:VK) (E:XK),Room k (A.deeper (envOfC x (defScope au) s.heap.objs.size f cdv))->sp vs H Q E ->
   ∃t,PSs (cxOf CX0 P w K mg base N x (defScope au) f cdv A outer s H E).nox (defBody au) t/\t {nx:=λ_ H'=>Q .non H',rt:=Q} (start N vs) H):Callee P w K mg base x (k+1) ps sp:=by
 obtain⟨f,fd,a,F⟩:=T;exact⟨f,fd,F.ok S len (hbody f),F.binds bd,F.kp,xmj X G a⟩
section
theorem zgu:CallR X (.builtin "isinstance") (λxs H Q=>∃ x T t b,xs=[x,.ty T]/\TyOf X.K H x t/\W.kitOne X.K t (.type T)=some b/\Q (.bl b) H):=by
 intro aU s σ H xs us Q I r h;obtain⟨x,T,t,b,rfl,ty,e,q⟩:=h;obtain⟨u,w',rfl,ru,rw'⟩:=vals2 r;cases(show w'=Value.type T from rw');exact zzu I ru ty e λtk=>⟨.bl b,H,I.tok tk,rfl,q⟩
noncomputable def CDivP (i j:Int):Prop:=0 < j/\j < 2 ^ 1000
theorem ziq:OpR X (binaryOp .FloorDiv) (rI CDivP λi j=>.int (i / j)):=opI λi j _ _ _ _ _ hc q=>by
 have e:i.fdiv j=i / j:=xmi i (by have:=hc.1;lia);refine floordiv_int (by have:=hc.1;lia) (by rw[e];exact q) (.inl (PyProof.noPylong_of_log2 ?_));have h1:j.natAbs < 2 ^ 1000:=by
  have h2:=hc.1;have h3:=hc.2;have h4:(j.natAbs:Int)=j:=by lia
  have h5:(j.natAbs:Int) < ((2 ^ 1000:Nat):Int):=by
   rw[h4];exact_mod_cast h3
  exact_mod_cast h5
 have h0:j.natAbs≠0:=by have:=hc.1;lia
 have:=(Nat.log2_lt h0).mpr h1;lia
end
section
end
noncomputable def compLook (XN:List Str) (xs:List (Str×NameKind)) (N:List Str) (k:Nat) (is:List Nat) (scope:Scope):Bool :=
 (scope.kind==.function)&&scope.names.all (λy=>y.2 != .cell)&&scope.names.all (λy=>y.2 != .local||scope.names.lookup y.1==some .local) &&
 scope.names.all (λy=>y.2 != .free||(xs.lookup y.1==some .cell||xs.lookup y.1==some .free))&&(N.length==k+is.length) &&
 (List.range is.length).all (λj=>match is[j]?,N[k+j]? with
  | some i,some x=>XN[i]?==some x&&scope.names.lookup x==some .free
  | _,_=>false)
theorem zfd {X:Cx}{N:List Str}    (h:compLook X.N X.env.scope.names N k is scope=true):CompScope X N k is scope:=by
 unfold compLook at h;simp only[xgg,xdn] at h;obtain⟨⟨⟨⟨⟨h1,h2⟩,h3⟩,h4⟩,h5⟩,h6⟩:=h;refine⟨eq_of_beq h1,λy hy e=>?_,λy hy e=>?_,λy hy e=>?_,eq_of_beq h5,λj i e=>?_⟩
 ·have:=h2 y hy;rw[e] at this;simp at this
 ·have:=h3 y hy;rw[e] at this;simp at this;exact this
 ·have:=h4 y hy;rw[e] at this;simp at this;exact this
 ·have hj:j < is.length:=(xbg.mp e).1;have:=h6 j (xcf.mpr hj);rw[e] at this;cases e2:N[k+j]? with
  | none=>rw[e2] at this;cases this
  | some x =>
   rw[e2] at this;simp only[xgg,xha] at this;exact⟨x,rfl,this.1,this.2⟩
theorem zlu:bootBuiltins "len"=some (.builtin "len"):=by decide +kernel
theorem zbrm:bootBuiltins "abs"=some (.builtin "abs"):=by decide +kernel
theorem zbgp:bootBuiltins "min"=some (.builtin "min"):=by decide +kernel
theorem zbrl:bootBuiltins "max"=some (.builtin "max"):=by decide +kernel
theorem zbgo:bootBuiltins "sum"=some (.builtin "sum"):=by decide +kernel
theorem zeu:bootBuiltins "sorted"=some (.builtin "sorted"):=by decide +kernel
theorem zbmk:bootBuiltins "all"=some (.builtin "all"):=by decide +kernel
theorem zei:bootBuiltins "isinstance"=some (.builtin "isinstance"):=by decide +kernel
theorem zbaq:bootBuiltins "int"=some (.type "int"):=by decide +kernel
theorem zbmj:bootBuiltins "bool"=some (.type "bool"):=by decide +kernel
theorem zcz:bootBuiltins "tuple"=some (.type "tuple"):=by decide +kernel
theorem zbmi:bootBuiltins "list"=some (.type "list"):=by decide +kernel
theorem zbrk:bootBuiltins "set"=some (.type "set"):=by decide +kernel
theorem zbda    (h:H p=some o):upd H p o=H:=by
 funext b
 unfold upd;split
 ·subst b;exact h.symm
 ·rfl
section
end
end L2
namespace Srt
open PySem PySem.W PyProof.Rows
section
variable (r:Nat->Nat)
noncomputable def lt (i j:Nat):Bool:=decide (r i < r j)
noncomputable def At (p:Array Nat) (i:Nat):Nat:=r (p.getD i 0)
def Up (p:Array Nat) (n:Nat):Prop:=∀i j,i<=j->j < n->At r p i<=At r p j
end
section
end
section
end
section
noncomputable def midHeap (h:Heap) (d:Addr) (xs:List Value):Heap:=((h.update d (Obj.mapSeq λ_=>(#[]:Array Value))).push (seqObj "tuple" xs.toArray 0)).push (seqObj "list" #[] 0)
theorem zka {h:Heap}    (ne:b≠d)(e:h.get? b=some ob):(midHeap h d xs).get? b=some ob :=
 xbn _ (xbn _ ((Heap.get?_update_ne _ _ _ _ ne).trans e))
def Answers (P:Program) (w:World) (B:Around) (r:Nat->Nat) (xs:List Value) (sg:Shared):Prop :=
 ∃κ,(∀R:SortKind->Shared->Prop,R κ sg->wpAny (model P w) B (keyKind' xs.toArray) R (λ_ _=>False) sg) /\
  ∀i j C,i < xs.length->j < xs.length->C (lt r i j) sg->kas_ask P w B κ xs i j C sg
noncomputable def outOf (xs:List Value) (p:Array Nat):Array Value:=List.toArray (p.toList.map λi=>xs.getD i Value.none)
theorem zye {xs:List Value}(h:xs.length < 2):(xs.toArray.zip xs.toArray).map (·.2)=outOf xs (List.toArray (List.range xs.length)):=by
 unfold outOf
 match xs,h with
 | [],_=>simp
 | [_],_=>simp[xih]
 | _::_::_,h=>exact absurd h (by simp)
end
end Srt
namespace Srt
open PySem PySem.W PyProof.Rows HT
theorem zed:∀a:List Int,lexLt a a=false
 | []=>rfl
 | x::a=>by rw[zcb,if_pos rfl];exact zed a
theorem zhu:∀{a b c:List Int},lexLt a b=true->lexLt b c=true->lexLt a c=true
 | _,[],[],_,h=>by rw[zee] at h;cases h
 | _,_::_,[],_,h=>by rw[zdp] at h;cases h
 | [],[],_::_,h,_=>by rw[zee] at h;cases h
 | _::_,[],_::_,h,_=>by rw[zdp] at h;cases h
 | [],_::_,_::_,_,_=>zch _ _
 | x::a,y::b,z::c,h1,h2=>by
  rw[zcb] at h1 h2 ⊢;by_cases e1:x=y
  ·rw[if_pos e1] at h1;subst e1;by_cases e2:x=z
   ·rw[if_pos e2] at h2 ⊢;exact zhu h1 h2
   ·rw[if_neg e2] at h2 ⊢;exact h2
  ·rw[if_neg e1] at h1;have h1':=xcz h1;by_cases e2:y=z
   ·subst e2;rw[if_neg e1];exact h1
   ·rw[if_neg e2] at h2;have h2':=xcz h2;rw[if_neg (by lia)];exact xbv (by lia)
theorem zmz:∀a b:List Int,lexLt a b=true\/a=b\/lexLt b a=true
 | [],[]=>.inr (.inl rfl)
 | [],_::_=>.inl (zch _ _)
 | _::_,[]=>.inr (.inr (zch _ _))
 | x::a,y::b=>by
  rw[zcb,zcb];by_cases e:x=y
  ·subst e;rw[if_pos rfl,if_pos rfl];rcases zmz a b with h | h | h
   ·exact .inl h
   ·exact .inr (.inl (by rw[h]))
   ·exact .inr (.inr h)
  ·rw[if_neg e,if_neg (λz=>e z.symm)];rcases Int.lt_or_gt_of_ne e with h | h
   ·exact .inl (xbv h)
   ·exact .inr (.inr (xbv h))
theorem zle {a b:List Int}(h:lexLt a b=true):lexLt b a=false:=by
 cases e:lexLt b a with
 | false=>rfl
 | true=>have:=zhu h e;rw[zed] at this;cases this
theorem zwg  (hpq:∀x,p x=true->q x=true):∀{l:List Nat} {y:Nat},y∈l->q y=true->p y=false->l.countP p < l.countP q
 | [],_,h,_,_=>nomatch h
 | x::l,y,h,h1,h2=>by
  have mono:∀l:List Nat,l.countP p<=l.countP q:=λl=>List.countP_mono_left λx _=>hpq x
  rcases xbs.mp h with rfl | h
  ·rw[xia h1,xkf (by rw[h2];decide)];exact xmo (mono l)
  ·have ih:=zwg hpq h h1 h2;by_cases c:p x=true
   ·rw[xia c,xia (hpq x c)];lia
   ·rw[xkf c];by_cases d:q x=true
    ·rw[xia d];lia
    ·rw[xkf d];exact ih
def rank (ks:List (List Int)) (i:Nat):Nat:=(List.range ks.length).countP λk=>lexLt (ks.getD k []) (ks.getD i [])
theorem zmo {ks:List (List Int)}  (hi:i < ks.length)(hj:j < ks.length):lt (rank ks) i j=lexLt (ks.getD i []) (ks.getD j []):=by
 have up:∀{a b:Nat},a < ks.length->lexLt (ks.getD a []) (ks.getD b [])=true->rank ks a < rank ks b:=λ{a b} ha h =>
  zwg (λx hx=>zhu hx h) (xcf.mpr ha) h (zed _)
 cases e:lexLt (ks.getD i []) (ks.getD j []) with
 | true=>exact xbv (up hi e)
 | false =>
  refine xby λh=>?_
  rcases zmz (ks.getD i []) (ks.getD j []) with z | z | z
  ·rw[e] at z;cases z
  ·unfold rank at h;rw[z] at h;exact absurd h (xgq _)
  ·have:=up hj z;lia
section
section
variable {prog:Program}{w:World}{A:Around}{s:Shared}{b:Bool}{Q:Bool->Shared->Prop}
theorem zuz:∀{us ws:List Value} {ns ms:List Int} (i:Nat),IntsAre us ns->IntsAre ws ms->Q (lexLt ns ms) s->KatLex prog w A b (decide (us.length < ws.length)) Q (us.zip ws) i s
 | _,_,_,_,_,.nil,.nil,h=>h
 | _,_,_,_,_,.nil,.cons _ _ _,h=>h
 | _,_,_,_,_,.cons _ _ _,.nil,h=>h
 | _,_,_,_,i,.cons x t (vs:=us) (ns:=ns) r1,.cons y u (vs:=ws) (ns:=ms) r2,h=>by
  rw[zcb] at h;refine kat_cons (wpAny_eqBool_int (kat_go (λe=>kat_yes ?_) λe=>kat_no ?_))
  ·rw[if_pos (eq_of_beq e)] at h;have q:=zuz (i+1) r1 r2 h;have ee:decide ((Value.int x t::us).length < (Value.int y u::ws).length)=decide (us.length < ws.length):=by
    rw[xcb,xcb,xhj];simp
   rw[ee];exact q
  ·rw[if_neg (xfp.mp e)] at h;cases hb:(b&&i==0) with
   | true=>exact oneLt_int h
   | false=>exact kat_one _ _ (PyProof.Rows.lt_int h)
end
end
end Srt
namespace L2
open PySem PySem.Spec PyProof.Rows PySem.W
theorem zpt:∀{as:List Addr} {us:List Value},Vals (as.map V.ref) us->us=as.map Value.ref
 | [],_,.nil=>rfl
 | a::as,_,.cons r t=>by
  rw[show _=Value.ref a from r,zpt t]
  rfl
def TupsAt (K:Fg) (H:Hp) (ps:List (Addr×List Int)):Prop:=∀p∈ps,SqT K H p.1 (p.2.map V.int)
theorem zl {α β:Type}(f:α->β)(d:β){l:List α}{i:Nat}{x:α}(h:l[i]?=some x):(l.map f).getD i d=f x:=by
 rw[xbj,xco,h]
 rfl
section
end
end L2
namespace L2
open PySem PySem.Spec PyProof.Rows
mutual
inductive DAt (K:Fg) (H:Hp):V->PyData->Prop
 | non:DAt K H .non .none
 | bl (b:Bool):DAt K H (.bl b) (.bool b)
 | int (i:Int):DAt K H (.int i) (.int i)
 | str (x:Str):DAt K H (.str x) (.str x)
 | lst {a:Addr} {xs:List V} {ds:List PyData}:SqL K H a xs->DAll K H xs ds->DAt K H (.ref a) (.list ds)
 | tup {a:Addr} {xs:List V} {ds:List PyData}:SqT K H a xs->DAll K H xs ds->DAt K H (.ref a) (.tuple ds)
inductive DAll (K:Fg) (H:Hp):List V->List PyData->Prop
 | nil:DAll K H [] []
 | cons {x:V} {xs:List V} {d:PyData} {ds:List PyData}:DAt K H x d->DAll K H xs ds->DAll K H (x::xs) (d::ds)
end
section
section
variable {X:Cx}{aU:List (Addr×Obj)}{σ:St}{H:Hp}{s:Shared}
mutual
theorem zio (I:Inv X aU σ H s):∀{v:V} {d:PyData} {u:Value},DAt X.K H v d->RelV v u->∃as,Reads s.heap u d as
 | _,_,_,.non,r=>by cases r;exact⟨_,.none⟩
 | _,_,_,.bl b,r=>by cases r;exact⟨_,.bool b⟩
 | _,_,_,.int i,r=>by obtain⟨t,rfl⟩:=r;exact⟨_,.int i t⟩
 | _,_,_,.str x,r=>by obtain⟨t,rfl⟩:=r;exact⟨_,.str x t⟩
 | _,_,_,.lst h all,r=>by
  cases r;obtain⟨its,rv,⟨o,n,e,c,_,dd⟩,_⟩:=I.list h;obtain⟨as,q⟩:=zgi I all rv;exact⟨_,.list e c dd q⟩
 | _,_,_,.tup h all,r=>by
  cases r;obtain⟨its,rv,⟨o,e,c,n,dd⟩,_⟩:=I.tuple h;obtain⟨as,q⟩:=zgi I all rv;exact⟨_,.tuple e c dd q⟩
theorem zgi (I:Inv X aU σ H s):∀{vs:List V} {ds:List PyData} {us:List Value},DAll X.K H vs ds->Vals vs us->∃as,ReadsAll s.heap us ds as
 | _,_,_,.nil,.nil=>⟨_,.nil⟩
 | _,_,_,.cons h t,.cons r rs=>by
  obtain⟨as,q⟩:=zio I h r;obtain⟨bs,q'⟩:=zgi I t rs;exact⟨_,.cons q q'⟩
end
end
end
def rEqX (K:Fg) (neg:Bool):R2:=λx y H Q=>∃dx dy,DAt K H x dx/\DAt K H y dy/\PySem.SeqAt.shaped dx=true/\PySem.SeqAt.shaped dy=true/\Q (.bl (if neg then !PyData.eqv dx dy else PyData.eqv dx dy)) H
section
section
variable {X:Cx}
theorem zku (hu:X.A.units+64 < cLine):OpR X (compareOp .Eq) (rEqX X.K false):=by
 intro aU s σ H x y v u Q I r1 r2 h;obtain⟨dx,dy,a1,a2,a3,a4,q⟩:=h;obtain⟨as,ra⟩:=zio I a1 r1;obtain⟨bs,rb⟩:=zio I a2 r2;exact eq_dataH ra rb a3 a4 hu ⟨.bl (PyData.eqv dx dy),H,I,rfl,q⟩
theorem zyu (hu:X.A.units+64 < cLine):OpR X (compareOp .NotEq) (rEqX X.K true):=by
 intro aU s σ H x y v u Q I r1 r2 h;obtain⟨dx,dy,a1,a2,a3,a4,q⟩:=h;obtain⟨as,ra⟩:=zio I a1 r1;obtain⟨bs,rb⟩:=zio I a2 r2;exact ne_dataH ra rb a3 a4 hu ⟨.bl (!PyData.eqv dx dy),H,I,rfl,q⟩
end
end
section
theorem zme:∀{bs:List Bool} {us:List Value},Vals (bs.map V.bl) us->us=bs.map Value.bool
 | [],_,.nil=>rfl
 | b::bs,_,.cons r t=>by
  rw[show _=Value.bool b from r,zme t]
  rfl
theorem zyk (bs:List Bool):((List.range bs.length).all λi=>bs.getD i false)=bs.all id:=by
 rw[xhj];simp only[xdn,xcf];constructor
 ·intro h b hb;obtain⟨i,hi,rfl⟩:=xem hb;have:=h i hi;rw[xbj,xbd hi] at this;exact this
 ·intro h i hi;rw[xbj,xbd hi];exact h _ (xda hi)
def rAny (K:Fg) (al:Bool):List V->Hp->VK->Prop:=λxs H Q=>∃(l:Addr) (bs:List Bool),xs=[.ref l]/\SqL K H l (bs.map V.bl)/\Q (.bl (if al then bs.all id else bs.any id)) H
theorem zrl    (bs:List Bool):TruthOf prog w A (λi v=>(bs.map Value.bool).toArray[i]?=some v) (λi=>bs.getD i false):=λi v s Q E hP hQ=>by
 have hP':(bs.map Value.bool)[i]?=some v:=by simpa using hP
 rw[xco] at hP';cases e:bs[i]? with
 | none=>rw[e] at hP';cases hP'
 | some b =>
  rw[e] at hP';cases hP';dsimp only at hQ;rw[xbj,e] at hQ;exact xgp hQ
section
variable {X:Cx}
theorem zbgw (hc:X.calm=true){aU:List (Addr×Obj)}{σ:St}{H:Hp}{s:Shared}{l:Addr}{bs:List Bool}{R:Bool->Prop}(I:Inv X aU σ H s)(hl:SqL X.K H l (bs.map V.bl)){Q:Value->Shared->Prop}{F:(Nat->Bool)->Nat->Bool}
  (hQ:∀s',Inv X aU σ H s'->Q (.bool (F (λi=>bs.getD i false) bs.length)) s') :
  wpAny (model X.prog X.w) X.A.in1 (pyIter (.ref l)) (λit s₂=>∃I fp wr n P St tr,it=.ref I/\Walks X.prog X.w X.A.in1 I fp wr n P St/\St 0 s₂.heap/\TruthOf X.prog X.w X.A.in1 P tr /\
   ∀h' tk,(∀b o,b∉wr->s₂.heap.get? b=some o->h'.get? b=some o)->Q (.bool (F tr n)) {s₂ with heap:=h',toks:=tk}) X.xe s:=by
 obtain⟨its,rv,pl,hz⟩:=I.list hl;have e:=zme rv;subst e;have hlt:l < s.heap.objs.size:=by obtain⟨o,n,e,_⟩:=pl;exact xbx e
 refine xiw pl.isList ?_;refine⟨s.heap.objs.size,_,[s.heap.objs.size],_,_,_,_,rfl,Walks.list (A:=X.A.in1) (I.ok.hd hc) _ l (xci hlt) (bs.map Value.bool).toArray,⟨⟨_,xcg _ rfl,rfl,rfl⟩,pl.isList.push _⟩,zrl bs,λh' tk hk=>?_⟩;have e2:(bs.map Value.bool).toArray.size=bs.length:=by simp
 rw[e2];refine hQ _ ?_;refine I.kept (t':=tk) λb o e=>hk b o ?_ (xbn _ e)
 intro z;have z':b=s.heap.objs.size:=by simpa using z
 have z2:=xbx e;rw[z'] at z2;exact absurd z2 (xgq _)
theorem zwn (hc:X.calm=true):CallR X (.builtin "all") (rAny X.K true):=by
 intro aU s σ H xs us Q I r h;obtain⟨l,bs,rfl,hl,q⟩:=h;obtain⟨u,rfl,ru⟩:=vals1 r;cases ru;refine call_all_walk (zbgw (R:=λ_=>True) hc I hl (F:=λtr n=>(List.range n).all tr) λs' I'=>⟨.bl ((List.range bs.length).all λi=>bs.getD i false),H,I',rfl,?_⟩);rw[zyk];exact q
end
end
end L2
namespace Dct
open PySem PySem.W PyProof.Rows
noncomputable def Raw (h:Heap) (d:Addr) (es:Array DictEntry) (ep:Nat):Prop:=∃ob,h.get? d=some ob/\ob.ExactDict/\ob.data=.dict es ep
theorem Raw.kept {h':Heap}    (x:Raw h d es ep)(k:∀ob,h.get? d=some ob->h'.get? d=some ob):Raw h' d es ep :=
 let ⟨ob,e,r⟩:=x;⟨ob,k ob e,r⟩
theorem Raw.lt     (x:Raw h d es ep):d < h.objs.size:=let ⟨_,e,_⟩:=x;xbx e
theorem Raw.is {au:Shared}    (x:Raw au.heap d es ep):au.TypeIs (.ref d) "dict":=let ⟨ob,e,c,_⟩:=x; ⟨ob,e,c.1⟩
section
noncomputable def iterObj (d:Addr) (n ep:Nat):Obj:={ cls:=.type "dict_keyiterator", data:=.fields #[.ref d,.int 0 0,.int n 0,.int ep 0] }
theorem ztr {au:Shared}{W:Value->Shared->Prop}(ns:(d==sysModules)=false)(x:Raw au.heap d es ep)(fin:W (.ref au.heap.objs.size) {au with heap:=au.heap.push (iterObj d es.size ep)}):wpAny (model P w) B (pyIter (.ref d)) W E au:=by
 obtain⟨ob,e,c,dt⟩:=id x;have ty:=x.is;refine xmu ty F.slot_dict_iter (xfa F.slot_dict_iter ty F.entry_dict_iter ?body (F.args_dict_iter_1 _))
 case body =>
  unfold Builtin.«dict.__iter__» Builtin.Dict.dictSlotNone Builtin.Dict.showsAll;refine xba (xba (wpAny_notOrdered_dict ty (xbe ?_)));show wpAny _ _ ((if(d==sysModules)=true then _ else _) >>= _) _ _ au;rw[if_neg (λz=>xft (ns.symm.trans z))];refine xba (xbe (xba (xix e dt (xba (wpAny_dictEpoch e dt (xba (xep (xbe ⟨_,rfl, "dict_keyiterator", _,⟨_,xcg _ rfl,rfl⟩,xfz.lookup,?_⟩))))))))
  exact fin
theorem ztq {au:Shared}{es:Array DictEntry}{W:Option Value->Shared->Prop}  (hi:au.heap.IsKeyIter it d k es.size ep)(x:Raw au.heap d es ep)(hk:es[k]?=some en)
  (fin:∀g:Heap,g.IsKeyIter it d (k+1) es.size ep->Heap.SameBut it au.heap g->W (some en.key) {au with heap:=g}):wpAny (model P w) B (pyNext (.ref it)) W E au:=by
 obtain⟨oi,ei,ci,di⟩:=id hi;obtain⟨ob,e,c,dt⟩:=id x;have lt:k < es.size:=(xmk.mp hk).1;unfold pyNext;refine xba (xku (wpAny_callSpecial?_slot (name:=Str.ofString "__next__") hi.typeIs xfz (xfa xfz hi.typeIs F.entry_dict_keyiterator_next ?body (F.args_dict_keyiterator_next_1 _))))
 case body =>
  refine xba (xbe (xba (xba (xba (xgs hi.typeIs (xbe (xba (xlx ei di ?_))))))));simp only[show Builtin.Dict_items.ownsTuple "dict_keyiterator"=false from by decide,xcq,ite_false]
  show wpAny _ _ (if(Value.ref d==Value.none)=true then _ else _) _ _ au;have nn:¬ (Value.ref d==Value.none)=true:=xft;rw[if_neg nn];refine xba (xbe (xba (xix e dt ?_)));rw[if_neg (by simp)];refine xba (xbe (xba (wpAny_dictEpoch e dt ?_)));rw[if_neg (by simp)];refine xbe ?_;simp only[show ¬ ((k:Int) < 0) from by lia,ite_false,xef,hk];refine xba (xba (xgs hi.typeIs (xbe (xba (wpAny_isOneOf_keyiter hi.typeIs ?_)))));show wpAny _ _ (setField (.ref it) 1 (rawInt ((k:Int)+1)) >>= _) _ _ au;refine xba (xkc ei di (by simp) ?_);have hi':(au.heap.update it (Obj.mapFields (·.setIfInBounds 1 (rawInt ((k:Int)+1))))).IsKeyIter it d (k+1) es.size ep :=
   ⟨_,xfs _ ei (xja (xii di _)),(xmp ..).trans ci,by rw[xii di];simp[rawInt]⟩
  refine xba (xfe (xba (wpAny_isOneOf_keyiter (s:={au with heap:=au.heap.update it (Obj.mapFields (·.setIfInBounds 1 (rawInt ((k:Int)+1))))}) hi'.typeIs ?_)));show wpAny _ _ (pure en.key) _ _ _;exact xbe (xbe ⟨_,rfl,xbe (fin _ hi' (xfc ..))⟩)
theorem zbay {B:Around}{au:Shared}{es:Array DictEntry}{W:Option Value->Shared->Prop}(hh:B.handled=none)(hi:au.heap.IsKeyIter it d k es.size ep)(x:Raw au.heap d es ep)(hk:es.size<=k)
  (fin:∀g:Heap,Heap.ExtBut it au.heap g->W none {au with heap:=g}):wpAny (model P w) B (pyNext (.ref it)) W E au:=by
 obtain⟨oi,ei,ci,di⟩:=id hi;obtain⟨ob,e,c,dt⟩:=id x;unfold pyNext;refine xba (xku (wpAny_callSpecial?_slot (name:=Str.ofString "__next__") hi.typeIs xfz (xfa xfz hi.typeIs F.entry_dict_keyiterator_next ?body (F.args_dict_keyiterator_next_1 _))))
 case body =>
  refine xba (xbe (xba (xba (xba (xgs hi.typeIs (xbe (xba (xlx ei di ?_))))))));simp only[show Builtin.Dict_items.ownsTuple "dict_keyiterator"=false from by decide,xcq,ite_false]
  show wpAny _ _ (if(Value.ref d==Value.none)=true then _ else _) _ _ au;have nn:¬ (Value.ref d==Value.none)=true:=xft;rw[if_neg nn];refine xba (xbe (xba (xix e dt ?_)));rw[if_neg (by simp)];refine xba (xbe (xba (wpAny_dictEpoch e dt ?_)));rw[if_neg (by simp)];refine xbe ?_;simp only[show ¬ ((k:Int) < 0) from by lia,ite_false,xef,xkr hk];refine xba (xba (xgs hi.typeIs (xbe ?_)));show wpAny _ _ (setField (.ref it) 0 .none >>= _) _ _ au;refine xba (xkc ei di (by simp) ?_);show wpAny _ _ (newExc (.type "StopIteration") [] >>= _) _ _ _
  refine xba ?_;simp only[newExc,newTuple];refine xba (xep (xba (m:=firstArgMember _ _) (wpAny_of_eq (a:=Value.none) (by first | rfl | (simp only[firstArgMember];rfl)) (xep ?_ (by size_fits)))) (by size_fits));simp only[raiseNew];refine xba (wpAny_handled ?_);rw[show B.in1.handled=none from hh];refine xba (xbe (wpAny_throw ?_));refine xba (wpAny_isInstance (T:="StopIteration") (b:=true) ?_ isSubtype_stop (xbe (fin _ (((xfc ..).extBut.push _).push _))))
  exact⟨_,xcg _ rfl,rfl⟩
theorem zyi {B:Around}(hh:B.handled=none)(ne:d≠it)(es:Array DictEntry)(ep:Nat) :
  Walks P w B it [it,d] [it] es.size (λi v=>∃en,es[i]?=some en/\v=en.key) (λi h=>h.IsKeyIter it d i es.size ep/\Raw h d es ep) where
 sub:=λb hb=>xbs.mpr (.inl (xbq.mp hb))
 frame:=λ_ _ _ z hk=>⟨z.1.at λo e=>hk it xbp o e,z.2.kept λo e=>hk d (xbm _ (xbq.mpr rfl)) o e⟩
 item:=λi sh W' E' hi z hQ=>by
  have hx:es[i]?=some es[i]:=xdd hi;exact ztq z.1 z.2 hx λg a b=>hQ es[i].key g sh.toks ⟨_,hx,rfl⟩ ⟨a,z.2.kept λo e=>b.extBut d o ne e⟩ λc o hc e=>b.extBut c o (λq=>hc (xbq.mpr q)) e
 done:=λsh W' E' z hQ=>zbay hh z.1 z.2 (xbf _) λg b=>hQ g sh.toks λc o hc e=>b c o (λq=>hc (xbq.mpr q)) e
 self:=λ_ _ _ _ z hQ=>wpAny_pyIter_keyiter z.1 hQ
theorem zbih (ns:(d==sysModules)=false)(es:Array DictEntry)(ep:Nat):KdlSrc P w "dict" d d es.size (λi v=>∃ en,es[i]?=some en/\v=en.key) (λh=>Raw h d es ep) where
 type:=λ_ x=>x.is
 there:=λ_ x=>⟨x.lt,x.lt⟩
 keep:=λ_ _ x hk=>x.kept λo e=>hk d (.inl rfl) o e
 notList:=by decide
 notTuple:=by decide
 hint:=λ_ _ _ _ x hq=>kdl_hint_dict x.is hq
 iter:=λ_ sh hh x=>⟨_,_,λ_ _ hq=>ztr ns x hq,zyi hh (xci x.lt) es ep,⟨⟨_,xcg _ rfl,rfl,rfl⟩,x.kept λo e=>xbn _ e⟩⟩
end
end Dct
namespace Srt
open PySem PySem.W PyProof.Rows
section
end
end Srt
namespace L2
open PySem PySem.Spec PyProof.Rows
theorem ObjOk.ob       (x:ObjOk P w H h a o):∃ob,h.get? a=some ob:=by
 cases o with
 | lst xs=>obtain⟨_,_,_,_,e⟩:=x;exact⟨_,e⟩
 | tup xs=>obtain⟨_,_,_,ob,e,_⟩:=x;exact⟨_,e⟩
 | dK kvs=>obtain⟨_,_,_,_,ob,_,_,e,_⟩:=x;exact⟨_,e⟩
 | dT kvs=>obtain⟨_,_,_,_,ob,_,_,e,_⟩:=x;exact⟨_,e⟩
 | set S n=>obtain⟨ob,_,_,_,e,_⟩:=x;exact⟨_,e⟩
 | ins C dx fs=>obtain⟨_,_,_,e,_⟩:=x;exact⟨_,e⟩
 | own y=>obtain⟨_,e⟩:=x;exact⟨_,e⟩
 | xd fs=>obtain⟨_,⟨_,_,_,e,_⟩,_⟩:=x;exact⟨_,e⟩
 | rng lo hi=>obtain⟨_,_,_,e⟩:=x;exact⟨_,e⟩
 | frz ob u=>obtain⟨e,_⟩:=x;exact⟨_,e⟩
 | tbl ps=>exact⟨_,(show h.get? a=some _ from x)⟩
 | met f y=>exact⟨_,(show h.get? a=some _ from x)⟩
 | ext φ=>obtain⟨_,⟨_,e⟩,_⟩:=x;exact⟨_,e⟩
section
theorem Inv.away (I:Inv X aU σ H s)  (ne:∀b ob,s.heap.get? b=some ob->b≠q):H q=none:=by
 cases e:H q with
 | none=>rfl
 | some o =>
  obtain⟨ob,z⟩:=(I.hok q o e).ob;exact absurd rfl (ne q ob z)
theorem Inv.laidN   {g:Heap}  (I:Inv X aU σ H s)(k:∀b u,s.heap.get? b=some u->g.get? b=some u)(ne:∀b ob,s.heap.get? b=some ob->b≠q)(new:ObjOk X.prog X.w (upd H q o) g q o) :
  Inv X aU σ (upd H q o) {s with heap:=g,toks:=t'}:=by
 have hn:=I.away ne;have off:∀{b:Addr} {u:HO},H b=some u->upd H q o b=some u:=λ{b u} e=>by rw[zt (zn e hn)];exact e
 refine I.un ⟨λb u e _ _ _=>k b u e,λb u e _ _ _=>⟨u.slots,k b u e⟩,λb u e n _=>by rw[zt (ne b u e)];exact n,λb u e _=>⟨u,k b u e⟩,λb xs e=>off e,λb ob u e=>off e,λb ps e=>⟨#[],by rw[off e];simp⟩⟩ λb u e=>?_
 by_cases hb:b=q
 ·subst hb;rw[zq] at e;cases e;exact new
 ·rw[zt hb] at e;exact(I.hok b u e).stay (λc v _ z=>k c v z) (λc z=>off z) λc xs z=>off z
end
theorem zbbn (ns:List Int):(ns.map (Sum.inl:Int->Key)).map kV=ns.map V.int:=by rw[xcr];rfl
theorem znk {P:Program}{w:World}{H:Hp}{kvs:List (List Key×V)}:∀{ks:List (List Int)} {xs:List (List Key×Addr×Value)},
  Paired (λ(p:List Key×V) (q:List Key×Addr×Value)=>p.1=q.1/\H q.2.1=some (.tup (p.1.map kV))/\RelV p.2 q.2.2) kvs xs->kvs.map (·.1)=ks.map (λns=>ns.map Sum.inl) ->
   ∃ps:List (Addr×List Int),ps.map (·.2)=ks/\(∀p∈ps,H p.1=some (.tup (p.2.map V.int)))/\xs.map (λq=>(entryOfKey (tupleKind (mixKind P w)) q).key)=ps.map λp=>Value.ref p.1:=by
 induction kvs with
 | nil =>
  intro ks xs r e;cases r;cases ks with
  | nil=>exact⟨[],rfl,λp hp=>(nomatch hp),rfl⟩
  | cons x ks=>cases e
 | cons kv kvs ih =>
  intro ks xs r e;cases r with
  | cons r rs =>
   cases ks with
   | nil=>cases e
   | cons ns ks =>
    rw[xbu,xbu] at e;injection e with e1 e2
    obtain⟨ps,a1,a2,a3⟩:=ih rs e2;rename_i b _;obtain⟨r1,r2,r3⟩:=r;refine⟨(b.2.1,ns)::ps,by rw[xbu,a1],λp hp=>?_,by rw[xbu,xbu,a3];rfl⟩;rcases xbs.mp hp with z | z
    ·subst z;rw[e1,zbbn] at r2;exact r2
    ·exact a2 p z
open PySem.W in
theorem zbgx    {sg:Shared}{ps:List (Addr×List Int)}(h2:2<=ps.length)
  (tup:∀(i:Nat) (p:Addr×List Int),ps[i]?=some p->∃(us:List Value) (o:Obj) (n:Nat),IntsAre us p.2/\sg.heap.get? p.1=some o/\o.cls=.type "tuple"/\o.data=.seq us.toArray n/\p.2≠[]) :
  Srt.Answers P w B (Srt.rank (ps.map (·.2))) (ps.map λp=>Value.ref p.1) sg:=by
 refine⟨tuples' true,λR hq=>?_,λi j C hi hj hC=>?_⟩
 ·have kt:∀(l:List (Addr×List Int)),(∀p∈l,∃i:Nat,ps[i]?=some p)->∃fs:List Value,KatTups sg.heap (l.map λp=>Value.ref p.1) fs/\fs.length=l.length/\∀v∈fs,∃i t,v=Value.int i t:=λl=>by
   induction l with
   | nil=>intro _;exact⟨[],KatTups.nil,rfl,λv hv=>(nomatch hv)⟩
   | cons p l ih =>
    intro hp;obtain⟨fs,b1,b2,b3⟩:=ih λp' hp'=>hp p' (xbm _ hp')
    obtain⟨i,hi⟩:=hp p xbp;obtain⟨us,o,n,a1,a2,a3,a4,a5⟩:=tup i p hi;obtain⟨pa,pn⟩:=p;dsimp only at a1 a2 a3 a4 a5;cases a1 with
    | nil=>exact absurd rfl a5
    | cons x t r=>exact⟨Value.int x t::fs,KatTups.cons a2 a3 a4 rfl b1,by rw[xcb,xcb,b2],λv hv=>(xbs.mp hv).elim (λz=>⟨x,t,z⟩) (b3 v)⟩
  obtain⟨fs,b1,b2,b3⟩:=kt ps λp hp=>List.mem_iff_getElem?.mp hp
  exact kat_kind (T:=.type "int") b1 (by lia) (λv hv=>by
   obtain⟨i,t,rfl⟩:=b3 v hv
   exact Looks.of_pure rfl) rfl hq
 ·rw[xbb] at hi hj;have ei:ps[i]?=some ps[i]:=xbd hi;have ej:ps[j]?=some ps[j]:=xbd hj;obtain⟨us,o,n,a1,a2,a3,a4,a5⟩:=tup i _ ei;obtain⟨us2,o2,n2,c1,c2,c3,c4,c5⟩:=tup j _ ej;unfold kas_ask;rw[zl (λp:Addr×List Int=>Value.ref p.1) _ ei,zl (λp:Addr×List Int=>Value.ref p.1) _ ej];refine kat_lt a2 a4 c2 c4 (Srt.zuz 0 a1 c1 ?_);rw[Srt.zmo (by rw[xbb];exact hi) (by rw[xbb];exact hj),zl (λp:Addr×List Int=>p.2) _ ei,zl (λp:Addr×List Int=>p.2) _ ej] at hC;exact hC
theorem zub {ps:List (Addr×List Int)}{p:Array Nat}(p1:p.Perm (List.toArray (List.range ps.length)))(p2:Srt.Up (Srt.rank (ps.map (·.2))) p ps.length) :
  ∃qs:List (Addr×List Int),qs.Perm ps/\(qs.map (·.2)).Pairwise (λx y=>HT.lexLt y x=false)/\Srt.outOf (ps.map λp=>Value.ref p.1) p=(qs.map λp=>Value.ref p.1).toArray:=by
 have hps:p.size=ps.length:=by rw[p1.size_eq];simp
 have sm:∀i∈p.toList,i < ps.length:=λi hi=>by
  have h3:=(p1.mem_iff (a:=i)).mp (by rw[← xlc];exact hi);exact xcf.mp (List.mem_toArray.mp h3)
 refine⟨p.toList.map λi=>ps.getD i (0,[]),?_,?_,?_⟩
 ·have e1:p.toList.Perm (List.range ps.length):=by
   have:=xfn.mp p1
   simpa using this
  have e2:=e1.map λi=>ps.getD i (0,[])
  have e3:((List.range ps.length).map λi=>ps.getD i (0,[]))=ps:=by
   apply xna
   ·simp
   ·intro i h1 h2;simp[xbj,h2]
  rw[e3] at e2;exact e2
 ·rw[xcr,xfb];intro i j hi hj hij;rw[xkv,xkv];rw[xbb] at hi hj;have hi':i < p.size:=by simpa using hi
  have hj':j < p.size:=by simpa using hj
  have hu:=p2 i j (xca hij) (by lia);have g:∀k,(hk:k < p.toList.length)->p.getD k 0=p.toList[k]:=λk hk=>by
   have hk':k < p.size:=by simpa using hk
   rw[xcw,xdd hk'];simp
  have si:=sm _ (xda hi);have sj:=sm _ (xda hj);have lk:=Srt.zmo (ks:=ps.map (·.2)) (i:=p.toList[j]) (j:=p.toList[i]) (by rw[xbb];exact sj) (by rw[xbb];exact si);have hno:Srt.lt (Srt.rank (ps.map (·.2))) p.toList[j] p.toList[i]=false:=by
   refine xby λz=>?_
   unfold Srt.At at hu;rw[g i hi,g j hj] at hu;lia
  rw[hno] at lk;have v:∀k,k < ps.length->(ps.map (·.2)).getD k []=(ps.getD k (0,[])).2:=λk hk=>by
   have ek:ps[k]?=some ps[k]:=xbd hk;rw[zl (λp:Addr×List Int=>p.2) _ ek,xbj,ek]
   rfl
  rw[v _ sj,v _ si] at lk;exact lk.symm
 ·unfold Srt.outOf;rw[xcr]
  congr 1
  refine xjo λi hi=>?_
  have hi2:=sm i hi;have ei:ps[i]?=some ps[i]:=xbd hi2;rw[zl (λp:Addr×List Int=>Value.ref p.1) _ ei];show _=Value.ref (ps.getD i (0,[])).1;rw[xbj,ei]
  rfl
section
end
section
theorem Inv.freeze    (I:Inv X aU σ H s)(h:H a=some (.dT kvs))(e:s.heap.get? a=some ob):Inv X aU σ (upd H a (.frz ob (.dT kvs))) s:=by
 have off:∀{b:Addr} {u:HO},H b=some u->(∀l,u≠.dT l)->upd H a (.frz ob (.dT kvs)) b=some u:=λ{b u} q n=>by
  rw[zt (by rintro rfl;rw[h] at q;cases q;exact n _ rfl)];exact q
 have z:=I.un (h':=s.heap) (t':=s.toks) (H':=upd H a (.frz ob (.dT kvs))) ⟨λb u q _ _ _=>q,λb u q _ _ _=>⟨u.slots,q⟩,λb u q n _=>by
   rw[zt (by rintro rfl;rw[h] at n;cases n)];exact n,λb u q _=>⟨u,q⟩,λb xs q=>off q (λl z=>by cases z),λb o u q=>off q (λl z=>by cases z),λb ps q=>⟨#[],by rw[off q (λl z=>by cases z)];simp⟩⟩ (λb u q=>by
   by_cases hb:b=a
   ·subst hb;rw[zq] at q;cases q;exact⟨e,(I.hok b _ h).stay (λc v _ r=>r) (λc r=>off r (λl z=>by cases z)) λc xs r=>off r (λl z=>by cases z)⟩
   ·rw[zt hb] at q
    exact(I.hok b u q).stay (λc v _ r=>r) (λc r=>off r (λl z=>by cases z)) λc xs r=>off r (λl z=>by cases z))
 exact z
end
def Itd (a:Addr) (ob:Obj) (kvs:List (List Key×V)) (ps:List (Addr×List Int)):It :=
 ⟨λi H=>i < ps.length/\H a=some (.frz ob (.dT kvs)),λi H x H'=>H'=H/\∃p,ps[i]?=some p/\x=.ref p.1,λi H=>ps.length<=i/\H a=some (.frz ob (.dT kvs))⟩
theorem zxx {P:Program}{w:World}{K:Fg}{tg:Expr}{a it:Addr}{ob:Obj}{kvs:List (List Key×V)}{ps:List (Addr×List Int)}{es:Array DictEntry}{ep:Nat}(ex:ob.ExactDict)(dt:ob.data=.dict es ep)
  (hk:es.toList.map (·.key)=ps.map λp=>Value.ref p.1):Turn P w K tg (Itd a ob kvs ps) [it] it (λi h=>h.IsKeyIter it a i es.size ep) where
 mem:=xbq.mpr rfl
 obj:=λi h au b hb=>by
  have e:b=it:=xbq.mp hb;subst e;obtain⟨o,e,c,d⟩:=au;exact⟨o,e,λv z=>by rw[d] at z;cases z⟩
 keep:=λi h h' au k=>au.at λo e=>k it (xbq.mpr rfl) o e
 item:=by
  intro Y hP hw hK hc i aU s σ H E I hf au hg;subst hP hw hK;obtain⟨hi,hz⟩:=hg;have hsz:es.size=ps.length:=by
   have:=congrArg List.length hk
   rwa [xbb,xbb,xcd] at this
  obtain⟨eo,_⟩:=(show ObjOk Y.prog Y.w H s.heap a (.frz ob (.dT kvs)) from I.hok a _ hz)
  obtain⟨f0,f1,f2,f3,f4,f5⟩:=hf it (xbq.mpr rfl);have hen:es[i]?=some es[i]:=xdd (by lia);have hpi:ps[i]?=some ps[i]:=xbd hi;have hkey:es[i].key=Value.ref ps[i].1:=by
   have q:=congrArg (λl=>l[i]?) hk;simp only[xco,xch,hen,hpi] at q;exact xcv q
  refine Dct.ztq au ⟨ob,eo,ex,dt⟩ hen λg st' sb=>?_
  have I1:Inv Y aU σ H {s with heap:=g}:=I.turned (t':=s.toks) (λb o hb e=>sb.extBut b o hb e) f0 f1 f3 f4 f5;obtain⟨o,e,c,d⟩:=id st';exact⟨_,rfl,zbng (s:={s with heap:=g}) e c d (by decide) ⟨.ref ps[i].1,H,I1,hkey,⟨rfl,ps[i],hpi,rfl⟩,st',λb hb=>(hf b hb).1⟩⟩
 done:=by
  intro Y hP hw hK hc i aU s σ H E I hf au hg;subst hP hw hK;obtain⟨hi,hz⟩:=hg;have hsz:es.size=ps.length:=by
   have:=congrArg List.length hk
   rwa [xbb,xbb,xcd] at this
  obtain⟨eo,_⟩:=(show ObjOk Y.prog Y.w H s.heap a (.frz ob (.dT kvs)) from I.hok a _ hz)
  obtain⟨f0,f1,f2,f3,f4,f5⟩:=hf it (xbq.mpr rfl);exact Dct.zbay (I.ok.hd hc) au ⟨ob,eo,ex,dt⟩ (by lia) λg eb=>⟨rfl,I.turned (t':=s.toks) (λb o hb e=>eb b o hb e) f0 f1 f3 f4 f5⟩
 self:=λ_ _ _ _ _ au h=>wpAny_pyIter_keyiter au h
def iDct (td:TE):TI:=λσ H R=>td σ H λx H1=>∃(a:Addr) (kvs:List (List Key×V)) (ks:List (List Int)),x=.ref a/\H1 a=some (.dT kvs)/\kvs.map (·.1)=ks.map (λns=>ns.map Sum.inl) /\
 ∀(ob:Obj) (ps:List (Addr×List Int)),ps.map (·.2)=ks->(∀p∈ps,H1 p.1=some (.tup (p.2.map V.int)))->R (Itd a ob kvs ps) (upd H1 a (.frz ob (.dT kvs)))
theorem zbiv {X:Cx}{tg l:Expr}{td:TE}(hl:PE X l td):PI X tg l (iDct td):=by
 intro aU s σ H R I h;refine thn (hl aU s σ H _ I h) λv s1 hq0=>?_
 obtain⟨x,H1,I1,r1,q1⟩:=hq0;obtain⟨a,kvs,ks,rfl,hd,ek,q⟩:=q1;cases r1;obtain⟨z,ns,ys,rel,ob,es,ep,e1,e2,e3,e4,e5⟩:=(show ObjOk X.prog X.w H1 s1.heap a (.dT kvs) from I1.hok a _ hd)
 obtain⟨ps,a1,a2,a3⟩:=znk (P:=X.prog) (w:=X.w) rel ek;have hes:es.toList.map (·.key)=ps.map λp=>Value.ref p.1:=by rw[e4,xcr];exact a3
 refine Dct.ztr ns ⟨ob,e1,e2,e3⟩ ?_;have I2:=I1.freeze hd e1;refine⟨s1.heap.objs.size,[s1.heap.objs.size],_,_,_,rfl,I2.kept (t':=s1.toks) λb o e=>xbn _ e,zxx e2 e3 hes,⟨_,xcg _ rfl,rfl,rfl⟩,λb hb=>?_,q ob ps a1 a2⟩;have e:b=s1.heap.objs.size:=xbq.mp hb;subst e;exact I2.fpOk (xbf _) (I2.hok.fresh (xbf _))
section
end
end L2
namespace L2
open PySem PySem.Spec PyProof.Rows PySem.W
noncomputable def TupsG (g:Heap) (ps:List (Addr×List Int)):Prop:=∀ p∈ps, ∃(us:List Value) (o:Obj) (n:Nat),IntsAre us p.2/\g.get? p.1=some o/\o.cls=.type "tuple"/\o.data=.seq us.toArray n
section
theorem zqq {sg:Shared}:∀{ps:List (Addr×List Int)},TupsG sg.heap ps->∃fs:List (Option Value),fs.map Option.isSome=ps.map (λp=>!p.2.isEmpty)/\∀(W:List (Option Value)->Shared->Prop),W fs sg->wpAny (model P w) B ((ps.map λp=>Value.ref p.1).mapM firstOfTuple') W E sg
 | [],_=>⟨[],rfl,λW h=>by rw[xmy,List.mapM_nil];exact xbe h⟩
 | p::ps,h=>by
  obtain⟨fs,f1,f2⟩:=zqq (ps:=ps) λq hq=>h q (xbm _ hq)
  obtain⟨us,o,n,a1,a2,a3,a4⟩:=h p xbp;refine⟨us.toArray[0]?::fs,?_,λW hW=>?_⟩
  ·rw[xbu,xbu,f1]
   congr 1
   obtain⟨pa,pn⟩:=p;dsimp only at a1 ⊢;cases a1 with
   | nil=>rfl
   | cons x t r=>rfl
  ·rw[xbu,List.mapM_cons];have ty:Looks (model P w) sg.heap (typeOf (.ref p.1)) o.cls:=(Looks.ld a2).andThen .now;refine xba ?_;rw[kas_first_eq];refine xba (Looks.here ty ?_);rw[a3,if_neg (by first | decide | simp)];exact xba (listItems_at a2 a4 (xbe (xba (f2 _ (xbe hW)))))
theorem zuw (x y:Value):keyLt' general' x y=oneLt' false x y:=rfl
theorem zbgv {B:Around}{sg:Shared}  (hκ:κ=general'\/κ=oneType')(hu:B.units < cLine)  (ha:TupsG sg.heap [a])(hb:TupsG sg.heap [b])  (hC:C (HT.lexLt a.2 b.2) sg) :
  wpAny (model P w) B (keyLt' κ (.ref a.1) (.ref b.1)) C E sg:=by
 obtain⟨us,o,n,a1,a2,a3,a4⟩:=ha a xbp;obtain⟨us2,o2,n2,b1,b2,b3,b4⟩:=hb b xbp;rcases hκ with rfl | rfl
 ·rw[zuw];exact kat_one _ _ (HT.zmx (items:=us.toArray) (items2:=us2.toArray) ⟨o,a2,a3,n,a4⟩ ⟨o2,b2,b3,n2,b4⟩ a1 b1 hu hC)
 ·rw[keyLt'_oneType,oneLt'_eq];simp only[ite_true];refine xba (wpAny_cRoomFor hu (xba (wpAny_callSpecialIfBound?_slot (T:="tuple") ⟨o,a2,a3⟩ xkz ?_)))
  obtain⟨cls,dd,data,sl⟩:=o;obtain⟨cls2,dd2,data2,sl2⟩:=o2;dsimp only at a3 a4 b3 b4;subst a3 a4 b3 b4;exact call_meets xkz ⟨_,a2,rfl⟩ F.entry_tuple_lt (F.args_tuple_lt_2 _ _) (HT.zha a.1 b.1 us.toArray us2.toArray n n2 dd dd2 sl sl2 a.2 b.2 a1 b1) ⟨a2,b2,xgp hC⟩
theorem zbgy {B:Around}{sg:Shared}  (hu:B.units < cLine)(tup:TupsG sg.heap ps)(emp:∃p∈ps,p.2=[]):Srt.Answers P w B (Srt.rank (ps.map (·.2))) (ps.map λp=>Value.ref p.1) sg:=by
 obtain⟨fs,f1,f2⟩:=zqq (P:=P) (w:=w) (B:=B) (E:=λ_ _=>False) tup;have notAll:¬ (fs.toArray.all λx=>x.isSome)=true:=λz=>by
  have z':fs.all (λx=>x.isSome)=true:=by simpa using z
  obtain⟨p,hp,he⟩:=emp;have m:(!p.2.isEmpty)∈fs.map Option.isSome:=by rw[f1];exact List.mem_map_of_mem (f:=λp:Addr×List Int=>!p.2.isEmpty) hp
  obtain⟨o,ho,e⟩:=xbk.mp m;have:=xdn.mp z' o ho;rw[e,he] at this;cases this
 have cmp:∀{κ:SortKind},κ=general'\/κ=oneType'->∀i j C,i < (ps.map λp=>Value.ref p.1).length->j < (ps.map λp=>Value.ref p.1).length->C (Srt.lt (Srt.rank (ps.map (·.2))) i j) sg->kas_ask P w B κ (ps.map λp=>Value.ref p.1) i j C sg:=λ{κ} hκ i j C hi hj hC=>by
  rw[xbb] at hi hj;have ei:ps[i]?=some ps[i]:=xbd hi;have ej:ps[j]?=some ps[j]:=xbd hj;unfold kas_ask;rw[zl (λp:Addr×List Int=>Value.ref p.1) _ ei,zl (λp:Addr×List Int=>Value.ref p.1) _ ej];rw[Srt.zmo (by rw[xbb];exact hi) (by rw[xbb];exact hj),zl (λp:Addr×List Int=>p.2) _ ei,zl (λp:Addr×List Int=>p.2) _ ej] at hC;have one:∀k,(hk:k < ps.length)->TupsG sg.heap [ps[k]]:=λk hk q hq=>by
   rw[xbq.mp hq];exact tup _ (xda hk)
  exact zbgv hκ hu (one i hi) (one j hj) hC
 by_cases fst:(fs.toArray[0]?.bind id).isSome=true
 ·refine⟨general',λR hR=>?_,cmp (.inl rfl)⟩;rw[kat_kind_eq,xmq,xne];refine xba (xba (f2 _ (xbe ?_)));rw[if_neg notAll,if_pos fst];exact xbe hR
 ·refine⟨oneType',λR hR=>?_,cmp (.inr rfl)⟩;rw[kat_kind_eq,xmq,xne];refine xba (xba (f2 _ (xbe ?_)));rw[if_neg notAll,if_neg fst,oneTypeOnly'_eq,xmq,xne];have ty:∀ v∈(ps.map λp=>Value.ref p.1), ∀ W:Value->Shared->Prop,W (.type "tuple") sg->wpAny (model P w) B (typeOf v) W (λ_ _=>False) sg:=λv hv W hW=>by
   obtain⟨p,hp,rfl⟩:=xbk.mp hv;obtain⟨us,o,n,a1,a2,a3,a4⟩:=tup p hp;have lk:Looks (model P w) sg.heap (typeOf (.ref p.1)) o.cls:=(Looks.ld a2).andThen .now;rw[a3] at lk;exact lk.here hW
  refine xba (xba (xba (kas_mapM (r:=Value.type "tuple") _ ty (xbe ?_))))
  obtain⟨p,hp,_⟩:=emp;obtain⟨p0,rest,rfl⟩:∃p0 rest,ps=p0::rest:=by
   cases ps with
   | nil=>exact nomatch hp
   | cons p0 rest=>exact⟨p0,rest,rfl⟩
  have all:((List.map (λ_=>Value.type "tuple") ((p0::rest).map λp=>Value.ref p.1)).toArray.all λx=>x==Value.type "tuple")=true:=by
   rw[List.all_toArray,xdn];intro x hx;obtain⟨_,_,rfl⟩:=xbk.mp hx
   rfl
  have zero:(List.map (λ_=>Value.type "tuple") ((p0::rest).map λp=>Value.ref p.1)).toArray[0]?=some (Value.type "tuple"):=by simp
  rw[zero];simp only[all,ite_true];exact xbe (xbe hR)
theorem zbcs {B:Around}{sg:Shared}{ps:List (Addr×List Int)}(hu:B.units < cLine)(h2:2<=ps.length)(tup:TupsG sg.heap ps):Srt.Answers P w B (Srt.rank (ps.map (·.2))) (ps.map λp=>Value.ref p.1) sg:=by
 by_cases c:∃p∈ps,p.2=[]
 ·exact zbgy hu tup c
 ·refine zbgx h2 λi p hi=>?_
  have hp:=xbz hi;obtain⟨us,o,n,a1,a2,a3,a4⟩:=tup p hp;exact⟨us,o,n,a1,a2,a3,a4,λz=>c ⟨p,hp,z⟩⟩
end
theorem zif (z:List (Addr×List Int)):Vals (z.map λp=>V.ref p.1) (z.map λp=>Value.ref p.1):=by
 induction z with
 | nil=>exact .nil
 | cons x z ih=>exact .cons rfl ih
section
end
end L2
namespace TS
open PySem PyProof.Rows
noncomputable def kA (R:Keyed->Nat) (xs:Array Keyed) (i:Nat):Nat:=match xs[i]? with
 | some p=>R p
 | none=>0
theorem zdq    (h:xs[i]?=ys[j]?):kA R xs i=kA R ys j:=by unfold kA;rw[h]
theorem zdy     (h:xs[i]?=some x):kA R xs i=R x:=by unfold kA;rw[h]
def UpA (R:Keyed->Nat) (xs:Array Keyed) (a b:Nat):Prop:=∀i j,a<=i->i<=j->j < b->kA R xs i<=kA R xs j
def DnA (R:Keyed->Nat) (xs:Array Keyed) (a b:Nat):Prop:=∀i j,a<=i->i<=j->j < b->kA R xs j<=kA R xs i
section
noncomputable def Orc (prog:Program) (w:World) (A:Around) (s:Shared) (κ:SortKind) (a₀:Array Keyed) (R:Keyed->Nat):Prop :=
 ∀x,x∈a₀.toList->∀y,y∈a₀.toList->∀(C:Bool->Shared->Prop),C (decide (R x < R y)) s->wpAny (model prog w) A (keyLt' κ x.1 y.1) C (λ_ _=>False) s
structure B (κ:SortKind) (a₀:Array Keyed) (au:SortSt):Prop where
 perm:(arrOf au).Perm a₀
 kind:kindOf au=κ
 failed:failedOf au=none
section
variable {κ:SortKind}{a₀:Array Keyed}
theorem B.size {au:SortSt}(h:B κ a₀ au):(arrOf au).size=a₀.size:=h.perm.size_eq
theorem B.set {au:SortSt}(h:B κ a₀ au){xs:Array Keyed}(hp:xs.Perm (arrOf au)):B κ a₀ (setArr au xs):=⟨hp.trans h.perm,h.kind,h.failed⟩
theorem B.mem {au:SortSt}(h:B κ a₀ au){i:Nat}(hi:i < a₀.size):∃x,(arrOf au)[i]?=some x/\x∈a₀.toList:=by
 have hi':i < (arrOf au).size:=by rw[h.size];exact hi
 exact⟨_,getElem?_pos _ i hi',(xfn.mp h.perm).mem_iff.mp (by simp)⟩
end
section
variable {prog:Program}{w:World}{A:Around}{E:Value->Shared->Prop}{s:Shared}{κ:SortKind}{a₀:Array Keyed}{R:Keyed->Nat}
theorem w_lt {x y:Keyed}{au:SortSt}{Q:Option Bool->SortSt->Prop}(O:Orc prog w A s κ a₀ R)(hk:kindOf au=κ)(hx:x∈a₀.toList)(hy:y∈a₀.toList)(h:Q (some (decide (R x < R y))) au):wpS (model prog w) A E s (lt' x y) Q au:=by
 rw[lt'_eq];refine xbl (xie ?_);rw[hk];refine xbl (xky (xku (xfm (O x hx y hy (λb s'=>s'=s/\b=decide (R x < R y)) ⟨rfl,rfl⟩) (λb s' hb=>?_) λ_ _ f=>f.elim)));obtain⟨rfl,rfl⟩:=hb;exact⟨rfl,xbo h⟩
end
section
variable {prog:Program}{w:World}{A:Around}{E:Value->Shared->Prop}{s:Shared}
theorem zmc {arr:Array Keyed}{i:Nat}{x:Keyed}{au:SortSt}{Q:Keyed->SortSt->Prop}(e:arr[i]?=some x)(h:Q x au):wpS (model prog w) A E s (elem' arr i) Q au:=by
 rw[elem'_eq,e];exact xbo h
end
section
variable {prog:Program}{w:World}{A:Around}{E:Value->Shared->Prop}{s:Shared}{κ:SortKind}{a₀:Array Keyed}{R:Keyed->Nat}
theorem zns {i j:Nat}{au:SortSt}{Q:Option Bool->SortSt->Prop}(O:Orc prog w A s κ a₀ R)(b:B κ a₀ au)(hi:i < a₀.size)(hj:j < a₀.size)(h:Q (some (decide (kA R (arrOf au) i < kA R (arrOf au) j))) au):wpS (model prog w) A E s (ltAt' i j) Q au:=by
 obtain⟨x,e1,m1⟩:=b.mem hi;obtain⟨y,e2,m2⟩:=b.mem hj;rw[zdy e1,zdy e2] at h;rw[ltAt'_eq];exact xbl (xie (xbl (zmc e1 (xbl (zmc e2 (w_lt O b.kind m1 m2 h))))))
end
section
variable {prog:Program}{w:World}{A:Around}{E:Value->Shared->Prop}{s:Shared}
theorem zxr {i j:Nat}{au:SortSt}{Q:Unit->SortSt->Prop}(h:Q () (setArr au (mirror (arrOf au) i j ((j - i) / 2)))):wpS (model prog w) A E s (reverseSlice' i j) Q au:=by
 rw[reverseSlice'_eq];exact xhb h
theorem zbnj {i j:Nat}{au:SortSt}{Q:Unit->SortSt->Prop}(h:Q () (setArr au (bubble (arrOf au) i (i - j)))):wpS (model prog w) A E s (moveDown' i j) Q au:=by
 rw[moveDown'_eq];exact xhb h
end
theorem zbhg {lo x n N:Nat}(h:x < n)(hn:lo+n<=N):lo+x < N:=xbh (xen h lo) hn
theorem zbhf {lo x n N:Nat}(h:x < n)(hn:lo+n<=N):lo+x - 1 < N:=xdg (xgn _ _) (zbhg h hn)
theorem zvh {lo n:Nat}(h:1<=n):lo+n - 1 < lo+n:=xij (xbh h (xng _ _)) Nat.one_pos
theorem zbne {j lo n:Nat}(h:j < lo+(n+1))(e:¬j=lo+n):j < lo+n:=xdh (xcs h) e
theorem zbjw  (c2:k < j):i<=i+j - 1 - k:=Nat.le_sub_of_add_le (xdl (xen c2 i))
theorem zbjx  (c1:i<=k)(c2:k < j):i+j - 1 - k < j:=xdg (xgv c1 _) (by rw[Nat.sub_right_comm,xdc];exact xij (xkl c2) Nat.one_pos)
theorem zlh {xs:Array Keyed}  (hj:j<=xs.size)(k:Nat):kA R (mirror xs i j ((j - i) / 2)) k=if i<=k/\k < j then kA R xs (i+j - 1 - k) else kA R xs k:=by
 have e:=getElem?_mirror_all (i:=i) hj k;split
 ·rename_i c;rw[if_pos c] at e;exact zdq e
 ·rename_i c;rw[if_neg c] at e;exact zdq e
noncomputable def Out (xs ys:Array Keyed) (a b:Nat):Prop:=∀k,k < a\/b<=k->xs[k]?=ys[k]?
theorem Out.refl (xs:Array Keyed)(a b:Nat):Out xs xs a b:=λ_ _=>rfl
theorem Out.trans   (h1:Out xs ys a b)(h2:Out ys zs a b):Out xs zs a b:=λk hk=>(h1 k hk).trans (h2 k hk)
theorem Out.mirror {xs:Array Keyed}  (hj:j<=xs.size)(hi:a<=i)(hb:j<=b):Out (mirror xs i j ((j - i) / 2)) xs a b:=λk hk=>by
 rw[getElem?_mirror_all (i:=i) hj k,if_neg λz=>hk.elim (λh=>xey (xbc hi z.1) h) λh=>xey (xbc hb h) z.2]
theorem Out.bubble {xs:Array Keyed}  (hs:src < xs.size)(hd:d<=src)(ha:a<=src - d)(hb:src < b):Out (bubble xs src d) xs a b:=λk hk=>by
 rw[getElem?_bubble hs d hd k,if_neg λz=>hk.elim (λh=>xey (xbc ha (xdb z.symm)) h) λh=>xey h (xdg (xbc (xdb z) (xgn _ _)) hb),if_neg λz=>hk.elim (λh=>xey (xbc ha (xca z.1)) h) λh=>xey h (xdg z.2 hb)]
structure Sm (au st':SortSt) (a b:Nat):Prop where
 out:Out (arrOf st') (arrOf au) a b
 pend:pendingOf st'=pendingOf au
section
variable {prog:Program}{w:World}{A:Around}{E:Value->Shared->Prop}{s:Shared}{κ:SortKind}{a₀:Array Keyed}{R:Keyed->Nat}
theorem zbhr {lo a nrem:Nat}{au:SortSt}{Q:Option (Option Nat)×Nat->SortSt->Prop}(O:Orc prog w A s κ a₀ R)(b:B κ a₀ au)(hn:lo+nrem<=a₀.size)(ha:1<=a)(han:a<=nrem)(hs:UpA R (arrOf au) lo (lo+a))
  (h:∀n,a<=n->n<=nrem->UpA R (arrOf au) lo (lo+n)->(n=nrem\/kA R (arrOf au) (lo+n) < kA R (arrOf au) (lo+n - 1))->Q (none,n) au) :
  wpS (model prog w) A E s (forIn [a:nrem] ((none,a):Option (Option Nat)×Nat) λ_ r=>do
   let x ← ltAt' (lo+r.2) (lo+r.2 - 1)
   match x with
   | some smaller=>if smaller=true then pure (ForInStep.done (none,r.2)) else pure (ForInStep.yield (none,r.2+1))
   | _=>pure (ForInStep.done (some none,r.2))) Q au:=by
 refine xdy (I:=λx c st'=>st'=au/\c=(none,x)/\UpA R (arrOf au) lo (lo+x)) ?_ ?_ ⟨rfl,rfl,hs⟩
 ·rintro x c st' h1 h2 ⟨rfl,rfl,h3⟩;dsimp only;refine xbl (zns O b (zbhg h2 hn) (zbhf h2 hn) ?_);by_cases c:kA R (arrOf st') (lo+x) < kA R (arrOf st') (lo+x - 1)
  ·simp only[c,xgm,xes];exact xbo (h x h1 (xca h2) h3 (.inr c))
  ·simp only[c,xgf,xcq,xeh];refine xbo ⟨rfl,rfl,λi j hi hij hj=>?_⟩;by_cases e:j=lo+x
   ·subst e;by_cases e2:i=lo+x
    ·rw[e2];exact xbf _
    ·exact xbc (h3 i (lo+x - 1) hi (xdl (xdh hij e2)) (zvh (xbc ha h1))) (xcj c)
   ·exact h3 i j hi hij (zbne hj e)
 ·rintro c st' ⟨rfl,rfl,h3⟩;rw[xnb han] at h3 ⊢;exact h nrem han (xbf _) h3 (.inl rfl)
end
theorem ziy {xs:Array Keyed}{i j:Nat}(hj:j<=xs.size)(he:∀k,i<=k->k < j->kA R xs k=kA R xs (j - 1))(k:Nat):kA R (mirror xs i j ((j - i) / 2)) k=kA R xs k:=by
 rw[zlh hj];split
 ·rename_i c;rw[he _ (zbjw c.2) (zbjx c.1 c.2),he k c.1 c.2]
 ·rfl
structure Fl (κ:SortKind) (a₀:Array Keyed) (R:Keyed->Nat) (st₀ au:SortSt) (lo n neq b:Nat):Prop where
 base:B κ a₀ au
 same:Sm st₀ au lo b
 dn:DnA R (arrOf au) lo (lo+n)
 hq:neq+1<=n
 eqs:∀i,lo+n - (neq+1)<=i->i < lo+n->kA R (arrOf au) i=kA R (arrOf au) (lo+n - 1)
section
variable {κ:SortKind}{a₀:Array Keyed}{R:Keyed->Nat}
theorem Fl.turn {st₀ au:SortSt}{lo n neq b:Nat}(h:Fl κ a₀ R st₀ au lo n neq b)(hb:lo+n<=b)(hs:b<=a₀.size) :
  Fl κ a₀ R st₀ (setArr au (mirror (arrOf au) (lo+n - (neq+1)) (lo+n) ((lo+n - (lo+n - (neq+1))) / 2))) lo n neq b/\∀k,kA R (mirror (arrOf au) (lo+n - (neq+1)) (lo+n) ((lo+n - (lo+n - (neq+1))) / 2)) k=kA R (arrOf au) k:=by
 have hz:=h.base.size;have hq:=h.hq;have hle:lo+n<=(arrOf au).size:=by rw[hz];exact xbc hb hs
 have e:=ziy (R:=R) (xs:=arrOf au) (i:=lo+n - (neq+1)) (j:=lo+n) hle h.eqs;refine⟨⟨h.base.set (mirror_perm _ _ _ _),⟨(Out.mirror hle (Nat.le_sub_of_add_le (xcn hq lo)) hb).trans h.same.out,h.same.pend⟩,λi j a1 a2 a3=>?_,h.hq,λi a1 a2=>?_⟩,e⟩
 ·show kA R (mirror _ _ _ _) j<=kA R (mirror _ _ _ _) i;rw[e,e];exact h.dn i j a1 a2 a3
 ·show kA R (mirror _ _ _ _) i=kA R (mirror _ _ _ _) _;rw[e,e];exact h.eqs i a1 a2
theorem Fl.less {st₀ au:SortSt}{lo n neq b:Nat}(h:Fl κ a₀ R st₀ au lo n neq b)(c:kA R (arrOf au) (lo+n)<=kA R (arrOf au) (lo+n - 1)):DnA R (arrOf au) lo (lo+(n+1)):=λi j a1 a2 a3=>by
 have hq:=h.hq;by_cases e:j=lo+n
 ·subst e;by_cases e2:i=lo+n
  ·rw[e2];exact xbf _
  ·exact xbc c (h.dn i (lo+n - 1) a1 (xdl (xdh a2 e2)) (zvh (xbc (xng 1 neq) hq)))
 ·exact h.dn i j a1 a2 (zbne a3 e)
theorem Fl.fresh {st₀ au:SortSt}{lo n neq b:Nat}(h:Fl κ a₀ R st₀ au lo n neq b)(c:kA R (arrOf au) (lo+n)<=kA R (arrOf au) (lo+n - 1)):Fl κ a₀ R st₀ au lo (n+1) 0 b:=⟨h.base,h.same,h.less c,xfk (xee _),λi g1 g2=>by
 have:i=lo+(n+1) - 1:=xdz (xcs g2) g1
 rw[this]⟩
theorem Fl.more {st₀ au:SortSt}{lo n neq b:Nat}(h:Fl κ a₀ R st₀ au lo n neq b)(c:kA R (arrOf au) (lo+n)=kA R (arrOf au) (lo+n - 1)):Fl κ a₀ R st₀ au lo (n+1) (neq+1) b:=by
 have hq:=h.hq;refine⟨h.base,h.same,h.less (xdb c),xfk hq,λi g1 g2=>?_⟩;rw[show lo+(n+1) - 1=lo+n from rfl];by_cases e:i=lo+n
 ·rw[e]
 ·rw[c];exact h.eqs i (xbc (xdb (Nat.succ_sub_succ (lo+n) (neq+1)).symm) g1) (zbne g2 e)
end
section
variable {prog:Program}{w:World}{A:Around}{E:Value->Shared->Prop}{s:Shared}{κ:SortKind}{a₀:Array Keyed}{R:Keyed->Nat}
theorem zbhq {lo nrem:Nat}{au:SortSt}{Q:Option Nat->SortSt->Prop}(O:Orc prog w A s κ a₀ R)(b:B κ a₀ au)(hn:lo+nrem<=a₀.size)(h1:1<=nrem)
  (h:∀m st',1<=m->m<=nrem->B κ a₀ st'->Sm au st' lo (lo+nrem)->UpA R (arrOf st') lo (lo+m)->Q (some m) st'):wpS (model prog w) A E s (countRun' lo nrem) Q au:=by
 have sm0:Sm au au lo (lo+nrem):=⟨Out.refl _ _ _,rfl⟩
 have one:∀xs:Array Keyed,UpA R xs lo (lo+1):=λxs i j a1 a2 a3=>by
  have:i=j:=xdz a2 (xbc (xcs a3) a1);subst this;exact xbf _
 have oneD:∀xs:Array Keyed,DnA R xs lo (lo+1):=λxs i j a1 a2 a3=>by
  have:i=j:=xdz a2 (xbc (xcs a3) a1);subst this;exact xbf _
 rw[countRun'_eq];dsimp only;refine xbl (zbhr O b hn (xbf _) h1 (one _) λn n1 n2 hu hlast=>?_);dsimp only;split
 ·exact xbo (h n au n1 n2 b sm0 hu)
 rename_i hne;have hne':n≠nrem:=λz=>hne (by simp[z])
 have hlt:n < nrem:=xdh n2 hne';have hl:kA R (arrOf au) (lo+n) < kA R (arrOf au) (lo+n - 1):=by
  rcases hlast with z | z
  ·exact absurd z hne'
  ·exact z
 have hz:=b.size;have fin:∀(n:Nat) (st1:SortSt),B κ a₀ st1->Sm au st1 lo (lo+nrem)->1<=n->n<=nrem->DnA R (arrOf st1) lo (lo+n) ->
   B κ a₀ (setArr st1 (mirror (arrOf st1) lo (lo+n) ((lo+n - lo) / 2)))/\Sm au (setArr st1 (mirror (arrOf st1) lo (lo+n) ((lo+n - lo) / 2))) lo (lo+nrem)/\UpA R (mirror (arrOf st1) lo (lo+n) ((lo+n - lo) / 2)) lo (lo+n):=λn st1 b1 sm1 m1 m2 dn1=>by
  have hz:=b1.size;have hm:=xcn m2 lo;have hle:lo+n<=(arrOf st1).size:=by rw[hz];exact xbc hm hn
  refine⟨b1.set (mirror_perm _ _ _ _),⟨(Out.mirror hle (xbf _) hm).trans sm1.out,sm1.pend⟩,λi j a1 a2 a3=>?_⟩;have hi:=xdg a2 a3;rw[zlh hle,zlh hle,if_pos ⟨a1,hi⟩,if_pos ⟨xbc a1 a2,a3⟩];exact dn1 _ _ (zbjw a3) (xgv a2 _) (zbjx a1 hi)
 have eqs:¬ kA R (arrOf au) lo < kA R (arrOf au) (lo+n - 1)->∀k,lo<=k->k < lo+n->kA R (arrOf au) k=kA R (arrOf au) (lo+n - 1):=λc k k1 k2=>by
  have g1:=hu lo k (xbf _) k1 k2;have g2:=hu k (lo+n - 1) k1 (xdl k2) (zvh n1);exact xdz g2 (xbc (xcj c) g1)
 have dnx:∀xs:Array Keyed,(∀k,kA R xs k=kA R (arrOf au) k)->¬ kA R (arrOf au) lo < kA R (arrOf au) (lo+n - 1)->DnA R xs lo (lo+(n+1)):=λxs e c i j a1 a2 a3=>by
  rw[e,e];by_cases e2:j=lo+n
  ·subst e2;by_cases e3:i=lo+n
   ·rw[e3];exact xbf _
   ·rw[eqs c i a1 (xdh a2 e3)];exact xca hl
  ·have jn:=zbne a3 e2;rw[eqs c i a1 (xdg a2 jn),eqs c j (xbc a1 a2) jn];exact xbf _
 split
 ·have hle:lo+n<=(arrOf au).size:=by rw[hz];exact xbc (xcn n2 lo) hn
  refine xbl (zns O b (xbh (xib h1) hn) (zbhf hlt hn) ?_);by_cases c:kA R (arrOf au) lo < kA R (arrOf au) (lo+n - 1)
  ·simp only[c,xgm,xes];exact xbo (h n au n1 n2 b sm0 hu)
  ·simp only[c,xgf,xcq,xeh];refine xbl (zxr ?_);have b1:B κ a₀ (setArr au (mirror (arrOf au) lo (lo+n) ((lo+n - lo) / 2))):=b.set (mirror_perm _ _ _ _);have sm1:Sm au (setArr au (mirror (arrOf au) lo (lo+n) ((lo+n - lo) / 2))) lo (lo+nrem):=⟨Out.mirror hle (xbf _) (xcn n2 lo),rfl⟩
   have dn1:DnA R (arrOf (setArr au (mirror (arrOf au) lo (lo+n) ((lo+n - lo) / 2)))) lo (lo+(n+1)):=dnx _ (ziy hle (eqs c)) c;generalize (setArr au (mirror (arrOf au) lo (lo+n) ((lo+n - lo) / 2)))=st1 at b1 sm1 dn1 ⊢;refine xbl (xky (xiq ⟨rfl,?_⟩));refine xbl (xfy (xdy (I:=λx c st'=>∃neq,c=(none,x,neq)/\Fl κ a₀ R au st' lo x neq (lo+nrem)) (Q:=λc st'=>∃m neq,c=(none,m,neq)/\n+1<=m/\m<=nrem/\Fl κ a₀ R au st' lo m neq (lo+nrem)) ?_ ?_ ?_) ?_)
   ·rintro x c st' a1 a2 ⟨neq,rfl,f⟩;dsimp only;refine xbl (zns O f.base (zbhg a2 hn) (zbhf a2 hn) ?_);by_cases c:kA R (arrOf st') (lo+x) < kA R (arrOf st') (lo+x - 1)
    ·simp only[c,xgm,xes];split
     ·obtain⟨f2,e⟩:=f.turn (xcn (xca a2) lo) hn;refine xbl (zxr (xbo ⟨0,rfl,f2.fresh ?_⟩));refine xca (?_:kA R (mirror _ _ _ _) _ < kA R (mirror _ _ _ _) _);rw[e,e];exact c
     ·exact xbo ⟨0,rfl,f.fresh (xca c)⟩
    ·simp only[c,xgf,xcq,xeh];refine xbl (zns O f.base (zbhf a2 hn) (zbhg a2 hn) ?_);by_cases c2:kA R (arrOf st') (lo+x - 1) < kA R (arrOf st') (lo+x)
     ·simp only[c2,xgm,xes];exact xbo ⟨x,neq,rfl,a1,xca a2,f⟩
     ·simp only[c2,xgf,xcq,xeh];exact xbo ⟨neq+1,rfl,f.more (xdz (xcj c2) (xcj c))⟩
   ·rintro c st' ⟨neq,rfl,f⟩;rw[xnb hlt] at f ⊢;exact⟨nrem,neq,rfl,hlt,xbf _,f⟩
   ·exact⟨0,rfl,b1,sm1,dn1,xfk (xee _),λi g1 g2=>by
     have:i=lo+(n+1) - 1:=xdz (xcs g2) g1
     rw[this]⟩
   ·rintro c st' ⟨m,neq,rfl,a1,a2,f⟩;dsimp only;split
    ·obtain⟨f2,e⟩:=f.turn (xcn a2 lo) hn;refine xbl (zxr (xbl (zxr ?_)));obtain⟨b3,s3,u3⟩:=fin m _ f2.base f2.same (xds a1) a2 f2.dn;exact xbl (zbhr O b3 hn (xds a1) a2 u3 λm' m1 m2 hu' _=>xbo (h m' _ (xbc (xds a1) m1) m2 b3 s3 hu'))
    ·refine xbl (zxr ?_);obtain⟨b3,s3,u3⟩:=fin m _ f.base f.same (xds a1) a2 f.dn;exact xbl (zbhr O b3 hn (xds a1) a2 u3 λm' m1 m2 hu' _=>xbo (h m' _ (xbc (xds a1) m1) m2 b3 s3 hu'))
 ·rename_i hn1;have b1:=b;have sm1:=sm0
  have dn1:DnA R (arrOf au) lo (lo+(n+1)):=dnx _ (λ_=>rfl) (by
   have:n=1:=xdz (xcj hn1) n1;subst this
   simp)
  refine xbl (xky (xiq ⟨rfl,?_⟩));refine xbl (xfy (xdy (I:=λx c st'=>∃neq,c=(none,x,neq)/\Fl κ a₀ R au st' lo x neq (lo+nrem)) (Q:=λc st'=>∃m neq,c=(none,m,neq)/\n+1<=m/\m<=nrem/\Fl κ a₀ R au st' lo m neq (lo+nrem)) ?_ ?_ ?_) ?_)
  ·rintro x c st' a1 a2 ⟨neq,rfl,f⟩;dsimp only;refine xbl (zns O f.base (zbhg a2 hn) (zbhf a2 hn) ?_);by_cases c:kA R (arrOf st') (lo+x) < kA R (arrOf st') (lo+x - 1)
   ·simp only[c,xgm,xes];split
    ·obtain⟨f2,e⟩:=f.turn (xcn (xca a2) lo) hn;refine xbl (zxr (xbo ⟨0,rfl,f2.fresh ?_⟩));refine xca (?_:kA R (mirror _ _ _ _) _ < kA R (mirror _ _ _ _) _);rw[e,e];exact c
    ·exact xbo ⟨0,rfl,f.fresh (xca c)⟩
   ·simp only[c,xgf,xcq,xeh];refine xbl (zns O f.base (zbhf a2 hn) (zbhg a2 hn) ?_);by_cases c2:kA R (arrOf st') (lo+x - 1) < kA R (arrOf st') (lo+x)
    ·simp only[c2,xgm,xes];exact xbo ⟨x,neq,rfl,a1,xca a2,f⟩
    ·simp only[c2,xgf,xcq,xeh];exact xbo ⟨neq+1,rfl,f.more (xdz (xcj c2) (xcj c))⟩
  ·rintro c st' ⟨neq,rfl,f⟩;rw[xnb hlt] at f ⊢;exact⟨nrem,neq,rfl,hlt,xbf _,f⟩
  ·exact⟨0,rfl,b1,sm1,dn1,xfk (xee _),λi g1 g2=>by
    have:i=lo+(n+1) - 1:=xdz (xcs g2) g1
    rw[this]⟩
  ·rintro c st' ⟨m,neq,rfl,a1,a2,f⟩;dsimp only;split
   ·obtain⟨f2,e⟩:=f.turn (xcn a2 lo) hn;refine xbl (zxr (xbl (zxr ?_)));obtain⟨b3,s3,u3⟩:=fin m _ f2.base f2.same (xds a1) a2 f2.dn;exact xbl (zbhr O b3 hn (xds a1) a2 u3 λm' m1 m2 hu' _=>xbo (h m' _ (xbc (xds a1) m1) m2 b3 s3 hu'))
   ·refine xbl (zxr ?_);obtain⟨b3,s3,u3⟩:=fin m _ f.base f.same (xds a1) a2 f.dn;exact xbl (zbhr O b3 hn (xds a1) a2 u3 λm' m1 m2 hu' _=>xbo (h m' _ (xbc (xds a1) m1) m2 b3 s3 hu'))
end
end
section
theorem zql {xs:Array Keyed}  (hs:src < xs.size)(hd:d<=src)(k:Nat):kA R (bubble xs src d) k=if k=src - d then kA R xs src else if src - d < k/\k<=src then kA R xs (k - 1) else kA R xs k:=by
 have e:=getElem?_bubble hs d hd k;split
 ·rename_i c;rw[if_pos c] at e;exact zdq e
 ·rename_i c;rw[if_neg c] at e;split
  ·rename_i c2;rw[if_pos c2] at e;exact zdq e
  ·rename_i c2;rw[if_neg c2] at e;exact zdq e
theorem zlb  (h1:a<=b)(h:b - a<=n - max 0 n):b=a:=by
 rw[Nat.zero_max,xjw] at h;exact xdz (Nat.le_of_sub_eq_zero (Nat.le_zero.mp h)) h1
theorem zbqa  (h:¬l ≥ r):l<=(l+r) / 2:=(Nat.le_div_iff_mul_le xnj).mpr (by rw[Nat.mul_two];exact xcn (xca (xgh h)) l)
theorem zbnf  (h:¬l ≥ r):(l+r) / 2 < r:=(Nat.div_lt_iff_lt_mul xnj).mpr (by rw[Nat.mul_two];exact Nat.add_lt_add_right (xgh h) r)
theorem hf_l  (h:¬l ≥ r)(g:r - l<=k - x):(l+r) / 2 - l<=k - (x+1):=xbc (xdl (xeu (zbqa h) (zbnf h))) (xga g 1)
theorem hf_r  (h:¬l ≥ r)(g:r - l<=k - x):r - ((l+r) / 2+1)<=k - (x+1):=xbc (xgv (xfk (zbqa h)) r) (xga g 1)
theorem zbdt  (h:p < j)(h2:j<=q):j - 1 < q:=xbh (xij (xkl h) Nat.one_pos) h2
section
variable {prog:Program}{w:World}{A:Around}{E:Value->Shared->Prop}{s:Shared}{κ:SortKind}{a₀:Array Keyed}{R:Keyed->Nat}
theorem zbte {lo n ok:Nat}{au:SortSt}{Q:Bool->SortSt->Prop}(O:Orc prog w A s κ a₀ R)(b:B κ a₀ au)(hn:lo+n<=a₀.size)(h1:1<=ok)(h2:ok<=n)(up:UpA R (arrOf au) lo (lo+ok))
  (h:∀st',B κ a₀ st'->Sm au st' lo (lo+n)->UpA R (arrOf st') lo (lo+n)->Q true st'):wpS (model prog w) A E s (binarySort' lo n ok) Q au:=by
 rw[binarySort'_eq]
 refine xbl (xfy (xdy (I:=λk c st'=>c=(none,())/\B κ a₀ st'/\Sm au st' lo (lo+n)/\UpA R (arrOf st') lo (lo+min k n))
  (Q:=λc st'=>c=(none,())/\B κ a₀ st'/\Sm au st' lo (lo+n)/\UpA R (arrOf st') lo (lo+n)) ?_ ?_ ?_) ?_)
 ·rintro k c st' k1 k2 ⟨rfl,b1,sm1,up1⟩;rw[xev (xca k2)] at up1;have hz:=b1.size;have hk:lo+k < a₀.size:=xbh (xen k2 lo) hn
  refine xbl (xfy (xdy (I:=λx c st2=>st2=st'/\∃l r,c=(none,l,r)/\l<=r/\r<=k/\r - l<=k - x/\(∀i,i < l->kA R (arrOf st') (lo+i)<=kA R (arrOf st') (lo+k))/\(∀i,r<=i->i < k->kA R (arrOf st') (lo+k)<=kA R (arrOf st') (lo+i)))
   (Q:=λc st2=>st2=st'/\∃l r,c=(none,l,r)/\l<=k/\(∀i,i < l->kA R (arrOf st') (lo+i)<=kA R (arrOf st') (lo+k))/\(∀i,l<=i->i < k->kA R (arrOf st') (lo+k)<=kA R (arrOf st') (lo+i))) ?_ ?_ ?_) ?_)
  ·rintro x c st2 x1 x2 ⟨rfl,l,r,rfl,g1,g2,g3,g4,g5⟩;dsimp only;by_cases hge:l ≥ r
   ·rw[if_pos hge];have e:l=r:=xdz g1 hge;subst e;exact xbo ⟨rfl,l,l,rfl,g2,g4,g5⟩
   ·have hm:lo+(l+r) / 2 < lo+k:=xen (xbh (zbnf hge) g2) lo;rw[if_neg hge];refine xbl (zns O b1 hk (xiz hm hk) ?_);by_cases c:kA R (arrOf st2) (lo+k) < kA R (arrOf st2) (lo+(l+r) / 2)
    ·simp only[c,xgm,xes];exact xbo ⟨rfl,l,(l+r) / 2,rfl,zbqa hge,xbc (xca (zbnf hge)) g2,hf_l hge g3,g4,λi a1 a2=>xbc (xca c) (up1 _ _ (xcc _ _) (xcn a1 lo) (xen a2 lo))⟩
    ·simp only[c,xgf,xcq,xeh];exact xbo ⟨rfl,(l+r) / 2+1,r,rfl,zbnf hge,g2,hf_r hge g3,λi a1=>xbc (up1 (lo+i) (lo+(l+r) / 2) (xcc _ _) (xcn (xcs a1) lo) hm) (xcj c),g5⟩
  ·rintro c st2 ⟨rfl,l,r,rfl,g1,g2,g3,g4,g5⟩;have e:=zlb g1 g3;subst e;exact⟨rfl,_,_,rfl,g2,g4,g5⟩
  ·exact⟨rfl,0,k,rfl,xee _,xbf _,xbf _,λi hi=>absurd hi (Nat.not_lt_zero _),λi a1 a2=>absurd a2 (xey a1)⟩
  ·rintro c st2 ⟨rfl,l,r,rfl,g1,g2,g3⟩;dsimp only;have hd:lo+k - (lo+k - (lo+l))=lo+l:=Nat.sub_sub_self (xcn g1 lo);have hs:lo+k < (arrOf st2).size:=by rw[hz];exact hk
   refine xbl (zbnj (xbo ⟨rfl,b1.set (bubble_perm _ _ _),⟨(Out.bubble hs (xgn _ _) (by rw[hd];exact xcc _ _) (xen k2 lo)).trans sm1.out,sm1.pend⟩,λi j a1 a2 a3=>?_⟩));show kA R (bubble (arrOf st2) (lo+k) (lo+k - (lo+l))) i<=kA R (bubble (arrOf st2) (lo+k) (lo+k - (lo+l))) j;rw[zql hs (xgn _ _),zql hs (xgn _ _),hd];rw[xev k2] at a3;have hj:j<=lo+k:=xcs a3;have low:∀q,lo<=q->q < lo+l->kA R (arrOf st2) q<=kA R (arrOf st2) (lo+k):=λq q1 q2=>by
    have:=g2 (q - lo) (xea q1 q2);rw[xcm q1] at this;exact this
   have hig:∀q,lo+l<=q->q < lo+k->kA R (arrOf st2) (lo+k)<=kA R (arrOf st2) q:=λq q1 q2=>by
    have q0:=xbc (xcc _ _) q1;have:=g3 (q - lo) (xfg q1) (xea q0 q2);rw[xcm q0] at this;exact this
   by_cases i1:i=lo+l
   ·rw[if_pos i1];by_cases j1:j=lo+l
    ·rw[if_pos j1];exact xbf _
    ·have jj:=xdh (i1 ▸ a2) (xer j1);rw[if_neg j1,if_pos ⟨jj,hj⟩];exact hig _ (xdl jj) (zbdt jj hj)
   ·rw[if_neg i1];by_cases i2:lo+l < i/\i<=lo+k
    ·have jj:=xbh i2.1 a2;rw[if_pos i2,if_neg (xjt jj),if_pos ⟨jj,hj⟩];exact up1 _ _ (xbc (xcc lo l) (xdl i2.1)) (xga a2 1) (zbdt jj hj)
    ·have il:i < lo+l:=xdh (xcj λz=>i2 ⟨z,xbc a2 hj⟩) i1;rw[if_neg i2];by_cases j1:j=lo+l
     ·rw[if_pos j1];exact low i a1 il
     ·rw[if_neg j1];by_cases j2:lo+l < j/\j<=lo+k
      ·rw[if_pos j2];exact up1 _ _ a1 (xdl (xiz il j2.1)) (zbdt j2.1 hj)
      ·rw[if_neg j2];exact up1 _ _ a1 a2 (xbh (xdh (xcj λz=>j2 ⟨z,hj⟩) j1) (xcn g1 lo))
 ·rintro c st' ⟨rfl,b1,sm1,up1⟩;rw[xje (Nat.le_max_right _ _)] at up1;exact⟨rfl,b1,sm1,up1⟩
 ·refine⟨rfl,b,⟨Out.refl _ _ _,rfl⟩,λi j a1 a2 a3=>up i j a1 a2 (xbh a3 (xcn (xbc (xik _ _) (xdb (Nat.max_eq_left h1))) lo))⟩
 ·rintro c st' ⟨rfl,b1,sm1,up1⟩;exact xbo (h st' b1 sm1 up1)
end
noncomputable def gallop':Bool->Keyed->Array Keyed->Nat->Nat->Nat->StateT SortSt Sem (Option Nat):=sortPriv% PySem.Builtin.gallop
def Cut (left:Bool) (R:Keyed->Nat) (key:Keyed) (arr:Array Keyed) (base n h:Nat):Prop:=h<=n/\(∀i,i < h->if left then kA R arr (base+i) < R key else kA R arr (base+i)<=R key)/\(∀i,h<=i->i < n->if left then R key<=kA R arr (base+i) else R key < kA R arr (base+i))
def ahead (left:Bool) (R:Keyed->Nat) (key:Keyed) (arr:Array Keyed) (base i:Nat):Bool:=if left then decide (kA R arr (base+i) < R key) else decide (kA R arr (base+i)<=R key)
section
variable {prog:Program}{w:World}{A:Around}{E:Value->Shared->Prop}{s:Shared}{κ:SortKind}{a₀:Array Keyed}{R:Keyed->Nat}
theorem zmd {left:Bool}{key:Keyed}{arr:Array Keyed}{base i:Nat}{au:SortSt}{Q:Option Bool->SortSt->Prop}(O:Orc prog w A s κ a₀ R)(hk:kindOf au=κ)(mk:key∈a₀.toList)(ma:∃x,arr[base+i]?=some x/\x∈a₀.toList)(h:Q (some (ahead left R key arr base i)) au) :
  wpS (model prog w) A E s (do
   let x ← elem' arr (base+i)
   if left=true then lt' x key else do
    let y ← lt' key x
    pure (Option.map (λx=>!x) y)) Q au:=by
 obtain⟨x,e,m⟩:=ma;refine xbl (zmc e ?_);unfold ahead at h;rw[zdy e] at h;cases left with
 | true =>
  rw[if_pos rfl] at h ⊢;exact w_lt O hk m mk h
 | false =>
  rw[if_neg (by decide)] at h ⊢;refine xbl (w_lt O hk mk m (xbo ?_));have q:(!decide (R key < R x))=decide (R x<=R key):=by
   by_cases c:R key < R x
   ·rw[xbv c,xby (Nat.not_le_of_lt c)];rfl
   ·rw[xby c,xbv (xcj c)];rfl
  show Q (some (!decide (R key < R x))) au;rw[q];exact h
end
theorem zxa     (up:UpA R arr base (base+n))(hij:i<=j)(hj:j < n)(h:ahead left R key arr base j=true):ahead left R key arr base i=true:=by
 have:=up (base+i) (base+j) (xcc _ _) (xcn hij _) (xen hj _);unfold ahead at h ⊢;cases left with
 | true=>rw[if_pos rfl] at h ⊢;exact xbv (xdg this (xcz h))
 | false=>rw[if_neg (by decide)] at h ⊢;exact xbv (xbc this (xcz h))
theorem zblw     (h0:h<=n)(h1:∀i,i < h->ahead left R key arr base i=true)(h2:∀i,h<=i->i < n->ahead left R key arr base i=false):Cut left R key arr base n h:=by
 refine⟨h0,λi hi=>?_,λi a1 a2=>?_⟩
 ·have:=h1 i hi;unfold ahead at this;cases left with
  | true=>rw[if_pos rfl] at this ⊢;exact xcz this
  | false=>rw[if_neg (by decide)] at this ⊢;exact xcz this
 ·have:=h2 i a1 a2;unfold ahead at this;cases left with
  | true=>rw[if_pos rfl] at this ⊢;exact xcj (xmh this)
  | false=>rw[if_neg (by decide)] at this ⊢;exact xgh (xmh this)
theorem zbbw  (c:¬a ≥ b):(b - a) / 2 < b - a:=Nat.div_lt_self (xgc (xgh c)) (xbf 2)
theorem zbpl  (c:¬a ≥ b):a+(b - a) / 2 < b:=xed (zbbw c)
theorem zbhe  (c:¬a ≥ b)(h:b<=n):a+(b - a) / 2 < n:=xbh (zbpl c) h
theorem zbjz  (h:b - a<=n - x):b - (a+(b - a) / 2+1)<=n - (x+1):=xbc (xgv (xfk (xcc a _)) b) (xga h 1)
theorem zbjy  (c:¬a ≥ b)(h:b - a<=n - x):a+(b - a) / 2 - a<=n - (x+1):=by
 rw[xdc];exact xbc (xdl (zbbw c)) (xga h 1)
theorem zblk (o:Nat):o < 2 * o+1:=xmo (xks o xnj)
theorem zbll  (h:x+1<=o):x+1+1<=2 * o+1:=xfk (xbc h (xks o xnj))
theorem zbhz {a b n:Nat}(h:a+b < n):b < n - a:=Nat.lt_sub_of_add_lt (Nat.add_comm a b ▸ h)
inductive GI (f:Nat->Bool) (n:Nat) (au:SortSt) (x:Nat):Option (Option Nat)×Nat×Nat->SortSt->Prop where
 | mk {a b:Nat} (q1:a<=b) (q2:b<=n) (q3:b - a<=n - x) (q4:∀i,i < a->f i=true) (q5:∀i,b<=i->i < n->f i=false):GI f n au x (none,a,b) au
inductive GE (f:Nat->Bool) (n:Nat) (au:SortSt):Option (Option Nat)×Nat×Nat->SortSt->Prop where
 | mk {b:Nat} (q2:b<=n) (q4:∀i,i < b->f i=true) (q5:∀i,b<=i->i < n->f i=false):GE f n au (none,b,b) au
inductive GU (f:Nat->Bool) (n hint:Nat) (P:Nat->Prop) (au:SortSt):Option (Option Nat)×Nat×Nat->SortSt->Prop where
 | mk {l o:Nat} (g1:l < o) (g2:hint+l < n) (g3:f (hint+l)=true) (g4:P o):GU f n hint P au (none,l,o) au
inductive GD (f:Nat->Bool) (hint:Nat) (P:Nat->Prop) (au:SortSt):Option (Option Nat)×Nat×Nat->SortSt->Prop where
 | mk {l o:Nat} (g1:l < o) (g2:l<=hint) (g3:f (hint - l)=false) (g4:P o):GD f hint P au (none,l,o) au
section
variable {prog:Program}{w:World}{A:Around}{E:Value->Shared->Prop}{s:Shared}{κ:SortKind}{a₀:Array Keyed}{R:Keyed->Nat}
theorem zgg {left:Bool}{key:Keyed}{arr:Array Keyed}{base n hint:Nat}{au:SortSt}{Q:Option Nat->SortSt->Prop}(O:Orc prog w A s κ a₀ R)(hk:kindOf au=κ)(mk:key∈a₀.toList)(ma:∀i,i < n->∃x,arr[base+i]?=some x/\x∈a₀.toList)(hh:hint < n)
  (up:UpA R arr base (base+n))(h:∀k,Cut left R key arr base n k->Q (some k) au):wpS (model prog w) A E s (gallop' left key arr base n hint) Q au:=by
 have mono:∀i j,i<=j->j < n->ahead left R key arr base j=true->ahead left R key arr base i=true:=λi j a1 a2=>zxa up a1 a2
 have monoF:∀i j,i<=j->j < n->ahead left R key arr base i=false->ahead left R key arr base j=false:=λi j a1 a2 e=>by
  cases c:ahead left R key arr base j with
  | false=>rfl
  | true=>rw[mono i j a1 a2 c] at e;cases e
 refine xbl (zmd O hk mk (ma hint hh) ?_);dsimp only;cases hr:ahead left R key arr base hint with
 | true =>
  rw[if_pos rfl];refine xbl (xfy (xdy (I:=λx=>GU (ahead left R key arr base) n hint (x+1<=·) au) (Q:=GU (ahead left R key arr base) n hint (λo=>n - hint<=o\/(hint+o < n/\ahead left R key arr base (hint+o)=false)) au) ?_ ?_ ?_) ?_)
  ·rintro x c st' x1 x2 @⟨l,o,g1,g2,g3,g4⟩;dsimp only;by_cases c:o ≥ n - hint
   ·rw[if_pos c];exact xbo (.mk g1 g2 g3 (.inl c))
   ·have c3:hint+o < n:=xed (xgh c);rw[if_neg c];refine xbl (zmd O hk mk (ma (hint+o) c3) ?_);dsimp only;cases c2:ahead left R key arr base (hint+o) with
    | true=>exact xbo (.mk (zblk o) c3 c2 (zbll g4))
    | false=>exact xbo (.mk g1 g2 g3 (.inr ⟨c3,c2⟩))
  ·rintro c st' @⟨l,o,g1,g2,g3,g4⟩;rw[Nat.zero_max] at g4;exact .mk g1 g2 g3 (.inl (xbc (xgn _ _) (xdq g4)))
  ·exact .mk Nat.one_pos hh hr (xbf _)
  ·rintro c st' @⟨l,o,g1,g2,g3,g4⟩;dsimp only;have f1:∀i,i < hint+l+1->ahead left R key arr base i=true:=λi hi=>mono i (hint+l) (xcs hi) g2 g3
   have f2:∀i,hint+min o (n - hint)<=i->i < n->ahead left R key arr base i=false:=λi a1 a2=>by
    rcases g4 with g | ⟨ga,gb⟩
    ·rw[xje g,xcm (xca hh)] at a1;exact absurd a2 (xey a1)
    ·rw[xev (xca (zbhz ga))] at a1;exact monoF (hint+o) i a1 a2 gb
   have f3:hint+l+1<=hint+min o (n - hint):=xcn (Nat.le_min.mpr ⟨g1,zbhz g2⟩) hint;have f4:hint+min o (n - hint)<=n:=xbc (xcn (xfu _ _) hint) (xdb (xcm (xca hh)));generalize hint+l+1=lo at f1 f3 ⊢;generalize hint+min o (n - hint)=hi at f2 f3 f4 ⊢;refine xbl (xfy (xdy (I:=GI (ahead left R key arr base) n au) (Q:=GE (ahead left R key arr base) n au) ?_ ?_ (.mk f3 f4 (xbc (xgn _ _) f4) f1 f2)) ?_)
   ·rintro x c st2 x1 x2 @⟨a,b,q1,q2,q3,q4,q5⟩;dsimp only;by_cases c:a ≥ b
    ·rw[if_pos c];have e:b=a:=xdz c q1;subst e;exact xbo (.mk q2 q4 q5)
    ·rw[if_neg c];refine xbl (zmd O hk mk (ma (a+(b - a) / 2) (zbhe c q2)) ?_);dsimp only;cases c2:ahead left R key arr base (a+(b - a) / 2) with
     | true=>exact xbo (.mk (zbpl c) q2 (zbjz q3) (λi hi=>mono i (a+(b - a) / 2) (xcs hi) (zbhe c q2) c2) q5)
     | false=>exact xbo (.mk (xcc _ _) (xca (zbhe c q2)) (zbjy c q3) q4 λi a1 a2=>monoF (a+(b - a) / 2) i a1 a2 c2)
   ·rintro c st2 @⟨a,b,q1,q2,q3,q4,q5⟩;have e:=zlb q1 q3;subst e;exact .mk q2 q4 q5
   ·rintro c st2 @⟨b,q2,q4,q5⟩;exact xbo (h b (zblw q2 q4 q5))
 | false =>
  rw[if_neg (by decide)];refine xbl (xfy (xdy (I:=λx=>GD (ahead left R key arr base) hint (x+1<=·) au) (Q:=GD (ahead left R key arr base) hint (λo=>hint+1<=o\/(o<=hint/\ahead left R key arr base (hint - o)=true)) au) ?_ ?_ ?_) ?_)
  ·rintro x c st' x1 x2 @⟨l,o,g1,g2,g3,g4⟩;dsimp only;by_cases c:o ≥ hint+1
   ·rw[if_pos c];exact xbo (.mk g1 g2 g3 (.inl c))
   ·rw[if_neg c];refine xbl (zmd O hk mk (ma (hint - o) (xdg (xgn _ _) hh)) ?_);dsimp only;cases c2:ahead left R key arr base (hint - o) with
    | true=>exact xbo (.mk g1 g2 g3 (.inr ⟨xcs (xgh c),c2⟩))
    | false=>exact xbo (.mk (zblk o) (xcs (xgh c)) c2 (zbll g4))
  ·rintro c st' @⟨l,o,g1,g2,g3,g4⟩;rw[Nat.zero_max] at g4;exact .mk g1 g2 g3 (.inl (xbc hh (xdq g4)))
  ·exact .mk Nat.one_pos (xee _) hr (xbf _)
  ·rintro c st' @⟨l,o,g1,g2,g3,g4⟩;dsimp only;have f1:∀i,i < hint+1 - min o (hint+1)->ahead left R key arr base i=true:=λi hi=>by
    rcases g4 with g | ⟨ga,gb⟩
    ·rw[xje g,xjw] at hi;exact absurd hi (Nat.not_lt_zero _)
    ·rw[xev (xgd ga),Nat.succ_sub ga] at hi;exact mono i (hint - o) (xcs hi) (xdg (xgn _ _) hh) gb
   have f2:∀i,hint - l<=i->i < n->ahead left R key arr base i=false:=λi a1 a2=>monoF (hint - l) i a1 a2 g3
   have f3:hint+1 - min o (hint+1)<=hint - l:=xbc (xgv (Nat.le_min.mpr ⟨g1,xfk g2⟩) _) (xdb (Nat.succ_sub_succ hint l));have f4:hint - l<=n:=xbc (xgn _ _) (xca hh);generalize hint+1 - min o (hint+1)=lo at f1 f3 ⊢;generalize hint - l=hi at f2 f3 f4 ⊢;refine xbl (xfy (xdy (I:=GI (ahead left R key arr base) n au) (Q:=GE (ahead left R key arr base) n au) ?_ ?_ (.mk f3 f4 (xbc (xgn _ _) f4) f1 f2)) ?_)
   ·rintro x c st2 x1 x2 @⟨a,b,q1,q2,q3,q4,q5⟩;dsimp only;by_cases c:a ≥ b
    ·rw[if_pos c];have e:b=a:=xdz c q1;subst e;exact xbo (.mk q2 q4 q5)
    ·rw[if_neg c];refine xbl (zmd O hk mk (ma (a+(b - a) / 2) (zbhe c q2)) ?_);dsimp only;cases c2:ahead left R key arr base (a+(b - a) / 2) with
     | true=>exact xbo (.mk (zbpl c) q2 (zbjz q3) (λi hi=>mono i (a+(b - a) / 2) (xcs hi) (zbhe c q2) c2) q5)
     | false=>exact xbo (.mk (xcc _ _) (xca (zbhe c q2)) (zbjy c q3) q4 λi a1 a2=>monoF (a+(b - a) / 2) i a1 a2 c2)
   ·rintro c st2 @⟨a,b,q1,q2,q3,q4,q5⟩;have e:=zlb q1 q3;subst e;exact .mk q2 q4 q5
   ·rintro c st2 @⟨b,q2,q4,q5⟩;exact xbo (h b (zblw q2 q4 q5))
end
end
section
noncomputable abbrev Ord (R:Keyed->Nat) (l:List Keyed):Prop:=l.Pairwise λx y=>R x<=R y
structure SmG (au st':SortSt):Prop where
 arr:arrOf st'=arrOf au
 pend:pendingOf st'=pendingOf au
 kind:kindOf st'=kindOf au
 failed:failedOf st'=failedOf au
theorem SmG.refl (au:SortSt):SmG au au:=⟨rfl,rfl,rfl,rfl⟩
theorem SmG.trans  (x:SmG a b)(y:SmG b c):SmG a c:=⟨y.arr.trans x.arr,y.pend.trans x.pend,y.kind.trans x.kind,y.failed.trans x.failed⟩
noncomputable def mergeLo':Array Keyed->Array Keyed->StateT SortSt Sem (Array Keyed):=sortPriv% PySem.Builtin.mergeLo
noncomputable def mergeHi':Array Keyed->Array Keyed->StateT SortSt Sem (Array Keyed):=sortPriv% PySem.Builtin.mergeHi
structure ML (R:Keyed->Nat) (all out rest:List Keyed):Prop where
 perm:(out++rest).Perm all
 ord:Ord R out
 le:∀x∈out,∀y∈rest,R x<=R y
theorem ML.grow {rest:List Keyed}(m:ML R all out rest)(p:rest.Perm (xs++rest'))(o:Ord R xs)(h:∀x∈xs,∀y∈rest',R x<=R y):ML R all (out++xs) rest':=by
 refine⟨?_,xgb.mpr ⟨m.ord,o,λx hx y hy=>m.le x hx y (p.mem_iff.mpr (xeb _ hy))⟩,λx hx y hy=>?_⟩
 ·rw[xck];exact(xgi out p.symm).trans m.perm
 ·rcases xbr.mp hx with hx | hx
  ·exact m.le x hx y (p.mem_iff.mpr (xde _ hy))
  ·exact h x hx y hy
theorem ML.fin {rest rest':List Keyed}(m:ML R all out rest)(p:rest'.Perm rest)(o:Ord R rest'):(out++rest').Perm all/\Ord R (out++rest') :=
 ⟨(xgi out p).trans m.perm,xgb.mpr ⟨m.ord,o,λx hx y hy=>m.le x hx y (p.mem_iff.mp hy)⟩⟩
theorem Ord.at  (h:Ord R l){i j:Nat}  (hi:l[i]?=some x)(hj:l[j]?=some y)(hij:i<=j):R x<=R y:=by
 obtain⟨h1,e1⟩:=xbg.mp hi;obtain⟨h2,e2⟩:=xbg.mp hj;by_cases c:i=j
 ·subst c;rw[← e1,← e2];exact xbf _
 ·rw[← e1,← e2];exact xfb.mp h i j h1 h2 (xdh hij c)
theorem Ord.drop  (h:Ord R l)(n:Nat):Ord R (l.drop n):=xgj (xkm _ _) h
theorem Ord.take  (h:Ord R l)(n:Nat):Ord R (l.take n):=xgj (xkk _ _) h
theorem zbi {l:List Keyed}   (h:y∈l.drop n):∃j,n<=j/\l[j]?=some y:=by
 obtain⟨i,hi,e⟩:=xem h;refine⟨n+i,xcc _ _,?_⟩;rw[← e,xmr];exact xbd _
theorem zr {l:List Keyed}   (h:y∈l.take n):∃j,j < n/\l[j]?=some y:=by
 obtain⟨i,hi,e⟩:=xem h;have hi2:i < n/\i < l.length:=by rw[xcu] at hi;exact Nat.lt_min.mp hi
 refine⟨i,hi2.1,?_⟩;rw[← e,xms];exact xbd _
theorem zjc {l:List Keyed}{i:Nat}{x:Keyed}(h:l[i]?=some x):l.drop i=x::l.drop (i+1):=by
 obtain⟨h1,rfl⟩:=xbg.mp h;exact xfq h1
theorem zni (l:List Keyed)(i k:Nat):l.drop i=(l.drop i).take k++l.drop (i+k):=by
 rw[← xlu,xdf]
structure Two (R:Keyed->Nat) (la lb:List Keyed):Prop where
 oa:Ord R la
 ob:Ord R lb
 last:∀x,la[la.length - 1]?=some x->∀y∈lb,R y<=R x
def Fin (R:Keyed->Nat) (la lb:List Keyed) (r:Array Keyed):Prop:=r.toList.Perm (la++lb)/\Ord R r.toList
section
variable {la:List Keyed}{lb:List Keyed}{out:Array Keyed}{ia:Nat}{ib:Nat}
theorem ML.pushB {R:Keyed->Nat}{all:List Keyed}(T:Two R la lb)(m:ML R all out.toList (la.drop ia++lb.drop ib)){y:Keyed}(hy:lb[ib]?=some y)(h:∀z∈la.drop ia,R y<=R z):ML R all (out.push y).toList (la.drop ia++lb.drop (ib+1)):=by
 rw[xfd];refine m.grow ?_ (xic _ _) λx hx z hz=>?_
 ·rw[zjc hy];exact xnc
 ·simp at hx;subst hx
  rcases xbr.mp hz with hz | hz
  ·exact h z hz
  ·obtain⟨j,hj,e⟩:=zbi hz;exact T.ob.at hy e (xdq hj)
end
section
variable {w:World}{la:List Keyed}{lb:List Keyed}{out:Array Keyed}{ia:Nat}{ib:Nat}
theorem ML.pushA {R:Keyed->Nat}{all:List Keyed}(T:Two R la lb)(m:ML R all out.toList (la.drop ia++lb.drop ib)){x:Keyed}(hx:la[ia]?=some x)(h:∀z∈lb.drop ib,R x<=R z):ML R all (out.push x).toList (la.drop (ia+1)++lb.drop ib):=by
 rw[xfd];refine m.grow ?_ (xic _ _) λw hw z hz=>?_
 ·rw[zjc hx];exact .refl _
 ·simp at hw;subst hw
  rcases xbr.mp hz with hz | hz
  ·obtain⟨j,hj,e⟩:=zbi hz;exact T.oa.at hx e (xdq hj)
  ·exact h z hz
end
theorem zbx (xs:Array Keyed)(i j:Nat):(xs.extract i j).toList=(xs.toList.drop i).take (j - i):=by
 rw[xlf,List.extract_eq_take_drop]
theorem zqr (xs:Array Keyed)(i:Nat):(xs.extract i).toList=xs.toList.drop i:=by
 rw[zbx];exact xdk (by simp)
theorem zbs {xs:Array Keyed}   (h:xs.toList[i]?=some x):kA R xs i=R x:=zdy (by rw[← xch];exact h)
end
section
section
variable {a:Array Keyed}{b:Array Keyed}{out:Array Keyed}{ia:Nat}{ib:Nat}{k:Nat}
theorem ML.galA (T:Two R a.toList b.toList)(m:ML R all out.toList (a.toList.drop ia++b.toList.drop ib))(hy:b.toList[ib]?=some y)(c:Cut false R y a ia (a.size - ia) k):ML R all (out++a.extract ia (ia+k)).toList (a.toList.drop (ia+k)++b.toList.drop ib)/\∀z∈a.toList.drop (ia+k),R y<=R z:=by
 have up:∀z∈a.toList.drop (ia+k),R y<=R z:=λz hz=>by
  obtain⟨j,hj,e⟩:=zbi hz;have hj2:j < a.size:=by have:=(xbg.mp e).1;simpa using this
  have h0:=xbc (xcc _ _) hj;have:=c.2.2 (j - ia) (xfg hj) (xeu h0 hj2);rw[xcm h0,zbs e] at this;exact xca this
 have low:∀z∈(a.toList.drop ia).take k,R z<=R y:=λz hz=>by
  obtain⟨j,hj,e⟩:=zr hz;rw[xfw] at e;have:=c.2.1 j hj;rw[zbs e] at this;exact this
 refine⟨?_,up⟩;rw[xdu,zbx,xdc];refine m.grow ?_ ((T.oa.drop ia).take k) λz hz v hv=>?_
 ·conv=>lhs;rw[zni a.toList ia k]
  rw[xck]
 ·rcases xbr.mp hv with hv | hv
  ·exact xbc (low z hz) (up v hv)
  ·obtain⟨j,hj,e⟩:=zbi hv;exact xbc (low z hz) (T.ob.at hy e hj)
theorem ML.galB (T:Two R a.toList b.toList)(m:ML R all out.toList (a.toList.drop ia++b.toList.drop ib))(hx:a.toList[ia]?=some x)(c:Cut true R x b ib (b.size - ib) k):ML R all (out++b.extract ib (ib+k)).toList (a.toList.drop ia++b.toList.drop (ib+k))/\∀z∈b.toList.drop (ib+k),R x<=R z:=by
 have up:∀z∈b.toList.drop (ib+k),R x<=R z:=λz hz=>by
  obtain⟨j,hj,e⟩:=zbi hz;have hj2:j < b.size:=by have:=(xbg.mp e).1;simpa using this
  have h0:=xbc (xcc _ _) hj;have:=c.2.2 (j - ib) (xfg hj) (xeu h0 hj2);rw[xcm h0,zbs e] at this;exact this
 have low:∀z∈(b.toList.drop ib).take k,R z<=R x:=λz hz=>by
  obtain⟨j,hj,e⟩:=zr hz;rw[xfw] at e;have:=c.2.1 j hj;rw[zbs e] at this;exact xca this
 refine⟨?_,up⟩;rw[xdu,zbx,xdc];refine m.grow ?_ ((T.ob.drop ib).take k) λz hz v hv=>?_
 ·conv=>lhs;rw[zni b.toList ib k]
  rw[← xck,← xck];exact xis _ xhk
 ·rcases xbr.mp hv with hv | hv
  ·obtain⟨j,hj,e⟩:=zbi hv;exact xbc (low z hz) (T.oa.at hx e hj)
  ·exact xbc (low z hz) (up v hv)
end
theorem ML.done {a:Array Keyed}{b:Array Keyed}{out:Array Keyed}{ia:Nat}{ib:Nat}(T:Two R a.toList b.toList)(m:ML R (a.toList++b.toList) out.toList (a.toList.drop ia++b.toList.drop ib))(h:ia=a.size\/ib=b.size):Fin R a.toList b.toList (out++a.extract ia++b.extract ib):=by
 unfold Fin;rw[xdu,xdu,zqr,zqr,xck];refine m.fin (.refl _) ?_;rcases h with rfl | rfl
 ·rw[xit (by simp),xlg];exact T.ob.drop _
 ·rw[xit (as:=b.toList) (by simp),xcy];exact T.oa.drop _
theorem ML.lastA {a:Array Keyed}{b:Array Keyed}{out:Array Keyed}{ia:Nat}{ib:Nat}(T:Two R a.toList b.toList)(m:ML R (a.toList++b.toList) out.toList (a.toList.drop ia++b.toList.drop ib))(h:ia+1=a.size):Fin R a.toList b.toList (out++b.extract ib++a.extract ia):=by
 unfold Fin;rw[xdu,xdu,zqr,zqr,xck];refine m.fin xhk (xgb.mpr ⟨T.ob.drop _,T.oa.drop _,λv hv z hz=>?_⟩);obtain⟨j,hj,e⟩:=zbi hz;have hj2:j < a.size:=by have:=(xbg.mp e).1;simpa using this
 have:j=a.toList.length - 1:=xdz (xdl (by rw[xcd];exact hj2)) (by rw[xcd,← h];exact hj);subst this;exact T.last z e v (xht hv)
noncomputable def setG':Nat->StateT SortSt Sem Unit:=sortPriv% PySem.Builtin.setMinGallop
section
variable {prog:Program}{w:World}{A:Around}{E:Value->Shared->Prop}{s:Shared}
theorem zxq {g:Nat}{au:SortSt}{Q:Unit->SortSt->Prop}(h:∀st',SmG au st'->Q () st'):wpS (model prog w) A E s (setG' g) Q au :=
 xhb (h _ ⟨rfl,rfl,rfl,rfl⟩)
end
section
variable {prog:Program}{w:World}{A:Around}{E:Value->Shared->Prop}{s:Shared}{y:Keyed}{x:Keyed}
theorem zbse {α:Type}{K:Nat->StateT SortSt Sem α}{Q:α->SortSt->Prop}{au:SortSt}(h:∀v,wpS (model prog w) A E s (K v) Q au):∀y x:Nat,wpS (model prog w) A E s (if y > 1 then K x else K y) Q au:=λy x=>by
 by_cases e:y > 1
 ·rw[if_pos e];exact h x
 ·rw[if_neg e];exact h y
end
section
variable {prog:Program}{w:World}{A:Around}{E:Value->Shared->Prop}{s:Shared}
theorem zbsg {α:Type}{c c2:Prop}[Decidable c][Decidable c2]{X Y Y':StateT SortSt Sem α}{Q:α->SortSt->Prop}{au:SortSt}(hY:¬c->Y'=Y)(h1:c->c2->wpS (model prog w) A E s X Q au)(h2:(c->¬c2)->wpS (model prog w) A E s Y Q au):wpS (model prog w) A E s (if c then(if c2 then X else Y) else Y') Q au:=by
 by_cases e:c
 ·rw[if_pos e];by_cases e2:c2
  ·rw[if_pos e2];exact h1 e e2
  ·rw[if_neg e2];exact h2 λ_=>e2
 ·rw[if_neg e,hY e];exact h2 λz=>absurd z e
theorem zbhp {α:Type}{c c2 c3:Prop}[Decidable c][Decidable c2][Decidable c3]{X X3 Y Y':StateT SortSt Sem α}{Q:α->SortSt->Prop}{au:SortSt}(hY:¬c->Y'=Y)(h1:c->c2->wpS (model prog w) A E s X Q au)(h3:c->c3->wpS (model prog w) A E s X3 Q au)(h2:(c->¬c2/\¬c3)->wpS (model prog w) A E s Y Q au):wpS (model prog w) A E s (if c then(if c2 then X else if c3 then X3 else Y) else Y') Q au:=by
 by_cases e:c
 ·rw[if_pos e];by_cases e2:c2
  ·rw[if_pos e2];exact h1 e e2
  ·rw[if_neg e2];by_cases e3:c3
   ·rw[if_pos e3];exact h3 e e3
   ·rw[if_neg e3];exact h2 λ_=>⟨e2,e3⟩
 ·rw[if_neg e,hY e];exact h2 λz=>absurd z e
theorem zbsf {α:Type}{c c2:Prop}[Decidable c][Decidable c2]{X X2 Y:StateT SortSt Sem α}{Q:α->SortSt->Prop}{au:SortSt}(h1:c->wpS (model prog w) A E s X Q au)(h2:c2->wpS (model prog w) A E s X2 Q au)(h3:¬c->¬c2->wpS (model prog w) A E s Y Q au):wpS (model prog w) A E s (if c then X else if c2 then X2 else Y) Q au:=by
 by_cases e:c
 ·rw[if_pos e];exact h1 e
 ·rw[if_neg e];by_cases e2:c2
  ·rw[if_pos e2];exact h2 e2
  ·rw[if_neg e2];exact h3 e e2
theorem w_if {α:Type}{c:Prop}[Decidable c]{X Y:StateT SortSt Sem α}{Q:α->SortSt->Prop}{au:SortSt}(h1:c->wpS (model prog w) A E s X Q au)(h2:¬c->wpS (model prog w) A E s Y Q au):wpS (model prog w) A E s (if c then X else Y) Q au:=by
 by_cases e:c
 ·rw[if_pos e];exact h1 e
 ·rw[if_neg e];exact h2 e
theorem w_el {α:Type}{arr:Array Keyed}{i:Nat}{x:Keyed}{f:Keyed->StateT SortSt Sem α}{Q:α->SortSt->Prop}{au:SortSt}(e:arr[i]?=some x)(h:wpS (model prog w) A E s (f x) Q au):wpS (model prog w) A E s (elem' arr i >>= f) Q au:=xbl (zmc e h)
end
section
variable {prog:Program}{w:World}{A:Around}{E:Value->Shared->Prop}{s:Shared}{κ:SortKind}{a₀:Array Keyed}{R:Keyed->Nat}
theorem zbho {α:Type}{x y:Keyed}{f:Option Bool->StateT SortSt Sem α}{Q:α->SortSt->Prop}{au:SortSt}(O:Orc prog w A s κ a₀ R)(hk:kindOf au=κ)(hx:x∈a₀.toList)(hy:y∈a₀.toList)(h1:R x < R y->wpS (model prog w) A E s (f (some true)) Q au)(h2:R y<=R x->wpS (model prog w) A E s (f (some false)) Q au):wpS (model prog w) A E s (lt' x y >>= f) Q au:=by
 refine xbl (w_lt O hk hx hy ?_);by_cases c:R x < R y
 ·rw[xbv c];exact h1 c
 ·rw[xby c];exact h2 (xcj c)
end
inductive Dn {β:Type} (R:Keyed->Nat) (a b:Array Keyed) (au:SortSt):Option (Array Keyed)×β->SortSt->Prop where
 | mk {r:Array Keyed} {z:β} {st':SortSt} (sm:SmG au st') (f:Fin R a.toList b.toList r):Dn R a b au (some r,z) st'
section
variable {out:Array Keyed}{ia:Nat}{ib:Nat}
inductive L1 (R:Keyed->Nat) (a b:Array Keyed) (au:SortSt) (x:Nat):Option (Array Keyed)×Array Keyed×Nat×Nat×Nat->SortSt->Prop where
 | mk {out:Array Keyed} {ia ib g:Nat} {st':SortSt} (sm:SmG au st') (m:ML R (a.toList++b.toList) out.toList (a.toList.drop ia++b.toList.drop ib)) (ha:ia+1 < a.size) (hb:ib < b.size) (hx:x < ia+ib):L1 R a b au x (none,out,ia,ib,g) st'
inductive L2' (R:Keyed->Nat) (a b:Array Keyed) (au:SortSt) (x:Nat):Option (Array Keyed)×Array Keyed×Nat×Nat×Nat×Nat->SortSt->Prop where
 | mk {out:Array Keyed} {ia ib ac bc:Nat} {st':SortSt} (sm:SmG au st') (m:ML R (a.toList++b.toList) out.toList (a.toList.drop ia++b.toList.drop ib)) (ha:ia+1 < a.size) (hb:ib < b.size) (hx:x<=ia+ib):L2' R a b au x (none,out,ia,ib,ac,bc) st'
inductive L3 (R:Keyed->Nat) (a b:Array Keyed) (au:SortSt) (x:Nat):Option (Array Keyed)×Array Keyed×Nat×Nat×Nat×Nat×Nat->SortSt->Prop where
 | mk {out:Array Keyed} {ia ib g ac bc:Nat} {st':SortSt} (sm:SmG au st') (m:ML R (a.toList++b.toList) out.toList (a.toList.drop ia++b.toList.drop ib)) (ha:ia+1 < a.size) (hb:ib < b.size) (hx:x<=ia+ib):L3 R a b au x (none,out,ia,ib,g,ac,bc) st'
end
section
variable {prog:Program}{w:World}{A:Around}{E:Value->Shared->Prop}{s:Shared}{κ:SortKind}{a₀:Array Keyed}{R:Keyed->Nat}{a:Array Keyed}{b:Array Keyed}{out:Array Keyed}{ia:Nat}{ib:Nat}{k:Nat}{y:Keyed}{x:Keyed}
theorem zxs {au:SortSt}{Q:Array Keyed->SortSt->Prop}(O:Orc prog w A s κ a₀ R)(hk:kindOf au=κ)(ma:∀x∈a.toList,x∈a₀.toList)(mb:∀x∈b.toList,x∈a₀.toList)(T:Two R a.toList b.toList)(ha:1<=a.size)(hb:1<=b.size)
  (fst:∀y,b.toList[0]?=some y->∀x∈a.toList,R y<=R x)(h:∀r st',SmG au st'->Fin R a.toList b.toList r->Q r st'):wpS (model prog w) A E s (mergeLo' a b) Q au:=by
 have atA:∀(i:Nat) (hi:i < a.size),a[i]?=some a[i]/\a.toList[i]?=some a[i]/\a[i]∈a₀.toList:=λi hi=>⟨getElem?_pos a i hi,by rw[xch];exact getElem?_pos a i hi,ma _ (by simp)⟩
 have atB:∀(i:Nat) (hi:i < b.size),b[i]?=some b[i]/\b.toList[i]?=some b[i]/\b[i]∈a₀.toList:=λi hi=>⟨getElem?_pos b i hi,by rw[xch];exact getElem?_pos b i hi,mb _ (by simp)⟩
 have upA:∀i,UpA R a i (i+(a.size - i)):=λi p q a1 a2 a3=>by
  have hq:q < a.size:=by lia
  have e1:=(atA p (by lia)).2.1;have e2:=(atA q hq).2.1;rw[zbs e1,zbs e2];exact T.oa.at e1 e2 a2
 have upB:∀i,UpA R b i (i+(b.size - i)):=λi p q a1 a2 a3=>by
  have hq:q < b.size:=by lia
  have e1:=(atB p (by lia)).2.1;have e2:=(atB q hq).2.1;rw[zbs e1,zbs e2];exact T.ob.at e1 e2 a2
 obtain⟨y0,f0,f1⟩:∃x,b[0]?=some x/\b.toList[0]?=some x:=⟨_,(atB 0 hb).1,(atB 0 hb).2.1⟩
 have start:ML R (a.toList++b.toList) (#[y0]:Array Keyed).toList (a.toList.drop 0++b.toList.drop 1):=by
  have z:ML R (a.toList++b.toList) (#[]:Array Keyed).toList (a.toList.drop 0++b.toList.drop 0):=⟨by simp,List.Pairwise.nil,by simp⟩
  exact z.pushB T f1 λx hx=>fst y0 f1 x (xht hx)
 refine xbl (xky (xiq ⟨rfl,xbl (zmc f0 (zbsf (λc1=>?_) (λc2=>?_) λc1 c2=>?_))⟩))
 ·exact xbo (h _ _ (.refl _) (start.done T (.inr (by simpa using c1))))
 ·exact xbo (h _ _ (.refl _) (start.lastA T (by simpa using c2)))
 simp only[xha] at c1 c2;refine xbl (xie ?_);refine xbl (xfy (xdy (I:=L1 R a b au) (Q:=Dn R a b au) ?_ ?_ (.mk (.refl _) start (by lia) (by lia) (by lia))) ?_)
 ·rintro x c st1 x1 x2 @⟨out,ia,ib,g,st1,sm1,m,ha1,hb1,hx⟩;dsimp only;refine xbl (xfy (xdy (I:=λ_=>L2' R a b au (ia+ib)) (Q:=λc st'=>Dn R a b au c st'\/L2' R a b au (ia+ib) c st') ?_ ?_ (.mk sm1 m ha1 hb1 (xbf _))) ?_)
  ·rintro x' c st2 _ _ @⟨out,ia',ib',ac,bc,st2,sm2,m,ha2,hb2,hp⟩;dsimp only;have ea:=(atA ia' (xfo ha2)).1;have ela:=(atA ia' (xfo ha2)).2.1;have mea:=(atA ia' (xfo ha2)).2.2;have eb:=(atB ib' hb2).1;have elb:=(atB ib' hb2).2.1;have meb:=(atB ib' hb2).2.2;refine w_el eb (w_el ea (zbho O (sm2.kind.trans hk) meb mea (λcw=>w_el eb ?_) λcw=>w_el ea ?_))
   ·skip
    have m2:=m.pushB T elb λz hz=>by
     obtain⟨j,hj,e⟩:=zbi hz;exact xbc (xca cw) (T.oa.at ela e hj)
    refine w_if (λc5=>xbo (.inl (.mk sm2 (m2.done T (.inr (eq_of_beq c5)))))) λc5=>?_
    rw[xha] at c5;have hb3:ib'+1 < b.size:=xdh hb2 c5;have hp3:ia+ib<=ia'+(ib'+1):=xgd hp;exact w_if (λ_=>xbo (.inr (.mk sm2 m2 ha2 hb3 hp3))) λ_=>xbo (.mk sm2 m2 ha2 hb3 hp3)
   ·skip
    have m2:=m.pushA T ela λz hz=>by
     obtain⟨j,hj,e⟩:=zbi hz;exact xbc cw (T.ob.at elb e hj)
    refine w_if (λc5=>xbo (.inl (.mk sm2 (m2.lastA T (eq_of_beq c5))))) λc5=>?_
    rw[xha] at c5;have ha3:ia'+1+1 < a.size:=xdh ha2 c5;have hp3:ia+ib<=ia'+1+ib':=Nat.succ_add ia' ib' ▸ xgd hp
    exact w_if (λ_=>xbo (.inr (.mk sm2 m2 ha3 hb2 hp3))) λ_=>xbo (.mk sm2 m2 ha3 hb2 hp3)
  ·exact λc st2 k=>.inr k
  ·rintro c st2 (⟨sm2,f⟩ | @⟨out,ia',ib',ac,bc,st2,sm2,m,ha2,hb2,hp⟩)
   ·exact xbo (.mk sm2 f)
   ·dsimp only;refine xbl (xky (xiq ⟨rfl,?_⟩));refine xbl (xfy (xdy (I:=λx'=>L3 R a b au (ia+ib+x')) (Q:=λc st'=>Dn R a b au c st'\/L3 R a b au (ia+ib+1) c st') ?_ ?_ (.mk sm2 m ha2 hb2 hp)) ?_)
    ·rintro x' c st3 _ x2' @⟨out,ia',ib',g',ac,bc,st3,sm3,m,ha2,hb2,hp⟩;dsimp only;have eb:=(atB ib' hb2).1;have elb:=(atB ib' hb2).2.1;have meb:=(atB ib' hb2).2.2;generalize g' - 1=g1;generalize g'=y;revert g1;revert y
     refine zbse ?_;intro gg;refine xbl (zxq λst4 sg=>?_);have sm4:=sm3.trans sg;refine w_el eb (xbl (zgg O (sm4.kind.trans hk) meb (λi hi=>⟨_,(atA (ia'+i) (xed hi)).1,(atA (ia'+i) (xed hi)).2.2⟩) (xgc (xfo ha2)) (upA ia') λk1 cut1=>?_));have m5:=(m.galA T elb cut1).1;have u5:=(m.galA T elb cut1).2;have hk1:=cut1.1;dsimp only;refine zbhp (λc6=>?_) (λc6 c7=>?_) (λc6 c8=>?_) λhh=>?_
     ·have z:k1=0:=Nat.le_zero.mp (xcj c6);subst z;simp only[xjb,xjc (xik _ _),xly]
     ·exact xbo (.inl (.mk sm4 (m5.lastA T (eq_of_beq c7))))
     ·exact xbo (.inl (.mk sm4 (m5.done T (.inl (eq_of_beq c8)))))
     have ha5:ia'+k1+1 < a.size:=by
      by_cases c6:k1 > 0
      ·have:=hh c6;simp at this;lia
      ·lia
     have hp5:ia+ib+x'<=ia'+k1+ib':=xbc hp (Nat.add_le_add_right (xcc _ _) _);clear hh;generalize ia'+k1=ia5 at m5 u5 ha5 hp5 ⊢;generalize out++a.extract ia' ia5=out5 at m5 ⊢;have m6:=m5.pushB T elb u5;have ea:=(atA _ (xfo ha5)).1;have ela:=(atA _ (xfo ha5)).2.1;have mea:=(atA _ (xfo ha5)).2.2;refine w_el eb (w_if (λc9=>xbo (.inl (.mk sm4 (m6.done T (.inr (eq_of_beq c9)))))) λc9=>w_el ea ?_);rw[xha] at c9;refine xbl (zgg O (sm4.kind.trans hk) mea (λi hi=>⟨_,(atB (ib'+1+i) (xed hi)).1,(atB (ib'+1+i) (xed hi)).2.2⟩) (xgc (xdh hb2 c9)) (upB (ib'+1)) λk2 cut2=>?_);have m7:=(m6.galB T ela cut2).1;have u7:=(m6.galB T ela cut2).2;have hk2:=cut2.1;dsimp only;refine zbsg (λd6=>?_) (λd6 d7=>?_) λhh=>?_
     ·have z2:k2=0:=Nat.le_zero.mp (xcj d6);subst z2;simp only[xjb,xjc (xik _ _),xly]
     ·exact xbo (.inl (.mk sm4 (m7.done T (.inr (eq_of_beq d7)))))
     have h20:ib'+1+k2≠b.size:=by
      by_cases d6:k2 > 0
      ·have:=hh d6;simp at this;lia
      ·lia
     have m8:=m7.pushA T ela u7;refine w_el ea (w_if (λd8=>xbo (.inl (.mk sm4 (m8.lastA T (eq_of_beq d8))))) λd8=>?_);rw[xha] at d8;have ha9:ia5+1+1 < a.size:=xdh ha5 d8;have hb9:ib'+1+k2 < b.size:=by lia
     have hp9:ia+ib+(x'+1)<=ia5+1+(ib'+1+k2):=by lia
     exact w_if (λ_=>xbo (.inr (.mk sm4 m8 ha9 hb9 (xbc (xcn (xng 1 x') _) hp9)))) λ_=>xbo (.mk sm4 m8 ha9 hb9 hp9)
    ·rintro c st3 ⟨sm3,m,ha2,hb2,hp⟩;exact .inr (.mk sm3 m ha2 hb2 (by lia))
    ·rintro c st3 (⟨sm3,f⟩ | ⟨sm3,m,ha2,hb2,hp⟩)
     ·exact xbo (.mk sm3 f)
     ·exact xbl (zxq λst4 sg=>xbo (.mk (sm3.trans sg) m ha2 hb2 (xbh (Nat.succ_lt_succ hx) hp)))
 ·rintro c st1 ⟨sm1,m,ha1,hb1,hx⟩;lia
 ·rintro c st1 ⟨sm1,f⟩;exact xbo (h _ st1 sm1 f)
end
end
structure MH (R:Keyed->Nat) (all out rest:List Keyed):Prop where
 perm:(rest++out.reverse).Perm all
 ord:Ord R out.reverse
 le:∀x∈rest,∀y∈out,R x<=R y
section
theorem MH.grow {rest xs:List Keyed}(m:MH R all out rest)(p:rest.Perm (rest'++xs.reverse))(o:Ord R xs.reverse)(h:∀x∈rest',∀y∈xs,R x<=R y):MH R all (out++xs) rest':=by
 refine⟨?_,?_,λx hx y hy=>?_⟩
 ·rw[List.reverse_append,← xck];exact(xis _ p.symm).trans m.perm
 ·rw[List.reverse_append];exact xgb.mpr ⟨o,m.ord,λx hx y hy=>m.le x (p.mem_iff.mpr (xde _ hx)) y (xkw.mp hy)⟩
 ·rcases xbr.mp hy with hy | hy
  ·exact m.le x (p.mem_iff.mpr (xeb _ hx)) y hy
  ·exact h x hx y hy
theorem MH.fin {rest rest':List Keyed}(m:MH R all out rest)(p:rest'.Perm rest)(o:Ord R rest'):(rest'++out.reverse).Perm all/\Ord R (rest'++out.reverse) :=
 ⟨(xis _ p).trans m.perm,xgb.mpr ⟨o,m.ord,λx hx y hy=>m.le x (p.mem_iff.mp hx) y (xkw.mp hy)⟩⟩
theorem zij {l:List Keyed}{i:Nat}{x:Keyed}(h:l[i]?=some x):l.take (i+1)=l.take i++[x]:=by
 obtain⟨h1,rfl⟩:=xbg.mp h;exact xhv h1
structure TwoH (R:Keyed->Nat) (la lb:List Keyed):Prop where
 oa:Ord R la
 ob:Ord R lb
 first:∀y,lb[0]?=some y->∀x∈la,R y<=R x
section
variable {R:Keyed->Nat}{la:List Keyed}{lb:List Keyed}{all:List Keyed}{out:Array Keyed}{na:Nat}{nb:Nat}
theorem MH.pushB (T:TwoH R la lb)(m:MH R all out.toList (la.take na++lb.take (nb+1))){y:Keyed}(hy:lb[nb]?=some y)(h:∀z∈la.take na,R z<=R y):MH R all (out.push y).toList (la.take na++lb.take nb):=by
 rw[xfd];refine m.grow ?_ (by simp) λz hz w hw=>?_
 ·rw[zij hy];simp
 ·simp at hw;subst hw
  rcases xbr.mp hz with hz | hz
  ·exact h z hz
  ·obtain⟨j,hj,e⟩:=zr hz;exact T.ob.at e hy (by lia)
theorem MH.pushA (T:TwoH R la lb)(m:MH R all out.toList (la.take (na+1)++lb.take nb)){x:Keyed}(hx:la[na]?=some x)(h:∀z∈lb.take nb,R z<=R x):MH R all (out.push x).toList (la.take na++lb.take nb):=by
 rw[xfd];refine m.grow ?_ (by simp) λz hz w hw=>?_
 ·rw[zij hx];simp only[List.reverse_singleton,xck];exact xgi _ xhk
 ·simp at hw;subst hw
  rcases xbr.mp hz with hz | hz
  ·obtain⟨j,hj,e⟩:=zr hz;exact T.oa.at e hx (by lia)
  ·exact h z hz
end
end
section
theorem zwf (l:List Keyed)  (h:k<=n):l.take n=l.take k++(l.drop k).take (n - k):=by
 conv=>lhs;rw[show n=k+(n - k) by lia,List.take_add]
section
variable {a:Array Keyed}{b:Array Keyed}{out:Array Keyed}{na:Nat}{nb:Nat}{k:Nat}
theorem MH.galA (T:TwoH R a.toList b.toList)(m:MH R all out.toList (a.toList.take na++b.toList.take (nb+1)))(hy:b.toList[nb]?=some y)(hn:na<=a.size)(c:Cut false R y a 0 na k):MH R all (out++(a.extract k na).reverse).toList (a.toList.take k++b.toList.take (nb+1))/\∀z∈a.toList.take k,R z<=R y:=by
 have low:∀z∈a.toList.take k,R z<=R y:=λz hz=>by
  obtain⟨j,hj,e⟩:=zr hz;have:=c.2.1 j hj;rw[xdt,zbs e] at this;exact this
 have up:∀z∈(a.toList.drop k).take (na - k),R y<=R z:=λz hz=>by
  obtain⟨j,hj,e⟩:=zr hz;rw[xfw] at e;have:=c.2.2 (k+j) (by lia) (by lia);rw[xdt,zbs e] at this;exact xca this
 refine⟨?_,low⟩;rw[xdu,xjf,zbx];refine m.grow ?_ (by rw[xjg];exact(T.oa.drop k).take _) λv hv z hz=>?_
 ·rw[xjg,zwf a.toList c.1,xck,xck];exact xgi _ xhk
 ·have hz:=up z (xkw.mp hz);rcases xbr.mp hv with hv | hv
  ·exact xbc (low v hv) hz
  ·obtain⟨j,hj,e⟩:=zr hv;exact xbc (T.ob.at e hy (by lia)) hz
theorem MH.galB (T:TwoH R a.toList b.toList)(m:MH R all out.toList (a.toList.take (na+1)++b.toList.take nb))(hx:a.toList[na]?=some x)(hn:nb<=b.size)(c:Cut true R x b 0 nb k):MH R all (out++(b.extract k nb).reverse).toList (a.toList.take (na+1)++b.toList.take k)/\∀z∈b.toList.take k,R z<=R x:=by
 have low:∀z∈b.toList.take k,R z<=R x:=λz hz=>by
  obtain⟨j,hj,e⟩:=zr hz;have:=c.2.1 j hj;rw[xdt,zbs e] at this;exact xca this
 have up:∀z∈(b.toList.drop k).take (nb - k),R x<=R z:=λz hz=>by
  obtain⟨j,hj,e⟩:=zr hz;rw[xfw] at e;have:=c.2.2 (k+j) (by lia) (by lia);rw[xdt,zbs e] at this;exact this
 refine⟨?_,low⟩;rw[xdu,xjf,zbx];refine m.grow ?_ (by rw[xjg];exact(T.ob.drop k).take _) λv hv z hz=>?_
 ·rw[xjg,zwf b.toList c.1,xck]
 ·have hz:=up z (xkw.mp hz);rcases xbr.mp hv with hv | hv
  ·obtain⟨j,hj,e⟩:=zr hv;exact xbc (T.oa.at e hx (by lia)) hz
  ·exact xbc (low v hv) hz
end
theorem zlm (xs:Array Keyed)(n:Nat):(xs.extract 0 n).toList=xs.toList.take n:=by
 rw[zbx,List.drop_zero,Nat.sub_zero]
theorem MH.done {a:Array Keyed}{b:Array Keyed}{out:Array Keyed}{na:Nat}{nb:Nat}(T:TwoH R a.toList b.toList)(m:MH R (a.toList++b.toList) out.toList (a.toList.take na++b.toList.take nb))(h:na=0\/nb=0):Fin R a.toList b.toList (a.extract 0 na++b.extract 0 nb++out.reverse):=by
 unfold Fin;rw[xdu,xdu,zlm,zlm,xjf];refine m.fin (.refl _) ?_;rcases h with rfl | rfl
 ·rw[List.take_zero,xlg];exact T.ob.take _
 ·rw[List.take_zero,xcy];exact T.oa.take _
theorem MH.firstB {a:Array Keyed}{b:Array Keyed}{out:Array Keyed}{na:Nat}{nb:Nat}(T:TwoH R a.toList b.toList)(m:MH R (a.toList++b.toList) out.toList (a.toList.take na++b.toList.take nb))(h:nb=1):Fin R a.toList b.toList (b.extract 0 nb++a.extract 0 na++out.reverse):=by
 unfold Fin;rw[xdu,xdu,zlm,zlm,xjf];refine m.fin xhk (xgb.mpr ⟨T.ob.take _,T.oa.take _,λv hv z hz=>?_⟩);obtain⟨j,hj,e⟩:=zr hv;have:j=0:=by lia
 subst this;exact T.first v e z (xew hz)
section
variable {out:Array Keyed}{na:Nat}{nb:Nat}
inductive H1 (R:Keyed->Nat) (a b:Array Keyed) (au:SortSt) (x:Nat):Option (Array Keyed)×Nat×Nat×Array Keyed×Nat->SortSt->Prop where
 | mk {na nb:Nat} {out:Array Keyed} {g:Nat} {st':SortSt} (sm:SmG au st') (m:MH R (a.toList++b.toList) out.toList (a.toList.take na++b.toList.take nb)) (a1:1<=na) (a2:na<=a.size) (b1:2<=nb) (b2:nb<=b.size) (hx:x+na+nb < a.size+b.size):H1 R a b au x (none,na,nb,out,g) st'
inductive H2 (R:Keyed->Nat) (a b:Array Keyed) (au:SortSt) (x:Nat):Option (Array Keyed)×Nat×Nat×Array Keyed×Nat×Nat->SortSt->Prop where
 | mk {na nb:Nat} {out:Array Keyed} {ac bc:Nat} {st':SortSt} (sm:SmG au st') (m:MH R (a.toList++b.toList) out.toList (a.toList.take na++b.toList.take nb)) (a1:1<=na) (a2:na<=a.size) (b1:2<=nb) (b2:nb<=b.size) (hx:na+nb<=x):H2 R a b au x (none,na,nb,out,ac,bc) st'
inductive H3 (R:Keyed->Nat) (a b:Array Keyed) (au:SortSt) (x y:Nat):Option (Array Keyed)×Nat×Nat×Array Keyed×Nat×Nat×Nat->SortSt->Prop where
 | mk {na nb:Nat} {out:Array Keyed} {g ac bc:Nat} {st':SortSt} (sm:SmG au st') (m:MH R (a.toList++b.toList) out.toList (a.toList.take na++b.toList.take nb)) (a1:1<=na) (a2:na<=a.size) (b1:2<=nb) (b2:nb<=b.size) (hx:y+na+nb<=x):H3 R a b au x y (none,na,nb,out,g,ac,bc) st'
end
section
variable {prog:Program}{w:World}{A:Around}{E:Value->Shared->Prop}{s:Shared}{κ:SortKind}{a₀:Array Keyed}{R:Keyed->Nat}{a:Array Keyed}{b:Array Keyed}{out:Array Keyed}{na:Nat}{nb:Nat}{k:Nat}{y:Keyed}{x:Keyed}
theorem zxt {au:SortSt}{Q:Array Keyed->SortSt->Prop}(O:Orc prog w A s κ a₀ R)(hk:kindOf au=κ)(ma:∀x∈a.toList,x∈a₀.toList)(mb:∀x∈b.toList,x∈a₀.toList)(T:TwoH R a.toList b.toList)(ha:1<=a.size)(hb:1<=b.size)
  (lst:∀x,a.toList[a.size - 1]?=some x->∀y∈b.toList,R y<=R x)(h:∀r st',SmG au st'->Fin R a.toList b.toList r->Q r st'):wpS (model prog w) A E s (mergeHi' a b) Q au:=by
 have atA:∀(i:Nat) (hi:i < a.size),a[i]?=some a[i]/\a.toList[i]?=some a[i]/\a[i]∈a₀.toList:=λi hi=>⟨getElem?_pos a i hi,by rw[xch];exact getElem?_pos a i hi,ma _ (by simp)⟩
 have atB:∀(i:Nat) (hi:i < b.size),b[i]?=some b[i]/\b.toList[i]?=some b[i]/\b[i]∈a₀.toList:=λi hi=>⟨getElem?_pos b i hi,by rw[xch];exact getElem?_pos b i hi,mb _ (by simp)⟩
 have upA:∀n,n<=a.size->UpA R a 0 (0+n):=λn hn p q a1 a2 a3=>by
  have hq:q < a.size:=xbh a3 (xbc (xdb (xdt n)) hn);have e1:=(atA p (xdg a2 hq)).2.1;have e2:=(atA q hq).2.1;rw[zbs e1,zbs e2];exact T.oa.at e1 e2 a2
 have upB:∀n,n<=b.size->UpA R b 0 (0+n):=λn hn p q a1 a2 a3=>by
  have hq:q < b.size:=xbh a3 (xbc (xdb (xdt n)) hn);have e1:=(atB p (xdg a2 hq)).2.1;have e2:=(atB q hq).2.1;rw[zbs e1,zbs e2];exact T.ob.at e1 e2 a2
 obtain⟨x0,f0,f1⟩:∃x,a[a.size - 1]?=some x/\a.toList[a.size - 1]?=some x:=⟨_,(atA (a.size - 1) (xij ha Nat.one_pos)).1,(atA (a.size - 1) (xij ha Nat.one_pos)).2.1⟩
 have start:MH R (a.toList++b.toList) (#[x0]:Array Keyed).toList (a.toList.take (a.size - 1)++b.toList.take b.size):=by
  have z:MH R (a.toList++b.toList) (#[]:Array Keyed).toList (a.toList.take (a.size - 1+1)++b.toList.take b.size):=by
   refine⟨?_,List.Pairwise.nil,by simp⟩;rw[xhd ha,xdk (by simp),xdk (by simp)];simp
  exact z.pushA T f1 λy hy=>lst x0 f1 y (xew hy)
 refine xbl (xky (xiq ⟨rfl,xbl (zmc f0 (zbsf (λc1=>?_) (λc2=>?_) λc1 c2=>?_))⟩))
 ·exact xbo (h _ _ (.refl _) (start.done T (.inl (by simpa using c1))))
 ·exact xbo (h _ _ (.refl _) (start.firstB T (by simpa using c2)))
 simp only[xha] at c1 c2;refine xbl (xie ?_);refine xbl (xfy (xdy (I:=H1 R a b au) (Q:=Dn R a b au) ?_ ?_ (.mk (.refl _) start (by lia) (by lia) (by lia) (xbf _) (by lia))) ?_)
 ·rintro x c st1 x1 x2 @⟨na,nb,out,g,st1,sm1,m,a1,a2,b1,b2,hx⟩;dsimp only;refine xbl (xfy (xdy (I:=λ_=>H2 R a b au (na+nb)) (Q:=λc st'=>Dn R a b au c st'\/H2 R a b au (na+nb) c st') ?_ ?_ (.mk sm1 m a1 a2 b1 b2 (xbf _))) ?_)
  ·rintro x' c st2 _ _ @⟨na',nb',out,ac,bc,st2,sm2,m,g1,g2,g3,g4,hp⟩;obtain⟨p,rfl⟩:∃p,na'=p+1:=⟨na' - 1,(xhd g1).symm⟩
   obtain⟨q,rfl⟩:∃q,nb'=q+1:=⟨nb' - 1,(xhd (xdq g3)).symm⟩
   dsimp only;have ea:=(atA p g2).1;have ela:=(atA p g2).2.1;have mea:=(atA p g2).2.2;have eb:=(atB q g4).1;have elb:=(atB q g4).2.1;have meb:=(atB q g4).2.2;refine w_el eb (w_el ea (zbho O (sm2.kind.trans hk) meb mea (λcw=>w_el ea ?_) λcw=>w_el eb ?_))
   ·skip
    have m2:=m.pushA T ela λz hz=>by
     obtain⟨j,hj,e⟩:=zr hz;exact xbc (T.ob.at e elb (xcs hj)) (xca cw)
    refine w_if (λc5=>xbo (.inl (.mk sm2 (m2.done T (.inl (eq_of_beq c5)))))) λc5=>?_
    rw[xha] at c5;have a3:1<=p:=xlz c5;have a4:p<=a.size:=xdq g2;have a5:p+(q+1)<=na+nb:=xbc (Nat.add_le_add_right (xkt p) _) hp;exact w_if (λ_=>xbo (.inr (.mk sm2 m2 a3 a4 g3 g4 a5))) λ_=>xbo (.mk sm2 m2 a3 a4 g3 g4 a5)
   ·skip
    have m2:=m.pushB T elb λz hz=>by
     obtain⟨j,hj,e⟩:=zr hz;exact xbc (T.oa.at e ela (xcs hj)) cw
    refine w_if (λc5=>xbo (.inl (.mk sm2 (m2.firstB T (eq_of_beq c5))))) λc5=>?_
    rw[xha] at c5;have a3:2<=q:=xdh (Nat.le_of_succ_le_succ g3) (xer c5);have a4:q<=b.size:=xdq g4;have a5:p+1+q<=na+nb:=xdq hp;exact w_if (λ_=>xbo (.inr (.mk sm2 m2 g1 g2 a3 a4 a5))) λ_=>xbo (.mk sm2 m2 g1 g2 a3 a4 a5)
  ·exact λc st2 k=>.inr k
  ·rintro c st2 (⟨sm2,f⟩ | @⟨na',nb',out,ac,bc,st2,sm2,m,g1,g2,g3,g4,hp⟩)
   ·exact xbo (.mk sm2 f)
   ·dsimp only;refine xbl (xky (xiq ⟨rfl,?_⟩));refine xbl (xfy (xdy (I:=H3 R a b au (na+nb)) (Q:=λc st'=>Dn R a b au c st'\/H3 R a b au (na+nb) 1 c st') ?_ ?_ (.mk sm2 m g1 g2 g3 g4 (by rw[xdt];exact hp))) ?_)
    ·rintro x' c st3 _ x2' @⟨na',nb',out,g',ac,bc,st3,sm3,m,g1,g2,g3,g4,hp⟩;obtain⟨q,rfl⟩:∃q,nb'=q+1:=⟨nb' - 1,(xhd (xdq g3)).symm⟩
     dsimp only;have eb:=(atB q g4).1;have elb:=(atB q g4).2.1;have meb:=(atB q g4).2.2;generalize g' - 1=g1;generalize g'=y;revert g1;revert y
     refine zbse ?_;intro gg;refine xbl (zxq λst4 sg=>?_);have sm4:=sm3.trans sg;refine w_el eb (xbl (zgg O (sm4.kind.trans hk) meb (λi hi=>⟨_,(atA (0+i) (by lia)).1,(atA (0+i) (by lia)).2.2⟩) (by lia) (upA na' g2) λk1 cut1=>?_));have m5:=(m.galA T elb g2 cut1).1;have u5:=(m.galA T elb g2 cut1).2;have hk1:=cut1.1;dsimp only;refine zbsg (λc6=>?_) (λc6 c7=>?_) λhh=>?_
     ·have z:k1=na':=by lia
      subst z;rw[show out++(a.extract k1 k1).reverse=out by simp[xik]]
     ·exact xbo (.inl (.mk sm4 (m5.done T (.inl (eq_of_beq c7)))))
     have g5:1<=k1:=by
      by_cases c6:na' - k1 > 0
      ·have:=hh c6;simp at this;lia
      ·lia
     have g6:k1<=a.size:=xbc hk1 g2;have hp5:x'+k1+(q+1)<=na+nb:=by lia
     clear hh hk1 cut1;generalize out++(a.extract k1 na').reverse=out5 at m5 ⊢;obtain⟨p,rfl⟩:∃p,k1=p+1:=⟨k1 - 1,(xhd g5).symm⟩
     simp only[Nat.add_sub_cancel];have m6:=m5.pushB T elb u5;have ea:=(atA p g6).1;have ela:=(atA p g6).2.1;have mea:=(atA p g6).2.2;refine w_el eb (w_if (λc9=>xbo (.inl (.mk sm4 (m6.firstB T (eq_of_beq c9))))) λc9=>w_el ea ?_);rw[xha] at c9;refine xbl (zgg O (sm4.kind.trans hk) mea (λi hi=>⟨_,(atB (0+i) (by lia)).1,(atB (0+i) (by lia)).2.2⟩) (by lia) (upB q (xdq g4)) λk2 cut2=>?_);have m7:=(m6.galB T ela (xdq g4) cut2).1;have u7:=(m6.galB T ela (xdq g4) cut2).2;have hk2:=cut2.1;dsimp only;refine zbhp (λd6=>?_) (λd6 d7=>?_) (λd6 d9=>?_) λhh=>?_
     ·have z2:k2=q:=by lia
      subst z2;simp only[xjc (xbc (xik _ _) (xbf _)),Array.reverse_empty,xly]
     ·exact xbo (.inl (.mk sm4 (m7.firstB T (eq_of_beq d7))))
     ·exact xbo (.inl (.mk sm4 (m7.done T (.inr (eq_of_beq d9)))))
     have h20:2<=k2:=by
      by_cases d6:q - k2 > 0
      ·have:=hh d6;simp at this;lia
      ·lia
     have m8:=m7.pushA T ela u7;refine w_el ea (w_if (λd8=>xbo (.inl (.mk sm4 (m8.done T (.inl (eq_of_beq d8)))))) λd8=>?_);rw[xha] at d8;have a3:1<=p:=xlz d8;have a4:p<=a.size:=xdq g6;have a5:k2<=b.size:=xbc hk2 (xdq g4);have a6:x'+1+p+k2<=na+nb:=by lia
     exact w_if (λ_=>xbo (.inr (.mk sm4 m8 a3 a4 h20 a5 (by lia)))) λ_=>xbo (.mk sm4 m8 a3 a4 h20 a5 a6)
    ·rintro c st3 ⟨sm3,m,g1,g2,g3,g4,hp⟩;exact .inr (.mk sm3 m g1 g2 g3 g4 (by lia))
    ·rintro c st3 (⟨sm3,f⟩ | @⟨na',nb',out,g',ac,bc,st3,sm3,m,g1,g2,g3,g4,hp⟩)
     ·exact xbo (.mk sm3 f)
     ·have h9:x+1+na'+nb' < a.size+b.size:=by lia
      exact xbl (zxq λst4 sg=>xbo (.mk (sm3.trans sg) m g1 g2 g3 g4 h9))
 ·rintro c st1 ⟨sm1,m,a1,a2,b1,b2,hx⟩;lia
 ·rintro c st1 ⟨sm1,f⟩;exact xbo (h _ st1 sm1 f)
end
end
theorem ztu:∀(l:List Keyed) (n off:Nat) (xs:Array Keyed),off+n+l.length<=xs.size->∀i,((l.zipIdx n).foldl (λa p=>a.setIfInBounds (off+p.2) p.1) xs)[i]?=if off+n<=i/\i < off+n+l.length then l[i - (off+n)]? else xs[i]?
 | [],n,off,xs,h,i=>by
  rw[if_neg (by simp)]
  rfl
 | x::l,n,off,xs,h,i=>by
  rw[List.zipIdx_cons,xhl];rw[xcb] at h;have e1:off+(n+1)+l.length=off+n+(l.length+1):=Nat.succ_add_eq_add_succ (off+n) l.length;rw[ztu l (n+1) off _ (by rw[Array.size_setIfInBounds];exact xbc (xdb e1) h) i];rw[xcb];by_cases c:off+(n+1)<=i/\i < off+(n+1)+l.length
  ·rw[if_pos c,if_pos ⟨xdq c.1,xgk c.2 e1⟩,show i - (off+n)=i - (off+(n+1))+1 from(xhd (xgc c.1)).symm,xkg]
  ·rw[if_neg c];by_cases c2:i=off+n
   ·rw[if_pos ⟨xdb c2.symm,xdg (xdb c2) (xib (Nat.succ_pos _))⟩,c2,xjw,List.getElem?_cons_zero];exact xjm (xbh (xib (Nat.succ_pos l.length)) h)
   ·rw[if_neg λz=>c ⟨xdh z.1 (xer c2),xgk z.2 e1.symm⟩];exact xlb (λz=>c2 z.symm)
theorem zbdm {m xs:Array Keyed}  (h:off+m.size<=xs.size):(m.toList.zipIdx.foldl (λa p=>a.setIfInBounds (off+p.2) p.1) xs).toList=xs.toList.take off++m.toList++xs.toList.drop (off+m.size):=by
 apply xkn;intro i;rw[xch,ztu m.toList 0 off xs (by simpa using h) i];simp only[xjb,xcd];have l1:(xs.toList.take off).length=off:=by rw[xcu,xcd];exact xev (xbc (xcc _ _) h)
 by_cases c:off<=i/\i < off+m.size
 ·rw[if_pos c,xck,xct (xbc (xdb l1) c.1),l1,xbw (by rw[xcd];exact xea c.1 c.2)]
 ·rw[if_neg c];by_cases c2:i < off
  ·rw[xck,xbw (xgk c2 l1.symm),List.getElem?_take,if_pos c2,xch]
  ·have h3:off+m.size<=i:=xcj λz=>c ⟨xcj c2,z⟩
   rw[xct (by rw[xbi,l1,xcd];exact h3),xfw];simp only[xbi,l1,xcd];rw[xcm h3,xch]
section
theorem zbbf   (up:UpA R xs i j)(hj:j<=xs.size):Ord R (xs.extract i j).toList:=by
 rw[zbx];refine xfb.mpr λp q hp hq hpq=>?_
 simp only[xcu,xgw,xcd] at hp hq;simp only[xms,xmr,Array.getElem_toList];have:=up (i+p) (i+q) (xcc _ _) (xcn (xca hpq) i) (xed (xbh hq (xik _ _)));rw[zdy (getElem?_pos xs (i+p) (xed (xbh hp (xfu _ _)))),zdy (getElem?_pos xs (i+q) (xed (xbh hq (xfu _ _))))] at this;exact this
theorem zkb {xs:Array Keyed}   (h:x∈(xs.extract i j).toList):∃q,i<=q/\q < j/\xs[q]?=some x:=by
 rw[zbx] at h;obtain⟨q,hq,e⟩:=zr h;rw[xfw,xch] at e;exact⟨i+q,xcc _ _,xed hq,e⟩
theorem zbku {xs:Array Keyed}  (h:q < j - i):(xs.extract i j).toList[q]?=xs[i+q]?:=by
 rw[zbx,List.getElem?_take,if_pos h,xfw,xch]
structure Mg (R:Keyed->Nat) (xs ys:Array Keyed) (lo hi:Nat):Prop where
 perm:ys.Perm xs
 out:Out ys xs lo hi
 up:UpA R ys lo hi
theorem zzi {xs:Array Keyed}{sa sb ea k nb':Nat}  (hsb:sb<=ea)(hea:ea<=xs.size)(hk:sa+k < sb)(hnb:sb+nb'<=ea)(hnb1:1<=nb')(upA:UpA R xs sa sb)(upB:UpA R xs sb ea)
  (e0:xs[sb]?=some y0)(el:xs[sb - 1]?=some xl)(c1:Cut false R y0 xs sa (sb - sa) k)(c2:Cut true R xl xs sb (ea - sb) nb')
  (f:Fin R (xs.extract (sa+k) sb).toList (xs.extract sb (sb+nb')).toList m):Mg R xs (m.toList.zipIdx.foldl (λa p=>a.setIfInBounds (sa+k+p.2) p.1) xs) sa ea:=by
 have lx:(xs.extract (sa+k) sb).toList.length=sb - (sa+k):=by rw[zbx,xcu,xgw,xcd];exact xev (xga (xbc hsb hea) _)
 have ly:(xs.extract sb (sb+nb')).toList.length=nb':=by rw[zbx,xcu,xgw,xcd,xdc];exact xev (xfg (xbc hnb hea))
 have lm:m.size=sb+nb' - (sa+k):=by
  have:=f.1.length_eq;rw[xbi,lx,ly,xcd] at this;exact this.trans (Nat.sub_add_comm (xca hk)).symm
 have he:sa+k+m.size=sb+nb':=by rw[lm];exact xcm (xbc (xca hk) (xcc _ _))
 have hsz:sa+k+m.size<=xs.size:=by rw[he];exact xbc hnb hea
 have hs1:=xdl hk;have s1:sb - 1 < sb:=xij (xkl hk) Nat.one_pos;have g:∀i,(m.toList.zipIdx.foldl (λa p=>a.setIfInBounds (sa+k+p.2) p.1) xs)[i]?=if sa+k<=i/\i < sb+nb' then m.toList[i - (sa+k)]? else xs[i]?:=λi=>by
  have:=ztu m.toList 0 (sa+k) xs (by simpa using hsz) i;simp only[xjb,xcd] at this;rw[he] at this;exact this
 have mid:∀v∈m.toList,R y0<=R v/\R v<=R xl:=λv hv=>by
  rcases xbr.mp (f.1.mem_iff.mp hv) with hv | hv
  ·obtain⟨q,q1,q2,e⟩:=zkb hv;have q0:=xbc (xcc _ _) q1;have h1:=c1.2.2 (q - sa) (xfg q1) (xeu q0 q2);rw[xcm q0,zdy e] at h1;have h2:=upA q (sb - 1) q0 (xdl q2) s1;rw[zdy e,zdy el] at h2;have h1':R y0 < R v:=h1;exact⟨xca h1',h2⟩
  ·obtain⟨q,q1,q2,e⟩:=zkb hv;have h1:=upB sb q (xbf _) q1 (xbh q2 hnb);rw[zdy e,zdy e0] at h1;have h2:=c2.2.1 (q - sb) (xea q1 q2);rw[xcm q1,zdy e] at h2;have h2':R v < R xl:=h2;exact⟨h1,xca h2'⟩
 have low:∀i,sa<=i->i < sa+k->kA R xs i<=R y0:=λi a1 a2=>by
  have:=c1.2.1 (i - sa) (xea a1 a2);rw[xcm a1] at this;exact this
 have hig:∀i,sb+nb'<=i->i < ea->R xl<=kA R xs i:=λi a1 a2=>by
  have i0:=xbc (xcc _ _) a1;have:=c2.2.2 (i - sb) (xfg a1) (xeu i0 a2);rw[xcm i0] at this;exact this
 have kk:∀i,kA R (m.toList.zipIdx.foldl (λa p=>a.setIfInBounds (sa+k+p.2) p.1) xs) i=if sa+k<=i/\i < sb+nb' then kA R m (i - (sa+k)) else kA R xs i:=λi=>by
  have:=g i;split
  ·rename_i c;rw[if_pos c,xch] at this;exact zdq this
  ·rename_i c;rw[if_neg c] at this;exact zdq this
 have mm:∀i,i < m.size->∃v,m.toList[i]?=some v/\v∈m.toList:=λi hi=>⟨m.toList[i]'(by simpa using hi),xbd _,xda _⟩
 refine⟨?_,λi hi=>?_,λi j a1 a2 a3=>?_⟩
 ·refine xfn.mpr ?_;rw[zbdm hsz,he];have split:xs.toList=xs.toList.take (sa+k)++((xs.extract (sa+k) sb).toList++(xs.extract sb (sb+nb')).toList)++xs.toList.drop (sb+nb'):=by
   rw[zbx,zbx];rw[xdc]
   conv=>lhs;rw[← xdf (sa+k) xs.toList,← xdf (sb - (sa+k)) (xs.toList.drop (sa+k)),xlu,xcm (xca hk),← xdf nb' (xs.toList.drop sb),xlu]
   simp only[xck]
  conv=>rhs;rw[split]
  exact xis _ (xgi _ f.1)
 ·rw[g i,if_neg λz=>hi.elim (λh=>xey (xbc (xcc sa k) z.1) h) λh=>xey h (xbh z.2 hnb)]
 ·rw[kk,kk];by_cases ci:sa+k<=i/\i < sb+nb'
  ·rw[if_pos ci];obtain⟨v,ev,mv⟩:=mm (i - (sa+k)) (by rw[lm];exact xeu ci.1 ci.2);rw[zbs ev];by_cases cj:sa+k<=j/\j < sb+nb'
   ·rw[if_pos cj];obtain⟨u,eu,mu⟩:=mm (j - (sa+k)) (by rw[lm];exact xeu cj.1 cj.2);rw[zbs eu];exact f.2.at ev eu (xga a2 _)
   ·rw[if_neg cj];exact xbc (mid v mv).2 (hig j (xcj λz=>cj ⟨xbc ci.1 a2,z⟩) a3)
  ·rw[if_neg ci];by_cases ci2:i < sa+k
   ·have h1:=low i a1 ci2;by_cases cj:sa+k<=j/\j < sb+nb'
    ·rw[if_pos cj];obtain⟨u,eu,mu⟩:=mm (j - (sa+k)) (by rw[lm];exact xeu cj.1 cj.2);rw[zbs eu];exact xbc h1 (mid u mu).1
    ·rw[if_neg cj];by_cases cj2:j < sa+k
     ·exact upA i j a1 a2 (xiz cj2 hk)
     ·have h2:=hig j (xcj λz=>cj ⟨xcj cj2,z⟩) a3;have h3:R y0<=R xl:=by
       have s0:=xbc (xcc _ _) hs1;have h4:=c1.2.2 (sb - 1 - sa) (xfg hs1) (xeu s0 s1);rw[xcm s0,zdy el] at h4;exact xca h4
      exact xbc h1 (xbc h3 h2)
   ·have hi2:sb+nb'<=i:=xcj λz=>ci ⟨xcj ci2,z⟩
    rw[if_neg λz=>xey (xbc hi2 a2) z.2];exact upB i j (xbc (xcc _ _) hi2) a2 a3
end
section
section
variable {prog:Program}{w:World}{A:Around}{E:Value->Shared->Prop}{s:Shared}
theorem zbtd {x au:SortSt}{Q:Unit->SortSt->Prop}(h:Q () x):wpS (model prog w) A E s (set x:StateT SortSt Sem PUnit) Q au:=by
 unfold wpS;rw[StateT.run_set];exact xbe ⟨rfl,h⟩
end
section
variable {prog:Program}{w:World}{A:Around}{E:Value->Shared->Prop}{s:Shared}{κ:SortKind}{a₀:Array Keyed}{R:Keyed->Nat}
theorem zxu {i sa na pw sb nb pw':Nat}{au:SortSt}{Q:Bool->SortSt->Prop}(O:Orc prog w A s κ a₀ R)(b:B κ a₀ au)(p1:(pendingOf au)[i]?=some (sa,na,pw))(p2:(pendingOf au)[i+1]?=some (sb,nb,pw'))(hsb:sb=sa+na)(hna:1<=na)(hnb:1<=nb)(hz:sb+nb<=a₀.size)
  (upA:UpA R (arrOf au) sa sb)(upB:UpA R (arrOf au) sb (sb+nb))
  (h:∀st',B κ a₀ st'->pendingOf st'=((pendingOf au).setIfInBounds i (sa,na+nb,pw)).eraseIdxIfInBounds (i+1)->Out (arrOf st') (arrOf au) sa (sb+nb)->UpA R (arrOf st') sa (sb+nb)->Q true st'):wpS (model prog w) A E s (mergeAt' i) Q au:=by
 have hsz:=b.size;have bs:sb < a₀.size:=xbh (xib hnb) hz;refine xbl (xie ?_);dsimp only;have q1:(sortPriv% PySem.Builtin.SortState.pending) au=pendingOf au:=rfl;rw[q1,p1,p2];dsimp only;refine xbl (zbtd ?_);obtain⟨y0,e0,my0⟩:=b.mem (i:=sb) bs;have inA:∀q,q < a₀.size->∃x,(arrOf au)[q]?=some x/\x∈a₀.toList:=λq hq=>b.mem hq
 refine xbl (zmc e0 ?_);refine xbl (zgg O b.kind my0 (λq hq=>inA (sa+q) (xiz (xgk (xen hq sa) hsb.symm) bs)) hna (by rw[← hsb];exact upA) λk c1=>?_);dsimp only;have hk:=c1.1;have c1':Cut false R y0 (arrOf au) sa (sb - sa) k:=by rw[show sb - sa=na from by rw[hsb,xdc]];exact c1
 by_cases d1:na - k=0
 ·rw[if_pos (by simpa using d1)];refine xbo (h _ ⟨b.perm,b.kind,b.failed⟩ rfl (Out.refl _ _ _) λp q a1 a2 a3=>?_);by_cases z1:q < sb
  ·exact upA p q a1 a2 z1
  ·by_cases z2:p < sb
   ·have h1:=c1.2.1 (p - sa) (xbh (xea a1 (xgk z2 hsb)) (Nat.le_of_sub_eq_zero d1));rw[xcm a1] at h1;have h2:=upB sb q (xbf _) (xcj z1) a3;rw[zdy e0] at h2;exact xbc h1 h2
   ·exact upB p q (xcj z2) a2 a3
 ·rw[if_neg (by simpa using d1)];have hk2:sa+k < sb:=xgk (xen (xgh λz=>d1 (Nat.sub_eq_zero_of_le z)) sa) hsb.symm;have s1:sb - 1 < sb:=xij (xkl hk2) Nat.one_pos;obtain⟨xl,el,mxl⟩:=inA (sb - 1) (xiz s1 bs);have el':(arrOf au)[sa+k+(na - k) - 1]?=some xl:=by rw[Nat.add_assoc,xcm hk,← hsb];exact el
  refine xbl (zmc el' ?_);refine xbl (zgg O b.kind mxl (λq hq=>inA (sb+q) (xbh (xen hq sb) hz)) (xij hnb Nat.one_pos) upB λnb' c2=>?_);dsimp only;have hn2:=c2.1;have c2':Cut true R xl (arrOf au) sb (sb+nb - sb) nb':=by rw[xdc];exact c2
  by_cases d2:nb'=0
  ·rw[if_pos (by simpa using d2)];refine xbo (h _ ⟨b.perm,b.kind,b.failed⟩ rfl (Out.refl _ _ _) λp q a1 a2 a3=>?_);subst d2;by_cases z1:q < sb
   ·exact upA p q a1 a2 z1
   ·by_cases z2:p < sb
    ·have h1:=upA p (sb - 1) a1 (xdl z2) s1;rw[zdy el] at h1;have h2:=c2.2.2 (q - sb) (xee _) (xea (xcj z1) a3);rw[xcm (xcj z1)] at h2;exact xbc h1 h2
    ·exact upB p q (xcj z2) a2 a3
  ·rw[if_neg (by simpa using d2)];have hn1:1<=nb':=xlz d2;have hez:sb<=(arrOf au).size:=by rw[hsz];exact xca bs
   have hbz:sb+nb<=(arrOf au).size:=by rw[hsz];exact hz
   have hb2:sb+nb'<=sb+nb:=xcn hn2 sb;have oa:Ord R ((arrOf au).extract (sa+k) sb).toList:=zbbf (λp q a1 a2 a3=>upA p q (xbc (xcc _ _) a1) a2 a3) hez;have ob:Ord R ((arrOf au).extract sb (sb+nb')).toList:=zbbf (λp q a1 a2 a3=>upB p q a1 a2 (xbh a3 hb2)) (xbc hb2 hbz);have ma:∀x∈((arrOf au).extract (sa+k) sb).toList,x∈a₀.toList:=λx hx=>by
    obtain⟨q,q1,q2,e⟩:=zkb hx;obtain⟨x',e',m'⟩:=inA q (xiz q2 bs);rw[e] at e';cases e';exact m'
   have mb:∀x∈((arrOf au).extract sb (sb+nb')).toList,x∈a₀.toList:=λx hx=>by
    obtain⟨q,q1,q2,e⟩:=zkb hx;obtain⟨x',e',m'⟩:=inA q (xbh q2 (xbc hb2 hz));rw[e] at e';cases e';exact m'
   have sx:((arrOf au).extract (sa+k) sb).size=sb - (sa+k):=by rw[Array.size_extract,xev hez]
   have sy:((arrOf au).extract sb (sb+nb')).size=nb':=by rw[Array.size_extract,xev (xbc hb2 hbz),xdc]
   have fst:∀y,((arrOf au).extract sb (sb+nb')).toList[0]?=some y->∀x∈((arrOf au).extract (sa+k) sb).toList,R y<=R x:=λy hy x hx=>by
    rw[zbku (by rw[xdc];exact hn1),xjb,e0] at hy;cases hy;obtain⟨q,q1,q2,e⟩:=zkb hx;have q0:=xbc (xcc _ _) q1;have:=c1.2.2 (q - sa) (xfg q1) (xea q0 (xgk q2 hsb));rw[xcm q0,zdy e] at this;exact xca this
   have lst:∀x,((arrOf au).extract (sa+k) sb).toList[sb - (sa+k) - 1]?=some x->∀y∈((arrOf au).extract sb (sb+nb')).toList,R y<=R x:=λx hx y hy=>by
    rw[zbku (xij (xgc hk2) Nat.one_pos),show sa+k+(sb - (sa+k) - 1)=sb - 1 from by rw[← Nat.add_sub_assoc (xgc hk2),xcm (xca hk2)],el] at hx;cases hx;obtain⟨q,q1,q2,e⟩:=zkb hy;have:=c2.2.1 (q - sb) (xea q1 q2);rw[xcm q1,zdy e] at this;exact xca this
   have post:∀m st2,SmG au st2\/True->Fin R ((arrOf au).extract (sa+k) sb).toList ((arrOf au).extract sb (sb+nb')).toList m->Mg R (arrOf au) (m.toList.zipIdx.foldl (λa p=>a.setIfInBounds (sa+k+p.2) p.1) (arrOf au)) sa (sb+nb):=λm _ _ f =>
    zzi (xcc _ _) hbz hk2 hb2 hn1 upA upB e0 el c1' c2' f
   by_cases d3:na - k<=nb'
   ·rw[if_pos d3];refine xbl (zxs O b.kind ma mb ⟨oa,ob,λx hx=>lst x (by rw[xcd,sx] at hx;exact hx)⟩ (by show 1<=((arrOf au).extract (sa+k) sb).size;rw[sx];exact xgc hk2) (by show 1<=((arrOf au).extract sb (sb+nb')).size;rw[sy];exact hn1) fst λm st2 sg f=>?_);have mg:=post m st2 (.inr trivial) f;refine xbl (xhb (xbl (xie ?_)));have a2:arrOf st2=arrOf au:=sg.arr;have f2:failedOf st2=none:=sg.failed.trans b.failed;refine xbo (?_:Q ((failedOf st2).isNone) (setArr st2 (m.toList.zipIdx.foldl (λa p=>a.setIfInBounds (sa+k+p.2) p.1) (arrOf st2))));rw[f2,a2];exact h _ ⟨mg.perm.trans b.perm,sg.kind.trans b.kind,f2⟩ sg.pend mg.out mg.up
   ·rw[if_neg d3];refine xbl (zxt O b.kind ma mb ⟨oa,ob,fst⟩ (by show 1<=((arrOf au).extract (sa+k) sb).size;rw[sx];exact xgc hk2) (by show 1<=((arrOf au).extract sb (sb+nb')).size;rw[sy];exact hn1) (λx hx=>lst x (by rw[sx] at hx;exact hx)) λm st2 sg f=>?_);have mg:=post m st2 (.inr trivial) f;refine xbl (xhb (xbl (xie ?_)));have a2:arrOf st2=arrOf au:=sg.arr;have f2:failedOf st2=none:=sg.failed.trans b.failed;refine xbo (?_:Q ((failedOf st2).isNone) (setArr st2 (m.toList.zipIdx.foldl (λa p=>a.setIfInBounds (sa+k+p.2) p.1) (arrOf st2))));rw[f2,a2];exact h _ ⟨mg.perm.trans b.perm,sg.kind.trans b.kind,f2⟩ sg.pend mg.out mg.up
end
end
def Segs (R:Keyed->Nat) (xs:Array Keyed):Nat->List (Nat×Nat×Nat)->Nat->Prop
 | s,[],e=>s=e
 | s,p::r,e=>p.1=s/\1<=p.2.1/\UpA R xs s (s+p.2.1)/\Segs R xs (s+p.2.1) r e
section
theorem Segs.le:∀{l:List (Nat×Nat×Nat)} {s e:Nat},Segs R xs s l e->s+l.length<=e
 | [],s,e,h=>by cases h;simp
 | p::r,s,e,h=>by
  have:=Segs.le h.2.2.2;have:=h.2.1;simp;lia
theorem Segs.append:∀{l m:List (Nat×Nat×Nat)} {s e:Nat},Segs R xs s (l++m) e↔∃k,Segs R xs s l k/\Segs R xs k m e
 | [],m,s,e=>⟨λh=>⟨s,rfl,h⟩,λ⟨k,h1,h2⟩=>by cases h1;exact h2⟩
 | p::r,m,s,e=>by
  constructor
  ·rintro⟨h1,h2,h3,h4⟩;obtain⟨k,g1,g2⟩:=Segs.append.mp h4;exact⟨k,⟨h1,h2,h3,g1⟩,g2⟩
  ·rintro⟨k,⟨h1,h2,h3,h4⟩,g2⟩;exact⟨h1,h2,h3,Segs.append.mpr ⟨k,h4,g2⟩⟩
theorem UpA.same  (h:UpA R xs a b)(e:∀i,a<=i->i < b->ys[i]?=xs[i]?):UpA R ys a b:=λi j a1 a2 a3=>by
 rw[zdq (e i a1 (xdg a2 a3)),zdq (e j (xbc a1 a2) a3)];exact h i j a1 a2 a3
theorem Segs.same:∀{l:List (Nat×Nat×Nat)} {s e:Nat},Segs R xs s l e->(∀i,s<=i->i < e->ys[i]?=xs[i]?)->Segs R ys s l e
 | [],s,e,h,_=>h
 | p::r,s,e,h,k=>by
  have:=Segs.le h.2.2.2;exact⟨h.1,h.2.1,h.2.2.1.same λi a1 a2=>k i a1 (xbh a2 (xbc (xcc _ _) this)),Segs.same h.2.2.2 λi a1 a2=>k i (xbc (xcc _ _) a1) a2⟩
theorem Segs.power :∀{l m:List (Nat×Nat×Nat)},l.map (λp=>(p.1,p.2.1))=m.map (λp=>(p.1,p.2.1))->Segs R xs s l e->Segs R xs s m e:=by
 intro l
 induction l generalizing s with
 | nil=>intro m h k;cases m with
  | nil=>exact k
  | cons=>cases h
 | cons p r ih=>intro m h k;cases m with
  | nil=>cases h
  | cons q t =>
   rw[xbu,xbu] at h;obtain⟨h1,h2⟩:=List.cons.inj h;obtain⟨g1,g2⟩:=Prod.mk.inj h1;obtain⟨k1,k2,k3,k4⟩:=k;rw[g2] at k2 k3 k4;exact⟨g1.symm.trans k1,k2,k3,ih h2 k4⟩
end
section
theorem zbev {l:List (Nat×Nat×Nat)}  (h:i+1 < l.length):∃pre p q post,l=pre++p::q::post/\pre.length=i:=by
 refine⟨l.take i,l[i],l[i+1],l.drop (i+2),?_,by rw[xcu];exact xev (xca (xfo h))⟩
 conv=>lhs;rw[← xdf i l,xfq (xfo h),xfq h]
section
variable {prog:Program}{w:World}{A:Around}{E:Value->Shared->Prop}{s:Shared}{κ:SortKind}{a₀:Array Keyed}{R:Keyed->Nat}
theorem w_at {i e:Nat}{au:SortSt}{Q:Bool->SortSt->Prop}(O:Orc prog w A s κ a₀ R)(b:B κ a₀ au)(sg:Segs R (arrOf au) 0 (pendingOf au).toList e)(he:e<=a₀.size)(hi:i+1 < (pendingOf au).size)
  (h:∀st',B κ a₀ st'->Segs R (arrOf st') 0 (pendingOf st').toList e->(pendingOf st').size+1=(pendingOf au).size->(∀k,e<=k->(arrOf st')[k]?=(arrOf au)[k]?)->Q true st'):wpS (model prog w) A E s (mergeAt' i) Q au:=by
 obtain⟨pre,p,q,post,el,hl⟩:=zbev (l:=(pendingOf au).toList) (i:=i) (by simpa using hi);obtain⟨sa,na,pw⟩:=p;obtain⟨sb,nb,pw'⟩:=q;rw[el] at sg;obtain⟨k,g1,g2⟩:=Segs.append.mp sg;obtain⟨h1,h2,h3,h4,h5,h6,h7⟩:=g2;dsimp only at h1 h2 h3 h4 h5 h6 h7;subst h1;have l7:=Segs.le h7;have l1:=Segs.le g1;have p1:(pendingOf au)[i]?=some (sa,na,pw):=by rw[← xch,el,xct (xdb hl),hl,xjw];rfl
 have p2:(pendingOf au)[i+1]?=some (sb,nb,pw'):=by rw[← xch,el,xct (xbc (xdb hl) (xcc i 1)),hl,xdc];rfl
 refine zxu O b p1 p2 h4 h2 h5 (by lia) (by rw[h4];exact h3) (by rw[h4];exact h6) λst' b' pe ou up=>?_
 have pl:(pendingOf st').toList=pre++(sa,na+nb,pw)::post:=by
  rw[pe];rw[Array.toList_eraseIdxIfInBounds,Array.toList_setIfInBounds,el];rw[xjd _ _ (xdb hl),hl,xjw,List.set_cons_zero,List.eraseIdx_append_of_length_le (xbc (xdb hl) (xcc i 1)),hl,xdc]
  rfl
 have keep:∀j,j < sa\/sb+nb<=j->(arrOf st')[j]?=(arrOf au)[j]?:=ou
 refine h st' b' ?_ ?_ λj hj=>keep j (.inr (by lia))
 ·rw[pl];refine Segs.append.mpr ⟨sa,g1.same λj a1 a2=>keep j (.inl a2),rfl,by show 1<=na+nb;lia,?_,?_⟩
  ·show UpA R (arrOf st') sa (sa+(na+nb));rw[show sa+(na+nb)=sb+nb by lia];exact up
  ·show Segs R (arrOf st') (sa+(na+nb)) post e;rw[show sa+(na+nb)=sa+na+nb by lia];exact h7.same λj a1 a2=>keep j (.inr (by lia))
 ·have e1:(pendingOf st').size=(pendingOf st').toList.length:=by simp
  have e2:(pendingOf au).size=(pendingOf au).toList.length:=by simp
  rw[e1,e2,pl,el];simp only[xbi,xcb];lia
end
theorem zbpm  [Decidable c]  (h1:a+1 < n)(h2:b+1 < n):(if c then a else b)+1 < n:=by split<;>assumption
theorem zbbi   (h:∀x,g (f x)=g x):∀(l:List (Nat×Nat×Nat)) (i:Nat),(l.modify i f).map g=l.map g
 | [],i=>by simp
 | x::l,0=>by simp[h]
 | x::l,i+1=>by simp[zbbi h l i]
theorem Segs.mod    (h:Segs R xs s l e)(i c:Nat):Segs R xs s (l.modify i λx=>(x.1,x.2.1,c)) e :=
 h.power (zbbi (g:=λp=>(p.1,p.2.1)) (f:=λx=>(x.1,x.2.1,c)) (λ_=>rfl) l i).symm
section
variable {prog:Program}{w:World}{A:Around}{E:Value->Shared->Prop}{s:Shared}{κ:SortKind}{a₀:Array Keyed}{R:Keyed->Nat}
theorem zbni {au:SortSt}{Q:Unit->SortSt->Prop}(O:Orc prog w A s κ a₀ R)(b:B κ a₀ au)(pe:pendingOf au=#[])(h2:2<=a₀.size)
  (h:∀st',B κ a₀ st'->UpA R (arrOf st') 0 a₀.size->Q () st'):wpS (model prog w) A E s sortRuns' Q au:=by
 have hz:=b.size;rw[sortRuns'_eq];refine xbl (xie ?_);dsimp only;rw[hz]
 refine xbl (xfy (xdy (I:=λx c st'=>∃lo,c=(none,lo)/\B κ a₀ st'/\Segs R (arrOf st') 0 (pendingOf st').toList lo/\lo<=a₀.size/\x<=lo)
  (Q:=λc st'=>c=(none,a₀.size)/\B κ a₀ st'/\Segs R (arrOf st') 0 (pendingOf st').toList a₀.size) ?_ ?_ ⟨0,rfl,b,by rw[pe];rfl,by lia,by lia⟩) ?_)
 ·rintro x c st1 x1 x2 ⟨lo,rfl,b1,sg1,hlo,hx⟩;dsimp only;by_cases c1:lo ≥ a₀.size
  ·rw[if_pos c1];have:lo=a₀.size:=by lia
   subst this;exact xbo ⟨rfl,b1,sg1⟩
  rw[if_neg c1];refine xbl (zbhq O b1 (by lia) (by lia) λm st2 m1 m2 b2 sm2 up2=>?_);dsimp only;have sg2:Segs R (arrOf st2) 0 (pendingOf st2).toList lo:=by
   rw[sm2.pend];exact sg1.same λi a1 a2=>sm2.out i (.inl a2)
  by_cases c2:m < minRun' a₀.size a₀.size 0
  ·rw[if_pos c2];refine xbl (xky (xiq ⟨rfl,?_⟩));refine xbl (zbte O b2 (by lia) m1 (by lia) up2 λst3 b3 sm3 up3=>?_);have sg3:Segs R (arrOf st3) 0 (pendingOf st3).toList lo:=by
    rw[sm3.pend];exact sg2.same λi a1 a2=>sm3.out i (.inl a2)
   have hn1:1<=min (a₀.size - lo) (minRun' a₀.size a₀.size 0):=by lia
   have hn2:lo+min (a₀.size - lo) (minRun' a₀.size a₀.size 0)<=a₀.size:=by lia
   simp only[xml,xcq,xeh];generalize min (a₀.size - lo) (minRun' a₀.size a₀.size 0)=n at up3 hn1 hn2 sm3 ⊢;refine xbl (xie ?_);cases hb:(pendingOf st3).back? with
   | none =>
    dsimp only;refine xbl (xhb (xbo ⟨lo+n,rfl,⟨b3.perm,b3.kind,b3.failed⟩,?_,hn2,by lia⟩));show Segs R (arrOf st3) 0 ((pendingOf st3).push (lo,n,0)).toList (lo+n);rw[xfd];exact Segs.append.mpr ⟨lo,sg3,rfl,hn1,up3,rfl⟩
   | some p =>
    obtain⟨s1,n1,p1⟩:=p;dsimp only;refine xbl (xfy (xdy (I:=λ_ c st'=>c=(none,())/\B κ a₀ st'/\Segs R (arrOf st') 0 (pendingOf st').toList lo/\UpA R (arrOf st') lo (lo+n)) (Q:=λc st'=>c=(none,())/\B κ a₀ st'/\Segs R (arrOf st') 0 (pendingOf st').toList lo/\UpA R (arrOf st') lo (lo+n)) ?_ (λ_ _ hh=>hh) ⟨rfl,b3,sg3,up3⟩) ?_)
    ·rintro x' c st4 _ _ ⟨rfl,b4,sg4,up4⟩;refine xbl (xie ?_);by_cases hs:(pendingOf st4).size > 1
     ·rw[if_pos hs,getElem?_pos (pendingOf st4) ((pendingOf st4).size - 2) (by lia)];obtain⟨s2,n2,p2⟩:=(pendingOf st4)[(pendingOf st4).size - 2]'(by lia);dsimp only;split
      ·exact xbo ⟨rfl,b4,sg4,up4⟩
      ·refine xbl (w_at O b4 sg4 hlo (by lia) λst5 b5 sg5 _ k5=>?_);exact xbo ⟨rfl,b5,sg5,up4.same λi a1 a2=>k5 i a1⟩
     ·rw[if_neg hs];exact xbo ⟨rfl,b4,sg4,up4⟩
    ·rintro c st4 ⟨rfl,b4,sg4,up4⟩;dsimp only;refine xbl (xhb (xbl (xhb (xbo ⟨lo+n,rfl,⟨b4.perm,b4.kind,b4.failed⟩,?_,hn2,by lia⟩))));refine(?_:Segs R (arrOf st4) 0 (((pendingOf st4).modify ((pendingOf st4).size - 1) λx=>(x.1,x.2.1,_)).push (lo,n,0)).toList (lo+n));rw[xfd,Array.toList_modify];exact Segs.append.mpr ⟨lo,sg4.mod _ _,rfl,hn1,up4,rfl⟩
  ·rw[if_neg c2];have b3:=b2;have sg3:=sg2;have up3:=up2;have hn1:=m1;have hn2:lo+m<=a₀.size:=by lia
   generalize st2=st3 at b3 sg3 up3 ⊢;generalize m=n at up3 hn1 hn2 ⊢;refine xbl (xie ?_);cases hb:(pendingOf st3).back? with
   | none =>
    dsimp only;refine xbl (xhb (xbo ⟨lo+n,rfl,⟨b3.perm,b3.kind,b3.failed⟩,?_,hn2,by lia⟩));show Segs R (arrOf st3) 0 ((pendingOf st3).push (lo,n,0)).toList (lo+n);rw[xfd];exact Segs.append.mpr ⟨lo,sg3,rfl,hn1,up3,rfl⟩
   | some p =>
    obtain⟨s1,n1,p1⟩:=p;dsimp only;refine xbl (xfy (xdy (I:=λ_ c st'=>c=(none,())/\B κ a₀ st'/\Segs R (arrOf st') 0 (pendingOf st').toList lo/\UpA R (arrOf st') lo (lo+n)) (Q:=λc st'=>c=(none,())/\B κ a₀ st'/\Segs R (arrOf st') 0 (pendingOf st').toList lo/\UpA R (arrOf st') lo (lo+n)) ?_ (λ_ _ hh=>hh) ⟨rfl,b3,sg3,up3⟩) ?_)
    ·rintro x' c st4 _ _ ⟨rfl,b4,sg4,up4⟩;refine xbl (xie ?_);by_cases hs:(pendingOf st4).size > 1
     ·rw[if_pos hs,getElem?_pos (pendingOf st4) ((pendingOf st4).size - 2) (by lia)];obtain⟨s2,n2,p2⟩:=(pendingOf st4)[(pendingOf st4).size - 2]'(by lia);dsimp only;split
      ·exact xbo ⟨rfl,b4,sg4,up4⟩
      ·refine xbl (w_at O b4 sg4 hlo (by lia) λst5 b5 sg5 _ k5=>?_);exact xbo ⟨rfl,b5,sg5,up4.same λi a1 a2=>k5 i a1⟩
     ·rw[if_neg hs];exact xbo ⟨rfl,b4,sg4,up4⟩
    ·rintro c st4 ⟨rfl,b4,sg4,up4⟩;dsimp only;refine xbl (xhb (xbl (xhb (xbo ⟨lo+n,rfl,⟨b4.perm,b4.kind,b4.failed⟩,?_,hn2,by lia⟩))));refine(?_:Segs R (arrOf st4) 0 (((pendingOf st4).modify ((pendingOf st4).size - 1) λx=>(x.1,x.2.1,_)).push (lo,n,0)).toList (lo+n));rw[xfd,Array.toList_modify];exact Segs.append.mpr ⟨lo,sg4.mod _ _,rfl,hn1,up4,rfl⟩
 ·rintro c st1 ⟨lo,rfl,b1,sg1,hlo,hx⟩;have:lo=a₀.size:=by lia
  subst this;exact⟨rfl,b1,sg1⟩
 ·rintro c st1 ⟨rfl,b1,sg1⟩;dsimp only
  refine xbl (xfy (xdy (I:=λx c st'=>c=(none,())/\B κ a₀ st'/\Segs R (arrOf st') 0 (pendingOf st').toList a₀.size/\(pendingOf st').size+x<=a₀.size)
   (Q:=λc st'=>c=(none,())/\B κ a₀ st'/\Segs R (arrOf st') 0 (pendingOf st').toList a₀.size/\(pendingOf st').size<=1) ?_ ?_ ⟨rfl,b1,sg1,by have:=sg1.le;simp at this;lia⟩) ?_)
  ·rintro x c st2 x1 x2 ⟨rfl,b2,sg2,hp⟩;refine xbl (xie ?_);by_cases c1:(pendingOf st2).size<=1
   ·rw[if_pos c1];exact xbo ⟨rfl,b2,sg2,c1⟩
   rw[if_neg c1];refine xbl (w_at O b2 sg2 (xbf _) ?_ λst3 b3 sg3 p3 _=>xbo ⟨rfl,b3,sg3,by lia⟩);exact zbpm (by lia) (by lia)
  ·rintro c st2 ⟨rfl,b2,sg2,hp⟩;exact⟨rfl,b2,sg2,by lia⟩
  ·rintro c st2 ⟨rfl,b2,sg2,hp⟩;refine xbo (h st2 b2 ?_);cases hl:(pendingOf st2).toList with
   | nil=>rw[hl] at sg2;have:0=a₀.size:=sg2;lia
   | cons p r =>
    have:r=[]:=by
     have e2:(pendingOf st2).size=(pendingOf st2).toList.length:=by simp
     rw[e2,hl,xcb] at hp;exact xkh.mp (by lia)
    subst this;rw[hl] at sg2;obtain⟨_,_,g3,g4⟩:=sg2;have g4':0+p.2.1=a₀.size:=g4;rw[g4'] at g3;exact g3
end
end
end TS
namespace Srt
open PySem PySem.W PyProof.Rows
theorem zrr {α β:Type}(f:α->β):∀{l m':List β},l.Perm m'->∀m:List α,m'=m.map f->∃p:List α,p.Perm m/\l=p.map f:=by
 intro l m' h
 induction h with
 | nil=>exact λm e=>⟨[],by rw[List.map_eq_nil_iff.mp e.symm],rfl⟩
 | cons x _ ih =>
  intro m e;cases m with
  | nil=>cases e
  | cons y m =>
   rw[xbu] at e;injection e with e1 e2
   obtain⟨p,p1,p2⟩:=ih m e2;exact⟨y::p,p1.cons y,by rw[xbu,← p2,e1]⟩
 | swap x y l =>
  intro m e
  match m,e with
  | a::b::m,e =>
   rw[xbu,xbu] at e;injection e with e1 e2
   injection e2 with e2 e3
   exact⟨b::a::m,.swap _ _ _,by rw[xbu,xbu,e1,e2,e3]⟩
 | trans _ _ ih1 ih2 =>
  intro m e;obtain⟨p,p1,p2⟩:=ih2 m e;obtain⟨q,q1,q2⟩:=ih1 p p2;exact⟨q,q1.trans p1,q2⟩
noncomputable def Coh (r:Nat->Nat) (xs:List Value):Prop:=∀i j,i < xs.length->j < xs.length->xs.getD i Value.none=xs.getD j Value.none->r i=r j
open Classical in
noncomputable def rankV (r:Nat->Nat) (xs:List Value) (x:Keyed):Nat:=if h:∃i,i < xs.length/\xs.getD i Value.none=x.1 then r h.choose else 0
theorem zoe   (coh:Coh r xs)   (hi:i < xs.length)(e:xs.getD i Value.none=x.1):rankV r xs x=r i:=by
 have h:∃i,i < xs.length/\xs.getD i Value.none=x.1:=⟨i,hi,e⟩
 unfold rankV;rw[dif_pos h];exact coh _ _ h.choose_spec.1 hi (h.choose_spec.2.trans e.symm)
theorem zsn (xs:List Value):(xs.toArray.zip xs.toArray).toList=(List.range xs.length).map λi=>((xs.getD i Value.none,xs.getD i Value.none):Keyed):=by
 rw[Array.toList_zip];apply xna
 ·simp
 ·intro i h1 h2;have h3:i < xs.length:=by simpa using h2
  simp[xbj,h3]
section
theorem zbeu  {xs:List Value}   (h2:2<=xs.length)(coh:Coh r xs)
  (cmp:∀i j C,i < xs.length->j < xs.length->C (lt r i j) sg->kas_ask P w B κ xs i j C sg) :
  wpAny (model P w) B ((sortRuns').run (SortSt.mk' κ (xs.toArray.zip xs.toArray) #[] 7 none)) (λy z=>∃p:Array Nat,(p.Perm (List.toArray (List.range xs.length))/\Up r p xs.length)/\(arrOf y.2).map (·.2)=outOf xs p/\failedOf y.2=none/\z=sg) E sg:=by
 have sz:(xs.toArray.zip xs.toArray).size=xs.length:=by simp
 have O:TS.Orc P w B sg κ (xs.toArray.zip xs.toArray) (rankV r xs):=λx hx y hy C hC=>by
  rw[zsn] at hx hy;obtain⟨i,hi,rfl⟩:=xbk.mp hx;obtain⟨j,hj,rfl⟩:=xbk.mp hy;rw[xcf] at hi hj;rw[zoe coh hi rfl,zoe coh hj rfl] at hC;exact cmp i j C hi hj hC
 have run:=TS.zbni (E:=E) (Q:=λ_ y=>∃p:Array Nat,(p.Perm (List.toArray (List.range xs.length))/\Up r p xs.length)/\(arrOf y).map (·.2)=outOf xs p/\failedOf y=none) O (au:=SortSt.mk' κ (xs.toArray.zip xs.toArray) #[] 7 none) ⟨.refl _,rfl,rfl⟩ rfl (by rw[sz];exact h2) λy b up=>by
  obtain⟨l,l1,l2⟩:=zrr (λi=>((xs.getD i Value.none,xs.getD i Value.none):Keyed)) (xfn.mp b.perm) _ (zsn xs);have ll:l.length=xs.length:=by rw[l1.length_eq,xeo]
  have mem:∀k,(hk:k < l.length)->l[k] < xs.length:=λk hk=>xcf.mp (l1.mem_iff.mp (xda hk))
  have key:∀k,k < xs.length->TS.kA (rankV r xs) (arrOf y) k=At r l.toArray k:=λk hk=>by
   have hk':k < l.length:=by lia
   have e:(arrOf y)[k]?=some (xs.getD l[k] Value.none,xs.getD l[k] Value.none):=by
    rw[← xch,l2,xco,xbd hk']
    rfl
   rw[TS.zdy e,zoe coh (mem k hk') rfl];unfold At;simp[hk']
  refine⟨l.toArray,⟨?_,λi j hij hj=>?_⟩,?_,b.failed⟩
  ·exact xfn.mpr (by simpa using l1)
  ·rw[← key i (by lia),← key j hj];exact up i j (xee _) hij (by rw[sz];exact hj)
  ·unfold outOf;apply Array.toList_inj.mp;rw[Array.toList_map,l2,xcr]
   rfl
 exact xfm run (λy z hz=>by
  obtain⟨rfl,p,a,b,c⟩:=hz
  exact⟨p,a,b,c,rfl⟩) λ_ _ x=>x
theorem zmh {au:Shared}(r:Nat->Nat)  {xs:List Value}  {W:Fin->Shared->Prop}(e0:au.heap.get? d=some (seqObj "list" xs.toArray k))(few:xs.length<=sizeLine)(coh:Coh r xs)
  (ask:2<=xs.length->Answers P w B r xs {au with heap:=midHeap au.heap d xs})
  (fin:∀p:Array Nat,p.Perm (List.toArray (List.range xs.length))->Up r p xs.length->W (.done (.ret .none)) {au with heap:=sortedHeap au.heap d xs (outOf xs p)}) :
  wpAny (model P w) B (Builtin.«list.sort» ⟨[.ref d],[]⟩) W E au:=by
 obtain⟨c,ec⟩:∃ c,(au.heap.update d (Obj.mapSeq λ_=>(#[]:Array Value))).get? d=some (seqObj "list" #[] c):=⟨_,get?_update_seq e0 λ_=>#[]⟩
 have em:(midHeap au.heap d xs).get? d=some (seqObj "list" #[] c):=xbn _ (xbn _ ec)
 have szs:xs.toArray.size=xs.length:=xbt;rw[list_sort_plain];refine xba (listItems_at e0 rfl (xba (listUpdate_at e0 rfl (xba (seqEpoch_at ec rfl (xba (wpAny_newTuple (xba (wpAny_newList (xfe ?_) (xee _))) (few))))) (by rw[szs];exact few) (xee _))));show wpAny (model P w) B _ W E {au with heap:=midHeap au.heap d xs};dsimp only;by_cases two:xs.toArray.size < 2
 ·rw[if_pos two,if_pos two];rw[szs] at two;have eo:((arrOf (SortSt.mk' general' (xs.toArray.zip xs.toArray) #[] 7 none)).map (·.2))=outOf xs (List.toArray (List.range xs.length)):=zye two
  refine xba (xbe (by
   rw[StateT.run_pure];refine xba (xbe (xba (seqEpoch_at em rfl (xba (listUpdate_at em rfl ?_ (xee _) ?_)))))
   ·rw[if_neg (by simp)];refine xbe ?_;rw[eo];exact fin _ (.refl _) λi j hij hj=>xdb (congrArg (At r _) (by lia))
   ·rw[eo];refine xgd (xbc (xdb ?_) (few));unfold outOf
    simp))
 ·rw[if_neg two,if_neg two];rw[szs] at two;obtain⟨κ,kd,cmp⟩:=ask (by lia);refine xba (xfm (kd (λκ' z=>κ'=κ/\z={au with heap:=midHeap au.heap d xs}) ⟨rfl,rfl⟩) (λκ' z hz=>?_) λ_ _ x=>x.elim);obtain⟨rfl,rfl⟩:=hz;have run:=zbeu (E:=E) (r:=r) (xs:=xs) (κ:=κ') (sg:={au with heap:=midHeap au.heap d xs}) (by lia) coh cmp;refine xba (xfm run (λyy z hz=>?_) λ_ _ x=>x);obtain⟨⟨⟩,y⟩:=yy;obtain⟨p,hp,ho,hf,rfl⟩:=hz;dsimp only at ho hf ⊢;refine xba (seqEpoch_at em rfl (xba (listUpdate_at em rfl ?_ (xee _) ?_)))
  ·rw[hf,if_neg (by simp),ho];exact xbe (fin p hp.1 hp.2)
  ·rw[ho];refine xgd (xbc (xdb ?_) (few));unfold outOf;rw[xbt,xbb,xcd,hp.1.size_eq];simp
theorem zny {B:Around}{au:Shared}(r:Nat->Nat)  {xs:List Value}{W:Value->Shared->Prop}(isl:au.heap.IsList d xs.toArray)(few:xs.length<=sizeLine)(coh:Coh r xs)
  (ask:2<=xs.length->∀g:Heap,(∀b ob,au.heap.get? b=some ob->g.get? b=some ob)->Answers P w B.in1.in1 r xs {au with heap:=g})
  (fin:∀p:Array Nat,p.Perm (List.toArray (List.range xs.length))->Up r p xs.length->W (.ref (au.heap.objs.size+1)) {au with heap:=sortedAll au.heap xs (outOf xs p)}) :
  wpAny (model P w) B (call (.builtin "sorted") [.ref d]) W E au:=by
 let g0:Heap:=(au.heap.push (seqObj "list" #[] 0)).update au.heap.objs.size (Obj.mapSeq (·++xs.toArray))
 have sz:g0.objs.size=au.heap.objs.size+1:=(Heap.size_update ..).trans (size_push' _ _);have new:(g0.push (seqObj "list" xs.toArray 0)).get? (au.heap.objs.size + 1)=some (seqObj "list" xs.toArray 0):=by
  have z:=xcg g0 (o:=seqObj "list" xs.toArray 0) rfl
  rw[sz] at z;exact z
 have old:∀ b ob,au.heap.get? b=some ob->(g0.push (seqObj "list" xs.toArray 0)).get? b=some ob:=λb ob e=>by
  have lt:=xbx e;exact xbn _ ((Heap.get?_update_ne _ _ _ _ (xci lt)).trans (xbn _ e))
 have ar:argsOk "sorted" ⟨[.ref d],[]⟩:=args_sorted1 _
 refine Calls.call_function_entry kind_sorted plain_sorted entry_sorted ar ?_;unfold Builtin.«sorted»;refine xba (m:=checkCount "sorted" 1 1 _) (xbe (xba (collect_list isl (xba (wpAny_newList ?_ (few))) (few))))
 show wpAny _ _ _ _ _ { au with heap:=g0.push (seqObj "list" xs.toArray 0) }
 have esz:(Value.ref g0.objs.size)=Value.ref (au.heap.objs.size+1):=by rw[sz]
 rw[show((au.heap.push (seqObj "list" #[] 0)).update au.heap.objs.size (Obj.mapSeq (·++xs.toArray))).objs.size=au.heap.objs.size + 1 from sz]
 refine xba (xfe (xfa slot_list_sort ⟨_,new,rfl⟩ entry_list_sort (zmh r (au:={ au with heap:=g0.push (seqObj "list" xs.toArray 0) }) new few coh (λtwo=>?_) λp p1 p2=>⟨_,rfl,xbe ⟨_,rfl,fin p p1 p2⟩⟩) (args_list_sort _)))
 exact ask two _ λb ob e=>zka (xci (xhq (xbx e))) (old b ob e)
theorem zgh {B:Around}{au:Shared}{T:String}   {It:Nat->Value->Prop}  (S:KdlSrc P w T a d n It OK)(hh:B.handled=none)(ok:OK au.heap)(few:n<=sizeLine){W:Value->Shared->Prop}
  (ask:∀xs:List Value,xs.length=n->(∀(j:Nat) (v:Value),xs[j]?=some v->It j v)->∃r:Nat->Nat,Coh r xs/\(2<=n->∀(g:Heap) (tk:Nat),(∀b ob,au.heap.get? b=some ob->g.get? b=some ob)->Answers P w B.in1.in1 r xs {au with heap:=g,toks:=tk}) /\
   ∀(p:Array Nat) (q:Addr) (g:Heap) (tk c:Nat),p.Perm (List.toArray (List.range xs.length))->Up r p xs.length->(∀ b ob,au.heap.get? b=some ob->g.get? b=some ob)->(∀ b ob,au.heap.get? b=some ob->b≠q)->g.get? q=some (seqObj "list" (outOf xs p) c)->W (.ref q) { au with heap:=g,toks:=tk }) :
  wpAny (model P w) B (call (.builtin "sorted") [.ref a]) W E au:=by
 have ar:argsOk "sorted" ⟨[.ref a],[]⟩:=args_sorted1 _
 refine Calls.call_function_entry kind_sorted plain_sorted entry_sorted ar ?_;unfold Builtin.«sorted»;refine xba (m:=checkCount "sorted" 1 1 _) (xbe (xba (kdu_collect (A:=B.in1) S hh ok (few) λg tk acc keep items=>?_)))
 have len:acc.toList.length=n:=by rw[xcd];exact items.1
 obtain⟨r,coh,an,fin⟩:=ask acc.toList len (λj v e=>items.2 j v (by rw[← xch];exact e));refine xba (wpAny_newList ?_ (by rw[len];exact few));have new:(g.push (seqObj "list" acc.toList.toArray 0)).get? g.objs.size=some (seqObj "list" acc.toList.toArray 0):=xcg g rfl
 have old:∀ b ob,au.heap.get? b=some ob->(g.push (seqObj "list" acc.toList.toArray 0)).get? b=some ob:=λb ob e=>xbn _ (keep b ob e)
 have lt:∀b ob,au.heap.get? b=some ob->b≠g.objs.size:=λb ob e=>xci (xbx (keep b ob e))
 show wpAny _ _ _ _ _ { au with heap:=g.push (seqObj "list" acc.toList.toArray 0),toks:=tk }
 refine xba (xfe (xfa slot_list_sort ⟨_,new,rfl⟩ entry_list_sort (zmh r (au:={ au with heap:=g.push (seqObj "list" acc.toList.toArray 0),toks:=tk }) new (by rw[len]; exact few) coh (λtwo=>?_) λp p1 p2=>⟨_,rfl,xbe ⟨_,rfl,?_⟩⟩) (args_list_sort _)))
 ·exact an (by lia) _ tk λb ob e=>zka (lt b ob e) (old b ob e)
 ·obtain⟨c,ec⟩:=sortedHeap_at (n:=0) (vs:=acc.toList) (out:=outOf acc.toList p) new;refine fin p g.objs.size _ tk c p1 p2 (λb ob e=>?_) ?_ ec
  ·rw[sortedHeap_old (lt b ob e) (xbx (old b ob e))];exact old b ob e
  ·exact lt
end
end Srt
namespace L2
open PySem PySem.Spec PyProof.Rows PySem.W
theorem small10000  (h:n<=1000000):n<=sizeLine:=xbc h (by rw[xhu];lia)
theorem zkd:∀{us:List Value} {a b:List Int},IntsAre us a->IntsAre us b->a=b
 | _,_,_,.nil,.nil=>rfl
 | _,_,_,.cons x t r,.cons _ _ r'=>by rw[zkd r r']
theorem zwj   (tup:TupsG g ps):Srt.Coh (Srt.rank (ps.map (·.2))) (ps.map λp=>Value.ref p.1):=λi j hi hj e=>by
 rw[xbb] at hi hj;have ei:ps[i]?=some ps[i]:=xbd hi;have ej:ps[j]?=some ps[j]:=xbd hj;rw[zl (λp:Addr×List Int=>Value.ref p.1) _ ei,zl (λp:Addr×List Int=>Value.ref p.1) _ ej] at e;injection e with e
 obtain⟨us,o,n,a1,a2,a3,a4⟩:=tup _ (xda hi);obtain⟨us2,o2,n2,b1,b2,b3,b4⟩:=tup _ (xda hj);rw[e,b2] at a2;injection a2 with a2
 subst a2;rw[b4] at a4;injection a4 with a4 _
 have a5:us2=us:=by simpa using a4
 subst a5;have d:=zkd a1 b1;unfold Srt.rank;rw[zl (λp:Addr×List Int=>p.2) _ ei,zl (λp:Addr×List Int=>p.2) _ ej,d]
def rSortedAL (K:Fg):List V->Hp->VK->Prop:=λxs H Q=>∃(l:Addr) (ps:List (Addr×List Int)),xs=[.ref l]/\SqL K H l (ps.map λp=>V.ref p.1)/\ps.length<=1000000/\TupsAt K H ps /\
 ∀(q:Addr) (qs:List (Addr×List Int)),H q=none->qs.Perm ps->(qs.map (·.2)).Pairwise (λa b=>HT.lexLt b a=false)->Q (.ref q) (upd H q (.lst (qs.map λp=>V.ref p.1)))
def rSortedDAL:List V->Hp->VK->Prop:=λxs H Q=>∃(a:Addr) (kvs:List (List Key×V)) (ks:List (List Int)),xs=[.ref a]/\Rd H a (.dT kvs)/\kvs.map (·.1)=ks.map (λns=>ns.map Sum.inl)/\ks.length<=1000000 /\
 ∀(q:Addr) (qs:List (Addr×List Int)),H q=none->(qs.map (·.2)).Perm ks->(qs.map (·.2)).Pairwise (λx y=>HT.lexLt y x=false)->(∀p∈qs,H p.1=some (.tup (p.2.map V.int)))->Q (.ref q) (upd H q (.lst (qs.map λp=>V.ref p.1)))
section
theorem znl {X:Cx}(hu:X.A.units + 64 < cLine):CallR X (.builtin "sorted") (rSortedAL X.K):=by
 intro aU s σ H xs us Q I r h;obtain⟨l,ps,rfl,hl,h64,ht,q⟩:=h;obtain⟨u,rfl,ru⟩:=vals1 r;cases ru;obtain⟨its,rv,pl,hz⟩:=I.list hl;have eits:its=ps.map λp=>Value.ref p.1:=by
  have e:(ps.map λp=>V.ref p.1)=(ps.map (·.1)).map V.ref:=by rw[xcr];rfl
  rw[e] at rv;rw[zpt rv,xcr]
  rfl
 subst eits;have tup:∀g:Heap,(∀b o,s.heap.get? b=some o->g.get? b=some o)->TupsG g ps:=λg keep p hp=>by
  obtain⟨us,rv',⟨o,b2,b3,n,b4⟩,_⟩:=I.tuple (ht p hp);exact⟨us,o,n,zef rv',keep _ _ b2,b3,b4⟩
 refine Srt.zny (Srt.rank (ps.map (·.2))) pl.isList (by rw[xbb];exact small10000 h64) (zwj (tup s.heap λ_ _ z=>z)) (λh2 g keep=>zbcs (by show X.A.units+1+1 < cLine;lia) (by rw[xbb] at h2;exact h2) (tup g keep)) (λp p1 p2=>?_);rw[xbb] at p1 p2;obtain⟨qs,q1,q2,q3⟩:=zub p1 p2;obtain⟨e,he⟩:=sortedAll_at s.heap (ps.map λp=>Value.ref p.1) (Srt.outOf (ps.map λp=>Value.ref p.1) p);rw[q3] at he ⊢;refine⟨.ref (s.heap.objs.size+1),_,I.laid (a:=s.heap.objs.size+1) (o:=.lst (qs.map λp=>V.ref p.1)) (t':=s.toks) (λ_ _ z=>sortedAll_old z) (xkt _) ⟨?_,_,e,zif qs,he⟩,rfl,q _ _ (I.hok.fresh (xkt _)) q1 q2⟩;rw[xbb,q1.length_eq];exact small10000 (by lia)
theorem zlr {X:Cx}(hc:X.calm=true)(hu:X.A.units + 64 < cLine):CallR X (.builtin "sorted") rSortedDAL:=by
 intro aU s σ H xs us Q I r h;obtain⟨a,kvs,ks,rfl,hd,ek,few,q⟩:=h;obtain⟨u,rfl,ru⟩:=vals1 r;cases ru;obtain⟨z,ns,ys,rel,ob,es,ep,e1,e2,e3,e4,e5⟩:=(show ObjOk X.prog X.w H s.heap a (.dT kvs) from hd.ok I.hok)
 obtain⟨ps,a1,a2,a3⟩:=znk (P:=X.prog) (w:=X.w) rel ek;have hpl:ps.length=ks.length:=by rw[← a1,xbb]
 have hes:es.toList.map (·.key)=ps.map λp=>Value.ref p.1:=by rw[e4,xcr];exact a3
 have hsz:es.size=ps.length:=by
  have:=congrArg List.length hes;rw[xbb,xbb,xcd] at this;exact this
 have tup:∀g:Heap,(∀b o,s.heap.get? b=some o->g.get? b=some o)->TupsG g ps:=λg keep p hp=>by
  obtain⟨us,rv,⟨o,b2,b3,n,b4⟩,_⟩:=I.tuple (SqT.of (a2 p hp));exact⟨us,o,n,zef rv,keep _ _ b2,b3,b4⟩
 refine Srt.zgh (Dct.zbih ns es ep) (I.ok.hd hc) ⟨ob,e1,e2,e3⟩ (small10000 (by lia)) λvs hl hv=>?_
 have evs:vs=ps.map λp=>Value.ref p.1:=by
  rw[← hes];apply xkn;intro i;by_cases hi:i < es.size
  ·have h1:vs[i]?=some vs[i]:=xbd (by lia);obtain⟨en,h2,h3⟩:=hv i _ h1;rw[h1,h3,xco,xch,h2]
   rfl
  ·rw[xhm (by lia),xhm (by rw[xbb,xcd];lia)]
 subst evs;refine⟨Srt.rank (ps.map (·.2)),zwj (tup s.heap λ_ _ z=>z),λh2 g tk keep=>zbcs (by show X.A.units+1+1 < cLine;lia) (by lia) (tup g keep),λp t g tk c p1 p2 keep ne eg=>?_⟩;rw[xbb] at p1 p2;obtain⟨qs,q1,q2,q3⟩:=zub p1 p2;rw[q3] at eg;refine⟨.ref t,_,I.laidN (o:=.lst (qs.map λp=>V.ref p.1)) keep ne ⟨?_,_,c,zif qs,eg⟩,rfl,q t qs (I.away ne) ((q1.map _).trans (by rw[a1])) q2 λp hp=>a2 p (q1.mem_iff.mp hp)⟩;rw[xbb,q1.length_eq];exact small10000 (by lia)
end
end L2
namespace L2
open PySem PySem.Spec PyProof.Rows
theorem zja {κ β:Type}[DecidableEq κ]{k:κ}:∀{xs:List (κ×β)} {j:Nat} {p:β},(xs.map (·.1)).Nodup->xs[j]?=some (k,p)->xs.eraseIdx j=xs.filter λx=>decide (x.1≠k)
 | [],_,_,_,e=>by simp at e
 | x::r,0,p,nd,e=>by
  simp at e;subst e;rw[xbu,xet] at nd;rw[List.eraseIdx_cons_zero,xcx (by simp)]
  symm
  rw[List.filter_eq_self];intro y hy;refine xbv λz=>nd.1 ?_
  rw[← z];exact xbk.mpr ⟨y,hy,rfl⟩
 | x::r,j+1,p,nd,e=>by
  rw[xbu,xet] at nd;have e':r[j]?=some (k,p):=by simpa using e
  have hx:x.1≠k:=λz=>nd.1 (by rw[z];exact xbk.mpr ⟨_,xbz e',rfl⟩)
  rw[xki,xcp (by simpa using hx),zja nd.2 e']
theorem zqs {α β:Type}(f:α->β):∀(l:List α) (j:Nat),(l.map f).eraseIdx j=(l.eraseIdx j).map f
 | [],_=>rfl
 | _::_,0=>rfl
 | x::l,j+1=>by rw[xbu,xki,xki,xbu,zqs f l j]
section
variable {κ:Type}[DecidableEq κ]
section
variable {prog:Program}{w:World}{knd:HeapKind prog w κ}{A:Around}{E:Value->Shared->Prop}{s:Shared}{d:Addr}{a:Addr}{k:κ}{xs:List (κ×Addr×Value)}{p:Addr×Value}
theorem zxy {W:Option DictEntry->Shared->Prop}(hu:knd.room A)(hkey:knd.is s.heap k a)(hm:s.heap.DictOfH knd d xs)(hp:atKey xs k=some p)(hsz:xs.length<=sizeLine)
  (fin:∀e h',e.val=p.2->h'.DictOfH knd d (xs.filter λx=>decide (x.1≠k))->Heap.SameBut d s.heap h'->W (some e) {s with heap:=h',toks:=s.toks+knd.draws k}) :
  wpAny (model prog w) A (Builtin.Dict.takeOut d (.ref a)) W E s:=by
 obtain⟨o,es,ep,ho,hc,hd,he,his,hn⟩:=hm;unfold Builtin.Dict.takeOut;refine xfe ?_;refine xba (knd.pyHash hu hkey ?_);refine xba (wpAny_dictFind_heap (s:={s with toks:=s.toks+knd.draws k}) hu hkey ho hd he his hn (λz=>?_) λj q hj=>?_)
 ·rw[atKey_none_of_get z] at hp;cases hp
 ·have hq:q=p:=by
   have z:=atKey_of_get hn hj;rw[hp] at z;exact(xcv z).symm
  subst hq;refine xba (xix (s:={s with toks:=s.toks+knd.draws k}) ho hd ?_);rw[entry_at he j,hj];have big:es.size<=sizeLine:=by have:=size_of_entries he;lia
  refine xba (wpAny_updateDictKeys (hz:=big) (s:={s with toks:=s.toks+knd.draws k}) ho hd (xbe (fin _ _ rfl ⟨_,_,ep+1,xfs _ ho (Obj.isFreed_of_dict (Obj.data_mapDictKeys hd _)),hc.mapDictKeys _,Obj.data_mapDictKeys hd _,?_,λx hx=>?_,?_⟩ (xfc ..))))
  ·rw[← zja hn hj];obtain⟨l⟩:=es;have he':l=xs.map (entryOfKey knd):=he;subst he';simp[zqs]
  ·exact knd.keeps (his x (xdo.mp hx).1) ho hd (xfc ..)
  ·exact List.Sublist.nodup (List.Sublist.map (λx:κ×Addr×Value=>x.1) List.filter_sublist) hn
end
theorem zbdu {knd:HeapKind prog w κ}{A:Around}{s:Shared}{W:Value->Shared->Prop}(hu:knd.room A.in1)(hkey:knd.is s.heap k a)(hm:s.heap.DictOfH knd d xs)(hp:atKey xs k=some p)(hsz:xs.length<=sizeLine)
  (fin:∀h',h'.DictOfH knd d (xs.filter λx=>decide (x.1≠k))->Heap.SameBut d s.heap h'->W p.2 {s with heap:=h',toks:=s.toks+knd.draws k}) :
  wpAny (model prog w) A (call (.builtin "dict.pop") [.ref d,.ref a]) W E s:=by
 have M:MeetsIn prog w (Builtin.«dict.pop» ⟨[.ref d,.ref a],[]⟩) (λB R g=>B=A/\g=s/\∀h',h'.DictOfH knd d (xs.filter λx=>decide (x.1≠k))->Heap.SameBut d s.heap h'->R (.ok (.ret p.2)) {s with heap:=h',toks:=s.toks+knd.draws k}) :=
  .of_wp λB R g hq0=>by
   obtain⟨hB,hg,q⟩:=hq0;subst hB hg;unfold Builtin.«dict.pop» Builtin.Dict.keyAndDefault;refine xba (xba (wpAny_notOrdered_dict hm.typeIs (xbe ?_)));obtain⟨o,es,ep,ho,hc,hd,he,his,hn⟩:=id hm;have ne:es.isEmpty=false:=by
    have:=size_of_entries he;cases xs with
    | nil=>cases hp
    | cons x r =>
     rw[xcb] at this;rw[Array.isEmpty_eq_false_iff];intro z;rw[z] at this;simp at this
   simp only[keyPart,Option.isSome_none,xcq,xeh];refine xba (xix ho hd (xba (xbe ?_)));rw[ne];simp only[xcq,xeh];refine xba (zxy hu hkey hm hp hsz λe h' hv dd hs=>?_);simp only[Option.isNone_some,xcq,xeh];exact xba (wpAny_letGo (xbe ⟨e.val,rfl,by rw[hv];exact q h' dd hs⟩))
 exact call_meetsIn F.slot_dict_pop hm.typeIs F.entry_dict_pop (F.args_dict_pop_2 _ _) M ⟨rfl,rfl,fin⟩
end
theorem KT.drop    (r:KT H kvs xs)(k:List Key):KT H (dropK kvs k) (xs.filter λx=>decide (x.1≠k)):=by
 unfold dropK
 induction r with
 | nil=>exact .nil
 | @cons p q ps qs h t ih =>
  by_cases e:p.1=k
  ·rw[xcx (by simp[e]),xcx (by simp[← h.1,e])];exact ih
  ·rw[xcp (by simp[e]),xcp (by simp[← h.1,e])];exact .cons h ih
section
theorem zbqy {X:Cx}{k:List Key}    (hu:X.A.units+1 < cLine)(I:Inv X aU σ H s)(e:H a=some (.dT kvs))(eb:H b=some (.tup (k.map kV)))(l:valV kvs k=some v)
  (h:∀ w' s', Inv X aU σ (upd H a (.dT (dropK kvs k))) s'->RelV v w'->Q w' s'):wpAny (model X.prog X.w) X.A (call (.builtin "dict.pop") [.ref a,.ref b]) Q E s:=by
 obtain⟨z,hd,xs,rel,dd⟩:=zbsw I.hok e;obtain⟨w',hw,rw'⟩:=RelO.some_of (v:=v) (o:=(atKey xs k).map (·.2)) (by rw[← l];exact rel.val k);cases hp:atKey xs k with
 | none=>rw[hp] at hw;cases hw
 | some p =>
  rw[hp] at hw;have hw':p.2=w':=xcv hw;subst hw';refine zbdu (xhh hu) (zot I.hok eb) dd hp (by rw[← xid rel];exact z) λh' dd' hs=>h _ _ ?_ rw'
  obtain⟨q,es,ep,hq,h2,h3,h4,_,h5⟩:=dd';refine zqv I (by rw[e];exact True.intro) hs ⟨q,hq⟩ ⟨xbc (xfh _ _) z,hd,_,(rel.drop k).keeps λc ys ec=>?_,q,es,ep,hq,h2,h3,h4,h5⟩;rw[zt (zbsp ec e (λz=>nomatch z))];exact ec
end
def tDPopT (td ty:TE):TE:=λσ H Q=>td σ H λx H1=>∃a,x=.ref a/\IsD H1 a/\ty σ H1 λy H2=>∃kvs k v b,H2 a=some (.dT kvs)/\y=.ref b/\H2 b=some (.tup (k.map kV))/\valV kvs k=some v/\Q v (upd H2 a (.dT (dropK kvs k)))
section
theorem zbeb {X:Cx}(hu:X.A.units + 1 < cLine)(ho:PE X o td)(he:PE X e ty)(m:M1 X o "pop" apos e cpos):PE X (.Call (.Attribute o "pop" apos) [e] [] cpos) (tDPopT td ty):=by
 intro aU s σ H Q I h;refine wpAny_Call_method m.base m.few m.line xke F.slot_dict_pop F.type_dict_pop (thn (ho aU s σ H _ I h) λu s1 hq0=>?_);obtain⟨x,H1,I1,rx,a,ex,d,q1⟩:=hq0;subst ex;obtain rfl:u=Value.ref a:=rx;obtain⟨t1,t2,_⟩:=zbkh I1 d;refine⟨t1,t2,?_⟩;rw[m.trees];refine xir rfl (xle (xig (thn (he aU s1 σ H1 _ I1 q1) λiv s2 ⟨y,H2,I2,ry,kvs,k,v,b,ea,ey,eb,l,q2⟩=>xkj ?_)));subst ey;cases(show iv=Value.ref b from ry);exact zbqy hu I2 ea eb l λw' s3 I3 rw'=>⟨v,_,I3,rw',q2⟩
end
def rCatA (K:Fg):R2:=λx y H Q=>∃a b xs ys,x=.ref a/\y=.ref b/\SqT K H a xs/\SqT K H b ys/\xs.length+ys.length<=sizeLine /\
 (xs=[]->Q (.ref b) H)/\(xs≠[]->ys=[]->Q (.ref a) H)/\(xs≠[]->ys≠[]->∀p,H p=none->Q (.ref p) (upd H p (.tup (xs++ys))))
section
theorem zbjm:OpR X (binaryOp .Add) (rCatA X.K):=by
 intro aU s σ H x y v u Q I rx ry h;obtain⟨a,b,xs,ys,rfl,rfl,ha,hb,hz,q0,q1,q2⟩:=h;by_cases hx:xs=[]
 ·cases rx;cases ry;obtain⟨its,r1,p1,_⟩:=I.tuple ha;obtain⟨its2,r2,p2,_⟩:=I.tuple hb;obtain⟨⟨cls,dd,data,sl⟩,ho,hc,n,hd⟩:=id p1;obtain⟨⟨cls2,dd2,data2,sl2⟩,ho2,hc2,n2,hd2⟩:=id p2;simp only at hc hd hc2 hd2;subst hc hd hc2 hd2;have e:its=[]:=r1.nil_iff.mpr hx;exact concat_meets ⟨_,ho,rfl⟩ ⟨_,ho2,rfl⟩ noFill_tuple_add seq_tuple_add xkq xkd (xjv _ _)
   (tuple_addW0 a b its.toArray its2.toArray n n2 dd dd2 sl sl2 (by simp[e])) ⟨ho,ho2,⟨.ref b,H,I,rfl,q0 hx⟩⟩
 ·exact zbjl aU s σ H _ _ v u Q I rx ry ⟨a,b,xs,ys,rfl,rfl,ha,hb,hx,hz,λz=>q1 hx z,λz=>q2 hx z⟩
end
section
theorem zbaj {s:Shared}    {lo hi:Option Int}{W:Value->Shared->Prop}(ht:IsTup s.heap t its)(hs:s.heap.IsSliceOf sl vl vu .none)(pl:IsPart vl lo)(pu:IsPart vu hi)
  (h0:HT.sIx its.size 0 lo=0)(h1:HT.sIx its.size its.size hi=its.size)(fin:W (.ref t) s):wpAny (model prog w) A (getItem (.ref t) (.ref sl)) W E s:=by
 obtain⟨os,hos,hcs,hds⟩:=id hs;unfold getItem
 try with_reducible refine xfe ?_
 first | refine xba (xbe ?_) | skip
 refine xba (wpAny_sequenceKey ht.typeIs (by decide) ?_);refine xba (wpAny_callSpecial?_slot (name:=Str.ofString "__getitem__") ht.typeIs xka (xfa xka ht.typeIs entry_tuple_getitem ?_ (args_tuple_getitem _ _)))
 show wpAny _ _ (Builtin.Tuple.tupleItemsOf (.ref t) >>= _) _ _ s;refine xba (tupleItemsOf_ ht ?_);have hTs:s.TypeIs (.ref sl) "slice":=⟨os,hos,hcs⟩
 refine xba (wpAny_typeOf hTs ?_);rw[if_pos (by decide)];refine xba (HT.zea hs pl pu ?_);have yes:(((HT.sIx its.size 0 lo:Nat):Int)==0&&(1:Int)==1&&(HT.sIx its.size its.size hi - HT.sIx its.size 0 lo)==its.size)=true:=by
  rw[h0,h1];simp
 show wpAny _ _ (if(((HT.sIx its.size 0 lo:Nat):Int)==0&&(1:Int)==1&&(HT.sIx its.size its.size hi - HT.sIx its.size 0 lo)==its.size)=true then _ else _) _ _ s;rw[if_pos yes];refine xba (?_:wpAny _ _ (Builtin.Tuple.tupleIsExact (.ref t)) _ _ s);unfold Builtin.Tuple.tupleIsExact;refine xba (wpAny_typeOf ht.typeIs (xbe ?_));rw[if_pos (by decide)];exact xba (xiq (xbe ⟨_,rfl,xbe fin⟩))
end
def rSlA (K:Fg):V->Option Int->Option Int->Hp->VK->Prop:=λx lo hi H Q=>∃a xs,x=.ref a/\SqT K H a xs/\(cutV xs lo hi=xs->Q (.ref a) H)/\∀p,H p=none->Q (.ref p) (upd H p (.tup (cutV xs lo hi)))
theorem zbic :SlR X (rSlA X.K):=by
 intro aU s σ H x v vl vu lo hi sl Q I rx hs pl pu h;obtain⟨a,xs,rfl,hx,q1,q2⟩:=h;by_cases hw:HT.sIx xs.length 0 lo=0/\HT.sIx xs.length xs.length hi=xs.length
 ·cases rx;obtain⟨its,r,ht,hz⟩:=I.tuple hx;have hlen:its.toArray.size=xs.length:=by rw[xbt];exact r.length.symm
  refine⟨"tuple", _,xka.lookup,ht.typeIs,?_⟩
  refine zbaj ht hs pl pu (by rw[hlen];exact hw.1) (by rw[hlen];exact hw.2) ⟨.ref a,H,I,rfl,q1 ?_⟩;unfold cutV;rw[hw.1,hw.2];simp
 ·exact zbno aU s σ H _ v vl vu lo hi sl Q I rx hs pl pu ⟨a,xs,rfl,hx,hw,q2⟩
theorem zjv (ns:List Int):∀k,k<=ns.length->preSum (λi=>ns.getD i 0) k=(ns.take k).sum
 | 0,_=>rfl
 | k+1,h=>by
  show preSum (λi=>ns.getD i 0) k+ns.getD k 0=_;rw[zjv ns k (by lia),xhv (by lia),xej,xbj,xbd (by lia)];simp
theorem zne:∀{ns:List Int} {us:List Value} {i:Nat} {v:Value},Vals (ns.map V.int) us->us[i]?=some v->∃t,v=.int (ns.getD i 0) t
 | [],_,_,_,.nil,e=>by simp at e
 | n::ns,_,0,_,.cons r _,e=>by
  simp at e;subst e
  obtain⟨t,rfl⟩:=r;exact⟨t,rfl⟩
 | n::ns,_,i+1,v,.cons _ t,e=>by
  have:=zne (i:=i) t (by simpa using e)
  simpa using this
def rSum (K:Fg):List V->Hp->VK->Prop:=λxs H Q=>∃(a:Addr) (ns:List Int),xs=[.ref a]/\(SqL K H a (ns.map V.int)\/SqT K H a (ns.map V.int))/\Q (.int ns.sum) H
theorem zlq {X:Cx}(hc:X.calm=true):CallR X (.builtin "sum") (rSum X.K):=by
 intro aU s σ H xs us Q I r h;obtain⟨a,ns,rfl,hs,q⟩:=h;obtain⟨u,rfl,ru⟩:=vals1 r;cases ru;have key:∀{its:List Value} (h':Heap) (tk:Nat) (t':Tok) (nn:Nat),nn=ns.length->(∀b o,b≠s.heap.objs.size->s.heap.get? b=some o->h'.get? b=some o) ->
   EP X aU σ Q (.int (preSum (λi=>ns.getD i 0) nn) t') {s with heap:=h',toks:=tk}:=λh' tk t' nn hn hk=>by
  subst hn;rw[zjv ns _ (xbf _),xce];exact⟨.int ns.sum,H,I.kept (t':=tk) λb o e=>hk b o (xci (xbx e)) e,⟨_,rfl⟩,q⟩
 refine call_sum_walkG ?_;rcases hs with hs | hs
 ·obtain⟨its,rv,pl,hz⟩:=I.list hs;have hlt:a < s.heap.objs.size:=by obtain⟨o,n,e,_⟩:=pl;exact xbx e
  have hl:=rv.length;rw[xbb] at hl;refine xiw pl.isList ?_;refine⟨s.heap.objs.size,_,[s.heap.objs.size],_,_,_,λi=>ns.getD i 0,rfl,Walks.list (A:=X.A.in1) (I.ok.hd hc) _ a (xci hlt) its.toArray,⟨⟨_,xcg _ rfl,rfl,rfl⟩,pl.isList.push _⟩,?_,λi v e=>zne rv (by simpa using e),λh' tk t' hk=>?_⟩
  ·intro b hb;show b < (s.heap.push _).objs.size;rw[show ∀o:Obj,(s.heap.push o).objs.size=s.heap.objs.size+1 from λo=>by simp[Heap.push]];rcases xbs.mp hb with rfl | hb
   ·exact xjh _
   ·rcases xbs.mp hb with rfl | hb
    ·exact xhq hlt
    ·cases hb
  ·exact key (its:=its) h' tk t' _ (by simp[hl]) λb o hb e=>hk b o (by simpa using hb) (xbn _ e)
 ·obtain⟨its,rv,pl,hz⟩:=I.tuple hs;have hlt:a < s.heap.objs.size:=pl.lt;have hl:=rv.length;rw[xbb] at hl;have pt:s.heap.IsTuple a its.toArray:=pl;refine xmg pt ?_;refine⟨s.heap.objs.size,_,[s.heap.objs.size],_,_,_,λi=>ns.getD i 0,rfl,Walks.tuple (A:=X.A.in1) (I.ok.hd hc) _ a (xci hlt) its.toArray,⟨⟨_,xcg _ rfl,rfl,rfl⟩,pt.push _⟩,?_,λi v e=>zne rv (by simpa using e),λh' tk t' hk=>?_⟩
  ·intro b hb;show b < (s.heap.push _).objs.size;rw[show ∀o:Obj,(s.heap.push o).objs.size=s.heap.objs.size+1 from λo=>by simp[Heap.push]];rcases xbs.mp hb with rfl | hb
   ·exact xjh _
   ·rcases xbs.mp hb with rfl | hb
    ·exact xhq hlt
    ·cases hb
  ·exact key (its:=its) h' tk t' _ (by simp[hl]) λb o hb e=>hk b o (by simpa using hb) (xbn _ e)
section
theorem Inv.turned2 {h':Heap}   (I:Inv X aU σ H s)(k:∀b o,b≠e->b≠it->s.heap.get? b=some o->h'.get? b=some o)(hn:H it=none)(hL:it≠X.env.locals)
  (h1:it∈X.ex\/X.s₀.heap.objs.size<=it)(h2:∀x c,X.env.cells.lookup x=some c->c≠it)(h3:∀p∈X.pn++aU,p.1≠it)(gn:H e=none)(gL:e≠X.env.locals)
  (g1:e∈X.ex\/X.s₀.heap.objs.size<=e)(g2:∀x c,X.env.cells.lookup x=some c->c≠e)(g3:∀p∈X.pn++aU,p.1≠e):Inv X aU σ H {s with heap:=h',toks:=t'}:=by
 have nit:∀b u,H b=some u->b≠it:=λb u e z=>by rw[z,hn] at e;cases e
 have nie:∀b u,H b=some u->b≠e:=λb u q z=>by rw[z,gn] at q;cases q
 refine I.step (g':=s.gens) (d':=s.drawn) (ch:=[e,it]) (λb hb=>?_) (λb o _ _ hc e _=>k b o (λz=>hc (by simp[z])) (λz=>hc (by simp[z])) e) (λb o _ _ hc e _=>⟨o.slots,k b o (λz=>hc (by simp[z])) (λz=>hc (by simp[z])) e⟩) (λ_ _ _ _ n=>n)
  (λb o hc e=>⟨o,k b o (λz=>hc (by simp[z])) (λz=>hc (by simp[z])) e⟩) (λ_ _ e=>e) (λ_ _ _ e=>e) (λb ps e=>⟨#[],by rw[e];simp⟩) (λm hm=>?_) (λb u e=>?_) I.bare
 ·rcases xbs.mp hb with z | z
  ·subst z;exact⟨g1,gL,g2,g3⟩
  ·have z':b=it:=by simpa using z
   subst z';exact⟨h1,hL,h2,h3⟩
 ·obtain⟨o,es,ep,ho,r⟩:=hm;exact⟨o,es,ep,k _ o (xer gL) (xer hL) ho,r⟩
 ·refine(I.hok b u e).stay (λc v hc q=>k c v ?_ ?_ q) (λ_ q=>q) λ_ _ q=>q
  ·rcases hc with z | z
   ·rw[z];exact nie b u e
   ·exact nie c _ z
  ·rcases hc with z | z
   ·rw[z];exact nit b u e
   ·exact nit c _ z
end
section
end
noncomputable def bestI (gt:Bool) (n:Int) (ns:List Int):Int:=ns.foldl (λi j=>if(if gt then decide (j > i) else decide (j < i))=true then j else i) n
theorem zpl:∀(ns:List Int) (n:Int),bestI true n ns∈n::ns/\∀a∈n::ns,a<=bestI true n ns
 | [],n=>⟨by simp[bestI],by simp[bestI]⟩
 | m::ns,n=>by
  have e:bestI true n (m::ns)=bestI true (if m > n then m else n) ns:=by simp[bestI]
  obtain⟨h1,h2⟩:=zpl ns (if m > n then m else n);rw[e];refine⟨?_,λa ha=>?_⟩
  ·rcases xbs.mp h1 with z | z
   ·rw[z];split<;>simp
   ·simp[z]
  ·have h3:=h2 _ xbp;rcases xbs.mp ha with rfl | ha
   ·refine Int.le_trans ?_ h3;split<;>lia
   ·rcases xbs.mp ha with rfl | ha
    ·refine Int.le_trans ?_ h3;split<;>lia
    ·exact h2 a (xbm _ ha)
theorem zwr  {ns:List Int}  (hk:k=ns.length):(n::ns).getD (argBest (λi j=>decide ((n::ns).getD i 0 >(n::ns).getD j 0)) k) 0=bestI true n ns:=by
 subst hk;obtain⟨h1,h2⟩:=argBest_gt (λi=>(n::ns).getD i 0) ns.length;obtain⟨g1,g2⟩:=zpl ns n;have hl:argBest (λi j=>decide ((n::ns).getD i 0 >(n::ns).getD j 0)) ns.length < (n::ns).length:=by rw[xcb];lia
 obtain⟨j,hj,ej⟩:=xem g1;have a1:=h2 j (by simp at hj;lia);have a2:=g2 ((n::ns).getD (argBest (λi j=>decide ((n::ns).getD i 0 >(n::ns).getD j 0)) ns.length) 0) (by rw[xbj,xbd hl];exact xda hl);have e:(n::ns).getD j 0=bestI true n ns:=by rw[xbj,xbd hj,ej];rfl
 rw[e] at a1;lia
def rBest (K:Fg) (gt:Bool):List V->Hp->VK->Prop:=λxs H Q=>∃(a:Addr) (n:Int) (ns:List Int),xs=[.ref a]/\(SqL K H a ((n::ns).map V.int)\/SqT K H a ((n::ns).map V.int))/\Q (.int (bestI gt n ns)) H
section
theorem zxp {X:Cx}       {ns:List Int}  (hc:X.calm=true)(I:Inv X aU σ H s)(hs:SqL X.K H a (ns.map V.int)\/SqT X.K H a (ns.map V.int))
  (h:∀I' fp wr P St s2,Walks X.prog X.w X.A.in1 I' fp wr ns.length P St->St 0 s2.heap->(∀b∈fp,b < s2.heap.objs.size)->(∀i v,P i v->∃t,v=.int (ns.getD i 0) t) ->
   (∀h' tk,(∀b o,b∉wr->s2.heap.get? b=some o->h'.get? b=some o)->Inv X aU σ H {s2 with heap:=h',toks:=tk})->R (.ref I') s2) :
  wpAny (model X.prog X.w) X.A.in1 (pyIter (.ref a)) R E s:=by
 have key:∀(o:Obj) (h':Heap) (tk:Nat),(∀b u,b∉[s.heap.objs.size]->(s.heap.push o).get? b=some u->h'.get? b=some u)->Inv X aU σ H {s with heap:=h',toks:=tk}:=λo h' tk hk =>
  I.kept (t':=tk) λb u e=>hk b u (by simp;exact xci (xbx e)) (xbn _ e)
 have low:∀(o:Obj),a < s.heap.objs.size->∀b∈[s.heap.objs.size,a],b < (s.heap.push o).objs.size:=λo hlt b hb=>by
  rw[Heap.size_push];have hb':b=s.heap.objs.size\/b=a:=by simpa using hb
  rcases hb' with z | z
  ·rw[z];exact xjh _
  ·rw[z];exact xhq hlt
 rcases hs with hs | hs
 ·obtain⟨its,rv,pl,hz⟩:=I.list hs;have hlt:a < s.heap.objs.size:=by obtain⟨o,n,e,_⟩:=pl;exact xbx e
  have hl:=rv.length;rw[xbb] at hl;have W:=Walks.list (prog:=X.prog) (w:=X.w) (A:=X.A.in1) (I.ok.hd hc) s.heap.objs.size a (xci hlt) its.toArray;rw[show its.toArray.size=ns.length from by rw[xbt];exact hl.symm] at W;exact xiw pl.isList (h _ _ _ _ _ { s with heap:=s.heap.push { cls:=.type "list_iterator", data:=.fields #[.ref a,.int 0 0] } } W ⟨⟨_,xcg _ rfl,rfl,rfl⟩,pl.isList.push _⟩ (low _ hlt) (λi v e=>zne rv (by simpa using e)) λh' tk hk=>key _ h' tk hk)
 ·obtain⟨its,rv,pl,hz⟩:=I.tuple hs;have hlt:a < s.heap.objs.size:=pl.lt;have hl:=rv.length;rw[xbb] at hl;have pt:s.heap.IsTuple a its.toArray:=pl;have W:=Walks.tuple (prog:=X.prog) (w:=X.w) (A:=X.A.in1) (I.ok.hd hc) s.heap.objs.size a (xci hlt) its.toArray;rw[show its.toArray.size=ns.length from by rw[xbt];exact hl.symm] at W;exact xmg pt (h _ _ _ _ _ { s with heap:=s.heap.push { cls:=.type "tuple_iterator", data:=.fields #[.ref a,.int 0 0] } } W ⟨⟨_,xcg _ rfl,rfl,rfl⟩,pt.push _⟩ (low _ hlt) (λi v e=>zne rv (by simpa using e)) λh' tk hk=>key _ h' tk hk)
theorem zbao {X:Cx}(hc:X.calm=true):CallR X (.builtin "max") (rBest X.K true):=by
 intro aU s σ H xs us Q I r h;obtain⟨a,n,ns,rfl,hs,q⟩:=h;obtain⟨u,rfl,ru⟩:=vals1 r;cases ru;refine call_max_walk (zxp hc I hs λI' fp wr P St s2 W au low val keep=>?_);refine⟨I',fp,wr,_,P,St,_,rfl,W,au,low,by simp,CmpOf.ints_gt (λi=>(n::ns).getD i 0) val,λv h' tk hP hk=>?_⟩;obtain⟨t,rfl⟩:=val _ _ hP;rw[zwr (by simp)];exact⟨.int (bestI true n ns),H,keep h' tk hk,⟨_,rfl⟩,q⟩
end
section
end
section
end
section
end
section
end
end L2
namespace Dd
open PySem L2
set_option genInjectivity true in
inductive D where
 | non | bl (b:Bool) | int (i:Int) | str (x:Str) | ty (n:String) | ref (n:Nat) | tup (ds:List D) | lst (ds:List D) | scr (ds:List D) | exn (c:Str) (l:List Int)
set_option genInjectivity true in
inductive O where
 /-- a list that may change;a dict by tuples of ints;one that is only read;gone -/
 | lst (xs:List D) | dT (kvs:List (List Int×D)) | fT (kvs:List (List Int×D)) | dead
 /-- a dict by ints -/
 | dI (kvs:List (Int×D))
 /-- the law's table of codes -/
 | tab
noncomputable abbrev Store:=List O
structure Exc where
 cls:Str
 at_:List Int
set_option genInjectivity true in
inductive Res (α:Type) where
 | ok (a:α) (au:Store) | exc (x:Exc) (au:Store) | stuck
def Res.bind {α β:Type}:Res α->(α->Store->Res β)->Res β
 | .ok a au,f=>f a au
 | .exc x au,_=>.exc x au
 | .stuck,_=>.stuck
@[simp] theorem zdh {α β:Type} (a:α) (au:Store) (f:α->Store->Res β):(Res.ok a au).bind f=f a au:=rfl
@[simp] theorem zbrp {α β:Type} (x:Exc) (au:Store) (f:α->Store->Res β):(Res.exc x au:Res α).bind f=.exc x au:=rfl
@[simp] theorem zbmn {α β:Type} (f:α->Store->Res β):(Res.stuck:Res α).bind f=.stuck:=rfl
theorem za {α β:Type}{r:Res α}{f:α->Store->Res β}{b:β}{st':Store}(h:r.bind f=.ok b st'):∃a au,r=.ok a au/\f a au=.ok b st':=by
 cases r with
 | ok a au=>exact⟨a,au,rfl,h⟩
 | exc x au=>cases h
 | stuck=>cases h
noncomputable abbrev DS:=List (Option D)
abbrev SE:=DS->Store->Res D
abbrev ST:=DS->Store->Res Bool
abbrev SA:=DS->Store->Res (List D)
set_option genInjectivity true in
inductive Fl where
 | nx (σ:DS) | ret (v:D) | brk (σ:DS) | ct (σ:DS)
abbrev SS:=DS->Store->Res Fl
abbrev DFn:=List D->Store->Res D
structure Loc where
 m:List (Option Addr)
 g:List Addr
def Out (ρ:Loc) (a:Addr):Prop:=some a∉ρ.m/\a∉ρ.g
def Ls (K:Fg) (ρ:Loc) (H:Hp) (a:Addr) (vs:List V):Prop:=(Rd H a (.lst vs)/\Out ρ a)\/∀H':Hp,SqL K H' a vs
def XAt (K:Fg) (ρ:Loc) (H:Hp) (c:Str) (l:List Int) (a:Addr):Prop:=∃C o,W.nsIn K mainGlobals c=some (some (.ref C))/\(H a=some (.frz o (.ext λ_=>True))/\Out ρ a)/\o.cls=.ref C/\(∃vs,o.data=.fields vs/\vs[2]?=some .none) /\
 ((l=[]/\o.dict=none)\/∃ i dx od,l=[i]/\o.dict=some dx/\H dx=some (.frz od (.xd [("at", .int i)]))/\Out ρ dx)
theorem XAt.map {K:Fg}      (h:XAt K ρ H c l a)(f:∀b ob u,H b=some (.frz ob u)->Out ρ b->H' b=some (.frz ob u)/\Out ρ' b):XAt K ρ' H' c l a:=by
 obtain⟨C,o,h1,h2,h3,h4,h5⟩:=h;refine⟨C,o,h1,f _ _ _ h2.1 h2.2,h3,h4,?_⟩;rcases h5 with h5 | ⟨i,dx,od,h6,h7,h8,h9⟩
 ·exact .inl h5
 ·exact .inr ⟨i,dx,od,h6,h7,(f _ _ _ h8 h9).1,(f _ _ _ h8 h9).2⟩
mutual
inductive At (K:Fg) (ρ:Loc) (H:Hp):D->V->Prop
 | non:At K ρ H .non .non
 | bl (b:Bool):At K ρ H (.bl b) (.bl b)
 | int (i:Int):At K ρ H (.int i) (.int i)
 | str (x:Str):At K ρ H (.str x) (.str x)
 | ty (n:String):At K ρ H (.ty n) (.ty n)
 | ref {n:Nat} {v:V}:n < ρ.m.length->(∀a,ρ.m[n]?=some (some a)->v=.ref a)->At K ρ H (.ref n) v
 | tup {a:Addr} {ds:List D} {vs:List V}:H a=some (.tup vs)->Out ρ a->AtAll K ρ H ds vs->At K ρ H (.tup ds) (.ref a)
 | lst {a:Addr} {ds:List D} {vs:List V}:H a=some (.lst vs)->Out ρ a->AtAll K ρ H ds vs->At K ρ H (.lst ds) (.ref a)
 | scr {a:Addr} {ds:List D} {vs:List V}:Ls K ρ H a vs->AtAll K ρ H ds vs->At K ρ H (.scr ds) (.ref a)
 | exn {c:Str} {l:List Int} {a:Addr}:XAt K ρ H c l a->At K ρ H (.exn c l) (.ref a)
inductive AtAll (K:Fg) (ρ:Loc) (H:Hp):List D->List V->Prop
 | nil:AtAll K ρ H [] []
 | cons {d:D} {ds:List D} {v:V} {vs:List V}:At K ρ H d v->AtAll K ρ H ds vs->AtAll K ρ H (d::ds) (v::vs)
end
structure Mv (ρ:Loc) (H:Hp) (ρ':Loc) (H':Hp):Prop where
 out:∀{a:Addr} {o:HO},H a=some o->Out ρ a->H' a=some o/\Out ρ' a
 len:ρ.m.length<=ρ'.m.length
 old:∀(n:Nat) (a:Addr),n < ρ.m.length->ρ'.m[n]?=some (some a)->ρ.m[n]?=some (some a)
theorem Ls.mv {K:Fg}     (x:Mv ρ H ρ' H')(h:Ls K ρ H a vs):Ls K ρ' H' a vs:=by
 rcases h with⟨h | ⟨o,h⟩,n⟩ | h
 ·exact .inl ⟨.inl (x.out h n).1,(x.out h n).2⟩
 ·exact .inl ⟨.inr ⟨o,(x.out h n).1⟩,(x.out h n).2⟩
 ·exact .inr h
theorem At.mv {K:Fg}   (x:Mv ρ H ρ' H')   (h:At K ρ H d v):At K ρ' H' d v :=
 At.rec (motive_1:=λd v _=>At K ρ' H' d v) (motive_2:=λd v _=>AtAll K ρ' H' d v) .non .bl .int .str .ty (λh e=>.ref (xbh h x.len) λa q=>e a (x.old _ a h q)) (λh n _ ih=>.tup (x.out h n).1 (x.out h n).2 ih) (λh n _ ih=>.lst (x.out h n).1 (x.out h n).2 ih) (λh _ ih=>.scr (h.mv x) ih) (λh=>.exn (h.map λ_ _ _ e n=>x.out e n)) .nil (λ_ _ a b=>.cons a b) h
theorem AtAll.mv {K:Fg}   (x:Mv ρ H ρ' H')   (h:AtAll K ρ H d v):AtAll K ρ' H' d v :=
 AtAll.rec (motive_1:=λ_ _ _=>True) (motive_2:=λd v _=>AtAll K ρ' H' d v) trivial (λ_=>trivial) (λ_=>trivial) (λ_=>trivial) (λ_=>trivial) (λ_ _=>trivial) (λ_ _ _ _=>trivial) (λ_ _ _ _=>trivial) (λ_ _ _=>trivial) (λ_=>trivial) .nil (λa _ _ b=>.cons (a.mv x) b) h
structure Ext (ρ:Loc) (H:Hp) (ρ':Loc) (H':Hp):Prop where
 len:ρ.m.length<=ρ'.m.length
 old:∀(n:Nat) (a:Addr),n < ρ.m.length->ρ'.m[n]?=some (some a)->ρ.m[n]?=some (some a)
 keep:∀a o,H a=some o->some a∉ρ.m->H' a=some o/\some a∉ρ'.m
 gho:ρ'.g=ρ.g
 frz:∀a ob u,H a=some (.frz ob u)->H' a=some (.frz ob u)
theorem Ext.out   (x:Ext ρ H ρ' H')   (h:H a=some o)(n:Out ρ a):H' a=some o/\Out ρ' a :=
 ⟨(x.keep a o h n.1).1,(x.keep a o h n.1).2,by rw[x.gho];exact n.2⟩
theorem Ext.mv   (x:Ext ρ H ρ' H'):Mv ρ H ρ' H':=⟨λh n=>x.out h n,x.len,x.old⟩
theorem Ls.sq {K:Fg}     (h:Ls K ρ H a vs):SqL K H a vs:=by
 rcases h with h | h
 ·exact .inl h.1
 ·exact h H
section
theorem Ext.refl (ρ:Loc)(H:Hp):Ext ρ H ρ H:=⟨xbf _,λ_ _ _ e=>e,λ_ _ e n=>⟨e,n⟩,rfl,λ_ _ _ e=>e⟩
theorem Ext.trans   (a:Ext ρ H ρ1 H1)(b:Ext ρ1 H1 ρ2 H2):Ext ρ H ρ2 H2 :=
 ⟨xbc a.len b.len,λn c h e=>a.old n c h (b.old n c (xbh h a.len) e),λc o e n=>by
  obtain⟨e1,n1⟩:=a.keep c o e n
  exact b.keep c o e1 n1,b.gho.trans a.gho,λc ob u e=>b.frz c ob u (a.frz c ob u e)⟩
theorem At.ext {K:Fg}   (x:Ext ρ H ρ' H')   (h:At K ρ H d v):At K ρ' H' d v:=h.mv x.mv
theorem AtAll.ext {K:Fg}   (x:Ext ρ H ρ' H')   (h:AtAll K ρ H d v):AtAll K ρ' H' d v:=h.mv x.mv
theorem AtAll.length {K:Fg}  :∀{ds:List D} {vs:List V},AtAll K ρ H ds vs->vs.length=ds.length
 | _,_,.nil=>rfl
 | _,_,.cons _ t=>by rw[xcb,xcb,AtAll.length t]
theorem AtAll.get {K:Fg}  :∀{ds:List D} {vs:List V} {i:Nat} {d:D},AtAll K ρ H ds vs->ds[i]?=some d->∃v,vs[i]?=some v/\At K ρ H d v
 | _,_,_,_,.nil,e=>by simp at e
 | _,_,0,_,.cons a _,e=>by simp at e;subst e;exact⟨_,rfl,a⟩
 | _,_,i+1,d,.cons _ t,e=>by
  obtain⟨u,h1,h2⟩:=AtAll.get (i:=i) (d:=d) t (by simpa using e);exact⟨u,by simpa using h1,h2⟩
theorem AtAll.append {K:Fg}  :∀{ds es:List D} {vs us:List V},AtAll K ρ H ds vs->AtAll K ρ H es us->AtAll K ρ H (ds++es) (vs++us)
 | _,_,_,_,.nil,b=>b
 | _,_,_,_,.cons a t,b=>.cons a (AtAll.append t b)
theorem AtAll.take {K:Fg}  :∀{ds:List D} {vs:List V} (n:Nat),AtAll K ρ H ds vs->AtAll K ρ H (ds.take n) (vs.take n)
 | _,_,0,_=>.nil
 | _,_,_+1,.nil=>.nil
 | _,_,n+1,.cons a t=>.cons a (AtAll.take n t)
theorem AtAll.drop {K:Fg}  :∀{ds:List D} {vs:List V} (n:Nat),AtAll K ρ H ds vs->AtAll K ρ H (ds.drop n) (vs.drop n)
 | _,_,0,h=>h
 | _,_,_+1,.nil=>.nil
 | _,_,n+1,.cons a t=>AtAll.drop n t
theorem AtAll.set {K:Fg}     (a:At K ρ H d v):∀{ds:List D} {vs:List V} (n:Nat),AtAll K ρ H ds vs->AtAll K ρ H (ds.set n d) (vs.set n v)
 | _,_,_,.nil=>.nil
 | _,_,0,.cons _ t=>.cons a t
 | _,_,n+1,.cons b t=>.cons b (AtAll.set a n t)
def KvAt (K:Fg) (ρ:Loc) (H:Hp):List (List Int×D)->List (List Key×V)->Prop:=Paired λp q=>q.1=p.1.map Sum.inl/\At K ρ H p.2 q.2
theorem KvAt.ext {K:Fg}   (x:Ext ρ H ρ' H')   (h:KvAt K ρ H a b):KvAt K ρ' H' a b:=Paired.mapP h λp q z=>⟨z.1,z.2.ext x⟩
noncomputable abbrev lamQ:Str:=(("law" : Str)++".<locals>.")++"<lambda>"
def TabOk (H:Hp) (ps:Array Value):Prop:=TriplesOk ps.toList/\∀pos cv,codeAmong pos ps.toList=some cv->∃c oc vs t,cv=.ref c/\H c=some (.frz oc (.ext λ_=>True))/\oc.data=.fields vs/\vs[1]?=some (.str lamQ t)
theorem TabOk.map   (h:TabOk H ps)(f:∀b ob u,H b=some (.frz ob u)->H' b=some (.frz ob u)):TabOk H' ps :=
 ⟨h.1,λpos cv e=>by obtain⟨c,oc,vs,t,e1,e2,e3⟩:=h.2 pos cv e;exact⟨c,oc,vs,t,e1,f _ _ _ e2,e3⟩⟩
def KiAt (K:Fg) (ρ:Loc) (H:Hp):List (Int×D)->List (Key×V)->Prop:=Paired λp q=>q.1=Sum.inl p.1/\At K ρ H p.2 q.2
theorem KiAt.ext {K:Fg}   (x:Ext ρ H ρ' H')   (h:KiAt K ρ H a b):KiAt K ρ' H' a b:=Paired.mapP h λp q z=>⟨z.1,z.2.ext x⟩
def OAt (K:Fg) (ρ:Loc) (H:Hp):O->Addr->Prop
 | .lst xs,a=>∃vs,H a=some (.lst vs)/\AtAll K ρ H xs vs
 | .dT kvs,a=>∃vs,H a=some (.dT vs)/\KvAt K ρ H kvs vs
 | .fT kvs,a=>∃vs ob,H a=some (.frz ob (.dT vs))/\KvAt K ρ H kvs vs
 | .dI kvs,a=>∃vs,H a=some (.dK vs)/\KiAt K ρ H kvs vs
 | .dead,_=>False
 | .tab,a=>(∃ c,W.tabIn K "law"=some (c,a))/\∃ ps,H a=some (.tbl ps)/\TabOk H ps
structure Rep (K:Fg) (ρ:Loc) (au:Store) (H:Hp):Prop where
 len:ρ.m.length=au.length
 inj:∀(n m:Nat) (a:Addr),ρ.m[n]?=some (some a)->ρ.m[m]?=some (some a)->n=m
 obj:∀(n:Nat) (a:Addr) (o:O),ρ.m[n]?=some (some a)->au[n]?=some o->OAt K ρ H o a
 gh:∀a∈ρ.g,(∃vs,H a=some (.lst vs))/\some a∉ρ.m
 live:∀(n:Nat) (o:O),au[n]?=some o->o≠.dead->∃a,ρ.m[n]?=some (some a)
def AtO (K:Fg) (ρ:Loc) (H:Hp) (o:Option D) (v:Option V):Prop:=∀d,o=some d->∃u,v=some u/\At K ρ H d u
abbrev AtS (K:Fg) (ρ:Loc) (H:Hp):DS->St->Prop:=Paired (AtO K ρ H)
theorem AtS.ext {K:Fg}   (x:Ext ρ H ρ' H')   (h:AtS K ρ H σ τ):AtS K ρ' H' σ τ:=Paired.mapP h λo v z d e=>by
 obtain⟨u,e1,a⟩:=z d e;exact⟨u,e1,a.ext x⟩
theorem AtS.get {K:Fg}  :∀{σ:DS} {τ:St} {i:Nat} {d:D},AtS K ρ H σ τ->σ[i]?=some (some d)->∃u,τ[i]?=some (some u)/\At K ρ H d u
 | _,_,_,_,.nil,e=>by simp at e
 | _,_,0,_,.cons a _,e=>by
  simp at e;subst e
  obtain⟨u,e1,h⟩:=a _ rfl;exact⟨u,by simp[e1],h⟩
 | _,_,i+1,d,.cons _ t,e=>by
  obtain⟨u,h1,h2⟩:=AtS.get (i:=i) (d:=d) t (by simpa using e);exact⟨u,by simpa using h1,h2⟩
theorem AtS.set {K:Fg}     (a:At K ρ H d v):∀{σ:DS} {τ:St} (i:Nat),AtS K ρ H σ τ->AtS K ρ H (σ.set i (some d)) (τ.set i (some v))
 | _,_,_,.nil=>.nil
 | _,_,0,.cons _ t=>.cons (λd' e=>by cases e;exact⟨v,rfl,a⟩) t
 | _,_,i+1,.cons q t=>.cons q (AtS.set a i t)
end
def tD (K:Fg) (f:SE):TE:=λτ H Q=>∃ρ σ au v st',AtS K ρ H σ τ/\Rep K ρ au H/\f σ au=.ok v st'/\∀ρ' H' u,Ext ρ H ρ' H'->Rep K ρ' st' H'->At K ρ' H' v u->Q u H'
def tDT (K:Fg) (f:ST):TT:=λτ H Q=>∃ρ σ au v st',AtS K ρ H σ τ/\Rep K ρ au H/\f σ au=.ok v st'/\∀ρ' H',Ext ρ H ρ' H'->Rep K ρ' st' H'->Q v H'
def tDA (K:Fg) (f:SA):TA:=λτ H Q=>∃ρ σ au v st',AtS K ρ H σ τ/\Rep K ρ au H/\f σ au=.ok v st'/\∀ρ' H' u,Ext ρ H ρ' H'->Rep K ρ' st' H'->AtAll K ρ' H' v u->Q u H'
def FlOk (K:Fg) (ρ:Loc) (H:Hp) (st':Store) (E:Ends):Fl->Prop
 | .nx σ=>∀ρ' H' τ,Ext ρ H ρ' H'->Rep K ρ' st' H'->AtS K ρ' H' σ τ->E.nx τ H'
 | .brk σ=>∀ρ' H' τ,Ext ρ H ρ' H'->Rep K ρ' st' H'->AtS K ρ' H' σ τ->E.bk τ H'
 | .ct σ=>∀ρ' H' τ,Ext ρ H ρ' H'->Rep K ρ' st' H'->AtS K ρ' H' σ τ->E.ct τ H'
 | .ret v=>∀ρ' H' u,Ext ρ H ρ' H'->Rep K ρ' st' H'->At K ρ' H' v u->E.rt u H'
theorem FlOk.ext {K:Fg}      (x:Ext ρ H ρ1 H1)(h:FlOk K ρ H st' E fl):FlOk K ρ1 H1 st' E fl:=by
 cases fl with
 | nx σ=>exact λρ' H' τ e=>h ρ' H' τ (x.trans e)
 | brk σ=>exact λρ' H' τ e=>h ρ' H' τ (x.trans e)
 | ct σ=>exact λρ' H' τ e=>h ρ' H' τ (x.trans e)
 | ret v=>exact λρ' H' τ e=>h ρ' H' τ (x.trans e)
def tDS (K:Fg) (f:SS):TS:=λE τ H=>∃ρ σ au fl st',AtS K ρ H σ τ/\Rep K ρ au H/\f σ au=.ok fl st'/\FlOk K ρ H st' E fl
abbrev DE (X:Cx) (e:Expr) (f:SE):Prop:=PE X e (tD X.K f)
abbrev DT (X:Cx) (e:Expr) (f:ST):Prop:=PT X e (tDT X.K f)
abbrev DW (X:Cx) (e:Expr) (f:ST):Prop:=PW X e (tDT X.K f)
abbrev DA (X:Cx) (es:List Expr) (f:SA):Prop:=PA X es (tDA X.K f)
abbrev DSt (X:Cx) (s:Stmt) (f:SS):Prop:=PS X s (tDS X.K f)
abbrev DSs (X:Cx) (s:List Stmt) (f:SS):Prop:=PSs X s (tDS X.K f)
section
theorem zfr  (h:PE X e t)(k:∀σ H Q,t' σ H Q->t σ H Q):PE X e t':=λaU s σ H Q I q=>h aU s σ H Q I (k _ _ _ q)
theorem zbnb  (h:PT X e t)(k:∀σ H Q,t' σ H Q->t σ H Q):PT X e t':=λaU s σ H Q I q=>h aU s σ H Q I (k _ _ _ q)
theorem pw_to  (h:PW X e t)(k:∀σ H Q,t' σ H Q->t σ H Q):PW X e t':=λwh aU s σ H Q I q=>h wh aU s σ H Q I (k _ _ _ q)
theorem zbsn  (h:PA X es t)(k:∀σ H Q,t' σ H Q->t σ H Q):PA X es t':=λpos aU s σ H Q I q=>h pos aU s σ H Q I (k _ _ _ q)
theorem ztv  (h:PS X s t)(k:∀E σ H,t' E σ H->t E σ H):PS X s t':=λaU z σ H E I q=>h aU z σ H E I (k _ _ _ q)
theorem zbil  (h:PSs X ss t)(k:∀E σ H,t' E σ H->t E σ H):PSs X ss t':=λaU z σ H E I q=>h aU z σ H E I (k _ _ _ q)
end
def aA (i:Nat):SE:=λσ au=>match σ[i]? with
 | some (some d)=>.ok d au
 | _=>.stuck
def eC (d:D):SE:=λ_ au=>.ok d au
section
theorem zbui   (h:PE X e (tVar i)):DE X e (aA i):=zfr h λτ H Q hq0=>by
 obtain⟨ρ,σ,au,v,st',a,r,e,q⟩:=hq0;unfold aA at e;split at e
 ·rename_i d hd;cases e;obtain⟨u,e1,e2⟩:=a.get hd;exact⟨u,e1,q ρ H u (.refl _ _) r e2⟩
 ·cases e
theorem zbls    (h:PE X e (tC v))(k:∀ρ H,At X.K ρ H d v):DE X e (eC d):=zfr h λτ H Q hq0=>by
 obtain⟨ρ,σ,au,v,st',a,r,e,q⟩:=hq0;cases e;exact q ρ H _ (.refl _ _) r (k _ _)
theorem zbuq {i j pos}:DE X (.Constant (.int i) j pos) (eC (.int i)):=zbls zboq λ_ _=>.int i
theorem d_bl {b j pos}:DE X (.Constant (.bool b) j pos) (eC (.bl b)):=zbls zbto λ_ _=>.bl b
theorem zbuo {j pos}:DE X (.Constant .none j pos) (eC .non):=zbls zbop λ_ _=>.non
theorem zbuk {x j pos}:DE X (.Constant (.str x) j pos) (eC (.str x)):=zbls zbom λ_ _=>.str x
end
def aS (g:D->D->Store->Res D) (f f':SE):SE:=λσ au=>(f σ au).bind λx st1=>(f' σ st1).bind λy st2=>g x y st2
def eUn (g:D->Store->Res D) (f:SE):SE:=λσ au=>(f σ au).bind λx st1=>g x st1
def OpD (K:Fg) (g:D->D->Store->Res D) (r:R2):Prop :=
 ∀ρ H au x y u v z st' (Q:VK),Rep K ρ au H->At K ρ H x u->At K ρ H y v->g x y au=.ok z st'->(∀ρ' H' w,Ext ρ H ρ' H'->Rep K ρ' st' H'->At K ρ' H' z w->Q w H')->r u v H Q
theorem zbnc {K:Fg}   (hr:OpD K g r) :∀τ H Q,tD K (aS g f f') τ H Q->tOp r (tD K f) (tD K f') τ H Q:=λτ H Q hq0=>by
 obtain⟨ρ,σ,au,v,st',a,rp,e,q⟩:=hq0;obtain⟨x,st1,e1,e⟩:=za e;obtain⟨y,st2,e2,e⟩:=za e;refine⟨ρ,σ,au,x,st1,a,rp,e1,λρ1 H1 u x1 rp1 a1=>?_⟩;refine⟨ρ1,σ,st1,y,st2,a.ext x1,rp1,e2,λρ2 H2 w x2 rp2 a2=>?_⟩;exact hr ρ2 H2 st2 x y u w v st' Q rp2 (a1.ext x2) a2 e λρ' H' z x3 rp3 a3=>q ρ' H' z (x1.trans (x2.trans x3)) rp3 a3
section
theorem d_op    (ho:OpR X (binaryOp op) r)(hr:OpD X.K g r)(ha:DE X a f)(hb:DE X b f'):DE X (.BinOp a op b pos) (aS g f f'):=zfr (zbtm ho ha hb) (zbnc hr)
theorem zbur    (ho:OpR X (compareOp op) r)(hr:OpD X.K g r)(ha:DE X a f)(hb:DE X b f')(hm:behindInMarks op b=false):DE X (.Compare a [op] [b] pos) (aS g f f'):=zfr (zbja ho ha hb hm) (zbnc hr)
def eB (f:SE):ST:=λσ au=>(f σ au).bind λv st1=>match v with
 | .bl b=>.ok b st1
 | _=>.stuck
theorem eB_t {K:Fg} :∀τ H Q,tDT K (eB f) τ H Q->tD K f τ H λx H1=>∃c,x=.bl c/\Q c H1:=λτ H Q hq0=>by
 obtain⟨ρ,σ,au,v,st',a,rp,e,q⟩:=hq0;obtain⟨x,st1,e1,e⟩:=za e;refine⟨ρ,σ,au,x,st1,a,rp,e1,λρ1 H1 u x1 rp1 a1=>?_⟩;cases x<;>try (cases e;done)
 cases e;cases a1;exact⟨_,rfl,q _ _ x1 rp1⟩
theorem zbqn    (ho:OpR X (compareOp op) r)(hr:OpD X.K g r)(ha:DE X a f)(hb:DE X b f')(hm:behindInMarks op b=false):DT X (.Compare a [op] [b] pos) (eB (aS g f f')) :=
 zbnb (zbik ho ha hb hm) λτ H Q h=>zbnc hr _ _ _ (eB_t _ _ _ h)
def eChain (g g':D->D->Store->Res D) (f f' f'':SE):SE:=λσ au=>(f σ au).bind λx st1=>(f' σ st1).bind λy st2=>(g x y st2).bind λz st3=>match z with
 | .bl true=>(f'' σ st3).bind λw st4=>g' y w st4
 | .bl false=>.ok (.bl false) st3
 | _=>.stuck
end
end Dd
namespace Dd
open PySem L2
section
theorem Ext.new (hp:H p=none)(o:HO):Ext ρ H ρ (upd H p o):=⟨xbf _,λ_ _ _ e=>e,λb u e m=>⟨by rw[zt (zn e hp)];exact e,m⟩,rfl,λb ob u e=>by rw[zt (zn e hp)];exact e⟩
section
variable {H:Hp}{a:Addr}
theorem zgn {vs:List V}(h:H a=some (.lst vs)):∀ob u,H a≠some (.frz ob u):=λob u z=>by rw[h] at z;cases z
theorem zjz {vs:List (List Key×V)}(h:H a=some (.dT vs)):∀ob u,H a≠some (.frz ob u):=λob u z=>by rw[h] at z;cases z
end
theorem Ext.wr {ρ:Loc}{n:Nat}(h:ρ.m[n]?=some (some a))(hz:∀ob u,H a≠some (.frz ob u))(o:HO):Ext ρ H ρ (upd H a o):=⟨xbf _,λ_ _ _ e=>e,λb u e m=>⟨by
 rw[zt]
 ·exact e
 ·rintro rfl
  exact m (xbz h),m⟩,rfl,λb ob u e=>by
 rw[zt]
 ·exact e
 ·rintro rfl
  exact hz _ _ e⟩
theorem OAt.has {K:Fg}  (h:OAt K ρ H x a):∃u,H a=some u:=by
 cases x with
 | lst xs=>obtain⟨vs,e,_⟩:=h;exact⟨_,e⟩
 | dT kvs=>obtain⟨vs,e,_⟩:=h;exact⟨_,e⟩
 | fT kvs=>obtain⟨vs,ob,e,_⟩:=h;exact⟨_,e⟩
 | dI kvs=>obtain⟨vs,e,_⟩:=h;exact⟨_,e⟩
 | dead=>exact h.elim
 | tab=>obtain⟨_,ps,e,_⟩:=h;exact⟨_,e⟩
theorem OAt.ext {K:Fg}    (e:Ext ρ H ρ' H')(same:H' a=H a)(h:OAt K ρ H x a):OAt K ρ' H' x a:=by
 cases x with
 | lst xs=>obtain⟨vs,q,r⟩:=h;exact⟨vs,by rw[same];exact q,r.ext e⟩
 | dT kvs=>obtain⟨vs,q,r⟩:=h;exact⟨vs,by rw[same];exact q,r.ext e⟩
 | fT kvs=>obtain⟨vs,ob,q,r⟩:=h;exact⟨vs,ob,by rw[same];exact q,r.ext e⟩
 | dI kvs=>obtain⟨vs,q,r⟩:=h;exact⟨vs,by rw[same];exact q,r.ext e⟩
 | dead=>exact h.elim
 | tab=>obtain⟨c,ps,q,r⟩:=h;exact⟨c,ps,by rw[same];exact q,r.map e.frz⟩
theorem Rep.has {K:Fg}{n:Nat}(r:Rep K ρ au H)(h:ρ.m[n]?=some (some a)):∃x,au[n]?=some x/\OAt K ρ H x a:=by
 have hn:n < au.length:=by rw[← r.len];exact(xbg.mp h).1
 exact⟨au[n],xbd hn,r.obj n a _ h (xbd hn)⟩
theorem Rep.new {K:Fg}(r:Rep K ρ au H)(hp:H p=none)(o:HO):Rep K ρ au (upd H p o):=⟨r.len,r.inj,λm b x e1 e2=>by
 have q:=r.obj m b x e1 e2;obtain⟨u,hu⟩:=q.has;exact q.ext (Ext.new hp o) (zt (zn hu hp)),λb hb=>by
 obtain⟨⟨u,hu⟩,n⟩:=r.gh b hb
 exact⟨⟨u,by rw[zt (zn hu hp)];exact hu⟩,n⟩,r.live⟩
theorem Rep.wr {K:Fg}(r:Rep K ρ au H)(h:ρ.m[n]?=some (some a))(hz:∀ob u,H a≠some (.frz ob u))   (q:OAt K ρ (upd H a o) x a):Rep K ρ (au.set n x) (upd H a o):=⟨by rw[r.len,xei],r.inj,λm b y e1 e2=>by
 by_cases hm:m=n
 ·subst hm;have hb:b=a:=by rw[h] at e1;exact(xcv (xcv e1)).symm
  subst hb;have hl:m < au.length:=by rw[← r.len];exact(xbg.mp h).1
  rw[xdv hl] at e2;cases e2;exact q
 ·rw[xcl (xer hm)] at e2;refine(r.obj m b y e1 e2).ext (Ext.wr h hz o) (zt λz=>hm ?_);subst z;exact r.inj m n b e1 h,λb hb=>by
 obtain⟨⟨u,hu⟩,n1⟩:=r.gh b hb;refine⟨⟨u,?_⟩,n1⟩;rw[zt]
 ·exact hu
 ·rintro rfl;exact n1 (xbz h),λm y e ne=>by
 by_cases hm:m=n
 ·subst hm;exact⟨a,h⟩
 ·rw[xcl (xer hm)] at e
  exact r.live m y e ne⟩
theorem Rep.alloc {K:Fg}(r:Rep K ρ au H)(hp:H p=none)   (q:Ext ρ H ⟨ρ.m++[some p],ρ.g⟩ (upd H p o)->OAt K ⟨ρ.m++[some p],ρ.g⟩ (upd H p o) x p):Ext ρ H ⟨ρ.m++[some p],ρ.g⟩ (upd H p o)/\Rep K ⟨ρ.m++[some p],ρ.g⟩ (au++[x]) (upd H p o):=by
 have hn:∀(m:Nat) (b:Addr),(ρ.m++[some p])[m]?=some (some b)->(m < ρ.m.length/\ρ.m[m]?=some (some b))\/(m=ρ.m.length/\b=p):=λm b e=>by
  rcases xff m ρ.m.length with z | z
  ·rw[xbw z] at e;exact .inl ⟨z,e⟩
  ·rw[xct z] at e;have z2:m - ρ.m.length=0:=by
    have:=(xbg.mp e).1;simp at this;lia
   rw[z2] at e;simp at e;exact .inr ⟨by lia,e.symm⟩
 have nl:∀(m:Nat),ρ.m[m]?≠some (some p):=λm e=>by
  obtain⟨x,_,q⟩:=r.has e;obtain⟨u,hu⟩:=q.has;rw[hp] at hu;cases hu
 have E:Ext ρ H ⟨ρ.m++[some p],ρ.g⟩ (upd H p o):=⟨by rw[xbi];lia,λm b h e=>by
   rw[xbw h] at e;exact e,λb u e m=>⟨by rw[zt (zn e hp)];exact e,λz=>by
   rcases xbr.mp z with z | z
   ·exact m z
   ·simp at z;subst z;rw[hp] at e;cases e⟩,rfl,λb ob u e=>by rw[zt (zn e hp)];exact e⟩
 refine⟨E,⟨by rw[xbi,xbi,r.len];rfl,λm k b e1 e2=>?_,λm b y e1 e2=>?_,λb hb=>?_,λm y e ne=>?_⟩⟩
 ·rcases hn m b e1 with⟨h1,q1⟩ | ⟨h1,rfl⟩
  ·rcases hn k b e2 with⟨h2,q2⟩ | ⟨h2,rfl⟩
   ·exact r.inj m k b q1 q2
   ·exact absurd q1 (nl m)
  ·rcases hn k b e2 with⟨h2,q2⟩ | ⟨h2,_⟩
   ·exact absurd q2 (nl k)
   ·lia
 ·rcases hn m b e1 with⟨h1,q1⟩ | ⟨h1,rfl⟩
  ·rw[xbw (by rw[← r.len];exact h1)] at e2;have q:=r.obj m b y q1 e2;obtain⟨u,hu⟩:=q.has;exact q.ext E (zt (zn hu hp))
  ·rw[h1,r.len,xct (xbf _)] at e2;simp at e2;subst e2;exact q E
 ·obtain⟨⟨u,hu⟩,n1⟩:=r.gh b hb;refine⟨⟨u,by rw[zt (zn hu hp)];exact hu⟩,λz=>?_⟩;rcases xbr.mp z with z | z
  ·exact n1 z
  ·simp at z;subst z;rw[hp] at hu;cases hu
 ·rcases xff m au.length with z | z
  ·rw[xbw z] at e;obtain⟨b,hb⟩:=r.live m y e ne;exact⟨b,by rw[xbw (by rw[r.len];exact z)];exact hb⟩
  ·have z2:=(xbg.mp e).1;simp at z2;have z3:m=ρ.m.length:=by rw[r.len];lia
   exact⟨p,by rw[z3,xct (xbf _)];simp⟩
theorem Rep.kill {K:Fg}(r:Rep K ρ au H)(h:n < ρ.m.length):Ext ρ H ⟨ρ.m.set n none,ρ.g⟩ H/\Rep K ⟨ρ.m.set n none,ρ.g⟩ (au.set n .dead) H:=by
 have hn:∀(m:Nat) (b:Addr),(ρ.m.set n none)[m]?=some (some b)->m≠n/\ρ.m[m]?=some (some b):=λm b e=>by
  by_cases z:m=n
  ·subst z;rw[xdv h] at e;simp at e
  ·rw[xcl (xer z)] at e;exact⟨z,e⟩
 have E:Ext ρ H ⟨ρ.m.set n none,ρ.g⟩ H:=⟨by rw[xei];exact xbf _,λm b _ e=>(hn m b e).2,λb o e m=>⟨e,λz=>by
  obtain⟨i,hi,e2⟩:=xem z;have:(ρ.m.set n none)[i]?=some (some b):=by rw[xbd hi,e2]
  exact m (xbz (hn i b this).2)⟩,rfl,λ_ _ _ e=>e⟩
 refine⟨E,⟨by rw[xei,xei,r.len],λm k b e1 e2=>r.inj m k b (hn m b e1).2 (hn k b e2).2,λm b y e1 e2=>?_,λb hb=>⟨(r.gh b hb).1,λz=>?_⟩,λm y e ne=>?_⟩⟩
 rotate_left
 ·obtain⟨i,hi,e2⟩:=xem z;have:(ρ.m.set n none)[i]?=some (some b):=by rw[xbd hi,e2]
  exact(r.gh b hb).2 (xbz (hn i b this).2)
 ·have z:m≠n:=by
   rintro rfl;rw[xdv (by rw[← r.len];exact h)] at e;cases e;exact ne rfl
  rw[xcl (xer z)] at e;obtain⟨b,hb⟩:=r.live m y e ne;exact⟨b,by rw[xcl (xer z)];exact hb⟩
 obtain⟨z,q⟩:=hn m b e1;rw[xcl (xer z)] at e2;exact(r.obj m b y q e2).ext E rfl
theorem zla {K:Fg}(r:Rep K ρ au H)(hp:H p=none):Out ρ p:=by
 refine⟨λz=>?_,λz=>?_⟩
 ·obtain⟨i,hi,e⟩:=xem z;obtain⟨x,_,q⟩:=r.has (n:=i) (a:=p) (by rw[xbd hi,e]);obtain⟨u,hu⟩:=q.has;rw[hp] at hu;cases hu
 ·obtain⟨⟨u,hu⟩,_⟩:=r.gh p z;rw[hp] at hu;cases hu
theorem At.newT {K:Fg}(r:Rep K ρ au H)(hp:H p=none)   (h:AtAll K ρ H ds vs):At K ρ (upd H p (.tup vs)) (.tup ds) (.ref p):=.tup zq (zla r hp) (h.ext (Ext.new hp _))
theorem At.newL {K:Fg}(r:Rep K ρ au H)(hp:H p=none)   (h:AtAll K ρ H ds vs):At K ρ (upd H p (.lst vs)) (.lst ds) (.ref p):=.lst zq (zla r hp) (h.ext (Ext.new hp _))
end
def eAnd (f f':SE):SE:=λσ au=>(f σ au).bind λv st1=>match v with
 | .bl true=>f' σ st1
 | .bl false=>.ok (.bl false) st1
 | _=>.stuck
def eOr (f f':SE):SE:=λσ au=>(f σ au).bind λv st1=>match v with
 | .bl true=>.ok (.bl true) st1
 | .bl false=>f' σ st1
 | _=>.stuck
def eNot (f:SE):SE:=λσ au=>(f σ au).bind λv st1=>match v with
 | .bl b=>.ok (.bl (!b)) st1
 | _=>.stuck
def bAnd (f f':ST):ST:=λσ au=>(f σ au).bind λb st1=>if b=true then f' σ st1 else .ok false st1
def bOr (f f':ST):ST:=λσ au=>(f σ au).bind λb st1=>if b=true then .ok true st1 else f' σ st1
def bNot (f:ST):ST:=λσ au=>(f σ au).bind λb st1=>.ok (!b) st1
def eIf (c:ST) (f f':SE):SE:=λσ au=>(c σ au).bind λb st1=>if b=true then f σ st1 else f' σ st1
section
theorem zbum {op}(h:DE X a f):DE X (.BoolOp op [a] pos) f:=zbon h
section
variable {X:Cx}{a:Expr}{b:Expr}{rest:List Expr}{f:SE}{f':SE}{pos:Pos}
theorem zbus (ha:DE X a f)(hb:DE X (.BoolOp .And (b::rest) pos) f'):DE X (.BoolOp .And (a::b::rest) pos) (eAnd f f'):=zfr (zbot ha hb) λτ H Q hq0=>by
 obtain⟨ρ,σ,au,v,st',at',rp,e,q⟩:=hq0;obtain⟨x,st1,e1,e⟩:=za e;refine⟨ρ,σ,au,x,st1,at',rp,e1,λρ1 H1 u x1 rp1 a1=>?_⟩;cases x<;>try (cases e;done)
 rename_i bb;cases a1;refine⟨bb,rfl,?_⟩;cases bb with
 | true =>
  rw[if_pos rfl];exact⟨ρ1,σ,st1,v,st',at'.ext x1,rp1,e,λρ' H' u x2=>q ρ' H' u (x1.trans x2)⟩
 | false =>
  rw[if_neg (by decide)];cases e;exact q _ _ _ x1 rp1 (.bl false)
end
theorem zbun (ha:DE X a f):DE X (.UnaryOp .Not a pos) (eNot f):=zfr (zboo ha) λτ H Q hq0=>by
 obtain⟨ρ,σ,au,v,st',at',rp,e,q⟩:=hq0;obtain⟨x,st1,e1,e⟩:=za e;refine⟨ρ,σ,au,x,st1,at',rp,e1,λρ1 H1 u x1 rp1 a1=>?_⟩;cases x<;>try (cases e;done)
 rename_i bb;cases a1;cases e;exact⟨bb,rfl,q _ _ _ x1 rp1 (.bl _)⟩
theorem zbqj {op}(h:DT X a t)(hop:op=.And\/op=.Or):DW X (.BoolOp op [a] pos) t:=by
 rcases hop with rfl | rfl
 ·exact pw_and1 h
 ·exact pw_or1 h
section
variable {X:Cx}{a:Expr}{b:Expr}{rest:List Expr}{t:ST}{t':ST}{pos:Pos}
theorem zbqk (ha:DT X a t)(hb:DW X (.BoolOp .And (b::rest) pos) t'):DW X (.BoolOp .And (a::b::rest) pos) (bAnd t t'):=pw_to (pw_and ha hb) λτ H Q hq0=>by
 obtain⟨ρ,σ,au,v,st',at',rp,e,q⟩:=hq0;obtain⟨x,st1,e1,e⟩:=za e;refine⟨ρ,σ,au,x,st1,at',rp,e1,λρ1 H1 x1 rp1=>?_⟩;cases x with
 | true=>exact iteT ⟨ρ1,σ,st1,v,st',at'.ext x1,rp1,e,λρ' H' x2=>q ρ' H' (x1.trans x2)⟩
 | false=>cases e;exact iteF (q _ _ x1 rp1)
theorem zbuf (ha:DT X a t)(hb:DW X (.BoolOp .Or (b::rest) pos) t'):DW X (.BoolOp .Or (a::b::rest) pos) (bOr t t'):=pw_to (pw_or ha hb) λτ H Q hq0=>by
 obtain⟨ρ,σ,au,v,st',at',rp,e,q⟩:=hq0;obtain⟨x,st1,e1,e⟩:=za e;refine⟨ρ,σ,au,x,st1,at',rp,e1,λρ1 H1 x1 rp1=>?_⟩;cases x with
 | false=>exact iteF ⟨ρ1,σ,st1,v,st',at'.ext x1,rp1,e,λρ' H' x2=>q ρ' H' (x1.trans x2)⟩
 | true=>cases e;exact iteT (q _ _ x1 rp1)
end
theorem zbqm (ha:DT X a t):DT X (.UnaryOp .Not a pos) (bNot t):=zbnb (zboa ha) λτ H Q hq0=>by
 obtain⟨ρ,σ,au,v,st',at',rp,e,q⟩:=hq0;obtain⟨x,st1,e1,e⟩:=za e;cases e;exact⟨ρ,σ,au,x,_,at',rp,e1,λρ1 H1 x1 rp1=>q _ _ x1 rp1⟩
theorem d_if  (hc:DT X c t)(ha:DE X a f)(hb:DE X b f'):DE X (.IfExp c a b pos) (eIf t f f'):=zfr (zbea hc ha hb) λτ H Q hq0=>by
 obtain⟨ρ,σ,au,v,st',at',rp,e,q⟩:=hq0;obtain⟨x,st1,e1,e⟩:=za e;refine⟨ρ,σ,au,x,st1,at',rp,e1,λρ1 H1 x1 rp1=>?_⟩;cases x with
 | true=>exact iteT ⟨ρ1,σ,st1,v,st',at'.ext x1,rp1,e,λρ' H' u x2=>q ρ' H' u (x1.trans x2)⟩
 | false=>exact iteF ⟨ρ1,σ,st1,v,st',at'.ext x1,rp1,e,λρ' H' u x2=>q ρ' H' u (x1.trans x2)⟩
end
def aC:SA:=λ_ au=>.ok [] au
def aB (f:SE) (g:SA):SA:=λσ au=>(f σ au).bind λx st1=>(g σ st1).bind λxs st2=>.ok (x::xs) st2
def aR (g:SA):SE:=λσ au=>(g σ au).bind λxs st1=>if xs.length<=sizeLine then .ok (.tup xs) st1 else .stuck
def eLst (g:SA):SE:=λσ au=>(g σ au).bind λxs st1=>if xs.length<=sizeLine then .ok (.lst xs) st1 else .stuck
def eLstM (g:SA):SE:=λσ au=>(g σ au).bind λxs st1=>if xs.length<=sizeLine then .ok (.ref st1.length) (st1++[.lst xs]) else .stuck
section
theorem zbqw:DA X [] aC:=zbsn zbje λτ H Q hq0=>by
 obtain⟨ρ,σ,au,v,st',a,rp,e,q⟩:=hq0;cases e;exact q _ _ _ (.refl _ _) rp .nil
theorem zblm (ha:DE X e f)(hr:DA X es g)(hs:starEach (e::es) X.env=(false,eval e X.env)::starEach es X.env:=by rfl):DA X (e::es) (aB f g):=zbsn (zbbe ha hr hs) λτ H Q hq0=>by
 obtain⟨ρ,σ,au,v,st',a,rp,e,q⟩:=hq0;obtain⟨x,st1,e1,e⟩:=za e;obtain⟨y,st2,e2,e⟩:=za e;cases e;refine⟨ρ,σ,au,x,st1,a,rp,e1,λρ1 H1 u x1 rp1 a1=>?_⟩;exact⟨ρ1,σ,st1,y,_,a.ext x1,rp1,e2,λρ2 H2 w x2 rp2 a2=>q _ _ _ (x1.trans x2) rp2 (.cons (a1.ext x2) a2)⟩
theorem zbuj {x1}(h:DA X es g):DE X (.Tuple es x1 pos) (aR g):=zfr (zbol h) λτ H Q hq0=>by
 obtain⟨ρ,σ,au,v,st',a,rp,e,q⟩:=hq0;obtain⟨x,st1,e1,e⟩:=za e;split at e
 ·rename_i hl;cases e;refine⟨ρ,σ,au,x,_,a,rp,e1,λρ1 H1 u x1 rp1 a1=>⟨by rw[a1.length];exact hl,λp hp=>?_⟩⟩;exact q ρ1 _ _ (x1.trans (Ext.new hp _)) (rp1.new hp _) (.newT rp1 hp a1)
 ·cases e
theorem zbup (h:DA X es g):DE X (.List es pos) (eLst g):=zfr (zbiz h) λτ H Q hq0=>by
 obtain⟨ρ,σ,au,v,st',a,rp,e,q⟩:=hq0;obtain⟨x,st1,e1,e⟩:=za e;split at e
 ·rename_i hl;cases e;refine⟨ρ,σ,au,x,_,a,rp,e1,λρ1 H1 u x1 rp1 a1=>⟨by rw[a1.length];exact hl,λp hp=>?_⟩⟩;exact q ρ1 _ _ (x1.trans (Ext.new hp _)) (rp1.new hp _) (.newL rp1 hp a1)
 ·cases e
theorem At.last {K:Fg}{ρ:Loc}    (h:n=ρ.m.length):At K ⟨ρ.m++[some p],ρ.g⟩ H (.ref n) (.ref p):=by
 subst h;refine .ref (by simp) λa e=>?_
 simp at e;rw[e]
theorem zbqz (h:DA X es g):DE X (.List es pos) (eLstM g):=zfr (zbiz h) λτ H Q hq0=>by
 obtain⟨ρ,σ,au,v,st',a,rp,e,q⟩:=hq0;obtain⟨x,st1,e1,e⟩:=za e;split at e
 ·rename_i hl;cases e;refine⟨ρ,σ,au,x,_,a,rp,e1,λρ1 H1 u x1 rp1 a1=>⟨by rw[a1.length];exact hl,λp hp=>?_⟩⟩;obtain⟨E,R⟩:=rp1.alloc hp (x:=.lst x) (o:=.lst u) λE=>⟨u,zq,a1.ext E⟩
  exact q _ _ _ (x1.trans E) R (.last rp1.len.symm)
 ·cases e
end
def asL (au:Store):D->Option (List D)
 | .lst xs=>some xs
 | .ref n=>match au[n]? with
  | some (.lst xs)=>some xs
  | _=>none
 | _=>none
section
theorem zeb {K:Fg}(rp:Rep K ρ au H)   (a:At K ρ H (.ref n) u)(e:au[n]?=some o)(hd:o≠.dead):∃p,u=.ref p/\ρ.m[n]?=some (some p)/\OAt K ρ H o p:=by
 cases a with
 | ref h1 h2 =>
  obtain⟨p,hp⟩:=rp.live n o e hd;exact⟨p,h2 p hp,hp,rp.obj n p o hp e⟩
theorem zgv {K:Fg}(rp:Rep K ρ au H)(a:At K ρ H d u)(e:asL au d=some xs):∃p vs,u=.ref p/\H p=some (.lst vs)/\AtAll K ρ H xs vs:=by
 cases d<;>try (cases e;done)
 ·rename_i n;unfold asL at e;dsimp only at e;split at e
  ·rename_i ys hys;cases e;obtain⟨p,rfl,hp,vs,q1,q2⟩:=zeb rp a hys (by intro z;cases z);exact⟨p,vs,rfl,q1,q2⟩
  ·cases e
 ·cases e;cases a with
  | lst h1 h2 h3=>exact⟨_,_,rfl,h1,h3⟩
end
def oI (C:Int->Int->Prop) [DecidableRel C] (h:Int->Int->D) (x y:D) (au:Store):Res D:=match x,y with
 | .int i,.int j=>if C i j then .ok (h i j) au else .stuck
 | _,_=>.stuck
theorem oI_D {K:Fg}  [DecidableRel C]   (k:∀i j ρ H,At K ρ H (h i j) (g i j)):OpD K (oI C h) (rI C g):=λρ H au x y u v z st' Q rp a b e q=>by
 unfold oI at e;split at e
 ·cases a;cases b;split at e
  ·rename_i hc;cases e;exact⟨_,_,rfl,rfl,hc,q _ _ _ (.refl _ _) rp (k _ _ _ _)⟩
  ·cases e
 ·cases e
theorem zfa {K:Fg}   (k:∀i j ρ H,At K ρ H (h i j) (g i j)):OpD K (oI (λ_ _=>True) h) (rI0 g):=λρ H au x y u v z st' Q rp a b e q=>by
 obtain⟨i,j,e1,e2,_,e3⟩:=oI_D (C:=λ_ _=>True) k ρ H au x y u v z st' Q rp a b e q;exact⟨i,j,e1,e2,e3⟩
instance:DecidableRel CMul:=λi j=>by unfold CMul;infer_instance
instance:DecidableRel CDivP:=λi j=>by unfold CDivP;infer_instance
instance:DecidableRel CPow:=λi j=>by unfold CPow;infer_instance
abbrev oSub:=oI (λ_ _=>True) λi j=>.int (i - j)
abbrev oFdiv:=oI CDivP λi j=>.int (i / j)
abbrev oMod:=oI (λ_ j=>0 < j) λi j=>.int (i % j)
abbrev oAndI:=oI (λ_ _=>True) λi j=>.int (Builtin.bitAnd i j)
abbrev oPow:=oI CPow λi j=>.int (i ^ j.toNat)
abbrev oShl:=oI CPow λi j=>.int (i * 2 ^ j.toNat)
abbrev oShr:=oI (λ_ j=>0<=j) λi j=>.int (i / 2 ^ j.toNat)
abbrev oMulI:=oI CMul λi j=>.int (i * j)
def aM (x y:D) (au:Store):Res D:=match x,y with
 | .int i,.int j=>.ok (.int (i+j)) au
 | .tup a,.tup b=>if a.length+b.length<=sizeLine then .ok (.tup (a++b)) au else .stuck
 | .str a,.str b=>if a.length+b.length<=sizeLine then .ok (.str (a++b)) au else .stuck
 | x,y=>match asL au x,asL au y with
  | some a,some b=>if a.length+b.length<=sizeLine then .ok (.lst (a++b)) au else .stuck
  | _,_=>.stuck
abbrev rAddA (K:Fg):R2:=λx y H Q=>rI0 (λi j=>.int (i+j)) x y H Q\/rCatA K x y H Q\/(∃i j,x=.str i/\y=.str j/\i.length+j.length<=sizeLine/\Q (.str (i++j)) H)\/rCat x y H Q
section
theorem zug:OpR X (binaryOp .Add) (rAddA X.K):=zbpc.or (zbjm.or (zuf.or zbpb))
theorem zbeo {K:Fg}:OpD K aM (rAddA K):=λρ H au x y u v z st' Q rp a b e q=>by
 unfold aM at e;split at e
 ·cases a;cases b;cases e;exact .inl ⟨_,_,rfl,rfl,q _ _ _ (.refl _ _) rp (.int _)⟩
 ·rename_i ds es;split at e
  ·rename_i hl;cases e;refine .inr (.inl ?_);cases a with
   | tup h1 h2 h3 =>
    cases b with
    | tup k1 k2 k3 =>
     refine⟨_,_,_,_,rfl,rfl,SqT.of h1,SqT.of k1,by rw[h3.length,k3.length];exact hl,λz=>?_,λz1 z2=>?_,λz1 z2 p hp=>?_⟩
     ·subst z;cases h3;exact q _ _ _ (.refl _ _) rp (.tup k1 k2 k3)
     ·subst z2;cases k3;rw[xcy] at q;exact q _ _ _ (.refl _ _) rp (.tup h1 h2 h3)
     ·exact q _ _ _ (Ext.new hp _) (rp.new hp _) (.newT rp hp (h3.append k3))
  ·cases e
 ·split at e
  ·rename_i hl;cases a;cases b;cases e;exact .inr (.inr (.inl ⟨_,_,rfl,rfl,hl,q _ _ _ (.refl _ _) rp (.str _)⟩))
  ·cases e
 ·split at e
  ·rename_i h1 h2;split at e
   ·rename_i hl;cases e;obtain⟨p,vs,rfl,g1,g2⟩:=zgv rp a h1;obtain⟨p',ws,rfl,k1,k2⟩:=zgv rp b h2;exact .inr (.inr (.inr ⟨_,_,_,_,rfl,rfl,g1,k1,by rw[g2.length,k2.length];exact hl,λt ht=>q _ _ _ (Ext.new ht _) (rp.new ht _) (.newL rp ht (g2.append k2))⟩))
   ·cases e
  ·cases e
end
abbrev oLe:=oI (λ_ _=>True) λi j=>.bl (decide (i<=j))
abbrev oGt:=oI (λ_ _=>True) λi j=>.bl (decide (j < i))
abbrev oGe:=oI (λ_ _=>True) λi j=>.bl (decide (j<=i))
mutual
noncomputable def toData:D->Option PyData
 | .non=>some .none
 | .bl b=>some (.bool b)
 | .int i=>some (.int i)
 | .str x=>some (.str x)
 | .tup ds=>(toDatas ds).map .tuple
 | .lst ds=>(toDatas ds).map .list
 | _=>none
noncomputable def toDatas:List D->Option (List PyData)
 | []=>some []
 | d::ds=>(toData d).bind λx=>(toDatas ds).map λxs=>x::xs
end
mutual
theorem zbck {K:Fg}{ρ:Loc}{H:Hp}:∀{d:D} {v:V} {p:PyData},At K ρ H d v->toData d=some p->DAt K H v p
 | _,_,_,.non,e=>by cases e;exact .non
 | _,_,_,.bl b,e=>by cases e;exact .bl b
 | _,_,_,.int i,e=>by cases e;exact .int i
 | _,_,_,.str x,e=>by cases e;exact .str x
 | _,_,_,.ty n,e=>by cases e
 | _,_,_,.exn _,e=>by cases e
 | _,_,_,.ref _ _,e=>by cases e
 | _,_,_,.tup h _ al,e=>by
  rw[toData] at e;obtain⟨ps,e1,rfl⟩:=xdj.mp e;exact .tup (SqT.of h) (zln al e1)
 | _,_,_,.lst h _ al,e=>by
  rw[toData] at e;obtain⟨ps,e1,rfl⟩:=xdj.mp e;exact .lst (SqL.of h) (zln al e1)
 | _,_,_,.scr _ _,e=>by cases e
theorem zln {K:Fg}{ρ:Loc}{H:Hp}:∀{d:List D} {v:List V} {p:List PyData},AtAll K ρ H d v->toDatas d=some p->DAll K H v p
 | _,_,_,.nil,e=>by cases e;exact .nil
 | _,_,_,.cons a b,e=>by
  rw[toDatas] at e;obtain⟨x,e1,e⟩:=xeq.mp e;obtain⟨xs,e2,rfl⟩:=xdj.mp e;exact .cons (zbck a e1) (zln b e2)
end
def now (au:Store) (d:D):D:=match asL au d with
 | some xs=>.lst xs
 | none=>d
def dataOf (au:Store) (d:D):Option PyData:=toData (now au d)
theorem zqu {K:Fg}    (rp:Rep K ρ au H)    (a:At K ρ H d u)(e:dataOf au d=some p):DAt K H u p:=by
 unfold dataOf now at e;split at e
 ·rename_i xs hx;obtain⟨q,vs,rfl,h1,h2⟩:=zgv rp a hx;rw[toData] at e;obtain⟨ps,e1,rfl⟩:=xdj.mp e;exact .lst (SqL.of h1) (zln h2 e1)
 ·exact zbck a e
def oEqG (neg:Bool) (x y:D) (au:Store):Res D:=match dataOf au x,dataOf au y with
 | some a,some b=>if PySem.SeqAt.shaped a=true/\PySem.SeqAt.shaped b=true then .ok (.bl (if neg then !PyData.eqv a b else PyData.eqv a b)) au else .stuck
 | _,_=>.stuck
theorem zsb {K:Fg} :OpD K (oEqG neg) (rEqX K neg):=λρ H au x y u v z st' Q rp a b e q=>by
 unfold oEqG at e;split at e
 ·rename_i p1 p2 h1 h2;split at e
  ·rename_i hs;cases e;exact⟨_,_,zqu rp a h1,zqu rp b h2,hs.1,hs.2,q _ _ _ (.refl _ _) rp (.bl _)⟩
  ·cases e
 ·cases e
abbrev oEq:=oEqG false
abbrev oNe:=oEqG true
def oIsN (neg:Bool) (x y:D) (au:Store):Res D:=match x,y with
 | .ref _,_=>.stuck
 | .non,.non=>.ok (.bl (!neg)) au
 | _,.non=>.ok (.bl neg) au
 | _,_=>.stuck
theorem zbpe {K:Fg}:OpD K (oIsN false) (λx y H Q=>y=.non/\Q (.bl (decide (x=.non))) H):=λρ H au x y u v z st' Q rp a b e q=>by
 unfold oIsN at e;split at e<;>try (cases e;done)
 ·cases a;cases b;cases e
  exact⟨rfl,q _ _ _ (.refl _ _) rp (by simp;exact .bl _)⟩
 ·rename_i h1 h2;cases b;cases e
  refine⟨rfl,q _ _ _ (.refl _ _) rp ?_⟩;have:u≠.non:=by
   rintro rfl;cases a<;>first | exact h2 rfl | exact h1 _ rfl
  rw[xby this];exact .bl _
noncomputable def asInts:List D->Option (List Int)
 | []=>some []
 | .int i::r=>(asInts r).map (i::·)
 | _::_=>none
theorem zcx {K:Fg}  :∀{ds:List D} {vs:List V} {ns:List Int},AtAll K ρ H ds vs->asInts ds=some ns->vs=ns.map V.int
 | _,_,_,.nil,e=>by cases e;rfl
 | _,_,_,.cons (d:=d) a b,e=>by
  cases d<;>try (cases e;done)
  rw[asInts] at e;obtain⟨ms,e1,rfl⟩:=xdj.mp e;cases a;rw[zcx b e1]
  rfl
def oLtT (x y:D) (au:Store):Res D:=match x,y with
 | .int i,.int j=>.ok (.bl (decide (i < j))) au
 | .tup a,.tup b=>match asInts a,asInts b with
  | some ns,some ms=>.ok (.bl (HT.lexLt ns ms)) au
  | _,_=>.stuck
 | _,_=>.stuck
abbrev rLtA (K:Fg):R2:=λx y H Q=>rI0 (λi j=>.bl (decide (i < j))) x y H Q\/rLtT K x y H Q
theorem zue {X:Cx}(hu:X.A.units < cLine):OpR X (compareOp .Lt) (rLtA X.K):=zbtq.or (zboy hu)
theorem zuo {K:Fg}:OpD K oLtT (rLtA K):=λρ H au x y u v z st' Q rp a b e q=>by
 unfold oLtT at e;split at e
 ·cases a;cases b;cases e
  exact .inl ⟨_,_,rfl,rfl,q _ _ _ (.refl _ _) rp (.bl _)⟩
 ·split at e
  ·rename_i h1 h2;cases e;cases a with
   | tup g1 g2 g3 =>
    cases b with
    | tup k1 k2 k3 =>
     have e1:=zcx g3 h1;have e2:=zcx k3 h2;subst e1 e2;exact .inr ⟨_,_,_,_,rfl,rfl,SqT.of g1,SqT.of k1,q _ _ _ (.refl _ _) rp (.bl _)⟩
  ·cases e
 ·cases e
def seqOf (au:Store):D->Option (List D)
 | .tup xs=>some xs
 | .scr xs=>some xs
 | d=>asL au d
theorem zim {K:Fg}    (rp:Rep K ρ au H)    (a:At K ρ H d u)(e:seqOf au d=some xs) :
  ∃p vs,u=.ref p/\(SqL K H p vs\/SqT K H p vs)/\AtAll K ρ H xs vs:=by
 unfold seqOf at e;split at e
 ·cases e;cases a with
  | tup h1 h2 h3=>exact⟨_,_,rfl,.inr (SqT.of h1),h3⟩
 ·cases e;cases a with
  | scr h1 h3=>exact⟨_,_,rfl,.inl h1.sq,h3⟩
 ·obtain⟨p,vs,rfl,h1,h2⟩:=zgv rp a e;exact⟨p,vs,rfl,.inl (SqL.of h1),h2⟩
theorem AtAll.atI {K:Fg}       (h:AtAll K ρ H ds vs)(e:L2.atI ds i=some d):∃v,L2.atI vs i=some v/\At K ρ H d v:=by
 unfold L2.atI at e ⊢;rw[h.length];cases hi:ixN ds.length i with
 | none=>rw[hi] at e;cases e
 | some j =>
  rw[hi] at e;obtain⟨v,e1,e2⟩:=h.get (i:=j) e;exact⟨v,e1,e2⟩
def oIx (x y:D) (au:Store):Res D:=match seqOf au x,y with
 | some xs,.int i=>match L2.atI xs i with
  | some v=>.ok v au
  | none=>.stuck
 | _,_=>.stuck
theorem zbtu {K:Fg}:OpD K oIx (rIx K):=λρ H au x y u v z st' Q rp a b e q=>by
 unfold oIx at e;split at e
 ·rename_i h1;split at e
  ·rename_i w hw;cases e;cases b;obtain⟨p,vs,rfl,h2,h3⟩:=zim rp a h1;obtain⟨w',e2,a2⟩:=h3.atI hw;rcases h2 with h2 | h2
   ·exact .inl ⟨_,_,_,_,rfl,rfl,h2,e2,q _ _ _ (.refl _ _) rp a2⟩
   ·exact .inr (.inl ⟨_,_,_,_,rfl,rfl,h2,e2,q _ _ _ (.refl _ _) rp a2⟩)
  ·cases e
 ·cases e
def cutD (xs:List D) (lo hi:Option Int):List D:=(xs.drop (HT.sIx xs.length 0 lo)).take (HT.sIx xs.length xs.length hi - HT.sIx xs.length 0 lo)
theorem AtAll.cut {K:Fg}     (h:AtAll K ρ H ds vs)(lo hi:Option Int):AtAll K ρ H (cutD ds lo hi) (cutV vs lo hi):=by
 unfold cutD cutV;rw[h.length];exact(h.drop _).take _
def pNone:DS->Store->Res (Option Int):=λ_ au=>.ok none au
def pSome (f:SE):DS->Store->Res (Option Int):=λσ au=>(f σ au).bind λv st1=>match v with
 | .int i=>.ok (some i) st1
 | _=>.stuck
def eSl (f:SE) (lo hi:DS->Store->Res (Option Int)):SE:=λσ au=>(f σ au).bind λx st1=>(lo σ st1).bind λl st2=>(hi σ st2).bind λh st3=>match x with
 | .tup xs=>.ok (.tup (cutD xs l h)) st3
 | x=>match asL st3 x with
  | some xs=>.ok (.lst (cutD xs l h)) st3
  | none=>.stuck
def tDO (K:Fg) (f:DS->Store->Res (Option Int)):TO:=λτ H Q=>∃ρ σ au v st',AtS K ρ H σ τ/\Rep K ρ au H/\f σ au=.ok v st'/\∀ρ' H',Ext ρ H ρ' H'->Rep K ρ' st' H'->Q v H'
abbrev DO (X:Cx) (e:Option Expr) (f:DS->Store->Res (Option Int)):Prop:=PO X e (tDO X.K f)
section
theorem zbsk   (h:PO X e t)(k:∀σ H Q,t' σ H Q->t σ H Q):PO X e t':=λaU s σ H Q I q=>h aU s σ H Q I (k _ _ _ q)
theorem zblc:DO X none pNone:=zbsk zbiq λτ H Q hq0=>by
 obtain⟨ρ,σ,au,v,st',a,rp,e,q⟩:=hq0;cases e;exact q _ _ (.refl _ _) rp
theorem zblb (he:DE X e f):DO X (some e) (pSome f):=zbsk (zbip he) λτ H Q hq0=>by
 obtain⟨ρ,σ,au,v,st',a,rp,e,q⟩:=hq0;obtain⟨x,st1,e1,e⟩:=za e;refine⟨ρ,σ,au,x,st1,a,rp,e1,λρ1 H1 u x1 rp1 a1=>?_⟩;cases x<;>try (cases e;done)
 cases e;cases a1;exact⟨_,rfl,q _ _ x1 rp1⟩
theorem d_ix (ha:DE X a f)(hb:DE X b f')(hs:PlainIx b):DE X (.Subscript a b pos) (aS oIx f f'):=zfr (zbtn zbpv ha hb hs) (zbnc zbtu)
section
variable {X:Cx}{a:Expr}{e:Expr}{f:SE}{pos:Pos}{lo:Option Expr}{hi:Option Expr}{l:DS->Store->Res (Option Int)}{h:DS->Store->Res (Option Int)}
theorem d_sl {p2:Pos}(he:DE X e f)(hl:DO X lo l)(hu:DO X hi h):DE X (.Subscript e (.Slice lo hi none p2) pos) (eSl f l h):=zfr (zbdz (zbic.or zbid) he hl hu) λτ H Q hq0=>by
 obtain⟨ρ,σ,au,v,st',a,rp,e,q⟩:=hq0;obtain⟨x,st1,e1,e⟩:=za e;obtain⟨y,st2,e2,e⟩:=za e;obtain⟨z,st3,e3,e⟩:=za e;refine⟨ρ,σ,au,x,st1,a,rp,e1,λρ1 H1 u x1 rp1 a1=>?_⟩;refine⟨ρ1,σ,st1,y,st2,a.ext x1,rp1,e2,λρ2 H2 x2 rp2=>?_⟩;refine⟨ρ2,σ,st2,z,st3,a.ext (x1.trans x2),rp2,e3,λρ3 H3 x3 rp3=>?_⟩;have a3:=a1.ext (x2.trans x3);have X3:=x1.trans (x2.trans x3);split at e
 ·cases e;refine .inl ?_;cases a3 with
  | tup h1 h2 h3 =>
   refine⟨_,_,rfl,SqT.of h1,λec=>?_,λp hp=>?_⟩
   ·refine q _ _ _ X3 rp3 (.tup h1 h2 ?_);have:=h3.cut y z;rw[ec] at this;exact this
   ·exact q _ _ _ (X3.trans (Ext.new hp _)) (rp3.new hp _) (.newT rp3 hp (h3.cut y z))
 ·split at e
  ·rename_i xs hx;cases e;obtain⟨p,vs,rfl,g1,g2⟩:=zgv rp3 a3 hx;exact .inr ⟨_,_,rfl,SqL.of g1,λp hp=>q _ _ _ (X3.trans (Ext.new hp _)) (rp3.new hp _) (.newL rp3 hp (g2.cut y z))⟩
  ·cases e
end
end
end Dd
namespace Dd
open PySem L2
def aE (g:List D->Store->Res D) (f:SA):SE:=λσ au=>(f σ au).bind λxs st1=>g xs st1
def CaD (K:Fg) (g:List D->Store->Res D) (r:List V->Hp->VK->Prop):Prop :=
 ∀ρ H au xs us z st' (Q:VK),Rep K ρ au H->AtAll K ρ H xs us->g xs au=.ok z st'->(∀ρ' H' w,Ext ρ H ρ' H'->Rep K ρ' st' H'->At K ρ' H' z w->Q w H')->r us H Q
theorem zbrj {K:Fg}   (hr:CaD K g r) :∀τ H Q,tD K (aE g f) τ H Q->tCB r (tDA K f) τ H Q:=λτ H Q hq0=>by
 obtain⟨ρ,σ,au,v,st',a,rp,e,q⟩:=hq0;obtain⟨x,st1,e1,e⟩:=za e;exact⟨ρ,σ,au,x,st1,a,rp,e1,λρ1 H1 u x1 rp1 a1=>hr ρ1 H1 st1 x u v st' Q rp1 a1 e λρ' H' w x2=>q ρ' H' w (x1.trans x2)⟩
section
theorem zblu {x:Str}{id:String}(hc:CallR X (.builtin id) r)(hr:CaD X.K g r)(hg:Gl X x)(hm:X.mg x=none)(hv:bootBuiltins x=some (.builtin id))(ha:DA X (e::es) f)(hn:x≠"__name__":=by decide)(hdb:(x==("__debug__" : Str))=false:=by decide)
 (he:starEach (e::es) X.env=(false,eval e X.env)::starEach es X.env:=by rfl)(hpl:(backTo pos (starEach es X.env)).any (·.1)=false:=by rfl):DE X (.Call (.Name x p) (e::es) [] pos) (aE g f):=zfr (ztx hc hg hm hv ha hn hdb he hpl) (zbrj hr)
theorem zbgj {T:String}(hc:CallR X (.type T) r)(hr:CaD X.K g r)(hg:Gl X x)(hm:X.mg x=none)(hv:bootBuiltins x=some (.type T))(ha:DA X (e::es) f)(hn:x≠"__name__":=by decide)(hdb:(x==("__debug__" : Str))=false:=by decide)
 (he:starEach (e::es) X.env=(false,eval e X.env)::starEach es X.env:=by rfl)(hpl:(backTo pos (starEach es X.env)).any (·.1)=false:=by rfl):DE X (.Call (.Name x p) (e::es) [] pos) (aE g f):=zfr (zqh hc hg hm hv ha hn hdb he hpl) (zbrj hr)
end
theorem AtAll.one {K:Fg}     (h:AtAll K ρ H [d] us):∃u,us=[u]/\At K ρ H d u:=by
 cases h with
 | cons a b=>cases b;exact⟨_,rfl,a⟩
theorem AtAll.two {K:Fg}     (h:AtAll K ρ H [d,e] us):∃u v,us=[u,v]/\At K ρ H d u/\At K ρ H e v:=by
 cases h with
 | cons a b =>
  obtain⟨v,rfl,c⟩:=b.one;exact⟨_,_,rfl,a,c⟩
def bLen:List D->Store->Res D:=λxs au=>match xs with
 | [x]=>match seqOf au x with
  | some ys=>.ok (.int ys.length) au
  | none=>.stuck
 | _=>.stuck
theorem zlw {K:Fg}:CaD K bLen (λxs H Q=>∃p ys,xs=[.ref p]/\(SqL K H p ys\/SqT K H p ys)/\Q (.int ys.length) H):=λρ H au xs us z st' Q rp aa e q=>by
 unfold bLen at e;split at e
 ·split at e
  ·rename_i h;cases e;obtain⟨u,rfl,a⟩:=aa.one;obtain⟨p,vs,rfl,h1,h2⟩:=zim rp a h;refine⟨p,vs,rfl,h1,?_⟩;rw[h2.length];exact q _ _ _ (.refl _ _) rp (.int _)
  ·cases e
 ·cases e
def bAbs:List D->Store->Res D:=λxs au=>match xs with
 | [.int i]=>.ok (.int (if i < 0 then -i else i)) au
 | _=>.stuck
theorem zbrx {K:Fg}:CaD K bAbs (λxs H Q=>∃i,xs=[.int i]/\Q (.int (if i < 0 then -i else i)) H):=λρ H au xs us z st' Q rp aa e q=>by
 unfold bAbs at e;split at e
 ·cases e;obtain⟨u,rfl,a⟩:=aa.one;cases a;exact⟨_,rfl,q _ _ _ (.refl _ _) rp (.int _)⟩
 ·cases e
def b2I (g:Int->Int->Int):List D->Store->Res D:=λxs au=>match xs with
 | [.int i,.int j]=>.ok (.int (g i j)) au
 | _=>.stuck
theorem zbry {K:Fg} :CaD K (b2I g) (λxs H Q=>∃i j,xs=[.int i,.int j]/\Q (.int (g i j)) H):=λρ H au xs us z st' Q rp aa e q=>by
 unfold b2I at e;split at e
 ·cases e;obtain⟨u,v,rfl,a,b⟩:=aa.two;cases a;cases b;exact⟨_,_,rfl,q _ _ _ (.refl _ _) rp (.int _)⟩
 ·cases e
abbrev bMin2:=b2I λi j=>if j < i then j else i
def bSum:List D->Store->Res D:=λxs au=>match xs with
 | [x]=>match (seqOf au x).bind asInts with
  | some ns=>.ok (.int ns.sum) au
  | none=>.stuck
 | _=>.stuck
theorem zbgr {K:Fg}:CaD K bSum (rSum K):=λρ H au xs us z st' Q rp aa e q=>by
 unfold bSum at e;split at e
 ·split at e
  ·rename_i ns h;cases e;obtain⟨ys,h0,h⟩:=xeq.mp h;obtain⟨u,rfl,a⟩:=aa.one;obtain⟨p,vs,rfl,h1,h2⟩:=zim rp a h0;have e:=zcx h2 h;subst e;exact⟨p,ns,rfl,h1,q _ _ _ (.refl _ _) rp (.int _)⟩
  ·cases e
 ·cases e
noncomputable def asBools:List D->Option (List Bool)
 | []=>some []
 | .bl i::r=>(asBools r).map (i::·)
 | _::_=>none
theorem zno {K:Fg}  :∀{ds:List D} {vs:List V} {ns:List Bool},AtAll K ρ H ds vs->asBools ds=some ns->vs=ns.map V.bl
 | _,_,_,.nil,e=>by cases e;rfl
 | _,_,_,.cons (d:=d) a b,e=>by
  cases d<;>try (cases e;done)
  rw[asBools] at e;obtain⟨ms,e1,rfl⟩:=xdj.mp e;cases a;rw[zno b e1]
  rfl
def bAny (al:Bool):List D->Store->Res D:=λxs au=>match xs with
 | [x]=>match (asL au x).bind asBools with
  | some bs=>.ok (.bl (if al then bs.all id else bs.any id)) au
  | none=>.stuck
 | _=>.stuck
theorem zbmq {K:Fg} :CaD K (bAny al) (rAny K al):=λρ H au xs us z st' Q rp aa e q=>by
 unfold bAny at e;split at e
 ·split at e
  ·rename_i ns h;cases e;obtain⟨ys,h0,h⟩:=xeq.mp h;obtain⟨u,rfl,a⟩:=aa.one;obtain⟨p,vs,rfl,h1,h2⟩:=zgv rp a h0;have e:=zno h2 h;subst e;exact⟨p,ns,rfl,SqL.of h1,q _ _ _ (.refl _ _) rp (.bl _)⟩
  ·cases e
 ·cases e
def tyName (au:Store):D->Option String
 | .non=>some "NoneType"
 | .bl _=>some "bool"
 | .int _=>some "int"
 | .str _=>some "str"
 | .tup _=>some "tuple"
 | .lst _=>some "list"
 | .ref n=>match au[n]? with
  | some (.lst _)=>some "list"
  | some (.dT _)=>some "dict"
  | _=>none
 | _=>none
noncomputable def isTy (t T:String):Bool:=t==T||(t=="bool"&&T=="int")
def bIsinst:List D->Store->Res D:=λxs au=>match xs with
 | [x,.ty T]=>match tyName au x with
  | some t=>if["int","bool","str","tuple","list","dict"].contains T=true then .ok (.bl (isTy t T)) au else .stuck
  | none=>.stuck
 | _=>.stuck
theorem zxv {K:Fg}    (rp:Rep K ρ au H)    (a:At K ρ H d u)(e:tyName au d=some t):TyOf K H u (.type t)/\t∈["NoneType","bool","int","str","tuple","list","dict"]:=by
 cases d<;>try (cases e;done)
 ·cases e;cases a;exact⟨.non,by simp⟩
 ·cases e;cases a;exact⟨.bl _,by simp⟩
 ·cases e;cases a;exact⟨.int _,by simp⟩
 ·cases e;cases a;exact⟨.str _,by simp⟩
 ·unfold tyName at e;dsimp only at e;split at e
  ·rename_i h;cases e;obtain⟨p,rfl,hp,vs,q1,q2⟩:=zeb rp a h (by intro z;cases z);exact⟨.lst q1,by simp⟩
  ·rename_i h;cases e;obtain⟨p,rfl,hp,vs,q1,q2⟩:=zeb rp a h (by intro z;cases z);exact⟨.dT q1,by simp⟩
  ·cases e
 ·cases e;cases a with
  | tup h1 h2 h3=>exact⟨.tup h1,by simp⟩
 ·cases e;cases a with
  | lst h1 h2 h3=>exact⟨.lst h1,by simp⟩
theorem zbpo {K:Fg}{T:String}(ht:t∈["NoneType","bool","int","str","tuple","list","dict"])(hT:T∈["int","bool","str","tuple","list","dict"]):W.kitOne K (.type t) (.type T)=some (isTy t T):=by
 simp only[xbs,List.not_mem_nil,or_false] at ht hT;rcases ht with rfl | rfl | rfl | rfl | rfl | rfl | rfl<;>rcases hT with rfl | rfl | rfl | rfl | rfl | rfl<;>rfl
theorem zlx {K:Fg}:CaD K bIsinst (λxs H Q=>∃x T t b,xs=[x,.ty T]/\TyOf K H x t/\W.kitOne K t (.type T)=some b/\Q (.bl b) H):=λρ H au xs us z st' Q rp aa e q=>by
 unfold bIsinst at e;split at e
 ·split at e
  ·rename_i h;split at e
   ·rename_i hT;cases e;obtain⟨u,v,rfl,a,b⟩:=aa.two;cases b;obtain⟨h1,h2⟩:=zxv rp a h;exact⟨_,_,_,_,rfl,h1,zbpo h2 (by simpa using hT),q _ _ _ (.refl _ _) rp (.bl _)⟩
   ·cases e
  ·cases e
 ·cases e
def bTuple:List D->Store->Res D:=λxs au=>match xs with
 | [.tup ys]=>.ok (.tup ys) au
 | [x]=>match asL au x with
  | some ys=>.ok (.tup ys) au
  | none=>.stuck
 | _=>.stuck
theorem zds {K:Fg}:CaD K bTuple (λxs H Q=>∃p ys,xs=[.ref p]/\((SqL K H p ys/\∀l,H l=none->Q (.ref l) (upd H l (.tup ys)))\/(SqT K H p ys/\Q (.ref p) H))):=λρ H au xs us z st' Q rp aa e q=>by
 unfold bTuple at e;split at e
 ·cases e;obtain⟨u,rfl,a⟩:=aa.one;cases a with
  | tup h1 h2 h3=>exact⟨_,_,rfl,.inr ⟨SqT.of h1,q _ _ _ (.refl _ _) rp (.tup h1 h2 h3)⟩⟩
 ·split at e
  ·rename_i h;cases e;obtain⟨u,rfl,a⟩:=aa.one;obtain⟨p,vs,rfl,h1,h2⟩:=zgv rp a h;exact⟨_,_,rfl,.inl ⟨SqL.of h1,λl hl=>q _ _ _ (Ext.new hl _) (rp.new hl _) (.newT rp hl h2)⟩⟩
  ·cases e
 ·cases e
def bList:List D->Store->Res D:=λxs au=>match xs with
 | [x]=>match seqOf au x with
  | some ys=>.ok (.lst ys) au
  | none=>.stuck
 | _=>.stuck
def bListM:List D->Store->Res D:=λxs au=>match xs with
 | [x]=>match seqOf au x with
  | some ys=>.ok (.ref au.length) (au++[.lst ys])
  | none=>.stuck
 | _=>.stuck
theorem zbgs {K:Fg}:CaD K bListM (λxs H Q=>∃p ys,xs=[.ref p]/\(SqL K H p ys\/SqT K H p ys)/\∀l,H l=none->Q (.ref l) (upd H l (.lst ys))):=λρ H au xs us z st' Q rp aa e q=>by
 unfold bListM at e;split at e
 ·split at e
  ·rename_i ys h;cases e;obtain⟨u,rfl,a⟩:=aa.one;obtain⟨p,vs,rfl,h1,h2⟩:=zim rp a h;refine⟨_,_,rfl,h1,λl hl=>?_⟩;obtain⟨E,R⟩:=rp.alloc hl (x:=.lst ys) (o:=.lst vs) λE=>⟨vs,zq,h2.ext E⟩
   exact q _ _ _ E R (.last rp.len.symm)
  ·cases e
 ·cases e
noncomputable abbrev aL (ns:List Int):D:=.tup (ns.map .int)
abbrev aJ (l:List (List Int)):List D:=l.map aL
def insR (a:List Int):List (List Int)->List (List Int)
 | []=>[a]
 | b::r=>if HT.lexLt b a=true then b::insR a r else a::b::r
def sortR:List (List Int)->List (List Int)
 | []=>[]
 | a::r=>insR a (sortR r)
abbrev UpR (l:List (List Int)):Prop:=l.Pairwise λa b=>HT.lexLt b a=false
theorem zli (a:List Int):∀l,(insR a l).Perm (a::l)
 | []=>.refl _
 | b::r=>by
  unfold insR;split
  ·exact(List.Perm.cons b (zli a r)).trans (.swap a b r)
  ·exact .refl _
theorem zco:∀l,(sortR l).Perm l
 | []=>.refl _
 | a::r=>(zli a _).trans (.cons a (zco r))
theorem zoq  (h1:HT.lexLt b a=false)(h2:HT.lexLt c b=false):HT.lexLt c a=false:=by
 cases h:HT.lexLt c a with
 | false=>rfl
 | true =>
  rcases Srt.zmz a b with z | z | z
  ·have:=Srt.zhu h z;rw[h2] at this;cases this
  ·subst z;rw[h2] at h;cases h
  ·rw[h1] at z;cases z
theorem zbbp (a:List Int):∀l,UpR l->UpR (insR a l)
 | [],_=>xic _ _
 | b::r,h=>by
  obtain⟨h1,h2⟩:=xgl.mp h;unfold insR;split
  ·rename_i c;refine xgl.mpr ⟨λx hx=>?_,zbbp a r h2⟩;rcases xbs.mp ((zli a r).mem_iff.mp hx) with rfl | hx
   ·exact Srt.zle c
   ·exact h1 x hx
  ·rename_i c;have c':HT.lexLt b a=false:=by simpa using c
   refine xgl.mpr ⟨λx hx=>?_,h⟩;rcases xbs.mp hx with rfl | hx
   ·exact c'
   ·exact zoq c' (h1 x hx)
theorem zkn:∀l,UpR (sortR l)
 | []=>.nil
 | a::r=>zbbp a _ (zkn r)
theorem zpw:∀{l m:List (List Int)},l.Perm m->UpR l->UpR m->l=m
 | [],m,p,_,_=>by rw[List.nil_perm.mp p]
 | a::l,[],p,_,_=>by cases List.perm_nil.mp p
 | a::l,b::m,p,h1,h2=>by
  obtain⟨p1,p2⟩:=xgl.mp h1;obtain⟨q1,q2⟩:=xgl.mp h2;have e:a=b:=by
   rcases xbs.mp (p.mem_iff.mp xbp) with z | z
   ·exact z
   ·rcases xbs.mp (p.mem_iff.mpr (xbp (a:=b) (l:=m))) with y | y
    ·exact y.symm
    ·have e1:=q1 a z;have e2:=p1 b y;rcases Srt.zmz a b with w | w | w
     ·rw[e1] at w;cases w
     ·exact w
     ·rw[e2] at w;cases w
  subst e;rw[zpw (List.Perm.cons_inv p) p2 q2]
theorem zko {m:List (List Int)}(p:m.Perm l)(h:UpR m):m=sortR l:=zpw (p.trans (zco l).symm) h (zkn l)
theorem znz (l:List (List Int)):(sortR l).length=l.length:=(zco l).length_eq
def asRows:List D->Option (List (List Int))
 | []=>some []
 | .tup ds::r=>(asInts ds).bind λns=>(asRows r).map (ns::·)
 | _::_=>none
theorem zrh {K:Fg}  :∀{ds:List D} {vs:List V} {l:List (List Int)},AtAll K ρ H ds vs->asRows ds=some l ->
  ∃ps:List (Addr×List Int),vs=ps.map (λp=>V.ref p.1)/\ps.map (·.2)=l/\∀p∈ps,H p.1=some (.tup (p.2.map V.int))/\Out ρ p.1
 | _,_,_,.nil,e=>by cases e;exact⟨[],rfl,rfl,λ_ h=>nomatch h⟩
 | _,_,_,.cons (d:=d) a b,e=>by
  cases d<;>try (cases e;done)
  rw[asRows] at e;obtain⟨ns,e1,e⟩:=xeq.mp e;obtain⟨l,e2,rfl⟩:=xdj.mp e;obtain⟨ps,h1,h2,h3⟩:=zrh b e2;cases a with
  | tup g1 g2 g3 =>
   rename_i ad ws;have ew:=zcx g3 e1;subst ew;refine⟨(ad,ns)::ps,by rw[h1];rfl,by rw[← h2];rfl,λp hp=>?_⟩;rcases xbs.mp hp with rfl | hp
   ·exact⟨g1,g2⟩
   ·exact h3 p hp
theorem zgq {K:Fg}  :∀ns:List Int,AtAll K ρ H (ns.map .int) (ns.map V.int)
 | []=>.nil
 | n::ns=>.cons (.int n) (zgq ns)
theorem zod {K:Fg}  :∀ps:List (Addr×List Int),(∀p∈ps,H p.1=some (.tup (p.2.map V.int))/\Out ρ p.1)->AtAll K ρ H (aJ (ps.map (·.2))) (ps.map λp=>V.ref p.1)
 | [],_=>.nil
 | p::ps,h=>.cons (.tup (h p xbp).1 (h p xbp).2 (zgq _)) (zod ps λq hq=>h q (xbm _ hq))
theorem zqi {K:Fg}    (r:Rep K ρ au H)   (hp:H p=some (.tup vs)):Out ρ p:=by
 refine⟨λz=>?_,λz=>?_⟩
 ·obtain⟨i,hi,e⟩:=xem z;obtain⟨x,_,q⟩:=r.has (n:=i) (a:=p) (by rw[xbd hi,e]);cases x with
  | lst xs=>obtain⟨_,e,_⟩:=q;rw[hp] at e;cases e
  | dT kvs=>obtain⟨_,e,_⟩:=q;rw[hp] at e;cases e
  | fT kvs=>obtain⟨_,_,e,_⟩:=q;rw[hp] at e;cases e
  | dI kvs=>obtain⟨_,e,_⟩:=q;rw[hp] at e;cases e
  | dead=>exact q
  | tab=>obtain⟨_,_,e,_⟩:=q;rw[hp] at e;cases e
 ·obtain⟨⟨u,hu⟩,_⟩:=r.gh p z;rw[hp] at hu;cases hu
noncomputable def valD (kvs:List (List Int×D)) (k:List Int):Option D:=(kvs.find? λkv=>decide (kv.1=k)).map (·.2)
noncomputable def putD (kvs:List (List Int×D)) (k:List Int) (v:D):List (List Int×D) :=
 if(kvs.any λkv=>decide (kv.1=k))=true then kvs.map (λkv=>if kv.1=k then(kv.1,v) else kv) else kvs++[(k,v)]
noncomputable def dropD (kvs:List (List Int×D)) (k:List Int):List (List Int×D):=kvs.filter λkv=>decide (kv.1≠k)
theorem zqo {a b:List Int}:a.map (Sum.inl:Int->Key)=b.map Sum.inl↔a=b:=by
 constructor
 ·intro h;exact(List.map_inj_right (f:=(Sum.inl:Int->Key)) λx y e=>Sum.inl.inj e).mp h
 ·rintro rfl;rfl
section
theorem KvAt.val {K:Fg}(h:KvAt K ρ H kvs vs)(k:List Int):match valD kvs k with
  | some d=>∃v,valV vs (k.map Sum.inl)=some v/\At K ρ H d v
  | none=>valV vs (k.map Sum.inl)=none:=by
 induction h with
 | nil=>rfl
 | @cons p q ps qs h t ih =>
  obtain⟨h1,h2⟩:=h;by_cases e:p.1=k
  ·have e1:valD (p::ps) k=some p.2:=by simp[valD,xdp,e]
   rw[e1];exact⟨q.2,zig (by rw[h1,e]),h2⟩
  ·have e1:valD (p::ps) k=valD ps k:=by simp[valD,xdp,e]
   have e2:valV (q::qs) (k.map Sum.inl)=valV qs (k.map Sum.inl):=zih (by rw[h1,zqo];exact e);rw[e1,e2];exact ih
theorem KvAt.keys {K:Fg}(h:KvAt K ρ H kvs vs):vs.map (·.1)=(kvs.map (·.1)).map λns=>ns.map Sum.inl:=by
 induction h with
 | nil=>rfl
 | @cons p q ps qs h t ih=>rw[xbu,xbu,xbu,ih,h.1]
theorem KvAt.put {K:Fg}(h:KvAt K ρ H kvs vs)(k:List Int)   (a:At K ρ H d v):KvAt K ρ H (putD kvs k d) (putK vs (k.map Sum.inl) v):=by
 have any:∀{kvs:List (List Int×D)} {vs:List (List Key×V)},KvAt K ρ H kvs vs->(kvs.any λkv=>decide (kv.1=k))=(vs.any λkv=>decide (kv.1=k.map Sum.inl)):=λh=>by
  induction h with
  | nil=>rfl
  | @cons p q ps qs h t ih =>
   rw[xhp,xhp,ih,h.1]
   congr 1
   simp only[zqo]
 unfold putD putK;rw[any h];split
 ·rename_i hh;clear hh any
  induction h with
  | nil=>exact .nil
  | @cons p q ps qs h t ih =>
   refine .cons ?_ ih;obtain⟨h1,h2⟩:=h;dsimp only;by_cases e:p.1=k
   ·rw[if_pos e,if_pos (by rw[h1,e])];exact⟨h1,a⟩
   ·rw[if_neg e,if_neg (by rw[h1,zqo];exact e)];exact⟨h1,h2⟩
 ·have app:∀{kvs:List (List Int×D)} {vs:List (List Key×V)},KvAt K ρ H kvs vs->KvAt K ρ H (kvs++[(k,d)]) (vs++[(k.map Sum.inl,v)]):=λh=>by
   induction h with
   | nil=>exact .cons ⟨rfl,a⟩ .nil
   | cons h t ih=>exact .cons h ih
  exact app h
theorem KvAt.drop {K:Fg}(h:KvAt K ρ H kvs vs)(k:List Int):KvAt K ρ H (dropD kvs k) (dropK vs (k.map Sum.inl)):=by
 unfold dropD dropK
 induction h with
 | nil=>exact .nil
 | @cons p q ps qs h t ih =>
  by_cases e:p.1=k
  ·rw[xcx (by simp[e]),xcx (by simp[h.1,e])];exact ih
  ·rw[xcp (by simp[e]),xcp (by simp[h.1,zqo,e])];exact .cons h ih
theorem KvAt.length {K:Fg}(h:KvAt K ρ H kvs vs):kvs.length=vs.length:=xid h
end
def pairsOf (au:Store):D->Option (List (List Int×D))
 | .ref n=>match au[n]? with
  | some (.dT kvs)=>some kvs
  | some (.fT kvs)=>some kvs
  | _=>none
 | _=>none
theorem zog {K:Fg}    (rp:Rep K ρ au H)    (a:At K ρ H d u)(e:pairsOf au d=some kvs):∃p vs,u=.ref p/\Rd H p (.dT vs)/\KvAt K ρ H kvs vs:=by
 unfold pairsOf at e;split at e
 ·split at e
  ·rename_i h;cases e;obtain⟨p,rfl,hp,vs,q1,q2⟩:=zeb rp a h (by intro z;cases z);exact⟨p,vs,rfl,.inl q1,q2⟩
  ·rename_i h;cases e;obtain⟨p,rfl,hp,vs,ob,q1,q2⟩:=zeb rp a h (by intro z;cases z);exact⟨p,vs,rfl,.inr ⟨ob,q1⟩,q2⟩
  ·cases e
 ·cases e
def keyOf:D->Option (List Int)
 | .tup ds=>asInts ds
 | _=>none
theorem zbff {K:Fg}      (a:At K ρ H d u)(e:keyOf d=some k):∃p,u=.ref p/\H p=some (.tup ((k.map (Sum.inl:Int->Key)).map kV)):=by
 unfold keyOf at e;split at e
 ·cases a with
  | tup h1 h2 h3 =>
   have:=zcx h3 e;subst this;exact⟨_,rfl,by rw[zbbn];exact h1⟩
 ·cases e
theorem zvz {K:Fg}    (rp:Rep K ρ au H)     (a:At K ρ H d u)(b:At K ρ H y w)(e:pairsOf au d=some kvs)(e2:keyOf y=some k) :
  ∃p o,u=.ref p/\DGet H p w o/\match valD kvs k with
   | some z=>∃v,o=some v/\At K ρ H z v
   | none=>o=none:=by
 obtain⟨p,vs,rfl,h1,h2⟩:=zog rp a e;obtain⟨q,rfl,h3⟩:=zbff b e2;refine⟨p,valV vs (k.map Sum.inl),rfl,.inr ⟨vs,_,q,h1,rfl,h3,rfl⟩,?_⟩;have:=h2.val k;cases hv:valD kvs k with
 | none=>rw[hv] at this;exact this
 | some z=>rw[hv] at this;exact this
def oDIn (neg:Bool) (y x:D) (au:Store):Res D:=match keyOf y,pairsOf au x with
 | some k,some kvs=>.ok (.bl (if neg then !(valD kvs k).isSome else(valD kvs k).isSome)) au
 | _,_=>.stuck
def oDGet (x y:D) (au:Store):Res D:=match pairsOf au x,keyOf y with
 | some kvs,some k=>match valD kvs k with
  | some v=>.ok v au
  | none=>.stuck
 | _,_=>.stuck
def eDGet2 (f g h:SE):SE:=λσ au=>(f σ au).bind λx st1=>match pairsOf st1 x with
 | some _=>(g σ st1).bind λy st2=>(h σ st2).bind λz st3=>match pairsOf st3 x,keyOf y with
  | some kvs,some k=>.ok ((valD kvs k).getD z) st3
  | _,_=>.stuck
 | none=>.stuck
def eDPop (f g:SE):SE:=λσ au=>(f σ au).bind λx st1=>match pairsOf st1 x with
 | some _=>(g σ st1).bind λy st2=>match x,keyOf y with
  | .ref n,some k=>match st2[n]? with
   | some (.dT kvs)=>match valD kvs k with
    | some v=>.ok v (st2.set n (.dT (dropD kvs k)))
    | none=>.stuck
   | _=>.stuck
  | _,_=>.stuck
 | none=>.stuck
def sDPut (f g h:SE):SS:=λσ au=>(h σ au).bind λv st1=>(f σ st1).bind λx st2=>(g σ st2).bind λy st3=>match x,keyOf y with
 | .ref n,some k=>match st3[n]? with
  | some (.dT kvs)=>if kvs.length < sizeLine then .ok (.nx σ) (st3.set n (.dT (putD kvs k v))) else .stuck
  | _=>.stuck
 | _,_=>.stuck
def eDNew:SE:=λ_ au=>.ok (.ref au.length) (au++[.dT []])
section
theorem zbkg {K:Fg}    (rp:Rep K ρ au H)    (a:At K ρ H d u)(e:pairsOf au d=some kvs):∃p,u=.ref p/\IsD H p:=by
 obtain⟨p,vs,rfl,h1,_⟩:=zog rp a e;exact⟨p,rfl,.inr ⟨vs,h1⟩⟩
theorem zbrc:DE X (.Dict [] [] pos) eDNew:=zfr zbec λτ H Q hq0 p hp=>by
 obtain⟨ρ,σ,au,v,st',a,rp,e,q⟩:=hq0;cases e;obtain⟨E,R⟩:=rp.alloc hp (x:=.dT []) (o:=.dT []) λE=>⟨[],zq,.nil⟩
 exact q _ _ _ E R (.last rp.len.symm)
theorem zbtp {X:Cx}(hu:X.A.units+1 < cLine)(hi:DE X i g)(ho:DE X o f):PC X .In i o (tD X.K (aS (oDIn false) g f)):=λaU s σ H Q I hq=>by
 refine zbjd hu hi ho aU s σ H Q I ?_;obtain⟨ρ,σ',au,v,st',a,rp,e,q⟩:=hq;obtain⟨x,st1,e1,e⟩:=za e;obtain⟨y,st2,e2,e⟩:=za e;refine⟨ρ,σ',au,x,st1,a,rp,e1,λρ1 H1 u x1 rp1 a1=>?_⟩;refine⟨ρ1,σ',st1,y,st2,a.ext x1,rp1,e2,λρ2 H2 w x2 rp2 a2=>?_⟩;unfold oDIn at e;split at e
 ·rename_i kk vv h1 h2;cases e;obtain⟨p,oo,rfl,g1,g2⟩:=zvz rp2 a2 (a1.ext x2) h2 h1;refine⟨p,oo,rfl,g1,?_⟩;have:oo.isSome=(valD vv kk).isSome:=by
   revert g2;split
   ·rename_i hv;rintro⟨v,rfl,_⟩;rw[hv];rfl
   ·rename_i hv;rintro rfl;rw[hv];rfl
  rw[this];exact q _ _ _ (x1.trans x2) rp2 (.bl _)
 ·cases e
theorem zbug   (h:PC X op a b (tD X.K t))(h1:behindInMarks op b=false:=by first | exact nobehind _ (by decide) (by decide) | rfl):DT X (.Compare a [op] [b] pos) (eB t):=zbnb (zbob h h1) λτ H Q hh=>eB_t _ _ _ hh
theorem zbrd {X:Cx}(hu:X.A.units+1 < cLine)(ho:DE X o f)(hi:DE X i g)(hs:NoSl i):DE X (.Subscript o i pos) (aS oDGet f g):=zfr (zbbc hu ho hi hs) λτ H Q hq0=>by
 obtain⟨ρ,σ,au,v,st',a,rp,e,q⟩:=hq0;obtain⟨x,st1,e1,e⟩:=za e;obtain⟨y,st2,e2,e⟩:=za e;refine⟨ρ,σ,au,x,st1,a,rp,e1,λρ1 H1 u x1 rp1 a1=>?_⟩;refine⟨ρ1,σ,st1,y,st2,a.ext x1,rp1,e2,λρ2 H2 w x2 rp2 a2=>?_⟩;unfold oDGet at e;split at e
 ·rename_i h1 h2;split at e
  ·rename_i z hv;cases e;obtain⟨p,oo,rfl,g1,g2⟩:=zvz rp2 (a1.ext x2) a2 h1 h2;rw[hv] at g2;obtain⟨vv,rfl,g3⟩:=g2;exact⟨p,vv,rfl,g1,q _ _ _ (x1.trans x2) rp2 g3⟩
  ·cases e
 ·cases e
theorem zblr {X:Cx}(hu:X.A.units + 1 < cLine)(ho:DE X o f)(he:DE X e g)(hf:DE X f' h)(m:M2 X o "get" apos e f' cpos):DE X (.Call (.Attribute o "get" apos) [e,f'] [] cpos) (eDGet2 f g h):=zfr (zbee hu ho he hf m) λτ H Q hq0=>by
 obtain⟨ρ,σ,au,v,st',a,rp,e,q⟩:=hq0;obtain⟨x,st1,e1,e⟩:=za e;refine⟨ρ,σ,au,x,st1,a,rp,e1,λρ1 H1 u x1 rp1 a1=>?_⟩;split at e
 ·rename_i h0;obtain⟨p,rfl,hd⟩:=zbkg rp1 a1 h0;obtain⟨y,st2,e2,e⟩:=za e;obtain⟨z,st3,e3,e⟩:=za e;refine⟨p,rfl,hd,?_⟩;refine⟨ρ1,σ,st1,y,st2,a.ext x1,rp1,e2,λρ2 H2 w x2 rp2 a2=>?_⟩;refine⟨ρ2,σ,st2,z,st3,a.ext (x1.trans x2),rp2,e3,λρ3 H3 t x3 rp3 a3=>?_⟩;split at e
  ·rename_i h1 h2;cases e;obtain⟨p',oo,ep,g1,g2⟩:=zvz rp3 (a1.ext (x2.trans x3)) (a2.ext x3) h1 h2;cases ep;refine⟨oo,g1,q _ _ _ (x1.trans (x2.trans x3)) rp3 ?_⟩;revert g2;split
   ·rename_i hv;rintro⟨vv,rfl,g3⟩;rw[hv];exact g3
   ·rename_i hv;rintro rfl;rw[hv];exact a3
  ·cases e
 ·cases e
theorem zbrb {X:Cx}(hu:X.A.units + 1 < cLine)(ho:DE X o f)(he:DE X e g)(m:M1 X o "pop" apos e cpos):DE X (.Call (.Attribute o "pop" apos) [e] [] cpos) (eDPop f g):=zfr (zbeb hu ho he m) λτ H Q hq0=>by
 obtain⟨ρ,σ,au,v,st',a,rp,e,q⟩:=hq0;obtain⟨x,st1,e1,e⟩:=za e;refine⟨ρ,σ,au,x,st1,a,rp,e1,λρ1 H1 u x1 rp1 a1=>?_⟩;split at e
 ·rename_i h0;obtain⟨p,rfl,hd⟩:=zbkg rp1 a1 h0;obtain⟨y,st2,e2,e⟩:=za e;refine⟨p,rfl,hd,?_⟩;refine⟨ρ1,σ,st1,y,st2,a.ext x1,rp1,e2,λρ2 H2 w x2 rp2 a2=>?_⟩;split at e
  ·rename_i n k hk _;split at e
   ·rename_i kvs hn;split at e
    ·rename_i z hv;cases e;obtain⟨p',ep,hp,vs,g1,g2⟩:=zeb rp2 (a1.ext x2) hn (by intro z;cases z);cases ep;obtain⟨b,rfl,g3⟩:=zbff a2 hk;have g4:=g2.val k;rw[hv] at g4;obtain⟨vv,g5,g6⟩:=g4;have E:Ext ρ2 H2 ρ2 (upd H2 p (.dT (dropK vs (k.map Sum.inl)))):=Ext.wr hp (zjz g1) _;exact⟨vs,_,vv,b,g1,rfl,g3,g5,q _ _ _ ((x1.trans x2).trans E) (rp2.wr hp (zjz g1) ⟨_,zq,(g2.drop k).ext E⟩) (g6.ext E)⟩
    ·cases e
   ·cases e
  ·cases e
 ·cases e
theorem zbkz {X:Cx}{pos:Pos}(hu:X.A.units+1 < cLine)(ho:DE X o f)(hi:DE X i g)(hv:DE X value h)(hs:swapsWith value (some (.Subscript o i pos')) pos.line X.env=pure false) :
  DSt X (.Assign [.Subscript o i pos'] value pos) (sDPut f g h):=ztv (zbaz hu ho hi hv hs) λE τ H hq0=>by
 obtain⟨ρ,σ,au,fl,st',a,rp,e,q⟩:=hq0;obtain⟨v,st1,e1,e⟩:=za e;obtain⟨x,st2,e2,e⟩:=za e;obtain⟨y,st3,e3,e⟩:=za e;refine⟨ρ,σ,au,v,st1,a,rp,e1,λρ1 H1 u x1 rp1 a1=>?_⟩;refine⟨ρ1,σ,st1,x,st2,a.ext x1,rp1,e2,λρ2 H2 w x2 rp2 a2=>?_⟩;refine⟨ρ2,σ,st2,y,st3,a.ext (x1.trans x2),rp2,e3,λρ3 H3 t x3 rp3 a3=>?_⟩;split at e
 ·rename_i n k hk _;split at e
  ·rename_i kvs hn;split at e
   ·rename_i hl;cases e;obtain⟨p,rfl,hp,vs,g1,g2⟩:=zeb rp3 (a2.ext x3) hn (by intro z;cases z);obtain⟨b,rfl,g3⟩:=zbff a3 hk;have E:Ext ρ3 H3 ρ3 (upd H3 p (.dT (putK vs (k.map Sum.inl) u))):=Ext.wr hp (zjz g1) _;refine⟨p,_,rfl,DPut.t g1 g3 (by rw[← g2.length];exact hl),?_⟩;exact q _ _ _ ((x1.trans (x2.trans x3)).trans E) (rp3.wr hp (zjz g1) ⟨_,zq,(g2.put k (a1.ext (x2.trans x3))).ext E⟩) (a.ext ((x1.trans (x2.trans x3)).trans E))
   ·cases e
  ·cases e
 ·cases e
end
def bSorted:List D->Store->Res D:=λxs au=>match xs with
 | [x]=>match (asL au x).bind asRows with
  | some l=>if l.length<=1000000 then .ok (.lst (aJ (sortR l))) au else .stuck
  | none=>match pairsOf au x with
   | some kvs=>if kvs.length<=1000000 then .ok (.lst (aJ (sortR (kvs.map (·.1))))) au else .stuck
   | none=>.stuck
 | _=>.stuck
theorem zlv {K:Fg}:CaD K bSorted (λxs H Q=>rSortedAL K xs H Q\/rSortedDAL xs H Q):=λρ H au xs us z st' Q rp aa e q=>by
 unfold bSorted at e;split at e
 ·obtain⟨u,rfl,a⟩:=aa.one;split at e
  ·rename_i l hl;obtain⟨ys,h0,hl⟩:=xeq.mp hl;split at e
   ·rename_i few;cases e;obtain⟨p,vs,rfl,h1,h2⟩:=zgv rp a h0;obtain⟨ps,rfl,rfl,h3⟩:=zrh h2 hl;rw[xbb] at few;refine .inl ⟨p,ps,rfl,SqL.of h1,few,λx hx=>SqT.of (h3 x hx).1,λt qs ht hp hs=>?_⟩;have e2:qs.map (·.2)=sortR (ps.map (·.2)):=zko (hp.map _) hs;refine q _ _ _ (Ext.new ht _) (rp.new ht _) (.newL rp ht ?_);rw[← e2];exact zod qs λx hx=>h3 x (hp.mem_iff.mp hx)
   ·cases e
  ·split at e
   ·rename_i kvs hk;split at e
    ·rename_i few;cases e;obtain⟨p,vs,rfl,h1,h2⟩:=zog rp a hk;refine .inr ⟨p,vs,kvs.map (·.1),rfl,h1,h2.keys,by rw[xbb];exact few,λt qs ht hp hs hq=>?_⟩;have e2:qs.map (·.2)=sortR (kvs.map (·.1)):=zko hp hs;refine q _ _ _ (Ext.new ht _) (rp.new ht _) (.newL rp ht ?_);rw[← e2];exact zod qs λx hx=>⟨hq x hx,zqi rp (hq x hx)⟩
    ·cases e
   ·cases e
 ·cases e
theorem zfj {X:Cx}(hc:X.calm=true)(hu:X.A.units + 64 < cLine):CallR X (.builtin "sorted") (λxs H Q=>rSortedAL X.K xs H Q\/rSortedDAL xs H Q):=(znl hu).or (zlr hc hu)
def eAppend (f:SE) (g:SA):SE:=λσ au=>(f σ au).bind λx st1=>match x,asL st1 x with
 | .ref n,some _=>(g σ st1).bind λys st2=>match ys,st2[n]? with
  | [y],some (.lst xs)=>if xs.length < sizeLine then .ok .non (st2.set n (.lst (xs++[y]))) else .stuck
  | _,_=>.stuck
 | _,_=>.stuck
def eExtend (f:SE) (g:SA):SE:=λσ au=>(f σ au).bind λx st1=>match x,asL st1 x with
 | .ref n,some _=>(g σ st1).bind λys st2=>match ys,st2[n]? with
  | [y],some (.lst xs)=>match asL st2 y with
   | some zs=>if xs.length+zs.length<=sizeLine then .ok .non (st2.set n (.lst (xs++zs))) else .stuck
   | none=>.stuck
  | _,_=>.stuck
 | _,_=>.stuck
section
theorem zbgk {apos:Pos}(ho:DE X o f)(ha:DA X (e::es) ga)(hbase:attributeBase o "append" X.env (eval o X.env)=eval o X.env:=by rfl)
  (hfew:((backTo cpos (starEach (e::es) X.env)).all (λx=>!x.1)&&(backToKw cpos (keywordEach [] X.env)).all (λx=>x.1.isSome)
   && decide ((e::es).length+([]:List Keyword).length+(if([]:List Keyword).isEmpty then 0 else 1) < 30))=true:=by rfl)
  (hline:(apos.endLine==cpos.line)=true:=by rfl)(hs:starEach (e::es) X.env=(false,eval e X.env)::starEach es X.env:=by rfl)(hplain:(backTo cpos (starEach es X.env)).any (·.1)=false:=by rfl) :
  DE X (.Call (.Attribute o "append" apos) (e::es) [] cpos) (eAppend f ga):=zfr (zbos F.plainAttrs_list F.slot_list_append F.type_list_append zqk ho ha hbase hfew hline hs hplain) λτ H Q hq0=>by
 obtain⟨ρ,σ,au,v,st',a,rp,e,q⟩:=hq0;obtain⟨x,st1,e1,e⟩:=za e;refine⟨ρ,σ,au,x,st1,a,rp,e1,λρ1 H1 u x1 rp1 a1=>?_⟩;split at e
 ·rename_i n _ hL;obtain⟨ys,st2,e2,e⟩:=za e;obtain⟨p,vs,rfl,g1,g2⟩:=zgv rp1 a1 hL;refine⟨.inl ⟨rfl,_,SqL.of g1⟩,ρ1,σ,st1,ys,st2,a.ext x1,rp1,e2,λρ2 H2 ws x2 rp2 a2=>?_⟩;split at e
  ·rename_i y xs hn;split at e
   ·rename_i hl;cases e;obtain⟨w,rfl,a3⟩:=a2.one;obtain⟨p',ep,hp,vs2,k1,k2⟩:=zeb rp2 (a1.ext x2) hn (by intro z;cases z);cases ep;have E:Ext ρ2 H2 ρ2 (upd H2 p (.lst (vs2++[w]))):=Ext.wr hp (zgn k1) _;exact⟨p,vs2,w,rfl,rfl,k1,by rw[k2.length];exact hl,q _ _ _ ((x1.trans x2).trans E) (rp2.wr hp (zgn k1) ⟨_,zq,(k2.append (.cons a3 .nil)).ext E⟩) .non⟩
   ·cases e
  ·cases e
 ·cases e
theorem zbgg {apos:Pos}(ho:DE X o f)(ha:DA X (e::es) ga)(hbase:attributeBase o "extend" X.env (eval o X.env)=eval o X.env:=by rfl)
  (hfew:((backTo cpos (starEach (e::es) X.env)).all (λx=>!x.1)&&(backToKw cpos (keywordEach [] X.env)).all (λx=>x.1.isSome)
   && decide ((e::es).length+([]:List Keyword).length+(if([]:List Keyword).isEmpty then 0 else 1) < 30))=true:=by rfl)
  (hline:(apos.endLine==cpos.line)=true:=by rfl)(hs:starEach (e::es) X.env=(false,eval e X.env)::starEach es X.env:=by rfl)(hplain:(backTo cpos (starEach es X.env)).any (·.1)=false:=by rfl) :
  DE X (.Call (.Attribute o "extend" apos) (e::es) [] cpos) (eExtend f ga):=zfr (zbos F.plainAttrs_list F.slot_list_extend F.type_list_extend zzg ho ha hbase hfew hline hs hplain) λτ H Q hq0=>by
 obtain⟨ρ,σ,au,v,st',a,rp,e,q⟩:=hq0;obtain⟨x,st1,e1,e⟩:=za e;refine⟨ρ,σ,au,x,st1,a,rp,e1,λρ1 H1 u x1 rp1 a1=>?_⟩;split at e
 ·rename_i n _ hL;obtain⟨ys,st2,e2,e⟩:=za e;obtain⟨p,vs,rfl,g1,g2⟩:=zgv rp1 a1 hL;refine⟨.inl ⟨rfl,_,SqL.of g1⟩,ρ1,σ,st1,ys,st2,a.ext x1,rp1,e2,λρ2 H2 ws x2 rp2 a2=>?_⟩;split at e
  ·rename_i y xs hn;split at e
   ·rename_i zs hz;split at e
    ·rename_i hl;cases e;obtain⟨w,rfl,a3⟩:=a2.one;obtain⟨p',ep,hp,vs2,k1,k2⟩:=zeb rp2 (a1.ext x2) hn (by intro z;cases z);cases ep;obtain⟨b,ws2,rfl,m1,m2⟩:=zgv rp2 a3 hz;have E:Ext ρ2 H2 ρ2 (upd H2 p (.lst (vs2++ws2))):=Ext.wr hp (zgn k1) _;exact⟨p,b,vs2,ws2,rfl,rfl,k1,m1,by rw[k2.length,m2.length];exact hl,q _ _ _ ((x1.trans x2).trans E) (rp2.wr hp (zgn k1) ⟨_,zq,(k2.append m2).ext E⟩) .non⟩
    ·cases e
   ·cases e
  ·cases e
 ·cases e
def eFz (f:SE):SE:=λσ au=>(f σ au).bind λx st1=>match x with
 | .ref n=>match st1[n]? with
  | some (.lst xs)=>.ok (.lst xs) (st1.set n .dead)
  | _=>.stuck
 | _=>.stuck
theorem d_fz (ho:DE X o f):DE X o (eFz f):=zfr ho λτ H Q hq0=>by
 obtain⟨ρ,σ,au,v,st',a,rp,e,q⟩:=hq0;obtain⟨x,st1,e1,e⟩:=za e;refine⟨ρ,σ,au,x,st1,a,rp,e1,λρ1 H1 u x1 rp1 a1=>?_⟩;split at e
 ·rename_i n;split at e
  ·rename_i xs hn;cases e;obtain⟨p,rfl,hp,vs2,k1,k2⟩:=zeb rp1 a1 hn (by intro z;cases z);have hlen:=(xbg.mp hp).1;obtain⟨E,R⟩:=rp1.kill hlen;refine q _ _ _ (x1.trans E) R (.lst k1 ⟨λz=>?_,λz=>(rp1.gh p z).2 (xbz hp)⟩ (k2.ext E));obtain⟨i,hi,e2⟩:=xem z;have e3:(ρ1.m.set n none)[i]?=some (some p):=by rw[xbd hi,e2]
   by_cases hin:i=n
   ·subst hin;rw[xdv hlen] at e3;simp at e3
   ·rw[xcl (xer hin)] at e3;exact hin (rp1.inj i n p e3 hp)
  ·cases e
 ·cases e
end
def sNx:SS:=λσ au=>.ok (.nx σ) au
def sBrk:SS:=λσ au=>.ok (.brk σ) au
def sCt:SS:=λσ au=>.ok (.ct σ) au
def sRet (f:SE):SS:=λσ au=>(f σ au).bind λv st1=>.ok (.ret v) st1
def sRetN:SS:=λ_ au=>.ok (.ret .non) au
def sDrop (f:SE):SS:=λσ au=>(f σ au).bind λ_ st1=>.ok (.nx σ) st1
def aF (i:Nat) (f:SE):SS:=λσ au=>(f σ au).bind λv st1=>.ok (.nx (σ.set i (some v))) st1
def aD (s t:SS):SS:=λσ au=>match s σ au with
 | .ok (.nx σ1) st1=>t σ1 st1
 | r=>r
def sIf (c:ST) (s t:SS):SS:=λσ au=>(c σ au).bind λb st1=>if b=true then s σ st1 else t σ st1
def sAug (i:Nat) (g:D->D->Store->Res D) (f:SE):SS:=λσ au=>match σ[i]? with
 | some (some x)=>(f σ au).bind λy st1=>(g x y st1).bind λz st2=>.ok (.nx (σ.set i (some z))) st2
 | _=>.stuck
def sSetIx (f g h:SE):SS:=λσ au=>(h σ au).bind λv st1=>(f σ st1).bind λx st2=>(g σ st2).bind λy st3=>match x,y with
 | .ref n,.int k=>match st3[n]? with
  | some (.lst xs)=>match ixN xs.length k with
   | some j=>.ok (.nx σ) (st3.set n (.lst (xs.set j v)))
   | none=>.stuck
  | _=>.stuck
 | _,_=>.stuck
section
theorem zbqr:DSs X [] sNx:=zbil zbin λE τ H hq0=>by
 obtain⟨ρ,σ,au,fl,st',a,rp,e,q⟩:=hq0;cases e;exact q _ _ _ (.refl _ _) rp a
theorem zbfz:DSt X (.Break pos) sBrk:=ztv zbds λE τ H hq0=>by
 obtain⟨ρ,σ,au,fl,st',a,rp,e,q⟩:=hq0;cases e;exact q _ _ _ (.refl _ _) rp a
theorem zbqp (he:DE X e f):DSt X (.Return (some e) pos) (sRet f):=ztv (zbod he) λE τ H hq0=>by
 obtain⟨ρ,σ,au,fl,st',a,rp,e,q⟩:=hq0;obtain⟨x,st1,e1,e⟩:=za e;cases e;exact⟨ρ,σ,au,x,_,a,rp,e1,λρ1 H1 u x1 rp1 a1=>q _ _ _ x1 rp1 a1⟩
theorem zbky {pos:Pos}(he:DE X e f)(hs:swapsWith e none pos.line X.env=pure false:=by rfl):DSt X (.Expr e pos) (sDrop f):=ztv (zbio he hs) λE τ H hq0=>by
 obtain⟨ρ,σ,au,fl,st',a,rp,e,q⟩:=hq0;obtain⟨x,st1,e1,e⟩:=za e;cases e;exact⟨ρ,σ,au,x,_,a,rp,e1,λρ1 H1 u x1 rp1 a1=>q _ _ _ x1 rp1 (a.ext x1)⟩
theorem zbtf {K:Fg}  :∀E τ H,tDS K (aF i f) E τ H->tAsg (tD K f) (gName i) E τ H:=λE τ H hq0=>by
 obtain⟨ρ,σ,au,fl,st',a,rp,e,q⟩:=hq0;obtain⟨x,st1,e1,e⟩:=za e;cases e;exact⟨ρ,σ,au,x,_,a,rp,e1,λρ1 H1 u x1 rp1 a1=>q _ _ _ x1 rp1 ((a.ext x1).set a1 i)⟩
theorem zbqo {X:Cx}{pos:Pos}   (hN:X.N.Nodup)(hi:X.N[i]?=some x)(hx:L2.Loc X.env.scope x)(he:DE X e f)(hs:swapsWith e (some (.Name x pos')) pos.line X.env=pure false:=by rfl)(hf:X.fn x=true\/X.env.scope.names.lookup x=some .local:=by first | exact .inl rfl | exact .inr rfl | assumption) :
 DSt X (.Assign [.Name x pos'] e pos) (aF i f):=ztv (zboc hN hi hx he hs hf) zbtf
theorem zbqq (h1:DSt X sm s):DSs X [sm] s:=zbim h1
section
variable {X:Cx}{e:Expr}{sm:Stmt}{rest:List Stmt}{s:SS}{t:SS}
theorem zbla (h1:DSt X sm s)(h2:DSs X rest t):DSs X (sm::rest) (aD s t):=zbil (zbdq h1 h2) λE τ H hq0=>by
 obtain⟨ρ,σ,au,fl,st',a,rp,e,q⟩:=hq0;unfold aD at e;split at e
 ·rename_i σ1 st1 e1;exact⟨ρ,σ,au,_,st1,a,rp,e1,λρ1 H1 τ1 x1 rp1 a1=>⟨ρ1,σ1,st1,fl,st',a1,rp1,e,q.ext x1⟩⟩
 ·rename_i hne;refine⟨ρ,σ,au,fl,st',a,rp,e,?_⟩;cases fl with
  | nx σ'=>exact absurd e (hne σ' st')
  | brk σ'=>exact q
  | ct σ'=>exact q
  | ret v=>exact q
end
theorem zbuh  (hc:DT X c b)(ha:DSs X a' s)(hb:DSs X b' t):DSt X (.If c a' b' pos) (sIf b s t):=ztv (zbtk hc ha hb) λE τ H hq0=>by
 obtain⟨ρ,σ,au,fl,st',a,rp,e,q⟩:=hq0;obtain⟨x,st1,e1,e⟩:=za e;refine⟨ρ,σ,au,x,st1,a,rp,e1,λρ1 H1 x1 rp1=>?_⟩;cases x with
 | true=>exact iteT ⟨ρ1,σ,st1,fl,st',a.ext x1,rp1,e,q.ext x1⟩
 | false=>exact iteF ⟨ρ1,σ,st1,fl,st',a.ext x1,rp1,e,q.ext x1⟩
def IpD (K:Fg) (g:D->D->Store->Res D) (r:TIp):Prop :=
 ∀ρ H au x y u v z st' (Q:VK),Rep K ρ au H->At K ρ H x u->At K ρ H y v->g x y au=.ok z st'->(∀ρ' H' w,Ext ρ H ρ' H'->Rep K ρ' st' H'->At K ρ' H' z w->Q w H')->r u v H Q
theorem zbqt {X:Cx}      (hN:X.N.Nodup)(hi:X.N[i]?=some x)(hx:L2.Loc X.env.scope x)(he:DE X e f)(ho:PIp X op ti)(hr:IpD X.K g ti)(hf:X.fn x=true\/X.env.scope.names.lookup x=some .local:=by first | exact .inl rfl | exact .inr rfl | assumption) :
  DSt X (.AugAssign (.Name x pos') op e pos) (sAug i g f):=ztv (zbof hN hi hx he ho hf) λE τ H hq0=>by
 obtain⟨ρ,σ,au,fl,st',a,rp,e,q⟩:=hq0;unfold sAug at e;split at e
 ·rename_i d hd;obtain⟨y,st1,e1,e⟩:=za e;obtain⟨z,st2,e2,e⟩:=za e;cases e;obtain⟨u,hu,a0⟩:=a.get hd;refine⟨u,hu,ρ,σ,au,y,st1,a,rp,e1,λρ1 H1 w x1 rp1 a1=>?_⟩;exact hr ρ1 H1 st1 d y u w z st' _ rp1 (a0.ext x1) a1 e2 λρ2 H2 zz x2 rp2 a2=>q _ _ _ (x1.trans x2) rp2 ((a.ext (x1.trans x2)).set a2 i)
 ·cases e
theorem ip_D {K:Fg} :IpD K (oI (λ_ _=>True) λi j=>.int (p i j)) (ipI p):=λρ H au x y u v z st' Q rp a b e q=>by
 unfold oI at e;split at e
 ·cases a;cases b;rw[if_pos True.intro] at e;cases e;exact⟨_,_,rfl,rfl,q _ _ _ (.refl _ _) rp (.int _)⟩
 ·cases e
theorem zbfw {pos:Pos}(he:DE X value h)(ho:DE X o f)(hi:DE X i g)(ha:∀v,assign (.Subscript o i pos') X.env v=(do
   let ov ← holding [v] (eval o X.env)
   let iv ← holding [v,ov] (eval i X.env)
   standAt pos'
   holding [v,ov,iv] (setItem ov iv v)
   release [v,ov,iv] []):=by intro _;rfl)
  (hs:swapsWithSole [.Subscript o i pos'] value pos.line X.env=pure false:=by rfl)(hw:swappedStores [.Subscript o i pos'] value X.env=pure none:=by rfl)
  (h1:(assignEach [.Subscript o i pos'] X.env).map (·.2)=[assign (.Subscript o i pos') X.env]:=by rfl):DSt X (.Assign [.Subscript o i pos'] value pos) (sSetIx f g h) :=
 ztv (zbog he (zboj ho hi zbdh ha) hs hw h1) λE τ H hq0=>by
 obtain⟨ρ,σ,au,fl,st',a,rp,e,q⟩:=hq0;obtain⟨v,st1,e1,e⟩:=za e;obtain⟨x,st2,e2,e⟩:=za e;obtain⟨y,st3,e3,e⟩:=za e;refine⟨ρ,σ,au,v,st1,a,rp,e1,λρ1 H1 u x1 rp1 a1=>?_⟩;refine⟨ρ1,σ,st1,x,st2,a.ext x1,rp1,e2,λρ2 H2 w x2 rp2 a2=>?_⟩;refine⟨ρ2,σ,st2,y,st3,a.ext (x1.trans x2),rp2,e3,λρ3 H3 t x3 rp3 a3=>?_⟩;split at e
 ·rename_i n k _;split at e
  ·rename_i xs hn;split at e
   ·rename_i j hj;cases e;cases a3;obtain⟨p,rfl,hp,vs,g1,g2⟩:=zeb rp3 (a2.ext x3) hn (by intro z;cases z);have E:Ext ρ3 H3 ρ3 (upd H3 p (.lst (vs.set j u))):=Ext.wr hp (zgn g1) _;refine⟨p,vs,k,j,rfl,rfl,g1,by rw[g2.length];exact hj,?_⟩;exact q _ _ _ ((x1.trans (x2.trans x3)).trans E) (rp3.wr hp (zgn g1) ⟨_,zq,(g2.set (a1.ext (x2.trans x3)) j).ext E⟩) (a.ext ((x1.trans (x2.trans x3)).trans E))
   ·cases e
  ·cases e
 ·cases e
end
abbrev SG:=D->DS->Option DS
def gN (i:Nat):SG:=λd σ=>some (σ.set i (some d))
def gsNil:List D->DS->Option DS:=λds σ=>match ds with
 | []=>some σ
 | _=>none
def gsCons (t:SG) (u:List D->DS->Option DS):List D->DS->Option DS:=λds σ=>match ds with
 | d::r=>(t d σ).bind λσ1=>u r σ1
 | _=>none
def gT (n:Nat) (u:List D->DS->Option DS):SG:=λd σ=>match d with
 | .tup ds=>if ds.length=n then u ds σ else none
 | _=>none
def gD (K:Fg) (b:SG):TG:=λv τ H Q=>∃ρ σ d σ',AtS K ρ H σ τ/\At K ρ H d v/\b d σ=some σ'/\∀τ',AtS K ρ H σ' τ'->Q τ' H
def gDs (K:Fg) (b:List D->DS->Option DS):TGs:=λvs τ H Q=>∃ρ σ ds σ',AtS K ρ H σ τ/\AtAll K ρ H ds vs/\b ds σ=some σ'/\∀τ',AtS K ρ H σ' τ'->Q τ' H
abbrev DG (X:Cx) (tg:Expr) (b:SG):Prop:=PG X tg (gD X.K b)
abbrev DGs (X:Cx) (ts:List Expr) (b:List D->DS->Option DS):Prop:=PGs X ts (gDs X.K b)
section
theorem zbsl  (h:PG X e g)(k:∀v τ H Q,g' v τ H Q->g v τ H Q):PG X e g':=λaU s σ H v u Q I r q=>h aU s σ H v u Q I r (k _ _ _ _ q)
theorem zbiw  (h:PGs X es g)(k:∀v τ H Q,g' v τ H Q->g v τ H Q):PGs X es g':=λaU s σ H v u Q I r q=>h aU s σ H v u Q I r (k _ _ _ _ q)
theorem zblj {X:Cx}   (hN:X.N.Nodup)(hi:X.N[i]?=some x)(hx:L2.Loc X.env.scope x)(hf:X.fn x=true\/X.env.scope.names.lookup x=some .local:=by first | exact .inl rfl | exact .inr rfl | assumption):DG X (.Name x pos) (gN i) :=
 zbsl (zbiy hN hi hx hf) λv τ H Q hq0=>by
 obtain⟨ρ,σ,d,σ',a,b,e,q⟩:=hq0;cases e;exact q _ (a.set b i)
theorem zbli:DGs X [] gsNil:=zbiw zbix λv τ H Q hq0=>by
 obtain⟨ρ,σ,d,σ',a,b,e,q⟩:=hq0;unfold gsNil at e;split at e
 ·cases e;cases b;exact⟨rfl,q _ a⟩
 ·cases e
theorem zbgc (h1:DG X e t)(h2:DGs X es u)(hs:(assignEach (e::es) X.env).map (·.2)=assign e X.env::(assignEach es X.env).map (·.2):=by rfl):DGs X (e::es) (gsCons t u) :=
 zbiw (zbdy h1 h2 hs) λv τ H Q hq0=>by
 obtain⟨ρ,σ,d,σ',a,b,e,q⟩:=hq0;unfold gsCons at e;split at e
 ·obtain⟨σ1,e1,e2⟩:=xeq.mp e;cases b with
  | cons b1 b2=>exact⟨_,_,rfl,ρ,σ,_,σ1,a,b1,e1,λτ1 a1=>⟨ρ,σ1,_,σ',a1,b2,e2,q⟩⟩
 ·cases e
theorem zbqv {X:Cx}   (hc:X.calm=true)(h:DGs X es u)(hn:(assignEach es X.env).length=n:=by rfl)(hst:(assignEach es X.env).findIdx? (·.1)=none:=by rfl):DG X (.Tuple es k pos) (gT n u) :=
 zbsl (zboi hc h hn hst) λv τ H Q hq0=>by
 obtain⟨ρ,σ,d,σ',a,b,e,q⟩:=hq0;unfold gT at e;split at e
 ·split at e
  ·rename_i hl;cases b with
   | tup h1 h2 h3=>exact⟨_,_,rfl,SqT.of h1,by rw[h3.length];exact hl,ρ,σ,_,σ',a,h3,e,q⟩
  ·cases e
 ·cases e
end
structure ExtG (ρ:Loc) (H:Hp) (ρ':Loc) (H':Hp):Prop where
 len:ρ.m.length<=ρ'.m.length
 old:∀(n:Nat) (a:Addr),n < ρ.m.length->ρ'.m[n]?=some (some a)->ρ.m[n]?=some (some a)
 keep:∀a o,H a=some o->some a∉ρ.m->H' a=some o/\some a∉ρ'.m
 gho:∀a∈ρ'.g,a∈ρ.g\/H a=none
 frz:∀a ob u,H a=some (.frz ob u)->H' a=some (.frz ob u)
theorem Ext.toG   (x:Ext ρ H ρ' H'):ExtG ρ H ρ' H':=⟨x.len,x.old,x.keep,λa h=>.inl (by rw[← x.gho];exact h),x.frz⟩
theorem ExtG.then   (a:ExtG ρ H ρ1 H1)(b:Ext ρ1 H1 ρ2 H2):ExtG ρ H ρ2 H2 :=
 ⟨xbc a.len b.len,λn c h e=>a.old n c h (b.old n c (xbh h a.len) e),λc o e n=>by
  obtain⟨e1,n1⟩:=a.keep c o e n
  exact b.keep c o e1 n1,λc h=>a.gho c (by rw[← b.gho];exact h),λc ob u e=>b.frz c ob u (a.frz c ob u e)⟩
theorem ExtG.out   (x:ExtG ρ H ρ' H')   (h:H a=some o)(n:Out ρ a):H' a=some o/\Out ρ' a :=
 ⟨(x.keep a o h n.1).1,(x.keep a o h n.1).2,λz=>by
  rcases x.gho a z with q | q
  ·exact n.2 q
  ·rw[h] at q;cases q⟩
theorem ExtG.mv   (x:ExtG ρ H ρ' H'):Mv ρ H ρ' H':=⟨λh n=>x.out h n,x.len,x.old⟩
theorem At.extG {K:Fg}   (x:ExtG ρ H ρ' H')   (h:At K ρ H d v):At K ρ' H' d v:=h.mv x.mv
theorem Ls.extG {K:Fg}     (x:ExtG ρ H ρ' H')(h:Ls K ρ H a vs):Ls K ρ' H' a vs:=h.mv x.mv
structure ItOk (K:Fg) (ρ:Loc) (H:Hp) (J:It) (xs:List D):Prop where
 item:∀ρ2 H2,ExtG ρ H ρ2 H2->∀(i:Nat) (x:D),xs[i]?=some x->J.go i H2/\∀y H3,J.yld i H2 y H3->Ext ρ2 H2 ρ2 H3/\∀au,Rep K ρ2 au H2->Rep K ρ2 au H3/\At K ρ2 H3 x y
 done:∀ρ2 H2,ExtG ρ H ρ2 H2->∀i:Nat,xs.length<=i->J.stop i H2
def iD (K:Fg) (f:SA):TI:=λτ H R=>∃ρ σ au xs st',AtS K ρ H σ τ/\Rep K ρ au H/\f σ au=.ok xs st'/\∀ρ' H' J,Ext ρ H ρ' H'->Rep K ρ' st' H'->ItOk K ρ' H' J xs->R J H'
abbrev DI (X:Cx) (tg iter:Expr) (f:SA):Prop:=PI X tg iter (iD X.K f)
noncomputable def seqV:D->Option (List D)
 | .tup xs=>some xs
 | .lst xs=>some xs
 | .scr xs=>some xs
 | _=>none
def aH (f:SE):SA:=λσ au=>(f σ au).bind λx st1=>match seqV x with
 | some xs=>.ok xs st1
 | none=>.stuck
noncomputable def rng (lo:Int) (n:Nat):List D:=(List.range n).map λ(i:Nat)=>D.int (lo+i)
def iR1 (g:SA):SA:=λσ au=>(g σ au).bind λxs st1=>match xs with
 | [.int j]=>if -(2 ^ 62)<=j/\j < 2 ^ 62 then .ok (rng 0 j.toNat) st1 else .stuck
 | _=>.stuck
def iR2 (g:SA):SA:=λσ au=>(g σ au).bind λxs st1=>match xs with
 | [.int i,.int j]=>if -(2 ^ 62)<=i/\i < 2 ^ 62/\-(2 ^ 62)<=j/\j < 2 ^ 62 then .ok (rng i (j - i).toNat) st1 else .stuck
 | _=>.stuck
theorem zjs {lo:Int}   (h:(rng lo n)[i]?=some x):i < n/\x=.int (lo+i):=by
 unfold rng at h;rw[xco] at h;rcases xff i n with z | z
 ·rw[List.getElem?_range z] at h;exact⟨z,(xcv h).symm⟩
 ·rw[xhm (by rw[xeo];exact z)] at h;cases h
theorem zbkf {K:Fg}   {lo:Int} :ItOk K ρ H (Itr lo n) (rng lo n) where
 item:=λρ2 H2 x i d e=>by
  obtain⟨h1,rfl⟩:=zjs e;refine⟨h1,λy H3 hy=>?_⟩;obtain⟨rfl,rfl⟩:=hy;exact⟨.refl _ _,λ_ r=>⟨r,.int _⟩⟩
 done:=λρ2 H2 x i h=>by
  unfold rng at h;rw[xbb,xeo] at h;exact h
section
theorem zbit  (h:PI X tg l t)(k:∀τ H R,t' τ H R->t τ H R):PI X tg l t':=λaU s σ H R I q=>h aU s σ H R I (k _ _ _ q)
theorem zbtl  (h:PI X tg l t)(h':PI X tg l t'):PI X tg l (λτ H R=>t τ H R\/t' τ H R):=λaU s σ H R I q=>by
 rcases q with q | q
 ·exact h aU s σ H R I q
 ·exact h' aU s σ H R I q
theorem zbcw {K:Fg}      (hs:∀ρ2 H2,ExtG ρ H ρ2 H2->SqL K H2 p vs)(al:AtAll K ρ H xs vs):ItOk K ρ H (Itl K p) xs where
 item:=λρ2 H2 x i d e=>by
  obtain⟨v,hv,a⟩:=al.get e;refine⟨⟨vs,v,hs _ _ x,hv⟩,λy H3 hy=>?_⟩;obtain⟨rfl,h2⟩:=hy;have:=h2 vs (hs _ _ x);rw[hv] at this;cases this;exact⟨.refl _ _,λ_ r=>⟨r,a.extG x⟩⟩
 done:=λρ2 H2 x i h=>⟨vs,hs _ _ x,by rw[al.length];exact h⟩
theorem zbsc {K:Fg}      (hs:∀ρ2 H2,ExtG ρ H ρ2 H2->SqT K H2 p vs)(al:AtAll K ρ H xs vs):ItOk K ρ H (Itt K p) xs where
 item:=λρ2 H2 x i d e=>by
  obtain⟨v,hv,a⟩:=al.get e;refine⟨⟨vs,v,hs _ _ x,hv⟩,λy H3 hy=>?_⟩;obtain⟨rfl,h2⟩:=hy;have:=h2 vs (hs _ _ x);rw[hv] at this;cases this;exact⟨.refl _ _,λ_ r=>⟨r,a.extG x⟩⟩
 done:=λρ2 H2 x i h=>⟨vs,hs _ _ x,by rw[al.length];exact h⟩
theorem zbqu (hl:DE X l f):DI X tg l (aH f):=zbit (zbtl (zbiu hl) (zboh hl)) λτ H R hq0=>by
 obtain⟨ρ,σ,au,xs,st',a,rp,e,q⟩:=hq0;obtain⟨x,st1,e1,e⟩:=za e;cases x with
 | tup ys =>
  cases e;refine .inr ⟨ρ,σ,au,_,_,a,rp,e1,λρ1 H1 u x1 rp1 a1=>?_⟩;cases a1 with
  | tup h1 h2 h3=>exact⟨_,rfl,⟨_,SqT.of h1⟩,q _ _ _ x1 rp1 (zbsc (λρ2 H2 x2=>SqT.of (x2.out h1 h2).1) h3)⟩
 | lst ys =>
  cases e;refine .inl ⟨ρ,σ,au,_,_,a,rp,e1,λρ1 H1 u x1 rp1 a1=>?_⟩;cases a1 with
  | lst h1 h2 h3=>exact⟨_,rfl,⟨_,SqL.of h1⟩,q _ _ _ x1 rp1 (zbcw (λρ2 H2 x2=>SqL.of (x2.out h1 h2).1) h3)⟩
 | scr ys =>
  cases e;refine .inl ⟨ρ,σ,au,_,_,a,rp,e1,λρ1 H1 u x1 rp1 a1=>?_⟩;cases a1 with
  | scr h1 h3=>exact⟨_,rfl,⟨_,h1.sq⟩,q _ _ _ x1 rp1 (zbcw (λρ2 H2 x2=>(h1.extG x2).sq) h3)⟩
 | _=>cases e
theorem zbae (hg:Gl X "range")(hm:X.mg "range"=none)(ha:DA X [a] g)(hs:starEach [a] X.env=[(false,eval a X.env)]:=by rfl):DI X tg (.Call (.Name "range" p) [a] [] pos) (iR1 g) :=
 zbit (zyr hg hm ha hs) λτ H R hq0=>by
 obtain⟨ρ,σ,au,xs,st',a,rp,e,q⟩:=hq0;obtain⟨x,st1,e1,e⟩:=za e;split at e
 ·split at e
  ·rename_i hj;cases e;refine⟨ρ,σ,au,_,_,a,rp,e1,λρ1 H1 u x1 rp1 a1=>?_⟩;obtain⟨w,rfl,a2⟩:=a1.one;cases a2;exact⟨_,rfl,hj.1,hj.2,q _ _ _ x1 rp1 zbkf⟩
  ·cases e
 ·cases e
theorem zbad (hg:Gl X "range")(hm:X.mg "range"=none)(ha:DA X [a,b] g)(hs:starEach [a,b] X.env=[(false,eval a X.env),(false,eval b X.env)]:=by rfl)(hs2:starEach [b] X.env=[(false,eval b X.env)]:=by rfl):DI X tg (.Call (.Name "range" p) [a,b] [] pos) (iR2 g) :=
 zbit (zyq hg hm ha hs hs2) λτ H R hq0=>by
 obtain⟨ρ,σ,au,xs,st',a,rp,e,q⟩:=hq0;obtain⟨x,st1,e1,e⟩:=za e;split at e
 ·split at e
  ·rename_i hj;cases e;refine⟨ρ,σ,au,_,_,a,rp,e1,λρ1 H1 u x1 rp1 a1=>?_⟩;obtain⟨w,w2,rfl,a2,a3⟩:=a1.two;cases a2;cases a3;exact⟨_,_,rfl,hj,q _ _ _ x1 rp1 zbkf⟩
  ·cases e
 ·cases e
end
def iDict (f:SE):SA:=λσ au=>(f σ au).bind λx st1=>match x with
 | .ref n=>match st1[n]? with
  | some (.dT kvs)=>.ok (aJ (kvs.map (·.1))) (st1.set n (.fT kvs))
  | _=>.stuck
 | _=>.stuck
section
theorem zblh (hl:DE X l f):DI X tg l (iDict f):=zbit (zbiv hl) λτ H R hq0=>by
 obtain⟨ρ,σ,au,xs,st',a,rp,e,q⟩:=hq0;obtain⟨x,st1,e1,e⟩:=za e;refine⟨ρ,σ,au,x,st1,a,rp,e1,λρ1 H1 u x1 rp1 a1=>?_⟩;split at e
 ·rename_i n;split at e
  ·rename_i kvs hn;cases e;obtain⟨p,rfl,hp,vs,g1,g2⟩:=zeb rp1 a1 hn (by intro z;cases z);refine⟨p,vs,kvs.map (·.1),rfl,g1,g2.keys,λob ps h1 h2=>?_⟩;have E:Ext ρ1 H1 ρ1 (upd H1 p (.frz ob (.dT vs))):=Ext.wr hp (zjz g1) _;have R:Rep X.K ρ1 (st1.set n (.fT kvs)) (upd H1 p (.frz ob (.dT vs))):=rp1.wr hp (zjz g1) ⟨vs,ob,zq,g2.ext E⟩;refine q _ _ _ (x1.trans E) R ⟨λρ2 H2 x2 i d e=>?_,λρ2 H2 x2 i h=>?_⟩
   ·have e2:(ps.map (·.2))[i]?=(kvs.map (·.1))[i]?:=by rw[h1]
    unfold aJ at e;rw[xco,← e2,xco] at e;cases hi:ps[i]? with
    | none=>rw[hi] at e;cases e
    | some x =>
     rw[hi] at e;cases e;refine⟨⟨(xbg.mp hi).1,x2.frz _ _ _ zq⟩,λy H3 hy=>?_⟩;obtain⟨rfl,x',hx',rfl⟩:=hy;rw[hi] at hx';cases hx';have ht:=h2 x (xbz hi);have a3:At X.K ρ1 H1 (aL x.2) (.ref x.1):=.tup ht (zqi rp1 ht) (zgq _);exact⟨.refl _ _,λ_ r=>⟨r,(a3.ext E).extG x2⟩⟩
   ·have e2:=congrArg List.length h1;rw[xbb] at e2;unfold aJ at h;rw[xbb,← e2] at h;exact⟨h,x2.frz _ _ _ zq⟩
  ·cases e
 ·cases e
end
def forF (bd:SG) (body:SS):List D->SS
 | [],σ,au=>.ok (.nx σ) au
 | x::xs,σ,au=>match bd x σ with
  | none=>.stuck
  | some σ1=>match body σ1 au with
   | .ok (.nx σ2) st2=>forF bd body xs σ2 st2
   | .ok (.ct σ2) st2=>forF bd body xs σ2 st2
   | .ok (.brk σ2) st2=>.ok (.nx σ2) st2
   | r=>r
def sFor (it:SA) (bd:SG) (body:SS):SS:=λσ au=>(it σ au).bind λxs st1=>forF bd body xs σ st1
def whileF (c:ST) (body:SS):Nat->SS
 | 0,_,_=>.stuck
 | n+1,σ,au=>(c σ au).bind λb st1=>if b=true then(match body σ st1 with
  | .ok (.nx σ2) st2=>whileF c body n σ2 st2
  | .ok (.ct σ2) st2=>whileF c body n σ2 st2
  | .ok (.brk σ2) st2=>.ok (.nx σ2) st2
  | r=>r) else .ok (.nx σ) st1
noncomputable def wCap:Nat:=1000000
def sWhile (c:ST) (body:SS):SS:=whileF c body wCap
theorem zbci {α:Type}{xs:List α}  (h:i < xs.length):∃x,xs[i]?=some x/\xs.drop i=x::xs.drop (i+1):=⟨xs[i],xbd h,xfq h⟩
section
theorem zbqs {X:Cx}(hp:PassesOwn (model X.prog X.w) X.A X.env X.xe)(hc:X.calm=true)(hi:DI X tg iter it)(hg:DG X tg bd)(hb:DSs X body b)(hs:∀x,foldedSetIterable iter X.env x=pure x:=by intro _;rfl) :
  DSt X (.For tg iter body [] pos) (sFor it bd b):=ztv (zboe hp hc hi hg hb hs) λE τ H hq0=>by
 obtain⟨ρ,σ,au,fl,st',a,rp,e,q⟩:=hq0;obtain⟨xs,st1,e1,e⟩:=za e;refine⟨ρ,σ,au,xs,st1,a,rp,e1,λρ1 H1 J x1 rp1 ok=>?_⟩;have q1:=q.ext x1;refine⟨λi m τ' H'=>i+m=xs.length/\∃ρ2 σ2 st2,Ext ρ1 H1 ρ2 H'/\AtS X.K ρ2 H' σ2 τ'/\Rep X.K ρ2 st2 H'/\forF bd b (xs.drop i) σ2 st2=.ok fl st',⟨xs.length,by lia,ρ1,σ,st1,.refl _ _,a.ext x1,rp1,e⟩,?_⟩;rintro i m τ' H' ⟨him,ρ2,σ2,st2,x2,a2,rp2,e2⟩;rcases xff i xs.length with hlt | hge
 ·obtain⟨x,hx,hd⟩:=zbci hlt;rw[hd] at e2;obtain⟨go,yl⟩:=ok.item ρ2 H' x2.toG i x hx;refine .inr ⟨go,λτ3 H3=>∃ρ3 σ3 st3,Ext ρ1 H1 ρ3 H3/\AtS X.K ρ3 H3 σ3 τ3/\Rep X.K ρ3 st3 H3/\forF bd b (xs.drop (i+1)) σ3 st3=.ok fl st',λτ3 H3 ⟨ρ3,σ3,st3,n1,n2,n3,n4⟩=>⟨m - 1,by lia,by lia,ρ3,σ3,st3,n1,n2,n3,n4⟩,λy H3 hy=>?_⟩;obtain⟨y1,y4⟩:=yl y H3 hy;obtain⟨y2,y3⟩:=y4 _ rp2;unfold forF at e2;cases hbd:bd x σ2 with
  | none=>rw[hbd] at e2;cases e2
  | some σ1 =>
   rw[hbd] at e2;dsimp only at e2;have X3:=x2.trans y1;refine⟨ρ2,σ2,x,σ1,a2.ext y1,y3,hbd,λτ4 a4=>?_⟩;cases hr:b σ1 st2 with
   | stuck=>rw[hr] at e2;cases e2
   | exc z w=>rw[hr] at e2;cases e2
   | ok fb st3 =>
    rw[hr] at e2;refine⟨ρ2,σ1,st2,fb,st3,a4,y2,hr,?_⟩;cases fb with
    | nx σ3=>exact λρ' H'' τ5 x5 rp5 a5=>⟨ρ',σ3,st3,X3.trans x5,a5,rp5,e2⟩
    | ct σ3=>exact λρ' H'' τ5 x5 rp5 a5=>⟨ρ',σ3,st3,X3.trans x5,a5,rp5,e2⟩
    | brk σ3 =>
     dsimp only at e2;cases e2;exact λρ' H'' τ5 x5 rp5 a5=>q1 _ _ _ (X3.trans x5) rp5 a5
    | ret v =>
     dsimp only at e2;cases e2;exact λρ' H'' u x5 rp5 a5=>q1 _ _ _ (X3.trans x5) rp5 a5
 ·rw[xit hge] at e2;unfold forF at e2;cases e2;exact .inl ⟨ok.done ρ2 H' x2.toG i hge,q1 _ _ _ x2 rp2 a2⟩
theorem zbfv {X:Cx}(hp:PassesOwn (model X.prog X.w) X.A X.env X.xe)(hc:DT X c t)(hb:DSs X body b):DSt X (.While c body [] pos) (sWhile t b):=ztv (zbdr hp hc hb) λE τ H hq0=>by
 obtain⟨ρ,σ,au,fl,st',a,rp,e,q⟩:=hq0;unfold sWhile at e;generalize wCap=n at e;refine⟨λm τ' H'=>∃ρ2 σ2 st2,Ext ρ H ρ2 H'/\AtS X.K ρ2 H' σ2 τ'/\Rep X.K ρ2 st2 H'/\whileF t b m σ2 st2=.ok fl st',⟨n,ρ,σ,au,.refl _ _,a,rp,e⟩,?_⟩;rintro m τ' H' ⟨ρ2,σ2,st2,x2,a2,rp2,e2⟩;cases m with
 | zero=>unfold whileF at e2;cases e2
 | succ m =>
  unfold whileF at e2;obtain⟨x,st3,e3,e4⟩:=za e2;refine⟨ρ2,σ2,st2,x,st3,a2,rp2,e3,λρ3 H3 x3 rp3=>?_⟩;have X3:=x2.trans x3;cases x with
  | false =>
   rw[if_neg (by decide)] at e4;cases e4;exact iteF (q _ _ _ X3 rp3 (a2.ext x3))
  | true =>
   rw[if_pos rfl] at e4;refine iteT ⟨λτ4 H4=>∃ρ4 σ4 st4,Ext ρ H ρ4 H4/\AtS X.K ρ4 H4 σ4 τ4/\Rep X.K ρ4 st4 H4/\whileF t b m σ4 st4=.ok fl st',λτ4 H4 hh=>⟨m,xjh m,hh⟩,?_⟩;cases hr:b σ2 st3 with
   | stuck=>rw[hr] at e4;cases e4
   | exc z w=>rw[hr] at e4;cases e4
   | ok fb st5 =>
    rw[hr] at e4;refine⟨ρ3,σ2,st3,fb,st5,a2.ext x3,rp3,hr,?_⟩;cases fb with
    | nx σ3=>exact λρ' H'' τ5 x5 rp5 a5=>⟨ρ',σ3,st5,X3.trans x5,a5,rp5,e4⟩
    | ct σ3=>exact λρ' H'' τ5 x5 rp5 a5=>⟨ρ',σ3,st5,X3.trans x5,a5,rp5,e4⟩
    | brk σ3 =>
     dsimp only at e4;cases e4;exact λρ' H'' τ5 x5 rp5 a5=>q _ _ _ (X3.trans x5) rp5 a5
    | ret v =>
     dsimp only at e4;cases e4;exact λρ' H'' u x5 rp5 a5=>q _ _ _ (X3.trans x5) rp5 a5
end
def compF (bd:SG) (c:ST) (f:SE):List D->DS->Store->Res (List D)
 | [],_,au=>.ok [] au
 | x::xs,σ,au=>match bd x σ with
  | none=>.stuck
  | some σ1=>(c σ1 au).bind λb st1=>if b=true then(f σ1 st1).bind λy st2=>(compF bd c f xs σ1 st2).bind λys st3=>.ok (y::ys) st3 else compF bd c f xs σ1 st1
def aT (k:Nat) (is:List Nat) (σ:DS):DS:=List.replicate k none++is.map λi=>(σ[i]?).getD none
def aG (it:SA) (k:Nat) (is:List Nat) (bd:SG) (c:ST) (f:SE):SE:=λσ au=>(it σ au).bind λxs st1=>if xs.length<=sizeLine then(compF bd c f xs (aT k is σ) st1).bind λys st2=>.ok (.lst ys) st2 else .stuck
def aI:ST:=λ_ au=>.ok true au
theorem AtS.start {K:Fg}     (h:AtS K ρ H σ τ)(k:Nat)(is:List Nat):AtS K ρ H (aT k is σ) (startC k is τ):=by
 have app:∀{a c:DS} {b d:St},AtS K ρ H a b->AtS K ρ H c d->AtS K ρ H (a++c) (b++d):=λh1 h2=>by
  induction h1 with
  | nil=>exact h2
  | cons r t ih=>exact .cons r ih
 refine app ?_ ?_
 ·induction k with
  | zero=>exact .nil
  | succ k ih=>exact .cons (λd e=>nomatch e) ih
 ·induction is with
  | nil=>exact .nil
  | cons i is ih =>
   refine .cons (λd e=>?_) ih;have e:(σ[i]?).getD none=some d:=e;have e':σ[i]?=some (some d):=by
    cases q:σ[i]? with
    | none=>rw[q] at e;cases e
    | some o=>rw[q] at e;exact congrArg some e
   obtain⟨u,hu,a⟩:=h.get e';exact⟨u,by show(τ[i]?).getD none=some u;rw[hu];rfl,a⟩
def Loc.with (ρ:Loc) (p:Addr):Loc:=⟨ρ.m,p::ρ.g⟩
theorem zbhm     (hp:H p=none):Mv ρ H (ρ.with p) (upd H p o):=⟨λe n=>⟨by rw[zt (zn e hp)];exact e,n.1,λz=>by
 rcases xbs.mp z with z | z
 ·exact zn e hp z
 ·exact n.2 z⟩,xbf _,λ_ _ _ e=>e⟩
theorem At.with {K:Fg}     (hp:H p=none)   (h:At K ρ H d v):At K (ρ.with p) (upd H p o) d v:=h.mv (zbhm hp)
theorem zbbx {ρ ρ':Loc}    (hm:ρ'.m=ρ.m)(hg:p∈ρ.g)(hs:∀a,a∈ρ'.g->a∈ρ.g):Mv ρ H ρ' (upd H p o):=⟨λe n=>⟨by rw[zt (by rintro rfl;exact n.2 hg)];exact e,by rw[hm];exact n.1,λz=>n.2 (hs _ z)⟩,by rw[hm];exact xbf _,λ_ _ _ e=>by rw[hm] at e;exact e⟩
theorem At.grow {K:Fg}{ρ ρ':Loc}    (hm:ρ'.m=ρ.m)(hg:p∈ρ.g)(hs:∀a,a∈ρ'.g->a∈ρ.g)   (h:At K ρ H d v):At K ρ' (upd H p o) d v:=h.mv (zbbx hm hg hs)
theorem AtAll.grow {K:Fg}{ρ ρ':Loc}    (hm:ρ'.m=ρ.m)(hg:p∈ρ.g)(hs:∀a,a∈ρ'.g->a∈ρ.g)   (h:AtAll K ρ H d v):AtAll K ρ' (upd H p o) d v:=h.mv (zbbx hm hg hs)
theorem OAt.map {K:Fg}     (k:∀d v,At K ρ H d v->At K ρ' H' d v)(fz:∀b ob u,H b=some (.frz ob u)->H' b=some (.frz ob u))(same:H' a=H a)(h:OAt K ρ H x a):OAt K ρ' H' x a:=by
 have ka:∀{d:List D} {v:List V},AtAll K ρ H d v->AtAll K ρ' H' d v:=λ{d v} h=>by
  induction d generalizing v with
  | nil=>cases h;exact .nil
  | cons x xs ih=>cases h with | cons a b=>exact .cons (k _ _ a) (ih b)
 cases x with
 | lst xs=>obtain⟨vs,q,r⟩:=h;exact⟨vs,by rw[same];exact q,ka r⟩
 | dT kvs=>obtain⟨vs,q,r⟩:=h;exact⟨vs,by rw[same];exact q,Paired.mapP r λp q z=>⟨z.1,k _ _ z.2⟩⟩
 | fT kvs=>obtain⟨vs,ob,q,r⟩:=h;exact⟨vs,ob,by rw[same];exact q,Paired.mapP r λp q z=>⟨z.1,k _ _ z.2⟩⟩
 | dI kvs=>obtain⟨vs,q,r⟩:=h;exact⟨vs,by rw[same];exact q,Paired.mapP r λp q z=>⟨z.1,k _ _ z.2⟩⟩
 | dead=>exact h.elim
 | tab=>obtain⟨c,ps,q,r⟩:=h;exact⟨c,ps,by rw[same];exact q,r.map fz⟩
theorem Rep.with {K:Fg}     (r:Rep K ρ au H)(hp:H p=none)(vs:List V):Rep K (ρ.with p) au (upd H p (.lst vs)) :=
 ⟨r.len,r.inj,λm b y e1 e2=>by
  have q:=r.obj m b y e1 e2;obtain⟨u,hu⟩:=q.has;exact q.map (λd v h=>h.with hp) (λb ob u e=>by rw[zt (zn e hp)];exact e) (zt (zn hu hp)),λa ha=>by
  rcases xbs.mp ha with rfl | ha
  ·exact⟨⟨vs,zq⟩,(zla r hp).1⟩
  ·obtain⟨⟨ws,h1⟩,h2⟩:=r.gh a ha
   exact⟨⟨ws,by rw[zt (zn h1 hp)];exact h1⟩,h2⟩,r.live⟩
theorem Rep.grow {K:Fg}{ρ':Loc}    (r:Rep K ρ au H)(hm:ρ'.m=ρ.m)(hg:p∈ρ.g)(hs:∀a,a∈ρ'.g->a∈ρ.g)(vs:List V):Rep K ρ' au (upd H p (.lst vs)) :=
 ⟨by rw[hm];exact r.len,by rw[hm];exact r.inj,λm b y e1 e2=>by
  rw[hm] at e1;refine(r.obj m b y e1 e2).map (λd v h=>h.grow hm hg hs) (λb ob u e=>by rw[zt (by rintro rfl;obtain⟨⟨_,z⟩,_⟩:=r.gh _ hg;rw[e] at z;cases z)];exact e) (zt ?_);rintro rfl;exact(r.gh b hg).2 (xbz e1),λa ha=>by
  obtain⟨⟨ws,h1⟩,h2⟩:=r.gh a (hs a ha);refine⟨?_,by rw[hm];exact h2⟩;by_cases e:a=p
  ·subst e;exact⟨vs,zq⟩
  ·exact⟨ws,by rw[zt e];exact h1⟩,by rw[hm];exact r.live⟩
theorem AtS.map {K:Fg}     (k:∀d v,At K ρ H d v->At K ρ' H' d v)(h:AtS K ρ H σ τ):AtS K ρ' H' σ τ:=Paired.mapP h λo v z d e=>by
 obtain⟨u,e1,a⟩:=z d e;exact⟨u,e1,k _ _ a⟩
section
inductive CI (K:Fg) (bd:SG) (c:ST) (f:SE) (xs ys:List D) (st2:Store) (ρ1:Loc) (H1:Hp) (p:Addr) (i:Nat) (τ:St) (H':Hp):Prop where
 | mk {ρ2:Loc} {σ2:DS} {st3:Store} {acc:List D} {accV:List V} {zs:List D} (x2:ExtG ρ1 H1 ρ2 H') (hg:ρ2.g=p::ρ1.g) (hpp:H' p=some (.lst accV)) (hal:AtAll K ρ2 H' acc accV) (hli:acc.length<=i) (a2:AtS K ρ2 H' σ2 τ) (rp2:Rep K ρ2 st3 H') (e3:compF bd c f (xs.drop i) σ2 st3=.ok zs st2) (hac:acc++zs=ys):CI K bd c f xs ys st2 ρ1 H1 p i τ H'
theorem zbmc {k:Nat}{is:List Nat}{K:Fg}        (a:AtS K ρ H σ τ)(rp:Rep K ρ au H)(e1:it σ au=.ok xs st1)(hlen:xs.length<=sizeLine)(e2:compF bd c f xs (aT k is σ) st1=.ok ys st2)
 (fin:∀ρ1 H1 p ρ2 H' accV,Ext ρ H ρ1 H1->Rep K ρ1 st1 H1->H1 p=none->ExtG ρ1 H1 ρ2 H'->ρ2.g=p::ρ1.g->H' p=some (.lst accV)->AtAll K ρ2 H' ys accV->Rep K ρ2 st2 H'->Q (.ref p) H'):tComp (iD K it) k is (gD K bd) (tDT K c) (tD K f) τ H Q:=by
 refine⟨ρ,σ,au,xs,st1,a,rp,e1,λρ1 H1 J x1 rp1 ok p hp=>?_⟩
 refine⟨λi m τ' H'=>i+m=xs.length/\CI K bd c f xs ys st2 ρ1 H1 p i τ' H',
  ⟨xs.length,by lia,.mk ?_ rfl zq .nil (xee _) (((a.ext x1).start k is).map λd v h=>h.with hp) (rp1.with hp []) e2 rfl⟩,?_⟩
 ·have E:Ext ρ1 H1 ρ1 (upd H1 p (.lst [])):=Ext.new hp _
  exact⟨E.len,E.old,E.keep,λa h=>by
   rcases xbs.mp h with rfl | h
   ·exact .inr hp
   ·exact .inl h,E.frz⟩
 rintro i m τ' H' ⟨him,@⟨ρ2,σ2,st3,acc,accV,zs,x2,hg,hpp,hal,hli,a2,rp2,e3,hac⟩⟩;have hpg:p∈ρ2.g:=by rw[hg];exact xbp
 rcases xff i xs.length with hlt | hge
 ·obtain⟨x,hx,hd⟩:=zbci hlt;rw[hd] at e3;obtain⟨go,yl⟩:=ok.item ρ2 H' x2 i x hx
  refine .inr ⟨go,CI K bd c f xs ys st2 ρ1 H1 p (i+1),
   λτ4 H4 hh=>⟨m - 1,by lia,by lia,hh⟩,λy H3 hy=>?_⟩
  obtain⟨y1,y4⟩:=yl y H3 hy;obtain⟨y2,y3⟩:=y4 _ rp2;unfold compF at e3;cases hbd:bd x σ2 with
  | none=>rw[hbd] at e3;cases e3
  | some σ1 =>
   rw[hbd] at e3;dsimp only at e3;obtain⟨bb,st4,e4,e5⟩:=za e3;refine⟨ρ2,σ2,x,σ1,a2.ext y1,y3,hbd,λτ4 a4=>?_⟩;have hpm:some p∉ρ2.m:=(rp2.gh p hpg).2;have hpp3:=(y1.keep p _ hpp hpm).1;refine⟨ρ2,σ1,st3,bb,st4,a4,y2,e4,λρ5 H5 x5 rp5=>?_⟩;have hpp5:=(x5.keep p _ hpp3 hpm).1;have hal5:=(hal.ext y1).ext x5;have g5:ρ5.g=p::ρ1.g:=x5.gho.trans hg;cases bb with
   | false =>
    rw[if_neg (by decide)] at e5;exact iteF (.mk ((x2.then y1).then x5) g5 hpp5 hal5 (xgd hli) (a4.ext x5) rp5 e5 hac)
   | true =>
    rw[if_pos rfl] at e5;obtain⟨w,st6,e6,e7⟩:=za e5;obtain⟨zs',st7,e8,e9⟩:=za e7;cases e9;refine iteT ⟨ρ5,σ1,st4,w,st6,a4.ext x5,rp5,e6,λρ6 H6 u x6 rp6 a6=>?_⟩;have hpm5:some p∉ρ5.m:=(x5.keep p _ hpp3 hpm).2;have hpp6:=(x6.keep p _ hpp5 hpm5).1;have g6:ρ6.g=p::ρ1.g:=x6.gho.trans g5;have hp6:p∈ρ6.g:=by rw[g6];exact xbp
    have hl6:accV.length<=i:=by rw[hal.length];exact hli
    refine⟨accV,hpp6,xdg hl6 (xbh hlt hlen),.mk (acc:=acc++[w]) (accV:=accV++[u]) ?_ g6 zq ?_ (by rw[xbi];exact xfk hli) ?_ (rp6.grow rfl hp6 (λ_ h=>h) _) e8 (by rw[← hac,xck];rfl)⟩
    ·have G:=((x2.then y1).then x5).then x6;refine⟨G.len,G.old,λb o e n=>?_,G.gho,λb ob uu e=>?_⟩
     ·rw[zt (zn e hp)];exact G.keep b o e n
     ·rw[zt (zn e hp)];exact G.frz b ob uu e
    ·exact((hal5.ext x6).append (.cons a6 .nil)).grow rfl hp6 (λ_ h=>h)
    ·exact(a4.ext (x5.trans x6)).map λd v h=>h.grow rfl hp6 (λ_ h=>h)
 ·rw[xit hge] at e3;unfold compF at e3;cases e3;rw[xcy] at hac;subst hac;exact .inl ⟨ok.done _ _ x2 i hge,fin _ _ _ _ _ _ x1 rp1 hp x2 hg hpp hal rp2⟩
theorem zbrg {K:Fg}:∀τ H Q,tD K (aG it k is bd c f) τ H Q->tComp (iD K it) k is (gD K bd) (tDT K c) (tD K f) τ H Q:=λτ H Q hq0=>by
 obtain⟨ρ,σ,au,v,st',a,rp,e,q⟩:=hq0;obtain⟨xs,st1,e1,e⟩:=za e;split at e
 ·rename_i hlen;obtain⟨ys,st2,e2,e⟩:=za e;cases e;refine zbmc a rp e1 hlen e2 λρ1 H1 p ρ2 H' accV x1 rp1 hp x2 hg hpp hal rp2=>?_
  have hpg:p∈ρ2.g:=by rw[hg];exact xbp
  have hpm:some p∉ρ2.m:=(rp2.gh p hpg).2;have self:upd H' p (.lst accV)=H':=zbda hpp;have sub:∀a,a∈(⟨ρ2.m,ρ1.g⟩:Loc).g->a∈ρ2.g:=λb hb=>by rw[hg];exact xbm _ hb
  have E:Ext ρ1 H1 ⟨ρ2.m,ρ1.g⟩ H':=⟨x2.len,x2.old,x2.keep,rfl,x2.frz⟩
  have R:=rp2.grow (ρ':=⟨ρ2.m,ρ1.g⟩) rfl hpg sub accV;have L:=AtAll.grow (ρ:=ρ2) (ρ':=⟨ρ2.m,ρ1.g⟩) (o:=.lst accV) rfl hpg sub hal;rw[self] at R L;refine q _ _ _ (x1.trans E) R (.lst hpp ⟨hpm,λz=>?_⟩ L);obtain⟨⟨ws,h1⟩,_⟩:=rp1.gh p z;rw[hp] at h1;cases h1
 ·cases e
theorem zbre {X:Cx}{N:List Str}(hcalm:X.calm=true)(hi:DI X tg iter it)(hg:∀cl C fp s H,DG (cxC X N scope cl C fp s H) tg bd)(hc:∀cl C fp s H,PIf (cxC X N scope cl C fp s H) ifs (tDT X.K c))(he:∀cl C fp s H,DE (cxC X N scope cl C fp s H) elt f)
 (S:CompScope X N k is scope)(hs:∀x,foldedSetIterable iter X.env x=pure x:=by intro _;rfl):DE X (.ListComp elt [⟨tg,iter,ifs,0⟩] scope pos) (aG it k is bd c f):=zfr (zbbd hcalm hi hg hc he S hs) zbrg
theorem zblg :PIf X [] (tDT X.K aI):=λaU s σ H Q I hq0=>by
 obtain⟨ρ,σ',au,v,st',a,rp,e,q⟩:=hq0;cases e;exact zbis aU s σ H Q I (q _ _ (.refl _ _) rp)
theorem zblf    (h:DT X c t):PIf X [c] (tDT X.K t):=zbir h
end
end Dd
namespace Dd
open PySem L2 PyProof.Rows
def spD (K:Fg) (np:Nat) (F:DFn):Sp:=λvs H Q _=>∃ρ ds au v st',AtAll K ρ H ds vs/\Rep K ρ au H/\F ds au=.ok v st'/\vs.length=np/\∀ρ' H' u,Ext ρ H ρ' H'->Rep K ρ' st' H'->At K ρ' H' v u->Q u H'
def CalD (P:Program) (w:World) (K:Fg) (mg:Str->Option Value) (base:Heap) (x:Str) (k:Nat) (ps:List Str) (F:DFn):Prop:=Callee P w K mg base x k ps (spD K ps.length F)
def fnD (n np:Nat) (body:SS):DFn:=λds au=>if ds.length=np then(match body (ds.map some++List.replicate (n - np) none) au with
 | .ok (.ret v) st'=>.ok v st'
 | .ok (.nx _) st'=>.ok .non st'
 | .exc x st'=>.exc x st'
 | _=>.stuck) else .stuck
section
section
variable {x:Str}{F:DFn}{e:Expr}
theorem zbri {K:Fg}{np:Nat}{f:SA}(hn:∀ds au v st',F ds au=.ok v st'->ds.length=np):∀τ H Q,tD K (aE F f) τ H Q->tCall (spD K np F) [] E0 (tDA K f) τ H Q:=λτ H Q hq0=>by
 obtain⟨ρ,σ,au,v,st',a,rp,e,q⟩:=hq0;obtain⟨x,st1,e1,e⟩:=za e;refine⟨ρ,σ,au,x,st1,a,rp,e1,λρ1 H1 u x1 rp1 a1=>?_⟩;show spD K np F (u++[]) H1 Q E0;rw[xcy];exact⟨ρ1,x,st1,v,st',a1,rp1,e,by rw[a1.length];exact hn _ _ _ _ e,λρ' H' w x2=>q ρ' H' w (x1.trans x2)⟩
end
theorem zbrf {X:Cx}(c:CalD X.prog X.w X.K X.mg X.base x k ps F)(hn:∀ ds au v st', F ds au=.ok v st'->ds.length=ps.length)(hr:Room k X.A)(hg:Gl X x)(ha:DA X (e::es) g)(hdb:(x==("__debug__" : Str))=false:=by decide)
 (he:starEach (e::es) X.env=(false,eval e X.env)::starEach es X.env:=by rfl)(hpl:(backTo pos (starEach es X.env)).any (·.1)=false:=by rfl) :
 DE X (.Call (.Name x p) (e::es) [] pos) (aE F g):=zfr (zbef c hr hg ha hdb he hpl) (zbri hn)
theorem zbca {n np:Nat}{b:SS}{ds:List D}{au st':Store}{v:D}(h:fnD n np b ds au=.ok v st'):ds.length=np:=by
 unfold fnD at h;split at h
 ·assumption
 ·cases h
end
theorem AtAll.some {K:Fg}{ρ:Loc}{H:Hp}:∀{ds:List D} {vs:List V},AtAll K ρ H ds vs->AtS K ρ H (ds.map Option.some) (vs.map Option.some)
 | _,_,.nil=>.nil
 | _,_,.cons a b=>.cons (λd e=>by cases e;exact⟨_,rfl,a⟩) (AtAll.some b)
theorem AtS.append {K:Fg}{ρ:Loc}{H:Hp}:∀{a c:DS} {b d:L2.St},AtS K ρ H a b->AtS K ρ H c d->AtS K ρ H (a++c) (b++d)
 | _,_,_,_,.nil,h=>h
 | _,_,_,_,.cons r t,h=>.cons r (AtS.append t h)
theorem AtS.nones {K:Fg}{ρ:Loc}{H:Hp}:∀n,AtS K ρ H (List.replicate n none) (List.replicate n none)
 | 0=>.nil
 | n+1=>.cons (λd e=>nomatch e) (AtS.nones n)
theorem zbml {K:Fg}{N:List Str}{np:Nat}{b:SS}{vs:List V}{H:Hp}{Q:VK}{E:XK}(h:spD K np (fnD N.length np b) vs H Q E):tDS K b {nx:=λ_ H'=>Q .non H',rt:=Q} (L2.start N vs) H:=by
 obtain⟨ρ,ds,au,v,st',a,rp,e,hl,q⟩:=h;have hd:ds.length=np:=by rw[← a.length];exact hl
 unfold fnD at e;rw[if_pos hd] at e;have as:AtS K ρ H (ds.map Option.some++List.replicate (N.length - np) none) (L2.start N vs):=by
  unfold L2.start;rw[hl];exact a.some.append (.nones _)
 refine⟨ρ,ds.map Option.some++List.replicate (N.length - np) none,au,?_⟩;cases hr:b (ds.map Option.some++List.replicate (N.length - np) none) au with
 | stuck=>rw[hr] at e;cases e
 | exc z w=>rw[hr] at e;cases e
 | ok fl st1 =>
  rw[hr] at e;cases fl with
  | ret w =>
   dsimp only at e;cases e;exact⟨.ret v,st',as,rp,rfl,λρ' H' u x r t=>q ρ' H' u x r t⟩
  | nx σ =>
   dsimp only at e;cases e;exact⟨.nx σ,st',as,rp,rfl,λρ' H' τ x r t=>q ρ' H' .non x r .non⟩
  | brk σ=>cases e
  | ct σ=>cases e
theorem zbmh {P:Program}{w:World}{K:Fg}{mg:Str->Option Value}{base h:Heap}{x:Str}{au:Stmt}{N ps:List Str}{k:Nat}{b:SS}(T:TopF K x au)(X:K.In h)(G:h.Ns mainGlobals mg)(S:FnScope N ps (defScope au))
  (bd:∀(kV doc pm:Value) (an:Option Addr) (cdv ct:Value) (us:List Value),us.length=ps.length->bindArgs (W.fnOf x x (defArgs au) (defBody au) (defScope au) .none kV doc pm an cdv ct) ⟨us,[]⟩=pure (ps.zip us))
  (hbody:∀(f:Addr) (cdv:Value) (A:Around) (outer:List Env) (s:Shared) (H:Hp) (E:XK),Room k (A.deeper (envOfC x (defScope au) s.heap.objs.size f cdv)) ->
   DSs (cxOf CX0 P w K mg base N x (defScope au) f cdv A outer s H E).nox (defBody au) b):CalD P w K mg base x (k+1) ps (fnD N.length ps.length b) :=
 zqz T X G S bd (λvs H Q E hh=>by obtain⟨ρ,ds,au,v,st',a,rp,e,hl,q⟩:=hh;exact hl) λf cdv A outer s H vs Q E hr hh=>⟨_,hbody f cdv A outer s H E hr,zbml hh⟩
def spLaw (K:Fg):Sp:=λvs H Q _=>∃(a:Addr) (ns:List Int),vs=[.ref a]/\SqL K H a (ns.map V.int)/\ns.length<=63/\∀H',Q (.bl true) H'
theorem zbpn {P:Program}{w:World}{K:Fg}{mg:Str->Option Value}{base:Heap}{au:Stmt}{N ps:List Str}{k:Nat}{b:SS}{f:Addr}{fd:FuncData}(F:Fun K "law" "law" au f fd)(S:FnScope N ps (defScope au))(hp:ps.length=1)
  (hbody:∀(cdv:Value) (A:Around) (outer:List Env) (s:Shared) (H:Hp) (E:XK),Room k (A.deeper (envOfC "law" (defScope au) s.heap.objs.size f cdv)) ->
   DSs (cxOf CX0 P w K mg base N "law" (defScope au) f cdv A outer s H E).nox (defBody au) b)
  (holds:∀ns:List Int,ns.length<=63->∃st',fnD N.length 1 b [.scr (ns.map .int)] []=.ok (.bl true) st'):FnOk P w K mg base CX0 (k+1) f fd ps (spLaw K):=by
 refine F.ok S (λvs H Q E hh=>?_) (λcdv A outer s H vs Q E hr hh=>⟨_,hbody cdv A outer s H E hr,?_⟩)
 ·obtain⟨a,ns,rfl,_⟩:=hh;exact hp.symm
 ·obtain⟨a,ns,rfl,hS,hl,q⟩:=hh;obtain⟨st',e⟩:=holds ns hl;refine zbml (np:=1) (E:=E) ⟨⟨[],[]⟩,[.scr (ns.map .int)],[],_,st',.cons (.scr ?_ (zgq ns)) .nil,⟨rfl,λn m a e _=>by simp at e,λn a o e _=>by simp at e,λa h=>(by cases h),λn o e _=>by simp at e⟩,e,rfl,λρ' H' u x r t=>?_⟩
  ·rcases hS with h | h
   ·exact .inl ⟨h,by simp[Out]⟩
   ·exact .inr λH'=>.inr h
  ·cases t;exact q H'
end Dd
namespace Dd
open PySem L2
def oNeg:D->Store->Res D:=λx au=>match x with
 | .int i=>.ok (.int (-i)) au
 | _=>.stuck
def sStuck:SS:=λ_ _=>.stuck
def tru (au:Store):D->Option Bool
 | .non=>some false
 | .bl b=>some b
 | .int i=>some (i != 0)
 | .tup xs=>some !xs.isEmpty
 | d=>(asL au d).map λxs=>!xs.isEmpty
def eTru (f:SE):ST:=λσ au=>(f σ au).bind λv st1=>match tru st1 v with
 | some b=>.ok b st1
 | none=>.stuck
theorem znd {K:Fg}     (h:AtAll K ρ H ds vs):ds.isEmpty=vs.isEmpty:=by
 cases h<;>rfl
theorem zbnm {K:Fg}    (rp:Rep K ρ au H)    (a:At K ρ H d u)(e:tru au d=some b):TruV K u H b:=by
 unfold tru at e;split at e
 ·cases a;cases e;exact rfl
 ·cases a;cases e;exact rfl
 ·cases a;cases e;exact rfl
 ·cases e;cases a with
  | tup h1 h2 h3=>exact .inr (.inl ⟨_,SqT.of h1,by rw[znd h3]⟩)
 ·obtain⟨xs,h0,rfl⟩:=xdj.mp e;obtain⟨p,vs,rfl,h1,h2⟩:=zgv rp a h0;exact .inl ⟨_,SqL.of h1,by rw[znd h2]⟩
section
theorem zbfx:DSt X sm sStuck:=λaU s σ H E I ⟨ρ,σ',au,fl,st',a,rp,e,q⟩=>by cases e
theorem zbql (h:DE X a f)(he:∀whole,isTrue a X.env whole=(do let v ← whole;standAt a.pos;holding [v] (truthy v)):=by intro _;rfl):DT X a (eTru f):=zbnb (zbdp h he) λτ H Q hq0=>by
 obtain⟨ρ,σ,au,v,st',at',rp,e,q⟩:=hq0;obtain⟨x,st1,e1,e⟩:=za e;refine⟨ρ,σ,au,x,st1,at',rp,e1,λρ1 H1 u x1 rp1 a1=>?_⟩;split at e
 ·rename_i bb hb;cases e;exact⟨_,zbnm rp1 a1 hb,q _ _ x1 rp1⟩
 ·cases e
end
end Dd
namespace Dd
open PySem PySem.Spec PyProof.Rows L2
noncomputable def numF:Int->List D->List D
 | _,[]=>[]
 | n,x::xs=>.tup [.int n,x]::numF (n+1) xs
theorem zgm:∀{xs:List D} {n:Int} {i:Nat} {d:D},(numF n xs)[i]?=some d->∃x,xs[i]?=some x/\d=.tup [.int (n+i),x]
 | [],_,_,_,h=>by simp[numF] at h
 | x::xs,n,0,d,h=>by
  simp[numF] at h;exact⟨x,rfl,by rw[← h];simp⟩
 | x::xs,n,i+1,d,h=>by
  simp only[numF,xkg] at h;obtain⟨y,h1,h2⟩:=zgm h;exact⟨y,by simpa using h1,by rw[h2];congr 3;push_cast;lia⟩
theorem zck:∀{xs:List D} {n:Int},(numF n xs).length=xs.length
 | [],_=>rfl
 | _::xs,n=>by simp[numF,zck (xs:=xs)]
section
end
end Dd
namespace Dd
open PySem L2
def bInt:List D->Store->Res D:=λxs au=>match xs with
 | [.int i]=>.ok (.int i) au
 | [.bl k]=>.ok (.int (if k then 1 else 0)) au
 | _=>.stuck
theorem zbgt {K:Fg}:CaD K bInt (λxs H Q=>(∃i,xs=[.int i]/\Q (.int i) H)\/∃k,xs=[.bl k]/\Q (.int (if k then 1 else 0)) H):=λρ H au xs us z st' Q rp aa e q=>by
 unfold bInt at e;split at e
 ·cases e;obtain⟨u,rfl,a⟩:=aa.one;cases a;exact .inl ⟨_,rfl,q _ _ _ (.refl _ _) rp (.int _)⟩
 ·cases e;obtain⟨u,rfl,a⟩:=aa.one;cases a;exact .inr ⟨_,rfl,q _ _ _ (.refl _ _) rp (.int _)⟩
 ·cases e
theorem zbat {ρ:Loc}   (hg:p∈ρ.g)(hs:∀a,a∈g'->a∈ρ.g)(n:Out ρ a):Out ⟨ρ.m++[some p],g'⟩ a :=
 ⟨λz=>by
  rcases xbr.mp z with z | z
  ·exact n.1 z
  ·simp at z;subst z
   exact n.2 hg,λz=>n.2 (hs _ z)⟩
theorem zxb {ρ:Loc}    (hg:p∈ρ.g)(hs:∀a,a∈g'->a∈ρ.g):Mv ρ H ⟨ρ.m++[some p],g'⟩ H:=⟨λe n=>⟨e,zbat hg hs n⟩,by
 show ρ.m.length<=(ρ.m++[some p]).length;rw[xbi];exact xcc _ _,λn a h q=>by
 have q':(ρ.m++[some p])[n]?=some (some a):=q;rw[xbw h] at q'
 exact q'⟩
theorem At.adopt {K:Fg}{ρ:Loc}    (hg:p∈ρ.g)(hs:∀a,a∈g'->a∈ρ.g)   (h:At K ρ H d v):At K ⟨ρ.m++[some p],g'⟩ H d v:=h.mv (zxb hg hs)
theorem AtAll.adopt {K:Fg}{ρ:Loc}    (hg:p∈ρ.g)(hs:∀a,a∈g'->a∈ρ.g)   (h:AtAll K ρ H d v):AtAll K ⟨ρ.m++[Option.some p],g'⟩ H d v:=h.mv (zxb hg hs)
theorem Rep.adopt {K:Fg}        (r:Rep K ρ au H)(hg:p∈ρ.g)(hs:∀a,a∈g'->a∈ρ.g)(hn:p∉g')(hp:H p=some (.lst vs))(al:AtAll K ρ H xs vs) :
  Rep K ⟨ρ.m++[some p],g'⟩ (au++[.lst xs]) H:=by
 have hpm:some p∉ρ.m:=(r.gh p hg).2;have nl:∀(m:Nat),ρ.m[m]?≠some (some p):=λm e=>hpm (xbz e)
 have cs:∀(m:Nat) (b:Addr),(ρ.m++[some p])[m]?=some (some b)->(m < ρ.m.length/\ρ.m[m]?=some (some b))\/(m=ρ.m.length/\b=p):=λm b e=>by
  rcases xff m ρ.m.length with z | z
  ·rw[xbw z] at e;exact .inl ⟨z,e⟩
  ·rw[xct z] at e;have z2:m - ρ.m.length=0:=by
    have:=(xbg.mp e).1;simp at this;lia
   rw[z2] at e;simp at e;exact .inr ⟨by lia,e.symm⟩
 refine⟨by simp[r.len],λm k b e1 e2=>?_,λm b y e1 e2=>?_,λb hb=>?_,λm y e ne=>?_⟩
 ·rcases cs m b e1 with⟨h1,q1⟩ | ⟨h1,rfl⟩
  ·rcases cs k b e2 with⟨h2,q2⟩ | ⟨h2,rfl⟩
   ·exact r.inj m k b q1 q2
   ·exact absurd q1 (nl m)
  ·rcases cs k b e2 with⟨h2,q2⟩ | ⟨h2,_⟩
   ·exact absurd q2 (nl k)
   ·lia
 ·rcases cs m b e1 with⟨h1,q1⟩ | ⟨h1,rfl⟩
  ·rw[xbw (by rw[← r.len];exact h1)] at e2;exact(r.obj m b y q1 e2).map (λd v h=>h.adopt hg hs) (λ_ _ _ e=>e) rfl
  ·rw[h1,r.len,xct (xbf _)] at e2;simp at e2;subst e2;exact⟨vs,hp,al.adopt hg hs⟩
 ·obtain⟨h1,h2⟩:=r.gh b (hs b hb);refine⟨h1,λz=>?_⟩;rcases xbr.mp z with z | z
  ·exact h2 z
  ·simp at z;subst z;exact hn hb
 ·rcases xff m au.length with z | z
  ·rw[xbw z] at e;obtain⟨b,hb⟩:=r.live m y e ne;exact⟨b,by show(ρ.m++[some p])[m]?=_;rw[xbw (by rw[r.len];exact z)];exact hb⟩
  ·have z2:=(xbg.mp e).1;simp at z2;have z3:m=ρ.m.length:=by rw[r.len];lia
   exact⟨p,by show(ρ.m++[some p])[m]?=_;rw[z3,xct (xbf _)];simp⟩
def eCompM (it:SA) (k:Nat) (is:List Nat) (bd:SG) (c:ST) (f:SE):SE:=λσ au=>(it σ au).bind λxs st1=>if xs.length<=sizeLine then(compF bd c f xs (aT k is σ) st1).bind λys st2=>.ok (.ref st2.length) (st2++[.lst ys]) else .stuck
section
theorem zbma {K:Fg}:∀τ H Q,tD K (eCompM it k is bd c f) τ H Q->tComp (iD K it) k is (gD K bd) (tDT K c) (tD K f) τ H Q:=λτ H Q hq0=>by
 obtain⟨ρ,σ,au,v,st',a,rp,e,q⟩:=hq0;obtain⟨xs,st1,e1,e⟩:=za e;split at e
 ·rename_i hlen;obtain⟨ys,st2,e2,e⟩:=za e;cases e;refine zbmc a rp e1 hlen e2 λρ1 H1 p ρ2 H' accV x1 rp1 hp x2 hg hpp hal rp2=>?_
  have hpg:p∈ρ2.g:=by rw[hg];exact xbp
  have hpm:some p∉ρ2.m:=(rp2.gh p hpg).2;have sub:∀a,a∈ρ1.g->a∈ρ2.g:=λb hb=>by rw[hg];exact xbm _ hb
  have hn1:p∉ρ1.g:=λz=>by
   obtain⟨⟨ws,h1⟩,_⟩:=rp1.gh p z;rw[hp] at h1;cases h1
  have R:=rp2.adopt hpg sub hn1 hpp hal
  have E:Ext ρ1 H1 ⟨ρ2.m++[some p],ρ1.g⟩ H':=⟨by
    show ρ1.m.length<=(ρ2.m++[some p]).length;rw[xbi];exact xbc x2.len (xcc _ _),λn b h e=>by
    have e':(ρ2.m++[some p])[n]?=some (some b):=e;rw[xbw (xbh h x2.len)] at e'
    exact x2.old n b h e',λb o e m=>⟨(x2.keep b o e m).1,λz=>by
    rcases xbr.mp z with z | z
    ·exact(x2.keep b o e m).2 z
    ·simp at z;subst z
     rw[hp] at e;cases e⟩,rfl,x2.frz⟩
  exact q _ _ _ (x1.trans E) R (.last (ρ:=⟨ρ2.m,ρ1.g⟩) rp2.len.symm)
 ·cases e
theorem zblt {X:Cx}{N:List Str}(hcalm:X.calm=true)(hi:DI X tg iter it)(hg:∀cl C fp s H,DG (cxC X N scope cl C fp s H) tg bd)(hc:∀cl C fp s H,PIf (cxC X N scope cl C fp s H) ifs (tDT X.K c))(he:∀cl C fp s H,DE (cxC X N scope cl C fp s H) elt f)
 (S:CompScope X N k is scope)(hs:∀x,foldedSetIterable iter X.env x=pure x:=by intro _;rfl):DE X (.ListComp elt [⟨tg,iter,ifs,0⟩] scope pos) (eCompM it k is bd c f):=zfr (zbbd hcalm hi hg hc he S hs) zbma
end
noncomputable def plainE:Expr->Bool
 | .Starred _ _=>false
 | _=>true
theorem zmf    (h:plainE e=true):starEach (e::es) env=(false,eval e env)::starEach es env:=by
 cases e<;>first | rfl | cases h
theorem zbgd      (ha:DE X e f)(hr:DA X es g)(hp:plainE e=true:=by rfl):DA X (e::es) (aB f g):=zblm ha hr (zmf hp)
def bBest (gt:Bool):List D->Store->Res D:=λxs au=>match xs with
 | [x]=>match (seqOf au x).bind asInts with
  | some (n::ns)=>.ok (.int (bestI gt n ns)) au
  | _=>.stuck
 | _=>.stuck
theorem zbmp {K:Fg} :CaD K (bBest gt) (rBest K gt):=λρ H au xs us z st' Q rp aa e q=>by
 unfold bBest at e;split at e
 ·split at e
  ·rename_i n ns h;cases e;obtain⟨ys,h0,h⟩:=xeq.mp h;obtain⟨u,rfl,a⟩:=aa.one;obtain⟨p,vs,rfl,h1,h2⟩:=zim rp a h0;have e:=zcx h2 h;subst e;exact⟨p,n,ns,rfl,h1,q _ _ _ (.refl _ _) rp (.int _)⟩
  ·cases e
 ·cases e
noncomputable def pairsF:List D->List D->List D
 | x::xs,y::ys=>.tup [x,y]::pairsF xs ys
 | _,_=>[]
def iZipT (g:SA):SA:=λσ au=>(g σ au).bind λxs st1=>match xs with
 | [.tup a,.tup b]=>.ok (pairsF a b) st1
 | _=>.stuck
section
end
def sSetG (bd:SG) (f:SE):SS:=λσ au=>(f σ au).bind λv st1=>match bd v σ with
 | some σ1=>.ok (.nx σ1) st1
 | none=>.stuck
end Dd
namespace Dd
open PySem L2 PyProof.Rows
structure JE (X:Cx) (e:Expr) (f:SE):Prop where out:DE X e f
structure JT (X:Cx) (e:Expr) (f:ST):Prop where out:DT X e f
structure JW (X:Cx) (e:Expr) (f:ST):Prop where out:DW X e f
structure JA (X:Cx) (e:List Expr) (f:SA):Prop where out:DA X e f
structure JS (X:Cx) (s:Stmt) (f:SS):Prop where out:DSt X s f
structure JB (X:Cx) (s:List Stmt) (f:SS):Prop where out:DSs X s f
structure JO (X:Cx) (e:Option Expr) (f:DS->Store->Res (Option Int)):Prop where out:DO X e f
structure JG (X:Cx) (e:Expr) (b:SG):Prop where out:DG X e b
structure JGs (X:Cx) (e:List Expr) (b:List D->DS->Option DS):Prop where out:DGs X e b
structure JI (X:Cx) (tg iter:Expr) (f:SA):Prop where out:DI X tg iter f
structure JIf (X:Cx) (ifs:List Expr) (c:ST):Prop where out:PIf X ifs (tDT X.K c)
structure JC (X:Cx) (op:CmpOp) (a b:Expr) (f:SE):Prop where out:PC X op a b (tD X.K f)
theorem JW.pt    (h:JW X e t):JT X e t:=⟨PW.pt h.out⟩
section
theorem zjd   (h:PE X e (tVar i)):JE X e (aA i):=⟨zbui h⟩
end
section
theorem zwe    (h:PE X e (tC v))(k:∀ρ H,At X.K ρ H d v):JE X e (eC d):=⟨zbls h k⟩
end
section
theorem zd {i j pos}:JE X (.Constant (.int i) j pos) (eC (.int i)):=⟨zbuq⟩
end
section
theorem zbcm {b j pos}:JE X (.Constant (.bool b) j pos) (eC (.bl b)):=⟨d_bl⟩
end
section
theorem zblp {j pos}:JE X (.Constant .none j pos) (eC .non):=⟨zbuo⟩
end
section
theorem zbag {x j pos}:JE X (.Constant (.str x) j pos) (eC (.str x)):=⟨zbuk⟩
end
section
theorem zcf    (ho:OpR X (binaryOp op) r)(hr:OpD X.K g r)(ha:JE X a f)(hb:JE X b f'):JE X (.BinOp a op b pos) (aS g f f'):=⟨d_op ho hr ha.out hb.out⟩
end
section
theorem zpd    (ho:OpR X (compareOp op) r)(hr:OpD X.K g r)(ha:JE X a f)(hb:JE X b f')(hm:behindInMarks op b=false):JE X (.Compare a [op] [b] pos) (aS g f f'):=⟨zbur ho hr ha.out hb.out hm⟩
end
section
theorem zu    (ho:OpR X (compareOp op) r)(hr:OpD X.K g r)(ha:JE X a f)(hb:JE X b f')(hm:behindInMarks op b=false):JT X (.Compare a [op] [b] pos) (eB (aS g f f')):=⟨zbqn ho hr ha.out hb.out hm⟩
end
section
end
section
theorem zbgf {op}(h:JE X a f):JE X (.BoolOp op [a] pos) f:=⟨zbum h.out⟩
end
section
section
variable {X:Cx}{a:Expr}{b:Expr}{rest:List Expr}{f:SE}{f':SE}{pos:Pos}
theorem zbgl (ha:JE X a f)(hb:JE X (.BoolOp .And (b::rest) pos) f'):JE X (.BoolOp .And (a::b::rest) pos) (eAnd f f'):=⟨zbus ha.out hb.out⟩
end
end
section
end
section
theorem zbln (ha:JE X a f):JE X (.UnaryOp .Not a pos) (eNot f):=⟨zbun ha.out⟩
end
section
theorem zjb {op}(h:JT X a t)(hop:op=.And\/op=.Or):JW X (.BoolOp op [a] pos) t:=⟨zbqj h.out hop⟩
end
section
section
variable {X:Cx}{a:Expr}{b:Expr}{rest:List Expr}{t:ST}{t':ST}{pos:Pos}
theorem zng (ha:JT X a t)(hb:JW X (.BoolOp .And (b::rest) pos) t'):JW X (.BoolOp .And (a::b::rest) pos) (bAnd t t'):=⟨zbqk ha.out hb.out⟩
end
end
section
section
variable {X:Cx}{a:Expr}{b:Expr}{rest:List Expr}{t:ST}{t':ST}{pos:Pos}
theorem zbfr (ha:JT X a t)(hb:JW X (.BoolOp .Or (b::rest) pos) t'):JW X (.BoolOp .Or (a::b::rest) pos) (bOr t t'):=⟨zbuf ha.out hb.out⟩
end
end
section
theorem znh (ha:JT X a t):JT X (.UnaryOp .Not a pos) (bNot t):=⟨zbqm ha.out⟩
end
section
theorem zbsy  (hc:JT X c t)(ha:JE X a f)(hb:JE X b f'):JE X (.IfExp c a b pos) (eIf t f f'):=⟨d_if hc.out ha.out hb.out⟩
end
section
theorem zbm :JA X [] aC:=⟨zbqw⟩
end
section
end
section
theorem zcq {x1}(h:JA X es g):JE X (.Tuple es x1 pos) (aR g):=⟨zbuj h.out⟩
end
section
theorem zlp (h:JA X es g):JE X (.List es pos) (eLst g):=⟨zbup h.out⟩
end
section
theorem zeg (h:JA X es g):JE X (.List es pos) (eLstM g):=⟨zbqz h.out⟩
end
section
theorem zpb :JO X none pNone:=⟨zblc⟩
end
section
theorem zpa (he:JE X e f):JO X (some e) (pSome f):=⟨zblb he.out⟩
end
section
theorem zfi (ha:JE X a f)(hb:JE X b f')(hs:PlainIx b):JE X (.Subscript a b pos) (aS oIx f f'):=⟨d_ix ha.out hb.out hs⟩
end
section
section
variable {X:Cx}{e:Expr}{f:SE}{pos:Pos}{lo:Option Expr}{hi:Option Expr}{l:DS->Store->Res (Option Int)}{h:DS->Store->Res (Option Int)}
theorem zbqx {p2:Pos}(he:JE X e f)(hl:JO X lo l)(hu:JO X hi h):JE X (.Subscript e (.Slice lo hi none p2) pos) (eSl f l h):=⟨d_sl he.out hl.out hu.out⟩
end
end
section
theorem zp {x:Str}{id:String}(hc:CallR X (.builtin id) r)(hr:CaD X.K g r)(hg:Gl X x)(hm:X.mg x=none)(hv:bootBuiltins x=some (.builtin id))(ha:JA X (e::es) f)(hn:x≠"__name__":=by decide)(hdb:(x==("__debug__" : Str))=false:=by decide)(he:starEach (e::es) X.env=(false,eval e X.env)::starEach es X.env:=by rfl)(hpl:(backTo pos (starEach es X.env)).any (·.1)=false:=by rfl):JE X (.Call (.Name x p) (e::es) [] pos) (aE g f):=⟨zblu hc hr hg hm hv ha.out hn hdb he hpl⟩
end
section
theorem zbk {T:String}(hc:CallR X (.type T) r)(hr:CaD X.K g r)(hg:Gl X x)(hm:X.mg x=none)(hv:bootBuiltins x=some (.type T))(ha:JA X (e::es) f)(hn:x≠"__name__":=by decide)(hdb:(x==("__debug__" : Str))=false:=by decide)(he:starEach (e::es) X.env=(false,eval e X.env)::starEach es X.env:=by rfl)(hpl:(backTo pos (starEach es X.env)).any (·.1)=false:=by rfl):JE X (.Call (.Name x p) (e::es) [] pos) (aE g f):=⟨zbgj hc hr hg hm hv ha.out hn hdb he hpl⟩
end
section
theorem zqw :JE X (.Dict [] [] pos) eDNew:=⟨zbrc⟩
end
section
theorem zbou {X:Cx}(hu:X.A.units+1 < cLine)(hi:JE X i g)(ho:JE X o f):JC X .In i o (aS (oDIn false) g f):=⟨zbtp hu hi.out ho.out⟩
end
section
end
section
end
section
theorem zbft   (h:JC X op a b t)(h1:behindInMarks op b=false:=by first | exact nobehind _ (by decide) (by decide) | rfl):JT X (.Compare a [op] [b] pos) (eB t):=⟨zbug h.out h1⟩
end
section
theorem zwd {X:Cx}(hu:X.A.units+1 < cLine)(ho:JE X o f)(hi:JE X i g)(hs:NoSl i):JE X (.Subscript o i pos) (aS oDGet f g):=⟨zbrd hu ho.out hi.out hs⟩
end
section
theorem zbgh {X:Cx}(hu:X.A.units + 1 < cLine)(ho:JE X o f)(he:JE X e g)(hf:JE X f' h)(m:M2 X o "get" apos e f' cpos):JE X (.Call (.Attribute o "get" apos) [e,f'] [] cpos) (eDGet2 f g h):=⟨zblr hu ho.out he.out hf.out m⟩
end
section
theorem zblq {X:Cx}(hu:X.A.units + 1 < cLine)(ho:JE X o f)(he:JE X e g)(m:M1 X o "pop" apos e cpos):JE X (.Call (.Attribute o "pop" apos) [e] [] cpos) (eDPop f g):=⟨zbrb hu ho.out he.out m⟩
end
section
theorem zoz {X:Cx}{pos:Pos}(hu:X.A.units+1 < cLine)(ho:JE X o f)(hi:JE X i g)(hv:JE X value h)(hs:swapsWith value (some (.Subscript o i pos')) pos.line X.env=pure false):JS X (.Assign [.Subscript o i pos'] value pos) (sDPut f g h):=⟨zbkz hu ho.out hi.out hv.out hs⟩
end
section
theorem zcw {apos:Pos}(ho:JE X o f)(ha:JA X (e::es) ga)(hbase:attributeBase o "append" X.env (eval o X.env)=eval o X.env:=by rfl)(hfew:((backTo cpos (starEach (e::es) X.env)).all (λx=>!x.1)&&(backToKw cpos (keywordEach [] X.env)).all (λx=>x.1.isSome)
 && decide ((e::es).length + ([]:List Keyword).length + (if([]:List Keyword).isEmpty then 0 else 1) < 30))=true:=by rfl) (hline:(apos.endLine==cpos.line)=true:=by rfl) (hs:starEach (e::es) X.env=(false,eval e X.env)::starEach es X.env:=by rfl) (hplain:(backTo cpos (starEach es X.env)).any (·.1)=false:=by rfl):JE X (.Call (.Attribute o "append" apos) (e::es) [] cpos) (eAppend f ga):=⟨zbgk ho.out ha.out hbase hfew hline hs hplain⟩
end
section
theorem zhy {apos:Pos}(ho:JE X o f)(ha:JA X (e::es) ga)(hbase:attributeBase o "extend" X.env (eval o X.env)=eval o X.env:=by rfl)(hfew:((backTo cpos (starEach (e::es) X.env)).all (λx=>!x.1)&&(backToKw cpos (keywordEach [] X.env)).all (λx=>x.1.isSome)
 && decide ((e::es).length + ([]:List Keyword).length + (if([]:List Keyword).isEmpty then 0 else 1) < 30))=true:=by rfl) (hline:(apos.endLine==cpos.line)=true:=by rfl) (hs:starEach (e::es) X.env=(false,eval e X.env)::starEach es X.env:=by rfl) (hplain:(backTo cpos (starEach es X.env)).any (·.1)=false:=by rfl):JE X (.Call (.Attribute o "extend" apos) (e::es) [] cpos) (eExtend f ga):=⟨zbgg ho.out ha.out hbase hfew hline hs hplain⟩
end
section
end
section
end
section
theorem zxi (ho:JE X o f):JE X o (eFz f):=⟨d_fz ho.out⟩
end
section
theorem zbh :JB X [] sNx:=⟨zbqr⟩
end
section
end
section
theorem zbac :JS X (.Break pos) sBrk:=⟨zbfz⟩
end
section
end
section
theorem zj (he:JE X e f):JS X (.Return (some e) pos) (sRet f):=⟨zbqp he.out⟩
end
section
end
section
theorem zbq {pos:Pos}(he:JE X e f)(hs:swapsWith e none pos.line X.env=pure false:=by rfl):JS X (.Expr e pos) (sDrop f):=⟨zbky he.out hs⟩
end
section
theorem zbcf {X:Cx}{pos:Pos}   (hN:X.N.Nodup)(hi:X.N[i]?=some x)(hx:L2.Loc X.env.scope x)(he:JE X e f)(hs:swapsWith e (some (.Name x pos')) pos.line X.env=pure false:=by rfl)(hf:X.fn x=true\/X.env.scope.names.lookup x=some .local:=by first | exact .inl rfl | exact .inr rfl | assumption):JS X (.Assign [.Name x pos'] e pos) (aF i f):=⟨zbqo hN hi hx he.out hs hf⟩
end
section
theorem zc (h1:JS X sm s):JB X [sm] s:=⟨zbqq h1.out⟩
end
section
section
variable {X:Cx}{sm:Stmt}{rest:List Stmt}{s:SS}{t:SS}
theorem zb (h1:JS X sm s)(h2:JB X rest t):JB X (sm::rest) (aD s t):=⟨zbla h1.out h2.out⟩
end
end
section
theorem zce  (hc:JT X c b)(ha:JB X a' s)(hb:JB X b' t):JS X (.If c a' b' pos) (sIf b s t):=⟨zbuh hc.out ha.out hb.out⟩
end
section
theorem zbch {X:Cx}      (hN:X.N.Nodup)(hi:X.N[i]?=some x)(hx:L2.Loc X.env.scope x)(he:JE X e f)(ho:PIp X op ti)(hr:IpD X.K g ti)(hf:X.fn x=true\/X.env.scope.names.lookup x=some .local:=by first | exact .inl rfl | exact .inr rfl | assumption):JS X (.AugAssign (.Name x pos') op e pos) (sAug i g f):=⟨zbqt hN hi hx he.out ho hr hf⟩
end
section
theorem zqt {pos:Pos}(he:JE X value h)(ho:JE X o f)(hi:JE X i g)(ha:∀v,assign (.Subscript o i pos') X.env v=(do
 let ov ← holding [v] (eval o X.env)
 let iv ← holding [v,ov] (eval i X.env)
 standAt pos'
 holding [v,ov,iv] (setItem ov iv v)
 release [v,ov,iv] []):=by intro _;rfl) (hs:swapsWithSole [.Subscript o i pos'] value pos.line X.env=pure false:=by rfl) (hw:swappedStores [.Subscript o i pos'] value X.env=pure none:=by rfl) (h1:(assignEach [.Subscript o i pos'] X.env).map (·.2)=[assign (.Subscript o i pos') X.env]:=by rfl):JS X (.Assign [.Subscript o i pos'] value pos) (sSetIx f g h):=⟨zbfw he.out ho.out hi.out ha hs hw h1⟩
end
section
theorem zbt {X:Cx}   (hN:X.N.Nodup)(hi:X.N[i]?=some x)(hx:L2.Loc X.env.scope x)(hf:X.fn x=true\/X.env.scope.names.lookup x=some .local:=by first | exact .inl rfl | exact .inr rfl | assumption):JG X (.Name x pos) (gN i):=⟨zblj hN hi hx hf⟩
end
section
theorem zdr :JGs X [] gsNil:=⟨zbli⟩
end
section
theorem zw (h1:JG X e t)(h2:JGs X es u)(hs:(assignEach (e::es) X.env).map (·.2)=assign e X.env::(assignEach es X.env).map (·.2):=by rfl):JGs X (e::es) (gsCons t u):=⟨zbgc h1.out h2.out hs⟩
end
section
theorem zfz {X:Cx}   (hc:X.calm=true)(h:JGs X es u)(hn:(assignEach es X.env).length=n:=by rfl)(hst:(assignEach es X.env).findIdx? (·.1)=none:=by rfl):JG X (.Tuple es k pos) (gT n u):=⟨zbqv hc h.out hn hst⟩
end
section
theorem zba (hl:JE X l f):JI X tg l (aH f):=⟨zbqu hl.out⟩
end
section
theorem zcp (hg:Gl X "range")(hm:X.mg "range"=none)(ha:JA X [a] g)(hs:starEach [a] X.env=[(false,eval a X.env)]:=by rfl):JI X tg (.Call (.Name "range" p) [a] [] pos) (iR1 g):=⟨zbae hg hm ha.out hs⟩
end
section
theorem zvy (hg:Gl X "range")(hm:X.mg "range"=none)(ha:JA X [a,b] g)(hs:starEach [a,b] X.env=[(false,eval a X.env),(false,eval b X.env)]:=by rfl)(hs2:starEach [b] X.env=[(false,eval b X.env)]:=by rfl):JI X tg (.Call (.Name "range" p) [a,b] [] pos) (iR2 g):=⟨zbad hg hm ha.out hs hs2⟩
end
section
theorem zbgb (hl:JE X l f):JI X tg l (iDict f):=⟨zblh hl.out⟩
end
section
theorem zbcg {X:Cx}(hp:PassesOwn (model X.prog X.w) X.A X.env X.xe)(hc:X.calm=true)(hi:JI X tg iter it)(hg:JG X tg bd)(hb:JB X body b)(hs:∀x,foldedSetIterable iter X.env x=pure x:=by intro _;rfl):JS X (.For tg iter body [] pos) (sFor it bd b):=⟨zbqs hp hc hi.out hg.out hb.out hs⟩
end
section
theorem zfx {X:Cx}(hp:PassesOwn (model X.prog X.w) X.A X.env X.xe)(hc:JT X c t)(hb:JB X body b):JS X (.While c body [] pos) (sWhile t b):=⟨zbfv hp hc.out hb.out⟩
end
section
theorem zga {X:Cx}{N:List Str}(hcalm:X.calm=true)(hi:JI X tg iter it)(hg:∀cl C fp s H,JG (cxC X N scope cl C fp s H) tg bd)(hc:∀cl C fp s H,JIf (cxC X N scope cl C fp s H) ifs c)(he:∀cl C fp s H,JE (cxC X N scope cl C fp s H) elt f)(S:CompScope X N k is scope)(hs:∀x,foldedSetIterable iter X.env x=pure x:=by intro _;rfl):JE X (.ListComp elt [⟨tg,iter,ifs,0⟩] scope pos) (aG it k is bd c f):=⟨zbre hcalm hi.out (λcl C fp s H=>(hg cl C fp s H).out) (λcl C fp s H=>(hc cl C fp s H).out) (λcl C fp s H=>(he cl C fp s H).out) S hs⟩
end
section
end
section
theorem zpc :JIf X [] aI:=⟨zblg⟩
end
section
theorem zfh    (h:JT X c t):JIf X [c] t:=⟨zblf h.out⟩
end
section
theorem zbcl {X:Cx}(c:CalD X.prog X.w X.K X.mg X.base x k ps F)(hn:∀ ds au v st', F ds au=.ok v st'->ds.length=ps.length)(hr:Room k X.A)(hg:Gl X x)(ha:JA X (e::es) g)(hdb:(x==("__debug__" : Str))=false:=by decide)(he:starEach (e::es) X.env=(false,eval e X.env)::starEach es X.env:=by rfl)(hpl:(backTo pos (starEach es X.env)).any (·.1)=false:=by rfl):JE X (.Call (.Name x p) (e::es) [] pos) (aE F g):=⟨zbrf c hn hr hg ha.out hdb he hpl⟩
end
section
theorem zwp {P:Program}{w:World}{K:Fg}{mg:Str->Option Value}{base h:Heap}{x:Str}{au:Stmt}{N ps:List Str}{k:Nat}{b:SS}(T:TopF K x au)(X:K.In h)(G:h.Ns mainGlobals mg)(S:FnScope N ps (defScope au))(bd:∀(kV doc pm:Value) (an:Option Addr) (cdv ct:Value) (us:List Value),us.length=ps.length->bindArgs (W.fnOf x x (defArgs au) (defBody au) (defScope au) .none kV doc pm an cdv ct) ⟨us,[]⟩=pure (ps.zip us))(hbody:∀(f:Addr) (cdv:Value) (A:Around) (outer:List Env) (s:Shared) (H:Hp) (E:XK),Room k (A.deeper (envOfC x (defScope au) s.heap.objs.size f cdv)) ->
 JB (cxOf CX0 P w K mg base N x (defScope au) f cdv A outer s H E).nox (defBody au) b):CalD P w K mg base x (k+1) ps (fnD N.length ps.length b):=zbmh T X G S bd (λf cdv A outer s H E rr=>(hbody f cdv A outer s H E rr).out)
end
section
theorem zbkb {P:Program}{w:World}{K:Fg}{mg:Str->Option Value}{base:Heap}{au:Stmt}{N ps:List Str}{k:Nat}{b:SS}{f:Addr}{fd:FuncData}(F:Fun K "law" "law" au f fd)(S:FnScope N ps (defScope au))(hp:ps.length=1)(hbody:∀(cdv:Value) (A:Around) (outer:List Env) (s:Shared) (H:Hp) (E:XK),Room k (A.deeper (envOfC "law" (defScope au) s.heap.objs.size f cdv)) ->
 JB (cxOf CX0 P w K mg base N "law" (defScope au) f cdv A outer s H E).nox (defBody au) b) (holds:∀ ns:List Int,ns.length<=63->∃ st', fnD N.length 1 b [.scr (ns.map .int)] []=.ok (.bl true) st'):FnOk P w K mg base CX0 (k + 1) f fd ps (spLaw K):=zbpn F S hp (λcdv A outer s H E rr=>(hbody cdv A outer s H E rr).out) holds
end
section
end
section
end
section
end
section
theorem zfy :JS X sm sStuck:=⟨zbfx⟩
end
section
theorem zdf (h:JE X a f)(he:∀whole,isTrue a X.env whole=(do let v ← whole;standAt a.pos;holding [v] (truthy v)):=by intro _;rfl):JT X a (eTru f):=⟨zbql h.out he⟩
end
section
end
section
theorem zbgi {X:Cx}{N:List Str}(hcalm:X.calm=true)(hi:JI X tg iter it)(hg:∀cl C fp s H,JG (cxC X N scope cl C fp s H) tg bd)(hc:∀cl C fp s H,JIf (cxC X N scope cl C fp s H) ifs c)(he:∀cl C fp s H,JE (cxC X N scope cl C fp s H) elt f)(S:CompScope X N k is scope)(hs:∀x,foldedSetIterable iter X.env x=pure x:=by intro _;rfl):JE X (.ListComp elt [⟨tg,iter,ifs,0⟩] scope pos) (eCompM it k is bd c f):=⟨zblt hcalm hi.out (λcl C fp s H=>(hg cl C fp s H).out) (λcl C fp s H=>(hc cl C fp s H).out) (λcl C fp s H=>(he cl C fp s H).out) S hs⟩
end
section
end
section
theorem zg      (ha:JE X e f)(hr:JA X es g)(hp:plainE e=true:=by rfl):JA X (e::es) (aB f g):=⟨zbgd ha.out hr.out hp⟩
end
section
end
section
end
end Dd
namespace L2
open PySem PySem.Spec PyProof.Rows
section
end
section
end
section
end
section
open PySem.AutoSeq1
end
end L2
namespace Dd
open PySem L2
section
end
section
end
end Dd
namespace L2
open PySem PySem.Spec PyProof.Rows
section
end
end L2
namespace Dd
open PySem L2 PyProof.Rows
section
end
end Dd
namespace L2
open PySem PySem.Spec PyProof.Rows
section
end
section
open PySem.AutoSeq1
variable (l:Addr)(items:Array Value)(n:Nat)(dd:Option Addr)(sl:Array (Option Value))(x:Int)(u:Tok)
end
end L2
namespace Dd
open PySem L2 PyProof.Rows
abbrev oOrI:=oI (λ_ _=>True) λi j=>.int (Builtin.bitOr i j)
abbrev oXorI:=oI (λ_ _=>True) λi j=>.int (Builtin.bitXor i j)
end Dd
namespace L2
open PySem PySem.Spec PyProof.Rows PySem.W
theorem zrk {ns:List Int}  (r:Vals (ns.map V.int) us)  (hi:i < ns.length):∃t,us.getD i Value.none=Value.int (ns.getD i 0) t:=by
 have e:(ns.map V.int)[i]?=some (V.int ns[i]):=by rw[xco,xbd hi];rfl
 obtain⟨u,h1,t,h2⟩:=r.get e;refine⟨t,?_⟩;rw[xbj,h1,xbj,xbd hi];exact h2
theorem zbhs {ns:List Int}  (r:Vals (ns.map V.int) us):∀v∈us,∃i t,v=Value.int i t:=λv hv=>by
 obtain⟨i,hi,rfl⟩:=xem hv;have hl:=r.length;rw[xbb] at hl;obtain⟨t,e⟩:=zrk r (i:=i) (by lia);rw[xbj,xbd hi] at e;exact⟨_,t,e⟩
theorem zqb (a b:Int):HT.lexLt [a] [b]=decide (a < b):=by
 by_cases h:a=b
 ·subst h;simp[HT.lexLt]
 ·simp[HT.lexLt,h]
noncomputable abbrev ones (ns:List Int):List (List Int):=ns.map λn=>[n]
theorem zgk {ns:List Int}  (hi:i < ns.length):(ones ns).getD i []=[ns.getD i 0]:=by
 rw[xbj,xco,xbd hi,xbj,xbd hi]
 rfl
section
theorem zww {ns:List Int}  (h2:2<=ns.length)(r:Vals (ns.map V.int) us):Srt.Answers P w B (Srt.rank (ones ns)) us sg:=by
 have hl:=r.length;rw[xbb] at hl;refine⟨oneType',λR hR=>?_,λi j C hi hj hC=>?_⟩
 ·exact kas_kind (T:=.type "int") (by lia) (λv hv=>by
   obtain⟨i,t,rfl⟩:=zbhs r v hv
   exact Looks.now) (by decide) (by decide) hR
 ·obtain⟨t,e1⟩:=zrk r (i:=i) (by lia);obtain⟨t2,e2⟩:=zrk r (i:=j) (by lia);unfold kas_ask;rw[e1,e2];rw[Srt.zmo (by rw[xbb];lia) (by rw[xbb];lia),zgk (by lia),zgk (by lia),zqb] at hC;rw[keyLt'_oneType];exact oneLt_int hC
end
theorem zwk {ns:List Int}  (r:Vals (ns.map V.int) us):Srt.Coh (Srt.rank (ones ns)) us:=λi j hi hj e=>by
 have hl:=r.length;rw[xbb] at hl;obtain⟨t,e1⟩:=zrk r (i:=i) (by lia);obtain⟨t2,e2⟩:=zrk r (i:=j) (by lia);rw[e1,e2] at e;have:ns.getD i 0=ns.getD j 0:=by injection e
 unfold Srt.rank;rw[zgk (by lia),zgk (by lia),this]
theorem znt {α:Type}{f:α->V}{g:α->Value}:∀{l:List α},(∀a∈l,RelV (f a) (g a))->Vals (l.map f) (l.map g)
 | [],_=>.nil
 | a::l,h=>.cons (h a xbp) (znt λb hb=>h b (xbm _ hb))
theorem zuc {ns:List Int}{us:List Value}(r:Vals (ns.map V.int) us){p:Array Nat}(p1:p.Perm (List.toArray (List.range ns.length)))(p2:Srt.Up (Srt.rank (ones ns)) p ns.length) :
  ∃ms:List Int,ms.Perm ns/\ms.Pairwise (·<=·)/\Vals (ms.map V.int) (Srt.outOf us p).toList:=by
 have hl:=r.length;rw[xbb] at hl;have hps:p.size=ns.length:=by rw[p1.size_eq];simp
 have sm:∀i∈p.toList,i < ns.length:=λi hi=>by
  have h3:=(p1.mem_iff (a:=i)).mp (by rw[← xlc];exact hi);exact xcf.mp (List.mem_toArray.mp h3)
 refine⟨p.toList.map λi=>ns.getD i 0,?_,?_,?_⟩
 ·have e1:p.toList.Perm (List.range ns.length):=by
   have:=xfn.mp p1
   simpa using this
  have e2:=e1.map λi=>ns.getD i 0
  have e3:((List.range ns.length).map λi=>ns.getD i 0)=ns:=by
   apply xna
   ·simp
   ·intro i h1 h2;simp[xbj,h2]
  rw[e3] at e2;exact e2
 ·rw[xfb];intro i j hi hj hij;rw[xkv,xkv];rw[xbb] at hi hj;have hi':i < p.size:=by simpa using hi
  have hj':j < p.size:=by simpa using hj
  have hu:=p2 i j (xca hij) (by lia);have g:∀k,(hk:k < p.toList.length)->p.getD k 0=p.toList[k]:=λk hk=>by
   have hk':k < p.size:=by simpa using hk
   rw[xcw,xdd hk'];simp
  have si:=sm _ (xda hi);have sj:=sm _ (xda hj);have lk:=Srt.zmo (ks:=ones ns) (i:=p.toList[j]) (j:=p.toList[i]) (by rw[xbb];exact sj) (by rw[xbb];exact si);have hno:Srt.lt (Srt.rank (ones ns)) p.toList[j] p.toList[i]=false:=by
   refine xby λz=>?_
   unfold Srt.At at hu;rw[g i hi,g j hj] at hu;lia
  rw[hno,zgk sj,zgk si,zqb] at lk;have:=xmh lk.symm;lia
 ·unfold Srt.outOf;rw[xcr];show Vals _ (p.toList.map λi=>us.getD i Value.none);refine znt λi hi=>?_
  obtain⟨t,e⟩:=zrk r (sm i hi);exact⟨t,e⟩
end L2
namespace Dd
open PySem L2 PyProof.Rows
noncomputable def sortI (l:List Int):List Int:=l.mergeSort λa b=>decide (a<=b)
theorem zfn (l:List Int):(sortI l).Perm l:=List.mergeSort_perm _ _
theorem zbdf (l:List Int):(sortI l).Pairwise (·<=·):=by
 have:=List.pairwise_mergeSort (le:=λa b:Int=>decide (a<=b)) (λa b c h1 h2=>by simp at *;lia) (λa b=>by simp;lia) l;exact this.imp λh=>by simpa using h
theorem zth {a:List Int}(p:a.Perm b)(h:a.Pairwise (·<=·)):a=sortI b :=
 (p.trans (zfn b).symm).eq_of_pairwise (λx y _ _ h1 h2=>by lia) h (zbdf b)
end Dd
namespace L2
open PySem PySem.Spec PyProof.Rows
end L2
namespace Dd
open PySem L2 PyProof.Rows
section
end
end Dd
namespace Dd
variable {α:Type}
section
variable {motive:List α->Prop}
@[elab_as_elim] theorem len0 (us:List α) (hl:us.length=0) (h:motive []):motive us:=by rw[List.eq_nil_of_length_eq_zero hl];exact h
@[elab_as_elim] theorem lenS {n:Nat} (us:List α) (hl:us.length=n+1) (h:∀a us,us.length=n->motive (a::us)):motive us:=by
 cases us with
 | nil=>cases hl
 | cons a us=>exact h a us (Nat.succ.inj hl)
@[elab_as_elim] theorem len1 (us:List α) (hl:us.length=1) (h:∀a,motive [a]):motive us:=lenS us hl λa us hl=>len0 us hl (h a)
@[elab_as_elim] theorem len2 (us:List α) (hl:us.length=2) (h:∀a b,motive [a,b]):motive us:=lenS us hl λa us hl=>len1 us hl (h a)
@[elab_as_elim] theorem len3 (us:List α) (hl:us.length=3) (h:∀a b c,motive [a,b,c]):motive us:=lenS us hl λa us hl=>len2 us hl (h a)
@[elab_as_elim] theorem len4 (us:List α) (hl:us.length=4) (h:∀a b c d,motive [a,b,c,d]):motive us:=lenS us hl λa us hl=>len3 us hl (h a)
end
end Dd
namespace Dd
open PySem L2
def iterF (s:DFn->DFn):Nat->DFn
 | 0=>λ_ _=>.stuck
 | n+1=>s (iterF s n)
theorem zwo   {K:Fg}     {N:List Str}  (T:TopF K x au)(X:K.In h)(G:h.Ns mainGlobals mg)(S:FnScope N ps (defScope au))
  (bd:∀(kV doc pm:Value) (an:Option Addr) (cdv ct:Value) (us:List Value),us.length=ps.length->bindArgs (W.fnOf x x (defArgs au) (defBody au) (defScope au) .none kV doc pm an cdv ct) ⟨us,[]⟩=pure (ps.zip us)):CalD P w K mg base x (k+1) ps (λ_ _=>.stuck) :=
 zqz T X G S bd (λvs H Q E hh=>by obtain⟨ρ,ds,au,v,st',a,rp,e,hl,q⟩:=hh;exact hl) λf cdv A outer s H vs Q E hr hh=>by obtain⟨ρ,ds,au,v,st',a,rp,e,hl,q⟩:=hh;cases e
theorem CalD.iter   {K:Fg}     {L:Nat}  (h0:CalD P w K mg base x L ps (λ_ _=>.stuck))(hl:∀F ds au v st',s F ds au=.ok v st'->ds.length=ps.length)
  (hs:∀F j,L<=j->(∀ds au v st',F ds au=.ok v st'->ds.length=ps.length)->CalD P w K mg base x j ps F->CalD P w K mg base x (j+1) ps (s F)):∀n,CalD P w K mg base x (L+n) ps (iterF s n):=λn=>by
 have key:∀n,(∀ds au v st',iterF s n ds au=.ok v st'->ds.length=ps.length)/\CalD P w K mg base x (L+n) ps (iterF s n):=λn=>by
  induction n with
  | zero=>exact⟨λ_ _ _ _ h=>(by cases h),h0⟩
  | succ n ih=>exact⟨hl _,hs _ _ (xcc _ _) ih.1 ih.2⟩
 exact(key n).2
end Dd
namespace L2
open PySem PySem.Spec PyProof.Rows
end L2
namespace Dd
open PySem L2 PyProof.Rows
end Dd
namespace L2
open PySem PySem.Spec PyProof.Rows
section
end
end L2
namespace Dd
open PySem L2
section
end
end Dd
namespace Dd
open PySem L2 PyProof.Rows
section
end
end Dd
namespace L2
open PySem PySem.Spec PyProof.Rows
end L2
namespace Dd
open PySem L2
section
end
end Dd
namespace L2
open PySem PySem.Spec PyProof.Rows
section
end
end L2
namespace Dd
open PySem L2
section
end
end Dd
namespace L2
open PySem PySem.Spec PyProof.Rows
end L2
namespace Dd
open PySem L2
end Dd
namespace L2
open PySem PySem.Spec PyProof.Rows
section
end
section
end
section
end
section
end
section
end
section
end
section
end
section
end
section
end
section
end
section
end
section
end
end L2
namespace L2
open PySem
namespace St
noncomputable abbrev lt (a b:Nat):Prop:=a < b
theorem zvr (xs:Array Nat)(j:Nat)(mono:∀a b,a<=b->b < xs.size->xs.getD a j<=xs.getD b j):∀(fuel lo hi:Nat),lo<=hi->hi<=xs.size->hi - lo<=fuel->(∀i,i < lo->xs.getD i j < j)->(∀i,hi<=i->i < xs.size->j<=xs.getD i j) ->
  SetTable.below.go xs j fuel lo hi<=xs.size/\(∀i,i < SetTable.below.go xs j fuel lo hi->xs.getD i j < j)/\(∀i,SetTable.below.go xs j fuel lo hi<=i->i < xs.size->j<=xs.getD i j)
 | 0,lo,hi,h1,h2,h3,a,b=>by
  have:lo=hi:=by lia
  subst this;unfold SetTable.below.go;exact⟨h2,a,b⟩
 | fuel+1,lo,hi,h1,h2,h3,a,b=>by
  unfold SetTable.below.go;by_cases c:lo < hi
  ·rw[if_pos c];dsimp only;by_cases d:xs.getD ((lo+hi) / 2) j < j
   ·rw[if_pos d]
    exact zvr xs j mono fuel _ hi (by lia) h2 (by lia) (λi hi'=>by
     have:=mono i ((lo+hi) / 2) (by lia) (by lia)
     lia) b
   ·rw[if_neg d]
    exact zvr xs j mono fuel lo _ (by lia) (by lia) (by lia) a (λi hi' hs=>by
     have:=mono ((lo+hi) / 2) i hi' hs
     lia)
  ·rw[if_neg c];have:lo=hi:=by lia
   subst this;exact⟨h2,a,b⟩
def Up (xs:Array Nat):Prop:=xs.toList.Pairwise lt
theorem zet (xs:Array Nat)(i d:Nat):xs.getD i d=xs.toList.getD i d:=by
 rw[xcw,xbj,xch]
theorem Up.mono  (h:Up xs)(d a b:Nat)(hab:a<=b)(hb:b < xs.size):xs.getD a d<=xs.getD b d:=by
 rcases xff a b with c | c
 ·have hb':b < xs.toList.length:=by simpa using hb
  have ha':a < xs.toList.length:=by lia
  rw[zet,zet,xbj,xbj,xbd ha',xbd hb'];exact xca (xfb.mp h a b ha' hb' c)
 ·have:a=b:=by lia
  subst this;exact xbf _
theorem zek  (h:Up xs)(j:Nat):SetTable.below xs j<=xs.size/\(∀i,i < SetTable.below xs j->xs.getD i j < j)/\(∀i,SetTable.below xs j<=i->i < xs.size->j<=xs.getD i j) :=
 zvr xs j (h.mono j) xs.size 0 xs.size (by lia) (by lia) (by lia) (λi hi=>absurd hi (by lia)) (λi h1 h2=>absurd h2 (by lia))
theorem znm  (h:Up xs)(j:Nat):∀y∈xs.toList.take (SetTable.below xs j),y < j:=λy hy=>by
 obtain⟨h1,h2,h3⟩:=zek h j;obtain⟨i,hi,rfl⟩:=List.mem_iff_getElem.mp hy;rw[xcu] at hi;have hi':i < xs.toList.length:=by lia
 have:=h2 i (by lia);rw[zet,xbj,xbd hi'] at this;rw[xms];exact this
theorem zjg  (h:Up xs)(j:Nat):∀y∈xs.toList.drop (SetTable.below xs j),j<=y:=λy hy=>by
 obtain⟨h1,h2,h3⟩:=zek h j;obtain⟨i,hi,rfl⟩:=List.mem_iff_getElem.mp hy;rw[xgw] at hi;have hl:xs.toList.length=xs.size:=by simp
 have hi':SetTable.below xs j+i < xs.toList.length:=by lia
 have:=h3 (SetTable.below xs j+i) (by lia) (by lia);rw[zet,xbj,xbd hi'] at this;rw[xmr];exact this
theorem zbas  (h:Up xs)  (hj:j∈xs.toList):xs[SetTable.below xs j]?=some j:=by
 have ht:=znm h j;have hd:=zjg h j;rw[← xdf (SetTable.below xs j) xs.toList] at hj;rcases xbr.mp hj with hj | hj
 ·exact absurd (ht j hj) (xgq _)
 ·have hp:(xs.toList.drop (SetTable.below xs j)).Pairwise lt:=xgj (xkm _ _) h;have:(xs.toList.drop (SetTable.below xs j))[0]?=some j:=by
   cases e:xs.toList.drop (SetTable.below xs j) with
   | nil=>rw[e] at hj;cases hj
   | cons y l =>
    rw[e] at hj hd hp;rcases xbs.mp hj with rfl | hj
    ·rfl
    ·have h1:=hd y (by simp);have h2:y < j:=(xgl.mp hp).1 j hj;lia
  rw[xfw] at this;rw[← xch]
  simpa using this
theorem zes {α:Type}(xs:Array α)(p:Nat)(x:α):(SetTable.insertAt xs p x).toList=xs.toList.take p++x::xs.toList.drop p:=by
 unfold SetTable.insertAt;rw[xdu,xfd,xlf,xlf];simp[List.extract];exact xdk (by simp)
theorem Up.insert  (h:Up xs)  (hj:j∉xs.toList):Up (SetTable.insertAt xs (SetTable.below xs j) j):=by
 unfold Up;rw[zes,xgb];refine⟨xgj (xkk _ _) h,xgl.mpr ⟨λy hy=>?_,xgj (xkm _ _) h⟩,λa ha b hb=>?_⟩
 ·have h1:=zjg h j y hy;have h2:y≠j:=λe=>hj (e ▸ xht hy)
  show j < y;lia
 ·have h1:=znm h j a ha;rcases xbs.mp hb with rfl | hb
  ·exact h1
  ·have:=zjg h j b hb;show a < b;lia
end St
namespace St
structure Tb (t:SetTable):Prop where
 up:Up t.place
 nd:t.dummies=#[]
 inm:∀y∈t.place.toList,y<=t.mask
 pl:t.plain=true
theorem zvo (j:Nat):SetTable.has #[] j=false:=by
 unfold SetTable.has;simp
theorem Tb.slot  (h:Tb t)(j:Nat):(t.slot j=.empty/\j∉t.place.toList)\/(∃i,t.slot j=.live i)/\j∈t.place.toList:=by
 unfold SetTable.slot;dsimp only;by_cases c:t.place[SetTable.below t.place j]?=some j
 ·right
  rw[if_pos (by rw[c];exact xgy _)];rw[← xch] at c;exact⟨⟨_,rfl⟩,xbz c⟩
 ·left
  rw[if_neg (by simpa using c),h.nd,zvo];exact⟨rfl,λhj=>c (zbas h.up hj)⟩
noncomputable def iAt (mask:Nat):Nat->Nat->Nat->Nat
 | 0,i,_=>i
 | k+1,i,per=>iAt mask k ((i * 5+1+per / 32) % (mask+1)) (per / 32)
noncomputable def nextP (mask:Nat) (p:SetTable.Probe):SetTable.Probe:={j:=(p.i * 5+1+p.perturb / 32) % (mask+1),more:=SetTable.runEnd mask ((p.i * 5+1+p.perturb / 32) % (mask+1)) - (p.i * 5+1+p.perturb / 32) % (mask+1),i:=(p.i * 5+1+p.perturb / 32) % (mask+1),perturb:=p.perturb / 32,dummy:=p.dummy}
theorem zbha {t:SetTable}{p:SetTable.Probe}  (h:p.more=m+1):t.advance p={p with j:=p.j+1,more:=m}:=by
 unfold SetTable.advance;rw[if_pos (by lia),h]
 rfl
theorem zbhb {t:SetTable}{p:SetTable.Probe}(h:p.more=0):t.advance p=nextP t.mask p:=by
 unfold SetTable.advance;rw[if_neg (by lia)]
 rfl
theorem window  (g:Tb t)(h:Int):∀(m fuel:Nat) (p:SetTable.Probe),p.more=m->p.dummy=none ->
  (∃j,SetTable.probe.go t (λ_=>h+1) h (fuel+m+1) p=some (.empty j none)/\j∉t.place.toList/\j<=p.j+m) \/
  (p.j∈t.place.toList/\∃p',p'.i=p.i/\p'.perturb=p.perturb/\p'.dummy=none/\SetTable.probe.go t (λ_=>h+1) h (fuel+m+1) p=SetTable.probe.go t (λ_=>h+1) h fuel (nextP t.mask p'))
 | 0,fuel,p,hm,hd=>by
  have e:SetTable.probe.go t (λ_=>h+1) h (fuel+0+1) p=match t.slot p.j with
   | .empty=>some (.empty p.j p.dummy)
   | .dummy=>SetTable.probe.go t (λ_=>h+1) h fuel (t.advance {p with dummy:=some p.j})
   | .live i=>if h+1==h then some (.candidate p.j i (t.advance p)) else SetTable.probe.go t (λ_=>h+1) h fuel (t.advance p):=rfl
  rw[e];rcases g.slot p.j with⟨s1,s2⟩ | ⟨⟨i,s1⟩,s2⟩
  ·rw[s1,hd];exact .inl ⟨p.j,rfl,s2,by lia⟩
  ·rw[s1];dsimp only;rw[if_neg (by simp;lia)];exact .inr ⟨s2,p,rfl,rfl,hd,by rw[zbhb hm]⟩
 | m+1,fuel,p,hm,hd=>by
  have e:SetTable.probe.go t (λ_=>h+1) h (fuel+(m+1)+1) p=match t.slot p.j with
   | .empty=>some (.empty p.j p.dummy)
   | .dummy=>SetTable.probe.go t (λ_=>h+1) h (fuel+(m+1)) (t.advance {p with dummy:=some p.j})
   | .live i=>if h+1==h then some (.candidate p.j i (t.advance p)) else SetTable.probe.go t (λ_=>h+1) h (fuel+(m+1)) (t.advance p):=rfl
  rw[e];rcases g.slot p.j with⟨s1,s2⟩ | ⟨⟨i,s1⟩,s2⟩
  ·rw[s1,hd];exact .inl ⟨p.j,rfl,s2,by lia⟩
  ·rw[s1];dsimp only;rw[if_neg (by simp;lia),zbha hm,← Nat.add_assoc];rcases window g h m fuel {p with j:=p.j+1,more:=m} rfl hd with⟨j,a,b,c⟩ | ⟨a,p',b⟩
   ·exact .inl ⟨j,a,b,by dsimp only at c;lia⟩
   ·exact .inr ⟨s2,p',b⟩
theorem zqd  (h:i<=mask):i<=SetTable.runEnd mask i/\SetTable.runEnd mask i<=mask/\SetTable.runEnd mask i<=i+9:=by
 unfold SetTable.runEnd;split<;>lia
theorem search  (g:Tb t)(h:Int):∀(L fuel:Nat) (p:SetTable.Probe),10 * L<=fuel->p.j=p.i->p.i<=t.mask->p.more=SetTable.runEnd t.mask p.i - p.i->p.dummy=none->(∃k,k < L/\iAt t.mask k p.i p.perturb∉t.place.toList) ->
  ∃j,SetTable.probe.go t (λ_=>h+1) h fuel p=some (.empty j none)/\j∉t.place.toList/\j<=t.mask
 | 0,_,_,_,_,_,_,_,⟨k,hk,_⟩=>absurd hk (by lia)
 | L+1,fuel,p,hf,hj,hi,hm,hd,⟨k,hk,hk2⟩=>by
  obtain⟨r1,r2,r3⟩:=zqd hi;have ef:fuel=(fuel - p.more - 1)+p.more+1:=by lia
  have w:=window g h p.more (fuel - p.more - 1) p rfl hd;rw[← ef] at w;rcases w with⟨j,a,b,c⟩ | ⟨a,p',b1,b2,b3,b4⟩
  ·exact⟨j,a,b,by lia⟩
  ·rw[b4];cases k with
   | zero=>exact absurd a (by rw[hj];exact hk2)
   | succ k =>
    refine search g h L _ (nextP t.mask p') (by lia) rfl (by unfold nextP;exact xcs (xmw _ (by lia))) rfl b3 ⟨k,by lia,?_⟩;unfold nextP;dsimp only;rw[b1,b2];exact hk2
/- the leaps meet all places -/
noncomputable def accI (mask:Nat):Nat->Nat->Nat->Nat->Nat
 | 0,acc,_,_=>acc
 | L+1,acc,i,per=>accI mask L (acc ||| 2 ^ i) ((i * 5+1+per / 32) % (mask+1)) (per / 32)
theorem zbcu (mask j:Nat):∀(L acc i per:Nat),(accI mask L acc i per).testBit j=true->acc.testBit j=true\/∃k,k < L/\iAt mask k i per=j
 | 0,acc,i,per,h=>.inl h
 | L+1,acc,i,per,h=>by
  rcases zbcu mask j L _ _ _ h with h | ⟨k,h1,h2⟩
  ·rw[Nat.testBit_or,xhy,Bool.or_eq_true,decide_eq_true_iff] at h;rcases h with h | h
   ·exact .inl h
   ·exact .inr ⟨0,by lia,h⟩
  ·exact .inr ⟨k+1,by lia,h2⟩
def covB (mask h:Nat):Bool:=Nat.beq (accI mask (mask+3) 0 (h % (mask+1)) h) (2 ^ (mask+1) - 1)
theorem cov7:(List.range 64).all (covB 7)=true:=by decide +kernel
theorem cov31:(List.range 64).all (covB 31)=true:=by decide +kernel
theorem cov127:(List.range 64).all (covB 127)=true:=by decide +kernel
noncomputable def MaskOk (m:Nat):Prop:=m=7\/m=31\/m=127
theorem cov  (hm:MaskOk mask)(hh:h < 64)(hj:j<=mask):∃k,k < mask+3/\iAt mask k (h % (mask+1)) h=j:=by
 have c:covB mask h=true:=by
  rcases hm with rfl | rfl | rfl
  ·exact xdn.mp cov7 h (xcf.mpr hh)
  ·exact xdn.mp cov31 h (xcf.mpr hh)
  ·exact xdn.mp cov127 h (xcf.mpr hh)
 have e:=Nat.eq_of_beq_eq_true c;have t:(accI mask (mask+3) 0 (h % (mask+1)) h).testBit j=true:=by
  rw[e,Nat.testBit_two_pow_sub_one];exact xbv (by lia)
 rcases zbcu mask j _ _ _ _ t with z | z
 ·simp at z
 ·exact z
theorem room  (g:Tb t)(h:t.place.size<=t.mask):∃j,j<=t.mask/\j∉t.place.toList:=by
 by_cases c:∃j,j<=t.mask/\j∉t.place.toList
 ·exact c
 ·exfalso
  have hs:List.range (t.mask+1) ⊆ t.place.toList:=λj hj=>by
   by_cases z:j∈t.place.toList
   ·exact z
   ·exact absurd ⟨j,by have:=xcf.mp hj;lia,z⟩ c
  have:=xfr (xnd) hs;simp at this;lia
theorem zzx  (g:Tb t)(hm:MaskOk t.mask){h:Nat}(hh:h < 64)(hr:t.place.size<=t.mask):∃j,t.freeSlot (h:Int)=some (j,false)/\j∉t.place.toList/\j<=t.mask:=by
 obtain⟨j0,a1,a2⟩:=room g hr;obtain⟨k,k1,k2⟩:=cov hm hh a1;have hb:SetTable.bits (h:Int)=h:=by
  unfold SetTable.bits;lia
 have s:=search g (h:Int) (t.mask+3) (10 * SetTable.turns t.mask) (t.probeStart (h:Int)) (by unfold SetTable.turns;lia) rfl (by unfold SetTable.probeStart;exact xcs (xmw _ (by lia))) rfl rfl ⟨k,k1,by
  show iAt t.mask k (SetTable.bits (h:Int) % (t.mask+1)) (SetTable.bits (h:Int))∉_;rw[hb,k2]
  exact a2⟩
 obtain⟨j,b1,b2,b3⟩:=s;refine⟨j,?_,b2,b3⟩;unfold SetTable.freeSlot SetTable.probe;rw[b1]
 rfl
end St
namespace St
theorem zde {α:Type}(xs:Array α)(p:Nat)(x:α)(h:p<=xs.size):(SetTable.insertAt xs p x).size=xs.size+1:=by
 have:=congrArg List.length (zes xs p x);simp at this;lia
theorem zbka  {es:Array (Int×Value)}{h:Nat}  (g:Tb t)(hm:MaskOk t.mask)(hh:h < 64)(he:t.place.size=es.size)(hr:t.place.size < t.mask) :
  ∃es' t',layNew t es (h:Int) x=(es',t',false,false)/\Tb t'/\t'.mask=t.mask/\t'.led=t.led/\t'.place.size=es'.size/\es'.size=es.size+1/\es'.toList.Perm (((h:Int),x)::es.toList):=by
 obtain⟨j,f1,f2,f3⟩:=zzx g hm hh (by lia);have hb:=(zek g.up j).1;refine⟨SetTable.insertAt es (SetTable.below t.place j) ((h:Int),x),{t with place:=SetTable.insertAt t.place (SetTable.below t.place j) j},?_,?_,rfl,rfl,?_,?_,?_⟩
 ·have e1:t.put j=({t with place:=SetTable.insertAt t.place (SetTable.below t.place j) j},SetTable.below t.place j):=by
   unfold SetTable.put;dsimp only;rw[g.nd,zvo]
   rfl
  have e2:({t with place:=SetTable.insertAt t.place (SetTable.below t.place j) j}:SetTable).fits (SetTable.insertAt es (SetTable.below t.place j) ((h:Int),x)).size=true:=by
   unfold SetTable.fits SetTable.fill;dsimp only;rw[zde _ _ _ hb,zde _ _ _ (by lia),g.nd,he];simp;lia
  unfold layNew;rw[f1];dsimp only;rw[e1];dsimp only;unfold SetTable.orStandIn;rw[e2]
  rfl
 ·refine⟨g.up.insert f2,g.nd,λy hy=>?_,g.pl⟩;dsimp only at hy ⊢;rw[zes] at hy;rcases xbr.mp hy with hy | hy
  ·exact g.inm y (xew hy)
  ·rcases xbs.mp hy with rfl | hy
   ·exact f3
   ·exact g.inm y (xht hy)
 ·dsimp only;rw[zde _ _ _ hb,zde _ _ _ (by lia),he]
 ·rw[zde _ _ _ (by lia)]
 ·rw[zes];refine(xnc).trans ?_;rw[xdf]
/- laid anew -/
noncomputable def ownL (owner:Array (Option Nat)) (mask:Nat):List Nat:=(List.range (mask+1)).filterMap λj=>owner.getD j none
structure Ow (mask n:Nat) (owner:Array (Option Nat)):Prop where
 size:owner.size=mask+1
 perm:(ownL owner mask).Perm (List.range n)
theorem zbjh   (h:Ow mask n owner)(hn:n<=mask):∃j,j<=mask/\owner.getD j (some 0)=none:=by
 by_cases c:∃j,j<=mask/\owner.getD j (some 0)=none
 ·exact c
 ·exfalso
  have all:∀j∈List.range (mask+1),(owner.getD j none).isSome=true:=λj hj=>by
   have hj:=xcf.mp hj;have hlt:j < owner.size:=by rw[h.size];exact hj
   cases e:owner.getD j none with
   | some x=>rfl
   | none =>
    refine absurd ⟨j,by lia,?_⟩ c;rw[xcw,xdd hlt] at e ⊢;exact e
  have hl:(ownL owner mask).length=mask+1:=by
   unfold ownL;have:∀l:List Nat,(∀j∈l,(owner.getD j none).isSome=true)->(l.filterMap λj=>owner.getD j none).length=l.length:=λl=>by
    induction l with
    | nil=>intro _;rfl
    | cons a l ih =>
     intro hl;obtain⟨x,hx⟩:=xju.mp (hl a (by simp));rw[xdw (f:=λj=>owner.getD j none) hx,xcb,xcb,ih λj hj=>hl j (xbm _ hj)]
   rw[this _ all,xeo]
  have:=h.perm.length_eq;rw[hl,xeo] at this;lia
theorem zbby  {owner:Array (Option Nat)}:∀(fuel i per:Nat),i<=mask->(∃k,k < fuel/\owner.getD (iAt mask k i per) (some 0)=none)->∃j,SetTable.layClean.free mask owner fuel i per=some j/\j<=mask/\owner.getD j (some 0)=none
 | 0,_,_,_,⟨k,hk,_⟩=>absurd hk (by lia)
 | fuel+1,i,per,hi,⟨k,hk,hk2⟩=>by
  obtain⟨r1,r2,r3⟩:=zqd hi;unfold SetTable.layClean.free;cases e:(List.range (SetTable.runEnd mask i+1 - i)).find? λk=>(owner.getD (i+k) (some 0)).isNone with
  | some z =>
   have h1:=xnh e;have h2:=xcf.mp (xjp e);exact⟨i+z,rfl,by lia,by simpa using h1⟩
  | none =>
   dsimp only;have h0:=xil.mp e 0 (xcf.mpr (by lia));cases k with
   | zero =>
    exfalso
    rw[xjb] at h0;have hk2:owner.getD i (some 0)=none:=hk2;rw[hk2] at h0;exact h0 rfl
   | succ k =>
    exact zbby fuel _ _ (xcs (xmw _ (by lia))) ⟨k,by lia,hk2⟩
theorem zll {α β:Type}{f g:α->Option β}:∀{l:List α},(∀x∈l,f x=g x)->l.filterMap f=l.filterMap g
 | [],_=>rfl
 | a::l,h=>by
  have ih:=zll (l:=l) λx hx=>h x (xbm _ hx)
  have h1:=h a (by simp);cases e:g a with
  | none=>rw[xek (h1.trans e),xek e,ih]
  | some z=>rw[xdw (h1.trans e),xdw e,ih]
theorem zhd (owner:Array (Option Nat)){j n:Nat}(hj:owner.getD j (some 0)=none)(hs:j < owner.size):∀l:List Nat,l.Nodup->j∈l ->
  (l.filterMap λi=>(owner.setIfInBounds j (some n)).getD i none).Perm (n::l.filterMap λi=>owner.getD i none)
 | [],_,h=>by cases h
 | a::l,nd,h=>by
  have gd:∀i,i≠j->(owner.setIfInBounds j (some n)).getD i none=owner.getD i none:=λi hi=>by
   rw[xcw,xcw,xlb (xer hi)]
  have gj:(owner.setIfInBounds j (some n)).getD j none=some n:=by
   rw[xcw,xjm hs]
   rfl
  have g0:owner.getD j none=none:=by
   rw[xcw,xdd hs] at hj ⊢;exact hj
  have nd':=xet.mp nd;by_cases c:a=j
  ·subst c;rw[xdw (f:=λi=>(owner.setIfInBounds a (some n)).getD i none) gj,xek (f:=λi=>owner.getD i none) g0];have:(l.filterMap λi=>(owner.setIfInBounds a (some n)).getD i none)=l.filterMap λi=>owner.getD i none:=zll λi hi=>gd i λe=>nd'.1 (e ▸ hi)
   rw[this]
  ·have hl:j∈l:=by
    rcases xbs.mp h with h | h
    ·exact absurd h.symm c
    ·exact h
   have ih:=zhd owner (n:=n) hj hs l nd'.2 hl;cases e:owner.getD a none with
   | none=>rw[xek (f:=λi=>(owner.setIfInBounds j (some n)).getD i none) (by rw[gd a c];exact e),xek (f:=λi=>owner.getD i none) e];exact ih
   | some z =>
    rw[xdw (f:=λi=>(owner.setIfInBounds j (some n)).getD i none) (by rw[gd a c];exact e),xdw (f:=λi=>owner.getD i none) e];exact(List.Perm.cons z ih).trans (List.Perm.swap n z _)
theorem Ow.step {mask n:Nat}{owner:Array (Option Nat)}(h:Ow mask n owner)(hm:MaskOk mask){hv:Nat}(hh:hv < 64)(hn:n<=mask) :
  ∃j,SetTable.layClean.free mask owner (SetTable.turns mask) (SetTable.bits (hv:Int) % (mask+1)) (SetTable.bits (hv:Int))=some j/\Ow mask (n+1) (owner.setIfInBounds j (some n)):=by
 have hb:SetTable.bits (hv:Int)=hv:=by
  unfold SetTable.bits;lia
 obtain⟨j0,a1,a2⟩:=zbjh h hn;obtain⟨k,k1,k2⟩:=cov hm hh a1;rw[hb];obtain⟨j,f1,f2,f3⟩:=zbby (owner:=owner) (mask:=mask) (SetTable.turns mask) (hv % (mask+1)) hv (xcs (xmw _ (by lia))) ⟨k,by unfold SetTable.turns;lia,by rw[k2];exact a2⟩;refine⟨j,f1,⟨by rw[Array.size_setIfInBounds];exact h.size,?_⟩⟩;have p:=zhd owner (n:=n) f3 (by rw[h.size];lia) (List.range (mask+1)) xnd (xcf.mpr (by lia));refine p.trans ((List.Perm.cons n h.perm).trans ?_);rw[xih];exact(List.perm_append_singleton n _).symm
noncomputable def SmallH (h:Int):Prop:=∃n:Nat,n < 64/\h=n
theorem zvc {mask:Nat}(hm:MaskOk mask):∀(l:List Int) (n:Nat) (owner:Array (Option Nat)),Ow mask n owner->(∀h∈l,SmallH h)->n+l.length<=mask ->
  ∃owner',l.foldl (λacc h=>do
   let (owner,k) ← acc
   let j ← SetTable.layClean.free mask owner (SetTable.turns mask) (SetTable.bits h % (mask+1)) (SetTable.bits h)
   pure (owner.setIfInBounds j (some k),k+1)) (some (owner,n))=some (owner',n+l.length)/\Ow mask (n+l.length) owner'
 | [],n,owner,o,_,_=>⟨owner,rfl,o⟩
 | h::l,n,owner,o,hs,hl=>by
  rw[xcb] at hl ⊢;obtain⟨hv,h1,rfl⟩:=hs h (by simp);obtain⟨j,f1,f2⟩:=o.step hm h1 (by lia);obtain⟨o',g1,g2⟩:=zvc hm l (n+1) _ f2 (λx hx=>hs x (xbm _ hx)) (by lia);refine⟨o',?_,by rw[show n+(l.length+1)=n+1+l.length by lia];exact g2⟩;rw[xhl]
  have e:(do
   let (owner,k) ← some (owner,n)
   let j ← SetTable.layClean.free mask owner (SetTable.turns mask) (SetTable.bits (hv:Int) % (mask+1)) (SetTable.bits (hv:Int))
   pure (owner.setIfInBounds j (some k),k+1):Option (Array (Option Nat)×Nat))=some (owner.setIfInBounds j (some n),n+1):=by
   show(SetTable.layClean.free mask owner (SetTable.turns mask) (SetTable.bits (hv:Int) % (mask+1)) (SetTable.bits (hv:Int))).bind _=_;rw[f1]
   rfl
  rw[e,g1,show n+(l.length+1)=n+1+l.length by lia]
theorem ow0 (mask:Nat):Ow mask 0 (Array.replicate (mask+1) none):=by
 refine⟨by simp,?_⟩;unfold ownL;have:(List.range (mask+1)).filterMap (λj=>(Array.replicate (mask+1) (none:Option Nat)).getD j none)=(List.range (mask+1)).filterMap λ_=>(none:Option Nat):=zll λj _=>by
  rw[xcw,Array.getElem?_replicate];split<;>rfl
 rw[this];have:∀l:List Nat,l.filterMap (λ_=>(none:Option Nat))=[]:=λl=>by induction l<;>simp_all
 rw[this];exact xnm _
theorem zzn  (hm:MaskOk mask){hs:Array Int}(h:∀x∈hs.toList,SmallH x)(hn:hs.size<=mask):∃owner,SetTable.layClean mask hs=some owner/\Ow mask hs.size owner:=by
 obtain⟨o,e,w⟩:=zvc hm hs.toList 0 _ (ow0 mask) h (by simpa using hn);rw[xdt] at e w;refine⟨o,?_,by simpa using w⟩;unfold SetTable.layClean;rw[← Array.foldl_toList,e]
 rfl
theorem zuy (owner:Array (Option Nat)):∀l:List Nat,(l.filterMap λj=>(owner.getD j none).map λk=>(j,k)).map (·.1)=l.filter λj=>(owner.getD j none).isSome
 | []=>rfl
 | a::l=>by
  have ih:=zuy owner l;cases e:owner.getD a none with
  | none=>rw[xek (f:=λj=>(owner.getD j none).map λk=>(j,k)) (by rw[e];rfl),xcx (by rw[e];decide),ih]
  | some z=>rw[xdw (f:=λj=>(owner.getD j none).map λk=>(j,k)) (by rw[e];rfl),xcp (by rw[e];rfl),xbu,ih]
theorem zux (owner:Array (Option Nat)):∀l:List Nat,(l.filterMap λj=>(owner.getD j none).map λk=>(j,k)).map (·.2)=l.filterMap λj=>owner.getD j none
 | []=>rfl
 | a::l=>by
  have ih:=zux owner l;cases e:owner.getD a none with
  | none=>rw[xek (f:=λj=>(owner.getD j none).map λk=>(j,k)) (by rw[e];rfl),xek (f:=λj=>owner.getD j none) e,ih]
  | some z=>rw[xdw (f:=λj=>(owner.getD j none).map λk=>(j,k)) (by rw[e];rfl),xdw (f:=λj=>owner.getD j none) e,xbu,ih]
theorem zyj {α:Type}(es:List α):(List.range es.length).filterMap (λi=>es[i]?)=es:=by
 induction es with
 | nil=>rfl
 | cons a l ih =>
  rw[xcb,List.range_succ_eq_map,xdw (f:=λi=>(a::l)[i]?) rfl,List.filterMap_map]
  congr 1
theorem relay {t:SetTable}{es:Array (Int×Value)}{wanted:Nat}(g:Tb t)(hh:∀e∈es.toList,SmallH e.1)(hm:MaskOk (SetTable.sizeAbove wanted - 1))(hn:es.size<=SetTable.sizeAbove wanted - 1) :
  ∃es' t',relayAll t es wanted=(es',t',false)/\Tb t'/\t'.mask=SetTable.sizeAbove wanted - 1/\t'.led=t.led/\t'.place.size=es'.size/\es'.size=es.size/\es'.toList.Perm es.toList:=by
 obtain⟨owner,e1,w⟩:=zzn hm (hs:=es.map (·.1)) (λx hx=>by
  rw[Array.toList_map] at hx;obtain⟨e,he,rfl⟩:=xbk.mp hx
  exact hh e he) (by simpa using hn)
 rw[Array.size_map] at w;generalize hmk:SetTable.sizeAbove wanted - 1=mask at e1 w hm hn
 let live:=(List.range (mask+1)).filterMap λj=>(owner.getD j none).map λk=>(j,k)
 have l1:live.map (·.1)=(List.range (mask+1)).filter λj=>(owner.getD j none).isSome:=zuy owner _
 have l2:live.map (·.2)=ownL owner mask:=zux owner _;have hp:=w.perm;rw[← l2] at hp;have hperm:((live.map (·.2)).filterMap λi=>es[i]?).Perm es.toList:=by
  refine(hp.filterMap _).trans ?_;have:=zyj es.toList;rw[xcd] at this;rw[show(List.range es.size).filterMap (λi=>es[i]?)=es.toList from(zll λi _=>(xch (xs:=es)).symm).trans this]
 have hlen:((live.map (·.2)).filterMap λi=>es[i]?).length=es.size:=by rw[hperm.length_eq,xcd]
 have hll:live.length=es.size:=by
  have:=hp.length_eq;rw[xbb,xeo] at this;exact this
 have er:t.relaid (es.map (·.1)) wanted=some ({mask,place:=(live.map (·.1)).toArray,dummies:=#[],finger:=t.finger,led:=t.led,moves:=t.movedTo mask,plain:=t.plain},(live.map (·.2)).toArray):=by
  unfold SetTable.relaid SetTable.laid;rw[hmk,e1]
  rfl
 refine⟨((live.map (·.2)).filterMap λi=>es[i]?).toArray,{mask,place:=(live.map (·.1)).toArray,dummies:=#[],finger:=t.finger,led:=t.led,moves:=t.movedTo mask,plain:=t.plain},?_,⟨?_,rfl,λy hy=>?_,g.pl⟩,rfl,rfl,?_,?_,?_⟩
 ·unfold relayAll;rw[er];dsimp only;have c1:coversAll (live.map (·.2)).toArray es.size=true:=by
   unfold coversAll;exact List.isPerm_iff.mpr hp
  have c2:(live.map (·.2)).toArray.filterMap (λx=>es[x]?)=((live.map (·.2)).filterMap λi=>es[i]?).toArray:=by simp
  rw[c2,c1];have c3:({mask,place:=(live.map (·.1)).toArray,dummies:=#[],finger:=t.finger,led:=t.led,moves:=t.movedTo mask,plain:=t.plain}:SetTable).fits ((live.map (·.2)).filterMap λi=>es[i]?).toArray.size=true:=by
   unfold SetTable.fits SetTable.fill;dsimp only;rw[xbt,xbt,hlen,xbb,hll];simp;lia
  rw[c3]
  rfl
 ·show(live.map (·.1)).toArray.toList.Pairwise lt;rw[List.toList_toArray,l1];exact xgj List.filter_sublist List.pairwise_lt_range
 ·dsimp only at hy ⊢;rw[l1] at hy;have:=xcf.mp (xdo.mp hy).1;lia
 ·dsimp only;rw[xbt,xbt,hlen,xbb,hll]
 ·rw[xbt,hlen]
 ·rw[List.toList_toArray];exact hperm
end St
namespace St
theorem zbei {α:Type}{l:List α}  (h:i < l.length):(l[i]::l.eraseIdx i).Perm l:=by
 rw[List.eraseIdx_eq_take_drop_succ];refine xnc.symm.trans ?_;rw[← xfq h,xdf]
theorem zbba {α:Type}(next:Nat->Nat):∀(fuel k:Nat) (left:List α) (out:Array α),left.length<=fuel->(pickOrder.go next fuel k left out).toList.Perm (out.toList++left)
 | 0,k,left,out,h=>by
  have:left=[]:=xkh.mp (by lia);subst this;unfold pickOrder.go;rw[xcy]
 | fuel+1,k,left,out,h=>by
  unfold pickOrder.go;cases e:left[next k % left.length]? with
  | none =>
   have:left=[]:=by
    cases left with
    | nil=>rfl
    | cons a l =>
     have:=List.getElem?_eq_none_iff.mp e;have:=xmw (next k) (show(a::l).length > 0 by simp);lia
   subst this;dsimp only;rw[xcy]
  | some x =>
   dsimp only;obtain⟨hi,rfl⟩:=xbg.mp e;have ih:=zbba next fuel (k+1) (left.eraseIdx (next k % left.length)) (out.push left[next k % left.length]) (by rw[List.length_eraseIdx_of_lt hi];lia);refine ih.trans ?_;rw[xfd,xck];exact xgi _ (zbei hi)
theorem zyp {α:Type}(next:Nat->Nat)(xs:Array α):(pickOrder next xs).toList.Perm xs.toList:=by
 unfold pickOrder;exact zbba next xs.size 0 xs.toList #[] (by simp)
theorem zwt  (h:Up xs)  (hi:i < xs.size):SetTable.below xs (xs.getD i 0+1)=i+1:=by
 obtain⟨h1,h2,h3⟩:=zek h (xs.getD i 0+1);have up:∀a b,a < b->b < xs.size->xs.getD a 0 < xs.getD b 0:=λa b hab hb=>by
  have hb':b < xs.toList.length:=by simpa using hb
  have ha':a < xs.toList.length:=by lia
  rw[zet,zet,xbj,xbj,xbd ha',xbd hb'];exact xfb.mp h a b ha' hb' hab
 have dflt:∀a d,a < xs.size->xs.getD a d=xs.getD a 0:=λa d ha=>by
  rw[xcw,xcw,xdd ha]
  rfl
 generalize SetTable.below xs (xs.getD i 0+1)=b at h1 h2 h3;rcases Nat.lt_trichotomy b (i+1) with c | c | c
 ·have:=h3 i (by lia) hi;have e:=dflt i (xs.getD i 0+1) hi;lia
 ·exact c
 ·have:=h2 (i+1) c;have hlt:i+1 < xs.size:=by lia
  have e:=dflt (i+1) (xs.getD i 0+1) hlt;have:=up i (i+1) (by lia) hlt;lia
theorem zws  (h:Up xs):SetTable.below xs 0=0:=by
 obtain⟨h1,h2,h3⟩:=zek h 0;rcases xim (SetTable.below xs 0) with c | c
 ·exact c
 ·exact absurd (h2 0 c) (by lia)
end St
end L2
namespace L2
open PySem PySem.W PyProof.Rows PySem.Spec
namespace St
structure Es (l:List (Int×Value)) (ks:List Nat):Prop where
 all:∀e∈l,∃(n:Nat) (t:Tok),n < 64/\e=((n:Int),Value.int (n:Int) t)
 perm:(l.map (·.1)).Perm (ks.map λ(n:Nat)=>(n:Int))
 nd:ks.Nodup
theorem Es.small   (h:Es l ks):∀k∈ks,k < 64:=λk hk=>by
 have h1:(k:Int)∈l.map (·.1):=h.perm.mem_iff.mpr (xbk.mpr ⟨k,hk,rfl⟩);obtain⟨e,he,e1⟩:=xbk.mp h1;obtain⟨n,t,hn,rfl⟩:=h.all e he;dsimp only at e1;lia
theorem Es.len   (h:Es l ks):l.length=ks.length:=by
 have:=h.perm.length_eq
 simpa using this
theorem Es.few   (h:Es l ks):l.length<=64:=by
 rw[h.len];have:=xfr h.nd (l₂:=List.range 64) λk hk=>xcf.mpr (h.small k hk)
 simpa using this
theorem Es.of_perm {l':List (Int×Value)}  (h:Es l ks)(p:l'.Perm l):Es l' ks :=
 ⟨λe he=>h.all e (p.mem_iff.mp he),(p.map _).trans h.perm,h.nd⟩
theorem Es.add   (h:Es l ks)   (hn:n < 64)(no:n∉ks):Es (((n:Int),Value.int (n:Int) t)::l) (n::ks) :=
 ⟨λe he=>by
  rcases xbs.mp he with rfl | he
  ·exact⟨n,t,hn,rfl⟩
  ·exact h.all e he,h.perm.cons _,xet.mpr ⟨no,h.nd⟩⟩
theorem znf {n:Nat}(h:n < 64):hashInt (n:Int)=n:=by
 have e:rawHash (n:Int)=n:=by
  unfold rawHash;have h1:(((n:Int).natAbs:Int) % ((2 ^ 61 - 1:Nat):Int))=n:=by
   rw[Int.natAbs_natCast];exact Int.emod_eq_of_lt (by lia) (by lia)
  rw[h1];dsimp only;have h2:¬ ((n:Int) < 0):=by lia
  rw[if_neg h2];have h3:((n:Int)==-1)=false:=by
   rw[xfp];lia
  rw[h3]
  rfl
 unfold hashInt;rw[e];have h3:((n:Int)==-1)=false:=by
  rw[xfp];lia
 rw[h3]
 rfl
structure Tt (w:World) (es:Array (Int×Value)) (t:SetTable) (ks:List Nat):Prop where
 tb:Tb t
 mo:MaskOk t.mask
 ld:t.led=!w.params.followText "set-order"
 sz:t.place.size=es.size
 room:t.place.size * 5 < t.mask * 3
 el:Es es.toList ks
theorem Tt.fits     (h:Tt w es t ks):t.fits es.size=true:=by
 have:=h.room;have hz:=h.sz;unfold SetTable.fits SetTable.fill;rw[h.tb.nd];simp;lia
theorem Tt.few     (h:Tt w es t ks):es.size<=64:=by
 have:=h.el.few
 simpa using this
theorem Tt.elems     {ks:List Nat}(h:Tt w es t ks):ElemsOf (intKind P w) es.toList:=λe he=>by
 obtain⟨m,t,hm,rfl⟩:=h.el.all e he;exact⟨⟨(m:Int),intKind_is _ _ _ _,(znf hm).symm⟩,rfl⟩
noncomputable def Sn (w:World) (h:Heap) (a:Addr) (ks:List Nat):Prop:=∃ob es ep t,h.get? a=some ob/\ob.ExactSet/\ob.data=.set es ep t/\Tt w es t ks
theorem Sn.kept  {h':Heap}   (x:Sn w h a ks)(k:∀o,h.get? a=some o->h'.get? a=some o):Sn w h' a ks :=
 let ⟨ob,es,ep,t,e,r⟩:=x;⟨ob,es,ep,t,k _ e,r⟩
theorem zbkp {t:SetTable}  (nd:t.dummies=#[])(mk:MaskOk t.mask)(hm:t.place.size=m+1)(room:m * 5 < t.mask * 3)(few:m+1<=64) :
  (t.tooFull=false/\(m+1) * 5 < t.mask * 3)\/(t.tooFull=true/\MaskOk (SetTable.sizeAbove (SetTable.grown (m+1)) - 1)/\m+1<=SetTable.sizeAbove (SetTable.grown (m+1)) - 1/\(m+1) * 5 < (SetTable.sizeAbove (SetTable.grown (m+1)) - 1) * 3):=by
 have hf:t.fill=m+1:=by
  unfold SetTable.fill;rw[nd,hm]
  rfl
 rcases mk with e | e | e
 ·by_cases c:m=4
  ·subst c
   right
   refine⟨by unfold SetTable.tooFull;rw[hf,e];decide,?_,by decide,by decide⟩;exact .inr (.inl (by decide))
  ·left
   refine⟨?_,by lia⟩;unfold SetTable.tooFull;rw[hf,e];simp;lia
 ·by_cases c:m=18
  ·subst c
   right
   refine⟨by unfold SetTable.tooFull;rw[hf,e];decide,?_,by decide,by decide⟩;exact .inr (.inr (by decide))
  ·left
   refine⟨?_,by lia⟩;unfold SetTable.tooFull;rw[hf,e];simp;lia
 ·left
  refine⟨?_,by lia⟩;unfold SetTable.tooFull;rw[hf,e];simp;lia
theorem zbij {h:Heap}      (ho:h.get? a=some o)(hd:o.data=.set es ep t)(es':Array (Int×Value))(t':SetTable) :
  (h.update a (Obj.putSet es' t')).get? a=some {o with data:=.set es' (ep+1) t'}:=by
 have e:=putSet_of es' t' hd;have g:=xfs (Obj.putSet es' t') ho (by rw[e];rfl)
 rwa [e] at g
section
theorem zbrz {s:Shared}{ks:List Nat}{n:Nat}   (hn:n < 64)(S:Sn w s.heap a ks)
  (fin:∀h' b,Heap.SameBut a s.heap h'->Sn w h' a (if n∈ks then ks else n::ks)->Q b {s with heap:=h'}) :
  wpAny (model P w) B (setAddHashed a (.int (n:Int) tok) (hashInt (n:Int))) Q E s:=by
 obtain⟨ob,es,ep,t,ho,hex,hd,T⟩:=id S;have few:=T.few;have hb:es.size < scanBound:=by unfold scanBound;lia
 unfold setAddHashed setAddHashedIn;refine xfe (xba (xkp ho hd T.fits ?_));dsimp only;rw[byScan_of (knd:=intKind P w) (x:=.int (n:Int) tok) rfl hb T.elems,if_pos rfl];unfold setAddByScan;refine xba (xba (xiq (xba (wpAny_setScan_of (knd:=intKind P w) (k:=(n:Int)) (intKind_is _ _ _ _) ho hd T.fits T.elems ?_))));cases hr:List.findIdx? (λe=>(intKind P w).is (n:Int) e.2) es.toList with
 | some j =>
  dsimp only;obtain⟨hj,hp,_⟩:=List.findIdx?_eq_some_iff_getElem.mp hr;obtain⟨m,t2,hm,e⟩:=T.el.all _ (xda hj);rw[e] at hp;have emn:(n:Int)=(m:Int):=(intKind P w).inj _ _ _ hp (intKind_is P w (m:Int) t2);have h1:(n:Int)∈es.toList.map (·.1):=xbk.mpr ⟨_,xda hj,by rw[e];exact emn.symm⟩;obtain⟨k,hk,ek⟩:=xbk.mp (T.el.perm.mem_iff.mp h1);have hin:n∈ks:=by
   have:k=n:=by lia
   exact this ▸ hk
  have f:=fin s.heap false (Heap.SameBut.refl a s.heap);rw[if_pos hin] at f;exact xbe (xbe (f S))
 | none =>
  dsimp only;have no:n∉ks:=λhk=>by
   have h1:(n:Int)∈es.toList.map (·.1):=T.el.perm.mem_iff.mpr (xbk.mpr ⟨n,hk,rfl⟩);obtain⟨e,he,e1⟩:=xbk.mp h1;obtain⟨m,t2,hm,rfl⟩:=T.el.all e he;have z:=List.findIdx?_eq_none_iff.mp hr _ he;dsimp only at e1 z;rw[e1,intKind_is] at z;cases z
  rw[znf hn];obtain⟨es1,t1,e1,tb1,mk1,ld1,sz1,ln1,pm1⟩:=zbka (x:=Value.int (n:Int) tok) T.tb T.mo hn T.sz (by have:=T.room;lia);have el1:Es es1.toList (n::ks):=(T.el.add (t:=tok) hn no).of_perm pm1;rw[e1];dsimp only;refine xba (xbe ?_);rw[tb1.pl,if_pos rfl,hashByValue_scannable 8 (x:=Value.int (n:Int) tok) rfl];refine xba (xbe ?_);rw[show plainKind (Value.int (n:Int) tok)=true from rfl,if_pos rfl];have few1:es1.size<=64:=by have:=el1.few;simpa using this
  refine xba (wpAny_storeSet_of ho hd ?_ (by rw[xhu];lia));have g1:=zbij ho hd es1 t1;have sb1:=xfc s.heap a (Obj.putSet es1 t1);have f:=λh' b=>fin h' b
  rw[if_neg no] at f;rcases zbkp (t:=t1) (m:=es.size) tb1.nd (by rw[mk1];exact T.mo) (by lia) (by have:=T.room;have:=T.sz;rw[mk1];lia) (by lia) with⟨c1,c2⟩ | ⟨c1,c2,c3,c4⟩
  ·rw[c1];refine xbe (xbe (f _ _ sb1 ⟨_,es1,ep+1,t1,g1,hex,rfl,tb1,by rw[mk1];exact T.mo,ld1.trans T.ld,sz1,?_,el1⟩));lia
  ·rw[c1]
   obtain⟨es2,t2,e2,tb2,mk2,ld2,sz2,ln2,pm2⟩:=relay (wanted:=SetTable.grown es1.size) tb1 (λe he=>by
    obtain⟨m,tt,hm,rfl⟩:=el1.all e he
    exact⟨m,hm,rfl⟩) (by rw[ln1];exact c2) (by rw[ln1];exact c3)
   rw[e2];refine xba (xbe ?_);refine xba (wpAny_storeSet_of g1 rfl ?_ (by show es2.size<=_;rw[xhu];lia));refine xbe (xbe (f _ _ (sb1.trans (xfc _ a _)) ⟨_,es2,ep+1+1,t2,zbij g1 rfl es2 t2,hex,rfl,tb2,by rw[mk2,ln1];exact c2,ld2.trans (ld1.trans T.ld),sz2,?_,el1.of_perm pm2⟩));rw[mk2,ln1];lia
end
end St
namespace St
noncomputable def met:List Nat->List Nat->List Nat
 | [],ks=>ks
 | n::l,ks=>met l (if n∈ks then ks else n::ks)
theorem zmy:entryFor table "set.update.loop"=some Builtin.«set.update.loop»:=entryFor_of_tree (by kernel_rfl)
theorem ziv:plainId "set.update.loop"=true:=by decide +kernel
section
section
variable {P:Program}{w:World}{B:Around}{R:Result->Shared->Prop}{it:Addr}{fp:List Addr}{wr:List Addr}{G:Array GenState->Array GenState->Prop}{N:Nat}{It:Nat->Value->Prop}{St:Nat->Shared->Prop}
theorem zbbj (W:WalksS P w B.in1 it fp wr G N It St)(a:Addr)(na:a∉fp)(ns:List Nat)(hN:ns.length=N)(small:∀n∈ns,n < 64)
  (val:∀i v,It i v->∃t,v=Value.int ((ns.getD i 0:Nat):Int) t):∀(r:List Nat) (i:Nat) (ks:List Nat) (s:Shared),ns.drop i=r->i<=N->St i s->Sn w s.heap a ks ->
   (∀ s', Moved (a::wr) G s s'->Sn w s'.heap a (met r ks)->R (.ok (.ret .none)) s')->codeAny (model P w) B (.builtin "set.update.loop" ⟨[.ref a,.ref it],[]⟩) R s
 | [],i,ks,s,hr,hi,au,S,fin=>by
  have e:i=N:=by
   have:=congrArg List.length hr;simp at this;lia
  subst e;refine xlp zmy ?_;rw[xlh ziv _];refine xba (m:=pyNext (.ref it)) (W.done s _ _ au λs' mv=>?_);have aw:a∉wr:=λz=>na (W.sub _ z)
  exact xbe (fin s' (mv.mono λb hb=>xbm _ hb) (S.kept λo e=>mv.heap a o aw e))
 | n::r,i,ks,s,hr,hi,au,S,fin=>by
  have hlt:i < N:=by
   have:=congrArg List.length hr;simp at this;lia
  have hg:ns.getD i 0=n/\n∈ns/\ns.drop (i+1)=r:=by
   have h1:ns[i]?=some n:=by
    have:=congrArg (λl:List Nat=>l[0]?) hr
    simpa using this
   refine⟨by rw[xbj,h1];rfl,xbz h1,?_⟩;rw[← xlu,hr]
   rfl
  have aw:a∉wr:=λz=>na (W.sub _ z)
  refine xlp zmy ?_;rw[xlh ziv _];refine xba (m:=pyNext (.ref it)) (W.item i s _ _ hlt au λv s' pv st' mv=>?_);obtain⟨t,rfl⟩:=val i v pv;rw[hg.1];refine xba (m:=holding [Value.int (n:Int) t] (setAdd a (.int (n:Int) t))) (xfe ?_);unfold setAdd;refine xfe (xba (wpAny_pyHash_int ?_));refine zbrz (s:={s' with toks:=s'.toks+1}) (small n hg.2.1) (S.kept λo e=>mv.heap a o aw e) λh' b sb S'=>?_
  refine xbe ⟨plainId_quiet ziv _,zbbj W a na ns hN small val r (i+1) _ _ hg.2.2 hlt (W.frame _ s' _ _ st' (xkt _) λb hb o e=>?_) S' λs2 mv2 S2=>?_⟩
  ·rw[sb.2 b (λz:b=a=>na (z ▸ hb))];exact e
  ·refine fin s2 (Moved.trans W.gtrans ((mv.mono λb hb=>xbm _ hb).then_heap (xkt _) λb o hb e=>?_) mv2) S2;rw[sb.2 b (λz:b=a=>hb (z ▸ xbp))];exact e
end
end
section
noncomputable def newO (w:World):Obj:={ cls:=.type "set", dict:=none,data:=.set #[] 0 (.fresh 0 0 (!w.params.followText "set-order")) }
theorem zbpk {s:Shared}(x:Value){W:Value->Shared->Prop}(fin:W (.ref s.heap.objs.size) {s with heap:=s.heap.push (newO w)}) :
  codeAny (model P w) B (.call (.builtin "set.__new__") ⟨[.type "set", x],[]⟩) (wants W E) s:=by
 refine codeAny_call_builtin_code (plainId_quiet F.plain_set_new _) (wpAny_of_eq (F.newCall_set_1 x) (xlp F.entry_set_new ?_));rw[xlh F.plain_set_new _];have sub:=sub_set_self;unfold Builtin.«set.__new__» Builtin.Frozenset.newClass;obtain⟨hp,g,d,tk,os⟩:=s
 wp_walk
 refine xjl (xbe ?_);simp only[newObj];exact xba (wpAny_alloc (xbe (xbe fin)))
theorem zbpj  {h:Heap}  (e:h.get? a=some (newO w)):Sn w h a [] :=
 ⟨_,#[],0,_,e,⟨rfl,rfl,rfl⟩,rfl,⟨List.Pairwise.nil,rfl,λy hy=>(by cases hy),rfl⟩,.inl rfl,rfl,rfl,(by show 0 * 5 < 7 * 3;decide),⟨λe he=>(by cases he),xnm _,xgx⟩⟩
section
variable {P:Program}{w:World}{B:Around}{E:Value->Shared->Prop}{s:Shared}
theorem zbmg {l:Addr}{its:List Value}{ns:List Nat}{W:Value->Shared->Prop}(hh:B.handled=none)(isl:s.heap.IsList l its.toArray)(iv:IntsAre its (ns.map λ(n:Nat)=>(n:Int)))(small:∀n∈ns,n < 64)
  (fin:∀(h':Heap) (tk:Nat),Sn w h' s.heap.objs.size (met ns [])->(∀b o,s.heap.get? b=some o->h'.get? b=some o)->W (.ref s.heap.objs.size) {s with heap:=h',toks:=tk}) :
  wpAny (model P w) B (call (.type "set") [.ref l]) W E s:=by
 have len:its.length=ns.length:=by simpa using iv.length
 obtain⟨c,tl,hmro⟩:=xhw.mro;have hmade:=xhw.made;have hsub:=xhw.sub;have h1:=xhw.notType;have h2:=xhw.canCreate;have hct:=F.typeCall_set_1 (.ref l);refine wpAny_call (codeAny_of_tree (show wpAny _ _ (callAny (.type "set") _) _ _ _ from xbe ⟨Code.quiet_builtin _ (by decide +kernel),xlp F.entry_type_call ?_⟩))
 rw[Around.under_plain (weight_type_call_type "set" [.ref l] []) rfl]
 repeat (any_goals (first | assumption | wp_step))
 refine xlo (zbpk (w:=w) (.ref l) (E:=E) (W:=λv s1=>v=.ref s.heap.objs.size/\s1={s with heap:=s.heap.push (newO w)}) ⟨rfl,rfl⟩) λr s1 hr=>?_
 match r,hr with
 | .error e,hr=>exact hr
 | .ok (.ret v),hr =>
  obtain⟨rfl,rfl⟩:=hr;have en:(s.heap.push (newO w)).get? s.heap.objs.size=some (newO w):=xcg _ rfl;have ty:Shared.TypeIs { s with heap:=s.heap.push (newO w) } (.ref s.heap.objs.size) "set":=⟨_,en,rfl⟩
  have hli:=xhw.init.lookup;have hbi:=xhw.init.bind (.ref s.heap.objs.size)
  repeat (any_goals (first | assumption | wp_step))
  refine xlo (codeAny_call_builtin (R:=wants (λv s2=>v=.none/\∃h' tk,s2={s with heap:=h',toks:=tk}/\Sn w h' s.heap.objs.size (met ns [])/\∀b o,s.heap.get? b=some o->h'.get? b=some o) E) xhw.init.plain F.entry_set_init (check_set_init_1 ty ?body)) λr2 s2 hr2=>?_
  case body =>
   obtain⟨ol,hol,hcl,nl,hdl⟩:=id isl;obtain⟨oc,od,odt,osl⟩:=ol;simp only at hcl hdl;subst hcl hdl;have hol':(s.heap.push (newO w)).get? l=some { cls:=.type "list", dict:=od,data:=.seq its.toArray nl,slots:=osl }:=xbn _ hol
   have isl':(s.heap.push (newO w)).IsList l its.toArray:=⟨_,hol',rfl,nl,rfl⟩
   have ns1:=F.sub_list_set;have ns2:=F.sub_list_frozenset;have ne:(Value.type "list"==Value.type "dict")=false:=by decide
   unfold Builtin.«set.__init__» noKeywords Builtin.Frozenset.updateFrom;generalize hPI:pyIter=PI
   wp_walk
   subst hPI;have ls:l < s.heap.objs.size:=xbx hol;have z1:(s.heap.push (newO w)).objs.size=s.heap.objs.size+1:=Heap.size_push ..
   refine xiw isl' (xba (wpAny_runValue ?_))
   refine zbbj ((Walks.list (by simp[hh]) _ l (xci (by rw[z1];exact xhq ls)) its.toArray).toS) s.heap.objs.size (λz=>by
    rw[z1] at z;rcases xbs.mp z with z | z
    ·exact xci (xjh _) z
    ·exact xjt ls (xbq.mp z)) ns (by simp[len]) small (λi v hv=>?_) ns 0 [] _ rfl (xee _) ⟨⟨_,xcg _ rfl,rfl,rfl⟩,isl'.push _⟩ (zbpj (xbn _ en)) λs2 mv S2=>?_
   ·obtain⟨t,e⟩:=IntsAre.int_at iv i v (by simpa using hv);refine⟨t,e.trans ?_⟩
    congr 1
    rw[xbj,xco,xbj];cases ns[i]?<;>rfl
   ·rw[Moved.eq_with mv];refine xbe (xbe ⟨rfl,s2.heap,s2.toks,rfl,S2,λb o e=>?_⟩);have lt:=xbx e
    exact mv.heap b o (λz=>by
     rw[z1] at z;rcases xbs.mp z with z | z
     ·exact xci lt z
     ·exact xci (xhq lt) (xbq.mp z)) (xbn _ (xbn _ e))
  match r2,hr2 with
  | .error e,hr2=>exact hr2
  | .ok (.ret v),hr2 =>
   obtain⟨rfl,h',tk,rfl,S',keep⟩:=hr2
   repeat (any_goals (first | assumption | wp_step))
   exact fin _ _ S' keep
end
end
end St
namespace St
theorem zbjg:Manifest.owners.lookup (String.ofList ("rotareti_tes".toList).reverse)=some Manifest.sig_set_iterator:=by kernel_rfl
theorem zjy:Slot "set_iterator" "__next__" "set_iterator.__next__":=by
 refine Slot.of (owner:="set_iterator") (n:="__next__") ?_ (by decide +kernel) (by decide +kernel) (by decide +kernel) ?_ ?_
 ·rw[typeLookup_type,builtinLookup_eq_fast]
  kernel_rfl
 ·first
   | exact .inl (by decide +kernel)
   | exact .inr (by decide +kernel)
 ·rw[isSubtype_type]
  kernel_rfl
theorem zur:entryFor table "set_iterator.__next__"=some Builtin.«set_iterator.__next__»:=entryFor_of_tree (by kernel_rfl)
theorem zbbg (a:Value):argsOk "set_iterator.__next__" ⟨[a],[]⟩:=by
 unfold argsOk;rw[signature?_of (id:="set_iterator.__next__") (n:="__txen__".toList) (o:="rotareti_tes".toList) (by kernel_rfl) zbjg]
 kernel_rfl
theorem zbaw:Slot "set_iterator" "__iter__" "set_iterator.__iter__":=by
 refine Slot.of (owner:="set_iterator") (n:="__iter__") ?_ (by decide +kernel) (by decide +kernel) (by decide +kernel) ?_ ?_
 ·rw[typeLookup_type,builtinLookup_eq_fast]
  kernel_rfl
 ·first
   | exact .inl (by decide +kernel)
   | exact .inr (by decide +kernel)
 ·rw[isSubtype_type]
  kernel_rfl
theorem zbdg:entryFor table "set_iterator.__iter__"=some Builtin.«dict_keyiterator.__iter__» :=
 entryFor_alias (id':="dict_keyiterator.__iter__") (by kernel_rfl) rfl (by decide +kernel) (by kernel_rfl)
theorem zbie (a:Value):argsOk "set_iterator.__iter__" ⟨[a],[]⟩:=by
 unfold argsOk;rw[signature?_of (id:="set_iterator.__iter__") (n:="__reti__".toList) (o:="rotareti_tes".toList) (by kernel_rfl) zbjg]
 kernel_rfl
theorem zbfh:entryFor table "set.__iter__"=some Builtin.«frozenset.__iter__» :=
 entryFor_alias (id':="frozenset.__iter__") (by kernel_rfl) rfl (by decide +kernel) (by kernel_rfl)
noncomputable def At (h:Heap) (a:Addr) (es:Array (Int×Value)) (ep:Nat) (t:SetTable):Prop:=∃ob,h.get? a=some ob/\ob.ExactSet/\ob.data=.set es ep t
theorem At.kept {h':Heap}     (x:At h a es ep t)(k:∀o,h.get? a=some o->h'.get? a=some o):At h' a es ep t :=
 let ⟨ob,e,r⟩:=x;⟨ob,k _ e,r⟩
theorem At.is {s:Shared}     (x:At s.heap a es ep t):s.TypeIs (.ref a) "set":=let ⟨ob,e,c,_⟩:=x; ⟨ob,e,c.1⟩
theorem At.lt      (x:At h a es ep t):a < h.objs.size:=let ⟨_,e,_⟩:=x;xbx e
noncomputable def ord (w:World) (a:Addr) (es:Array (Int×Value)) (ep:Nat):Array (Int×Value):=if w.params.followText "set-order"=true then pickOrder (w.params.setOrder a ep) es else es
theorem zud (w:World)(a:Addr)(es:Array (Int×Value))(ep:Nat):(ord w a es ep).toList.Perm es.toList:=by
 unfold ord;split
 ·exact zyp _ _
 ·exact xnm _
theorem zks (w:World)(a:Addr)(es:Array (Int×Value))(ep:Nat):(ord w a es ep).size=es.size:=by
 have:=(zud w a es ep).length_eq
 simpa using this
noncomputable def slotAt (w:World) (t:SetTable):Nat->Nat
 | 0=>0
 | i + 1=>if w.params.followText "set-order"=true then 0 else t.place.getD i 0 + 1
theorem zqa {w:World}(h:w.params.followText "set-order"=true)(t:SetTable):∀ i,slotAt w t i=0
 | 0=>rfl
 | i+1=>if_pos h
theorem ztj {w:World}(h:¬ w.params.followText "set-order"=true)(t:SetTable)(i:Nat):slotAt w t (i + 1)=t.place.getD i 0 + 1:=if_neg h
theorem ztk {w:World}(h:¬ w.params.followText "set-order"=true){t:SetTable}(up:Up t.place):∀ i,i<=t.place.size->SetTable.below t.place (slotAt w t i)=i
 | 0,_=>zws up
 | i+1,hi=>by rw[ztj h];exact zwt up (by lia)
section
theorem zbbh {s:Shared}   (x:At s.heap a es ep t)(T:Tt w es t ks)(hi:i<=es.size)(fin:Q (((ord w a es ep)[i]?).map λe=>(e.2,slotAt w t (i+1))) s) :
  wpAny (model P w) B (setNext a (slotAt w t i) i ep) Q E s:=by
 obtain⟨ob,ho,hex,hd⟩:=x;unfold setNext setsByText;refine xba (xkp ho hd T.fits ?_);dsimp only;refine xba (xba (xjl (xbe ?_)));show wpAny _ _ (if w.params.followText "set-order"=true then _ else _) _ _ _
 by_cases hb:w.params.followText "set-order"=true
 ·rw[zqa hb] at fin;rw[if_pos hb,if_neg (by simp),zqa hb];unfold setWalk setsByText;refine xba (xba (xkp ho hd T.fits ?_));dsimp only;refine xba (xba (xjl (xbe ?_)));show wpAny _ _ (if w.params.followText "set-order"=true then _ else _) _ _ _
  rw[if_pos hb];refine xba (xjl (xbe (xbe ?_)));unfold ord at fin;rw[if_pos hb] at fin;exact fin
 ·rw[if_neg hb];have hl:t.led=true:=by rw[T.ld];simpa using hb
  have sz:=T.sz;refine xjs (λz=>?_) (λ_=>?_)
  ·change (!t.plain&&_)=true at z
   rw[T.tb.pl] at z;cases z
  refine xba (xjs (λz=>?_) (λ_=>xbe ?_))
  ·change (!t.led&&_)=true at z
   rw[hl] at z;cases z
  rw[ztk hb T.tb.up i (by lia)];unfold ord at fin;rw[if_neg hb,ztj hb] at fin;by_cases c:i < es.size
  ·rw[xdd c] at fin ⊢;have c2:i < t.place.size:=by lia
   rw[xdd c2];have e2:t.place.getD i 0=t.place[i]:=by
    rw[xcw,xdd c2]
    rfl
   rw[e2] at fin;exact xbe fin
  ·rw[xkr (by lia)] at fin ⊢;exact xbe fin
def ItAt (w:World) (h:Heap) (it a:Addr) (i n ep:Nat) (t:SetTable):Prop:=∃ o,h.get? it=some o/\o.cls=.type "set_iterator"/\o.data=.fields #[.int (slotAt w t i:Nat) 0,.int i 0,.ref a,.int n 0,.int ep 0]
theorem ItAt.kept {h':Heap}  (x:ItAt w h it a i n ep t)(k:∀o,h.get? it=some o->h'.get? it=some o):ItAt w h' it a i n ep t :=
 let ⟨o,e,r⟩:=x;⟨o,k _ e,r⟩
theorem ItAt.is {s:Shared}  (x:ItAt w s.heap it a i n ep t):s.TypeIs (.ref it) "set_iterator":=let ⟨o,e,c,_⟩:=x; ⟨o,e,c⟩
noncomputable def itO (a:Addr) (n ep:Nat):Obj:={ cls:=.type "set_iterator", data:=.fields #[.int 0 0,.int 0 0,.ref a,.int n 0,.int ep 0] }
theorem zbkd {s:Shared}{W:Value->Shared->Prop}(x:At s.heap a es ep t)(T:Tt w es t ks)(fin:W (.ref s.heap.objs.size) {s with heap:=s.heap.push (itO a es.size ep)}):wpAny (model P w) B (pyIter (.ref a)) W E s:=by
 obtain⟨ob,ho,hex,hd⟩:=id x;refine xmu x.is F.slot_set_iter (xfa F.slot_set_iter x.is zbfh ?body (F.args_set_iter_1 _))
 case body =>
  unfold Builtin.«frozenset.__iter__» Builtin.Frozenset.sizeOf;refine xba (m:=Builtin.Frozenset.slot0 "__iter__" _) (xbe (xba (xba (xlt ho hd T.fits (xbe ?_)))))
  unfold setDrawn setsByText;refine xba (xba (xkp ho hd T.fits ?_));dsimp only;refine xba (xba (xjl (xbe (xbe ?_))));refine xjs (λz=>?_) (λ_=>xba (xbe ?_))
  ·change (_&&(!t.plain&&_))=true at z
   rw[T.tb.pl] at z;simp at z
  refine xba (wpAny_setEpoch_of ho hd T.fits ?_);unfold newFields;exact xba (xep (xbe ⟨_,rfl, "set_iterator", _,⟨_,xcg _ rfl,rfl⟩,zjy.lookup,fin⟩))
theorem zbnz  {h:Heap}  {o:Obj}{i n ep:Nat}  (ho:h.get? it=some o)(hc:o.cls=.type "set_iterator")(hd:o.data=.fields #[.int (slotAt w t i:Nat) 0,.int i 0,.ref a,.int n 0,.int ep 0]) :
  ItAt w ((h.update it (Obj.mapFields (·.setIfInBounds 0 (rawInt (slotAt w t (i+1):Nat))))).update it (Obj.mapFields (·.setIfInBounds 1 (rawInt ((i:Int)+1))))) it a (i+1) n ep t:=by
 have d1:=xii hd (·.setIfInBounds 0 (rawInt (slotAt w t (i+1):Nat)));have g1:=xfs _ ho (xja d1);have d2:=xii d1 (·.setIfInBounds 1 (rawInt ((i:Int)+1)));refine⟨_,xfs _ g1 (xja d2),(xmp ..).trans ((xmp ..).trans hc),?_⟩;rw[d2];simp[rawInt]
theorem zbke {s:Shared}   {W:Option Value->Shared->Prop}(x:At s.heap a es ep t)(T:Tt w es t ks)(hi:ItAt w s.heap it a i es.size ep t)(he:(ord w a es ep)[i]?=some e)
  (fin:∀g:Heap,ItAt w g it a (i+1) es.size ep t->Heap.SameBut it s.heap g->W (some e.2) {s with heap:=g}):wpAny (model P w) B (pyNext (.ref it)) W E s:=by
 obtain⟨oi,ei,ci,di⟩:=id hi;obtain⟨ob,ho,hex,hd⟩:=id x;have lt:i < es.size:=by
  have:=(xmk.mp he).1
  rwa [zks] at this
 unfold pyNext;refine xba (xku (wpAny_callSpecial?_slot (name:=Str.ofString "__next__") hi.is zjy (xfa zjy hi.is zur ?body (zbbg _))))
 case body =>
  refine xba (m:=slotArgs "__next__" 0 _) (xbe (xba (xlx ei di ?_)))
  refine xba (xlt ho hd T.fits ?_);rw[if_neg (by simp)];refine xba (m:=setNext a (slotAt w t i) i ep) (zbbh x T (xca lt) ?_);rw[he];dsimp only[Option.map];refine xba (xkc ei di (by simp) ?_);have d1:=xii di (·.setIfInBounds 0 (rawInt (slotAt w t (i+1):Nat)));have g1:=xfs _ ei (xja d1);refine xba (xkc g1 d1 (by simp) ?_);exact xbe ⟨_,rfl,xbe (fin _ (zbnz ei ci di) ((xfc ..).trans (xfc ..)))⟩
theorem zbqd {B:Around}{s:Shared}  {W:Option Value->Shared->Prop}(hh:B.handled=none)(x:At s.heap a es ep t)(T:Tt w es t ks)(hi:ItAt w s.heap it a i es.size ep t)(he:i=es.size)
  (fin:∀g:Heap,Heap.ExtBut it s.heap g->W none {s with heap:=g}):wpAny (model P w) B (pyNext (.ref it)) W E s:=by
 obtain⟨oi,ei,ci,di⟩:=id hi;obtain⟨ob,ho,hex,hd⟩:=id x;unfold pyNext;refine xba (xku (wpAny_callSpecial?_slot (name:=Str.ofString "__next__") hi.is zjy (xfa zjy hi.is zur ?body (zbbg _))))
 case body =>
  refine xba (m:=slotArgs "__next__" 0 _) (xbe (xba (xlx ei di ?_)))
  refine xba (xlt ho hd T.fits ?_);rw[if_neg (by simp)];refine xba (m:=setNext a (slotAt w t i) i ep) (zbbh x T (xdb he) ?_);rw[xkr (by rw[zks];lia)];dsimp only[Option.map];refine xba (xkc ei di (by simp) (xba ?_));simp only[newExc,newTuple];refine xba (xep (xba (m:=firstArgMember _ _) (wpAny_of_eq (a:=Value.none) (by first | rfl | (simp only[firstArgMember];rfl)) (xep ?_ (by size_fits)))) (by size_fits));simp only[raiseNew];refine xba (wpAny_handled ?_);rw[show B.in1.handled=none from hh];refine xba (xbe (wpAny_throw ?_));refine xba (wpAny_isInstance (T:="StopIteration") (b:=true) ?ty isSubtype_stop (xbe (fin _ (((xfc ..).extBut.push _).push _))))
  exact⟨_,xcg _ rfl,rfl⟩
theorem zbcy {B:Around}(hh:B.handled=none)(ne:a≠it)(T:Tt w es t ks) :
  Walks P w B it [it,a] [it] es.size (λi v=>∃e,(ord w a es ep)[i]?=some e/\v=e.2) (λi h=>ItAt w h it a i es.size ep t/\At h a es ep t) where
 sub:=λb hb=>xbs.mpr (.inl (xbq.mp hb))
 frame:=λ_ _ _ z hk=>⟨z.1.kept λo e=>hk it xbp o e,z.2.kept λo e=>hk a (xbm _ (xbq.mpr rfl)) o e⟩
 item:=λi sh W' E' hi z hQ=>by
  have hx:(ord w a es ep)[i]?=some ((ord w a es ep)[i]'(by rw[zks];exact hi)):=xdd _;exact zbke z.2 T z.1 hx λg p q=>hQ _ g sh.toks ⟨_,hx,rfl⟩ ⟨p,z.2.kept λo e=>q.extBut a o ne e⟩ λc o hc e=>q.extBut c o (λr=>hc (xbq.mpr r)) e
 done:=λsh W' E' z hQ=>zbqd hh z.2 T z.1 rfl λg b=>hQ g sh.toks λc o hc e=>b c o (λq=>hc (xbq.mpr q)) e
 self:=λi sh W' E' z hQ=>by
  refine xmu z.1.is zbaw (xfa zbaw z.1.is zbdg ?_ (zbie _));exact xbe ⟨_,rfl, "set_iterator", _,z.1.is,zjy.lookup,hQ⟩
theorem zbko {s:Shared}  (ty:s.TypeIs (.ref a) "set")(fin:Q false s):wpAny (model P w) B (Builtin.List.listLengthHint (.ref a)) Q E s:=by
 unfold Builtin.List.listLengthHint;refine xba (wpAny_specialOf ty F.slot_set_len.lookup ?_);generalize hid:("set.__len__" : String)=id0
 wp_delta
 rw[show splitId id0=some ("set","__len__") from by subst hid; decide +kernel]
 subst hid;refine xba (wpAny_isInstance (b:=true) ty sub_set_self (xjs (λz=>absurd z (by decide)) (λ_=>xjs (λ_=>xba (wpAny_typeOf ty (xbe fin))) (λz=>absurd (by decide +kernel) z))))
theorem zbnn (T:Tt w es t ks):KdlSrc P w "set" a a es.size (λi v=>∃ e,(ord w a es ep)[i]?=some e/\v=e.2) (λh=>At h a es ep t) where
 type:=λ_ x=>x.is
 there:=λ_ x=>⟨x.lt,x.lt⟩
 keep:=λ_ _ x hk=>x.kept λo e=>hk a (.inl rfl) o e
 notList:=by decide
 notTuple:=by decide
 hint:=λ_ _ _ _ x hq=>zbko x.is hq
 iter:=λ_ sh hh x=>⟨_,_,λ_ _ hq=>zbkd x T hq,zbcy hh (xci x.lt) T,⟨⟨_,xcg _ rfl,rfl,rfl⟩,x.kept λo e=>xbn _ e⟩⟩
end
end St
end L2
namespace L2
open PySem PySem.Spec PyProof.Rows PySem.W
noncomputable def nats (ns:List Nat):List Int:=ns.map λ(n:Nat)=>(n:Int)
def setO (w:World) (q:Addr) (ks:List Nat):HO:=.ext λh=>St.Sn w h q ks
def rSetI (w:World) (K:Fg):List V->Hp->VK->Prop:=λxs H Q=>∃(l:Addr) (ns:List Nat),xs=[.ref l]/\SqL K H l ((nats ns).map V.int)/\(∀n∈ns,n < 64)/\∀q,H q=none->Q (.ref q) (upd H q (setO w q (St.met ns [])))
theorem zban {X:Cx}(hc:X.calm=true):CallR X (.type "set") (rSetI X.w X.K):=by
 intro aU s σ H xs us Q I r h;obtain⟨l,ns,rfl,hl,small,q⟩:=h;obtain⟨u,rfl,ru⟩:=vals1 r;cases ru;obtain⟨its,rv,pl,hz⟩:=I.list hl;refine St.zbmg (I.ok.hd hc) pl.isList (zef rv) small λh' tk S keep=>?_
 refine⟨.ref s.heap.objs.size,_,I.laid (a:=s.heap.objs.size) (o:=setO X.w s.heap.objs.size (St.met ns [])) (t':=tk) keep (xbf _) ⟨S,?_,λh1 h2 z k=>z.kept k⟩,rfl,q _ (I.hok.fresh (xbf _))⟩;obtain⟨ob,_,_,_,e,_⟩:=S;exact⟨ob,e⟩
def rSortedS (w:World):List V->Hp->VK->Prop:=λxs H Q=>∃(a:Addr) (ks:List Nat),xs=[.ref a]/\H a=some (setO w a ks) /\
 ∀(q:Addr) (ms:List Int),H q=none->ms.Perm (nats ks)->ms.Pairwise (·<=·)->Q (.ref q) (upd H q (.lst (ms.map V.int)))
theorem zph {X:Cx}(hc:X.calm=true):CallR X (.builtin "sorted") (rSortedS X.w):=by
 intro aU s σ H xs us Q I r h;obtain⟨a,ks,rfl,ha,q⟩:=h;obtain⟨u,rfl,ru⟩:=vals1 r;cases ru;obtain⟨S,_,_⟩:=(show ObjOk X.prog X.w H s.heap a (setO X.w a ks) from I.hok a _ ha)
 obtain⟨ob,es,ep,t,ho,hex,hd,T⟩:=S;have few:=T.few;refine Srt.zgh (St.zbnn (P:=X.prog) (ep:=ep) T) (I.ok.hd hc) ⟨ob,ho,hex,hd⟩ (small10000 (by lia)) λvs hl hv=>?_
 have pm:=St.zud X.w a es ep;have evs:vs=(St.ord X.w a es ep).toList.map (·.2):=by
  apply xkn;intro i;by_cases hi:i < es.size
  ·have h1:vs[i]?=some vs[i]:=xbd (by lia);obtain⟨e,h2,h3⟩:=hv i _ h1;rw[h1,h3,xco,xch,h2]
   rfl
  ·rw[xhm (by lia),xhm (by rw[xbb,xcd,St.zks];lia)]
 generalize hL:(St.ord X.w a es ep).toList=L at pm evs;have E:=T.el.of_perm pm;have rv:Vals ((L.map (·.1)).map V.int) vs:=by
  rw[evs,xcr];refine znt λe he=>?_
  obtain⟨n,t2,hn,rfl⟩:=E.all e he;exact⟨t2,rfl⟩
 have ln:(L.map (·.1)).length=es.size:=by
  rw[xbb,pm.length_eq,xcd]
 refine⟨Srt.rank (ones (L.map (·.1))),zwk rv,λh2 g tk keep=>zww (by lia) rv,λp b g tk c p1 p2 keep ne eg=>?_⟩;have lv:vs.length=(L.map (·.1)).length:=by lia
 rw[lv] at p1 p2;obtain⟨ms,q1,q2,q3⟩:=zuc rv p1 p2;refine⟨.ref b,_,I.laidN (o:=.lst (ms.map V.int)) keep ne ⟨?_,_,c,q3,by simpa using eg⟩,rfl,q b ms (I.away ne) (q1.trans E.perm) q2⟩;rw[xbb,q1.length_eq,ln];exact small10000 (by lia)
end L2
namespace Dd
open PySem L2 PyProof.Rows
noncomputable def once:List Int->List Int
 | []=>[]
 | n::l=>if n∈l then once l else n::once l
theorem zkv :∀{l:List Int},k∈once l↔k∈l
 | []=>Iff.rfl
 | n::l=>by
  unfold once;split
  ·rename_i h;rw[zkv (l:=l),xbs];exact⟨.inr,λz=>z.elim (λe=>e ▸ h) id⟩
  ·rw[xbs,xbs,zkv (l:=l)]
theorem zuh:∀l:List Int,(once l).Nodup
 | []=>xgx
 | n::l=>by
  unfold once;split
  ·exact zuh l
  ·rename_i h;exact xet.mpr ⟨λz=>h (zkv.mp z),zuh l⟩
theorem zut :∀{l ks:List Nat},k∈St.met l ks↔k∈l\/k∈ks
 | [],ks=>by simp[St.met]
 | n::l,ks=>by
  unfold St.met;rw[zut (l:=l),xbs];split
  ·rename_i h;exact⟨λz=>z.elim (λa=>.inl (.inr a)) .inr,λz=>z.elim (λa=>a.elim (λe=>.inr (e ▸ h)) .inl) .inr⟩
  ·rw[xbs];exact⟨λz=>z.elim (λa=>.inl (.inr a)) (λa=>a.elim (λe=>.inl (.inl e)) .inr),λz=>z.elim (λa=>a.elim (λe=>.inr (.inl e)) .inl) (λa=>.inr (.inr a))⟩
theorem zber:∀{l ks:List Nat},ks.Nodup->(St.met l ks).Nodup
 | [],ks,h=>h
 | n::l,ks,h=>by
  unfold St.met;split
  ·exact zber h
  ·rename_i c;exact zber (xet.mpr ⟨c,h⟩)
theorem zbjt {l:List Nat}(h:l.Nodup):(nats l).Nodup:=by
 unfold nats;rw[List.nodup_iff_pairwise_ne] at h ⊢;exact xiu.mpr (h.imp λa e=>a (by lia))
theorem zbeq :(nats (St.met ns [])).Perm (once (nats ns)):=by
 refine(xmm (zbjt (zber xgx)) (zuh _)).mpr λk=>?_
 rw[zkv];unfold nats;rw[xbk,xbk];constructor
 ·rintro⟨n,h,rfl⟩;exact⟨n,(zut.mp h).elim id (λz=>by cases z),rfl⟩
 ·rintro⟨n,h,rfl⟩;exact⟨n,zut.mpr (.inl h),rfl⟩
noncomputable def smallI (n:Int):Bool:=decide (0<=n)&&decide (n < 64)
theorem zti {l:List Int}(h:l.all smallI=true):∃ns:List Nat,l=nats ns/\∀n∈ns,n < 64:=by
 refine⟨l.map Int.toNat,?_,λn hn=>?_⟩
 ·unfold nats;rw[xcr];refine(xnk l).symm.trans (xjo λn hn=>?_);have:=xdn.mp h n hn;simp[smallI] at this;show n=((n.toNat:Nat):Int)
  lia
 ·obtain⟨m,hm,rfl⟩:=xbk.mp hn;have:=xdn.mp h m hm;simp[smallI] at this;lia
def bSortSetM:List D->Store->Res D:=λxs au=>match xs with
 | [x]=>match (asL au x).bind asInts with
  | some l=>if l.all smallI=true then .ok (.ref au.length) (au++[.lst ((sortI (once l)).map .int)]) else .stuck
  | none=>.stuck
 | _=>.stuck
def rSS (w:World) (K:Fg):List V->Hp->VK->Prop:=λxs H Q=>rSetI w K xs H λu H1=>rSortedS w [u] H1 Q
theorem zsm {w:World}{K:Fg}:CaD K bSortSetM (rSS w K):=λρ H au xs us z st' Q rp aa e q=>by
 unfold bSortSetM at e;split at e
 ·obtain⟨u,rfl,a⟩:=aa.one;split at e
  ·rename_i l hl;obtain⟨ys,h0,hl⟩:=xeq.mp hl;split at e
   ·rename_i sm;cases e;obtain⟨p,vs,rfl,h1,h2⟩:=zgv rp a h0;have e:=zcx h2 hl;subst e;obtain⟨ns,rfl,small⟩:=zti sm;refine⟨p,ns,rfl,SqL.of h1,small,λb hb=>⟨b,_,rfl,zq,λt ms ht hp hs=>?_⟩⟩;have e2:ms=sortI (once (nats ns)):=zth (hp.trans zbeq) hs;subst e2;obtain⟨E,R⟩:=(rp.new hb (setO w b _)).alloc ht (x:=.lst ((sortI (once (nats ns))).map .int)) (o:=.lst ((sortI (once (nats ns))).map V.int)) λE=>⟨_,zq,(zgq _).ext E⟩
    exact q _ _ _ ((Ext.new hb _).trans E) R (.last rp.len.symm)
   ·cases e
  ·cases e
 ·cases e
section
theorem zbul {X:Cx}(hc:X.calm=true)(hr:CaD X.K g (rSS X.w X.K))(hgx:Gl X x)(hmx:X.mg x=none)(hvx:bootBuiltins x=some (.builtin "sorted"))(hgy:Gl X y)(hmy:X.mg y=none)(hvy:bootBuiltins y=some (.type "set"))(ha:JA X [e] f)
  (hnx:x≠"__name__":=by decide)(hdx:(x==("__debug__" : Str))=false:=by decide)(hny:y≠"__name__":=by decide)(hdy:(y==("__debug__" : Str))=false:=by decide)(hp:plainE e=true:=by rfl) :
  JE X (.Call (.Name x p) [.Call (.Name y p2) [e] [] pos2] [] pos) (aE g f) :=
 ⟨zfr (ztx (zph hc) hgx hmx hvx (zbbe (zqh (zban hc) hgy hmy hvy ha.out hny hdy (zmf hp)) zbje) hnx hdx) λτ H Q h=>zbrj hr τ H Q h⟩
end
end Dd
namespace L2
open PySem PySem.Spec PyProof.Rows PySem.W
noncomputable def CMulW (i j:Int):Prop:=PySem.Builtin.Int.intBits i<=60000/\PySem.Builtin.Int.intBits j<=60000
theorem zbjk :OpR X (binaryOp .Mult) (rI CMulW λi j=>.int (i * j)):=opI λ_ _ _ _ _ _ _ hc q=>mul_int q (.of_le hc.1 hc.2 (by decide))
end L2
namespace Dd
open PySem L2 PyProof.Rows
instance instCMulW:DecidableRel CMulW:=λi j=>by unfold CMulW;infer_instance
abbrev oMulW:=oI CMulW λi j=>.int (i * j)
section
end
section
end
section
end
section
end
section
end
end Dd
namespace L2
open PySem PySem.Spec PyProof.Rows
end L2
namespace Dd
open PySem L2 PyProof.Rows
section
end
end Dd
namespace L2
open PySem PySem.Spec PyProof.Rows
end L2
namespace Dd
open PySem L2 PyProof.Rows
section
end
section
end
section
end
end Dd
namespace L2
open PySem PySem.Spec PyProof.Rows
section
end
section
end
section
end
section
end
end L2
namespace Dd
open PySem L2 PyProof.Rows
section
end
end Dd
namespace L2
open PySem PySem.Spec PyProof.Rows
section
end
section
end
section
end
end L2
namespace L2
open PySem PySem.Spec PyProof.Rows Builtin Builtin.ObjectAttr
section
end
end L2
namespace L2
open PySem PySem.Spec PyProof.Rows
section
end
section
end
def ItE0 (K:Fg) (a:Addr):It :=
 ⟨λi H=>∃xs x,SqL K H a xs/\xs[i]?=some x,λi H y H'=>∃p,H p=none/\y=.ref p/\∀xs x,SqL K H a xs->xs[i]?=some x->H'=upd H p (.tup [.int (i:Int),x]),λi H=>∃xs,SqL K H a xs/\xs.length<=i⟩
theorem ztc {P:Program}{w:World}{K:Fg}{elts:List Expr}{k:Nat}{tpos:Pos}(e it a:Addr)(hei:e≠it) :
  Turn P w K (.Tuple elts k tpos) (ItE0 K a) [e,it] e (λi h=>(∃old,IsEnum h e it (i:Int) old)/\h.IsListIter it a i) where
 mem:=by simp
 obj:=λi h au b hb=>by
  obtain⟨⟨old,he⟩,o,e',c,d⟩:=au;rcases xbs.mp hb with rfl | hb
  ·exact⟨_,he,λv z=>nomatch (show Data.fields _=Data.cell v from z)⟩
  ·obtain rfl:b=it:=by simpa using hb
   exact⟨o,e',λv z=>by rw[d] at z;cases z⟩
 keep:=λi h h' au k=>⟨let ⟨old,he⟩:=au.1;⟨old,k e (by simp) _ he⟩,let ⟨o,z,r⟩:=au.2;⟨o,k it (by simp) o z,r⟩⟩
 item:=by
  intro X hP hw hK hc i aU s σ H E I hf au hg;subst hP hw hK;obtain⟨xs,x,hq,hx⟩:=hg;obtain⟨⟨old,he⟩,hit⟩:=au;obtain⟨its,rv,p,hz⟩:=I.list hq;obtain⟨u,hu,ru⟩:=rv.get hx;refine wpAny_pyNext_enum_item he hit p.isList (x:=u) (by rw[List.getElem?_toArray];exact hu) hei λh1 ho hit' hT hsz hk=>?_
  refine⟨_,rfl,wpAny_letOwnedTupleGo_enum ho λh2 he2 hs2=>?_⟩;obtain⟨f0,f1,f2,f3,f4,f5⟩:=hf e (by simp);obtain⟨g0,g1,g2,g3,g4,g5⟩:=hf it (by simp);have hel:e < s.heap.objs.size:=xbx he;have hil:it < s.heap.objs.size:=by obtain⟨o',ho',_⟩:=hit;exact xbx ho'
  have I1:Inv X aU σ (upd H s.heap.objs.size (.tup [.int (i:Int),x])) { s with heap:=s.heap.push { cls:=.type "tuple", data:=.seq #[.int (i:Int) s.toks,u] },toks:=s.toks } :=
   I.laid (λ_ _ q=>xbn _ q) (xbf _) ⟨by simp;decide,[.int (i:Int) s.toks,u],.cons ⟨_,rfl⟩ (.cons ru .nil),⟨_,xcg _ rfl,rfl,_,rfl⟩⟩
  have I2:Inv X aU σ (upd H s.heap.objs.size (.tup [.int (i:Int),x])) {s with heap:=h2,toks:=s.toks+1}:=by
   refine Inv.turned2 (s:={ s with heap:=s.heap.push { cls:=.type "tuple", data:=.seq #[.int (i:Int) s.toks,u] },toks:=s.toks }) (h':=h2) (t':=s.toks + 1) (e:=e) (it:=it) I1 (λb o hbe hbi q=>?_) (by rw[zt (xci hil)]; exact g0) g1 g3 g4 g5 (by rw[zt (xci hel)]; exact f0) f1 f3 f4 f5
   rcases Heap.get?_push_cases (show(s.heap.push _).get? b=some o from q) with⟨z,z2⟩ | z
   ·rw[z,z2];exact(hs2.2 _ (xjt hel)).trans hT
   ·exact(hs2.2 _ hbe).trans (hk b o hbe hbi z)
  refine⟨.ref s.heap.objs.size,_,I2,rfl,⟨s.heap.objs.size,I.fresh,rfl,λys y hy e'=>?_⟩,⟨⟨u,by push_cast;exact he2⟩,?_⟩,λb hb=>?_⟩
  ·rw[I.list_inj hy hq,hx] at e';cases e'
   rfl
  ·obtain⟨o,z,r⟩:=hit';exact⟨o,(hs2.2 it (xer hei)).trans z,r⟩
  ·rcases xbs.mp hb with rfl | hb
   ·rw[zt (xci hel)];exact f0
   ·obtain rfl:b=it:=by simpa using hb
    rw[zt (xci hil)];exact g0
 done:=by
  intro X hP hw hK hc i aU s σ H E I hf au hg;subst hP hw hK;obtain⟨xs,hq,hx⟩:=hg;obtain⟨⟨old,he⟩,hit⟩:=au;obtain⟨its,rv,p,hz⟩:=I.list hq;have hl:=rv.length;obtain⟨g0,g1,g2,g3,g4,g5⟩:=hf it (by simp);exact wpAny_pyNext_enum_end (I.ok.hd hc) he hit p.isList (by simp;lia) λh' he'=>⟨rfl,I.turned (t':=s.toks) (λb o hb e=>he' b o hb e) g0 g1 g3 g4 g5⟩
 self:=λA i s Q E au h=>let ⟨old,he⟩:=au.1;wpAny_pyIter_enum he h
section
def iEnum0 (K:Fg) (tl:TE):TI:=λσ H R=>tl σ H λx H1=>∃a,x=.ref a/\(∃xs,SqL K H1 a xs)/\R (ItE0 K a) H1
section
variable {X:Cx}
theorem zbdx {elts:List Expr}{k:Nat}{tpos p pos:Pos}{l:Expr}{tl:TE}(hg:Gl X "enumerate")(hm:X.mg "enumerate"=none)(hl:PE X l tl)
  (he:starEach [l] X.env=[(false,eval l X.env)]:=by rfl):PI X (.Tuple elts k tpos) (.Call (.Name "enumerate" p) [l] [] pos) (iEnum0 X.K tl):=by
 intro aU s σ H R I h;refine xjz (zsf I hg hm PyProof.Rows.boot_enumerate ?_);refine xhc (e:=l) (rest:=[]) ?_ he rfl;rw[he];refine xig (thn (hl aU s σ H _ I h) λv s1 hq0=>?_);obtain⟨x,H1,I1,r1,q1⟩:=hq0;refine xkj ?_;obtain⟨a,rfl,⟨xs,hq⟩,q⟩:=q1;cases r1;obtain⟨its,rv,pp,hz⟩:=I1.list hq;refine call_enumerate_list pp.isList λh' he' hit hsz hk=>?_
 refine wpAny_pyIter_enum he' ?_;have I3:=I1.kept (h':=h') (t':=s1.toks) hk;refine⟨s1.heap.objs.size+1,[s1.heap.objs.size+1,s1.heap.objs.size],_,_,H1,rfl,I3,ztc _ s1.heap.objs.size a (Nat.succ_ne_self _),⟨⟨_,he'⟩,hit⟩,λb hb=>?_,q⟩;have hb':s1.heap.objs.size<=b:=by
  have hb2:b=s1.heap.objs.size+1\/b=s1.heap.objs.size:=by simpa using hb
  cases hb2 with
  | inl z=>exact z ▸ xkt _
  | inr z=>exact z ▸ xbf _
 exact I1.fpOk hb' (I1.hok.fresh hb')
end
end
section
end
section
end
end L2
namespace Dd
open PySem L2 PyProof.Rows
section
end
section
end
end Dd
namespace L2
open PySem PySem.Spec PyProof.Rows
end L2
namespace Dd
open PySem L2 PyProof.Rows
section
end
end Dd
namespace L2
open PySem PySem.Spec PyProof.Rows
section
end
end L2
namespace Dd
open PySem L2 PyProof.Rows
end Dd
namespace L2
open PySem PySem.Spec PyProof.Rows
end L2
namespace Dd
open PySem L2 PyProof.Rows
section
end
end Dd
namespace L2
open PySem PySem.Spec PyProof.Rows
def rSetD (_K:Fg):V->List V->Hp->VK->Prop:=λx vs H Q=>∃(a:Addr) (k:Key) (v:V) (kvs:List (Key×V)),x=.ref a/\vs=[kV k,v]/\H a=some (.dK kvs)/\kvs.length < sizeLine /\
 (∀u,valV kvs k=some u->Q u H)/\(valV kvs k=none->Q v (upd H a (.dK (putK kvs k v))))
theorem zbju  : MtR X "dict.setdefault" (rSetD X.K):=by
 intro aU s σ H x xs v us Q I rx rv h;obtain⟨a,k,d,kvs,rfl,rfl,e,hl,q1,q2⟩:=h;cases rx;obtain⟨u,r,rfl,ry,rd⟩:=vals2 rv;obtain⟨z,hd,vs,rel,dd⟩:=zbsx I.hok e;have hz:vs.length<=sizeLine:=by rw[← rel.length];exact z
 have hl2:(putK kvs k d).length<=sizeLine:=by have:=zgo kvs k d;lia
 refine call_meetsIn xlv dd.typeIs F.entry_dict_setdefault (F.args_dict_setdefault_3 _ _ _) (kt_meets_setdefault (mixKind X.prog X.w) a (zbfg ry) hd r) ⟨vs,dd,hz,λw hw=>?_,λhn h' dd' hs=>?_⟩
 ·have rr:=rel.val k;rw[hw] at rr;cases hk:valV kvs k with
  | none=>rw[hk] at rr;exact rr.elim
  | some y=>rw[hk] at rr;exact⟨y,H,I.tok _,rr,q1 y hk⟩
 ·have hk:valV kvs k=none:=by
   have rr:=rel.val k;rw[hn] at rr;cases hk:valV kvs k with
   | none=>rfl
   | some y=>rw[hk] at rr;exact rr.elim
  have he:∃q,h'.get? a=some q:=let ⟨q,_,_,hq,_⟩:=dd';⟨q,hq⟩
  exact⟨d,_,zqv I (by rw[e];exact True.intro) hs he (zbld hl2 hd (rel.put k rd) dd'),rd,q2 hk⟩
end L2
namespace Dd
open PySem L2 PyProof.Rows
noncomputable def valI (kvs:List (Int×D)) (k:Int):Option D:=(kvs.find? λkv=>decide (kv.1=k)).map (·.2)
noncomputable def putI (kvs:List (Int×D)) (k:Int) (v:D):List (Int×D) :=
 if(kvs.any λkv=>decide (kv.1=k))=true then kvs.map (λkv=>if kv.1=k then(kv.1,v) else kv) else kvs++[(k,v)]
theorem inlI :(Sum.inl a:Key)=Sum.inl b↔a=b:=⟨λe=>Sum.inl.inj e,λe=>by rw[e]⟩
section
section
variable {K:Fg}{ρ:Loc}{H:Hp}{kvs:List (Int×D)}{vs:List (Key×V)}
theorem KiAt.val (h:KiAt K ρ H kvs vs)(k:Int):match valI kvs k with
  | some d=>∃v,valV vs (Sum.inl k)=some v/\At K ρ H d v
  | none=>valV vs (Sum.inl k)=none:=by
 induction h with
 | nil=>rfl
 | @cons p q ps qs h t ih =>
  obtain⟨h1,h2⟩:=h;by_cases e:p.1=k
  ·have e1:valI (p::ps) k=some p.2:=by simp[valI,xdp,e]
   rw[e1];exact⟨q.2,zig (by rw[h1,e]),h2⟩
  ·have e1:valI (p::ps) k=valI ps k:=by simp[valI,xdp,e]
   have e2:valV (q::qs) (Sum.inl k)=valV qs (Sum.inl k):=zih (by rw[h1,inlI];exact e);rw[e1,e2];exact ih
theorem KiAt.keys (h:KiAt K ρ H kvs vs):vs.map (·.1)=(kvs.map (·.1)).map Sum.inl:=by
 induction h with
 | nil=>rfl
 | @cons p q ps qs h t ih=>rw[xbu,xbu,xbu,ih,h.1]
theorem KiAt.put (h:KiAt K ρ H kvs vs)(k:Int){d:D}{v:V}(a:At K ρ H d v):KiAt K ρ H (putI kvs k d) (putK vs (Sum.inl k) v):=by
 have any:∀{kvs:List (Int×D)} {vs:List (Key×V)},KiAt K ρ H kvs vs->(kvs.any λkv=>decide (kv.1=k))=(vs.any λkv=>decide (kv.1=Sum.inl k)):=λh=>by
  induction h with
  | nil=>rfl
  | @cons p q ps qs h t ih =>
   rw[xhp,xhp,ih,h.1]
   congr 1
   simp only[inlI]
 unfold putI putK;rw[any h];split
 ·rename_i hh;clear hh any
  induction h with
  | nil=>exact .nil
  | @cons p q ps qs h t ih =>
   refine .cons ?_ ih;obtain⟨h1,h2⟩:=h;dsimp only;by_cases e:p.1=k
   ·rw[if_pos e,if_pos (by rw[h1,e])];exact⟨h1,a⟩
   ·rw[if_neg e,if_neg (by rw[h1,inlI];exact e)];exact⟨h1,h2⟩
 ·have app:∀{kvs:List (Int×D)} {vs:List (Key×V)},KiAt K ρ H kvs vs->KiAt K ρ H (kvs++[(k,d)]) (vs++[(Sum.inl k,v)]):=λh=>by
   induction h with
   | nil=>exact .cons ⟨rfl,a⟩ .nil
   | cons h t ih=>exact .cons h ih
  exact app h
theorem KiAt.length (h:KiAt K ρ H kvs vs):kvs.length=vs.length:=xid h
end
section
variable {H:Hp}{vs:List (Key×V)}
theorem zqj {p:Addr}(g:H p=some (.dK vs)):∀ob u,H p≠some (.frz ob u):=λob u z=>by rw[g] at z;cases z
end
end
def eDNewI:SE:=λ_ au=>.ok (.ref au.length) (au++[.dI []])
def eSetDI (f:SE) (g:SA):SE:=λσ au=>(f σ au).bind λx st1=>match x with
 | .ref n=>match st1[n]? with
  | some (.dI _)=>(g σ st1).bind λys st2=>match ys,st2[n]? with
   | [.int k,d],some (.dI kvs)=>if kvs.length < sizeLine then(match valI kvs k with
    | some v=>.ok v st2
    | none=>.ok d (st2.set n (.dI (putI kvs k d)))) else .stuck
   | _,_=>.stuck
  | _=>.stuck
 | _=>.stuck
section
theorem zwc:JE X (.Dict [] [] pos) eDNewI:=⟨zfr zbed λτ H Q hq0 p hp=>by
 obtain⟨ρ,σ,au,v,st',a,rp,e,q⟩:=hq0;cases e;obtain⟨E,R⟩:=rp.alloc hp (x:=.dI []) (o:=.dK []) λE=>⟨[],zq,.nil⟩
 exact q _ _ _ E R (.last rp.len.symm)⟩
section
variable {X:Cx}{o:Expr}{e:Expr}{a:Expr}{es:List Expr}{f:SE}{ga:SA}{apos:Pos}{cpos:Pos}
theorem zbge (ho:JE X o f)(ha:JA X (e::es) ga)(hbase:attributeBase o "setdefault" X.env (eval o X.env)=eval o X.env:=by rfl)
  (hfew:((backTo cpos (starEach (e::es) X.env)).all (λx=>!x.1)&&(backToKw cpos (keywordEach [] X.env)).all (λx=>x.1.isSome)
   && decide ((e::es).length+([]:List Keyword).length+(if([]:List Keyword).isEmpty then 0 else 1) < 30))=true:=by rfl)
  (hline:(apos.endLine==cpos.line)=true:=by rfl)(hs:starEach (e::es) X.env=(false,eval e X.env)::starEach es X.env:=by rfl)(hplain:(backTo cpos (starEach es X.env)).any (·.1)=false:=by rfl) :
  JE X (.Call (.Attribute o "setdefault" apos) (e::es) [] cpos) (eSetDI f ga):=⟨zfr (zbos xke xlv F.type_dict_setdefault zbju ho.out ha.out hbase hfew hline hs hplain) λτ H Q hq0=>by
 obtain⟨ρ,σ,au,v,st',a,rp,e,q⟩:=hq0;obtain⟨x,st1,e1,e⟩:=za e;refine⟨ρ,σ,au,x,st1,a,rp,e1,λρ1 H1 u x1 rp1 a1=>?_⟩;split at e
 ·rename_i n;split at e
  ·rename_i kv0 h0;obtain⟨p,rfl,hp,vs0,g0,_⟩:=zeb rp1 a1 h0 (by intro z;cases z);obtain⟨ys,st2,e2,e⟩:=za e;refine⟨.inr (.inr (.inl ⟨rfl,.inl ⟨_,g0⟩⟩)),ρ1,σ,st1,ys,st2,a.ext x1,rp1,e2,λρ2 H2 ws x2 rp2 a2=>?_⟩;split at e
   ·rename_i k d kvs hn;split at e
    ·rename_i hlen;obtain⟨w,w2,rfl,a3,a4⟩:=a2.two;cases a3;obtain⟨p',ep,hp2,vs,g1,g2⟩:=zeb rp2 (a1.ext x2) hn (by intro z;cases z);cases ep;have g4:=g2.val k;refine⟨p,Sum.inl k,w2,vs,rfl,rfl,g1,by rw[← g2.length];exact hlen,λy hy=>?_,λhy=>?_⟩
     ·split at e
      ·rename_i z hv;cases e;rw[hv] at g4;obtain⟨vv,g5,g6⟩:=g4;rw[g5] at hy;cases hy;exact q _ _ _ (x1.trans x2) rp2 g6
      ·rename_i hv;rw[hv] at g4;rw[show valV vs (Sum.inl k)=none from g4] at hy;cases hy
     ·split at e
      ·rename_i z hv;rw[hv] at g4;obtain⟨vv,g5,g6⟩:=g4;rw[g5] at hy;cases hy
      ·rename_i hv;cases e;have E:Ext ρ2 H2 ρ2 (upd H2 p (.dK (putK vs (Sum.inl k) w2))):=Ext.wr hp2 (zqj g1) _;exact q _ _ _ ((x1.trans x2).trans E) (rp2.wr hp2 (zqj g1) ⟨_,zq,(g2.put k a4).ext E⟩) (a4.ext E)
    ·cases e
   ·cases e
  ·cases e
 ·cases e⟩
end
end
end Dd
namespace L2
open PySem PySem.Spec PyProof.Rows
def rBits:V->List V->Hp->VK->Prop:=λx vs H Q=>∃i:Int,x=.int i/\vs=[]/\Q (.int (Builtin.Int.intBits i)) H
theorem zbjv  : MtR X "int.bit_length" rBits:=by
 intro aU s σ H x xs v us Q I rx rv h;obtain⟨i,rfl,rfl,q⟩:=h;obtain⟨t,rfl⟩:=rx;cases rv;exact call_int_bit_length ⟨.int _,H,I.tok _,⟨_,rfl⟩,q⟩
end L2
namespace Dd
open PySem L2 PyProof.Rows
def eBits (f:SE):SE:=λσ au=>(f σ au).bind λx st1=>match x with
 | .int i=>.ok (.int (Builtin.Int.intBits i)) st1
 | _=>.stuck
theorem zqx    {apos cpos:Pos}(ho:JE X o f)(hbase:attributeBase o "bit_length" X.env (eval o X.env)=eval o X.env:=by rfl)(hline:(apos.endLine==cpos.line)=true:=by rfl):JE X (.Call (.Attribute o "bit_length" apos) [] [] cpos) (eBits f) :=
 ⟨zfr (zbor F.plainAttrs_int F.slot_int_bit_length F.type_int_bit_length zbjv ho.out hbase hline) λτ H Q hq0=>by
  obtain⟨ρ,σ,au,v,st',a,rp,e,q⟩:=hq0;obtain⟨x,st1,e1,e⟩:=za e;refine⟨ρ,σ,au,x,st1,a,rp,e1,λρ1 H1 u x1 rp1 a1=>?_⟩;split at e
  ·rename_i i;cases e;cases a1;exact⟨rfl,i,rfl,rfl,q _ _ _ x1 rp1 (.int _)⟩
  ·cases e⟩
end Dd
namespace L2
open PySem PySem.Spec PyProof.Rows
section
end
end L2
namespace Dd
open PySem PySem.Spec PyProof.Rows L2
section
end
end Dd
namespace L2
open PySem PySem.Spec PyProof.Rows PySem.W
section
end
end L2
namespace Dd
open PySem PySem.Spec PyProof.Rows L2
def iEn0 (f:SE):SA:=λσ au=>(f σ au).bind λx st1=>match x with
 | .lst xs=>.ok (numF 0 xs) st1
 | _=>.stuck
def intsOf (au:Store) (x:D):Option (List (Int×D)):=match x with
 | .ref n=>match au[n]? with
  | some (.dI kvs)=>some kvs
  | _=>none
 | _=>none
def oIIn (neg:Bool) (y x:D) (au:Store):Res D:=match y,intsOf au x with
 | .int k,some kvs=>.ok (.bl (if neg then !(valI kvs k).isSome else(valI kvs k).isSome)) au
 | _,_=>.stuck
def oIGet (x y:D) (au:Store):Res D:=match intsOf au x,y with
 | some kvs,.int k=>match valI kvs k with
  | some v=>.ok v au
  | none=>.stuck
 | _,_=>.stuck
def sIPut (f g h:SE):SS:=λσ au=>(h σ au).bind λv st1=>(f σ st1).bind λx st2=>(g σ st2).bind λy st3=>match x,y with
 | .ref n,.int k=>match st3[n]? with
  | some (.dI kvs)=>if kvs.length < sizeLine then .ok (.nx σ) (st3.set n (.dI (putI kvs k v))) else .stuck
  | _=>.stuck
 | _,_=>.stuck
theorem zvk {K:Fg}{ρ:Loc}{au:Store}{H:Hp}(rp:Rep K ρ au H){d:D}{u w:V}{kvs:List (Int×D)}{k:Int}(a:At K ρ H d u)(b:At K ρ H (.int k) w)(e:intsOf au d=some kvs) :
  ∃p o,u=.ref p/\DGet H p w o/\o.isSome=(valI kvs k).isSome/\∀z,valI kvs k=some z->∃v,o=some v/\At K ρ H z v:=by
 unfold intsOf at e;split at e
 ·split at e
  ·rename_i n kv hn;cases e;obtain⟨p,rfl,hp,vs,g1,g2⟩:=zeb rp a hn (by intro z;cases z);cases b;have g3:=g2.val k;refine⟨p,valV vs (Sum.inl k),rfl,.inl ⟨vs,Sum.inl k,.inl g1,rfl,rfl⟩,?_,λz hz=>?_⟩
   ·split at g3
    ·rename_i hv;obtain⟨v,e,_⟩:=g3;rw[hv,e]
     rfl
    ·rename_i hv;rw[hv,g3]
     rfl
   ·rw[hz] at g3;exact g3
  ·cases e
 ·cases e
section
theorem zhx (hg:Gl X "enumerate")(hm:X.mg "enumerate"=none)(hl:JE X l f)(he:starEach [l] X.env=[(false,eval l X.env)]:=by rfl) :
  JI X (.Tuple elts n tpos) (.Call (.Name "enumerate" p) [l] [] pos) (iEn0 f):=⟨zbit (zbdx hg hm hl.out he) λτ H R hq0=>by
 obtain⟨ρ,σ,au,xs,st',a,rp,e,q⟩:=hq0;obtain⟨x,st1,e1,e⟩:=za e;refine⟨ρ,σ,au,x,st1,a,rp,e1,λρ1 H1 u x1 rp1 a1=>?_⟩;split at e
 ·rename_i ys;cases e;cases a1 with
  | lst h1 h2 h3 =>
   refine⟨_,rfl,⟨_,SqL.of h1⟩,q _ _ _ x1 rp1 ⟨λρ2 H2 x2 i d e=>?_,λρ2 H2 x2 i h=>?_⟩⟩
   ·obtain⟨z,hz,rfl⟩:=zgm e;obtain⟨v,hv,av⟩:=h3.get hz;refine⟨⟨_,v,SqL.of (x2.out h1 h2).1,hv⟩,λy H3 hy=>?_⟩;obtain⟨p,hp,rfl,hH⟩:=hy;rw[hH _ _ (SqL.of (x2.out h1 h2).1) hv];refine⟨Ext.new hp _,λau rp2=>⟨rp2.new hp _,?_⟩⟩;rw[xhe];exact At.newT rp2 hp (.cons (.int _) (.cons (av.extG x2) .nil))
   ·rw[zck] at h;exact⟨_,SqL.of (x2.out h1 h2).1,by rw[h3.length];exact h⟩
 ·cases e⟩
section
variable {h:SE}
theorem zbkm {neg:Bool}{x y v:D}{au st':Store}(e:oIIn neg y x au=.ok v st'):∃k kvs,y=.int k/\intsOf au x=some kvs/\v=.bl (if neg then !(valI kvs k).isSome else(valI kvs k).isSome)/\st'=au:=by
 unfold oIIn at e;split at e
 ·rename_i k kvs h;cases e;exact⟨k,kvs,rfl,h,rfl,rfl⟩
 ·cases e
end
theorem zbjc {X:Cx}(hu:X.A.units+1 < cLine)(hi:JE X i g)(ho:JE X o f):JC X .In i o (aS (oIIn false) g f):=⟨λaU s σ H Q I hq=>by
 refine zbjd hu hi.out ho.out aU s σ H Q I ?_;obtain⟨ρ,σ',au,v,st',a,rp,e,q⟩:=hq;obtain⟨x,st1,e1,e⟩:=za e;obtain⟨y,st2,e2,e⟩:=za e;refine⟨ρ,σ',au,x,st1,a,rp,e1,λρ1 H1 u x1 rp1 a1=>?_⟩;refine⟨ρ1,σ',st1,y,st2,a.ext x1,rp1,e2,λρ2 H2 w x2 rp2 a2=>?_⟩;obtain⟨k,kvs,rfl,h2,rfl,rfl⟩:=zbkm e;obtain⟨p,oo,rfl,g1,g2,_⟩:=zvk rp2 a2 (a1.ext x2) h2;refine⟨p,oo,rfl,g1,?_⟩;rw[g2]
 exact q _ _ _ (x1.trans x2) rp2 (.bl _)⟩
theorem ztz {X:Cx}(hu:X.A.units+1 < cLine)(hi:JE X i g)(ho:JE X o f):JC X .NotIn i o (aS (oIIn true) g f):=⟨λaU s σ H Q I hq=>by
 refine zys hu hi.out ho.out aU s σ H Q I ?_;obtain⟨ρ,σ',au,v,st',a,rp,e,q⟩:=hq;obtain⟨x,st1,e1,e⟩:=za e;obtain⟨y,st2,e2,e⟩:=za e;refine⟨ρ,σ',au,x,st1,a,rp,e1,λρ1 H1 u x1 rp1 a1=>?_⟩;refine⟨ρ1,σ',st1,y,st2,a.ext x1,rp1,e2,λρ2 H2 w x2 rp2 a2=>?_⟩;obtain⟨k,kvs,rfl,h2,rfl,rfl⟩:=zbkm e;obtain⟨p,oo,rfl,g1,g2,_⟩:=zvk rp2 a2 (a1.ext x2) h2;refine⟨p,oo,rfl,g1,?_⟩;rw[g2]
 exact q _ _ _ (x1.trans x2) rp2 (.bl _)⟩
section
variable {X:Cx}{a:Expr}{o:Expr}{i:Expr}{e:Expr}{f:SE}{g:SE}{p:Pos}{pos:Pos}
theorem zwb (hu:X.A.units+1 < cLine)(ho:JE X o f)(hi:JE X i g)(hs:NoSl i):JE X (.Subscript o i pos) (aS oIGet f g):=⟨zfr (zbbc hu ho.out hi.out hs) λτ H Q hq0=>by
 obtain⟨ρ,σ,au,v,st',a,rp,e,q⟩:=hq0;obtain⟨x,st1,e1,e⟩:=za e;obtain⟨y,st2,e2,e⟩:=za e;refine⟨ρ,σ,au,x,st1,a,rp,e1,λρ1 H1 u x1 rp1 a1=>?_⟩;refine⟨ρ1,σ,st1,y,st2,a.ext x1,rp1,e2,λρ2 H2 w x2 rp2 a2=>?_⟩;unfold oIGet at e;split at e
 ·rename_i h1;split at e
  ·rename_i z hv;cases e;obtain⟨p,oo,rfl,g1,_,g2⟩:=zvk rp2 (a1.ext x2) a2 h1;obtain⟨vv,rfl,g3⟩:=g2 _ hv;exact⟨p,vv,rfl,g1,q _ _ _ (x1.trans x2) rp2 g3⟩
  ·cases e
 ·cases e⟩
end
section
variable {X:Cx}{a:Expr}{o:Expr}{i:Expr}{e:Expr}{value:Expr}{f:SE}{g:SE}{h:SE}{n:Nat}{p:Pos}{pos:Pos}{pos':Pos}
theorem zbfy (hu:X.A.units+1 < cLine)(ho:JE X o f)(hi:JE X i g)(hv:JE X value h)(hs:swapsWith value (some (.Subscript o i pos')) pos.line X.env=pure false) :
  JS X (.Assign [.Subscript o i pos'] value pos) (sIPut f g h):=⟨ztv (zbaz hu ho.out hi.out hv.out hs) λE τ H hq0=>by
 obtain⟨ρ,σ,au,fl,st',a,rp,e,q⟩:=hq0;obtain⟨v,st1,e1,e⟩:=za e;obtain⟨x,st2,e2,e⟩:=za e;obtain⟨y,st3,e3,e⟩:=za e;refine⟨ρ,σ,au,v,st1,a,rp,e1,λρ1 H1 u x1 rp1 a1=>?_⟩;refine⟨ρ1,σ,st1,x,st2,a.ext x1,rp1,e2,λρ2 H2 w x2 rp2 a2=>?_⟩;refine⟨ρ2,σ,st2,y,st3,a.ext (x1.trans x2),rp2,e3,λρ3 H3 t x3 rp3 a3=>?_⟩;split at e
 ·split at e
  ·rename_i n k _ _ kvs hn;split at e
   ·rename_i hl;cases e;obtain⟨p,rfl,hp,vs,g1,g2⟩:=zeb rp3 (a2.ext x3) hn (by intro z;cases z);cases a3;have E:Ext ρ3 H3 ρ3 (upd H3 p (.dK (putK vs (Sum.inl k) u))):=Ext.wr hp (zqj g1) _;refine⟨p,_,rfl,DPut.k (k:=Sum.inl k) g1 (by rw[← g2.length];exact hl),?_⟩;exact q _ _ _ ((x1.trans (x2.trans x3)).trans E) (rp3.wr hp (zqj g1) ⟨_,zq,(g2.put k (a1.ext (x2.trans x3))).ext E⟩) (a.ext ((x1.trans (x2.trans x3)).trans E))
   ·cases e
  ·cases e
 ·cases e⟩
end
end
end Dd
namespace Dd
open PySem L2 PyProof.Rows
section
theorem sv {X:Cx}(hN:X.N[i]?=some x:=by rfl)(hv:Vis X.env.scope x:=by first | exact Or.inl rfl | exact Or.inr (Or.inl rfl) | exact Or.inr (Or.inr rfl))(hd:(x==("__debug__" : Str))=false:=by decide)
 (hcd:(x==("__classdict__" : Str))=false:=by decide):JE X (.Name x pos) (aA i):=zjd (pv i hN hv hd hcd)
theorem scl {X:Cx}       (c:CalD X.prog X.w X.K X.mg X.base x k ps F)(hr:Room j X.A)(ha:JA X (e::es) g)(hn:∀ds au v st',F ds au=.ok v st'->ds.length=ps.length:=by exact λ_ _ _ _ h=>zbca h)(hk:k<=j:=by first | decide | lia)(hg:Gl X x:=by rfl)
 (hdb:(x==("__debug__" : Str))=false:=by decide)(he:starEach (e::es) X.env=(false,eval e X.env)::starEach es X.env:=by rfl)(hpl:(backTo pos (starEach es X.env)).any (·.1)=false:=by rfl):JE X (.Call (.Name x p) (e::es) [] pos) (aE F g):=zbcl c hn (hr.mono hk) hg ha hdb he hpl
theorem sst {X:Cx}{pos:Pos}   (hN:X.N.Nodup)(he:JE X e f)(hi:X.N[i]?=some x:=by rfl)(hx:L2.Loc X.env.scope x:=by first | exact Or.inl rfl | exact Or.inr rfl)(hs:swapsWith e (some (.Name x pos')) pos.line X.env=pure false:=by rfl)(hf:X.fn x=true\/X.env.scope.names.lookup x=some .local:=by first | exact .inl rfl | exact .inr rfl | assumption) :
 JS X (.Assign [.Name x pos'] e pos) (aF i f):=zbcf hN hi hx he hs hf
theorem sgn {X:Cx}(hN:X.N.Nodup)(hi:X.N[i]?=some x:=by rfl)(hx:L2.Loc X.env.scope x:=by first | exact Or.inl rfl | exact Or.inr rfl)(hf:X.fn x=true\/X.env.scope.names.lookup x=some .local:=by first | exact .inl rfl | exact .inr rfl | assumption):JG X (.Name x pos) (gN i):=zbt hN hi hx hf
theorem sfr      (hi:JI X tg iter it)(hg:JG X tg bd)(hb:JB X body b)(hp:PassesOwn (model X.prog X.w) X.A X.env X.xe:=by exact xhn)(hc:X.calm=true:=by rfl)(hs:∀x,foldedSetIterable iter X.env x=pure x:=by intro _;rfl) :
 JS X (.For tg iter body [] pos) (sFor it bd b):=zbcg hp hc hi hg hb hs
theorem scp    (N:List Str)    (hi:JI X (.Name x p) iter it)(he:∀cl C fp s H,JE (cxC X N scope cl C fp s H) elt f)(nd:N.Nodup:=by decide +kernel)(S:CompScope X N k is scope:=by exact zfd (by rfl))(hcalm:X.calm=true:=by rfl)
  (hg:N.Nodup->∀cl C fp s H,JG (cxC X N scope cl C fp s H) (.Name x p) (gN 0):=by exact λnd _ _ _ _ _=>sgn nd)(hs:∀x,foldedSetIterable iter X.env x=pure x:=by intro _;rfl):JE X (.ListComp elt [⟨.Name x p,iter,[],0⟩] scope pos) (aG it k is (gN 0) aI f) :=
 zga hcalm hi (hg nd) (λ_ _ _ _ _=>zpc) he S hs
theorem sa1   (ha:JE X a f)(hp:plainE a=true:=by rfl):JA X [a] (aB f aC):=zg ha zbm hp
theorem sa2   (ha:JE X a f)(hb:JE X b g)(hp:plainE a=true:=by rfl)(hq:plainE b=true:=by rfl):JA X [a,b] (aB f (aB g aC)):=zg ha (sa1 hb hq) hp
theorem sad   (ha:JE X a f)(hb:JE X b g):JE X (.BinOp a .Add b pos) (aS aM f g):=zcf zug zbeo ha hb
theorem ssb   (ha:JE X a f)(hb:JE X b g):JE X (.BinOp a .Sub b pos) (aS oSub f g):=zcf zbek (zfa λ_ _ _ _=>.int _) ha hb
end
structure En where
 P:Program
 w:World
 K:Fg
 mg:Str->Option Value
 base:Heap
 h:Heap
 X:K.In h
 G:h.Ns mainGlobals mg
abbrev Cl (Y:En) (x:Str) (k:Nat) (ps:List Str) (F:DFn):Prop:=CalD Y.P Y.w Y.K Y.mg Y.base x k ps F
section
section
variable {Y:En}{x:Str}{au:Stmt}{ps:List Str}{k:Nat}{b:SS}
theorem cmk (N:List Str)(T:TopF Y.K x au)(hbody:N.Nodup->∀(f:Addr) (cdv:Value) (A:Around) (outer:List Env) (s:Shared) (H:Hp) (E:XK),Room k (A.deeper (envOfC x (defScope au) s.heap.objs.size f cdv))->JB (cxOf CX0 Y.P Y.w Y.K Y.mg Y.base N x (defScope au) f cdv A outer s H E).nox (defBody au) b)
 (S:FnScope N ps (defScope au):=by exact⟨rfl,rfl,rfl,by decide +kernel,rfl,by decide +kernel,by decide +kernel⟩)
 (bd:∀(kV doc pm:Value) (an:Option Addr) (cdv ct:Value) (us:List Value),us.length=ps.length->bindArgs (W.fnOf x x (defArgs au) (defBody au) (defScope au) .none kV doc pm an cdv ct) ⟨us,[]⟩=pure (ps.zip us):=by
  first | exact λ_ _ _ _ _ _ us hl=>len1 us hl λ_=>rfl | exact λ_ _ _ _ _ _ us hl=>len2 us hl λ_ _=>rfl | exact λ_ _ _ _ _ _ us hl=>len3 us hl λ_ _ _=>rfl | exact λ_ _ _ _ _ _ us hl=>len4 us hl λ_ _ _ _=>rfl | exact λ_ _ _ _ _ _ us hl=>len0 us hl rfl) :
 Cl Y x (k+1) ps (fnD N.length ps.length b):=zwp T Y.X Y.G S bd (hbody S.nd)
end
end
end Dd
namespace L2
open PySem PySem.Spec PyProof.Rows PySem.W
def rSortDI:List V->Hp->VK->Prop:=λxs H Q=>∃(a:Addr) (ns:List Int) (kvs:List (Key×V)),xs=[.ref a]/\Rd H a (.dK kvs)/\kvs.map (·.1)=ns.map Sum.inl/\ns.length<=10000 /\
 ∀(q:Addr) (ms:List Int),H q=none->ms.Perm ns->ms.Pairwise (·<=·)->Q (.ref q) (upd H q (.lst (ms.map V.int)))
theorem zhf {X:Cx}(hc:X.calm=true):CallR X (.builtin "sorted") rSortDI:=by
 intro aU s σ H xs us Q I r h;obtain⟨a,ns,kvs,rfl,e,ek,few,q⟩:=h;obtain⟨u,rfl,ru⟩:=vals1 r;cases ru;obtain⟨z,hd,vs,rel,dd⟩:=zbcj I.hok e;obtain⟨ep,da⟩:∃ep,s.heap.DictAt (mixKind X.prog X.w) a vs ep:=by
  obtain⟨o,es,ep,h⟩:=dd;exact⟨ep,o,es,h⟩
 have kk:vs.map (·.1)=ns.map Sum.inl:=rel.keys.symm.trans ek;have hln:vs.length=ns.length:=by have:=congrArg List.length kk;simpa using this
 refine Srt.zgh (W.kdl_dict (prog:=X.prog) (w:=X.w) (knd:=mixKind X.prog X.w) (kvs:=vs) (ep:=ep) hd) (I.ok.hd hc) da (small10000 (by lia)) λxs hl hv=>?_
 have rv:Vals (ns.map V.int) xs:=by
  have:∀(l:List Int) (ys:List Value) (i:Nat),ns.drop i=l->xs.drop i=ys->l.length=ys.length->Vals (l.map V.int) ys:=λl=>by
   induction l with
   | nil=>intro ys i _ _ h;cases ys with
    | nil=>exact .nil
    | cons y ys=>cases h
   | cons n l ih =>
    intro ys i h1 h2 h3;cases ys with
    | nil=>cases h3
    | cons y ys =>
     have g1:ns[i]?=some n:=by rw[← List.head?_drop,h1];rfl
     have g2:xs[i]?=some y:=by rw[← List.head?_drop,h2];rfl
     have g3:(vs.map (·.1))[i]?=some (Sum.inl n):=by rw[kk,xco,g1];rfl
     obtain⟨k,x,hi,hk⟩:=hv i y g2;rw[xco,hi] at g3;have e1:k=Sum.inl n:=xcv g3;subst e1;refine .cons ?_ (ih ys (i+1) (by rw[← List.tail_drop,h1];rfl) (by rw[← List.tail_drop,h2];rfl) (by simpa using h3));rcases zbf (show keyIs (Sum.inl n) y=true from hk) with⟨j,t,e1,rfl⟩ | ⟨j,t,e1,rfl⟩
     ·cases e1;exact⟨t,rfl⟩
     ·cases e1
  exact this ns xs 0 rfl rfl (by lia)
 refine⟨Srt.rank (ones ns),zwk rv,λh2 g tk keep=>zww (by lia) rv,λp b g tk c p1 p2 keep ne eg=>?_⟩;have lv:xs.length=ns.length:=by lia
 rw[lv] at p1 p2;obtain⟨ms,q1,q2,q3⟩:=zuc rv p1 p2;refine⟨.ref b,_,I.laidN (o:=.lst (ms.map V.int)) keep ne ⟨?_,_,c,q3,by simpa using eg⟩,rfl,q b ms (I.away ne) q1 q2⟩;rw[xbb,q1.length_eq];exact small10000 (by lia)
end L2
namespace Dd
open PySem L2 PyProof.Rows
def bSortDI:List D->Store->Res D:=λxs au=>match xs with
 | [.ref n]=>match au[n]? with
  | some (.dI kvs)=>if kvs.length<=10000 then .ok (.lst ((sortI (kvs.map (·.1))).map .int)) au else .stuck
  | _=>.stuck
 | _=>.stuck
theorem zrg {K:Fg}:CaD K bSortDI rSortDI:=λρ H au xs us z st' Q rp aa e q=>by
 unfold bSortDI at e;split at e
 ·split at e
  ·rename_i n kvs hn;split at e
   ·rename_i few;cases e;obtain⟨u,rfl,a⟩:=aa.one;obtain⟨p,rfl,hp,vs,g1,g2⟩:=zeb rp a hn (by intro z;cases z);refine⟨p,kvs.map (·.1),vs,rfl,.inl g1,g2.keys,by simpa using few,λt ms ht hp hs=>?_⟩;have e2:ms=sortI (kvs.map (·.1)):=zth hp hs;subst e2;exact q _ _ _ (Ext.new ht _) (rp.new ht _) (.newL rp ht (zgq _))
   ·cases e
  ·cases e
 ·cases e
end Dd
namespace Dd
open PySem L2
def zew:DFn:=fnD 5 2 (aD (aF 2 (eC (.int 0)))
 (aD (sIf (eB (aS oLtT (aA 1) (aE bLen (aB (aA 0) aC)))) (aF 2 (aE bAbs (aB (aS oIx (aA 0) (aA 1)) aC))) sNx)
 (aD (aF 3 (aS aM (aS oMulI (eC (.int 7919)) (aA 1)) (eC (.int 17))))
 (aD (sFor (iR1 (aB (aE bMin2 (aB (aE bLen (aB (aA 0) aC)) (aB (eC (.int 60)) aC))) aC)) (gN 4) (aF 3 (aS oMod (aS aM (aS aM (aS oMulI (aA 3) (eC (.int 48271))) (aS oMod (aS oIx (aA 0) (aA 4)) (eC (.int 2147483647)))) (aA 4)) (eC (.int 2147483629)))))
 (aD (sIf (eB (aS oLtT (aA 2) (aS oPow (eC (.int 10)) (eC (.int 18))))) (aF 2 (eC (.int 0))) sNx)
 (sRet (eLstM (aB (aA 2) (aB (aA 3) aC)))))))))
def zo:DFn:=fnD 5 2 (aD (sIf (eB (aS oGt (aS oIx (aA 0) (eC (.int 0))) (eC (.int 0)))) (aD (aF 2 (aS oMod (aS oIx (aA 0) (eC (.int 0))) (aA 1)))
 (aD (sSetIx (aA 0) (eC (.int 0)) (aS oFdiv (aS oIx (aA 0) (eC (.int 0))) (aA 1)))
 (sRet (aA 2)))) sNx)
 (aD (aF 3 (eC (.int 0)))
 (aD (aF 4 (eC (.int 1)))
 (aD (sWhile (eB (aS oLtT (aA 4) (aA 1))) (aD (sSetIx (aA 0) (eC (.int 1)) (aS oMod (aS aM (aS oMulI (aS oIx (aA 0) (eC (.int 1))) (eC (.int 48271))) (eC (.int 7919))) (eC (.int 2147483647))))
 (aD (aF 3 (aS aM (aS oMulI (aA 3) (eC (.int 1073741789))) (aS oMod (aS oMulI (aS oFdiv (aS oIx (aA 0) (eC (.int 1))) (eC (.int 8))) (eC (.int 69621))) (eC (.int 1073741789)))))
 (aF 4 (aS oMulI (aA 4) (eC (.int 1073741789)))))))
 (sRet (aS oMod (aA 3) (aA 1)))))))
def zpp:DFn:=fnD 2 2 (sIf (eB (aS (oDIn false) (aA 1) (aA 0))) (sDrop (eDPop (aA 0) (aA 1))) (sDPut (aA 0) (aA 1) (eC (.bl true))))
def zfk:SS:=(sDPut (aA 1) (aA 2) (eNot (eDGet2 (aA 1) (aA 2) (eC (.bl false)))))
def zbn:DFn:=fnD 3 1 (aD (aF 1 eDNew)
 (aD (sFor (aH (aA 0)) (gN 2) zfk)
 (sRet (aE bTuple (aB (aE bSorted (aB (aG (iDict (aA 1)) 1 [1] (gN 0) (eTru (aS oDGet (aA 1) (aA 0))) (aA 0)) aC)) aC)))))
def zcc:DFn:=fnD 1 1 (sRet (eAnd (aE bIsinst (aB (aA 0) (aB (eC (.ty "int")) aC))) (eNot (aE bIsinst (aB (aA 0) (aB (eC (.ty "bool")) aC))))))
def zib:DFn:=fnD 1 1 (sRet (aE (bAny true) (aB (aG (aH (aA 0)) 1 [] (gN 0) aI (aS oEq (aS oMod (aA 0) (eC (.int 2))) (eC (.int 1)))) aC)))
def zcu:DFn:=fnD 1 1 (sRet (aE bTuple (aB (aG (aH (aA 0)) 1 [] (gN 0) (eTru (aE zib (aB (aA 0) aC))) (aE bTuple (aB (aG (aH (aA 0)) 1 [] (gN 0) aI (aS oFdiv (aA 0) (eC (.int 2)))) aC))) aC)))
def zkh:SS:=(aD (sIf (eB (aS oGe (aA 4) (aA 1))) (sDrop (eAppend (aA 3) (aB (aA 4) aC))) sNx)
 (aD (sIf (eB (aS oEq (aA 4) (aA 0))) sBrk sNx)
 (aF 4 (aS oAndI (aS oSub (aA 4) (aA 0)) (aA 0)))))
def zlz:DFn:=fnD 5 3 (aD (aF 3 (eLstM aC))
 (aD (aF 4 (eC (.int 0)))
 (aD (sWhile (eB (aS oLe (aA 4) (aA 2))) zkh)
 (sRet (eFz (aA 3))))))
def zdk:SS:=(sDrop (eAppend (aA 3) (aB (aR (aB (aS aM (aA 4) (aR (aB (aS aM (aA 1) (aA 6)) aC))) (aB (aS oSub (aA 5) (aA 6)) aC))) aC)))
def zdj:SS:=(sFor (aH (aE zlz (aB (aA 1) (aB (aS oSub (aA 5) (aA 2)) (aB (aA 5) aC))))) (gN 6) zdk)
def zbz:DFn:=fnD 7 3 (aD (aF 3 (eLstM aC))
 (aD (sFor (aH (aA 0)) (gT 2 (gsCons (gN 4) (gsCons (gN 5) gsNil))) zdj)
 (sRet (eFz (aA 3)))))
def zcy:SS:=(aD (sAug 3 (oI (λ_ _=>True) λi j=>.int (i - j)) (aA 4))
 (aF 2 (aE zbz (aB (aA 2) (aB (aA 4) (aB (aA 3) aC))))))
def zbu:DFn:=fnD 5 2 (aD (aF 2 (eLst (aB (aR (aB (aR aC) (aB (aA 1) aC))) aC)))
 (aD (aF 3 (aE bSum (aB (aA 0) aC)))
 (aD (sFor (aH (aA 0)) (gN 4) zcy)
 (sRet (aG (aH (aA 2)) 2 [] (gT 2 (gsCons (gN 0) (gsCons (gN 1) gsNil))) aI (aA 0))))))
def zkj:SS:=(sDrop (aE zpp (aB (aA 2) (aB (aA 4) aC))))
def zki:SS:=(sIf (eB (aS oLe (aA 1) (aE bSum (aB (aA 3) aC)))) (sFor (aH (aE zbu (aB (aA 3) (aB (aA 1) aC)))) (gN 4) zkj) sNx)
def zma:DFn:=fnD 5 2 (aD (sIf (bOr (bNot (eTru (aE zcc (aB (aA 1) aC)))) (eB (aS oLtT (aA 1) (eC (.int 0))))) sStuck sNx)
 (aD (aF 2 eDNew)
 (aD (sFor (aH (aA 0)) (gN 3) zki)
 (sRet (aE bTuple (aB (aE bSorted (aB (aA 2) aC)) aC))))))
def zhi:SS:=(sDrop (aE zpp (aB (aA 1) (aB (aA 2) aC))))
def zgd:DFn:=fnD 3 1 (aD (aF 1 eDNew)
 (aD (sFor (aH (aA 0)) (gN 2) zhi)
 (sRet (aE bTuple (aB (aE bSorted (aB (aA 1) aC)) aC)))))
def zdm:SS:=(aD (aF 7 (aE zo (aB (aA 0) (aB (aS aM (aA 3) (eC (.int 1))) aC))))
 (aD (sIf (eB (aS oEq (aA 5) (eC (.int 0)))) (aF 7 (aE (bBest true) (aB (aG (aH (aR (aB (eC (.int 0)) (aB (eC (.int 1)) (aB (eC (.int 3)) (aB (eC (.int 7)) (aB (eC (.int 15)) aC))))))) 1 [7] (gN 0) (eB (aS oLe (aA 0) (aA 1))) (aA 0)) aC))) sNx)
 (aD (sDrop (eAppend (aA 4) (aB (aA 7) aC)))
 (aF 3 (aS oSub (aA 3) (aA 7))))))
def zbg:DFn:=fnD 9 3 (aD (aF 3 (aA 2))
 (aD (aF 4 (eLstM aC))
 (aD (aF 5 (aE zo (aB (aA 0) (aB (eC (.int 3)) aC))))
 (aD (sFor (iR1 (aB (aS oSub (aA 1) (eC (.int 1))) aC)) (gN 6) zdm)
 (aD (sDrop (eAppend (aA 4) (aB (aA 3) aC)))
 (aD (aF 8 (aE zo (aB (aA 0) (aB (aA 1) aC))))
 (sRet (aE bTuple (aB (aS aM (eSl (aA 4) (pSome (aA 8)) pNone) (eSl (aA 4) pNone (pSome (aA 8)))) aC)))))))))
def zdu:DFn:=fnD 4 4 (sRet (aE zbn (aB (aG (iR1 (aB (aE zo (aB (aA 0) (aB (aS aM (aA 3) (eC (.int 1))) aC))) aC)) 1 [0,1,2] (gN 0) aI (aE zbg (aB (aA 1) (aB (aA 2) (aB (aA 3) aC))))) aC)))
def zff:SS:=(sDrop (eExtend (aA 6) (aB (aG (iR1 (aB (aS aM (aE bMin2 (aB (aA 5) (aB (aA 8) aC))) (eC (.int 1))) aC)) 1 [7,8,5] (gN 0) (eB (aS oEq (aS oAndI (aA 3) (aA 0)) (aA 0))) (aR (aB (aS aM (aA 1) (aR (aB (aS aM (aA 3) (aA 0)) aC))) (aB (aS oSub (aA 2) (aA 0)) aC)))) aC)))
def zda:SS:=(aD (aF 6 (eLstM aC))
 (aD (sFor (aH (aA 4)) (gT 2 (gsCons (gN 7) (gsCons (gN 8) gsNil))) zff)
 (aF 4 (eFz (aA 6)))))
def zfe:SS:=(aD (aF 4 (eLst (aB (aR (aB (aR aC) (aB (aA 1) aC))) aC)))
 (aD (sFor (aH (aA 3)) (gN 5) zda)
 (sDrop (eExtend (aA 2) (aB (aG (aH (aA 4)) 2 [] (gT 2 (gsCons (gN 0) (gsCons (gN 1) gsNil))) (eB (aS oEq (aA 1) (eC (.int 0)))) (aA 0)) aC)))))
def zbe:DFn:=fnD 9 2 (aD (aF 2 (eLstM aC))
 (aD (sFor (aH (aA 0)) (gN 3) zfe)
 (sRet (aE zbn (aB (eFz (aA 2)) aC)))))
def zdv:DFn:=fnD 2 2 (aD (sIf (bOr (bNot (eTru (aE bIsinst (aB (aA 1) (aB (eC (.ty "tuple")) aC))))) (eB (aS oNe (aE bLen (aB (aA 1) aC)) (aA 0)))) (sRet (eC (.bl false))) sNx)
 (sRet (aE (bAny true) (aB (aG (aH (aA 1)) 1 [] (gN 0) aI (eAnd (aE zcc (aB (aA 0) aC)) (aS oGe (aA 0) (eC (.int 0))))) aC))))
def zbw:SS:=(aF 2 (aS oFdiv (aS oMulW (aA 2) (aS aM (aA 1) (aA 3))) (aA 3)))
def zbd:DFn:=fnD 4 2 (aD (aF 2 (eC (.int 1)))
 (aD (sFor (iR2 (aB (eC (.int 1)) (aB (aA 0) aC))) (gN 3) zbw)
 (sRet (aA 2))))
def zia:DFn:=fnD 1 1 (sRet (aE bSortSetM (aB (aG (aH (aA 0)) 1 [] (gN 0) aI (aE bSum (aB (aA 0) aC))) aC)))
def zeo:DFn:=fnD 1 1 (sRet (eIf (eB (aS oLe (aA 0) (eC (.int 3)))) (eC (.int 24)) (eC (.int 10))))
def zca:DFn:=fnD 2 2 (sRet (eAnd (aS oLe (aA 1) (aE zeo (aB (aA 0) aC))) (aS oLe (aE zbd (aB (aA 0) (aB (aA 1) aC))) (eC (.int 200)))))
def zex:DFn:=fnD 2 2 (aD (sIf (bNot (eTru (aE zca (aB (aA 0) (aB (aA 1) aC))))) sStuck sNx)
 (sRet (aA 1)))
def zct:DFn:=fnD 3 2 (aD (aF 2 (aE zia (aB (aA 1) aC)))
 (aD (sIf (eB (aS oGt (aE bLen (aB (aA 2) aC)) (eC (.int 1)))) sStuck sNx)
 (sRet (eIf (eTru (aA 2)) (aE zex (aB (aA 0) (aB (aS oIx (aA 2) (eC (.int 0))) aC))) (eC .non)))))
def zbv:DFn->SS:=λfF=>(sDrop (eExtend (aA 2) (aB (aG (aH (aE fF (aB (aS oSub (aA 0) (eC (.int 1))) (aB (aS oSub (aA 1) (aA 3)) aC)))) 1 [3] (gN 0) aI (aS aM (aR (aB (aA 1) aC)) (aA 0))) aC)))
def zi:DFn->DFn:=λfF=>fnD 4 2 (aD (sIf (eB (aS oEq (aA 0) (eC (.int 1)))) (sRet (eLst (aB (aR (aB (aA 1) aC)) aC))) sNx)
 (aD (aF 2 (eLstM aC))
 (aD (sFor (iR1 (aB (aS aM (aA 1) (eC (.int 1))) aC)) (gN 3) (zbv fF))
 (sRet (eFz (aA 2))))))
def zdw:SS:=(aD (sDrop (eAppend (aA 1) (aB (aA 2) aC)))
 (aF 2 (aS oMulI (eC (.int 2)) (aA 2))))
def zci:DFn:=fnD 3 1 (aD (aF 1 (eLstM aC))
 (aD (aF 2 (eC (.int 1)))
 (aD (sWhile (eB (aS oLe (aS oMulI (eC (.int 2)) (aA 2)) (aA 0))) zdw)
 (sRet (eFz (aA 1))))))
def zcs:SS:=(sDrop (eExtend (aA 2) (aB (aG (aH (aE (iterF zi 10) (aB (aA 0) (aB (aS oSub (aA 1) (aA 3)) aC)))) 1 [3] (gN 0) aI (aR (aB (aA 1) (aB (aA 0) aC)))) aC)))
def zbp:DFn:=fnD 4 2 (aD (aF 2 (eLstM aC))
 (aD (sFor (aH (aE zci (aB (aA 1) aC))) (gN 3) zcs)
 (sRet (eFz (aA 2)))))
def zhj:SS:=(aD (aF 3 (aS oIGet (aA 0) (eBits (aA 1))))
 (aD (aF 1 (aS oXorI (aA 1) (aS oIx (aA 3) (eC (.int 0)))))
 (aF 2 (aS oXorI (aA 2) (aS oIx (aA 3) (eC (.int 1)))))))
def zdl:DFn:=fnD 4 2 (aD (aF 2 (eC (.int 0)))
 (aD (sWhile (bAnd (eTru (aA 1)) (eB (aS (oIIn false) (eBits (aA 1)) (aA 0)))) zhj)
 (sRet (aR (aB (aA 1) (aB (aA 2) aC))))))
def zge:SS:=(aF 2 (aS oOrI (aA 2) (aS oShl (eC (.int 1)) (aS oDGet (aA 0) (aA 3)))))
def zcm:DFn:=fnD 4 2 (aD (aF 2 (eC (.int 0)))
 (aD (sFor (aH (aA 1)) (gN 3) zge)
 (sRet (aA 2))))
def zgf:SS:=(aD (aF 7 (aE zdl (aB (aA 3) (aB (aE zcm (aB (aA 2) (aB (aE zma (aB (aR (aB (aA 6) aC)) (aB (aA 5) aC))) aC))) aC))))
 (sIf (eTru (aS oIx (aA 7) (eC (.int 0)))) (aD (sIPut (aA 3) (eBits (aS oIx (aA 7) (eC (.int 0)))) (aR (aB (aS oIx (aA 7) (eC (.int 0))) (aB (aS oOrI (aS oIx (aA 7) (eC (.int 1))) (aS oShl (eC (.int 1)) (aE bLen (aB (aA 4) aC)))) aC))))
 (sDrop (eAppend (aA 4) (aB (aR (aB (aA 5) (aB (aA 6) aC))) aC)))) sNx))
def zcn:DFn:=fnD 8 3 (aD (aF 3 eDNewI)
 (aD (aF 4 (eLstM aC))
 (aD (sFor (aH (aE zbp (aB (aA 0) (aB (aA 1) aC)))) (gT 2 (gsCons (gN 5) (gsCons (gN 6) gsNil))) zgf)
 (sRet (aR (aB (aA 3) (aB (eFz (aA 4)) aC)))))))
def zbo:DFn:=fnD 1 1 (aD (sIf (bOr (bNot (eTru (aE zcc (aB (aA 0) aC)))) (eB (aS oLtT (aA 0) (eC (.int 0))))) sStuck sNx)
 (sRet (aA 0)))
def zgb:SS:=(sDPut (aA 1) (aA 3) (aA 2))
def zcl:DFn:=fnD 4 1 (aD (aF 1 eDNew)
 (aD (sFor (iEn0 (aA 0)) (gT 2 (gsCons (gN 2) (gsCons (gN 3) gsNil))) zgb)
 (sRet (aA 1))))
def zev:DFn:=fnD 4 2 (aD (aF 2 (aE (iterF zi 10) (aB (aA 0) (aB (aE zex (aB (aA 0) (aB (aE zbo (aB (aA 1) aC)) aC))) aC))))
 (aD (aF 3 (aS oIx (aE zcn (aB (aA 0) (aB (aA 1) (aB (aE zcl (aB (aA 2) aC)) aC)))) (eC (.int 0))))
 (sRet (eCompM (iEn0 (aA 2)) 2 [3] (gT 2 (gsCons (gN 0) (gsCons (gN 1) gsNil))) (eB (aS (oIIn true) (aS aM (aA 0) (eC (.int 1))) (aA 2))) (aA 1)))))
def zy:DFn:=fnD 2 2 (sRet (aE bLen (aB (aE zev (aB (aA 0) (aB (aA 1) aC))) aC)))
def zhr:SS:=(aD (aF 0 (aS oAndI (aA 0) (aS oSub (aA 0) (eC (.int 1)))))
 (sAug 1 (oI (λ_ _=>True) λi j=>.int (i+j)) (eC (.int 1))))
def zdt:DFn:=fnD 2 1 (aD (aF 1 (eC (.int 0)))
 (aD (sWhile (eTru (aA 0)) zhr)
 (sRet (aA 1))))
def zjk:SS:=(sIf (eB (aS oEq (aS oMod (aE zdt (aB (aS oAndI (aA 2) (aS oIx (aS oIGet (aA 0) (aA 3)) (eC (.int 0)))) aC)) (eC (.int 2))) (eC (.int 1)))) (aF 2 (aS oOrI (aA 2) (aS oShl (eC (.int 1)) (aS oSub (aA 3) (eC (.int 1)))))) sNx)
def zem:DFn:=fnD 4 2 (aD (aF 2 (aS oShl (eC (.int 1)) (aS oSub (aA 1) (eC (.int 1)))))
 (aD (sFor (aH (aE bSortDI (aB (aA 0) aC))) (gN 3) zjk)
 (sRet (aA 2))))
def zhh:SS:=(sIf (bNot (eTru (aE zdv (aB (aA 0) (aB (aA 3) aC))))) sStuck sNx)
def zhz:DFn:=fnD 4 2 (aD (sFor (iEn0 (aA 1)) (gT 2 (gsCons (gN 2) (gsCons (gN 3) gsNil))) zhh)
 (sRet (aE zgd (aB (aA 1) aC))))
def zen:SS:=(sIf (eTru (aS oAndI (aS oShr (aA 2) (aA 4)) (eC (.int 1)))) (sDrop (eAppend (eSetDI (aA 3) (aB (aS oIx (aA 5) (eC (.int 0))) (aB (eLstM aC) aC))) (aB (aS oIx (aA 5) (eC (.int 1))) aC))) sNx)
def zgc:DFn:=fnD 6 3 (aD (aF 3 eDNewI)
 (aD (sFor (iEn0 (aA 1)) (gT 2 (gsCons (gN 4) (gsCons (gN 5) gsNil))) zen)
 (sRet (aE bTuple (aB (aG (aH (aE bSortDI (aB (aA 3) aC))) 1 [0,3] (gN 0) aI (aR (aB (aA 0) (aB (aE zhz (aB (aA 1) (aB (eFz (aS oIGet (aA 2) (aA 0))) aC))) aC)))) aC)))))
def zgy:DFn:=fnD 8 2 (aD (aF 2 (aE zct (aB (aA 0) (aB (aA 1) aC))))
 (aD (sIf (eB (aS (oIsN false) (aA 2) (eC .non))) (sRet (aR (aB (eC (.str "raised")) (aB (aA 0) (aB (aA 1) (aB (aR aC) aC)))))) sNx)
 (aD (aF 3 (aE (iterF zi 10) (aB (aA 0) (aB (aA 2) aC))))
 (aD (aF 4 (aE zcl (aB (aA 3) aC)))
 (aD (aF 5 (aE zcn (aB (aA 0) (aB (aA 2) (aB (aA 4) aC)))))
 (aD (aF 6 (aE zdl (aB (aS oIx (aA 5) (eC (.int 0))) (aB (aE zcm (aB (aA 4) (aB (aA 1) aC))) aC))))
 (aD (sIf (eB (aS oEq (aS oIx (aA 6) (eC (.int 0))) (eC (.int 0)))) (sRet (aR (aB (eC (.str "raised")) (aB (aA 0) (aB (aA 1) (aB (aE zgc (aB (aA 0) (aB (aS oIx (aA 5) (eC (.int 1))) (aB (aS oIx (aA 6) (eC (.int 1))) aC)))) aC)))))) sNx)
 (aD (aF 7 (aE zem (aB (aS oIx (aA 5) (eC (.int 0))) (aB (eBits (aS oIx (aA 6) (eC (.int 0)))) aC))))
 (sRet (aR (aB (eC (.str "not")) (aB (aA 0) (aB (aA 1) (aB (aE bTuple (aB (aG (aH (aA 3)) 1 [7,4] (gN 0) (eTru (aS oAndI (aS oShr (aA 1) (aS oDGet (aA 2) (aA 0))) (eC (.int 1)))) (aA 0)) aC)) aC))))))))))))))
def zhk:SS:=(sDrop (eAppend (aA 3) (aB (aE bTuple (aB (aG (aH (aE zbg (aB (aA 0) (aB (aA 1) (aB (aS oFdiv (aS oSub (aA 2) (aA 1)) (eC (.int 2))) aC))))) 1 [] (gN 0) aI (aS aM (aS oMulI (eC (.int 2)) (aA 0)) (eC (.int 1)))) aC)) aC)))
def zep:DFn:=fnD 5 3 (aD (aF 3 (aE bListM (aB (aE zdu (aB (aA 0) (aB (aA 1) (aB (aA 2) (aB (eC (.int 3)) aC))))) aC)))
 (aD (sIf (bAnd (eB (aS oEq (aS oMod (aS oSub (aA 2) (aA 1)) (eC (.int 2))) (eC (.int 0)))) (eB (aS oGe (aA 2) (aA 1)))) (sFor (iR1 (aB (aE zo (aB (aA 0) (aB (eC (.int 3)) aC))) aC)) (gN 4) zhk) sNx)
 (sRet (aE zbn (aB (eFz (aA 3)) aC)))))
def zxh:SS:=(aD (aF 2 (aE zew (aB (aA 0) (aB (aA 1) aC))))
 (aD (aF 3 (aS aM (eC (.int 1)) (aE zo (aB (aA 2) (aB (eC (.int 4)) aC)))))
 (aD (aF 4 (aE zo (aB (aA 2) (aB (aS oIx (eLst (aB (eC (.int 8)) (aB (eC (.int 4)) (aB (eC (.int 4)) (aB (eC (.int 2)) aC))))) (aS oSub (aA 3) (eC (.int 1)))) aC))))
 (aD (aF 5 (aE zo (aB (aA 2) (aB (aS oIx (eLst (aB (eC (.int 9)) (aB (eC (.int 13)) (aB (eC (.int 11)) (aB (eC (.int 5)) aC))))) (aS oSub (aA 3) (eC (.int 1)))) aC))))
 (aD (aF 6 (aE zep (aB (aA 2) (aB (aA 3) (aB (aA 5) aC)))))
 (aD (sIf (eB (aS oNe (aE zcu (aB (eSl (aE zbe (aB (aA 6) (aB (aS aM (aS oMulI (eC (.int 2)) (aA 4)) (eC (.int 1))) aC))) pNone (pSome (aS oIx (eLst (aB (eC (.int 40)) (aB (eC (.int 8)) aC))) (aE bInt (aB (aS oGt (aA 3) (eC (.int 3))) aC))))) aC)) (aR aC))) (sRet (eC (.bl false))) sNx)
 (aD (aF 7 (aE zbe (aB (aA 6) (aB (aS oMulI (eC (.int 2)) (aA 4)) aC))))
 (aD (sIf (bAnd (eB (aS oLe (aE bLen (aB (aA 7) aC)) (aS oIx (eLst (aB (eC (.int 40)) (aB (eC (.int 8)) aC))) (aE bInt (aB (aS oGt (aA 3) (eC (.int 3))) aC))))) (eB (aS oNe (aE zcu (aB (aA 7) aC)) (aE zbe (aB (aE zcu (aB (aA 6) aC)) (aB (aA 4) aC)))))) (sRet (eC (.bl false))) sNx)
 (aD (sIf (bAnd (eB (aS oGt (aA 4) (eC (.int 0)))) (bAnd (eB (aS oLe (aE bLen (aB (aA 7) aC)) (aS oIx (eLst (aB (eC (.int 40)) (aB (eC (.int 8)) aC))) (aE bInt (aB (aS oGt (aA 3) (eC (.int 3))) aC))))) (eB (aS oNe (aS oIx (aE zgy (aB (aA 3) (aB (aE zcu (aB (aA 7) aC)) aC))) (eC (.int 0))) (eC (.str "raised")))))) (sRet (eC (.bl false))) sNx)
 (aD (aF 8 (aS aM (eC (.int 1)) (aE zo (aB (aA 2) (aB (eC (.int 5)) aC)))))
 (aD (aF 9 (aE zo (aB (aA 2) (aB (aS oIx (eLst (aB (eC (.int 12)) (aB (eC (.int 12)) (aB (eC (.int 8)) (aB (eC (.int 3)) (aB (eC (.int 1)) aC)))))) (aS oSub (aA 8) (eC (.int 1)))) aC))))
 (sIf (eB (aS oGt (aE zy (aB (aA 8) (aB (aA 9) aC))) (aE zy (aB (aA 8) (aB (aS aM (aS oMulI (eC (.int 2)) (aA 9)) (aA 8)) aC))))) (sRet (eC (.bl false))) sNx))))))))))))
def zbsd:DFn:=fnD 10 1 (aD (sFor (iR1 (aB (aS aM (aE bMin2 (aB (eC (.int 2)) (aB (aE bLen (aB (aA 0) aC)) aC))) (eC (.int 1))) aC)) (gN 1) zxh)
 (sRet (eC (.bl true))))
noncomputable def RngOk (j:Int):Prop:=-(2 ^ 62)<=j/\j < 2 ^ 62
instance (j:Int):Decidable (RngOk j):=by unfold RngOk;infer_instance
theorem rngOk  (h1:-1000000000000<=j)(h2:j<=1000000000000):RngOk j:=⟨by lia,by lia⟩
section
@[simp] theorem eC_v :eC d σ au=.ok d au:=rfl
@[simp] theorem zbqe :aA i σ au=(match σ[i]? with
 | some (some d)=>.ok d au
 | _=>.stuck):=rfl
@[simp] theorem zbuc  :aS g f f' σ au=(f σ au).bind λx st1=>(f' σ st1).bind λy st2=>g x y st2:=rfl
@[simp] theorem zbuy  :eUn g f σ au=(f σ au).bind λx st1=>g x st1:=rfl
@[simp] theorem zbce  :aE g f σ au=(f σ au).bind λxs st1=>g xs st1:=rfl
@[simp] theorem zbsa:aC σ au=.ok [] au:=rfl
@[simp] theorem zxd  :aB f g σ au=(f σ au).bind λx st1=>(g σ st1).bind λxs st2=>.ok (x::xs) st2:=rfl
@[simp] theorem eB_v :eB f σ au=(f σ au).bind λv st1=>(match v with
 | .bl b=>.ok b st1
 | _=>.stuck):=rfl
@[simp] theorem zbkv :eTru f σ au=(f σ au).bind λv st1=>(match tru st1 v with
 | some b=>.ok b st1
 | none=>.stuck):=rfl
@[simp] theorem zbqi :eAnd f f' σ au=(f σ au).bind λv st1=>(match v with
 | .bl true=>f' σ st1
 | .bl false=>.ok (.bl false) st1
 | _=>.stuck):=rfl
@[simp] theorem zbub :eOr f f' σ au=(f σ au).bind λv st1=>(match v with
 | .bl true=>.ok (.bl true) st1
 | .bl false=>f' σ st1
 | _=>.stuck):=rfl
@[simp] theorem zbkw :eNot f σ au=(f σ au).bind λv st1=>(match v with
 | .bl b=>.ok (.bl (!b)) st1
 | _=>.stuck):=rfl
@[simp] theorem zbrw :bAnd f f' σ au=(f σ au).bind λb st1=>if b=true then f' σ st1 else .ok false st1:=rfl
@[simp] theorem zbuu :bOr f f' σ au=(f σ au).bind λb st1=>if b=true then .ok true st1 else f' σ st1:=rfl
@[simp] theorem zbuv :bNot f σ au=(f σ au).bind λb st1=>.ok (!b) st1:=rfl
@[simp] theorem zbut:aI σ au=.ok true au:=rfl
@[simp] theorem zbud  :eIf c f f' σ au=(c σ au).bind λb st1=>if b=true then f σ st1 else f' σ st1:=rfl
@[simp] theorem zbqf :aR g σ au=(g σ au).bind λxs st1=>if xs.length<=sizeLine then .ok (.tup xs) st1 else .stuck:=rfl
@[simp] theorem zbqg :eLst g σ au=(g σ au).bind λxs st1=>if xs.length<=sizeLine then .ok (.lst xs) st1 else .stuck:=rfl
@[simp] theorem zbkx :eLstM g σ au=(g σ au).bind λxs st1=>if xs.length<=sizeLine then .ok (.ref st1.length) (st1++[.lst xs]) else .stuck:=rfl
@[simp] theorem zbqh  :eChain g g' f f' f'' σ au=(f σ au).bind λx st1=>(f' σ st1).bind λy st2=>(g x y st2).bind λz st3=>(match z with
 | .bl true=>(f'' σ st3).bind λw st4=>g' y w st4
 | .bl false=>.ok (.bl false) st3
 | _=>.stuck):=rfl
@[simp] theorem zbsv:eDNew σ au=.ok (.ref au.length) (au++[.dT []]):=rfl
@[simp] theorem zbux:sNx σ au=.ok (.nx σ) au:=rfl
@[simp] theorem zbtj:sBrk σ au=.ok (.brk σ) au:=rfl
@[simp] theorem zbnu :sRet f σ au=(f σ au).bind λv st1=>.ok (.ret v) st1:=rfl
@[simp] theorem zbsh:sRetN σ au=.ok (.ret .non) au:=rfl
@[simp] theorem zbsi :sDrop f σ au=(f σ au).bind λ_ st1=>.ok (.nx σ) st1:=rfl
@[simp] theorem zbtg  :aF i f σ au=(f σ au).bind λv st1=>.ok (.nx (σ.set i (some v))) st1:=rfl
@[simp] theorem zbnt :aD s t σ au=(match s σ au with
 | .ok (.nx σ1) st1=>t σ1 st1
 | r=>r):=rfl
@[simp] theorem zbth  :sIf c s t σ au=(c σ au).bind λb st1=>if b=true then s σ st1 else t σ st1:=rfl
@[simp] theorem zbnw   :sAug i g f σ au=(match σ[i]? with
 | some (some x)=>(f σ au).bind λy st1=>(g x y st1).bind λz st2=>.ok (.nx (σ.set i (some z))) st2
 | _=>.stuck):=rfl
@[simp] theorem zbti   :sFor it bd body σ au=(it σ au).bind λxs st1=>forF bd body xs σ st1:=rfl
@[simp] theorem zbpz :aH f σ au=(f σ au).bind λx st1=>(match seqV x with
 | some xs=>.ok xs st1
 | none=>.stuck):=rfl
@[simp] theorem zbty :iR1 g σ au=(g σ au).bind λxs st1=>(match xs with
 | [.int j]=>if RngOk j then .ok (rng 0 j.toNat) st1 else .stuck
 | _=>.stuck):=rfl
@[simp] theorem zbtx  : iR2 g σ au=(g σ au).bind λxs st1=>(match xs with
  | [.int i,.int j]=>if RngOk i/\RngOk j then .ok (rng i (j - i).toNat) st1 else .stuck
  | _=>.stuck):=by
  show(g σ au).bind _=_
  congr 1
  funext xs st1
  split
  · unfold RngOk
    simp only[and_assoc]
  · rename_i h
    first
      | rfl
      | (split
         · rename_i i j
           exact absurd rfl (h i j)
         · rfl)
@[simp] theorem zbsq :iDict f σ au=(f σ au).bind λx st1=>(match x with
 | .ref n=>(match st1[n]? with
  | some (.dT kvs)=>.ok (aJ (kvs.map (·.1))) (st1.set n (.fT kvs))
  | _=>.stuck)
 | _=>.stuck):=rfl
@[simp] theorem zbcd      :aG it k is bd c f σ au=(it σ au).bind λxs st1=>if xs.length<=sizeLine then(compF bd c f xs (aT k is σ) st1).bind λys st2=>.ok (.lst ys) st2 else .stuck:=rfl
@[simp] theorem zbue :eFz f σ au=(f σ au).bind λx st1=>(match x with
 | .ref n=>(match st1[n]? with
  | some (.lst xs)=>.ok (.lst xs) (st1.set n .dead)
  | _=>.stuck)
 | _=>.stuck):=rfl
@[simp] theorem zbso:pNone σ au=.ok none au:=rfl
@[simp] theorem zbjf :pSome f σ au=(f σ au).bind λv st1=>(match v with
 | .int i=>.ok (some i) st1
 | _=>.stuck):=rfl
@[simp] theorem zbua  {lo:DS->Store->Res (Option Int)}:eSl f lo hi σ au=(f σ au).bind λx st1=>(lo σ st1).bind λl st2=>(hi σ st2).bind λh st3=>(match x with
 | .tup xs=>.ok (.tup (cutD xs l h)) st3
 | x=>match asL st3 x with
  | some xs=>.ok (.lst (cutD xs l h)) st3
  | none=>.stuck):=rfl
@[simp] theorem zbab  :eAppend f g σ au=(f σ au).bind λx st1=>(match x,asL st1 x with
 | .ref n,some _=>(g σ st1).bind λys st2=>(match ys,st2[n]? with
  | [y],some (.lst xs)=>if xs.length < sizeLine then .ok .non (st2.set n (.lst (xs++[y]))) else .stuck
  | _,_=>.stuck)
 | _,_=>.stuck):=rfl
@[simp] theorem zbaa  :eExtend f g σ au=(f σ au).bind λx st1=>(match x,asL st1 x with
 | .ref n,some _=>(g σ st1).bind λys st2=>(match ys,st2[n]? with
  | [y],some (.lst xs)=>(match asL st2 y with
   | some zs=>if xs.length+zs.length<=sizeLine then .ok .non (st2.set n (.lst (xs++zs))) else .stuck
   | none=>.stuck)
  | _,_=>.stuck)
 | _,_=>.stuck):=rfl
@[simp] theorem zbdj :sSetIx f g h σ au=(h σ au).bind λv st1=>(f σ st1).bind λx st2=>(g σ st2).bind λy st3=>(match x,y with
 | .ref n,.int k=>(match st3[n]? with
  | some (.lst xs)=>(match ixN xs.length k with
   | some j=>.ok (.nx σ) (st3.set n (.lst (xs.set j v)))
   | none=>.stuck)
  | _=>.stuck)
 | _,_=>.stuck):=rfl
@[simp] theorem zbfq :eDGet2 f g h σ au=(f σ au).bind λx st1=>(match pairsOf st1 x with
 | some _=>(g σ st1).bind λy st2=>(h σ st2).bind λz st3=>(match pairsOf st3 x,keyOf y with
  | some kvs,some k=>.ok ((valD kvs k).getD z) st3
  | _,_=>.stuck)
 | none=>.stuck):=rfl
@[simp] theorem zbsu :eDPop f g σ au=(f σ au).bind λx st1=>(match pairsOf st1 x with
 | some _=>(g σ st1).bind λy st2=>(match x,keyOf y with
  | .ref n,some k=>(match st2[n]? with
   | some (.dT kvs)=>(match valD kvs k with
    | some v=>.ok v (st2.set n (.dT (dropD kvs k)))
    | none=>.stuck)
   | _=>.stuck)
  | _,_=>.stuck)
 | none=>.stuck):=rfl
@[simp] theorem zbif :sDPut f g h σ au=(h σ au).bind λv st1=>(f σ st1).bind λx st2=>(g σ st2).bind λy st3=>(match x,keyOf y with
 | .ref n,some k=>(match st3[n]? with
  | some (.dT kvs)=>if kvs.length < sizeLine then .ok (.nx σ) (st3.set n (.dT (putD kvs k v))) else .stuck
  | _=>.stuck)
 | _,_=>.stuck):=rfl
theorem zbst   :fnD n np b ds au=if ds.length=np then(match b (ds.map some++List.replicate (n - np) none) au with
 | .ok (.ret v) st'=>.ok v st'
 | .ok (.nx _) st'=>.ok .non st'
 | .exc x st'=>.exc x st'
 | _=>.stuck) else .stuck:=rfl
end
section
@[simp] theorem oI_v  [DecidableRel C] :oI C h (.int i) (.int j) au=if C i j then .ok (h i j) au else .stuck:=rfl
@[simp] theorem zbtw:aM (.int i) (.int j) au=.ok (.int (i+j)) au:=rfl
@[simp] theorem zbpf :aM (.tup a) (.tup b) au=if a.length+b.length<=sizeLine then .ok (.tup (a++b)) au else .stuck:=rfl
@[simp] theorem zbtt:oLtT (.int i) (.int j) au=.ok (.bl (decide (i < j))) au:=rfl
@[simp] theorem zbtr:oNeg (.int i) au=.ok (.int (-i)) au:=rfl
@[simp] theorem zcr (ns:List Int):asInts (ns.map .int)=some ns:=by
 induction ns with
 | nil=>rfl
 | cons n ns ih=>rw[xbu,asInts,ih];rfl
@[simp] theorem zbmr (l:List (List Int)):asRows (aJ l)=some l:=by
 induction l with
 | nil=>rfl
 | cons n ns ih =>
  unfold aJ at ih ⊢;rw[xbu,asRows,zcr,ih];rfl
@[simp] theorem zer (ns:List Int):keyOf (aL ns)=some ns:=zcr ns
theorem zlo:dataOf au (.int i)=some (.int i):=rfl
@[simp] theorem zbtv:oEq (.int i) (.int j) au=.ok (.bl (decide (i=j))) au:=by
 show oEqG false (.int i) (.int j) au=_;unfold oEqG;rw[zlo,zlo];dsimp only;rw[if_pos ⟨rfl,rfl⟩];show Res.ok (D.bl (i==j)) au=_;rw[show(i==j)=decide (i=j) from by rw[xhj];simp]
@[simp] theorem zbts:oNe (.int i) (.int j) au=.ok (.bl (!decide (i=j))) au:=by
 show oEqG true (.int i) (.int j) au=_;unfold oEqG;rw[zlo,zlo];dsimp only;rw[if_pos ⟨rfl,rfl⟩];show Res.ok (D.bl (!(i==j))) au=_;rw[show(i==j)=decide (i=j) from by rw[xhj];simp]
abbrev aK (l:List (List Int)):D:=.tup (aJ l)
theorem small (n:Nat)(h:n<=1000000):n<=sizeLine:=by rw[xhu];lia
theorem smallT (n:Nat)(h:n<=1000000):n < sizeLine:=by rw[xhu];lia
end
theorem zbbz   (I:Nat->DS->Store->Prop):∀(xs:List D) (k:Nat) (σ:DS) (au:Store),I k σ au ->
  (∀i x σ au,xs[i]?=some x->I (k+i) σ au->∃σ1 σ2 st2,bd x σ=some σ1/\body σ1 au=.ok (.nx σ2) st2/\I (k+i+1) σ2 st2)->∃σ' st',forF bd body xs σ au=.ok (.nx σ') st'/\I (k+xs.length) σ' st'
 | [],k,σ,au,h,_=>⟨σ,au,rfl,h⟩
 | x::xs,k,σ,au,h,s=>by
  obtain⟨σ1,σ2,st2,e1,e2,h2⟩:=s 0 x σ au rfl h;obtain⟨σ',st',e3,h3⟩:=zbbz I xs (k+1) σ2 st2 h2 λi y σ au hy hi=>by
   have:=s (i+1) y σ au (by simpa using hy) (by rw[show k+(i+1)=k+1+i by lia];exact hi);rw[show k+(i+1)+1=k+1+i+1 by lia] at this;exact this
  refine⟨σ',st',?_,by rw[xcb,show k+(xs.length+1)=k+1+xs.length by lia];exact h3⟩;unfold forF;rw[e1];dsimp only;rw[e2];exact e3
theorem zbkr   (I:Nat->DS->Store->Prop)    (h0:I 0 σ au)
  (s:∀i x σ au,xs[i]?=some x->I i σ au->∃σ1 σ2 st2,bd x σ=some σ1/\body σ1 au=.ok (.nx σ2) st2/\I (i+1) σ2 st2):∃σ' st',forF bd body xs σ au=.ok (.nx σ') st'/\I xs.length σ' st':=by
 have:=zbbz I xs 0 σ au h0 λi x σ au hx hi=>by
  rw[xdt] at hi ⊢;exact s i x σ au hx hi
 rw[xdt] at this;exact this
theorem zbny {lo:Int}   (h:(rng lo n)[i]?=some x):i < n/\x=.int (lo+i):=zjs h
theorem zdc (lo:Int)(n:Nat):(rng lo n).length=n:=by simp[rng]
theorem zpe    (I:Nat->List D->DS->Store->Prop):∀(xs:List D) (k:Nat) (acc:List D) (σ:DS) (au:Store),I k acc σ au ->
  (∀i x acc σ au,xs[i]?=some x->I (k+i) acc σ au->∃σ1 b st1,bd x σ=some σ1/\c σ1 au=.ok b st1/\((b=false/\I (k+i+1) acc σ1 st1)\/(b=true/\∃y st2,f σ1 st1=.ok y st2/\I (k+i+1) (acc++[y]) σ1 st2))) ->
  ∃ys σ' st',compF bd c f xs σ au=.ok ys st'/\I (k+xs.length) (acc++ys) σ' st'
 | [],k,acc,σ,au,h,_=>⟨[],σ,au,rfl,by rw[xcy];exact h⟩
 | x::xs,k,acc,σ,au,h,s=>by
  have s':∀i y acc σ au,xs[i]?=some y->I (k+1+i) acc σ au->∃σ1 b st1,bd y σ=some σ1/\c σ1 au=.ok b st1/\((b=false/\I (k+1+i+1) acc σ1 st1)\/(b=true/\∃z st2,f σ1 st1=.ok z st2/\I (k+1+i+1) (acc++[z]) σ1 st2)):=λi y acc σ au hy hi=>by
   have:=s (i+1) y acc σ au (by simpa using hy) (by rw[show k+(i+1)=k+1+i by lia];exact hi);rw[show k+(i+1)+1=k+1+i+1 by lia] at this;exact this
  obtain⟨σ1,b,st1,e1,e2,h2⟩:=s 0 x acc σ au rfl h;rcases h2 with⟨rfl,h2⟩ | ⟨rfl,y,st2,e3,h2⟩
  ·obtain⟨ys,σ',st',e4,h3⟩:=zpe I xs (k+1) acc σ1 st1 h2 s';refine⟨ys,σ',st',?_,by rw[xcb,show k+(xs.length+1)=k+1+xs.length by lia];exact h3⟩;unfold compF;rw[e1];dsimp only;rw[e2];exact e4
  ·obtain⟨ys,σ',st',e4,h3⟩:=zpe I xs (k+1) (acc++[y]) σ1 st2 h2 s';refine⟨y::ys,σ',st',?_,by rw[xcb,show k+(xs.length+1)=k+1+xs.length by lia];rw[xck] at h3;exact h3⟩;unfold compF;rw[e1];dsimp only;rw[e2];dsimp only[zdh];rw[if_pos rfl,e3];dsimp only[zdh];rw[e4]
   rfl
theorem zbmb    (I:Nat->List D->DS->Store->Prop)    (h0:I 0 [] σ au)
  (s:∀i x acc σ au,xs[i]?=some x->I i acc σ au->∃σ1 b st1,bd x σ=some σ1/\c σ1 au=.ok b st1/\((b=false/\I (i+1) acc σ1 st1)\/(b=true/\∃y st2,f σ1 st1=.ok y st2/\I (i+1) (acc++[y]) σ1 st2))) :
  ∃ys σ' st',compF bd c f xs σ au=.ok ys st'/\I xs.length ys σ' st':=by
 have:=zpe I xs 0 [] σ au h0 λi x acc σ au hx hi=>by
  rw[xdt] at hi ⊢;exact s i x acc σ au hx hi
 rw[xdt] at this
 simpa using this
theorem zxo   (I:Nat->DS->Store->Prop)(post:DS->Store->Prop)    (h0:I k σ au)(hm:k < wCap)
  (s:∀j σ au,I j σ au->∃b st1,c σ au=.ok b st1/\((b=false/\post σ st1)\/(b=true/\∃i σ2 st2,body σ st1=.ok (.nx σ2) st2/\I i σ2 st2/\i < j))):∃σ' st',sWhile c body σ au=.ok (.nx σ') st'/\post σ' st':=by
 have main:∀n j σ au,I j σ au->j < n->∃σ' st',whileF c body n σ au=.ok (.nx σ') st'/\post σ' st':=by
  intro n
  induction n with
  | zero=>intro j σ au _ h;lia
  | succ n ih =>
   intro j σ au hI hlt;obtain⟨b,st1,e1,h⟩:=s j σ au hI;unfold whileF;rw[e1];dsimp only[zdh];rcases h with⟨rfl,h⟩ | ⟨rfl,i,σ2,st2,e2,h2,h3⟩
   ·exact⟨σ,st1,by rw[if_neg (by decide)],h⟩
   ·obtain⟨σ',st',e3,h4⟩:=ih i σ2 st2 h2 (by lia);refine⟨σ',st',?_,h4⟩;rw[if_pos rfl,e2];exact e3
 exact main wCap k σ au h0 hm
section
@[simp] theorem zbmy:seqOf au (.tup xs)=some xs:=rfl
@[simp] theorem zbmz:seqOf au (.scr xs)=some xs:=rfl
@[simp] theorem zbna:seqOf au (.lst xs)=some xs:=rfl
@[simp] theorem zbnq:seqV (.tup xs)=some xs:=rfl
@[simp] theorem zbns:seqV (.lst xs)=some xs:=rfl
@[simp] theorem zbnr:seqV (.scr xs)=some xs:=rfl
@[simp] theorem zbsz:asL au (.lst xs)=some xs:=rfl
theorem zkg (h:au[n]?=some (.lst xs)):asL au (.ref n)=some xs:=by
 unfold asL;dsimp only;rw[h]
theorem zqc (h:au[n]?=some (.lst xs)):seqOf au (.ref n)=some xs:=zkg h
theorem zup   (h:seqOf au x=some xs)(h2:L2.atI xs i=some d):oIx x (.int i) au=.ok d au:=by
 unfold oIx;rw[h];dsimp only;rw[h2]
@[simp] theorem zbrt:bLen [.tup xs] au=.ok (.int xs.length) au:=rfl
@[simp] theorem zbrv:bLen [.lst xs] au=.ok (.int xs.length) au:=rfl
@[simp] theorem zbru:bLen [.scr xs] au=.ok (.int xs.length) au:=rfl
@[simp] theorem zbuw:bAbs [.int i] au=.ok (.int (if i < 0 then -i else i)) au:=rfl
@[simp] theorem zbuz  :b2I g [.int i,.int j] au=.ok (.int (g i j)) au:=rfl
@[simp] theorem zbrs :bSum [aL ns] au=.ok (.int ns.sum) au:=by
 unfold bSum;simp
@[simp] theorem zbmo:bTuple [.tup xs] au=.ok (.tup xs) au:=rfl
@[simp] theorem zwu:bTuple [.lst xs] au=.ok (.tup xs) au:=rfl
theorem zpm {l:List (List Int)}(h:l.length<=1000000):bSorted [.lst (aJ l)] au=.ok (.lst (aJ (sortR l))) au:=by
 unfold bSorted;simp[h]
theorem zpn  (h:au[n]?=some (.dT kvs))(hl:kvs.length<=1000000):bSorted [.ref n] au=.ok (.lst (aJ (sortR (kvs.map (·.1))))) au:=by
 unfold bSorted asL pairsOf;simp[h,hl]
theorem zbgu {j:Nat}  (h:xs[j]?=some d):L2.atI xs (j:Int)=some d:=zbcr h
theorem zmm {au:Store}  (h:n < au.length):(au.set n o)[n]?=some o:=xdv h
section
variable {au:Store}{n:Nat}
theorem zcg {o:O}(h:au[n]?=some o):n < au.length:=(xbg.mp h).1
end
section
variable {au:Store}{n:Nat}{i:Int}
theorem zbnp {o:O}(h:au[n]?=some o):au.set n o=au:=by
 apply xkn;intro i;by_cases e:i=n
 ·subst e;rw[xdv (zcg h),h]
 ·rw[xcl (xer e)]
end
end
theorem zvt   {ds:List D}   (h:ds.length=np)(e:b (ds.map some++List.replicate (n - np) none) au=.ok (.ret v) st'):fnD n np b ds au=.ok v st':=by
 rw[zbst,if_pos h,e]
theorem zbss   {ds:List D}   (h:ds.length=np)(e:b (ds.map some++List.replicate (n - np) none) au=.ok (.nx σ) st'):fnD n np b ds au=.ok .non st':=by
 rw[zbst,if_pos h,e]
noncomputable abbrev bagO (c x:Int):O:=.lst [.int c,.int x]
def BagAt (au:Store) (n:Nat):Prop:=∃c x:Int,au[n]?=some (bagO c x)/\0<=c/\0<=x
structure Drew (au st':Store) (n:Nat):Prop where
 len:au.length<=st'.length
 keep:∀ i,i < au.length->i≠n->st'[i]?=au[i]?
 bag:BagAt st' n
theorem Drew.trans   (a:Drew au st1 n)(b:Drew st1 st2 n):Drew au st2 n :=
 ⟨xbc a.len b.len,λi h1 h2=>(b.keep i (xbh h1 a.len) h2).trans (a.keep i h1 h2),b.bag⟩
theorem Drew.set {au:Store}{n:Nat}{c x:Int}(h:BagAt au n)(hc:0<=c)(hx:0<=x):Drew au (au.set n (bagO c x)) n:=by
 obtain⟨_,_,e,_⟩:=h;exact⟨by rw[xei];exact xbf _,λi _ h2=>xcl (xer h2),c,x,zmm (zcg e),hc,hx⟩
theorem Drew.more {au:Store}{n:Nat}(h:BagAt au n)(g:Store):Drew au (au++g) n:=by
 obtain⟨c,x,e,h1,h2⟩:=h;exact⟨by rw[xbi];lia,λi h _=>xbw h,c,x,by rw[xbw (zcg e)];exact e,h1,h2⟩
theorem zbhy {au:Store}{n:Nat}{m:Int}(hb:BagAt au n)(h1:1<=m)(h2:m < 2 ^ 1000) :
  ∃r st',zo [.ref n,.int m] au=.ok (.int r) st'/\0<=r/\r < m/\Drew au st' n/\st'.length=au.length:=by
 obtain⟨c,x,hn,hc,hx⟩:=id hb;have s0:∀{c x:Int} {au:Store},au[n]?=some (bagO c x)->oIx (.ref n) (.int 0) au=.ok (.int c) au:=λh=>zup (zqc h) rfl
 have s1:∀{c x:Int} {au:Store},au[n]?=some (bagO c x)->oIx (.ref n) (.int 1) au=.ok (.int x) au:=λh=>zup (zqc h) rfl
 by_cases h0:0 < c
 ·have d1:CDivP c m:=⟨by lia,h2⟩
  have e0:ixN 2 0=some 0:=rfl;refine⟨c % m,au.set n (bagO (c / m) x),zvt rfl ?_,xjq _ (by lia),Int.emod_lt_of_pos _ (by lia),Drew.set hb (Int.ediv_nonneg hc (by lia)) hx,xei⟩;simp[s0 hn,h0,hn,e0,show(0:Int) < m by lia,d1]
 ·have hlen:=zcg hn
  have W:=zxo (c:=eB (aS oLtT (aA 4) (aA 1))) (body:=aD (sSetIx (aA 0) (eC (.int 1)) (aS oMod (aS aM (aS oMulI (aS oIx (aA 0) (eC (.int 1))) (eC (.int 48271))) (eC (.int 7919))) (eC (.int 2147483647))))
   (aD (aF 3 (aS aM (aS oMulI (aA 3) (eC (.int 1073741789))) (aS oMod (aS oMulI (aS oFdiv (aS oIx (aA 0) (eC (.int 1))) (eC (.int 8))) (eC (.int 69621))) (eC (.int 1073741789)))))
   (aF 4 (aS oMulI (aA 4) (eC (.int 1073741789)))))) (k:=1000) (σ:=[some (.ref n),some (.int m),none,some (.int 0),some (.int 1)]) (au:=au)
   (λj σ s=>∃c' x' nn rr:Int,σ=[some (.ref n),some (.int m),none,some (.int nn),some (.int rr)]/\s=au.set n (bagO c' x')/\0<=c'/\0<=x'/\0<=nn/\j<=1000/\2 ^ (1000 - j)<=rr)
   (λσ s=>∃c' x' nn:Int,(∃rr,σ=[some (.ref n),some (.int m),none,some (.int nn),some (.int rr)])/\s=au.set n (bagO c' x')/\0<=c'/\0<=x'/\0<=nn)
   ⟨c,x,0,1,rfl,(zbnp hn).symm,hc,hx,by lia,by lia,by decide⟩ (by decide) (by
    rintro j σ s ⟨c',x',nn,rr,rfl,rfl,a1,a2,a3,a4,a5⟩;have g1:(au.set n (bagO c' x'))[n]?=some (bagO c' x'):=zmm hlen;by_cases hlt:rr < m
    ·have hj:1<=j:=by
      rcases xim j with z | z
      ·subst z;have a5':(2:Int) ^ 1000<=rr:=a5;lia
      ·exact z
     have e1:ixN 2 1=some 1:=rfl;have m1:CMul x' 48271:=.inr ⟨by decide,by decide⟩;have m2:CMul nn 1073741789:=.inr ⟨by decide,by decide⟩;have m3:CMul rr 1073741789:=.inr ⟨by decide,by decide⟩;have g2:∀y:Int,(au.set n (bagO c' y))[n]?=some (bagO c' y):=λy=>zmm hlen
     have m4:∀y:Int,CMul y 69621:=λy=>.inr ⟨by decide,by decide⟩
     have d8:∀y:Int,CDivP y 8:=λy=>⟨by decide,by decide +kernel⟩
     refine⟨true,au.set n (bagO c' x'),by simp[hlt],.inr ⟨rfl,j - 1,_,au.set n (bagO c' ((x' * 48271+7919) % 2147483647)),?_,⟨c',(x' * 48271+7919) % 2147483647,nn * 1073741789+(x' * 48271+7919) % 2147483647 / 8 * 69621 % 1073741789,rr * 1073741789,rfl,rfl,a1,?_,?_,by lia,?_⟩,by lia⟩⟩
     ·simp[s1 g1,g1,e1,m1,m2,m3,m4,d8,s1 (g2 _)]
     ·exact xjq _ (by lia)
     ·have a1:0<=nn * 1073741789:=Int.mul_nonneg a3 (by lia);have a2:=xjq ((x' * 48271+7919) % 2147483647 / 8 * 69621) (show(1073741789:Int)≠0 by lia);lia
     ·have e:(2:Int) ^ (1000 - (j - 1))=2 ^ (1000 - j) * 2:=by
       rw[← Int.pow_succ];congr 1;lia
      rw[e];have hp:(0:Int)<=2 ^ (1000 - j):=Int.pow_nonneg (by decide);lia
    ·exact⟨false,_,by simp[hlt],.inl ⟨rfl,c',x',nn,⟨rr,rfl⟩,rfl,a1,a2,a3⟩⟩)
  obtain⟨σ',st',e,c',x',nn,hσ,hst,k1,k2,k3⟩:=W;obtain⟨rr,rfl⟩:=hσ;subst hst;refine⟨nn % m,au.set n (bagO c' x'),zvt rfl ?_,xjq _ (by lia),Int.emod_lt_of_pos _ (by lia),Drew.set hb k1 k2,xei⟩;simp[s0 hn,h0,e,show(0:Int) < m by lia]
theorem znn {ns:List Int}  (h:j < ns.length):L2.atI (ns.map D.int) (j:Int)=some (.int ns[j]):=zbcr (by rw[xco,xbd h];rfl)
theorem zbrr  {ns:List Int}{i:Nat}(hl:ns.length<=63)(hi:i<=100000):∃c x:Int,0<=c/\0<=x/\zew [.scr (ns.map .int),.int i] au=.ok (.ref au.length) (au++[bagO c x]):=by
 have cell:∃c:Int,0<=c/\sIf (eB (aS oLtT (aA 1) (aE bLen (aB (aA 0) aC)))) (aF 2 (aE bAbs (aB (aS oIx (aA 0) (aA 1)) aC))) sNx [some (.scr (ns.map .int)),some (.int i),some (.int 0),none,none] au
   = .ok (.nx [some (.scr (ns.map .int)),some (.int i),some (.int c),none,none]) au:=by
  by_cases h:i < ns.length
  ·have e:oIx (.scr (ns.map .int)) (.int i) au=.ok (.int ns[i]) au:=zup rfl (znn h);refine⟨if ns[i] < 0 then -ns[i] else ns[i],by split<;>lia,?_⟩;simp[h,e]
  ·exact⟨0,by lia,by simp[h]⟩
 obtain⟨c,hc,ec⟩:=cell;have hmin:(if(60:Int) < (ns.length:Int) then(60:Int) else ns.length).toNat<=ns.length:=by split<;>lia
 have W:=zbkr (bd:=gN 4) (body:=aF 3 (aS oMod (aS aM (aS aM (aS oMulI (aA 3) (eC (.int 48271))) (aS oMod (aS oIx (aA 0) (aA 4)) (eC (.int 2147483647)))) (aA 4)) (eC (.int 2147483629))))
  (xs:=rng 0 (if(60:Int) < (ns.length:Int) then(60:Int) else ns.length).toNat) (σ:=[some (.scr (ns.map .int)),some (.int i),some (.int c),some (.int (7919 * i+17)),none]) (au:=au)
  (λj σ s=>s=au/\∃(mix:Int) (v:Option D),σ=[some (.scr (ns.map .int)),some (.int i),some (.int c),some (.int mix),v]/\0<=mix) ⟨rfl,_,none,rfl,by lia⟩ (by
   rintro j x σ s hx ⟨rfl,mix,v,rfl,hm⟩;obtain⟨hj,rfl⟩:=zbny hx;have hj2:j < ns.length:=by lia
   have e:oIx (.scr (ns.map .int)) (.int (0+j)) s=.ok (.int ns[j]) s:=zup rfl (by rw[xhe];exact znn hj2);rw[xhe] at e;have m1:CMul mix 48271:=.inr ⟨by decide,by decide⟩;refine⟨_,[some (.scr (ns.map .int)),some (.int i),some (.int c),some (.int ((mix * 48271+ns[j] % 2147483647+j) % 2147483629)),some (.int (0+j))],s,rfl,?_,rfl,_,_,rfl,xjq _ (by lia)⟩
   simp[e,m1])
 obtain⟨σ',st',e,rfl,mix,v,rfl,hm⟩:=W;have m0:CMul 7919 (i:Int):=.inl ⟨by decide,by decide⟩;have p0:CPow 10 18:=⟨by decide,by decide,by decide⟩
 have hr:RngOk (if(60:Int) < (ns.length:Int) then(60:Int) else ns.length):=by
  split<;>exact rngOk (by lia) (by lia)
 by_cases hlt:c < 1000000000000000000
 ·refine⟨0,mix,by lia,hm,zvt rfl ?_⟩;have hs:=small 2 (by lia);simp at ec;simp[ec,m0,hr,e,p0,hlt,hs]
 ·refine⟨c,mix,hc,hm,zvt rfl ?_⟩;have hs:=small 2 (by lia);simp at ec;simp[ec,m0,hr,e,p0,hlt,hs]
theorem seqN     (h:s σ au=.ok (.nx σ1) st1)(k:t σ1 st1=r):aD s t σ au=r:=by
 rw[zbnt,h];exact k
noncomputable def aP (ks:List (List Int)) (k:List Int):List (List Int):=if k∈ks then ks.filter (λx=>decide (x≠k)) else ks++[k]
def aN (l:List (List Int)):List (List Int):=l.foldl aP []
theorem zhw  :x∈aP ks k↔(x∈ks/\x≠k)\/(x=k/\k∉ks):=by
 unfold aP;split
 ·rename_i h;simp[xdo,h]
 ·rename_i h;simp only[xbr,xbq];constructor
  ·rintro(z | rfl)
   ·exact .inl ⟨z,λe=>h (e ▸ z)⟩
   ·exact .inr ⟨rfl,h⟩
  ·rintro(⟨z,_⟩ | ⟨z,_⟩)
   ·exact .inl z
   ·exact .inr z
theorem zsi {ks:List (List Int)}  (h:ks.Nodup):(aP ks k).Nodup:=by
 unfold aP;split
 ·exact h.filter _
 ·rename_i hk;rw[xiv];exact⟨h,by simp,λa ha b hb=>by simp at hb;subst hb;exact λe=>hk (e ▸ ha)⟩
theorem zoy (ks:List (List Int))(k:List Int):(aP ks k).length<=ks.length+1:=by
 unfold aP;split
 ·exact xgd (xfh _ _)
 ·simp
theorem zmv:∀(l ks:List (List Int)),ks.Nodup->(l.foldl aP ks).Nodup/\(l.foldl aP ks).length<=ks.length+l.length/\∀x,x∈l.foldl aP ks↔(l.count x+if x∈ks then 1 else 0) % 2=1
 | [],ks,h=>⟨h,by simp,λx=>by by_cases e:x∈ks<;>simp[e]⟩
 | a::l,ks,h=>by
  obtain⟨h1,h2,h3⟩:=zmv l (aP ks a) (zsi h);refine⟨h1,?_,λx=>?_⟩
  ·have:=zoy ks a;rw[xhl,xcb];lia
  ·rw[xhl,h3 x,xjr];by_cases e:x=a
   ·subst e;by_cases k:x∈ks
    ·have q:x∉aP ks x:=by rw[zhw];simp[k]
     simp only[q,k,xes,xeh,xgy]<;>lia
    ·have q:x∈aP ks x:=by rw[zhw];simp[k]
     simp only[q,k,xes,xeh,xgy]<;>lia
   ·have e':(a==x)=false:=by simpa using λz:a=x=>e z.symm
    by_cases k:x∈ks
    ·have q:x∈aP ks a:=by rw[zhw];simp[k,e]
     simp[q,k,e']
    ·have q:x∉aP ks a:=by rw[zhw];simp[k,e]
     simp[q,k,e']
theorem zec (l:List (List Int)):(aN l).Nodup:=(zmv l [] xgx).1
theorem zcj (l:List (List Int)):(aN l).length<=l.length:=by have:=(zmv l [] xgx).2.1;simpa [aN] using this
theorem ziu  :x∈aN l↔l.count x % 2=1:=by have:=(zmv l [] xgx).2.2 x;simpa [aN] using this
theorem zjw {a b:List (List Int)}(h1:a.Nodup)(h2:b.Nodup)(h:∀x,x∈a↔x∈b):a.Perm b:=(xmm h1 h2).mpr h
theorem zro {a:List (List Int)}(h:a.Perm b):sortR a=sortR b:=zko ((zco a).trans h) (zkn a)
def aO (l:List (List Int)):List (List Int):=sortR (aN l)
theorem zul {l m:List (List Int)}(h1:m.Nodup)(h:∀x,x∈m↔l.count x % 2=1):sortR m=aO l:=zro (zjw h1 (zec l) λx=>by rw[h,ziu])
theorem zbem  :x∈aO l↔l.count x % 2=1:=by unfold aO;rw[(zco _).mem_iff,ziu]
theorem zcd   (h:x∈aO l):x∈l:=by
 rw[zbem] at h;rcases xim (l.count x) with z | z
 ·rw[z] at h;cases h
 ·exact xin.mp z
theorem zjx (l:List (List Int)):(aO l).length<=l.length:=by unfold aO;rw[znz];exact zcj l
theorem zfs (l:List (List Int)):(aO l).Nodup:=(zco _).nodup_iff.mpr (zec l)
noncomputable abbrev aQ (ks:List (List Int)):List (List Int×D):=ks.map λk=>(k,.bl true)
theorem zpv  :valD (aQ ks) k=if k∈ks then some (.bl true) else none:=by
 induction ks with
 | nil=>rfl
 | cons a ks ih =>
  unfold valD aQ at ih ⊢;rw[xbu,xdp];by_cases e:a=k
  ·simp[e]
  ·simp only[xby e];rw[ih];simp[xbs,show ¬ k=a from λz=>e z.symm]
theorem zvx  :dropD (aQ ks) k=aQ (ks.filter λx=>decide (x≠k)):=by
 unfold dropD aQ;rw[xli]
 rfl
theorem zym   (h:k∉ks):putD (aQ ks) k (.bl true)=aQ (ks++[k]):=by
 unfold putD;rw[if_neg]
 ·simp[aQ]
 ·simp only[List.any_map,xji,not_exists,not_and];intro x hx e;have:x=k:=by simpa using e
  exact h (this ▸ hx)
theorem zkr    (h:au[n]?=some (.dT kvs)):pairsOf au (.ref n)=some kvs:=by
 unfold pairsOf;dsimp only;rw[h]
theorem zbeh    (h:au[n]?=some (.fT kvs)):pairsOf au (.ref n)=some kvs:=by
 unfold pairsOf;dsimp only;rw[h]
theorem zbjp     (h:pairsOf au (.ref n)=some kvs):oDIn false (aL k) (.ref n) au=.ok (.bl (valD kvs k).isSome) au:=by
 unfold oDIn;rw[zer,h]
 rfl
theorem zuq      (h:pairsOf au (.ref n)=some kvs)(hv:valD kvs k=some v):oDGet (.ref n) (aL k) au=.ok v au:=by
 unfold oDGet;rw[zer,h];dsimp only;rw[hv]
theorem zbks     (h:au[n]?=some (.dT (aQ ks)))(hl:ks.length<=1000000):zpp [.ref n,aL k] au=.ok .non (au.set n (.dT (aQ (aP ks k)))):=by
 have e1:=zbjp (k:=k) (zkr h);rw[zpv] at e1;by_cases hk:k∈ks
 ·refine zbss (σ:=[some (.ref n),some (aL k)]) rfl ?_;rw[if_pos hk] at e1;have e2:valD (aQ ks) k=some (.bl true):=by rw[zpv,if_pos hk]
  have e3:aP ks k=ks.filter λx=>decide (x≠k):=by unfold aP;rw[if_pos hk]
  rw[e3,← zvx];have e4:=zkr h;have e5:=zer k;simp only[aL,aQ] at *
  simp[e1,e4,e5,h,e2]
 ·refine zbss (σ:=[some (.ref n),some (aL k)]) rfl ?_;rw[if_neg hk] at e1;have e3:aP ks k=ks++[k]:=by unfold aP;rw[if_neg hk]
  rw[e3,← zym hk];have e5:=zer k;have e6:(aQ ks).length < sizeLine:=by rw[xbb];exact smallT _ hl
  simp only[aL,aQ] at *
  simp[e1,e5,h,e6];rw[xbb] at e6;exact e6
theorem zby {l:List (List Int)}{i:Nat}  (h:(aJ l)[i]?=some x):∃k,l[i]?=some k/\x=aL k:=by
 unfold aJ at h;rw[xco] at h;cases e:l[i]? with
 | none=>rw[e] at h;cases h
 | some k=>rw[e] at h;exact⟨k,rfl,(xcv h).symm⟩
theorem ze (l:List (List Int)):(aJ l).length=l.length:=xbb _
theorem zh {α:Type}{l:List α}{i:Nat}{k:α}(h:l[i]?=some k):l.take (i+1)=l.take i++[k]:=by
 obtain⟨hi,e⟩:=xbg.mp h;rw[xhv hi,e]
theorem zblv (xs:List D)(k:Nat):cutD xs none (some (k:Int))=xs.take k:=by
 unfold cutD;rw[HT.ztp,HT.zbax,List.drop_zero,Nat.sub_zero];rcases Nat.le_total k xs.length with h | h
 ·rw[xev h]
 ·rw[xje h,xce,xdk h]
theorem zbgm (xs:List D)(k:Nat):cutD xs (some (k:Int)) none=xs.drop k:=by
 unfold cutD;rw[HT.ztp,HT.zbax];rcases Nat.le_total k xs.length with h | h
 ·rw[xev h,xdk (by rw[xgw];exact xbf _)]
 ·rw[xje h,List.drop_length,List.drop_of_length_le h];simp
theorem zlk (l ks:List (List Int))(h:ks.Nodup):(l.foldl aP ks).length<=ks.length+l.length:=(zmv l ks h).2.1
theorem zrn    (h:au[n]?=some (.dT (aQ ks)))(hl:ks.length<=1000000):bSorted [.ref n] au=.ok (.lst (aJ (sortR ks))) au:=by
 rw[zpn h (by rw[xbb];exact hl),xcr]
 congr 2
 exact congrArg (λl=>aJ (sortR l)) (xnk ks)
end Dd
namespace K07
open PySem L2
theorem zej (a b:Nat):Builtin.bitAnd (a:Int) (b:Int)=((a &&& b:Nat):Int):=rfl
theorem zzp (a b:Nat):(a &&& b=b)↔((a / 2 &&& b / 2=b / 2)/\¬ (b % 2=1/\a % 2=0)):=by
 have e1:(a &&& b) / 2=a / 2 &&& b / 2:=xlj;have e2:(a &&& b) % 2=(a % 2) * (b % 2):=by
  have q:=@Nat.and_mod_two_eq_one a b;rcases xdx a with h | h<;>rcases xdx b with h' | h'<;>rw[h,h'] at q ⊢<;>lia
 constructor
 ·intro h;refine⟨by rw[← e1,h],?_⟩;rintro⟨h1,h2⟩;rw[h,h1,h2] at e2;lia
 ·rintro⟨h1,h2⟩;rw[← e1] at h1;have h3:(a &&& b) % 2=b % 2:=by
   rw[e2];rcases xdx a with h | h<;>rcases xdx b with h' | h'<;>simp[h,h']
   exact h2 ⟨h',h⟩
  lia
end K07
namespace K23
open PySem L2 K07
end K23
namespace Dd
open PySem L2 K07 K23
theorem zgp  :zcc [.int i] au=.ok (.bl true) au:=rfl
noncomputable def slowAt (r:List Int) (p:Nat):Prop:=∃a b:Int,r[p]?=some a/\r[p+1]?=some b/\a < 2 * b
instance (r:List Int) (p:Nat):Decidable (slowAt r p) :=
 match h1:r[p]?,h2:r[p+1]? with
 | some a,some b=>if h:a < 2 * b then .isTrue ⟨a,b,h1,h2,h⟩ else .isFalse λ⟨x,y,e1,e2,e3⟩=>by rw[h1] at e1;rw[h2] at e2;cases e1;cases e2;exact h e3
 | none,_=>.isFalse λ⟨x,y,e1,_⟩=>by rw[h1] at e1;cases e1
 | some _,none=>.isFalse λ⟨x,y,_,e2,_⟩=>by rw[h2] at e2;cases e2
theorem zblx (r:List Int)(k:Nat):cutD (r.map .int) none (some (k:Int))=(r.take k).map .int:=by rw[zblv,List.map_take]
theorem zbak (r:List Int)(k:Nat):cutD (r.map .int) (some (k:Int)) none=(r.drop k).map .int:=by rw[zbgm,List.map_drop]
structure CntG (f:Nat->D) (kvs:List (List Int×D)) (l:List (List Int)):Prop where
 nd:(kvs.map (·.1)).Nodup
 mem:∀k,k∈kvs.map (·.1)↔k∈l
 val:∀p∈kvs,p.2=f (l.count p.1)
 len:kvs.length<=l.length
theorem CntG.nil (f:Nat->D):CntG f [] []:=⟨xgx,λk=>by simp,λp h=>(by cases h),by simp⟩
theorem CntG.at    (h:CntG f kvs l)(k:List Int):valD kvs k=if k∈l then some (f (l.count k)) else none:=by
 have gen:∀kvs:List (List Int×D),(∀p∈kvs,p.2=f (l.count p.1))->valD kvs k=if k∈kvs.map (·.1) then some (f (l.count k)) else none:=by
  intro kvs
  induction kvs with
  | nil=>intro _;rfl
  | cons a kvs ih =>
   intro hv;have ih:=ih λp hp=>hv p (xbm _ hp)
   unfold valD at ih ⊢;rw[xdp];by_cases e:a.1=k
   ·have:=hv a xbp;simp only[e,xgm,Option.map_some,xbu,xbs,true_or,xes];rw[this,e]
   ·simp only[xby e];rw[ih];simp only[xbu,xbs,show ¬ k=a.1 from λz=>e z.symm,false_or]
 rw[gen kvs h.val];simp only[h.mem]
theorem CntG.put    (h:CntG f kvs l)(k:List Int):CntG f (putD kvs k (f (l.count k+1))) (l++[k]):=by
 have any:(kvs.any λkv=>decide (kv.1=k))=decide (k∈l):=by
  rw[xhj,xmv,← h.mem,xji,xbk];constructor
  ·rintro⟨x,hx,e⟩;exact⟨x,hx,by simpa using e⟩
  ·rintro⟨p,hp,e⟩;exact⟨p,hp,by simpa using e⟩
 unfold putD;rw[any];by_cases hk:k∈l
 ·rw[if_pos (by simpa using hk)];have keys:(kvs.map λkv=>if kv.1=k then(kv.1,f (l.count k+1)) else kv).map (·.1)=kvs.map (·.1):=by
   rw[xcr]
   congr 1
   funext p
   dsimp only[Function.comp];split<;>rfl
  refine⟨by rw[keys];exact h.nd,λx=>?_,λp hp=>?_,?_⟩
  ·rw[keys,h.mem,xbr,xbq];exact⟨.inl,λz=>z.elim id λe=>e ▸ hk⟩
  ·obtain⟨q,hq,rfl⟩:=xbk.mp hp;have:=h.val q hq;by_cases e:q.1=k
   ·rw[if_pos e];dsimp only;rw[e,xgo];simp
   ·rw[if_neg e,this,xgo];have:List.count q.1 [k]=0:=by rw[xio];simpa using e
    rw[this];rfl
  ·rw[xbb,xbi];have:=h.len;lia
 ·rw[if_neg (by simpa using hk)];refine⟨?_,λx=>?_,λp hp=>?_,?_⟩
  ·rw[xdr,xiv];refine⟨h.nd,by simp,λa ha b hb=>?_⟩;simp at hb;subst hb;exact λe=>hk ((h.mem _).mp (e ▸ ha))
  ·rw[xdr,xbr,h.mem,xbr];simp
  ·rcases xbr.mp hp with hp | hp
   ·have e1:=h.val p hp;have e2:p.1≠k:=λe=>hk ((h.mem _).mp (e ▸ xbk.mpr ⟨p,hp,rfl⟩))
    rw[e1,xgo];have:List.count p.1 [k]=0:=by rw[xio];simpa using e2
    rw[this];rfl
   ·simp at hp;subst hp;rw[xgo,xio.mpr hk];simp
  ·rw[xbi,xbi];have:=h.len;simp;exact this
noncomputable def oddB (n:Nat):D:=.bl (decide (n % 2=1))
theorem zzd (n:Nat):oddB (n+1)=.bl (!decide (n % 2=1)):=by
 unfold oddB
 congr 1
 by_cases h:n % 2=1
 ·rw[xbv h,xby (by lia)];rfl
 ·rw[xby h,xbv (by lia)];rfl
theorem zsg    (hx:seqV x=some (aJ l))(hl:l.length<=1000000)(ho:(aN l).length<=1000000):∃g,zbn [x] au=.ok (aK (aO l)) (au++g):=by
 have W:=zbkr (bd:=gN 2) (body:=zfk) (xs:=aJ l) (σ:=[some x,some (.ref au.length),none]) (au:=au++[.dT []])
  (λi σ s=>∃(v:Option D) (kvs:List (List Int×D)),σ=[some x,some (.ref au.length),v]/\s=au++[.dT kvs]/\CntG oddB kvs (l.take i)) ⟨none,[],rfl,rfl,CntG.nil _⟩ (by
   rintro i y σ s hy ⟨v,kvs,rfl,rfl,hc⟩;obtain⟨k,hk,rfl⟩:=zby hy;have hc':=hc.put k;have hn:(au++[O.dT kvs])[au.length]?=some (.dT kvs):=by simp
   have e2:(valD kvs k).getD (.bl false)=.bl (decide ((l.take i).count k % 2=1)):=by
    rw[hc.at];split
    ·rfl
    ·rename_i z;rw[xio.mpr z];rfl
   have e3:=zer k;have e4:=zkr hn;have e5:kvs.length < sizeLine:=by
    have h1:=hc.len;have h2:(l.take i).length<=l.length:=by rw[xcu];exact xfu _ _
    exact smallT _ (by lia)
   refine⟨[some x,some (.ref au.length),some (aL k)],[some x,some (.ref au.length),some (aL k)],au++[.dT (putD kvs k (oddB ((l.take i).count k+1)))],rfl,?_,some (aL k),_,rfl,rfl,by rw[zh hk];exact hc'⟩;rw[zzd];unfold zfk;simp only[aL] at *
   simp only[zbif,zbkw,zbfq,zbqe,eC_v,xkg,List.getElem?_cons_zero,zdh,e4,e3,e2,hn,e5,xes]
   simp)
 obtain⟨σ',st',e,v,kvs,rfl,rfl,hc⟩:=W;rw[ze,xce] at hc;have V:=zbmb (bd:=gN 0) (c:=eTru (aS oDGet (aA 1) (aA 0))) (f:=aA 0) (xs:=aJ (kvs.map (·.1))) (σ:=[none,some (.ref au.length)]) (au:=au++[.fT kvs])
  (λi acc σ s=>s=au++[.fT kvs]/\(∃w:Option D,σ=[w,some (.ref au.length)])/\acc=aJ (((kvs.map (·.1)).take i).filter λk=>decide (l.count k % 2=1))) ⟨rfl,⟨none,rfl⟩,rfl⟩ (by
   rintro i y acc σ s hy ⟨rfl,⟨w,rfl⟩,rfl⟩;obtain⟨k,hk,rfl⟩:=zby hy;have hn:(au++[O.fT kvs])[au.length]?=some (.fT kvs):=by simp
   have hkl:k∈l:=(hc.mem k).mp (xbz hk);have e2:valD kvs k=some (oddB (l.count k)):=by rw[hc.at,if_pos hkl]
   have e3:oDGet (.ref au.length) (aL k) (au++[O.fT kvs])=.ok (oddB (l.count k)) _:=zuq (zbeh hn) e2;refine⟨[some (aL k),some (.ref au.length)],decide (l.count k % 2=1),au++[.fT kvs],rfl,?_,?_⟩
   ·rw[zbkv];show((oDGet (.ref au.length) (aL k) (au++[O.fT kvs])).bind _)=_;rw[e3]
    rfl
   ·by_cases ho:l.count k % 2=1
    ·refine .inr ⟨xbv ho,aL k,_,rfl,rfl,⟨_,rfl⟩,?_⟩;rw[zh hk,xfj];simp[ho,aJ]
    ·refine .inl ⟨xby ho,rfl,⟨_,rfl⟩,?_⟩;rw[zh hk,xfj]
     simp[ho,aJ])
 obtain⟨ys,σ2,st2,e2,rfl,⟨w,rfl⟩,rfl⟩:=V;rw[ze,xce] at e2;refine⟨[.fT kvs],zvt rfl ?_⟩;have nd:((kvs.map (·.1)).filter λk=>decide (l.count k % 2=1)).Nodup:=hc.nd.filter _;have mm:∀k,k∈((kvs.map (·.1)).filter λk=>decide (l.count k % 2=1))↔l.count k % 2=1:=λk=>by
  rw[xdo,hc.mem,xmv];refine⟨λh=>h.2,λh=>⟨?_,h⟩⟩;rcases xim (l.count k) with z | z
  ·rw[z] at h;cases h
  ·exact xin.mp z
 have e5:sortR ((kvs.map (·.1)).filter λk=>decide (l.count k % 2=1))=aO l:=zul nd mm;have few:((kvs.map (·.1)).filter λk=>decide (l.count k % 2=1)).length<=1000000:=by
  have p:=zjw nd (zec l) λk=>by rw[mm,ziu]
  rw[p.length_eq];exact ho
 have e6:=zpm (au:=au++[.fT kvs]) few;rw[e5] at e6;have hlen:(aJ (kvs.map (·.1))).length<=sizeLine:=by
  rw[ze,xbb];exact small _ (by have:=hc.len;lia)
 refine seqN (σ1:=[some x,some (.ref au.length),none]) (st1:=au++[.dT []]) (by simp) ?_;refine seqN (σ1:=[some x,some (.ref au.length),v]) (st1:=au++[.dT kvs]) (by simp[hx,e]) ?_;have e7:aG (iDict (aA 1)) 1 [1] (gN 0) (eTru (aS oDGet (aA 1) (aA 0))) (aA 0) [some x,some (.ref au.length),v] (au++[.dT kvs])=.ok (.lst (aJ ((kvs.map (·.1)).filter λk=>decide (l.count k % 2=1)))) (au++[.fT kvs]):=by
  rw[zbcd];have e8:iDict (aA 1) [some x,some (.ref au.length),v] (au++[.dT kvs])=.ok (aJ (kvs.map (·.1))) (au++[.fT kvs]):=by
   simp
  rw[e8,zdh,if_pos hlen];show(compF _ _ _ _ [none,some (.ref au.length)] _).bind _=_;rw[e2]
  rfl
 rw[zbnu,zbce,zxd,zbce,zxd,e7];simp only[zdh,zbsa,e6,zwu]
theorem zble  (h0:0 < j)(h1:j<=1000):CDivP i j:=⟨h0,xma h1 (by decide +kernel)⟩
theorem rngN  (h1:-10000<=j)(h2:j<=10000):RngOk j:=rngOk (by lia) (by lia)
theorem Drew.over    (d:Drew au s n)(hn:n < au.length)(hk:au.length<=k):Drew au (s.set k o) n:=by
 obtain⟨c,x,eb,c0,x0⟩:=d.bag;exact⟨by rw[xei];exact d.len,λi h1 h2=>by rw[xcl (by lia)];exact d.keep i h1 h2,c,x,by rw[xcl (by lia)];exact eb,c0,x0⟩
end Dd
namespace Dd
open PySem L2
def WP {α:Type} (r:Res α) (Q:α->Store->Prop):Prop:=match r with
 | .ok a au=>Q a au
 | _=>False
theorem WP.get {α:Type}{r:Res α}{Q:α->Store->Prop}(h:WP r Q):∃a au,r=.ok a au/\Q a au:=by
 cases r with
 | ok a au=>exact⟨a,au,rfl,h⟩
 | exc x au=>exact h.elim
 | stuck=>exact h.elim
theorem WP.of {α:Type}{r:Res α}{Q:α->Store->Prop}{a:α}  (e:r=.ok a au)(h:Q a au):WP r Q:=by rw[e];exact h
theorem WP.mono {α:Type}{r:Res α}{Q Q':α->Store->Prop}(h:WP r Q)(k:∀a au,Q a au->Q' a au):WP r Q':=by
 obtain⟨a,au,rfl,q⟩:=h.get;exact k a au q
theorem zf {α β:Type}{r:Res α}{f:α->Store->Res β}{Q:β->Store->Prop}:WP (r.bind f) Q=WP r (λa au=>WP (f a au) Q):=by
 cases r<;>rfl
def seqK (t:SS) (Q:Fl->Store->Prop):Fl->Store->Prop:=λfl au=>match fl with
 | .nx σ=>WP (t σ au) Q
 | fl=>Q fl au
theorem zbhj    :WP (aD s t σ au) Q=WP (s σ au) (seqK t Q):=by
 unfold aD;cases s σ au with
 | ok fl st1=>cases fl<;>rfl
 | exc x au=>rfl
 | stuck=>rfl
theorem zxl {α:Type}  [Decidable c]{a b:Res α}{Q:α->Store->Prop}:WP (if c then a else b) Q=if c then WP a Q else WP b Q:=by
 split<;>rfl
theorem znr {α:Type}  [Decidable c]{a:Res α}{Q:α->Store->Prop}:WP (if c then a else .stuck) Q=(c/\WP a Q):=by
 by_cases h:c
 ·rw[if_pos h];simp[h]
 ·rw[if_neg h];simp[h,WP]
def retK (Q:D->Store->Prop):Fl->Store->Prop:=λfl au=>match fl with
 | .ret v=>Q v au
 | .nx _=>Q .non au
 | _=>False
theorem zdz {n np:Nat}{b:SS}{ds:List D}{au:Store}{Q:D->Store->Prop}(h:ds.length=np)(k:WP (b (ds.map some++List.replicate (n - np) none) au) (retK Q)):WP (fnD n np b ds au) Q:=by
 obtain⟨fl,st',e,q⟩:=k.get;unfold fnD;rw[if_pos h,e];cases fl<;>first | exact q | exact q.elim
def bK (Q:Bool->Store->Prop):D->Store->Prop:=λv au=>match v with
 | .bl b=>Q b au
 | _=>False
def gK (bd:SG) (Q:Fl->Store->Prop) (σ:DS):D->Store->Prop:=λv au=>match bd v σ with
 | some σ1=>Q (.nx σ1) au
 | none=>False
theorem W:(∀{α:Type} {a:α} {au:Store} {Q:α->Store->Prop},WP (.ok a au) Q=Q a au)
 /\ (∀{s t:SS} {σ:DS} {au:Store} {Q:Fl->Store->Prop},WP (aD s t σ au) Q=WP (s σ au) (seqK t Q))
 /\ (∀{t:SS} {σ:DS} {au:Store} {Q:Fl->Store->Prop},seqK t Q (.nx σ) au=WP (t σ au) Q)
 /\ (∀{t:SS} {v:D} {au:Store} {Q:Fl->Store->Prop},seqK t Q (.ret v) au=Q (.ret v) au)
 /\ (∀{t:SS} {σ:DS} {au:Store} {Q:Fl->Store->Prop},seqK t Q (.brk σ) au=Q (.brk σ) au)
 /\ (∀{t:SS} {σ:DS} {au:Store} {Q:Fl->Store->Prop},seqK t Q (.ct σ) au=Q (.ct σ) au)
 /\ (∀{v:D} {au:Store} {Q:D->Store->Prop},retK Q (.ret v) au=Q v au)
 /\ (∀{σ:DS} {au:Store} {Q:D->Store->Prop},retK Q (.nx σ) au=Q .non au)
 /\ (∀{b:Bool} {au:Store} {Q:Bool->Store->Prop},bK Q (.bl b) au=Q b au)
 /\ (∀{d:D} {σ:DS} {au:Store} {Q:D->Store->Prop},WP (eC d σ au) Q=Q d au)
 /\ (∀{g:D->D->Store->Res D} {f f':SE} {σ:DS} {au:Store} {Q:D->Store->Prop},WP (aS g f f' σ au) Q=WP (f σ au) (λx st1=>WP (f' σ st1) (λy st2=>WP (g x y st2) Q)))
 /\ (∀{g:D->Store->Res D} {f:SE} {σ:DS} {au:Store} {Q:D->Store->Prop},WP (eUn g f σ au) Q=WP (f σ au) (λx st1=>WP (g x st1) Q))
 /\ (∀{g:List D->Store->Res D} {f:SA} {σ:DS} {au:Store} {Q:D->Store->Prop},WP (aE g f σ au) Q=WP (f σ au) (λx st1=>WP (g x st1) Q))
 /\ (∀{σ:DS} {au:Store} {Q:List D->Store->Prop},WP (aC σ au) Q=Q [] au)
 /\ (∀{f:SE} {g:SA} {σ:DS} {au:Store} {Q:List D->Store->Prop},WP (aB f g σ au) Q=WP (f σ au) (λx st1=>WP (g σ st1) (λxs st2=>Q (x::xs) st2)))
 /\ (∀{f:SE} {σ:DS} {au:Store} {Q:Bool->Store->Prop},WP (eB f σ au) Q=WP (f σ au) (bK Q))
 /\ (∀{f f':ST} {σ:DS} {au:Store} {Q:Bool->Store->Prop},WP (bAnd f f' σ au) Q=WP (f σ au) (λb st1=>if b=true then WP (f' σ st1) Q else Q false st1))
 /\ (∀{f f':ST} {σ:DS} {au:Store} {Q:Bool->Store->Prop},WP (bOr f f' σ au) Q=WP (f σ au) (λb st1=>if b=true then Q true st1 else WP (f' σ st1) Q))
 /\ (∀{f:ST} {σ:DS} {au:Store} {Q:Bool->Store->Prop},WP (bNot f σ au) Q=WP (f σ au) (λb st1=>Q (!b) st1))
 /\ (∀{σ:DS} {au:Store} {Q:Bool->Store->Prop},WP (aI σ au) Q=Q true au)
 /\ (∀{f f':SE} {σ:DS} {au:Store} {Q:D->Store->Prop},WP (eAnd f f' σ au) Q=WP (f σ au) (bK λb st1=>if b=true then WP (f' σ st1) Q else Q (.bl false) st1))
 /\ (∀{f f':SE} {σ:DS} {au:Store} {Q:D->Store->Prop},WP (eOr f f' σ au) Q=WP (f σ au) (bK λb st1=>if b=true then Q (.bl true) st1 else WP (f' σ st1) Q))
 /\ (∀{f:SE} {σ:DS} {au:Store} {Q:D->Store->Prop},WP (eNot f σ au) Q=WP (f σ au) (bK λb st1=>Q (.bl (!b)) st1))
 /\ (∀{c:ST} {f f':SE} {σ:DS} {au:Store} {Q:D->Store->Prop},WP (eIf c f f' σ au) Q=WP (c σ au) (λb st1=>if b=true then WP (f σ st1) Q else WP (f' σ st1) Q))
 /\ (∀{g:SA} {σ:DS} {au:Store} {Q:D->Store->Prop},WP (aR g σ au) Q=WP (g σ au) (λxs st1=>xs.length<=sizeLine/\Q (.tup xs) st1))
 /\ (∀{g:SA} {σ:DS} {au:Store} {Q:D->Store->Prop},WP (eLst g σ au) Q=WP (g σ au) (λxs st1=>xs.length<=sizeLine/\Q (.lst xs) st1))
 /\ (∀{g:SA} {σ:DS} {au:Store} {Q:D->Store->Prop},WP (eLstM g σ au) Q=WP (g σ au) (λxs st1=>xs.length<=sizeLine/\Q (.ref st1.length) (st1++[.lst xs])))
 /\ (∀{σ:DS} {au:Store} {Q:D->Store->Prop},WP (eDNew σ au) Q=Q (.ref au.length) (au++[.dT []]))
 /\ (∀{σ:DS} {au:Store} {Q:Fl->Store->Prop},WP (sNx σ au) Q=Q (.nx σ) au)
 /\ (∀{σ:DS} {au:Store} {Q:Fl->Store->Prop},WP (sBrk σ au) Q=Q (.brk σ) au)
 /\ (∀{σ:DS} {au:Store} {Q:Fl->Store->Prop},WP (sCt σ au) Q=Q (.ct σ) au)
 /\ (∀{σ:DS} {au:Store} {Q:Fl->Store->Prop},WP (sRetN σ au) Q=Q (.ret .non) au)
 /\ (∀{f:SE} {σ:DS} {au:Store} {Q:Fl->Store->Prop},WP (sRet f σ au) Q=WP (f σ au) (λv st1=>Q (.ret v) st1))
 /\ (∀{f:SE} {σ:DS} {au:Store} {Q:Fl->Store->Prop},WP (sDrop f σ au) Q=WP (f σ au) (λ_ st1=>Q (.nx σ) st1))
 /\ (∀{i:Nat} {f:SE} {σ:DS} {au:Store} {Q:Fl->Store->Prop},WP (aF i f σ au) Q=WP (f σ au) (λv st1=>Q (.nx (σ.set i (some v))) st1))
 /\ (∀{bd:SG} {f:SE} {σ:DS} {au:Store} {Q:Fl->Store->Prop},WP (sSetG bd f σ au) Q=WP (f σ au) (gK bd Q σ))
 /\ (∀{c:ST} {s t:SS} {σ:DS} {au:Store} {Q:Fl->Store->Prop},WP (sIf c s t σ au) Q=WP (c σ au) (λb st1=>if b=true then WP (s σ st1) Q else WP (t σ st1) Q))
 /\ (∀{it:SA} {bd:SG} {body:SS} {σ:DS} {au:Store} {Q:Fl->Store->Prop},WP (sFor it bd body σ au) Q=WP (it σ au) (λxs st1=>WP (forF bd body xs σ st1) Q))
 /\ (∀{it:SA} {k:Nat} {is:List Nat} {bd:SG} {c:ST} {f:SE} {σ:DS} {au:Store} {Q:D->Store->Prop},WP (aG it k is bd c f σ au) Q=WP (it σ au) (λxs st1=>xs.length<=sizeLine/\WP (compF bd c f xs (aT k is σ) st1) (λys st2=>Q (.lst ys) st2)))
 /\ (∀{it:SA} {k:Nat} {is:List Nat} {bd:SG} {c:ST} {f:SE} {σ:DS} {au:Store} {Q:D->Store->Prop},WP (eCompM it k is bd c f σ au) Q=WP (it σ au) (λxs st1=>xs.length<=sizeLine/\WP (compF bd c f xs (aT k is σ) st1) (λys st2=>Q (.ref st2.length) (st2++[.lst ys]))))
 /\ (∀{C:Int->Int->Prop} [DecidableRel C] {h:Int->Int->D} {i j:Int} {au:Store} {Q:D->Store->Prop},WP (oI C h (.int i) (.int j) au) Q=(C i j/\Q (h i j) au))
 /\ (∀{i j:Int} {au:Store} {Q:D->Store->Prop},WP (aM (.int i) (.int j) au) Q=Q (.int (i+j)) au)
 /\ (∀{a b:List D} {au:Store} {Q:D->Store->Prop},WP (aM (.tup a) (.tup b) au) Q=(a.length+b.length<=sizeLine/\Q (.tup (a++b)) au))
 /\ (∀{i j:Int} {au:Store} {Q:D->Store->Prop},WP (oLtT (.int i) (.int j) au) Q=Q (.bl (decide (i < j))) au)
 /\ (∀{i j:Int} {au:Store} {Q:D->Store->Prop},WP (oEqG false (.int i) (.int j) au) Q=Q (.bl (decide (i=j))) au)
 /\ (∀{i j:Int} {au:Store} {Q:D->Store->Prop},WP (oEqG true (.int i) (.int j) au) Q=Q (.bl (!decide (i=j))) au)
 /\ (∀{i:Int} {au:Store} {Q:D->Store->Prop},WP (oNeg (.int i) au) Q=Q (.int (-i)) au)
 /\ (∀{i j:Int} {g:Int->Int->Int} {au:Store} {Q:D->Store->Prop},WP (b2I g [.int i,.int j] au) Q=Q (.int (g i j)) au)
 /\ (∀{i:Int} {au:Store} {Q:D->Store->Prop},WP (bAbs [.int i] au) Q=Q (.int (if i < 0 then -i else i)) au)
 /\ (∀{b:Bool} {au:Store} {Q:D->Store->Prop},WP (bInt [.bl b] au) Q=Q (.int (if b=true then 1 else 0)) au)
 /\ (∀{xs:List D} {au:Store} {Q:D->Store->Prop},WP (bLen [.tup xs] au) Q=Q (.int xs.length) au)
 /\ (∀{xs:List D} {au:Store} {Q:D->Store->Prop},WP (bLen [.lst xs] au) Q=Q (.int xs.length) au)
 /\ (∀{xs:List D} {au:Store} {Q:D->Store->Prop},WP (bLen [.scr xs] au) Q=Q (.int xs.length) au)
 /\ (∀{xs:List D} {au:Store} {Q:D->Store->Prop},WP (bTuple [.tup xs] au) Q=Q (.tup xs) au)
 /\ (∀{xs:List D} {au:Store} {Q:D->Store->Prop},WP (bTuple [.lst xs] au) Q=Q (.tup xs) au)
 /\ (∀{xs:List D} {au:Store} {Q:D->Store->Prop},WP (bList [.tup xs] au) Q=Q (.lst xs) au)
 /\ (∀{xs:List D} {au:Store} {Q:D->Store->Prop},WP (bList [.lst xs] au) Q=Q (.lst xs) au)
 /\ (∀{d:D} {σ:DS} {au:Store} {Q:D->Store->Prop},WP (aA 0 (some d::σ) au) Q=Q d au)
 /\ (∀{i:Nat} {σ:DS} {au:Store} {Q:D->Store->Prop} {o:Option D},WP (aA (i+1) (o::σ) au) Q=WP (aA i σ au) Q)
 /\ (∀{f:SE} {σ:DS} {au:Store} {Q:List D->Store->Prop},WP (aH f σ au) Q=WP (f σ au) (λx st1=>∃xs,seqV x=some xs/\Q xs st1))
 /\ (∀{f:SE} {σ:DS} {au:Store} {Q:Bool->Store->Prop},WP (eTru f σ au) Q=WP (f σ au) (λx st1=>∃b,tru st1 x=some b/\Q b st1))
 /\ (∀{g:SA} {σ:DS} {au:Store} {Q:List D->Store->Prop},WP (iR1 g σ au) Q=WP (g σ au) (λxs st1=>∃j,xs=[.int j]/\RngOk j/\Q (rng 0 j.toNat) st1))
 /\ (∀{g:SA} {σ:DS} {au:Store} {Q:List D->Store->Prop},WP (iR2 g σ au) Q=WP (g σ au) (λxs st1=>∃i j,xs=[.int i,.int j]/\RngOk i/\RngOk j/\Q (rng i (j - i).toNat) st1)):=by
 have g2:∀{α:Type} {c:Prop} [Decidable c] {a:α} {au:Store} {Q:α->Store->Prop},WP (if c then .ok a au else .stuck) Q=(c/\Q a au):=λ{α c _ a au Q}=>znr
 refine⟨rfl,zbhj,rfl,rfl,rfl,rfl,rfl,rfl,rfl,rfl,?_⟩;refine⟨?_,?_⟩
 ·intros;rw[zbuc,zf];congr;funext x st1;rw[zf]
 refine⟨zf,zf,rfl,?_⟩;refine⟨?_,?_⟩
 ·intros;rw[zxd,zf];congr;funext x st1;rw[zf];rfl
 refine⟨?_,?_⟩
 ·intros;rw[eB_v,zf];congr;funext x st1;cases x<;>rfl
 refine⟨?_,?_⟩
 ·intros;rw[zbrw,zf];congr;funext x st1;rw[zxl];rfl
 refine⟨?_,?_⟩
 ·intros;rw[zbuu,zf];congr;funext x st1;rw[zxl];rfl
 refine⟨zf,rfl,?_⟩;refine⟨?_,?_⟩
 ·intros;rw[zbqi,zf];congr;funext x st1;cases x<;>try rfl
  rename_i b;cases b<;>rfl
 refine⟨?_,?_⟩
 ·intros;rw[zbub,zf];congr;funext x st1;cases x<;>try rfl
  rename_i b;cases b<;>rfl
 refine⟨?_,?_⟩
 ·intros;rw[zbkw,zf];congr;funext x st1;cases x<;>rfl
 refine⟨?_,?_⟩
 ·intros;rw[zbud,zf];congr;funext x st1;rw[zxl]
 refine⟨?_,?_⟩
 ·intros;rw[zbqf,zf];congr;funext x st1;rw[g2]
 refine⟨?_,?_⟩
 ·intros;rw[zbqg,zf];congr;funext x st1;rw[g2]
 refine⟨?_,?_⟩
 ·intros;rw[zbkx,zf];congr;funext x st1;rw[g2]
 refine⟨rfl,rfl,rfl,rfl,rfl,zf,zf,zf,?_⟩;refine⟨?_,?_⟩
 ·intro bd f σ au Q;unfold sSetG;rw[zf];congr;funext x st1;unfold gK;cases bd x σ<;>rfl
 refine⟨?_,?_⟩
 ·intros;rw[zbth,zf];congr;funext x st1;rw[zxl]
 refine⟨zf,?_⟩;refine⟨?_,?_⟩
 ·intros;rw[zbcd,zf];congr;funext x st1;rw[znr,zf];rfl
 refine⟨?_,?_⟩
 ·intros;unfold eCompM;rw[zf];congr;funext x st1;rw[znr,zf];rfl
 refine⟨?_,?_⟩
 ·intros;rw[oI_v,g2]
 refine⟨rfl,?_⟩;refine⟨?_,?_⟩
 ·intros;rw[zbpf,g2]
 refine⟨rfl,?_⟩;refine⟨?_,?_⟩
 ·intros;rw[show ∀i j au,oEqG false (.int i) (.int j) au=_ from λi j au=>zbtv];rfl
 refine⟨?_,?_⟩
 ·intros;rw[show ∀i j au,oEqG true (.int i) (.int j) au=_ from λi j au=>zbts];rfl
 refine⟨rfl,rfl,rfl,rfl,rfl,rfl,rfl,rfl,rfl,rfl,rfl,λ{d σ au Q}=>rfl,λ{i σ au Q o}=>rfl,?_⟩;refine⟨?_,?_⟩
 ·intros;rw[zbpz,zf];congr;funext x st1
  cases h:seqV x with
  | none=>simp[WP]
  | some xs=>simp[WP]
 refine⟨?_,?_⟩
 ·intros;rw[zbkv,zf];congr;funext x st1
  cases h:tru st1 x with
  | none=>simp[WP]
  | some xs=>simp[WP]
 refine⟨?_,?_⟩
 ·intros;rw[zbty,zf];congr;funext x st1
  split
  ·rw[g2];simp[RngOk]
  ·rename_i hne;have:∀j,x≠[D.int j]:=λj h=>hne j h
   simp[WP,this]
 ·intros;rw[zbtx,zf];congr;funext x st1
  split
  ·rw[g2];simp only[RngOk,List.cons.injEq,D.int.injEq,and_true];apply propext;constructor
   ·rintro⟨h,q⟩;exact⟨_,_,⟨rfl,rfl⟩,h.1,h.2,q⟩
   ·rintro⟨i',j',⟨rfl,rfl⟩,h1,h2,q⟩;exact⟨⟨h1,h2⟩,q⟩
  ·rename_i hne;have:∀i j,x≠[D.int i,D.int j]:=λi j h=>hne i j h
   simp[WP,this]
def loopK (I:DS->Store->Prop) (Q:Fl->Store->Prop):Fl->Store->Prop:=λfl au=>match fl with
 | .nx σ=>I σ au
 | .ct σ=>I σ au
 | .brk σ=>Q (.nx σ) au
 | .ret v=>Q (.ret v) au
theorem zjq {bd:SG}{body:SS}{Q:Fl->Store->Prop}(I:Nat->DS->Store->Prop):∀(xs:List D) (k:Nat) (σ:DS) (au:Store),I k σ au ->
  (∀i x σ au,xs[i]?=some x->I (k+i) σ au->∃σ1,bd x σ=some σ1/\WP (body σ1 au) (loopK (I (k+i+1)) Q))->(∀σ au,I (k+xs.length) σ au->Q (.nx σ) au)->WP (forF bd body xs σ au) Q
 | [],k,σ,au,h,_,q=>q σ au h
 | x::xs,k,σ,au,h,s,q=>by
  obtain⟨σ1,e1,w⟩:=s 0 x σ au rfl h;obtain⟨fl,st2,e2,w⟩:=w.get;unfold forF;rw[e1];dsimp only;rw[e2]
  have go:∀σ2,I (k+0+1) σ2 st2->WP (forF bd body xs σ2 st2) Q:=λσ2 h2=>zjq I xs (k+1) σ2 st2 h2 (λi y σ au hy hi=>by
   have:=s (i+1) y σ au (by simpa using hy) (by rw[show k+(i+1)=k+1+i by lia];exact hi);rw[show k+(i+1)+1=k+1+i+1 by lia] at this
   exact this) (λσ au h=>q σ au (by rw[xcb,show k+(xs.length+1)=k+1+xs.length by lia];exact h))
  cases fl with
  | nx σ2=>exact go σ2 w
  | ct σ2=>exact go σ2 w
  | brk σ2=>exact w
  | ret v=>exact w
theorem zdo    (I:Nat->DS->Store->Prop)    (h0:I 0 σ au)
  (s:∀i x σ au,xs[i]?=some x->I i σ au->∃σ1,bd x σ=some σ1/\WP (body σ1 au) (loopK (I (i+1)) Q))(q:∀σ au,I xs.length σ au->Q (.nx σ) au):WP (forF bd body xs σ au) Q :=
 zjq I xs 0 σ au h0 (λi x σ au hx hi=>by rw[xdt] at hi ⊢;exact s i x σ au hx hi) λσ au h=>q σ au (by rw[xdt] at h;exact h)
theorem L:(∀{I:DS->Store->Prop} {Q:Fl->Store->Prop} {σ:DS} {au:Store},loopK I Q (.nx σ) au=I σ au)
 /\ (∀{I:DS->Store->Prop} {Q:Fl->Store->Prop} {σ:DS} {au:Store},loopK I Q (.ct σ) au=I σ au)
 /\ (∀{I:DS->Store->Prop} {Q:Fl->Store->Prop} {σ:DS} {au:Store},loopK I Q (.brk σ) au=Q (.nx σ) au)
 /\ (∀{I:DS->Store->Prop} {Q:Fl->Store->Prop} {v:D} {au:Store},loopK I Q (.ret v) au=Q (.ret v) au):=⟨rfl,rfl,rfl,rfl⟩
theorem zfg {bd:SG}{c:ST}{f:SE}(I:Nat->List D->DS->Store->Prop):∀(xs:List D) (k:Nat) (acc:List D) (σ:DS) (au:Store) (Q:List D->Store->Prop),I k acc σ au ->
  (∀i x acc σ au,xs[i]?=some x->I (k+i) acc σ au->∃σ1,bd x σ=some σ1/\WP (c σ1 au) (λb st1=>if b=true then WP (f σ1 st1) (λy st2=>I (k+i+1) (acc++[y]) σ1 st2) else I (k+i+1) acc σ1 st1)) ->
  (∀ys σ au,I (k+xs.length) (acc++ys) σ au->Q ys au)->WP (compF bd c f xs σ au) Q
 | [],k,acc,σ,au,Q,h,_,q=>q [] σ au (by rw[xcy];exact h)
 | x::xs,k,acc,σ,au,Q,h,s,q=>by
  obtain⟨σ1,e1,w⟩:=s 0 x acc σ au rfl h;obtain⟨b,st1,e2,w⟩:=w.get;have s':∀i y acc σ au,xs[i]?=some y->I (k+1+i) acc σ au->∃σ1,bd y σ=some σ1/\WP (c σ1 au) (λb st1=>if b=true then WP (f σ1 st1) (λy st2=>I (k+1+i+1) (acc++[y]) σ1 st2) else I (k+1+i+1) acc σ1 st1):=λi y acc σ au hy hi=>by
   have:=s (i+1) y acc σ au (by simpa using hy) (by rw[show k+(i+1)=k+1+i by lia];exact hi);rw[show k+(i+1)+1=k+1+i+1 by lia] at this;exact this
  have ln:∀(zs:List D) σ au,I (k+1+xs.length) zs σ au->I (k+(x::xs).length) zs σ au:=λzs σ au h=>by rw[xcb,show k+(xs.length+1)=k+1+xs.length by lia];exact h
  unfold compF;rw[e1];dsimp only;rw[e2];dsimp only[zdh];cases b with
  | false =>
   rw[if_neg (by decide)] at w ⊢;exact zfg I xs (k+1) acc σ1 st1 Q w s' λys σ au h=>q ys σ au (ln _ _ _ h)
  | true =>
   rw[if_pos rfl] at w ⊢;obtain⟨y,st2,e3,w⟩:=w.get;rw[e3];dsimp only[zdh];rw[zf];exact zfg I xs (k+1) (acc++[y]) σ1 st2 _ w s' λys σ au h=>q (y::ys) σ au (ln _ _ _ (by rw[xck] at h;exact h))
theorem zpr     (I:Nat->List D->DS->Store->Prop)    (h0:I 0 [] σ au)
  (s:∀i x acc σ au,xs[i]?=some x->I i acc σ au->∃σ1,bd x σ=some σ1/\WP (c σ1 au) (λb st1=>if b=true then WP (f σ1 st1) (λy st2=>I (i+1) (acc++[y]) σ1 st2) else I (i+1) acc σ1 st1))
  (q:∀ys σ au,I xs.length ys σ au->Q ys au):WP (compF bd c f xs σ au) Q :=
 zfg I xs 0 [] σ au Q h0 (λi x acc σ au hx hi=>by rw[xdt] at hi ⊢;exact s i x acc σ au hx hi) λys σ au h=>q ys σ au (by rw[xdt] at h;simpa using h)
theorem zhl {bd:SG}{c:ST}{f:SE}{α:Type}(S:DS->Prop)(P:α->Bool)(G:α->D)(E:α->D){as:List α}{σ:DS}{au:Store}{Q:List D->Store->Prop}(h0:S σ)
  (s:∀x∈as,∀σ,S σ->∃σ1,bd (E x) σ=some σ1/\S σ1/\WP (c σ1 au) (λb st1=>st1=au/\b=P x)/\(P x=true->WP (f σ1 au) (λy st1=>st1=au/\y=G x)))
  (q:Q ((as.filter P).map G) au):WP (compF bd c f (as.map E) σ au) Q:=by
 refine zpr (λi acc σ s'=>S σ/\s'=au/\acc=((as.take i).filter P).map G) ⟨h0,rfl,rfl⟩ (λi x acc σ s' hx hI=>?_) λys σ s' hI=>?_
 ·obtain⟨hS,rfl,rfl⟩:=hI;rw[xco] at hx;obtain⟨z,hz,rfl⟩:=xdj.mp hx;obtain⟨σ1,e1,hS1,w1,w2⟩:=s z (xbz hz) σ hS;refine⟨σ1,e1,w1.mono λb st1 hb=>?_⟩;obtain⟨rfl,rfl⟩:=hb;cases hP:P z with
  | false =>
   rw[if_neg (by decide)];refine⟨hS1,rfl,?_⟩;rw[zh hz,xfj,xcx (by rw[hP];decide)];simp
  | true =>
   rw[if_pos rfl];refine(w2 hP).mono λy st2 hy=>?_
   obtain⟨rfl,rfl⟩:=hy;refine⟨hS1,rfl,?_⟩;rw[zh hz,xfj,xcp hP,xdr];simp
 ·obtain⟨_,rfl,rfl⟩:=hI;rw[xbb,xce];exact q
theorem V:(∀{α:Type} {a b:α} {l:List α},(a::l).set 0 b=b::l)
 /\ (∀{α:Type} {a b:α} {l:List α} {i:Nat},(a::l).set (i+1) b=a::l.set i b)
 /\ (∀{σ:DS} {k:Nat} {is:List Nat},aT k is σ=List.replicate k none++is.map λi=>(σ[i]?).getD none)
 /\ (∀{α:Type} {a:α} {k:Nat},List.replicate (k+1) a=a::List.replicate k a)
 /\ (∀{α:Type} {a:α},List.replicate 0 a=[])
 /\ (∀{α β:Type} {f:α->β} {a:α} {l:List α},(a::l).map f=f a::l.map f)
 /\ (∀{α β:Type} {f:α->β},([]:List α).map f=[])
 /\ (∀{α:Type} {a:α} {l m:List α},(a::l)++m=a::(l++m))
 /\ (∀{α:Type} {l:List α},[]++l=l)
 /\ (∀{α:Type} {a:α} {l:List α},(a::l)[0]?=some a)
 /\ (∀{α:Type} {a:α} {l:List α} {i:Nat},(a::l)[i+1]?=l[i]?)
 /\ (∀{α:Type} {a:α} {d:α},(some a).getD d=a)
 /\ (∀{i:Nat} {d:D} {σ:DS},gN i d σ=some (σ.set i (some d)))
 /\ (∀{p:Prop} [Decidable p],(decide p=true)=p)
 /\ (∀{p:Prop} [Decidable p],((!decide p)=true)=¬ p)
 /\ (∀{b:Bool},((!b)=true)=(b=false))
 /\ (∀{a b:Prop},(if True then a else b)=a)
 /\ (∀{a b:Prop},(if False then a else b)=b)
 /\ (∀{a b:Prop},(if true=true then a else b)=a)
 /\ (∀{a b:Prop},(if false=true then a else b)=b)
 /\ (∀{α:Type} {a b:α},(if True then a else b)=a)
 /\ (∀{α:Type} {a b:α},(if False then a else b)=b)
 /\ ((true=false)=False)/\((false=true)=False)/\((true=true)=True)/\((false=false)=True)/\((¬ True)=False)/\((¬ False)=True):=by
 refine⟨rfl,rfl,rfl,rfl,rfl,rfl,rfl,rfl,rfl,rfl,?_,rfl,rfl,?_,?_,?_,rfl,rfl,rfl,rfl,rfl,rfl,by simp,by simp,by simp,by simp,by simp,by simp⟩
 ·intros;rfl
 ·intro p _;simp
 ·intro p _;simp
 ·intro b;simp
theorem M:(∀{f:SE} {σ:DS} {au:Store} {Q:Option Int->Store->Prop},WP (pSome f σ au) Q=WP (f σ au) (λv st1=>∃i,v=.int i/\Q (some i) st1))
 /\ (∀{σ:DS} {au:Store} {Q:Option Int->Store->Prop},WP (pNone σ au) Q=Q none au)
 /\ (∀{f:SE} {lo hi:DS->Store->Res (Option Int)} {σ:DS} {au:Store} {Q:D->Store->Prop},WP (eSl f lo hi σ au) Q=WP (f σ au) (λx st1=>WP (lo σ st1) (λl st2=>WP (hi σ st2) (λh st3=>(∃xs,x=.tup xs/\Q (.tup (cutD xs l h)) st3)\/(∃xs,asL st3 x=some xs/\Q (.lst (cutD xs l h)) st3)))))
 /\ (∀{f:SE} {σ:DS} {au:Store} {Q:D->Store->Prop},WP (eFz f σ au) Q=WP (f σ au) (λx st1=>∃n xs,x=.ref n/\st1[n]?=some (.lst xs)/\Q (.lst xs) (st1.set n .dead)))
 /\ (∀{f g h:SE} {σ:DS} {au:Store} {Q:Fl->Store->Prop},WP (sSetIx f g h σ au) Q=WP (h σ au) (λv st1=>WP (f σ st1) (λx st2=>WP (g σ st2) (λy st3=>∃n k xs j,x=.ref n/\y=.int k/\st3[n]?=some (.lst xs)/\ixN xs.length k=some j/\Q (.nx σ) (st3.set n (.lst (xs.set j v)))))))
 /\ (∀{f:SE} {g:SA} {σ:DS} {au:Store} {Q:D->Store->Prop},WP (eAppend f g σ au) Q=WP (f σ au) (λx st1=>∃n xs0,x=.ref n/\st1[n]?=some (.lst xs0)/\WP (g σ st1) (λys st2=>∃y xs,ys=[y]/\st2[n]?=some (.lst xs)/\xs.length < sizeLine/\Q .non (st2.set n (.lst (xs++[y]))))))
 /\ (∀{x:D} {au:Store} {Q:D->Store->Prop},WP (bSum [x] au) Q=∃ns,(seqOf au x).bind asInts=some ns/\Q (.int ns.sum) au)
 /\ (∀{x:D} {al:Bool} {au:Store} {Q:D->Store->Prop},WP (bAny al [x] au) Q=∃bs,(asL au x).bind asBools=some bs/\Q (.bl (if al then bs.all id else bs.any id)) au)
 /\ (∀{x:D} {gt:Bool} {au:Store} {Q:D->Store->Prop},WP (bBest gt [x] au) Q=∃n ns,(seqOf au x).bind asInts=some (n::ns)/\Q (.int (bestI gt n ns)) au)
 /\ (∀{g:SA} {σ:DS} {au:Store} {Q:List D->Store->Prop},WP (iZipT g σ au) Q=WP (g σ au) (λxs st1=>∃a b,xs=[.tup a,.tup b]/\Q (pairsF a b) st1))
 /\ (∀{i:Nat} {g:D->D->Store->Res D} {f:SE} {σ:DS} {au:Store} {Q:Fl->Store->Prop},WP (sAug i g f σ au) Q=∃x,σ[i]?=some (some x)/\WP (f σ au) (λy st1=>WP (g x y st1) (λz st2=>Q (.nx (σ.set i (some z))) st2))):=by
 refine⟨?_,rfl,?_,?_,?_,?_,?_,?_,?_,?_,?_⟩
 ·intros;rw[zbjf,zf];congr;funext x st1
  cases x<;>simp[WP]
 ·intros;rw[zbua,zf];congr;funext x st1;rw[zf];congr;funext l st2;rw[zf];congr;funext h st3
  apply propext;split
  ·constructor
   ·intro q;exact .inl ⟨_,rfl,q⟩
   ·rintro(⟨xs,e,q⟩ | ⟨xs,e,q⟩)
    ·cases e;exact q
    ·cases e
  ·rename_i hne;constructor
   ·intro q;split at q
    ·rename_i xs e;exact .inr ⟨xs,e,q⟩
    ·exact q.elim
   ·rintro(⟨xs,e,q⟩ | ⟨xs,e,q⟩)
    ·exact absurd e (hne xs)
    ·rw[e];exact q
 ·intros;rw[zbue,zf];congr;funext x st1
  apply propext;constructor
  ·intro q;split at q
   ·split at q
    ·rename_i xs e;exact⟨_,xs,rfl,e,q⟩
    ·exact q.elim
   ·exact q.elim
  ·rintro⟨n,xs,rfl,e,q⟩;dsimp only;rw[e];exact q
 ·intros;rw[zbdj,zf];congr;funext v st1;rw[zf];congr;funext x st2;rw[zf];congr;funext y st3
  apply propext;constructor
  ·intro q;split at q
   ·split at q
    ·split at q
     ·exact⟨_,_,_,_,rfl,rfl,by assumption,by assumption,q⟩
     ·exact q.elim
    ·exact q.elim
   ·exact q.elim
  ·rintro⟨n,k,xs,j,rfl,rfl,e1,e2,q⟩;dsimp only;rw[e1];dsimp only;rw[e2];exact q
 ·intros;rw[zbab,zf];congr;funext x st1
  apply propext;constructor
  ·intro q;split at q
   ·rename_i n xs0 e;rw[zf] at q;have e':st1[n]?=some (.lst xs0):=by
     unfold asL at e;dsimp only at e;split at e
     ·cases e;assumption
     ·cases e
    refine⟨n,xs0,rfl,e',q.mono λys st2 h=>?_⟩;split at h
    ·split at h
     ·exact⟨_,_,rfl,by assumption,by assumption,h⟩
     ·exact h.elim
    ·exact h.elim
   ·exact q.elim
  ·rintro⟨n,xs0,rfl,e,q⟩;rw[zkg e];dsimp only;rw[zf];refine q.mono λys st2 h=>?_
   obtain⟨y,xs,rfl,e2,hl,h⟩:=h;rw[e2];dsimp only;rw[if_pos hl];exact h
 ·intro x au Q;unfold bSum;dsimp only;cases h:(seqOf au x).bind asInts with
  | none=>simp[WP]
  | some ns=>simp[WP]
 ·intro x al au Q;unfold bAny;dsimp only;cases h:(asL au x).bind asBools with
  | none=>simp[WP]
  | some ns=>simp[WP]
 ·intro x gt au Q;unfold bBest;dsimp only;cases h:(seqOf au x).bind asInts with
  | none=>simp[WP]
  | some ns =>
   cases ns with
   | nil=>simp[WP]
   | cons n ns =>
    apply propext;constructor
    ·intro q;exact⟨_,_,rfl,q⟩
    ·rintro⟨a,b,e,q⟩;cases e;exact q
 ·intro g σ au Q;unfold iZipT;rw[zf];congr;funext x st1
  apply propext;constructor
  ·intro q;split at q
   ·exact⟨_,_,rfl,q⟩
   ·exact q.elim
  ·rintro⟨a,b,rfl,q⟩;exact q
 ·intro i g f σ au Q;rw[zbnw];apply propext;constructor
  ·intro q;split at q
   ·rename_i x e;rw[zf] at q;exact⟨x,e,q.mono λy st1 h=>by rw[zf] at h;exact h⟩
   ·exact q.elim
  ·rintro⟨x,e,q⟩;rw[e];dsimp only;rw[zf];exact q.mono λy st1 h=>by rw[zf];exact h
theorem N:(∀{xs:List D} {P:List D->Prop},(∃ys,D.tup xs=D.tup ys/\P ys)=P xs)
 /\ (∀{i:Int} {P:Int->Prop},(∃j,D.int i=D.int j/\P j)=P i)
 /\ (∀{xs:List D} {au:Store} {P:List D->Prop},(∃ys,asL au (.tup xs)=some ys/\P ys)=False)
 /\ (∀{xs:List D} {au:Store} {P:List D->Prop},(∃ys,asL au (.lst xs)=some ys/\P ys)=P xs)
 /\ (∀{xs:List D} {P:List D->Prop},(∃ys,seqV (.tup xs)=some ys/\P ys)=P xs)
 /\ (∀{xs:List D} {P:List D->Prop},(∃ys,seqV (.lst xs)=some ys/\P ys)=P xs)
 /\ (∀{b:Bool} {au:Store} {P:Bool->Prop},(∃c,tru au (.bl b)=some c/\P c)=P b)
 /\ (∀{i:Int} {P:Int->Prop},(∃j,[D.int i]=[D.int j]/\P j)=P i)
 /\ (∀{i j:Int} {P:Int->Int->Prop},(∃k l,[D.int i,D.int j]=[D.int k,D.int l]/\P k l)=P i j)
 /\ (∀{x:D} {P:D->Prop},(∃y,[x]=[y]/\P y)=P x)
 /\ (∀{a b:List D} {P:List D->List D->Prop},(∃c d,[D.tup a,D.tup b]=[.tup c,.tup d]/\P c d)=P a b)
 /\ (∀{p:Prop},(p\/False)=p)/\(∀{p:Prop},(True/\p)=p):=by
 refine⟨?_,?_,?_,?_,?_,?_,?_,?_,?_,?_,?_,by simp,by simp⟩
 ·intros;apply propext;exact⟨λ⟨_,e,p⟩=>by cases e;exact p,λp=>⟨_,rfl,p⟩⟩
 ·intros;apply propext;exact⟨λ⟨_,e,p⟩=>by cases e;exact p,λp=>⟨_,rfl,p⟩⟩
 ·intros;apply propext;exact⟨λ⟨_,e,p⟩=>(by cases e),λp=>p.elim⟩
 ·intros;apply propext;exact⟨λ⟨_,e,p⟩=>by cases e;exact p,λp=>⟨_,rfl,p⟩⟩
 ·intros;apply propext;exact⟨λ⟨_,e,p⟩=>by cases e;exact p,λp=>⟨_,rfl,p⟩⟩
 ·intros;apply propext;exact⟨λ⟨_,e,p⟩=>by cases e;exact p,λp=>⟨_,rfl,p⟩⟩
 ·intros;apply propext;exact⟨λ⟨_,e,p⟩=>by cases e;exact p,λp=>⟨_,rfl,p⟩⟩
 ·intros;apply propext;exact⟨λ⟨_,e,p⟩=>by cases e;exact p,λp=>⟨_,rfl,p⟩⟩
 ·intros;apply propext;exact⟨λ⟨_,_,e,p⟩=>by cases e;exact p,λp=>⟨_,_,rfl,p⟩⟩
 ·intros;apply propext;exact⟨λ⟨_,e,p⟩=>by cases e;exact p,λp=>⟨_,rfl,p⟩⟩
 ·intros;apply propext;exact⟨λ⟨_,_,e,p⟩=>by cases e;exact p,λp=>⟨_,_,rfl,p⟩⟩
section
theorem zfc  (hb:BagAt au n)(h1:1<=m)(h2:m<=1000000)(k:∀r st',0<=r->r < m->Drew au st' n->Q (.int r) st'):WP (zo [.ref n,.int m] au) Q:=by
 obtain⟨r,st',e,a1,a2,a3,_⟩:=zbhy hb h1 (xma h2 (by decide +kernel));exact WP.of e (k r st' a1 a2 a3)
theorem zkc     (h:seqOf au x=some xs)(h2:L2.atI xs i=some d)(q:Q d au):WP (oIx x (.int i) au) Q:=WP.of (zup h h2) q
theorem zbrq {ns:List Int}{i:Nat}(hl:ns.length<=63)(hi:i<=100000)(k:∀g,BagAt (au++g) au.length->Q (.ref au.length) (au++g)):WP (zew [.scr (ns.map .int),.int i] au) Q:=by
 obtain⟨c,x,hc,hx,e⟩:=zbrr (au:=au) hl hi;exact WP.of e (k _ ⟨c,x,by simp,hc,hx⟩)
end
abbrev Rise (l:List (List Int)):Prop:=l.Pairwise λa b=>HT.lexLt a b=true
theorem Rise.nodup  (h:Rise l):l.Nodup:=xmt (λ{a b} q e=>by subst e;rw[Srt.zed] at q;cases q) h
theorem Rise.up  (h:Rise l):UpR l:=xmt (λ{a b} q=>Srt.zle q) h
theorem Rise.sort  (h:Rise l):sortR l=l:=(zko (.refl l) h.up).symm
theorem Rise.odd  (h:Rise l):aO l=l:=by
 rw[← zul (m:=l) h.nodup λx=>?_,h.sort];by_cases c:x∈l
 ·have h1:l.count x<=1:=List.nodup_iff_count.mp h.nodup x;have h2:0 < l.count x:=xin.mpr c;have h3:l.count x=1:=by lia
  simp[c,h3]
 ·simp[c,List.count_eq_zero_of_not_mem c]
theorem zbig  (h:UpR l)(nd:l.Nodup):Rise l:=xmt (λ{a b} q=>by
 obtain⟨q1,q2⟩:=q;rcases Srt.zmz a b with z | z | z
 ·exact z
 ·exact absurd z q2
 ·rw[q1] at z;cases z) (h.and nd)
theorem zzc (l:List (List Int)):Rise (aO l):=zbig (zkn _) (zfs l)
theorem zva {f:Int->Int}{P:Int->Prop}(hf:∀i j,P i->P j->(i < j↔f i < f j)):∀{a b:List Int},(∀x∈a,P x)->(∀x∈b,P x)->HT.lexLt (a.map f) (b.map f)=HT.lexLt a b
 | [],[],_,_=>rfl
 | [],_::_,_,_=>rfl
 | _::_,[],_,_=>rfl
 | x::a,y::b,ha,hb=>by
  have px:=ha x xbp;have py:=hb y xbp;have ih:=zva hf (a:=a) (b:=b) (λz hz=>ha z (xbm _ hz)) λz hz=>hb z (xbm _ hz)
  have e1:=hf x y px py;have e2:=hf y x py px;have e3:x=y↔f x=f y:=by constructor<;>intro h<;>lia
  rw[xbu,xbu,HT.zcb,HT.zcb,ih];by_cases c:x=y
  ·rw[if_pos c,if_pos (e3.mp c)]
  ·rw[if_neg c,if_neg λz=>c (e3.mpr z)];simp only[e1]
theorem Rise.map {f:Int->Int}{P:Int->Prop}(hf:∀i j,P i->P j->(i < j↔f i < f j)){l:List (List Int)}(h:Rise l)(hP:∀r∈l,∀x∈r,P x):Rise (l.map λr=>r.map f):=by
 unfold Rise;rw[xiu];exact h.imp_of_mem λ{a b} ha hb q=>by rw[zva hf (hP a ha) (hP b hb)];exact q
structure SumOk (n:Nat) (l:List (List Int)):Prop where
 rise:Rise l
 len:∀r∈l,r.length=n
 pos:∀r∈l,∀x∈r,0<=x
theorem SumOk.filter   (h:SumOk n l)(P:List Int->Bool):SumOk n (l.filter P):=⟨List.Pairwise.filter _ h.rise,λr hr=>h.len r (xdo.mp hr).1,λr hr=>h.pos r (xdo.mp hr).1⟩
theorem zpx   (h:∀r∈l,r.length=n/\∀x∈r,0<=x):SumOk n (aO l):=⟨zzc l,λr hr=>(h r (zcd hr)).1,λr hr=>(h r (zcd hr)).2⟩
theorem Drew.lt   (d:Drew au st' n)(h:n < au.length):n < st'.length:=xbh h d.len
theorem BagAt.lt   (h:BagAt au n):n < au.length:=by obtain⟨c,x,e,_⟩:=h;exact zcg e
theorem BagAt.set    (h:BagAt au n)(hk:k≠n):BagAt (au.set k o) n:=by
 obtain⟨c,x,e,h1,h2⟩:=h;exact⟨c,x,by rw[xcl hk];exact e,h1,h2⟩
theorem zop {r:List Int}{P:Int->Prop}(h:∀x∈r,P x){y:Int}(hy:P y):∀x∈r++[y],P x:=λx hx=>by
 rcases xbr.mp hx with hx | hx
 ·exact h x hx
 ·simp at hx;subst hx;exact hy
theorem zcv {α:Type}(l:List α):(l.filter λ_=>true)=l:=List.filter_eq_self.mpr (by simp)
theorem zgw {α:Type}(P:α->Bool):∀as:List α,asBools (as.map λx=>.bl (P x))=some (as.map P)
 | []=>rfl
 | x::as=>by rw[xbu,asBools,zgw P as];rfl
section
theorem ztb (l:List Int)(j:Nat):(l.drop j++l.take j).length=l.length:=by rw[xbi,Nat.add_comm,← xbi,xdf]
theorem zbdb {l:List Int}   (h:l.length<=sizeLine):aM (.lst ((l.drop j).map .int)) (.lst ((l.take j).map .int)) s=.ok (.lst ((l.drop j++l.take j).map .int)) s:=by
 show(if _<=sizeLine then Res.ok (D.lst _) s else .stuck)=_;rw[if_pos,xdr];rw[xbb,xbb,← xbi,ztb];exact h
theorem zum  {l:List (List Int)}(hx:seqV x=some (aJ l))(hl:l.length<=1000000)(k:∀g,Q (aK (aO l)) (au++g)):WP (zbn [x] au) Q:=by
 have h1:=zcj l;obtain⟨g,e⟩:=zsg (au:=au) hx (by lia) (by lia);exact WP.of e (k g)
theorem zwx {r:List Int}(hl:r.length<=1000)(q:Q (.bl (r.all λx=>decide (x % 2=1))) au):WP (zib [aL r] au) Q:=by
 refine zdz rfl ?_;simp only[W,V];refine⟨_,rfl,by rw[xbb];exact small _ (by lia),?_⟩;refine zhl (as:=r) (λσ=>∃v,σ=[v]) (λ_=>true) (λx=>.bl (decide (x % 2=1))) .int ⟨_,rfl⟩ ?_ ?_
 ·rintro x hx σ ⟨v,rfl⟩;exact⟨_,rfl,⟨_,rfl⟩,by simp only[W,xge],λ_=>by simp only[W,V,and_true];decide⟩
 ·rw[zcv];simp only[M,W,V];refine⟨_,zgw _ _,?_⟩;rw[List.all_map];exact q
noncomputable def halfL (l:List (List Int)):List (List Int):=(l.filter λr=>r.all λx=>decide (x % 2=1)).map λr=>r.map (· / 2)
theorem zbfm {r:List Int}  (hl:r.length<=1000)(q:Q (.lst ((r.map (· / 2)).map .int)) au):WP (aG (aH (aA 0)) 1 [] (gN 0) aI (aS oFdiv (aA 0) (eC (.int 2))) (some (aL r)::σ) au) Q:=by
 simp only[W,V];refine⟨_,rfl,by rw[xbb];exact small _ (by lia),?_⟩;refine zhl (as:=r) (λσ=>∃v,σ=[v]) (λ_=>true) (λx=>.int (x / 2)) .int ⟨_,rfl⟩ ?_ ?_
 ·rintro x hx σ ⟨v,rfl⟩;exact⟨_,rfl,⟨_,rfl⟩,by simp only[W,xge],λ_=>by simp only[W,V,and_true];exact zble (by lia) (by lia)⟩
 ·rw[zcv];rw[xcr] at q;exact q
theorem zhv {l:List (List Int)}(hl:l.length<=1000)(hr:∀r∈l,r.length<=1000)(q:Q (aK (halfL l)) au):WP (zcu [aK l] au) Q:=by
 refine zdz rfl ?_;simp only[W,V];refine⟨_,rfl,by rw[ze];exact small _ (by lia),?_⟩;refine zhl (as:=l) (λσ=>∃v,σ=[v]) (λr=>r.all λx=>decide (x % 2=1)) (λr=>aL (r.map (· / 2))) aL ⟨_,rfl⟩ ?_ ?_
 ·rintro r hx σ ⟨v,rfl⟩;refine⟨_,rfl,⟨_,rfl⟩,?_,λ_=>?_⟩
  ·simp only[W,V];exact zwx (hr r hx) ⟨_,rfl,rfl,rfl⟩
  ·rw[show ∀{g:List D->Store->Res D} {f:SA} {σ:DS} {au:Store} {Q:D->Store->Prop},WP (aE g f σ au) Q=WP (f σ au) (λx st1=>WP (g x st1) Q) from zf];rw[show ∀{f:SE} {σ:DS} {au:Store} {Q:List D->Store->Prop},WP (aB f aC σ au) Q=WP (f σ au) (λx st1=>Q [x] st1) from λ{f σ au Q}=>by simp only[W]];refine zbfm (hr r hx) ?_;simp only[W,xge]
 ·skip
  unfold halfL at q;rw[show(λr=>aL (r.map (· / 2)))=aL ∘ λr:List Int=>r.map (· / 2) from rfl,← xcr];exact q
theorem zbfo   [Decidable p]   (q:Q (.int (if p then b else a)) au):WP (oIx (.lst [.int a,.int b]) (.int (if p then 1 else 0)) au) Q:=by
 by_cases h:p
 ·simp only[h,xes] at q ⊢;exact zkc (xs:=[.int a,.int b]) rfl rfl q
 ·simp only[h,xeh] at q ⊢;exact zkc (xs:=[.int a,.int b]) rfl rfl q
end
section
end
section
end
section
end
theorem zfm     (h:WP (s σ au) R)(k:∀fl s',R fl s'->seqK t Q fl s'):WP (aD s t σ au) Q:=by
 rw[zbhj];exact h.mono k
section
end
section
theorem zbcb   (h:au[n]?=some (.dT (aQ ks)))(hl:ks.length<=1000000)(q:Q .non (au.set n (.dT (aQ (aP ks k))))):WP (zpp [.ref n,aL k] au) Q:=WP.of (zbks h hl) q
theorem zpz  (h:au[n]?=some (.dT (aQ ks)))(hl:ks.length<=1000000)(q:Q (.lst (aJ (sortR ks))) au):WP (bSorted [.ref n] au) Q:=WP.of (zrn h hl) q
theorem zom   (hx:seqV x=some (aJ l))(hl:l.length<=1000000)(k:∀g,Q (aK (aO l)) (au++g)):WP (zgd [x] au) Q:=by
 refine zdz rfl ?_;simp only[W,V];refine⟨_,hx,?_⟩;refine zdo (λi σ s=>(∃v,σ=[some x,some (.ref au.length),v])/\s=au++[.dT (aQ (aN (l.take i)))]) ⟨⟨_,rfl⟩,rfl⟩ ?_ ?_
 ·rintro i y σ s hy ⟨⟨v,rfl⟩,rfl⟩;obtain⟨r,hr,rfl⟩:=zby hy;refine⟨_,rfl,?_⟩;unfold zhi;simp only[W,V,L];have h1:=zcj (l.take i);have h2:(l.take i).length<=l.length:=by rw[xcu];exact xfu _ _
  refine zbcb (ks:=aN (l.take i)) (by simp) (by lia) ⟨⟨_,rfl⟩,?_⟩;rw[zh hr];unfold aN;rw[xhr];simp
 ·rintro σ s ⟨⟨v,rfl⟩,rfl⟩;rw[ze,xce];simp only[W,V];have h1:=zcj l;refine zpz (ks:=aN l) (by simp) (by lia) ?_;simp only[W,V];exact k _
end
section
theorem zbes {l:List (List Int)}{r:List Int}{P:List Int->Prop}(h:∀x∈l,P x)(hr:P r):∀x∈l++[r],P x:=λx hx=>by
 rcases xbr.mp hx with hx | hx
 ·exact h x hx
 ·simp at hx;subst hx;exact hr
end
end Dd
namespace K03
end K03
namespace K13
open PySem PyProof.Rows
theorem zbfe (a b:Nat):(a &&& b) / 2=a / 2 &&& b / 2:=xlj
theorem zbfd (a b:Nat):(a &&& b) % 2=(a % 2) * (b % 2):=by
 have q:=@Nat.and_mod_two_eq_one a b;rcases xdx a with h | h<;>rcases xdx b with h' | h'<;>rw[h,h'] at q ⊢<;>lia
noncomputable abbrev In (e y:Nat):Prop:=e &&& y=y
theorem zqp :In a b↔(In (a / 2) (b / 2)/\¬ (b % 2=1/\a % 2=0)):=K07.zzp a b
theorem In.le  (h:In e y):y<=e:=by rw[← h];exact Nat.and_le_left
theorem zbbr (e:Nat):In e 0:=Nat.and_zero e
theorem zbkj (e:Nat):In e e:=Nat.and_self e
theorem zbkl (e x:Nat):In e (e &&& x):=by unfold In;rw[← Nat.and_assoc,Nat.and_self]
theorem zbfk:∀(e y:Nat),In e y->In e (e - y):=λe=>by
 induction e using Nat.strongRecOn with
 | ind e ih =>
  intro y h;by_cases z:e=0
  ·subst z;rw[Nat.zero_sub];exact zbbr 0
  obtain⟨h1,h2⟩:=zqp.mp h;have i:=ih (e / 2) (by lia) (y / 2) h1;have l1:=h1.le;refine zqp.mpr ⟨?_,?_⟩
  ·rw[show(e - y) / 2=e / 2 - y / 2 by lia];exact i
  ·rintro⟨a,b⟩;lia
theorem zbkk:∀(e d q:Nat),In e d->In e q->q < d->q<=e &&& (d - 1):=λe=>by
 induction e using Nat.strongRecOn with
 | ind e ih =>
  intro d q hd hq lt;by_cases z:e=0
  ·subst z;have:=hd.le;lia
  obtain⟨d1,d2⟩:=zqp.mp hd;obtain⟨q1,q2⟩:=zqp.mp hq;have e1:=zbfe e (d - 1);have e2:=zbfd e (d - 1);rcases xdx d with c | c
  ·rw[show(d - 1) / 2=d / 2 - 1 by lia] at e1;rw[show(d - 1) % 2=1 by lia,Nat.mul_one] at e2;have i:=ih (e / 2) (by lia) (d / 2) (q / 2) d1 q1 (by lia);have:q % 2<=e % 2:=by lia
   lia
  ·rw[show(d - 1) / 2=d / 2 by lia,d1] at e1;lia
noncomputable def nxt (e j:Nat):Nat:=e - (e &&& (e - j - 1))
theorem zbjr  (h:j < e):j < nxt e j:=by
 have:=xgv (@Nat.and_le_right e (e - (j+1))) e;rw[Nat.sub_sub_self h] at this;exact this
theorem zbpg (e j:Nat):nxt e j<=e:=xgn _ _
theorem zbph (e j:Nat):In e (nxt e j):=zbfk e _ (zbkl e _)
theorem zze  (hj:In e j)(hm:In e m)(lt:j < m):nxt e j<=m:=by
 have l1:=hm.le;have:=zbkk e (e - j) (e - m) (zbfk e j hj) (zbfk e m hm) (Nat.sub_lt_sub_left (xbh lt l1) lt);exact Nat.sub_le_of_le_add (Nat.add_comm _ m ▸ Nat.sub_le_iff_le_add.mp this)
theorem zbjq {e j:Nat}(h:j < e):Builtin.bitAnd ((j:Int) - (e:Int)) (e:Int)=(nxt e j:Nat):=by
 rw[bitAnd_np (by lia) (by lia)];have e1:(Builtin.bitNot ((j:Int) - (e:Int))).toNat=e - j - 1:=by
  unfold Builtin.bitNot;lia
 rw[e1,xef];have:=@Nat.and_le_left e (e - j - 1);unfold nxt;lia
noncomputable def subL (e:Nat) (lo hi:Int) (n:Nat):List Nat:=(List.range n).filter λx=>decide (e &&& x=x/\lo<=x/\(x:Int)<=hi)
theorem zkl (e:Nat)(lo hi:Int)(n:Nat):subL e lo hi (n+1)=subL e lo hi n++(if e &&& n=n/\lo<=n/\(n:Int)<=hi then[n] else[]):=by
 unfold subL;rw[xih,xfj]
 congr 1
 by_cases c:e &&& n=n/\lo<=n/\(n:Int)<=hi
 ·rw[if_pos c];exact xcp (p:=λx:Nat=>decide (e &&& x=x/\lo<=x/\(x:Int)<=hi)) (xbv c)
 ·rw[if_neg c];exact xcx (p:=λx:Nat=>decide (e &&& x=x/\lo<=x/\(x:Int)<=hi)) (by rw[xby c];decide)
theorem zht {e:Nat}{lo hi:Int}{n:Nat}:∀(k:Nat),(∀x,n<=x->x < n+k->¬ (e &&& x=x/\lo<=x/\(x:Int)<=hi))->subL e lo hi (n+k)=subL e lo hi n
 | 0,_=>rfl
 | k+1,h=>by
  rw[← Nat.add_assoc,zkl,if_neg (h _ (by lia) (by lia)),xcy];exact zht k λx h1 h2=>h x h1 (by lia)
theorem zik (e:Nat)(lo hi:Int)(n:Nat):(subL e lo hi n).length<=n:=by
 have:=xfh (λx=>decide (e &&& x=x/\lo<=x/\(x:Int)<=hi)) (List.range n);rw[xeo] at this;exact this
def sharesL (e:Nat) (lo hi:Int):List Nat:=subL e lo hi (e+1)
theorem zdd {e j:Nat}{lo hi:Int}:j∈sharesL e lo hi↔(In e j/\lo<=j/\(j:Int)<=hi):=by
 unfold sharesL subL;rw[xdo,xcf,xmv];exact⟨λh=>h.2,λh=>⟨xmo h.1.le,h⟩⟩
theorem zya {e j:Nat}{lo hi:Int}(hj:In e j)(lt:j < e)(hh:(j:Int)<=hi):subL e lo hi (nxt e j)=subL e lo hi j++(if lo<=j then[j] else[]):=by
 have g:=zbjr lt;obtain⟨k,hk⟩:∃k,nxt e j=(j+1)+k:=⟨nxt e j - (j+1),(xcm g).symm⟩
 rw[hk,zht k λx h1 h2 c=>?_,zkl]
 ·congr 1
  by_cases c:lo<=j
  ·rw[if_pos ⟨hj,c,hh⟩,if_pos c]
  ·rw[if_neg λz=>c z.2.1,if_neg c]
 ·have:=zze hj c.1 (by lia);lia
theorem zoc {e j:Nat}{lo hi:Int}(hj:In e j)(hh:hi < j):sharesL e lo hi=subL e lo hi j:=by
 have:=hj.le;obtain⟨k,hk⟩:∃k,e+1=j+k:=⟨e+1 - j,(xcm (xgd this)).symm⟩
 unfold sharesL;rw[hk];exact zht k λx h1 h2 c=>by lia
theorem zrq {e:Nat}{lo hi:Int}(hh:(e:Int)<=hi):sharesL e lo hi=subL e lo hi e++(if lo<=e then[e] else[]):=by
 unfold sharesL;rw[zkl]
 congr 1
 by_cases c:lo<=e
 ·rw[if_pos ⟨zbkj e,c,hh⟩,if_pos c]
 ·rw[if_neg λz=>c z.2.1,if_neg c]
end K13
namespace Dd
open PySem L2 K13
theorem znq    (I:Nat->DS->Store->Prop)    (h0:I k σ au)(hm:k < 1000000)
  (s:∀j σ au,I j σ au->WP (c σ au) (λb st1=>if b=true then WP (body σ st1) (loopK (λσ2 st2=>∃i,i < j/\I i σ2 st2) Q) else Q (.nx σ) st1)):WP (sWhile c body σ au) Q:=by
 have main:∀n j σ au,I j σ au->j < n->WP (whileF c body n σ au) Q:=by
  intro n
  induction n with
  | zero=>intro j σ au _ h;lia
  | succ n ih =>
   intro j σ au hI hlt;obtain⟨b,st1,e1,w⟩:=(s j σ au hI).get;unfold whileF;rw[e1];dsimp only[zdh];cases b with
   | false=>exact w
   | true =>
    rw[if_pos rfl] at w ⊢;obtain⟨fl,st2,e2,w⟩:=w.get;rw[e2];cases fl with
    | nx σ2=>obtain⟨i,hi,h⟩:=w;exact ih i σ2 st2 h (by lia)
    | ct σ2=>obtain⟨i,hi,h⟩:=w;exact ih i σ2 st2 h (by lia)
    | brk σ2=>exact w
    | ret v=>exact w
 exact main wCap k σ au h0 hm
noncomputable def dN (j:Nat):D:=.int (j:Int)
section
theorem zyf {e:Nat}{lo hi:Int}(he:e<=100000)(k:∀g,Q (.lst ((sharesL e lo hi).map dN)) (au++g)):WP (zlz [.int e,.int lo,.int hi] au) Q:=by
 refine zdz rfl ?_;simp only[W,V];refine⟨small _ (by simp),?_⟩;have fin:∀(xs:List Nat) (v:Option D),xs=sharesL e lo hi->WP (sRet (eFz (aA 3)) [some (.int e),some (.int lo),some (.int hi),some (.ref au.length),v] (au++[.lst (xs.map dN)])) (retK Q):=λxs v h=>by
  subst h;simp only[W,V,M];refine⟨_,_,rfl,by simp;rfl,?_⟩;have:=k [.dead]
  simpa using this
 refine znq (λm σ s=>∃j:Nat,m=e - j/\σ=[some (.int e),some (.int lo),some (.int hi),some (.ref au.length),some (.int j)]/\In e j/\s=au++[.lst ((subL e lo hi j).map dN)]) (k:=e) ⟨0,rfl,rfl,zbbr e,rfl⟩ (by lia) ?_;rintro m σ s ⟨j,rfl,rfl,hj,rfl⟩;simp only[W,V,Dd.N];have hle:=hj.le;split
 ·rename_i hh;unfold zkh;refine zfm (R:=λfl s=>fl=.nx [some (.int e),some (.int lo),some (.int hi),some (.ref au.length),some (.int j)]/\s=au++[.lst ((subL e lo hi j++(if lo<=j then[j] else[])).map dN)]) ?_ ?_
  ·simp only[W,V,M,Dd.N];split
   ·rename_i c;have hlen:=zik e lo hi j;refine⟨_,_,rfl,by simp;rfl,_,_,rfl,by simp;rfl,by rw[xbb];exact smallT _ (by lia),?_⟩;simp[dN,c]
   ·rename_i c;simp[c]
  ·rintro fl s ⟨rfl,rfl⟩;simp only[W,V,L];split
   ·rename_i c;have c':j=e:=by lia
    subst c';have:=fin (subL j lo hi j++(if lo<=j then[j] else[])) (some (.int j)) (zrq hh).symm;simp only[W,V] at this;exact this
   ·rename_i c;have lt:j < e:=by lia
    have g:=zbjr lt;have g2:=zbpg e j;refine⟨trivial,trivial,e - nxt e j,by lia,nxt e j,rfl,?_,zbph e j,?_⟩
    ·rw[zbjq lt]
    ·rw[zya hj lt hh]
 ·rename_i hh;have:=fin (subL e lo hi j) (some (.int j)) (zoc hj (by lia)).symm;simp only[W,V] at this;exact this
end
noncomputable abbrev Pt:=List Int×Int
def ptD (p:Pt):D:=.tup [aL p.1,.int p.2]
def letJ (e:Nat) (rest:Int) (p:Pt):List Pt:=(sharesL e (p.2 - rest) p.2).map λj:Nat=>(p.1++[(e:Int)+(j:Int)],p.2 - (j:Int))
def letL (e:Nat) (rest:Int) (ps:List Pt):List Pt:=ps.flatMap (letJ e rest)
theorem zbey (e:Nat)(rest:Int)(p:Pt):(letJ e rest p).length<=e+1:=by
 unfold letJ;rw[xbb];exact zik _ _ _ _
theorem zor (e:Nat)(rest:Int):∀ps:List Pt,(letL e rest ps).length<=ps.length * (e+1)
 | []=>by simp[letL]
 | p::ps=>by
  have e1:letL e rest (p::ps)=letJ e rest p++letL e rest ps:=by simp[letL]
  have:=zor e rest ps;have:=zbey e rest p;rw[e1,xbi,xcb,xjx];lia
theorem zzk (e:Nat)(rest:Int)(ps:List Pt)(p:Pt):letL e rest (ps++[p])=letL e rest ps++letJ e rest p:=by simp[letL]
theorem zbet {e:Nat}{rest:Int}  :q∈letL e rest ps↔∃p∈ps,∃j:Nat,j∈sharesL e (p.2 - rest) p.2/\q=(p.1++[(e:Int)+(j:Int)],p.2 - (j:Int)):=by
 unfold letL letJ;simp only[xel,xbk];constructor
 ·rintro⟨p,hp,j,hj,rfl⟩;exact⟨p,hp,j,hj,rfl⟩
 ·rintro⟨p,hp,j,hj,rfl⟩;exact⟨p,hp,j,hj,rfl⟩
section
theorem zml (o o':O)(g:Store):(au++o::g).set au.length o'=au++o'::g:=by simp
theorem zhc (o:O)(g:Store):(au++o::g)[au.length]?=some o:=by simp
theorem zhb {α:Type}{f:α->D}{l:List α}{i:Nat}{x:D}(h:(l.map f)[i]?=some x):∃a,l[i]?=some a/\x=f a:=by
 rw[xco] at h;obtain⟨a,h1,h2⟩:=xdj.mp h;exact⟨a,h1,h2.symm⟩
section
variable {au:Store}{Q:D->Store->Prop}
theorem ziw {e:Nat}{rest:Int}{ps:List Pt}(he:e<=1000)(hl:ps.length * (e+1)<=100000)(hr:∀p∈ps,p.1.length<=1000)(k:∀g,Q (.lst ((letL e rest ps).map ptD)) (au++g)):WP (zbz [.lst (ps.map ptD),.int e,.int rest] au) Q:=by
 refine zdz rfl ?_;simp only[W,V,Dd.N];refine⟨small _ (by simp),?_⟩;refine zdo (λi σ s=>(∃v w z,σ=[some (.lst (ps.map ptD)),some (.int e),some (.int rest),some (.ref au.length),v,w,z])/\∃g,s=au++(.lst ((letL e rest (ps.take i)).map ptD)::g)) ⟨⟨_,_,_,rfl⟩,[],rfl⟩ ?_ ?_
 ·rintro i y σ s hy ⟨⟨v,w,z,rfl⟩,g,rfl⟩;obtain⟨p,hp,rfl⟩:=zhb hy;have hi:i < ps.length:=(xbg.mp hp).1;refine⟨_,rfl,?_⟩;unfold zdj;simp only[W,V,Dd.N];have hlen:(letL e rest (ps.take i)).length+(e+1)<=100000:=by
   have h1:=zor e rest (ps.take i);have h2:(ps.take i).length=i:=by rw[xcu];lia
   rw[h2] at h1;have h3:(i+1) * (e+1)<=ps.length * (e+1):=xfl _ hi;rw[xjx] at h3;lia
  refine zyf (by lia) λg2=>?_
  simp only[W,V,Dd.N];rw[xck,xhx];generalize g++g2=g3;have hsl:(sharesL e (p.2 - rest) p.2).length<=e+1:=zik _ _ _ _;refine zdo (λj σ s=>(∃z,σ=[some (.lst (ps.map ptD)),some (.int e),some (.int rest),some (.ref au.length),some (aL p.1),some (.int p.2),z])/\s=au++(.lst ((letL e rest (ps.take i)++((sharesL e (p.2 - rest) p.2).take j).map λj:Nat=>(p.1++[(e:Int)+j],p.2 - (j:Int))).map ptD)::g3)) ⟨⟨_,rfl⟩,by simp⟩ ?_ ?_
  ·rintro j y σ s hy ⟨⟨z,rfl⟩,rfl⟩;obtain⟨a,ha,rfl⟩:=zhb hy;refine⟨_,rfl,?_⟩;unfold zdk dN;simp only[W,V,M,Dd.N,L];have h2:((sharesL e (p.2 - rest) p.2).take j).length<=(sharesL e (p.2 - rest) p.2).length:=by rw[xcu];exact xfu _ _
   have h3:=hr p (xbz hp);refine⟨_,_,rfl,zhc _ _,small _ (by simp),by rw[xbb];exact small _ (by simp;lia),small _ (by simp),_,_,rfl,zhc _ _,by rw[xbb,xbi,xbb];exact smallT _ (by lia),⟨_,rfl⟩,?_⟩;rw[zml,zh ha];simp[ptD,aL]
  ·rintro σ s ⟨⟨z,rfl⟩,rfl⟩;simp only[L];refine⟨⟨_,_,_,rfl⟩,g3,?_⟩;rw[xbb,xce,zh hp,zzk]
   rfl
 ·rintro σ s ⟨⟨v,w,z,rfl⟩,g,rfl⟩;rw[xbb,xce];simp only[W,V,M,Dd.N];refine⟨_,_,rfl,zhc _ _,?_⟩;rw[zml];exact k _
end
def stepP (s:Int×List Pt) (e:Int):Int×List Pt:=(s.1 - e,letL e.toNat (s.1 - e) s.2)
def prodS (r:List Int) (k:Int) (m:List Int):Int×List Pt:=m.foldl stepP (r.sum,[([],k)])
def prodP (r:List Int) (k:Int):List (List Int):=(prodS r k r).2.map (·.1)
noncomputable def box:List Int->Nat
 | []=>1
 | e::r=>(e.toNat+1) * box r
theorem zdg:∀a b:List Int,box (a++b)=box a * box b
 | [],b=>by simp[box]
 | e::a,b=>by rw[xhx,box,box,zdg a b,Nat.mul_assoc]
theorem zbcq:∀a:List Int,1<=box a
 | []=>xbf _
 | e::a=>by have:=zbcq a;unfold box;exact xbc this (xks _ (by lia))
theorem zwq (r:List Int)(i:Nat):box (r.take i)<=box r:=by
 have e:=zdg (r.take i) (r.drop i);rw[xdf] at e;rw[e];exact Nat.le_mul_of_pos_right _ (zbcq _)
theorem zmq (r:List Int)(k:Int)(m:List Int)(e:Int):prodS r k (m++[e])=stepP (prodS r k m) e:=by unfold prodS;rw[xhr];rfl
theorem zqe {r:List Int}{k:Int}{P:List Int->Int×List Pt->Prop}(h0:P [] (r.sum,[([],k)]))(h:∀m e s,P m s->P (m++[e]) (stepP s e)):∀(i:Nat),P (r.take i) (prodS r k (r.take i)):=λi=>by
 induction i with
 | zero=>exact h0
 | succ i ih =>
  by_cases c:i < r.length
  ·have g:r[i]?=some r[i]:=xbd c;rw[zh g,zmq];exact h _ _ _ ih
  ·rw[xdk (by lia)] at ih ⊢;exact ih
theorem zkq (r:List Int)(k:Int)(i:Nat):(prodS r k (r.take i)).2.length<=box (r.take i):=by
 refine zqe (P:=λm s=>s.2.length<=box m) (by simp[box]) (λm e s hs=>?_) i;have:=zor e.toNat (s.1 - e) s.2;rw[zdg];show(letL e.toNat (s.1 - e) s.2).length<=box m * ((e.toNat+1) * 1)
 rw[Nat.mul_one];exact xbc this (xfl _ hs)
theorem zyn (r:List Int)(k:Int)(i:Nat):∀p∈(prodS r k (r.take i)).2,p.1.length=(r.take i).length:=by
 refine zqe (P:=λm s=>∀p∈s.2,p.1.length=m.length) (by simp) (λm e s hs=>?_) i;intro q hq;obtain⟨p,hp,j,hj,rfl⟩:=zbet.mp hq;rw[xbi,xbi,hs p hp]
 rfl
section
variable {au:Store}{Q:D->Store->Prop}
theorem zhm {r:List Int}{t:Int}(hp:∀x∈r,0<=x/\x<=1000)(hl:r.length<=1000)(hb:box r<=20000)(k:∀g,Q (.lst (aJ (prodP r t))) (au++g)):WP (zbu [aL r,.int t] au) Q:=by
 refine zdz rfl ?_;simp only[W,V,M,Dd.N];refine⟨small _ (by simp),small _ (by simp),small _ (by simp),r,zcr r,?_⟩;refine zdo (λi σ s=>(∃v,σ=[some (aL r),some (.int t),some (.lst ((prodS r t (r.take i)).2.map ptD)),some (.int (prodS r t (r.take i)).1),v])/\∃g,s=au++g) ⟨⟨_,rfl⟩,[],by simp⟩ ?_ ?_
 ·rintro i y σ s hy ⟨⟨v,rfl⟩,g,rfl⟩;obtain⟨e,he,rfl⟩:=zhb hy;refine⟨_,rfl,?_⟩;unfold zcy;obtain⟨h1,h2⟩:=hp e (xbz he);simp only[W,V,M,Dd.N,L];refine⟨_,rfl,?_⟩;have hlen:=zkq r t i;have hbx:=zwq r (i+1);rw[zh he,zdg,show box [e]=e.toNat+1 by simp[box]] at hbx;have hm:(prodS r t (r.take i)).2.length * (e.toNat+1)<=20000:=xbc (xfl _ hlen) (xbc hbx hb);have hrow:=zyn r t i;rw[zh he,zmq];generalize prodS r t (r.take i)=s at hm hrow ⊢;obtain⟨a,rfl⟩:=xgt h1;refine ziw (e:=a) (by lia) (by rw[xef] at hm;lia) (λp hp=>?_) λg2=>?_
  ·rw[hrow p hp,xcu];lia
  ·simp only[W,V,L];exact⟨⟨_,rfl⟩,g++g2,by simp⟩
 ·rintro σ s ⟨⟨v,rfl⟩,g,rfl⟩;rw[xbb,xce];simp only[W,V,M,Dd.N];have hlen:=zkq r t r.length;rw[xce] at hlen;refine⟨by rw[xbb];exact small _ (by lia),?_⟩;refine zhl (as:=(prodS r t r).2) (λσ=>∃v w,σ=[v,w]) (λ_=>true) (λp=>aL p.1) ptD ⟨_,_,rfl⟩ ?_ ?_
  ·rintro p hp σ ⟨v,w,rfl⟩;exact⟨_,rfl,⟨_,_,rfl⟩,by simp only[W,xge],λ_=>by simp only[W,V,xge]⟩
  ·rw[zcv];have:=k g;unfold prodP aJ at this;rw[xcr] at this;exact this
end
theorem zqf (r:List Int)(k:Int):(prodP r k).length<=box r:=by
 have:=zkq r k r.length;rw[xce] at this;unfold prodP;rw[xbb];exact this
def raiseR (k:Int) (r:List Int):List (List Int):=if k<=r.sum then prodP r k else[]
def raiseL (k:Int) (l:List (List Int)):List (List Int):=l.flatMap (raiseR k)
theorem zmp    (h:box r<=B):(raiseR k r).length<=B:=by
 unfold raiseR;split
 ·exact xbc (zqf r k) h
 ·simp
theorem zfq  :∀{l:List (List Int)},(∀r∈l,box r<=B)->(raiseL k l).length<=l.length * B
 | [],_=>by simp[raiseL]
 | r::l,h=>by
  have e:raiseL k (r::l)=raiseR k r++raiseL k l:=by simp[raiseL]
  have h1:=zmp (k:=k) (h r xbp);have h2:=zfq (k:=k) (l:=l) λx hx=>h x (xbm _ hx)
  rw[e,xbi,xcb,xjx];lia
theorem zjt (k:Int)(l:List (List Int))(r:List Int):raiseL k (l++[r])=raiseL k l++raiseR k r:=by simp[raiseL]
theorem zyl   (ht:0<=t)(hp:∀r∈l,∀x∈r,0<=x/\x<=1000)(hr:∀r∈l,r.length<=1000)(hb:∀r∈l,box r<=20000)(hl:l.length<=45)(k:∀g,Q (aK (aO (raiseL t l))) (au++g)):WP (zma [aK l,.int t] au) Q:=by
 refine zdz rfl ?_;simp only[W,V,Dd.N];refine WP.of (zgp (au:=au) (i:=t)) ⟨true,rfl,?_⟩;have tn:¬ t < 0:=by lia
 simp only[W,V,Dd.N,tn,xgf];have total:(raiseL t l).length<=900000:=by
  have:=zfq (k:=t) hb;lia
 refine zdo (λi σ s=>(∃v w,σ=[some (aK l),some (.int t),some (.ref au.length),v,w])/\∃g,s=au++(.dT (aQ (aN (raiseL t (l.take i))))::g)) ⟨⟨_,_,rfl⟩,[],rfl⟩ ?_ ?_
 ·rintro i y σ s hy ⟨⟨v,w,rfl⟩,g,rfl⟩;obtain⟨r,hrr,rfl⟩:=zby hy;have hm:=xbz hrr;have hi:i < l.length:=(xbg.mp hrr).1;refine⟨_,rfl,?_⟩;unfold zki;simp only[W,V,M,Dd.N,L];refine⟨r,zcr r,?_⟩;rw[zh hrr,zjt];have hlen:(aN (raiseL t (l.take i))).length<=900000:=by
   have h1:=zcj (raiseL t (l.take i));have h2:=zfq (k:=t) (l:=l.take i) (B:=20000) λx hx=>hb x (xew hx)
   have h3:(l.take i).length=i:=by rw[xcu];lia
   rw[h3] at h2;lia
  split
  ·rename_i c;have er:raiseR t r=prodP r t:=by unfold raiseR;rw[if_pos c]
   rw[er];refine zhm (hp r hm) (hr r hm) (hb r hm) λg2=>?_
   simp only[W,V,Dd.N];rw[xck,xhx];generalize g++g2=g3;have hpl:=xbc (zqf r t) (hb r hm);refine zdo (λj σ s=>(∃w,σ=[some (aK l),some (.int t),some (.ref au.length),some (aL r),w])/\s=au++(.dT (aQ (((prodP r t).take j).foldl aP (aN (raiseL t (l.take i)))))::g3)) ⟨⟨_,rfl⟩,rfl⟩ ?_ ?_
   ·rintro j y σ s hy ⟨⟨w,rfl⟩,rfl⟩;obtain⟨b,hb',rfl⟩:=zby hy;refine⟨_,rfl,?_⟩;unfold zkj;simp only[W,V,L];have h1:=zlk ((prodP r t).take j) (aN (raiseL t (l.take i))) (zec _);have h2:((prodP r t).take j).length<=(prodP r t).length:=by rw[xcu];exact xfu _ _
    refine zbcb (ks:=((prodP r t).take j).foldl aP (aN (raiseL t (l.take i)))) (zhc _ _) (by lia) ⟨⟨_,rfl⟩,?_⟩;rw[zml,zh hb',xhr]
    rfl
   ·rintro σ s ⟨⟨w,rfl⟩,rfl⟩;simp only[L];refine⟨⟨_,_,rfl⟩,g3,?_⟩;rw[ze,xce];unfold aN;rw[xhr]
  ·rename_i c;have er:raiseR t r=[]:=by unfold raiseR;rw[if_neg c]
   rw[er,xcy]
   try simp only[L]
   exact⟨⟨_,_,rfl⟩,g,rfl⟩
 ·rintro σ s ⟨⟨v,w,rfl⟩,g,rfl⟩;rw[ze,xce];simp only[W,V];have h1:=zcj (raiseL t l);refine zpz (ks:=aN (raiseL t l)) (zhc _ _) (by lia) ?_;simp only[W,V];exact k _
end
theorem zlc:∀{r:List Int},(∀x∈r,0<=x)->0<=r.sum
 | [],_=>by simp
 | x::r,h=>by
  have:=zlc (r:=r) λy hy=>h y (xbm _ hy)
  have:=h x xbp;rw[xgr];lia
theorem zbnd:∀{r:List Int},(∀x∈r,0<=x)->∀x∈r,x<=r.sum
 | [],_,_,h=>nomatch h
 | y::r,h,x,hx=>by
  have h1:=λz hz=>h z (xbm y hz)
  have h2:=zlc h1;have h3:=h y xbp;rw[xgr];rcases xbs.mp hx with rfl | hx
  ·lia
  ·have:=zbnd h1 x hx;lia
theorem zyc (e:Int)(suf:List Int)(ps:List Pt):(e::suf).foldl stepP ((e::suf).sum,ps)=suf.foldl stepP (suf.sum,letL e.toNat suf.sum ps):=by
 rw[xhl,xgr];unfold stepP;dsimp only;rw[show e+suf.sum - e=suf.sum by lia]
theorem zbcp:∀{r:List Int},(∀x∈r,x<=24)->box r<=25 ^ r.length
 | [],_=>xbf _
 | e::r,h=>by
  have h1:=h e xbp;have h2:=zbcp (r:=r) λx hx=>h x (xbm _ hx)
  rw[xcb,xlk,Nat.mul_comm];exact Nat.mul_le_mul (by lia) h2
theorem zbco:∀{r:List Int},(∀x∈r,0<=x)->box r<=2 ^ r.sum.toNat
 | [],_=>by simp[box]
 | e::r,h=>by
  have h1:=h e xbp;have h1':=λx hx=>h x (xbm e hx)
  have h2:=zbco h1';have h3:=zlc h1';rw[xgr,show(e+r.sum).toNat=e.toNat+r.sum.toNat by lia,Nat.pow_add];exact Nat.mul_le_mul (Nat.succ_le_of_lt Nat.lt_two_pow_self) h2
section
end
end Dd
namespace K13
end K13
namespace Dd
open PySem L2 K13
theorem zhs     :WP (eExtend f g σ au) Q=WP (f σ au) (λx st1=>∃n xs0,x=.ref n/\st1[n]?=some (.lst xs0)/\WP (g σ st1) (λys st2=>∃y xs zs,ys=[y]/\st2[n]?=some (.lst xs)/\asL st2 y=some zs/\xs.length+zs.length<=sizeLine/\Q .non (st2.set n (.lst (xs++zs))))):=by
 rw[zbaa,zf]
 congr
 funext x st1
 apply propext;constructor
 ·intro q;split at q
  ·rename_i n xs0 e;rw[zf] at q;have e':st1[n]?=some (.lst xs0):=by
    unfold asL at e;dsimp only at e;split at e
    ·cases e;assumption
    ·cases e
   refine⟨n,xs0,rfl,e',q.mono λys st2 h=>?_⟩;split at h
   ·split at h
    ·split at h
     ·exact⟨_,_,_,rfl,by assumption,by assumption,by assumption,h⟩
     ·exact h.elim
    ·exact h.elim
   ·exact h.elim
  ·exact q.elim
 ·rintro⟨n,xs0,rfl,e,q⟩;rw[zkg e];dsimp only;rw[zf];refine q.mono λys st2 h=>?_
  obtain⟨y,xs,zs,rfl,e2,e3,hl,h⟩:=h;rw[e2];dsimp only;rw[e3];dsimp only;rw[if_pos hl];exact h
section
def lawJ (e:Nat) (p:Pt):List Pt:=(sharesL e 0 p.2).map λj:Nat=>(p.1++[(e:Int)+(j:Int)],p.2 - (j:Int))
def lawL (e:Nat) (ps:List Pt):List Pt:=ps.flatMap (lawJ e)
theorem zvg (e:Nat)(p:Pt):(lawJ e p).length<=e+1:=by
 unfold lawJ;rw[xbb];exact zik _ _ _ _
theorem zzo (e:Nat)(ps:List Pt)(p:Pt):lawL e (ps++[p])=lawL e ps++lawJ e p:=by simp[lawL]
theorem zos (e:Nat):∀ps:List Pt,(lawL e ps).length<=ps.length * (e+1)
 | []=>by simp[lawL]
 | p::ps=>by
  have e1:lawL e (p::ps)=lawJ e p++lawL e ps:=by simp[lawL]
  have:=zos e ps;have:=zvg e p;rw[e1,xbi,xcb,xjx];lia
theorem zuu   :q∈lawL e ps↔∃p∈ps,∃j:Nat,j∈sharesL e 0 p.2/\q=(p.1++[(e:Int)+(j:Int)],p.2 - (j:Int)):=by
 unfold lawL lawJ;simp only[xel,xbk];constructor
 ·rintro⟨p,hp,j,hj,rfl⟩;exact⟨p,hp,j,hj,rfl⟩
 ·rintro⟨p,hp,j,hj,rfl⟩;exact⟨p,hp,j,hj,rfl⟩
theorem zmk {e:Nat}{left:Int}(h:0<=left):(List.range ((if left < (e:Int) then left else(e:Int))+1).toNat).filter (λx=>decide (e &&& x=x))=sharesL e 0 left:=by
 have key:∀n:Nat,(n:Int)<=left+1->subL e 0 left n=(List.range n).filter (λx=>decide (e &&& x=x)):=λn hn=>by
  unfold subL;refine xhs λx hx=>?_
  have:=xcf.mp hx;have h1:(0:Int)<=(x:Int):=by lia
  have h2:(x:Int)<=left:=by lia
  simp[h1,h2]
 rw[← key _ (by split<;>lia)];unfold sharesL;split
 ·rename_i c;obtain⟨k,hk⟩:∃k,e+1=(left+1).toNat+k:=⟨e+1 - (left+1).toNat,by lia⟩
  rw[hk];exact(zht k λx h1 h2 z=>by lia).symm
 ·rw[show((e:Int)+1).toNat=e+1 by lia]
end
def lawStep (ps:List Pt) (e:Int):List Pt:=lawL e.toNat ps
def lawS (k:Int) (m:List Int):List Pt:=m.foldl lawStep [([],k)]
def lawP (k:Int) (r:List Int):List (List Int):=((lawS k r).filter λp=>decide (p.2=0)).map (·.1)
theorem ztl   (h:0<=left):(sharesL e 0 left).filter (λj:Nat=>decide (left - (j:Int)<=S))=sharesL e (left - S) left:=by
 unfold sharesL subL;rw[xmb];refine xhs λx _=>?_
 rw[← xll];exact xgz.mpr ⟨λh=>⟨h.2.1,by lia,h.2.2.2⟩,λh=>⟨by lia,h.1,by lia,h.2.2⟩⟩
theorem zzl {e:Nat}{S:Int}  (h:¬ p.2<=e+S):letJ e S p=[]:=by
 unfold letJ;have:sharesL e (p.2 - S) p.2=[]:=by
  refine xlm.mpr λj hj=>?_
  obtain⟨h1,h2,h3⟩:=zdd.mp hj;have:=h1.le;lia
 rw[this]
 rfl
theorem zbfc    (h:0<=p.2):(lawJ e p).filter (λq=>decide (q.2<=S))=letJ e S p:=by
 unfold lawJ letJ;rw[xli,← ztl h]
 rfl
theorem zvf {e:Nat}{S:Int}:∀{ps:List Pt},(∀p∈ps,0<=p.2)->(lawL e ps).filter (λq=>decide (q.2<=S))=letL e S (ps.filter λp=>decide (p.2<=e+S))
 | [],_=>rfl
 | p::ps,h=>by
  have ih:=zvf (e:=e) (S:=S) (ps:=ps) λq hq=>h q (xbm _ hq)
  have e1:lawL e (p::ps)=lawJ e p++lawL e ps:=by simp[lawL]
  rw[e1,xfj,ih,zbfc (h p xbp)];by_cases c:p.2<=e+S
  ·rw[xcp (by simpa using c)];simp[letL]
  ·rw[xcx (by simpa using c),zzl c]
   rfl
theorem zra:∀(suf:List Int) (ps:List Pt),(∀x∈suf,0<=x)->(∀p∈ps,0<=p.2)->(suf.foldl lawStep ps).filter (λp=>decide (p.2=0))=(suf.foldl stepP (suf.sum,ps.filter λp=>decide (p.2<=suf.sum))).2
 | [],ps,_,h=>by
  show ps.filter _=ps.filter _;refine xhs λp hp=>?_
  have:=h p hp;exact xgz.mpr ⟨λz=>by simp;lia,λz=>by simp at z;lia⟩
 | e::suf,ps,hs,h=>by
  have h1:=λz hz=>hs z (xbm e hz)
  have h3:=hs e xbp;rw[zyc,xhl,zra suf (lawStep ps e) h1 (λq hq=>?_)]
  ·unfold lawStep;rw[zvf h,xgr,show((e.toNat:Nat):Int)=e by lia]
  ·obtain⟨p,hp,j,hj,rfl⟩:=zuu.mp hq;obtain⟨j1,j2,j3⟩:=zdd.mp hj;dsimp only;lia
theorem zpy:∀(suf:List Int) (t:Int),(suf.foldl stepP (t,[])).2=[]
 | [],_=>rfl
 | e::suf,t=>by
  rw[xhl];exact zpy suf (t - e)
theorem zbbm   (h:∀x∈r,0<=x)(hk:0<=k):lawP k r=raiseR k r:=by
 unfold lawP lawS;rw[zra r [([],k)] h (λp hp=>by rw[xbq.mp hp];exact hk)];unfold raiseR;by_cases c:k<=r.sum
 ·rw[if_pos c,xcp (by simpa using c)]
  rfl
 ·rw[if_neg c,xcx (by simpa using c)];show(r.foldl stepP (r.sum,[])).2.map _=[]
  rw[zpy]
  rfl
theorem zlg (k:Int)(m:List Int)(e:Int):lawS k (m++[e])=lawStep (lawS k m) e:=by unfold lawS;rw[xhr];rfl
theorem zve {k:Int}{P:List Int->List Pt->Prop}(h0:P [] [([],k)])(h:∀m e s,P m s->P (m++[e]) (lawStep s e))(r:List Int):∀(i:Nat),P (r.take i) (lawS k (r.take i)):=λi=>by
 induction i with
 | zero=>exact h0
 | succ i ih =>
  by_cases c:i < r.length
  ·have g:r[i]?=some r[i]:=xbd c;rw[zh g,zlg];exact h _ _ _ ih
  ·rw[xdk (by lia)] at ih ⊢;exact ih
theorem zvd (r:List Int)(k:Int)(i:Nat):(lawS k (r.take i)).length<=box (r.take i):=by
 refine zve (P:=λm s=>s.length<=box m) (by simp[box]) (λm e s hs=>?_) r i;have:=zos e.toNat s;rw[zdg];show(lawL e.toNat s).length<=box m * ((e.toNat+1) * 1)
 rw[Nat.mul_one];exact xbc this (xfl _ hs)
theorem zbfa (r:List Int){k:Int}(hk:0<=k)(i:Nat):∀p∈lawS k (r.take i),p.1.length=(r.take i).length/\0<=p.2:=by
 refine zve (P:=λm s=>∀p∈s,p.1.length=m.length/\0<=p.2) (by simpa using hk) (λm e s hs=>?_) r i;intro q hq;obtain⟨p,hp,j,hj,rfl⟩:=zuu.mp hq;obtain⟨j1,j2,j3⟩:=zdd.mp hj;obtain⟨h1,h2⟩:=hs p hp;dsimp only;rw[xbi,xbi,h1];exact⟨rfl,by lia⟩
section
end
end Dd
namespace K08
end K08
namespace Dd
open PySem L2 K13
def outL (e:Nat):List Int:=(sharesL e 0 e).map λj:Nat=>(e:Int)+(j:Int)
noncomputable def longL (rows:List (List Int)) (xs:List Int):List (List Int):=rows.flatMap λrow=>xs.map λx=>row++[x]
def wholeStep (rows:List (List Int)) (e:Int):List (List Int):=longL rows (outL e.toNat)
def wholeS (m:List Int):List (List Int):=m.foldl wholeStep [[]]
theorem zdb (m:List Int)(e:Int):wholeS (m++[e])=wholeStep (wholeS m) e:=by unfold wholeS;rw[xhr];rfl
theorem zrp  :(sharesL e 0 e).filter (λj:Nat=>decide ((j:Int)<=left))=sharesL e 0 left:=by
 unfold sharesL subL;rw[xmb];refine xhs λx hx=>?_
 have:=xcf.mp hx;rw[← xll];exact xgz.mpr ⟨λh=>⟨h.2.1,h.2.2.1,h.1⟩,λh=>⟨h.2.2,h.1,h.2.1,by lia⟩⟩
def fitP (k M:Int) (rows:List (List Int)):List Pt:=(rows.filter λrow=>decide (row.sum - M<=k)).map λrow=>(row,k - (row.sum - M))
theorem zvu {k M:Int}{e:Nat}:∀rows:List (List Int),fitP k (M+e) (longL rows (outL e))=lawL e (fitP k M rows)
 | []=>rfl
 | row::rows=>by
  have ih:=zvu (k:=k) (M:=M) (e:=e) rows;have e1:longL (row::rows) (outL e)=((outL e).map λx=>row++[x])++longL rows (outL e):=by simp[longL]
  have e2:fitP k (M+e) (longL (row::rows) (outL e))=fitP k (M+e) ((outL e).map λx=>row++[x])++fitP k (M+e) (longL rows (outL e)):=by
   rw[e1];unfold fitP;rw[xfj,xdr]
  have e3:fitP k (M+e) ((outL e).map λx=>row++[x])=(sharesL e 0 (k - (row.sum - M))).map λj:Nat=>(row++[(e:Int)+(j:Int)],k - (row.sum - M) - (j:Int)):=by
   unfold fitP outL;rw[xcr,xli,xcr,show sharesL e 0 (k - (row.sum - M))=_ from zrp.symm];have e4:∀j:Nat,(row++[(e:Int)+(j:Int)]).sum - (M+e)=row.sum - M+j:=λj=>by rw[xej];simp;lia
   have e5:(sharesL e 0 e).filter ((λr:List Int=>decide (r.sum - (M+e)<=k)) ∘ ((λx=>row++[x]) ∘ λj:Nat=>(e:Int)+(j:Int)))=(sharesL e 0 e).filter λj:Nat=>decide ((j:Int)<=k - (row.sum - M)) :=
    xhs λj _=>by
     show decide ((row++[(e:Int)+(j:Int)]).sum - (M+e)<=k)=_;rw[e4];exact xgz.mpr ⟨λh=>by lia,λh=>by lia⟩
   rw[e5];refine xjo λj _=>?_
   show(row++[(e:Int)+(j:Int)],k - ((row++[(e:Int)+(j:Int)]).sum - (M+e)))=_;rw[e4]
   congr 1
   lia
  rw[e2,ih,e3];by_cases c:row.sum - M<=k
  ·have e6:fitP k M (row::rows)=(row,k - (row.sum - M))::fitP k M rows:=by
    unfold fitP;rw[xcp (by simpa using c)]
    rfl
   rw[e6];simp[lawL,lawJ]
  ·have e6:fitP k M (row::rows)=fitP k M rows:=by
    unfold fitP;rw[xcx (by simpa using c)]
   have e7:sharesL e 0 (k - (row.sum - M))=[]:=xlm.mpr λj hj=>by
    obtain⟨_,h2,h3⟩:=zdd.mp hj;lia
   rw[e6,e7]
   rfl
theorem zbfb {r:List Int}{k:Int}(h:∀x∈r,0<=x)(hk:0<=k):∀i:Nat,lawS k (r.take i)=fitP k (r.take i).sum (wholeS (r.take i)):=λi=>by
 induction i with
 | zero =>
  show[([],k)]=fitP k 0 [[]];unfold fitP;rw[xcp (by simpa using hk)];simp
 | succ i ih =>
  by_cases c:i < r.length
  ·have g:r[i]?=some r[i]:=xbd c;have h0:=h r[i] (xda c);rw[zh g,zlg,zdb,ih];unfold lawStep wholeStep;rw[← zvu,xej,show(r.take i).sum+[r[i]].sum=(r.take i).sum+(r[i].toNat:Int) by simp;lia]
  ·rw[xdk (by lia)] at ih ⊢;exact ih
theorem zfp {r:List Int}{k:Int}(h:∀x∈r,0<=x)(hk:0<=k):raiseR k r=(wholeS r).filter λm=>decide (m.sum=r.sum+k):=by
 have e:=zbfb h hk r.length;rw[xce] at e;rw[← zbbm h hk];unfold lawP;rw[e];unfold fitP;rw[xli,xcr,xmb];have:∀l:List (List Int),l.map ((λp:Pt=>p.1) ∘ λrow=>(row,k - (row.sum - r.sum)))=l:=λl=>by
  show l.map (λrow=>row)=l;exact xnk l
 rw[this];refine xhs λm _=>?_
 show(decide (k - (m.sum - r.sum)=0)&&decide (m.sum - r.sum<=k))=_;rw[← xll];exact xgz.mpr ⟨λh=>by lia,λh=>by lia⟩
theorem zmb {r:List Int}(h:∀x∈r,0<=x):∀(i:Nat),∀m∈wholeS (r.take i),(r.take i).sum<=m.sum/\m.sum<=2 * (r.take i).sum:=λi=>by
 induction i with
 | zero=>intro m hm;rw[xbq.mp (show m∈[[]] from hm)];simp
 | succ i ih =>
  by_cases c:i < r.length
  ·have g:r[i]?=some r[i]:=xbd c;have h0:=h r[i] (xda c);intro m hm;rw[zh g,zdb] at hm;unfold wholeStep longL outL at hm;obtain⟨row,hrow,hm⟩:=xel.mp hm;rw[xcr] at hm;obtain⟨j,hj,rfl⟩:=xbk.mp hm;obtain⟨j1,j2,j3⟩:=zdd.mp hj;obtain⟨a,b⟩:=ih row hrow;rw[zh g];simp only[Function.comp,xej,xgr,List.sum_nil];lia
  ·rw[xdk (by lia)] at ih ⊢;exact ih
theorem zmw {a b:List (List Int)}(h:∀x,a.count x % 2=b.count x % 2):aO a=aO b:=zul (zec a) λx=>by rw[ziu,h x]
theorem zeh (a:List (List Int))(x:List Int):(aO a).count x % 2=a.count x % 2:=by
 have nd:=zfs a;have mm:x∈aO a↔a.count x % 2=1:=by unfold aO;rw[(zco _).mem_iff,ziu]
 by_cases c:x∈aO a
 ·have h1:(aO a).count x<=1:=List.nodup_iff_count.mp nd x;have h2:0 < (aO a).count x:=xin.mpr c;have:=mm.mp c;lia
 ·have h1:(aO a).count x=0:=xio.mpr c;have:¬ a.count x % 2=1:=λz=>c (mm.mpr z)
  lia
theorem zxn {P:List Int->List (List Int)->Prop}(h0:P [] [[]])(h:∀m e s,P m s->P (m++[e]) (wholeStep s e))(r:List Int):∀(i:Nat),P (r.take i) (wholeS (r.take i)):=λi=>by
 induction i with
 | zero=>exact h0
 | succ i ih =>
  by_cases c:i < r.length
  ·have g:r[i]?=some r[i]:=xbd c;rw[zh g,zdb];exact h _ _ _ ih
  ·rw[xdk (by lia)] at ih ⊢;exact ih
theorem zsv (r:List Int)(i:Nat):∀m∈wholeS (r.take i),m.length=(r.take i).length:=by
 refine zxn (P:=λm s=>∀x∈s,x.length=m.length) (by simp) (λm e s hs=>?_) r i;intro x hx;unfold wholeStep longL at hx;obtain⟨row,h1,hx⟩:=xel.mp hx;obtain⟨y,h2,rfl⟩:=xbk.mp hx;rw[xbi,xbi,hs row h1]
 rfl
section
end
noncomputable abbrev Row:=List Int
noncomputable def tot {α:Type} (l:List α) (c:α->Nat):Nat:=(l.map c).sum
theorem znu {α:Type}(a:α)(l:List α)(c:α->Nat):tot (a::l) c=c a+tot l c:=by simp[tot]
theorem zte {α:Type}(a b:List α)(c:α->Nat):tot (a++b) c=tot a c+tot b c:=by simp[tot]
theorem zbdc {α:Type}{a b:List α}(h:a.Perm b)(c:α->Nat):tot a c=tot b c:=(h.map c).sum_nat
theorem ztd (c:Row->Nat):∀(n:Nat) (l:List Row),l.length<=n->(∀x,l.count x % 2=0)->tot l c % 2=0
 | _,[],_,_=>rfl
 | 0,_::_,h,_=>by simp at h
 | n+1,y::l,hn,h=>by
  have h1:=h y;rw[List.count_cons_self] at h1;have hy:y∈l:=xin.mp (by lia);have p:=List.perm_cons_erase hy;have ih:=ztd c n (l.erase y) (by rw[List.length_erase_of_mem hy];simp at hn;lia) λx=>by
   have h2:=h x;rw[xjr,p.count_eq,xjr] at h2;split at h2<;>lia
  rw[znu,zbdc p,znu];lia
theorem zbhx {a b:List Row}(c:Row->Nat)(h:∀x,a.count x % 2=b.count x % 2):tot a c % 2=tot b c % 2:=by
 have:=ztd c _ (a++b) (xbf _) λx=>by rw[xgo];have:=h x;lia
 rw[zte] at this;lia
theorem zeq  (h:∀x∈r,0<=x):∀m∈wholeS r,r.sum<=m.sum/\m.length=r.length:=λm hm=>by
 have h1:=zmb h r.length m (by rw[xce];exact hm);have h2:=zsv r r.length m (by rw[xce];exact hm);rw[xce] at h1 h2;exact⟨h1.1,h2⟩
noncomputable def xr {α:Type} (l:List α) (f:α->Nat):Nat:=l.foldr (λx b=>f x ^^^ b) 0
section
variable {α β:Type}
theorem zbr (x:α):xr (x::l) f=f x ^^^ xr l f:=rfl
theorem zdn:∀(l m:List α),xr (l++m) f=xr l f ^^^ xr m f
 | [],m=>(xhf _).symm
 | x::l,m=>by rw[xhx,zbr,zbr,zdn l m,xdm]
theorem zsp (h:β->α):∀l:List β,xr (l.map h) f=xr l λx=>f (h x)
 | []=>rfl
 | x::l=>by rw[xbu,zbr,zbr,zsp h l]
theorem zsr (h:β->List α):∀l:List β,xr (l.flatMap h) f=xr l λx=>xr (h x) f
 | []=>rfl
 | x::l=>by rw[xko,zdn,zbr,zsr h l]
theorem zm:∀{l:List α},(∀x∈l,f x=g x)->xr l f=xr l g
 | [],_=>rfl
 | x::l,h=>by rw[zbr,zbr,h x (xbp ..),zm λy hy=>h y (xbm _ hy)]
theorem zfb:∀l:List α,xr l (λ_=>0)=0
 | []=>rfl
 | x::l=>by rw[zbr,zfb l];rfl
theorem xor4' (a b c d:Nat):(a ^^^ b) ^^^ (c ^^^ d)=(a ^^^ c) ^^^ (b ^^^ d):=by
 rw[xdm,xdm,← xdm b,← xdm c,Nat.xor_comm b c]
theorem zic:∀l:List α,xr l (λx=>f x ^^^ g x)=xr l f ^^^ xr l g
 | []=>by show 0=0 ^^^ 0;rw[xfx]
 | x::l=>by rw[zbr,zbr,zbr,zic l,xor4']
theorem zfl (p:α->Bool):∀l:List α,xr (l.filter p) f=xr l λx=>if p x=true then f x else 0
 | []=>rfl
 | x::l=>by
  rw[zbr,← zfl p l];by_cases c:p x=true
  ·rw[xcp c,zbr,if_pos c]
  ·rw[xcx c,if_neg c,xhf]
theorem xif (p q:Bool)(z:Nat):(if p=true then z else 0) ^^^ (if q=true then z else 0)=if Bool.xor p q=true then z else 0:=by
 cases p<;>cases q<;>simp
theorem zxk (f:Nat->Nat)(N:Nat):xr (List.range (N+1)) f=f 0 ^^^ xr (List.range N) λc=>f (c+1):=by
 rw[List.range_succ_eq_map,zbr,zsp]
theorem znp (f:Nat->Nat)(N:Nat):xr (List.range (N+1)) f=xr (List.range N) f ^^^ f N:=by
 rw[xih,zdn];show _ ^^^ (f N ^^^ 0)=_;rw[xeg]
end
noncomputable def sb (e j:Nat):Bool:=decide (e &&& j=j)
theorem zmn (e j:Nat):sb e j=(sb (e / 2) (j / 2)&&decide (j % 2<=e % 2)):=by
 unfold sb;rw[← xll];refine xgz.mpr ?_;have h1:(e &&& j) / 2=e / 2 &&& j / 2:=xlj;have h2:(e &&& j) % 2=1↔e % 2=1/\j % 2=1:=Nat.and_mod_two_eq_one;constructor
 ·intro h;rw[h] at h1 h2;exact⟨h1.symm,by lia⟩
 ·intro⟨a,b⟩;lia
theorem zin (e:Nat):sb e 0=true:=by simp[sb]
theorem zto  (h:e < j):sb e j=false:=by
 refine xby λz=>?_
 have:e &&& j<=e:=Nat.and_le_left;lia
theorem pas:∀e j:Nat,sb (e+1) (j+1)=Bool.xor (sb e (j+1)) (sb e j)
 | 0,j=>by
  by_cases c:j=0
  ·subst c;decide
  ·rw[zto (e:=0+1) (by lia),zto (e:=0) (by lia),zto (e:=0) (j:=j) (by lia)];rfl
 | e+1,j=>by
  rw[zmn (e+1+1),zmn (e+1),zmn (e+1)];have hlt:(e+1) / 2 < e+1:=by lia
  by_cases c:(e+1) % 2=0
  ·rw[show(e+1+1) / 2=(e+1) / 2 by lia];by_cases d:j % 2=0
   ·rw[show(j+1) / 2=j / 2 by lia,xbv (show(j+1) % 2<=(e+1+1) % 2 by lia),xby (show ¬ (j+1) % 2<=(e+1) % 2 by lia),xbv (show j % 2<=(e+1) % 2 by lia)];simp
   ·rw[xbv (show(j+1) % 2<=(e+1+1) % 2 by lia),xbv (show(j+1) % 2<=(e+1) % 2 by lia),xby (show ¬ j % 2<=(e+1) % 2 by lia)];simp
  ·obtain⟨p,hp⟩:∃p,(e+1) / 2=p:=⟨_,rfl⟩
   rw[show(e+1+1) / 2=(e+1) / 2+1 by lia,hp];have:=pas p;by_cases d:j % 2=0
   ·rw[show(j+1) / 2=j / 2 by lia,xby (show ¬ (j+1) % 2<=(e+1+1) % 2 by lia),xbv (show(j+1) % 2<=(e+1) % 2 by lia),xbv (show j % 2<=(e+1) % 2 by lia)];simp
   ·rw[show(j+1) / 2=j / 2+1 by lia,xbv (show(j+1) % 2<=(e+1+1) % 2 by lia),xbv (show(j+1) % 2<=(e+1) % 2 by lia),xbv (show j % 2<=(e+1) % 2 by lia)];rw[xjn,xjn,xjn];exact this (j / 2)
 termination_by e _=>e
theorem zso (e:Nat)(g:Int->Nat):xr (outL e) g=xr (List.range (e+1)) λj=>if sb e j=true then g ((e:Int)+(j:Int)) else 0:=by
 have h:=zmk (e:=e) (left:=(e:Int)) (by lia);unfold outL;rw[zsp,← h,zfl,show((if(e:Int) < (e:Int) then(e:Int) else(e:Int))+1).toNat=e+1 by split<;>lia]
 rfl
theorem zbej (e:Nat)(g:Int->Nat):xr (outL (e+1)) g=xr (outL e) (λy=>g (y+1)) ^^^ xr (outL e) (λy=>g (y+1+1)):=by
 rw[zso,zso,zso,zxk,zxk (λj=>if sb e j=true then g ((e:Int)+(j:Int)+1) else 0) e];have e1:(xr (List.range (e+1)) λc=>if sb (e+1) (c+1)=true then g (((e+1:Nat):Int)+((c+1:Nat):Int)) else 0)
   =(xr (List.range (e+1)) λc=>if sb e (c+1)=true then g ((e:Int)+((c+1:Nat):Int)+1) else 0) ^^^ (xr (List.range (e+1)) λc=>if sb e c=true then g ((e:Int)+(c:Int)+1+1) else 0):=by
  rw[← zic];refine zm λc _=>?_
  rw[pas,← xif];rw[show((e+1:Nat):Int)+((c+1:Nat):Int)=(e:Int)+((c+1:Nat):Int)+1 by lia];rw[show(e:Int)+((c+1:Nat):Int)+1=(e:Int)+(c:Int)+1+1 by lia]
 rw[e1,znp (N:=e) (f:=λc=>if sb e (c+1)=true then g ((e:Int)+((c+1:Nat):Int)+1) else 0),zto (e:=e) (j:=e+1) (by lia),zin,zin];simp only[xes,xcq,xeh,xeg];rw[show((e+1:Nat):Int)+((0:Nat):Int)=(e:Int)+((0:Nat):Int)+1 by lia,xdm]
def T (k:Int) (φ:Row->Nat) (m:Row):Nat:=xr (wholeS m) λx=>if x.sum=m.sum+k then φ x else 0
theorem zxg    (h:∀x∈wholeS m,φ x=ψ x):T k φ m=T k ψ m:=zm λx hx=>by rw[h x hx]
theorem zbta (k:Int)(φ ψ:Row->Nat)(m:Row):T k (λx=>φ x ^^^ ψ x) m=T k φ m ^^^ T k ψ m:=by
 unfold T;rw[← zic];refine zm λx _=>?_
 by_cases c:x.sum=m.sum+k
 ·rw[if_pos c,if_pos c,if_pos c]
 ·rw[if_neg c,if_neg c,if_neg c,xfx]
theorem zbhc (k:Int)(m:Row):T k (λ_=>0) m=0:=by
 unfold T;rw[zm (g:=λ_=>0) λx _=>by split<;>rfl,zfb]
theorem zxe (k:Int)(φ:Row->Nat)(r:Row)(e:Nat):T k φ (r++[(e:Int)])=xr (wholeS r) λu=>xr (outL e) λy=>if u.sum+y=r.sum+e+k then φ (u++[y]) else 0:=by
 unfold T;rw[zdb];unfold wholeStep longL;rw[zsr];refine zm λu _=>?_
 rw[zsp,xef];refine zm λy _=>?_
 rw[xej,xej,xgr,List.sum_nil,xgr,List.sum_nil,Int.add_zero,Int.add_zero]
def bump (x:Row):Row:=x.dropLast++[x.getLastD 0+1]
theorem zbap (u:Row)(y:Int):bump (u++[y])=u++[y+1]:=by
 unfold bump;rw[xjj];simp
def up (φ:Row->Nat):Row->Nat:=λx=>φ (bump x)
theorem zgz (φ:Row->Nat)(u:Row)(y:Int):up φ (u++[y])=φ (u++[y+1]):=by unfold up;rw[zbap]
theorem zbhd (k:Int)(φ:Row->Nat)(r:Row)(e:Nat):T k φ (r++[(e:Int)+1])=T k (up φ) (r++[(e:Int)]) ^^^ T (k - 1) (up (up φ)) (r++[(e:Int)]):=by
 rw[show(e:Int)+1=((e+1:Nat):Int) by lia,zxe,zxe,zxe,← zic];refine zm λu _=>?_
 rw[zbej]
 congr 1
 ·refine zm λy _=>?_
  rw[zgz];by_cases c:u.sum+y=r.sum+e+k
  ·rw[if_pos c,if_pos (by lia)]
  ·rw[if_neg c,if_neg (by lia)]
 ·refine zm λy _=>?_
  rw[zgz,zgz];by_cases c:u.sum+y=r.sum+e+(k - 1)
  ·rw[if_pos c,if_pos (by lia)]
  ·rw[if_neg c,if_neg (by lia)]
def Nn (m:Row):Prop:=∀x∈m,0<=x
theorem zps  (h:Nn m)(hx:x∈wholeS m):m.sum<=x.sum/\x.sum<=2 * m.sum:=by
 have:=zmb h m.length;rw[xce] at this;exact this x hx
theorem zbov   (h:y∈outL e):(e:Int)<=y:=by
 unfold outL at h;obtain⟨j,_,rfl⟩:=xbk.mp h;lia
theorem zid  {e:Nat}(h:x∈wholeS (r++[(e:Int)])):∃u y,x=u++[((y:Nat):Int)]/\u∈wholeS r:=by
 rw[zdb] at h;unfold wholeStep longL at h;obtain⟨u,hu,h⟩:=xel.mp h;obtain⟨y,hy,rfl⟩:=xbk.mp h;rw[xef] at hy;have:=zbov hy;exact⟨u,y.toNat,by rw[Int.toNat_of_nonneg (by lia)],hu⟩
theorem zoa {P:Row->Prop}(h0:P [])(h1:∀r,Nn r->P r->P (r++[0]))(h2:∀r (e:Nat),Nn r->P (r++[(e:Int)])->P (r++[(e:Int)+1])):∀m:Row,Nn m->P m:=λm hm=>by
 suffices h:∀i,i<=m.length->P (m.take i) by have:=h m.length (xbf _);rw[xce] at this;exact this
 intro i
 induction i with
 | zero=>intro _;exact h0
 | succ i ih =>
  intro hi;have g:m[i]?=some m[i]:=xbd (by lia);rw[zh g];have nr:Nn (m.take i):=λx hx=>hm x (xew hx)
  have n0:0<=m[i]:=hm _ (xda _);obtain⟨e,he⟩:∃e:Nat,m[i]=(e:Int):=⟨m[i].toNat,by lia⟩
  rw[he];clear g n0 he
  induction e with
  | zero=>exact h1 _ nr (ih (by lia))
  | succ e ie=>rw[show((e+1:Nat):Int)=(e:Int)+1 by lia];exact h2 _ e nr ie
theorem zie:∀m:Row,Nn m->∀x∈wholeS m,Nn x:=λm hm x hx=>by
 have h:∀i,∀x∈wholeS (m.take i),Nn x:=λi=>by
  induction i with
  | zero=>intro x hx;rw[xbq.mp (show x∈[[]] from hx)];intro y hy;cases hy
  | succ i ih =>
   by_cases c:i < m.length
   ·have g:m[i]?=some m[i]:=xbd c;have n0:0<=m[i]:=hm _ (xda c);obtain⟨e,he⟩:∃e:Nat,m[i]=(e:Int):=⟨m[i].toNat,by lia⟩
    intro x hx;rw[zh g,he] at hx;obtain⟨u,y,rfl,hu⟩:=zid hx;intro z hz;rcases xbr.mp hz with a | a
    ·exact ih u hu z a
    ·rw[xbq.mp a];lia
   ·rw[xdk (by lia)] at ih ⊢;exact ih
 have:=h m.length;rw[xce] at this;exact this x hx
theorem zbnh    (h:Nn m)(hk:k < 0):T k φ m=0:=by
 unfold T;rw[zm (g:=λ_=>0) λx hx=>if_neg (by have:=zps h hx;lia),zfb]
theorem zbsb    (h:Nn m)(hk:m.sum < k):T k φ m=0:=by
 unfold T;rw[zm (g:=λ_=>0) λx hx=>if_neg (by have:=zps h hx;lia),zfb]
theorem zbcv (k:Int)(φ:Row->Nat):T k φ []=if k=0 then φ [] else 0:=by
 show(if([]:Row).sum=([]:Row).sum+k then φ [] else 0) ^^^ 0=_;rw[xeg];by_cases c:k=0
 ·rw[if_pos c,if_pos (by rw[c];rfl)]
 ·rw[if_neg c,if_neg (by simp;lia)]
theorem zjj (k:Int)(φ:Row->Nat)(r:Row):T k φ (r++[0])=T k (λu=>φ (u++[0])) r:=by
 rw[show(0:Int)=((0:Nat):Int) from rfl,zxe];refine zm λu _=>?_
 rw[zso];show(if sb 0 0=true then(if u.sum+(((0:Nat):Int)+((0:Nat):Int))=r.sum+((0:Nat):Int)+k then φ (u++[((0:Nat):Int)+((0:Nat):Int)]) else 0) else 0) ^^^ 0=_;rw[xeg,if_pos (zin 0)];simp
theorem zbtb (a b:Int)(φ:Row->Nat)(r:Row)(e:Nat):T b (T a φ) (r++[(e:Int)+1])
  =(T b (T a (up φ)) (r++[(e:Int)]) ^^^ T b (T (a - 1) (up (up φ))) (r++[(e:Int)])) ^^^ (T (b - 1) (T a (up (up φ))) (r++[(e:Int)]) ^^^ T (b - 1) (T (a - 2) (up (up (up (up φ))))) (r++[(e:Int)])):=by
 rw[zbhd,← zbta,← zbta];have one:∀(c:Int) (ψ:Row->Nat) (u:Row) (y:Nat),up (T c ψ) (u++[(y:Int)])=T c (up ψ) (u++[(y:Int)]) ^^^ T (c - 1) (up (up ψ)) (u++[(y:Int)]):=λc ψ u y=>by rw[zgz,zbhd]
 congr 1
 ·refine zxg λx hx=>?_
  obtain⟨u,y,rfl,_⟩:=zid hx;exact one _ _ _ _
 ·refine zxg λx hx=>?_
  obtain⟨u,y,rfl,_⟩:=zid hx;have h:up (up (T a φ)) (u++[(y:Int)])=up (T a (up φ)) (u++[(y:Int)]) ^^^ up (T (a - 1) (up (up φ))) (u++[(y:Int)]):=by
   rw[zgz,show((y:Int)+1)=((y+1:Nat):Int) by lia,one,zgz,zgz]
   rfl
  rw[h,one,one,show a - 1 - 1=a - 2 by lia,xdm,← xdm (T (a - 1) (up (up (up φ))) _),xfx,xhf]
def co (b a:Int) (c:Nat):Bool:=decide (2 * (c:Int)<=a)&&(if(c:Int) < b then sb (b - 1 - c).toNat (a - 2 * c).toNat else decide ((c:Int)=b))
theorem zje {b a:Int}{c:Nat}(h:a < 2 * (c:Int)):co b a c=false:=by unfold co;rw[xby (by lia)];rfl
theorem zbam {b a:Int}{c:Nat}(h:b < (c:Int)):co b a c=false:=by
 unfold co;rw[if_neg (by lia),xby (p:=(c:Int)=b) (by lia),xkb]
theorem zxj {b a:Int}{c:Nat}(h1:2 * (c:Int)<=a)(h2:(c:Int) < b):co b a c=sb (b - 1 - c).toNat (a - 2 * c).toNat:=by
 unfold co;rw[xbv h1,if_pos h2,Bool.true_and]
theorem zsk {b a:Int}{c:Nat}(h1:2 * (c:Int)<=a)(h2:(c:Int)=b):co b a c=true:=by
 unfold co;rw[xbv h1,if_neg (by lia),xbv h2];rfl
theorem zbmd {b a:Int}{c:Nat}(h:2 * b<=a)(h2:(c:Int) < b):co b a c=false:=by
 rw[zxj (by lia) h2,zto (by lia)]
theorem zbme (b a:Int)(c:Nat):co (b - 1) (a - 2) c=co b a (c+1):=by
 by_cases h:2 * (c:Int)<=a - 2
 ·by_cases g:(c:Int) < b - 1
  ·rw[zxj h g,zxj (by lia) (by lia),show(b - 1 - ((c+1:Nat):Int)).toNat=(b - 1 - 1 - (c:Int)).toNat by lia,show(a - 2 * ((c+1:Nat):Int)).toNat=(a - 2 - 2 * (c:Int)).toNat by lia]
  ·by_cases g2:(c:Int)=b - 1
   ·rw[zsk h g2,zsk (by lia) (by lia)]
   ·rw[zbam (by lia),zbam (by lia)]
 ·rw[zje (by lia),zje (by lia)]
theorem zbrh  (h:a<=2 * b - 1)(c:Nat):Bool.xor (co b a c) (co b a (c+1))=Bool.xor (co b (a - 1) c) (co (b - 1) a c):=by
 by_cases h0:a < 2 * (c:Int)
 ·rw[zje h0,zje (by lia),zje (by lia),zje h0]
 have hc:(c:Int) < b:=by lia
 rw[zxj (by lia) hc];by_cases h1:a=2 * (c:Int)
 ·rw[zje (a:=a) (c:=c+1) (by lia),zje (a:=a - 1) (by lia),show(a - 2 * (c:Int)).toNat=0 by lia,zin];by_cases g:(c:Int) < b - 1
  ·rw[zxj (by lia) g,show(a - 2 * (c:Int)).toNat=0 by lia,zin];rfl
  ·rw[zsk (by lia) (by lia)];rfl
 rw[zxj (a:=a - 1) (by lia) hc];by_cases h2:a=2 * (c:Int)+1
 ·rw[zje (a:=a) (c:=c+1) (by lia),show(a - 2 * (c:Int)).toNat=1 by lia,show(a - 1 - 2 * (c:Int)).toNat=0 by lia,zin];by_cases g:(c:Int) < b - 1
  ·obtain⟨q,hq⟩:∃q:Nat,b - 1 - 1 - (c:Int)=q:=⟨(b - 1 - 1 - (c:Int)).toNat,by lia⟩
   rw[zxj (by lia) g,show(a - 2 * (c:Int)).toNat=0+1 by lia,show(b - 1 - 1 - (c:Int)).toNat=q by lia,show(b - 1 - (c:Int)).toNat=q+1 by lia,pas,zin];cases sb q (0+1)<;>rfl
  ·rw[zsk (by lia) (by lia),show(b - 1 - (c:Int)).toNat=0 by lia];rfl
 have g:(c:Int) < b - 1:=by lia
 obtain⟨q,hq⟩:∃q:Nat,b - 1 - 1 - (c:Int)=q:=⟨(b - 1 - 1 - (c:Int)).toNat,by lia⟩
 obtain⟨p,hp⟩:∃p:Nat,a - 2 * (c:Int)=p+2:=⟨(a - 2 * (c:Int) - 2).toNat,by lia⟩
 rw[zxj (c:=c+1) (by lia) (by lia),zxj (by lia) g,show(b - 1 - (c:Int)).toNat=q+1 by lia,show(b - 1 - 1 - (c:Int)).toNat=q by lia,show(b - 1 - ((c+1:Nat):Int)).toNat=q by lia,
  show(a - 2 * (c:Int)).toNat=p+1+1 by lia,show(a - 1 - 2 * (c:Int)).toNat=p+1 by lia,show(a - 2 * ((c+1:Nat):Int)).toNat=p by lia,pas,pas]
 cases sb q (p+1+1)<;>cases sb q (p+1)<;>cases sb q p<;>rfl
def cs (b a:Int) (N:Nat) (φ:Row->Nat) (m:Row):Nat:=xr (List.range N) λc=>if co b a c=true then T c (T (a+b - c) φ) m else 0
theorem zpq  :∀{N:Nat},k < N->(∀c,c≠k->f c=0)->xr (List.range N) f=f k
 | 0,h,_=>by lia
 | N+1,h,z=>by
  rw[znp];by_cases c:k=N
  ·rw[zm (g:=λ_=>0) λx hx=>z x (by have:=xcf.mp hx;lia),zfb,xhf,c]
  ·rw[zpq (by lia) z,z N (by lia),xeg]
theorem zbly {b a:Int}{N:Nat}(φ:Row->Nat)(m:Row)(h0:0<=b)(h:2 * b<=a)(h1:a<=2 * b+1)(hN:b < N):cs b a N φ m=T b (T a φ) m:=by
 obtain⟨k,rfl⟩:∃k:Nat,b=k:=⟨b.toNat,by lia⟩
 unfold cs;rw[zpq (k:=k) (by lia) λc hc=>?_,zsk h rfl,if_pos rfl,show a+(k:Int) - k=a by lia];by_cases g:(c:Int) < k
 ·rw[zbmd h g];rfl
 ·rw[zbam (by lia)];rfl
def AD (m:Row):Prop:=∀(φ:Row->Nat) (a b:Int) (N:Nat),a<=2 * b+1->b < N->T b (T a φ) m=cs b a N φ m
theorem zblz {b a:Int}{N:Nat}(φ:Row->Nat)(m:Row)(h:a < 0):cs b a N φ m=0:=by
 unfold cs;rw[zm (g:=λ_=>0) λc _=>by rw[zje (by lia)];rfl,zfb]
theorem zbmt  (hm:Nn m)(φ:Row->Nat)  (h:a < 0):T b (T a φ) m=0:=by
 rw[zxg (ψ:=λ_=>0) λx hx=>zbnh (zie m hm x hx) h,zbhc]
theorem zbms  {e:Nat}(hn:Nn (r++[(e:Int)]))(ih:AD (r++[(e:Int)])):AD (r++[(e:Int)+1]):=λφ a b N h hN=>by
 have hn':Nn (r++[(e:Int)+1]):=λx hx=>by
  rcases xbr.mp hx with z | z
  ·exact hn x (xeb _ z)
  ·rw[xbq.mp z];lia
 by_cases a0:a < 0
 ·rw[zblz _ _ a0,zbmt hn' _ a0]
 by_cases ap:2 * b<=a
 ·by_cases b0:0<=b
  ·rw[zbly _ _ b0 ap h hN]
  ·lia
 obtain⟨M,rfl⟩:∃M,N=M+1:=⟨N - 1,by lia⟩
 rw[zbtb];generalize hm:r++[(e:Int)]=m at *
 rw[ih (up φ) a b (M+1) h hN,ih (up (up φ)) (a - 1) b (M+1) (by lia) hN,ih (up (up φ)) a (b - 1) (M+1) (by lia) (by lia),ih _ (a - 2) (b - 1) (M+1) (by lia) (by lia)];have big:cs b a (M+1) φ (r++[(e:Int)+1])=((cs b a (M+1) (up φ) m) ^^^ xr (List.range (M+1)) λc=>if co b a c=true then T c (T (a+b - 1 - c) (up (up φ))) m else 0) ^^^
   ((xr (List.range (M+1)) λc=>if co b a (c+1)=true then T c (T (a+b - 1 - c) (up (up φ))) m else 0) ^^^ xr (List.range (M+1)) λc=>if co b a (c+1)=true then T c (T (a - 2+(b - 1) - c) (up (up (up (up φ))))) m else 0):=by
  have sh:∀Z:Nat->Nat,(xr (List.range (M+1)) λc=>if co b a (c+1)=true then Z (c+1) else 0)=xr (List.range (M+1)) λc=>if co b a c=true then(if c=0 then 0 else Z c) else 0:=λZ=>by
   rw[znp,zbam (c:=M+1) (by lia),zxk];simp
  have e3:=sh λc=>T ((c:Int) - 1) (T (a+b - c) (up (up φ))) m
  have e4:=sh λc=>T ((c:Int) - 1) (T (a+b - c - 2) (up (up (up (up φ))))) m
  rw[zm (g:=λc=>if co b a (c+1)=true then T c (T (a+b - 1 - c) (up (up φ))) m else 0) λc _=>by
   show(if co b a (c+1)=true then T (((c+1:Nat):Int) - 1) (T (a+b - ((c+1:Nat):Int)) (up (up φ))) m else 0)=_
   rw[show((c+1:Nat):Int) - 1=c by lia,show a+b - ((c+1:Nat):Int)=a+b - 1 - c by lia]] at e3
  rw[zm (g:=λc=>if co b a (c+1)=true then T c (T (a - 2+(b - 1) - c) (up (up (up (up φ))))) m else 0) λc _=>by
   show(if co b a (c+1)=true then T (((c+1:Nat):Int) - 1) (T (a+b - ((c+1:Nat):Int) - 2) _) m else 0)=_
   rw[show((c+1:Nat):Int) - 1=c by lia,show a+b - ((c+1:Nat):Int) - 2=a - 2+(b - 1) - c by lia]] at e4
  rw[e3,e4];unfold cs;rw[← zic,← zic,← zic];refine zm λc _=>?_
  by_cases hc:co b a c=true
  ·rw[if_pos hc,if_pos hc,if_pos hc,if_pos hc,if_pos hc,zbtb,hm,show a+b - (c:Int) - 1=a+b - 1 - c by lia];by_cases c0:c=0
   ·subst c0;rw[if_pos rfl,if_pos rfl,zbnh (k:=((0:Nat):Int) - 1) hn (by lia),zbnh (k:=((0:Nat):Int) - 1) hn (by lia)]
   ·rw[if_neg c0,if_neg c0]
  ·rw[if_neg hc,if_neg hc,if_neg hc,if_neg hc,if_neg hc,xfx]
 rw[big];have four:cs (b - 1) (a - 2) (M+1) (up (up (up (up φ)))) m=xr (List.range (M+1)) λc=>if co b a (c+1)=true then T c (T (a - 2+(b - 1) - c) (up (up (up (up φ))))) m else 0:=by
  unfold cs;exact zm λc _=>by rw[zbme]
 have two:cs b (a - 1) (M+1) (up (up φ)) m ^^^ cs (b - 1) a (M+1) (up (up φ)) m=(xr (List.range (M+1)) λc=>if co b a c=true then T c (T (a+b - 1 - c) (up (up φ))) m else 0) ^^^ xr (List.range (M+1)) λc=>if co b a (c+1)=true then T c (T (a+b - 1 - c) (up (up φ))) m else 0:=by
  unfold cs;rw[← zic,← zic];refine zm λc _=>?_
  rw[show a - 1+b - (c:Int)=a+b - 1 - c by lia,show a+(b - 1) - (c:Int)=a+b - 1 - c by lia,xif,xif,zbrh (by lia)]
 rw[four,xdm,← xdm (cs b (a - 1) _ _ _),two];simp only[xdm]
theorem adem:∀m:Row,Nn m->AD m:=zoa
 (λφ a b N h hN=>by
  by_cases a0:a < 0
  ·rw[zblz _ _ a0,zbmt (λx hx=>absurd hx (by simp)) _ a0]
  unfold cs;rw[zbcv,zbcv];by_cases b0:0<=b
  ·rw[zpq (k:=0) (by lia) λc hc=>by rw[zbcv,if_neg (show ¬ (c:Int)=0 by lia)];split<;>rfl,zbcv,zbcv];by_cases bz:b=0
   ·subst bz;rw[zsk (by lia) (by lia)];simp
   ·rw[if_neg bz,if_neg (show ¬ a+b - ((0:Nat):Int)=0 by lia)];simp
  ·lia)
 (λr hr ih φ a b N h hN=>by
  unfold cs;rw[zjj,show(λu:Row=>T a φ (u++[0]))=T a (λu=>φ (u++[0])) from funext λu=>zjj a φ u,ih _ a b N h hN];unfold cs;refine zm λc _=>?_
  rw[zjj,show(λu:Row=>T (a+b - c) φ (u++[0]))=T (a+b - c) (λu=>φ (u++[0])) from funext λu=>zjj _ φ u])
 (λr e hr ih=>zbms (λx hx=>by
  rcases xbr.mp hx with z | z
  ·exact hr x z
  ·rw[xbq.mp z];lia) ih)
inductive Lin (P:Nat->Prop):Nat->Prop
 | zero:Lin P 0
 | add {v w:Nat}:P v->Lin P w->Lin P (v ^^^ w)
theorem Lin.one   (h:P v):Lin P v:=by have:=Lin.add h .zero;rwa [xeg] at this
theorem Lin.xor   (h:Lin P v)(g:Lin P w):Lin P (v ^^^ w):=by
 induction h with
 | zero=>rw[xhf];exact g
 | add p _ ih=>rw[xdm];exact .add p ih
theorem Lin.bind  (h:∀v,P v->Lin R v)  (g:Lin P w):Lin R w:=by
 induction g with
 | zero=>exact .zero
 | add p _ ih=>exact(h _ p).xor ih
theorem Lin.xr {α:Type}{P:Nat->Prop}{f:α->Nat}:∀{l:List α},(∀x∈l,Lin P (f x))->Lin P (Dd.xr l f)
 | [],_=>.zero
 | x::l,h=>(h x (xbp ..)).xor (Lin.xr λy hy=>h y (xbm _ hy))
theorem T_id:∀m:Row,Nn m->∀φ,T 0 φ m=φ m:=zoa (P:=λm=>∀φ,T 0 φ m=φ m)
 (λφ=>by rw[zbcv,if_pos rfl]) (λr _ ih φ=>by rw[zjj,ih])
 (λr e hr ih φ=>by
  rw[zbhd,ih,zbnh (k:=0 - 1) (λx hx=>?_) (by lia),xeg,zgz];rcases xbr.mp hx with z | z
  ·exact hr x z
  ·rw[xbq.mp z];lia)
structure Mon (n:Nat) (s:Int) (m:Row):Prop where
 len:m.length=n
 nn:Nn m
 sum:m.sum=s
theorem zbtc {P:Nat->Prop}{n:Nat}{s k:Int}{ψ:Row->Nat}{m:Row}(hm:Mon n s m)(h:∀x,Mon n (s+k) x->Lin P (ψ x)):Lin P (T k ψ m):=by
 unfold T;refine Lin.xr λx hx=>?_
 by_cases c:x.sum=m.sum+k
 ·rw[if_pos c];exact h x ⟨(zeq hm.nn x hx).2.trans hm.len,zie m hm.nn x hx,by rw[c,hm.sum]⟩
 ·rw[if_neg c];exact .zero
def Gen (n:Nat) (d:Int) (φ:Row->Nat) (v:Nat):Prop:=∃(i:Nat) (m:Row),v=T ((2 ^ i:Nat):Int) φ m/\Mon n (d - ((2 ^ i:Nat):Int)) m/\2 * ((2 ^ i:Nat):Int)<=d
theorem dec {n:Nat}{d:Int}{φ:Row->Nat}:∀k:Nat,1<=k->∀m,Mon n (d - k) m->(k:Int)<=d->Lin (Gen n d φ) (T k φ m):=λk=>by
 induction k using Nat.strongRecOn with
 | _ k ih =>
 intro hk m hm hd;have h1:2 ^ k.log2<=k:=Nat.log2_self_le (by lia);have h2:k < 2 ^ (k.log2+1):=Nat.lt_log2_self;rw[xlk] at h2;generalize k.log2=j at h1 h2;have hp:1<=2 ^ j:=xmc;by_cases c:k=2 ^ j
 ·by_cases c2:2 * (k:Int)<=d
  ·exact .one ⟨j,m,by rw[c],by rw[← c];exact hm,by rw[← c];exact c2⟩
  ·rw[zbsb hm.nn (by rw[hm.sum];lia)];exact .zero
 ·obtain⟨a,ha⟩:∃a,k=a+2 ^ j:=⟨k - 2 ^ j,by lia⟩
  generalize hb:2 ^ j=b at *
  have rel:=adem m hm.nn φ a b (b+1) (by lia) (by lia);unfold cs at rel;rw[zxk] at rel;have c0:co b a 0=true:=by
   rw[zxj (by lia) (by lia),show((b:Int) - 1 - ((0:Nat):Int)).toNat=b - 1 by lia,show((a:Int) - 2 * ((0:Nat):Int)).toNat=a by lia,← hb];refine xbv ?_;rw[Nat.and_comm,Nat.and_two_pow_sub_one_eq_mod,Nat.mod_eq_of_lt (by lia)]
  rw[if_pos c0,show(((0:Nat):Int))=0 from rfl,T_id m hm.nn,show(a:Int)+b - 0=k by lia] at rel;have val:T k φ m=T b (T a φ) m ^^^ xr (List.range b) λc=>if co b a (c+1)=true then T ((c+1:Nat):Int) (T ((a:Int)+b - ((c+1:Nat):Int)) φ) m else 0:=by
   rw[rel,xdm,xfx,xeg]
  rw[val];refine(zbtc hm λx hx=>ih a (by lia) (by lia) x (by rw[show d - (a:Int)=d - k+b by lia];exact hx) (by lia)).xor (.xr λc _=>?_);by_cases hc:co b a (c+1)=true
  ·rw[if_pos hc];have le:2 * ((c+1:Nat):Int)<=a:=by
    by_cases z:2 * ((c+1:Nat):Int)<=a
    ·exact z
    ·rw[zje (by lia)] at hc;cases hc
   obtain⟨q,hq⟩:∃q,k=q+(c+1):=⟨k - (c+1),by lia⟩
   rw[show(a:Int)+b - ((c+1:Nat):Int)=q by lia];exact zbtc hm λx hx=>ih q (by lia) (by lia) x (by rw[show d - (q:Int)=d - k+((c+1:Nat):Int) by lia];exact hx) (by lia)
  ·rw[if_neg hc];exact .zero
noncomputable def bl (v:Nat):Nat:=if v=0 then 0 else v.log2+1
theorem zpj :bl v<=k↔v < 2 ^ k:=by
 unfold bl;by_cases c:v=0
 ·rw[if_pos c,c];exact⟨λ_=>xni k,λ_=>xee _⟩
 ·rw[if_neg c,Nat.succ_le_iff];exact Nat.log2_lt c
theorem zsl :v≠0↔1<=bl v:=by unfold bl;split<;>lia
theorem zbar  (h:v≠0):v.testBit (bl v - 1)=true:=by
 have p:=zsl.mp h;have h1:v < 2 ^ (bl v - 1+1):=zpj.mp (by lia);have h2:2 ^ (bl v - 1)<=v:=by
  rcases xff v (2 ^ (bl v - 1)) with z | z
  ·have:=zpj.mpr z;lia
  ·exact z
 exact Nat.testBit_of_two_pow_le_and_two_pow_add_one_gt h2 h1
theorem zbrn  (h:v≠0)(e:bl w=bl v):bl (v ^^^ w) < bl v:=by
 have p:=zsl.mp h;have hw:w≠0:=zsl.mpr (by lia)
 suffices v ^^^ w < 2 ^ (bl v - 1) by have:=zpj.mpr this;lia
 refine xmx _ λi hi=>?_
 rw[xip];by_cases c:i=bl v - 1
 ·have a:=zbar h;have b:=zbar hw;rw[e] at b;rw[c,a,b];rfl
 ·have k1:v < 2 ^ bl v:=zpj.mp (xbf _);have k2:w < 2 ^ bl v:=zpj.mp (by lia);have k3:2 ^ bl v<=2 ^ i:=xex (by decide) (by lia);rw[xez (by lia),xez (by lia)];rfl
theorem zbro  (e:bl w < bl v):bl (v ^^^ w)=bl v:=by
 have h:v≠0:=zsl.mpr (by lia);have k1:v < 2 ^ bl v:=zpj.mp (xbf _);have k2:w < 2 ^ bl v:=zpj.mp (by lia);have k3:=zpj.mpr (xmd k1 k2);have k4:w < 2 ^ (bl v - 1):=zpj.mp (by lia);have t:(v ^^^ w).testBit (bl v - 1)=true:=by rw[xip,zbar h,xez k4];rfl
 have:=Nat.ge_two_pow_of_testBit t;rcases xff (bl (v ^^^ w)) (bl v) with z | z
 ·have:=zpj.mp (show bl (v ^^^ w)<=bl v - 1 by lia);lia
 ·lia
noncomputable abbrev Tab:=Nat->Option Nat
def Good (A:Tab):Prop:=∀k v,A k=some v->bl v=k/\v≠0
def sel (A:Tab) (S:Nat->Bool):Nat->Nat
 | 0=>0
 | N+1=>(if S (N+1)=true then(A (N+1)).getD 0 else 0) ^^^ sel A S N
def Span (A:Tab) (N:Nat) (v:Nat):Prop:=∃S,v=sel A S N
theorem zbdi  (g:Good A)(S:Nat->Bool):∀N,bl (sel A S N)<=N/\(sel A S N≠0->(A (bl (sel A S N))).isSome=true)
 | 0=>⟨xbf _,λh=>absurd rfl h⟩
 | N+1=>by
  have ih:=zbdi g S N;have skip:(0 ^^^ sel A S N=sel A S N):=xhf _;show bl (_ ^^^ sel A S N)<=N+1/\(_ ^^^ sel A S N≠0->(A (bl (_ ^^^ sel A S N))).isSome=true)
  by_cases c:S (N+1)=true
  ·rw[if_pos c];cases e:A (N+1) with
   | none=>rw[xmz,skip];exact⟨by lia,ih.2⟩
   | some v =>
    obtain⟨g1,g2⟩:=g _ _ e;rw[Option.getD_some,zbro (by lia),g1];exact⟨xbf _,λ_=>by rw[e];rfl⟩
  ·rw[if_neg c,skip];exact⟨by lia,ih.2⟩
theorem Span.zero  {N:Nat}:Span A N 0:=⟨λ_=>false,by
 induction N with
 | zero=>rfl
 | succ N ih=>show 0=0 ^^^ sel A (λ_=>false) N;rw[← ih];rfl⟩
theorem Span.xor  {N v w:Nat}(h:Span A N v)(k:Span A N w):Span A N (v ^^^ w):=by
 obtain⟨S,rfl⟩:=h;obtain⟨R,rfl⟩:=k;refine⟨λi=>Bool.xor (S i) (R i),?_⟩
 induction N with
 | zero=>show 0 ^^^ 0=0;rw[xfx]
 | succ N ih =>
  show(_ ^^^ sel A S N) ^^^ (_ ^^^ sel A R N)=(if Bool.xor (S (N+1)) (R (N+1))=true then(A (N+1)).getD 0 else 0) ^^^ sel A _ N;rw[← ih,xor4',xif]
theorem Span.key   (h0:1<=k)(e:A k=some v):∀{N},k<=N->Span A N v:=λ{N} hN=>⟨λi=>decide (i=k),by
 have low:∀M,M < k->sel A (λi=>decide (i=k)) M=0:=λM=>by
  induction M with
  | zero=>intro _;rfl
  | succ M ih=>intro h;show(if decide (M+1=k)=true then _ else 0) ^^^ sel A _ M=0;rw[ih (by lia),xby (by lia)];simp
 induction N with
 | zero=>lia
 | succ N ih =>
  show v=(if decide (N+1=k)=true then(A (N+1)).getD 0 else 0) ^^^ sel A _ N;by_cases c:N+1=k
  ·rw[xbv c,if_pos rfl,c,e,low N (by lia),xeg];rfl
  ·rw[xby c,← ih (by lia)];simp⟩
theorem Span.lin  {N:Nat}  (h:∀v,P v->Span A N v){w:Nat}(k:Lin P w):Span A N w:=by
 induction k with
 | zero=>exact .zero
 | add p _ ih=>exact(h _ p).xor ih
def setT (A:Tab) (k v:Nat):Tab:=λi=>if i=k then some v else A i
theorem Span.more  {k v:Nat}(e:A k=none){N w:Nat}(h:Span A N w):Span (setT A k v) N w:=by
 obtain⟨S,rfl⟩:=h;refine⟨λi=>if i=k then false else S i,?_⟩
 induction N with
 | zero=>rfl
 | succ N ih =>
  show _ ^^^ sel A S N=(if(if N+1=k then false else S (N+1))=true then(setT A k v (N+1)).getD 0 else 0) ^^^ sel (setT A k v) _ N;rw[← ih];unfold setT;by_cases c:N+1=k
  ·rw[if_pos c,c,e];simp
  ·rw[if_neg c,if_neg c]
structure Lds (N:Nat) (A:Tab) (L:List Nat):Prop where
 good:Good A
 top:∀k v,A k=some v->k<=N
 lin:∀k v,A k=some v->Lin (·∈L) v
 all:∀v∈L,Span A N v
theorem Lds.nil (N:Nat):Lds N (λ_=>none) []:=⟨(λ_ _ e=>nomatch e),(λ_ _ e=>nomatch e),(λ_ _ e=>nomatch e),(λ_ h=>absurd h (by simp))⟩
structure Less (N:Nat) (A:Tab) (x y:Nat):Prop where
 top:bl y<=N
 span:Span A N (x ^^^ y)
theorem Less.refl {N:Nat}  {x:Nat}(h:bl x<=N):Less N A x x:=⟨h,by rw[xfx];exact .zero⟩
theorem Less.step {N:Nat}  {L:List Nat}{x y v:Nat}(l:Lds N A L)(h:Less N A x y)(h0:y≠0)(e:A (bl y)=some v):Less N A x (y ^^^ v)/\bl (y ^^^ v) < bl y:=by
 have b:=zbrn h0 (l.good _ _ e).1;exact⟨⟨by have:=h.top;lia,by rw[← xdm];exact h.span.xor (Span.key (zsl.mp h0) e h.top)⟩,b⟩
theorem Lds.lins {N:Nat}  {L:List Nat}(l:Lds N A L){w:Nat}(h:Span A N w):Lin (·∈L) w:=by
 obtain⟨S,rfl⟩:=h;have:∀M,Lin (·∈L) (sel A S M):=λM=>by
  induction M with
  | zero=>exact .zero
  | succ M ih =>
   refine Lin.xor ?_ ih;by_cases c:S (M+1)=true
   ·rw[if_pos c];cases e:A (M+1) with
    | none=>exact .zero
    | some v=>exact l.lin _ _ e
   ·rw[if_neg c];exact .zero
 exact this N
theorem Lin.more {L:List Nat}{x w:Nat}(h:Lin (·∈L) w):Lin (·∈L++[x]) w:=Lin.bind (λv hv=>.one (xeb _ hv)) h
theorem Lds.put {N:Nat}  {L:List Nat}{x y:Nat}(l:Lds N A L)(h:Less N A x y)(h0:y≠0)(e:A (bl y)=none):Lds N (setT A (bl y) y) (L++[x]):=by
 have ly:Lin (·∈L++[x]) y:=by
  have h1:=(l.lins h.span).more (x:=x);have h2:=Lin.xor (Lin.one (P:=(·∈L++[x])) (v:=x) (by simp)) h1
  rwa [← xdm,xfx,xhf] at h2
 have sy:Span (setT A (bl y) y) N y:=Span.key (zsl.mp h0) (by unfold setT;rw[if_pos rfl]) h.top;refine⟨λk v z=>?_,λk v z=>?_,λk v z=>?_,λv hv=>?_⟩
 ·unfold setT at z;by_cases c:k=bl y
  ·rw[if_pos c] at z;cases z;exact⟨c.symm,h0⟩
  ·rw[if_neg c] at z;exact l.good _ _ z
 ·unfold setT at z;by_cases c:k=bl y
  ·rw[c];exact h.top
  ·rw[if_neg c] at z;exact l.top _ _ z
 ·unfold setT at z;by_cases c:k=bl y
  ·rw[if_pos c] at z;cases z;exact ly
  ·rw[if_neg c] at z;exact(l.lin _ _ z).more
 ·rcases xbr.mp hv with q | q
  ·exact(l.all v q).more e
  ·rw[xbq.mp q];have:=(h.span.more (v:=y) e).xor sy
   rwa [xdm,xfx,xeg] at this
theorem Lds.keep {N:Nat}  {L:List Nat}{x:Nat}(l:Lds N A L)(h:Less N A x 0):Lds N A (L++[x]) :=
 ⟨l.good,l.top,λk v z=>(l.lin k v z).more,λv hv=>by
  rcases xbr.mp hv with q | q
  ·exact l.all v q
  ·rw[xbq.mp q];have:=h.span;rwa [xeg] at this⟩
def Rows (n:Nat) (l:List Row):Prop:=∀r∈l,r.length=n/\∀x∈r,0<=x
section
theorem zbgq  (he:0<=e){σ1:DS}  (q:∀x,0<=x->x<=e->w (.int x) au) :
  WP (compF (gN 0) (eB (aS oLe (aA 0) (aA 1))) (aA 0) [.int 0,.int 1,.int 3,.int 7,.int 15] [none,some (.int e)] au) (λys st2=>WP (bBest true [.lst ys] st2) w):=by
 refine zhl (as:=[(0:Int),1,3,7,15]) (E:=λx=>D.int x) (λσ=>∃v,σ=[v,some (.int e)]) (λx=>decide (x<=e)) (λx=>.int x) ⟨_,rfl⟩ ?_ ?_
 ·rintro x hx σ ⟨v,rfl⟩;refine⟨_,rfl,⟨_,rfl⟩,?_,λ_=>?_⟩
  ·simp only[W,V,xge]
  ·simp only[W,V,xge]
 ·rw[xcp (by simpa using he)];simp only[M];refine⟨0,([1,3,7,15]:List Int).filter (λx=>decide (x<=e)),?_,?_⟩
  ·have:=zcr (0::([1,3,7,15]:List Int).filter (λx=>decide (x<=e)));exact this
  ·obtain⟨h1,h2⟩:=zpl (([1,3,7,15]:List Int).filter (λx=>decide (x<=e))) 0;refine q _ (h2 0 xbp) ?_;rcases xbs.mp h1 with h | h
   ·rw[h];exact he
   ·simpa using (xdo.mp h).2
theorem zit {n:Nat}{N d:Int}(hb:BagAt au n)(hN:1<=N)(hN2:N<=1000)(hd:0<=d)(hd2:d<=1000)(k:∀r st',r.length=N.toNat->(∀x∈r,0<=x)->r.sum=d->Drew au st' n->Q (aL r) st'):WP (zbg [.ref n,.int N,.int d] au) Q:=by
 refine zdz rfl ?_;simp only[W,V];refine⟨small _ (by simp),?_⟩;have D0:Drew au (au++[.lst []]) n:=.more hb _;refine zfc D0.bag (by lia) (by lia) λfk st2 h3 h4 d2=>?_
 have D2:=D0.trans d2;have hk:au.length<=au.length:=xbf _;have hkn:au.length≠n:=xjt hb.lt;have g0:st2[au.length]?=some (.lst []):=(d2.keep _ (by simp) hkn).trans (by simp)
 try simp only[W,V]
 refine⟨trivial,_,rfl,rngN (by lia) (by lia),?_⟩;refine zdo (λi σ s=>∃(left:Int) (r:List Int) (v w:Option D),σ=[some (.ref n),some (.int N),some (.int d),some (.int left),some (.ref au.length),some (.int fk),v,w,none]/\0<=left/\left+r.sum=d/\r.length=i/\(∀x∈r,0<=x)/\Drew au s n/\s[au.length]?=some (.lst (r.map .int)))
  ⟨d,[],none,none,rfl,hd,by simp,rfl,by simp,D2,g0⟩ ?_ ?_
 ·rintro i x σ s hx ⟨left,r,v,w,rfl,a1,a2,a3,a4,a5,a6⟩;obtain⟨hi,rfl⟩:=zjs hx;have rn:=zlc a4;refine⟨_,rfl,?_⟩;unfold zdm;refine zfm (R:=λfl s=>∃y:Int,fl=.nx [some (.ref n),some (.int N),some (.int d),some (.int left),some (.ref au.length),some (.int fk),some (.int (0+(i:Int))),some (.int y),none]/\0<=y/\y<=left/\Drew au s n/\s[au.length]?=some (.lst (r.map .int))) ?_ ?_
  ·simp only[W,V];refine zfc a5.bag (by lia) (by lia) λy s2 b1 b2 e2=>?_
   exact⟨y,rfl,b1,by lia,a5.trans e2,(e2.keep _ (zcg a6) hkn).trans a6⟩
  rintro fl s1 ⟨y,rfl,y1,y2,E1,g1⟩;show WP _ _;refine zfm (R:=λfl s=>∃y:Int,fl=.nx [some (.ref n),some (.int N),some (.int d),some (.int left),some (.ref au.length),some (.int fk),some (.int (0+(i:Int))),some (.int y),none]/\0<=y/\y<=left/\s=s1) ?_ ?_
  ·simp only[W,V,Dd.N];split
   ·refine⟨small _ (by simp),small _ (by simp),?_⟩;refine zbgq (σ1:=[]) y1 λz z1 z2=>?_
    exact⟨z,rfl,z1,by lia,rfl⟩
   ·exact⟨y,rfl,y1,y2,trivial⟩
  rintro fl s2 ⟨y,rfl,y1,y2,rfl⟩;show WP _ _;simp only[W,V,M,Dd.N,L];have hlt:=zcg g1;refine⟨_,_,rfl,g1,_,_,rfl,g1,by rw[xbb];exact smallT _ (by lia),left - y,r++[y],_,_,rfl,by lia,by rw[xej];simp;lia,by simp[a3],zop a4 y1,E1.over hb.lt hk,?_⟩;rw[zmm hlt];simp
 ·rintro σ s ⟨left,r,v,w,rfl,a1,a2,a3,a4,a5,a6⟩;rw[zdc] at a3;simp only[W,V,M];have hlt:=zcg a6;refine⟨_,_,rfl,a6,_,_,rfl,a6,by rw[xbb];exact smallT _ (by lia),?_⟩;have a7:(s.set au.length (.lst (r.map D.int++[D.int left])))[au.length]?=some (.lst ((r++[left]).map .int)):=by rw[zmm hlt];simp
  have D5:Drew au (s.set au.length (.lst (r.map D.int++[D.int left]))) n:=a5.over hb.lt hk;refine zfc D5.bag (by lia) (by lia) λy s2 b1 b2 e2=>?_
  have a8:s2[au.length]?=some (.lst ((r++[left]).map .int)):=(e2.keep _ (zcg a7) hkn).trans a7;refine⟨y,rfl,.inr ⟨_,zkg a8,y,rfl,.inr ⟨_,zkg a8,?_⟩⟩⟩;obtain⟨j,rfl⟩:=xgt b1;rw[zbak,zblx];refine WP.of (zbdb (small _ (by rw[xbi,xiy];lia))) ?_;simp only[W,V];refine k _ _ ?_ ?_ ?_ (D5.trans e2)
  ·rw[ztb,xbi,xiy];lia
  ·intro x hx;rcases xbr.mp hx with hx | hx
   ·exact zop a4 a1 x (xht hx)
   ·exact zop a4 a1 x (xew hx)
  ·have:=congrArg List.sum (xdf j (r++[left]));rw[xej,xej] at this;rw[xej];simp at this;lia
theorem zxz {n:Nat}{N d m:Int}(hb:BagAt au n)(hN:1<=N)(hN2:N<=1000)(hd:0<=d)(hd2:d<=1000)(hm:0<=m)(hm2:m<=1000)(k:∀l st',(l.length:Int)<=m->Rows N.toNat l->l.Nodup->(∀r∈l,r.sum=d)->Drew au st' n->Q (aK l) st'):WP (zdu [.ref n,.int N,.int d,.int m] au) Q:=by
 refine zdz rfl ?_;simp only[W,V];refine zfc hb (by lia) (by lia) λc st1 h1 h2 d1=>?_
 simp only[W,V,Dd.N];refine⟨rngN (by lia) (by lia),by rw[zdc];exact small _ (by lia),?_⟩;refine zpr (λi acc σ s=>∃(l:List (List Int)) (v:Option D),acc=aJ l/\l.length=i/\(∀r∈l,r.length=N.toNat/\(∀x∈r,0<=x)/\r.sum=d)/\σ=[v,some (.ref n),some (.int N),some (.int d)]/\Drew au s n) ⟨[],none,rfl,rfl,by simp,rfl,d1⟩ ?_ ?_
 ·rintro i x acc σ s hx ⟨l,v,rfl,a1,a2,rfl,a3⟩;refine⟨_,rfl,?_⟩;simp only[W,V];exact zit a3.bag hN hN2 hd hd2 λr s2 b1 b2 b3 b4=>⟨l++[r],_,by simp[aJ],by simp[a1],zbes a2 ⟨b1,b2,b3⟩,rfl,a3.trans b4⟩
 ·rintro ys σ s ⟨l,v,rfl,a1,a2,rfl,a3⟩;rw[zdc] at a1;refine zum (l:=l) rfl (by lia) λg=>k _ _ ?_ (λr hr=>⟨(a2 r (zcd hr)).1,(a2 r (zcd hr)).2.1⟩) (zfs l) (λr hr=>(a2 r (zcd hr)).2.2) (a3.trans (.more a3.bag g))
  have:=zjx l;lia
theorem zlf   {ps:List Pt}   (he:e<=1000)(hl:ps.length * (e+1)<=100000)(hr:∀p∈ps,p.1.length<=1000/\0<=p.2)
  (k:∀w6 w7 w8 g,I [a0,a1,a2,a3,some (.lst ((lawL e ps).map ptD)),some (.int e),w6,w7,w8] (au++g)) :
  WP (zda [a0,a1,a2,a3,some (.lst (ps.map ptD)),some (.int e),v6,v7,v8] au) (loopK I Q):=by
 unfold zda;simp only[W,V,Dd.N];refine⟨small _ (by simp),?_⟩;refine zdo (λi σ s=>(∃v w,σ=[a0,a1,a2,a3,some (.lst (ps.map ptD)),some (.int e),some (.ref au.length),v,w])/\s=au++[.lst ((lawL e (ps.take i)).map ptD)]) ⟨⟨_,_,rfl⟩,rfl⟩ ?_ ?_
 ·rintro i y σ s hy ⟨⟨v,w,rfl⟩,rfl⟩;obtain⟨p,hp,rfl⟩:=zhb hy;have hi:i < ps.length:=(xbg.mp hp).1;obtain⟨h3,h4⟩:=hr p (xbz hp);refine⟨_,rfl,?_⟩;have hlen:(lawL e (ps.take i)).length+(e+1)<=100000:=by
   have h1:=zos e (ps.take i);have h2:(ps.take i).length=i:=by rw[xcu];lia
   rw[h2] at h1;have h3:(i+1) * (e+1)<=ps.length * (e+1):=xfl _ hi;rw[xjx] at h3;lia
  have hJ:=zvg e p;unfold zff;simp only[W,V,L,zhs];refine⟨_,_,rfl,by simp;rfl,_,rfl,rngN (by split<;>lia) (by split<;>lia),by rw[zdc];exact small _ (by split<;>lia),?_⟩;unfold rng;refine zhl (as:=List.range ((if p.2 < (e:Int) then p.2 else(e:Int))+1).toNat) (λσ=>∃v,σ=[v,some (aL p.1),some (.int p.2),some (.int e)]) (λx=>decide (e &&& x=x)) (λj:Nat=>ptD (p.1++[(e:Int)+(j:Int)],p.2 - (j:Int))) (λi=>.int (0+(i:Int))) ⟨_,rfl⟩ ?_ ?_
  ·rintro j hj σ ⟨v,rfl⟩;refine⟨_,rfl,⟨_,rfl⟩,?_,λ_=>?_⟩
   ·simp only[W,V];rw[xhe,K07.zej];refine⟨trivial,trivial,?_⟩;exact xgz.mpr ⟨λh=>by lia,λh=>by lia⟩
   ·simp only[W,V,Dd.N];rw[xhe];refine⟨small _ (by simp),by rw[xbb];exact small _ (by simp;lia),small _ (by simp),?_⟩;simp[ptD,aL]
  ·rw[zmk h4];refine⟨_,_,_,rfl,by simp;rfl,rfl,?_,⟨_,_,rfl⟩,?_⟩
   ·rw[xbb,xbb];have:(sharesL e 0 p.2).length<=e+1:=zik _ _ _ _;exact small _ (by lia)
   ·rw[zh hp,zzo];unfold lawJ;simp[xcr,Function.comp_def]
 ·rintro σ s ⟨⟨v,w,rfl⟩,rfl⟩;rw[xbb,xce];simp only[W,V,M,Dd.N,L];refine⟨_,_,rfl,by simp;rfl,?_⟩;have:=k (some (.ref au.length)) v w [.dead]
  simpa using this
theorem zna    (ht:0<=t)(hp:∀r∈l,∀x∈r,0<=x/\x<=1000)(hr:∀r∈l,r.length<=1000)(hb:∀r∈l,box r<=B)(hB:B<=20000)(hl:l.length * B<=900000)(k:∀g,Q (aK (aO (raiseL t l))) (au++g)):WP (zbe [aK l,.int t] au) Q:=by
 refine zdz rfl ?_;simp only[W,V,Dd.N];refine⟨small _ (by simp),?_⟩;have lens:∀i,(raiseL t (l.take i)).length<=900000:=λi=>by
  have h2:=zfq (k:=t) (l:=l.take i) (B:=B) λx hx=>hb x (xew hx)
  have h3:(l.take i).length * B<=l.length * B:=xfl _ (by rw[xcu];exact xfu _ _);lia
 refine zdo (λi σ s=>(∃v w x y z a,σ=[some (aK l),some (.int t),some (.ref au.length),v,w,x,y,z,a])/\∃g,s=au++(.lst (aJ (raiseL t (l.take i)))::g)) ⟨⟨_,_,_,_,_,_,rfl⟩,[],rfl⟩ ?_ ?_
 ·rintro i y σ s hy ⟨⟨v,w,x,y',z,a,rfl⟩,g,rfl⟩;obtain⟨r,hrr,rfl⟩:=zby hy;have hm:=xbz hrr;have pos:∀x∈r,0<=x:=λx hx=>(hp r hm x hx).1
  refine⟨_,rfl,?_⟩;unfold zfe;simp only[W,V,Dd.N];refine⟨small _ (by simp),small _ (by simp),small _ (by simp),?_⟩;refine zdo (λj σ s=>(∃x y z a,σ=[some (aK l),some (.int t),some (.ref au.length),some (aL r),some (.lst ((lawS t (r.take j)).map ptD)),x,y,z,a])/\∃g,s=au++(.lst (aJ (raiseL t (l.take i)))::g)) ⟨⟨_,_,_,_,rfl⟩,g,rfl⟩ ?_ ?_
  ·rintro j y σ s hy ⟨⟨x,y',z,a,rfl⟩,g,rfl⟩;obtain⟨e,he,rfl⟩:=zhb hy;refine⟨_,rfl,?_⟩;obtain⟨h1,h2⟩:=hp r hm e (xbz he);have hlen:=zvd r t j;have hbx:=zwq r (j+1);rw[zh he,zdg,show box [e]=e.toNat+1 by simp[box]] at hbx;have hmm:(lawS t (r.take j)).length * (e.toNat+1)<=20000:=xbc (xfl _ hlen) (xbc hbx (xbc (hb r hm) hB));have hrow:=zbfa r ht j;have hrl:=hr r hm;rw[zh he,zlg];unfold lawStep;generalize lawS t (r.take j)=ps at hmm hrow ⊢;obtain⟨e',rfl⟩:=xgt h1;simp only[V];refine zlf (e:=e') (by lia) (by rw[xef] at hmm;lia) (λp hp=>?_) λw6 w7 w8 g2=>?_
   ·obtain⟨q1,q2⟩:=hrow p hp;rw[q1,xcu];exact⟨by lia,q2⟩
   ·refine⟨⟨_,_,_,_,rfl⟩,g++g2,by simp⟩
  ·rintro σ s ⟨⟨x,y',z,a,rfl⟩,g,rfl⟩;rw[xbb,xce];simp only[W,V,Dd.N,L,zhs];have hlen:=zvd r t r.length;rw[xce] at hlen;have hbr:=hb r hm;refine⟨_,_,rfl,zhc _ _,by rw[xbb];exact small _ (by lia),?_⟩;refine zhl (as:=lawS t r) (λσ=>∃v w,σ=[v,w]) (λp=>decide (p.2=0)) (λp=>aL p.1) ptD ⟨_,_,rfl⟩ ?_ ?_
   ·rintro p hp σ ⟨v,w,rfl⟩;exact⟨_,rfl,⟨_,_,rfl⟩,by simp only[W,V,xge],λ_=>by simp only[W,V,xge]⟩
   ·have e1:((lawS t r).filter λp=>decide (p.2=0)).map (λp=>aL p.1)=aJ (raiseR t r):=by
     rw[← zbbm pos ht];unfold lawP aJ;rw[xcr]
     rfl
    rw[e1];have h1:=lens i;have h2:=zmp (k:=t) (hb r hm);refine⟨_,_,_,rfl,zhc _ _,rfl,by rw[ze,ze];exact small _ (by lia),⟨_,_,_,_,_,_,rfl⟩,g,?_⟩;rw[zml,zh hrr,zjt];simp[aJ]
 ·rintro σ s ⟨⟨v,w,x,y',z,a,rfl⟩,g,rfl⟩;rw[ze,xce];have h1:=lens l.length;rw[xce] at h1;simp only[W,V,M,Dd.N];refine⟨_,_,rfl,zhc _ _,?_⟩;refine zum (l:=raiseL t l) rfl (by lia) λg2=>?_
  rw[zml,xck];exact k _
end
section
end
section
end
section
end
end Dd
namespace K11
end K11
namespace Dd
open PySem L2 K13
section
end
end Dd
namespace K54
end K54
namespace Dd
open PySem L2
open PySem.Builtin.Int (intBits)
noncomputable def cntP (d:Int):Nat->Int
 | 0=>1
 | i+1=>cntP d i * (d+(1+(i:Int))) / (1+(i:Int))
theorem zqy  (h0:0<=d)(h1:d < 10 ^ 40):∀i:Nat,i<=20->intBits (cntP d i)<=200 * (i+1)
 | 0,_=>by show intBits 1<=200;decide
 | i+1,hi=>by
  have ih:=zqy h0 h1 i (by lia);have b:intBits (d+(1+(i:Int)))<=200:=by
   rw[intBits_le_iff];have:(10:Int) ^ 40<=2 ^ 199:=by decide
   have e:(2:Nat) ^ 200=2 ^ 199+2 ^ 199:=by decide
   have e2:(1000:Nat)<=2 ^ 199:=by decide
   lia
  have m:=intBits_mul_le ih b;unfold cntP;refine intBits_le_of_natAbs (Int.natAbs_ediv_le_natAbs _ _) (xbc m (by lia))
section
theorem zzf {N:Int}(hN:1<=N)(hN2:N<=10)(h0:0<=d)(h1:d < 10 ^ 40)(q:Q (.int (cntP d (N - 1).toNat)) au):WP (zbd [.int N,.int d] au) Q:=by
 refine zdz rfl ?_;simp only[W,V,Dd.N];refine⟨rngN (by lia) (by lia),rngN (by lia) (by lia),?_⟩;refine zdo (λi σ s=>(∃v,σ=[some (.int N),some (.int d),some (.int (cntP d i)),v])/\s=au) ⟨⟨_,rfl⟩,rfl⟩ ?_ ?_
 ·rintro i y σ s hy ⟨⟨v,rfl⟩,rfl⟩;obtain⟨hi,rfl⟩:=zjs hy;refine⟨_,rfl,?_⟩;unfold zbw;simp only[W,V,L];have b:=zqy h0 h1 i (by lia);refine⟨⟨xbc b (by lia),?_⟩,⟨by lia,?_⟩,⟨_,rfl⟩,trivial⟩
  ·rw[intBits_le_iff];have:(10:Int) ^ 40<=2 ^ 199:=by decide
   have e2:(1000:Nat)<=2 ^ 199:=by decide
   have e3:(2:Nat) ^ 200<=2 ^ 60000:=xex (by decide) (by decide);have e:(2:Nat) ^ 200=2 ^ 199+2 ^ 199:=by decide
   refine xbh ?_ e3;lia
  ·have:(1+(i:Int)) < 2 ^ 60:=xma (show(1+(i:Int))<=100 by lia) (by decide +kernel);exact Int.lt_of_lt_of_le this (by decide +kernel)
 ·rintro σ s ⟨⟨v,rfl⟩,rfl⟩;rw[zdc];simp only[W,V];exact q
theorem zms :∀{l:List Int},l≠[]->(∀x∈l,x=d)->once l=[d]
 | [],h,_=>absurd rfl h
 | [a],_,h=>by
  have:=h a (by simp);subst this
  rfl
 | a::b::l,_,h=>by
  have h1:=h a (by simp);have h2:=h b (by simp);have ih:=zms (d:=d) (l:=b::l) (by simp) λx hx=>h x (xbm _ hx)
  subst h1;unfold once;rw[if_pos (by rw[h2];simp)];exact ih
theorem zyd (d:Int):sortI [d]=[d]:=by
 have:=zfn [d];exact List.perm_singleton.mp this
theorem znj {au:Store}{l:List Row}(hl:l.length<=1000)(hs:∀r∈l,0<=r.sum/\r.sum < 64)(q:Q (.ref au.length) (au++[.lst ((sortI (once (l.map List.sum))).map .int)])):WP (zia [aK l] au) Q:=by
 refine zdz rfl ?_;simp only[W,V,Dd.N];refine⟨by rw[ze];exact small _ (by lia),?_⟩;refine zhl (as:=l) (λσ=>∃v,σ=[v]) (λ_=>true) (λr=>.int r.sum) aL ⟨_,rfl⟩ ?_ ?_
 ·rintro r hr σ ⟨v,rfl⟩;refine⟨_,rfl,⟨_,rfl⟩,by simp only[W,xge],λ_=>?_⟩;simp only[W,V,M];exact⟨r,zcr r,trivial,rfl⟩
 ·rw[zcv];have e1:=zcr (l.map List.sum);rw[xcr] at e1;have e2:bSortSetM [.lst (l.map λr=>.int r.sum)] au=.ok (.ref au.length) (au++[.lst ((sortI (once (l.map List.sum))).map .int)]):=by
   unfold bSortSetM;dsimp only;rw[show(asL au (.lst (l.map λr=>D.int r.sum))).bind asInts=some (l.map List.sum) from e1];dsimp only;rw[if_pos];rw[xdn];intro x hx;obtain⟨r,hr,rfl⟩:=xbk.mp hx;have:=hs r hr;simp[smallI];lia
  exact WP.of e2 q
theorem zqm {N:Int}(hN:1<=N)(hN2:N<=10)(h0:0<=d)(h1:d<=if N<=3 then 24 else 10)(h2:cntP d (N - 1).toNat<=200)(q:Q (.int d) au):WP (zex [.int N,.int d] au) Q:=by
 refine zdz rfl ?_;have hd:d < 10 ^ 40:=by
  have:(30:Int) < 10 ^ 40:=by decide
  split at h1<;>lia
 have key:WP (zca [.int N,.int d] au) (λv s=>v=.bl true/\s=au):=by
  refine zdz rfl ?_;simp only[W,V];refine WP.mono (Q:=λv s=>v=.int (if N<=3 then 24 else 10)/\s=au) ?_ ?_
  ·refine zdz rfl ?_;simp only[W,V];refine⟨trivial,?_⟩;by_cases c:N<=3
   ·simp only[c,xes,xge]
   ·simp only[c,xeh,xge]
  ·rintro v s ⟨rfl,rfl⟩;simp only[W,V];refine⟨trivial,?_⟩;simp only[h1,xgm,xes,W,V];refine zzf hN hN2 h0 hd ?_;simp only[W,V];refine⟨trivial,?_⟩;rw[xbv h2]
   first | exact⟨rfl,trivial⟩ | exact⟨rfl,rfl⟩ | simp
 obtain⟨v,s,e,rfl,rfl⟩:=key.get;simp only[W,V];refine WP.of e ?_;simp only[Dd.N,W,V,xml];exact q
theorem zmr {N:Int}{l:List Row}(hN:1<=N)(hN2:N<=10)(h0:0<=d)(h1:d<=if N<=3 then 24 else 10)(h2:cntP d (N - 1).toNat<=200)(hl:l.length<=1000)(ne:l≠[])(hs:∀r∈l,r.sum=d)(k:∀g,Q (.int d) (au++g)):WP (zct [.int N,aK l] au) Q:=by
 refine zdz rfl ?_;simp only[W,V];refine znj hl (λr hr=>by rw[hs r hr];split at h1<;>lia) ?_;have e1:once (l.map List.sum)=[d]:=zms (by simpa using ne) λx hx=>by
  obtain⟨r,hr,rfl⟩:=xbk.mp hx;exact hs r hr
 rw[e1,zyd];have g:(au++[O.lst ([d].map .int)])[au.length]?=some (.lst [.int d]):=by simp
 have s1:seqOf (au++[O.lst ([d].map .int)]) (.ref au.length)=some [.int d]:=by
  unfold seqOf asL;simp[g]
 have k1:=k [O.lst ([d].map .int)];generalize au++[O.lst ([d].map .int)]=st1 at g s1 k1;have e2:bLen [.ref au.length] st1=.ok (.int 1) st1:=by
  unfold bLen;dsimp only;rw[s1]
  rfl
 have e3:tru st1 (.ref au.length)=some true:=by
  unfold tru asL;simp[g]
 refine WP.of e2 ?_;simp only[W,V];refine⟨trivial,?_⟩;rw[if_neg (by decide)];refine⟨true,e3,?_⟩;simp only[V];refine zkc (d:=.int d) s1 rfl ?_;exact zqm hN hN2 h0 h1 h2 k1
theorem zoo {N:Int}(k:∀g,Q .non (au++g)):WP (zct [.int N,aK []] au) Q:=by
 refine zdz rfl ?_;simp only[W,V];refine znj (l:=[]) (by simp) (λr hr=>(by cases hr)) ?_;have e1:sortI (once (([]:List Row).map List.sum))=[]:=List.perm_nil.mp (zfn _);rw[e1];have g:(au++[O.lst (([]:List Int).map .int)])[au.length]?=some (.lst []):=by simp
 have k1:=k [O.lst (([]:List Int).map .int)];generalize au++[O.lst (([]:List Int).map .int)]=st1 at g k1;have s1:seqOf st1 (.ref au.length)=some []:=by
  unfold seqOf asL;simp[g]
 have e2:bLen [.ref au.length] st1=.ok (.int 0) st1:=by
  unfold bLen;dsimp only;rw[s1]
  rfl
 have e3:tru st1 (.ref au.length)=some false:=by
  unfold tru asL;simp[g]
 refine WP.of e2 ?_;simp only[W,V];refine⟨trivial,?_⟩;rw[if_neg (by decide)];refine⟨false,e3,?_⟩;simp only[V];exact k1
def allJ (p:Pt):List Pt:=(List.range (p.2.toNat+1)).map λe:Nat=>(p.1++[(e:Int)],p.2 - (e:Int))
def allS (d:Int):Nat->List Pt
 | 0=>[([],d)]
 | k+1=>(allS d k).flatMap allJ
def allL (d:Int) (k:Nat):List Row:=(allS d k).map λp=>p.1++[p.2]
theorem zbcc {α:Type}{f:α->List Pt} :∀{l:List α},(∀a∈l,(f a).length<=B)->(l.flatMap f).length<=l.length * B
 | [],_=>by simp
 | a::l,h=>by
  have h1:=h a xbp;have h2:=zbcc (l:=l) λb hb=>h b (xbm _ hb)
  rw[xko,xbi,xcb,xjx];lia
theorem zji  (h0:0<=d):∀k:Nat,∀p∈allS d k,p.1.length=k/\(∀x∈p.1,0<=x)/\0<=p.2/\p.1.sum+p.2=d
 | 0,p,hp=>by
  simp[allS] at hp;subst hp;exact⟨rfl,by simp,h0,by simp⟩
 | k+1,p,hp=>by
  obtain⟨q,hq,hp⟩:=xel.mp hp;obtain⟨h1,h2,h3,h4⟩:=zji h0 k q hq;obtain⟨e,he,rfl⟩:=xbk.mp hp;have he:=xcf.mp he;refine⟨by simp[h1],λx hx=>?_,by dsimp only;lia,by simp;lia⟩;rcases xbr.mp hx with hx | hx
  ·exact h2 x hx
  ·simp at hx;lia
theorem zwy  (h0:0<=d):∀k:Nat,(allS d k).length<=(d.toNat+1) ^ k
 | 0=>by simp[allS]
 | k+1=>by
  have ih:=zwy h0 k;have h:=zbcc (f:=allJ) (B:=d.toNat+1) (l:=allS d k) λp hp=>by
   obtain⟨_,h2,h3,h4⟩:=zji h0 k p hp;have:=zlc h2;unfold allJ;rw[xbb,xeo];lia
  show((allS d k).flatMap allJ).length<=_;rw[xlk];exact xbc h (xfl _ ih)
theorem zbgz:∀(a:Row) (d:Int),(∀x∈a,0<=x)->a.sum<=d->(a,d - a.sum)∈allS d a.length:=λa=>by
 induction hn:a.length generalizing a with
 | zero =>
  intro d _ _;have:a=[]:=xkh.mp hn;subst this;simp[allS]
 | succ k ih =>
  intro d ha hs;have ne:a≠[]:=by rintro rfl;simp at hn
  obtain⟨b,e,rfl⟩:∃b e,a=b++[e]:=⟨a.dropLast,a.getLast ne,(xlw ne).symm⟩
  have he:=ha e (by simp);have hb:=λx hx=>ha x (xeb _ hx)
  rw[xej,xme] at hs;have h1:=ih b (by simp at hn;exact hn) d hb (by lia);refine xel.mpr ⟨_,h1,xbk.mpr ⟨e.toNat,xcf.mpr (by dsimp only;lia),?_⟩⟩;have e1:((e.toNat:Nat):Int)=e:=by lia
  rw[xej,xme,e1];dsimp only
  congr 1
  lia
theorem zgx {r:Row}   (hl:r.length=k+1)(hr:∀x∈r,0<=x)(hs:r.sum=d):r∈allL d k:=by
 have ne:r≠[]:=by rintro rfl;simp at hl
 obtain⟨b,e,rfl⟩:∃b e,r=b++[e]:=⟨r.dropLast,r.getLast ne,(xlw ne).symm⟩
 rw[xej,xme] at hs;have h1:=zbgz b d (λx hx=>hr x (xeb _ hx)) (by have:=hr e (by simp);lia);have e1:b.length=k:=by simpa using hl
 rw[e1] at h1;refine xbk.mpr ⟨_,h1,?_⟩;dsimp only;rw[show d - b.sum=e by lia]
theorem zel {d:Int}(h0:0<=d){k:Nat}{r:Row}(h:r∈allL d k):r.length=k+1/\(∀x∈r,0<=x)/\r.sum=d:=by
 obtain⟨p,hp,rfl⟩:=xbk.mp h;obtain⟨h1,h2,h3,h4⟩:=zji h0 k p hp;refine⟨by simp[h1],λx hx=>?_,by simp;lia⟩;rcases xbr.mp hx with hx | hx
 ·exact h2 x hx
 ·simp at hx;lia
end
end Dd
namespace Dd
open PySem L2
section
end
section
noncomputable def mostD (N:Int):Int:=([24,24,18,8,5,4,3,3,3,2]:List Int).getD (N - 1).toNat 0
theorem zzh:(List.range 10).all (λi=>decide (0<=mostD ((i:Int)+1)/\mostD ((i:Int)+1)<=(if((i:Int)+1)<=3 then 24 else 10)/\((mostD ((i:Int)+1)).toNat+1) ^ i<=100000))=true:=by decide +kernel
theorem zft {N:Int}(h1:1<=N)(h2:N<=10):0<=mostD N/\mostD N<=(if N<=3 then 24 else 10)/\((mostD N).toNat+1) ^ (N - 1).toNat<=100000:=by
 have:=xdn.mp zzh (N - 1).toNat (xcf.mpr (by lia));have:=xcz this;rw[show(((N - 1).toNat:Nat):Int)+1=N by lia] at this;exact this
end
end Dd
namespace K55
end K55
namespace Dd
open PySem L2 K13
theorem orx:∀v w:Nat,v ||| w=(v ^^^ w)+(v &&& w)/\v+w=(v ^^^ w)+2 * (v &&& w):=λv=>by
 induction v using Nat.strongRecOn with
 | _ v ih =>
 intro w;by_cases c:v=0
 ·subst c;simp
 ·have h:=ih (v / 2) (by lia) (w / 2);have a1:(v ||| w) / 2=v / 2 ||| w / 2:=Nat.or_div_two
  have a2:(v ^^^ w) / 2=v / 2 ^^^ w / 2:=Nat.xor_div_two;have a3:(v &&& w) / 2=v / 2 &&& w / 2:=xlj;have b1:(v ||| w) % 2=1↔v % 2=1\/w % 2=1:=Nat.or_mod_two_eq_one;have b2:=Nat.xor_mod_two_eq_one (a:=v) (b:=w);have b3:(v &&& w) % 2=1↔v % 2=1/\w % 2=1:=Nat.and_mod_two_eq_one;rw[← a1,← a2,← a3] at h;generalize (v ||| w)=x at *
  generalize (v ^^^ w)=y at *
  generalize (v &&& w)=z at *
  lia
theorem zej (v w:Nat):Builtin.bitAnd (v:Int) (w:Int)=((v &&& w:Nat):Int):=by simp[Builtin.bitAnd]
theorem zjf (v w:Nat):Builtin.bitXor (v:Int) (w:Int)=((v ^^^ w:Nat):Int):=by
 rw[PyProof.Rows.bitXor_and,zej];have:=(orx v w).2;lia
theorem zrb (v w:Nat):Builtin.bitOr (v:Int) (w:Int)=((v ||| w:Nat):Int):=by
 have h:Builtin.bitXor (v:Int) (w:Int)=Builtin.bitOr v w - Builtin.bitAnd v w:=rfl;rw[zjf,zej] at h;have:=(orx v w).1;lia
theorem zgr (v:Nat):Builtin.Int.intBits (v:Int)=bl v:=by
 unfold Builtin.Int.intBits bl;by_cases c:v=0
 ·rw[if_pos c,c];rfl
 ·rw[if_neg c,if_neg (by simp;exact c),Int.natAbs_natCast]
def pw (AL:List Row) (r:Row):Nat:=2 ^ AL.idxOf r
theorem pw_lt   (h:r∈AL):pw AL r < 2 ^ AL.length:=Nat.pow_lt_pow_right (by decide) (xec h)
theorem zbmw {α:Type}{f:α->Nat}{N:Nat}:∀{l:List α},(∀x∈l,f x < 2 ^ N)->xr l f < 2 ^ N
 | [],_=>xni N
 | x::l,h=>xmd (h x (xbp ..)) (zbmw λy hy=>h y (xbm _ hy))
theorem zbhi {AL:List Row} :∀{l:List Row},(∀x∈l,AL.idxOf x≠q)->(xr l (pw AL)).testBit q=false
 | [],_=>xjk q
 | x::l,h=>by
  rw[zbr,xip,zbhi λy hy=>h y (xbm _ hy)];unfold pw;rw[xhy,xby (h x (xbp ..))];rfl
theorem zvm {AL:List Row}{x y:Row}(hx:x∈AL)(hy:y∈AL)(e:AL.idxOf x=AL.idxOf y):x=y:=by
 have a:=xhg (xec hx);have b:=xhg (xec hy);rw[← a,← b];congr 1
theorem zbct {t:Nat}(h:t.testBit q=false):t &&& 2 ^ q=0:=by
 refine Nat.eq_of_testBit_eq λi=>?_
 rw[Nat.testBit_and,xhy,xjk];by_cases c:q=i
 ·rw[← c,h];rfl
 ·rw[xby c,xkb]
theorem zbjs {AL l:List Row}{r:Row}(hl:∀x∈l,x∈AL)(hr:r∈AL)(n:r∉l):xr l (pw AL)+2 ^ AL.idxOf r=xr (l++[r]) (pw AL)/\(xr l (pw AL) ||| 2 ^ AL.idxOf r)=xr (l++[r]) (pw AL):=by
 have h:(xr l (pw AL)).testBit (AL.idxOf r)=false:=zbhi λx hx e=>n (zvm (hl x hx) hr e ▸ hx)
 have z:=zbct h;obtain⟨o1,o2⟩:=orx (xr l (pw AL)) (2 ^ AL.idxOf r);have e:xr (l++[r]) (pw AL)=xr l (pw AL) ^^^ 2 ^ AL.idxOf r:=by rw[zdn];show _ ^^^ (pw AL r ^^^ 0)=_;rw[xeg];rfl
 rw[z] at o1 o2;rw[e];lia
theorem zbcx  {a b:List Row}(h:∀x,a.count x % 2=b.count x % 2):xr a f=xr b f:=by
 have bit:∀(l:List Row) (i:Nat),(xr l f).testBit i=decide (tot l (λx=>if(f x).testBit i=true then 1 else 0) % 2=1):=λl i=>by
  induction l with
  | nil=>simp[xr,tot]
  | cons x l ih =>
   rw[zbr,xip,ih,znu];cases(f x).testBit i
   ·simp
   ·simp only[xes];rw[xhj];simp;lia
 refine Nat.eq_of_testBit_eq λi=>?_
 rw[bit,bit,zbhx _ h]
theorem zxf    (hk:0<=k)(hp:Nn p):xr (aO (raiseL k [p])) f=T k f p:=by
 rw[zbcx λx=>zeh (raiseL k [p]) x,show raiseL k [p]=raiseR k p by unfold raiseL;simp,zfp hp hk,zfl];unfold T;refine zm λx _=>?_
 by_cases c:x.sum=p.sum+k
 ·rw[if_pos (xbv c),if_pos c]
 ·rw[if_neg (by simp[c]),if_neg c]
theorem zri:∀(m:Nat) (d:Int),allS d (m+1)=(List.range (d.toNat+1)).flatMap λe:Nat=>(allS (d - e) m).map λp=>((e:Int)::p.1,p.2)
 | 0,d=>by
  show([(([]:Row),d)]:List Pt).flatMap allJ=_;rw[List.flatMap_singleton];unfold allJ;rw[List.map_eq_flatMap]
  rfl
 | m+1,d=>by
  show(allS d (m+1)).flatMap allJ=_;rw[zri m d,List.flatMap_assoc];refine congrArg (λf=>List.flatMap f (List.range (d.toNat+1))) (funext λe=>?_);show _=((allS (d - e) m).flatMap allJ).map _;rw[List.flatMap_map,xkx];refine congrArg (λf=>List.flatMap f (allS (d - e) m)) (funext λp=>?_);unfold allJ;rw[xcr]
  rfl
theorem zly (m:Nat)(d:Int):allL d (m+1)=(List.range (d.toNat+1)).flatMap λe:Nat=>(allL (d - e) m).map λr=>(e:Int)::r:=by
 unfold allL;rw[zri,xkx];refine congrArg (λf=>List.flatMap f (List.range (d.toNat+1))) (funext λe=>?_);rw[xcr,xcr]
 rfl
theorem zdi:∀(m:Nat) (d:Int),(allL d m).Nodup
 | 0,d=>by show[[d]].Nodup;simp
 | m+1,d=>by
  rw[zly];refine List.pairwise_flatMap.mpr ⟨λe _=>?_,xnd.imp λ{a b} ne x hx y hy h=>?_⟩
  ·exact xiu.mpr ((zdi m _).imp λ{a b} ne h=>ne (List.cons.inj h).2)
  ·obtain⟨r,_,rfl⟩:=xbk.mp hx;obtain⟨s,_,rfl⟩:=xbk.mp hy;have:=(List.cons.inj h).1;lia
end Dd
namespace Dd
open PySem L2
section
end
section
end
section
end
section
end
section
end
section
end
end Dd
namespace K37
end K37
namespace Dd
open PySem L2
section
theorem _root_.List.set_getElem_self' {α:Type}{s:List α}  {x:α}(h:s[m]?=some x):s.set m x=s:=by
 obtain⟨hm,rfl⟩:=xbg.mp h;exact List.set_getElem_self hm
end
end Dd
namespace K39
end K39
namespace Dd
open PySem L2
namespace Tab
/- the law's side -/
/- what is looked at -/
end Tab
namespace Tab
theorem wp_grow {α:Type}{bd:SG}{body:SS}{au:Store}{Q:Fl->Store->Prop}(E:α->D)(f:α->List D)(S:DS->Prop)(B:Nat){as:List α}{acc:List D}{σ:DS}{g:Store}(h0:S σ)(hB:(acc++as.flatMap f).length<=B)
  (t:∀a∈as,∀σ acc g,S σ->(acc++f a).length<=B->∃σ1,bd (E a) σ=some σ1/\∀R:Fl->Store->Prop,(∀σ' g',S σ'->R (.nx σ') (au++(.lst (acc++f a)::g')))->WP (body σ1 (au++(.lst acc::g))) R)
  (q:∀σ' g',S σ'->Q (.nx σ') (au++(.lst (acc++as.flatMap f)::g'))):WP (forF bd body (as.map E) σ (au++(.lst acc::g))) Q:=by
 refine zdo (λi σ s=>∃g,S σ/\s=au++(.lst (acc++(as.take i).flatMap f)::g)) ⟨g,h0,by simp⟩ ?_ ?_
 ·rintro i x σ s hx ⟨g,hS,rfl⟩;rw[xco] at hx;obtain⟨z,hz,rfl⟩:=xdj.mp hx;have e:(as.take (i+1)).flatMap f=(as.take i).flatMap f++f z:=by rw[zh hz,xlr];simp
  have hl:((as.take (i+1)).flatMap f).length<=(as.flatMap f).length:=by
   conv=>rhs;rw[← xdf (i+1) as,xlr,xbi]
   lia
  rw[e] at hl;rw[xbi] at hB hl;obtain⟨σ1,e1,w⟩:=t z (xbz hz) σ (acc++(as.take i).flatMap f) g hS (by simp only[xbi];lia);refine⟨σ1,e1,w _ λσ' g' h'=>?_⟩;simp only[L];exact⟨g',h',by rw[e,xck]⟩
 ·rintro σ s ⟨g,hS,rfl⟩;rw[xbb,xce];exact q _ _ hS
section
end
end Tab
end Dd
namespace Dd
open PySem L2 K13
def bitK (Q:D->Store->Prop):D->Store->Prop:=λv s=>match v with
 | .int i=>Q (.int (Builtin.Int.intBits i)) s
 | _=>False
theorem zsu    :WP (eBits f σ au) Q=WP (f σ au) (bitK Q):=by
 unfold eBits;rw[zf]
 congr
 funext x s
 cases x<;>rfl
theorem zpk   :bitK Q (.int i) s=Q (.int (Builtin.Int.intBits i)) s:=rfl
theorem zst   :WP (eDNewI σ au) Q=Q (.ref au.length) (au++[.dI []]):=rfl
theorem zbkn      (h:au[n]?=some (.dI kvs)):oIIn neg (.int k) (.ref n) au=.ok (.bl (if neg then !(valI kvs k).isSome else(valI kvs k).isSome)) au:=by
 unfold oIIn intsOf;simp only[h]
theorem zbbs      (h:au[n]?=some (.dI kvs))(hv:valI kvs k=some v):oIGet (.ref n) (.int k) au=.ok v au:=by
 unfold oIGet intsOf;simp only[h,hv]
theorem zbhk     (q:WP (h σ au) (λv s1=>WP (f σ s1) (λx s2=>WP (g σ s2) (λy s3=>∃n k kvs,x=.ref n/\y=.int k/\s3[n]?=some (.dI kvs)/\kvs.length < sizeLine/\Q (.nx σ) (s3.set n (.dI (putI kvs k v))))))):WP (sIPut f g h σ au) Q:=by
 unfold sIPut;rw[zf];refine q.mono λv s1 q=>?_
 rw[zf];refine q.mono λx s2 q=>?_
 rw[zf];refine q.mono λy s3 q=>?_
 obtain⟨n,k,kvs,rfl,rfl,e,hl,q⟩:=q;simp only[e,hl,xes];exact q
theorem zbhl     (q:WP (h σ au) (λv s1=>WP (f σ s1) (λx s2=>WP (g σ s2) (λy s3=>∃n r kvs,x=.ref n/\y=aL r/\s3[n]?=some (.dT kvs)/\kvs.length < sizeLine/\Q (.nx σ) (s3.set n (.dT (putD kvs r v))))))):WP (sDPut f g h σ au) Q:=by
 unfold sDPut;rw[zf];refine q.mono λv s1 q=>?_
 rw[zf];refine q.mono λx s2 q=>?_
 rw[zf];refine q.mono λy s3 q=>?_
 obtain⟨n,r,kvs,rfl,rfl,e,hl,q⟩:=q;rw[zer];simp only[e,hl,xes];exact q
theorem zvv {κ:Type}[DecidableEq κ]{kvs:List (κ×D)}{k j:κ}{v:D}:((if(kvs.any λkv=>decide (kv.1=k))=true then kvs.map (λkv=>if kv.1=k then(kv.1,v) else kv) else kvs++[(k,v)]).find? λkv=>decide (kv.1=j)).map (·.2)=if j=k then some v else(kvs.find? λkv=>decide (kv.1=j)).map (·.2):=by
 by_cases c:(kvs.any λkv=>decide (kv.1=k))=true
 ·rw[if_pos c]
  induction kvs with
  | nil=>simp at c
  | cons p kvs ih =>
   rw[xbu,xdp,xdp];by_cases e:p.1=k
   ·rw[if_pos e];by_cases z:p.1=j
    ·simp only[z,xgm,Option.map_some];rw[if_pos (z.symm.trans e)]
    ·have zk:¬ j=k:=λq=>z (e.trans q.symm)
     simp only[z,xgf,if_neg zk];by_cases c2:(kvs.any λkv=>decide (kv.1=k))=true
     ·rw[ih c2,if_neg zk]
     ·have:kvs.map (λkv=>if kv.1=k then(kv.1,v) else kv)=kvs:=by
       refine(xjo λq hq=>?_).trans (xnk _);by_cases y:q.1=k
       ·exact absurd (xji.mpr ⟨q,hq,by simp[y]⟩) c2
       ·rw[if_neg y];rfl
      rw[this]
   ·rw[if_neg e];have c2:(kvs.any λkv=>decide (kv.1=k))=true:=by rw[xhp,xby e,Bool.false_or] at c;exact c
    by_cases z:p.1=j
    ·simp only[z,xgm];rw[if_neg (λq=>e (z.trans q))]
    ·simp only[z,xgf];exact ih c2
 ·rw[if_neg c,List.find?_append];by_cases z:j=k
  ·subst z;have:kvs.find? (λkv=>decide (kv.1=j))=none:=by
    refine xil.mpr λq hq=>?_
    intro y;exact c (xji.mpr ⟨q,hq,y⟩)
   rw[this];simp
  ·rw[if_neg z];have:[(k,v)].find? (λkv=>decide (kv.1=j))=none:=by
    rw[xdp];have:¬ k=j:=λq=>z q.symm
    simp[this]
   rw[this,Option.or_none]
theorem zsx {kvs:List (Int×D)}{k j:Int}{v:D}:valI (putI kvs k v) j=if j=k then some v else valI kvs j:=zvv
theorem zbcz {kvs:List (Row×D)}{k j:Row}{v:D}:valD (putD kvs k v) j=if j=k then some v else valD kvs j:=zvv
theorem zbbk {κ:Type}[DecidableEq κ]{kvs:List (κ×D)}{k:κ}{v:D}:(if(kvs.any λkv=>decide (kv.1=k))=true then kvs.map (λkv=>if kv.1=k then(kv.1,v) else kv) else kvs++[(k,v)]).length<=kvs.length+1:=by
 split
 ·rw[xbb];lia
 ·rw[xbi];exact xbf _
theorem zbdn {kvs:List (Int×D)}{k:Int}{v:D}:(putI kvs k v).length<=kvs.length+1:=zbbk
theorem zbdo {kvs:List (Row×D)}{k:Row}{v:D}:(putD kvs k v).length<=kvs.length+1:=zbbk
theorem zxm     (h:WP (f σ au) (λx s=>∃xs,x=.lst xs/\Q (numF 0 xs) s)):WP (iEn0 f σ au) Q:=by
 unfold iEn0;rw[zf];refine h.mono λx s q=>?_
 obtain⟨xs,rfl,q⟩:=q;exact q
theorem small17  (h:n < 16000000):n < sizeLine:=by rw[xhu];lia
theorem zpo  (h0:0<=d)(m:Nat):(allL d m).length<=(d.toNat+1) ^ m:=by unfold allL;rw[xbb];exact zwy h0 m
theorem zbdv:∀(f m:Nat) {d:Int} {N:Int} {au:Store} {Q:D->Store->Prop},m<=f->m<=100->N=(m:Int)+1->0<=d->d<=1000->(d.toNat+1) ^ m<=100000 ->
  (∀g,Q (.lst (aJ (allL d m))) (au++g))->WP (iterF zi (f+1) [.int N,.int d] au) Q:=λf=>by
 induction f with
 | zero =>
  intro m d N au Q hm _ hN h0 hd hb k;obtain rfl:m=0:=by lia
  show WP (fnD 4 2 _ [.int N,.int d] au) Q;refine zdz rfl ?_;simp only[W,V];rw[if_pos (show N=1 by lia)];refine⟨small _ (by simp),small _ (by simp),?_⟩;have:=k [];rw[xcy] at this;exact this
 | succ f ih =>
  intro m d N au Q hm hm2 hN h0 hd hb k;show WP (fnD 4 2 _ [.int N,.int d] au) Q;refine zdz rfl ?_;simp only[W,V];by_cases c:m=0
  ·subst c;rw[if_pos (show N=1 by lia)];refine⟨small _ (by simp),small _ (by simp),?_⟩;have:=k [];rw[xcy] at this;exact this
  ·obtain⟨j,rfl⟩:∃j,m=j+1:=⟨m - 1,by lia⟩
   rw[if_neg (show ¬ N=1 by lia)];simp only[W,V,Dd.N];refine⟨small _ (by simp),rngN (by lia) (by lia),?_⟩;have fl:=zpo h0 (j+1);have hd1:(d+1).toNat=d.toNat+1:=by lia
   have e0:aJ (allL d (j+1))=(List.range (d.toNat+1)).flatMap λe:Nat=>(allL (d - e) j).map λr=>aL ((e:Int)::r):=by
    rw[zly];unfold aJ;rw[xkx];simp only[xcr];rfl
   rw[hd1];unfold rng;refine Tab.wp_grow (λe:Nat=>.int (0+(e:Int))) (λe:Nat=>(allL (d - e) j).map λr=>aL ((e:Int)::r)) (λσ=>∃v,σ=[some (.int N),some (.int d),some (.ref au.length),v]) 100000 (acc:=[]) (g:=[]) ⟨_,rfl⟩ ?_ ?_ ?_
   ·rw[xlg,← e0,ze];lia
   ·rintro e he σ acc g ⟨v,rfl⟩ hB;have he:=xcf.mp he;refine⟨_,rfl,λR hR=>?_⟩;rw[xhe];unfold zbv;simp only[W,V,zhs];refine⟨_,_,rfl,by simp;rfl,?_⟩;have pb:((d - (e:Int)).toNat+1) ^ j<=100000:=by
     have p1:((d - (e:Int)).toNat+1) ^ j<=(d.toNat+1) ^ j:=xls (by lia) _;have p2:(d.toNat+1) ^ j<=(d.toNat+1) ^ (j+1):=xex (by lia) (by lia);lia
    refine⟨trivial,trivial,?_⟩;refine ih j (d:=d - (e:Int)) (N:=N - 1) (by lia) (by lia) (by lia) (by lia) (by lia) pb λg2=>?_
    refine⟨_,rfl,?_⟩;have fl2:=zpo (show 0<=d - (e:Int) by lia) j;have fc:=λr hr=>@zel (d - (e:Int)) (by lia) j r hr
    refine⟨by rw[ze];exact small _ (by lia),?_⟩;unfold aJ;refine zhl (λσ=>∃v,σ=[v,some (.int (e:Int))]) (λ_=>true) (λr=>aL ((e:Int)::r)) aL ⟨_,rfl⟩ ?_ ?_
    ·rintro r hr σ ⟨v,rfl⟩;refine⟨_,rfl,⟨_,rfl⟩,by simp only[W,xge],λ_=>?_⟩;simp only[W,V,aL];have:=(fc r hr).1;refine⟨small _ (by simp),small _ (by simp;lia),trivial,?_⟩;simp
    ·rw[zcv];rw[xbi] at hB;refine⟨_,_,_,rfl,by simp;rfl,rfl,by rw[xbb] at hB ⊢;exact small _ (by lia),?_⟩;have:=hR _ (g++g2) ⟨some (.int e),rfl⟩
     simpa using this
   ·rintro σ g ⟨v,rfl⟩;simp only[W,V,M,Dd.N,L];refine⟨_,_,rfl,by simp;rfl,?_⟩;rw[← e0];have:=k (.dead::g)
    simpa using this
noncomputable def twos (i:Nat):List Int:=(List.range i).map λt=>((2 ^ t:Nat):Int)
structure Enough (d:Int) (i:Nat):Prop where
 low:∀t,t < i->2 * ((2 ^ t:Nat):Int)<=d
 top:d < 2 * ((2 ^ i:Nat):Int)
theorem zbeg    (h0:0<=d)(hd:d<=1000)(k:∀i g,Enough d i->Q (.lst ((twos i).map .int)) (au++g)):WP (zci [.int d] au) Q:=by
 refine zdz rfl ?_;simp only[W,V];refine⟨small _ (by simp),?_⟩;refine znq (λm σ s=>∃i:Nat,m=(d+1 - ((2 ^ i:Nat):Int)).toNat/\σ=[some (.int d),some (.ref au.length),some (.int ((2 ^ i:Nat):Int))]/\s=au++[.lst ((twos i).map .int)]/\∀t,t < i->2 * ((2 ^ t:Nat):Int)<=d) (k:=(d+1 - ((2 ^ 0:Nat):Int)).toNat)
  ⟨0,rfl,rfl,by simp[twos],λt ht=>absurd ht (by lia)⟩ (by lia) ?_
 rintro m σ s ⟨i,hm,rfl,rfl,low⟩;have p0:1<=2 ^ i:=xmc;have p1:2 ^ (i+1)=2 * 2 ^ i:=by rw[xlk];lia
 simp only[W,V];refine⟨.inl ⟨by decide,by decide⟩,trivial,?_⟩;by_cases c:2 * ((2 ^ i:Nat):Int)<=d
 ·rw[if_pos c];have hi:i < 1000:=by
   have:i < 2 ^ i:=Nat.lt_two_pow_self;lia
  unfold zdw;simp only[W,V,M,Dd.N,L];refine⟨_,_,rfl,by simp;rfl,_,_,rfl,by simp;rfl,?_,?_⟩
  ·rw[xbb];unfold twos;rw[xbb,xeo];exact small17 (by lia)
  ·refine⟨.inl ⟨by decide,by decide⟩,(d+1 - ((2 ^ (i+1):Nat):Int)).toNat,by lia,i+1,rfl,by rw[p1];simp,?_,λt ht=>?_⟩
   ·unfold twos;rw[xih];simp
   ·by_cases z:t=i
    ·rw[z];exact c
    ·exact low t (by lia)
 ·rw[if_neg c];simp only[W,V,M,Dd.N,L];refine⟨_,_,rfl,by simp;rfl,?_⟩;have:=k i [.dead] ⟨low,by lia⟩
  simpa using this
section
def srcs (d:Int) (m i:Nat):List (Int×Row):=(twos i).flatMap λk=>(allL (d - k) m).map λp=>(k,p)
def srcD (p:Int×Row):D:=.tup [.int p.1,aL p.2]
structure Fit (m:Nat) (d:Int):Prop where
 m9:m<=9
 d0:0<=d
 d24:d<=24
 few:(d.toNat+1) ^ m<=100000
 ten:2 < m->d<=10
theorem Fit.less   (h:Fit m d)(h0:0<=k)(hk:k<=d):Fit m (d - k):=⟨h.m9,by lia,by have:=h.d24;lia,xbc (xls (by have:=h.d0;lia) _) h.few,λz=>by have:=h.ten z;lia⟩
theorem Fit.len   (h:Fit m d):(allL d m).length<=100000:=xbc (zpo h.d0 m) h.few
theorem Enough.few   (h:Enough d i)(hd:d<=24):i<=4:=by
 rcases xff 4 i with z | z
 ·have:=h.low 4 z;lia
 ·exact z
theorem zii   (h:Enough d i)(hk:k∈twos i):∃t,k=((2 ^ t:Nat):Int)/\2 * k<=d/\1<=k:=by
 unfold twos at hk;obtain⟨t,ht,rfl⟩:=xbk.mp hk;have:1<=2 ^ t:=xmc;exact⟨t,rfl,h.low t (xcf.mp ht),by lia⟩
theorem znx   (h:Fit m d):∀{ks:List Int},(∀k∈ks,0<=k/\k<=d)->(ks.flatMap λk=>(allL (d - k) m).map λp=>(k,p)).length<=ks.length * 100000
 | [],_=>xbf _
 | k::ks,hk=>by
  rw[xko,xbi,xbb,xcb];have a:=(h.less (hk k (xbp ..)).1 (hk k (xbp ..)).2).len;have b:=znx h (ks:=ks) λx hx=>hk x (xbm _ hx)
  lia
theorem zgj {N d:Int}{m:Nat}(hN:N=(m:Int)+1)(h:Fit m d)(k:∀i g,Enough d i->Q (.lst ((srcs d m i).map srcD)) (au++g)):WP (zbp [.int N,.int d] au) Q:=by
 have h24:=h.d24;have hd0:=h.d0;refine zdz rfl ?_;simp only[W,V];refine⟨small _ (by simp),?_⟩;refine zbeg h.d0 (by lia) λi g0 en=>?_
 have i4:=en.few h24;simp only[Dd.N];have e0:(srcs d m i).map srcD=(twos i).flatMap λk=>(allL (d - k) m).map λp=>srcD (k,p):=by
  unfold srcs;rw[xkx];simp only[xcr];rfl
 rw[xck];refine Tab.wp_grow (λk:Int=>.int k) (λk=>(allL (d - k) m).map λp=>srcD (k,p)) (λσ=>∃v,σ=[some (.int N),some (.int d),some (.ref au.length),v]) 500000 (acc:=[]) (g:=g0) ⟨_,rfl⟩ ?_ ?_ ?_
 ·rw[xlg,← e0,xbb];have:=znx h (ks:=twos i) λk hk=>by obtain⟨t,_,a,b⟩:=zii en hk;lia
  have l:(twos i).length=i:=by unfold twos;simp
  rw[l] at this;unfold srcs;lia
 ·rintro k hk σ acc g ⟨v,rfl⟩ hB;obtain⟨t,_,a,b⟩:=zii en hk;have hf:=h.less (k:=k) (by lia) (by lia);refine⟨_,rfl,λR hR=>?_⟩;unfold zcs;simp only[W,V,zhs];refine⟨_,_,rfl,by simp;rfl,?_⟩;refine⟨trivial,zbdv 9 m (d:=d - k) (N:=N) hf.m9 (by have:=hf.m9;lia) hN hf.d0 (by lia) hf.few λg2=>?_⟩;refine⟨_,rfl,by rw[ze];exact small _ (by have:=hf.len;lia),?_⟩;unfold aJ;refine zhl (λσ=>∃v,σ=[v,some (.int k)]) (λ_=>true) (λr=>srcD (k,r)) aL ⟨_,rfl⟩ ?_ ?_
  ·rintro r hr σ ⟨v,rfl⟩;refine⟨_,rfl,⟨_,rfl⟩,by simp only[W,xge],λ_=>?_⟩;simp only[W,V];exact⟨small _ (by simp),trivial,rfl⟩
  ·rw[zcv];rw[xbi] at hB;refine⟨_,_,_,rfl,by simp;rfl,rfl,by rw[xbb] at hB ⊢;exact small _ (by lia),?_⟩;have:=hR _ (g++g2) ⟨some (.int k),rfl⟩
   simpa using this
 ·rintro σ g ⟨v,rfl⟩;simp only[W,V,M,Dd.N,L];refine⟨_,_,rfl,by simp;rfl,?_⟩;rw[← e0];have:=k i (.dead::g) en
  simpa using this
structure Plc (AL:List Row) (i:Nat) (kvs:List (Row×D)):Prop where
 val:∀r,valD kvs r=if AL.idxOf r < i then some (.int (AL.idxOf r:Int)) else none
 len:kvs.length<=i
theorem zbpy {AL:List Row}(nd:AL.Nodup)   (h:AL[i]?=some r)(x:Row):AL.idxOf x=i↔x=r:=by
 obtain⟨hi,e⟩:=xbg.mp h;constructor
 ·intro q;have:AL.idxOf x < AL.length:=by lia
  have:=xhg this;rw[← this,← e];simp only[q]
 ·intro q;rw[q,← e];exact xjy nd i hi
theorem Plc.put {AL:List Row}(nd:AL.Nodup)    (h:Plc AL i kvs)(hr:AL[i]?=some r):Plc AL (i+1) (putD kvs r (.int (0+(i:Int)))):=⟨λx=>by
 rw[zbcz,h.val x];have q:=zbpy nd hr x;by_cases c:x=r
 ·rw[if_pos c,q.mpr c,if_pos (by lia),xhe]
 ·rw[if_neg c];have:AL.idxOf x≠i:=λz=>c (q.mp z)
  by_cases d:AL.idxOf x < i
  ·rw[if_pos d,if_pos (by lia)]
  ·rw[if_neg d,if_neg (by lia)],xbc zbdo (by have:=h.len;lia)⟩
theorem Plc.at   (h:Plc AL AL.length kvs)  (hr:r∈AL):valD kvs r=some (.int (AL.idxOf r:Int)):=by
 rw[h.val,if_pos (xec hr)]
theorem zqg {au:Store}{AL:List Row}(nd:AL.Nodup)(hl:AL.length<=100000)(k:∀kvs,Plc AL AL.length kvs->Q (.ref au.length) (au++[.dT kvs])):WP (zcl [.lst (aJ AL)] au) Q:=by
 refine zdz rfl ?_;simp only[W,V];refine zxm ?_;simp only[W,V];refine⟨_,rfl,?_⟩;refine zdo (λi σ s=>(∃v w,σ=[some (.lst (aJ AL)),some (.ref au.length),v,w])/\∃kvs,s=au++[.dT kvs]/\Plc AL i kvs) ⟨⟨_,_,rfl⟩,[],rfl,λr=>(by rw[if_neg (by lia)];rfl),xbf _⟩ ?_ ?_
 ·rintro i x σ s hx ⟨⟨v,w,rfl⟩,kvs,rfl,pl⟩;obtain⟨y,hy,rfl⟩:=zgm hx;obtain⟨r,hr,rfl⟩:=zby hy;have hi:i < AL.length:=(xbg.mp hr).1;refine⟨_,rfl,?_⟩;unfold zgb;refine zbhl ?_;simp only[W,V,L];exact⟨_,_,_,rfl,rfl,by simp;rfl,small17 (by have:=pl.len;lia),⟨_,_,rfl⟩,_,by simp,pl.put nd hr⟩
 ·rintro σ s ⟨⟨v,w,rfl⟩,kvs,rfl,pl⟩;rw[zck,ze] at pl;simp only[W,V];exact k kvs pl
theorem zon {l:List Row}   (nd:l.Nodup)(h:l[i]?=some r):r∉l.take i:=λhm=>by
 have n:=nd.sublist (xkk (i+1) l);rw[zh h] at n;exact(xiv.mp n).2.2 r hm r (by simp) rfl
theorem zjh {l:List Row}   (hp:au[n]?=some (.dT kvs))(pl:Plc AL AL.length kvs)(hl:AL.length<=100000)(nd:l.Nodup)(hm:∀x∈l,x∈AL)(q:Q (.int (xr l (pw AL):Nat)) au):WP (zcm [.ref n,aK l] au) Q:=by
 refine zdz rfl ?_;simp only[W,V,Dd.N];refine zdo (λi σ s=>(∃v,σ=[some (.ref n),some (aK l),some (.int (xr (l.take i) (pw AL):Nat)),v])/\s=au) ⟨⟨_,rfl⟩,rfl⟩ ?_ ?_
 ·rintro i x σ s hx ⟨⟨v,rfl⟩,rfl⟩;obtain⟨r,hr,rfl⟩:=zby hx;have hrm:=xbz hr;have hix:=xec (hm r hrm);refine⟨_,rfl,?_⟩;unfold zge;simp only[W,V];rw[zuq (zkr hp) (pl.at (hm r hrm))];simp only[W,V,L];refine⟨⟨by lia,by lia,by decide⟩,trivial,⟨some (aL r),?_⟩,trivial⟩;have nw:=zbjs (AL:=AL) (l:=l.take i) (r:=r) (λx hx=>hm x (xew hx)) (hm r hrm) (zon nd hr);rw[show(1:Int) * 2 ^ (AL.idxOf r:Int).toNat=((2 ^ AL.idxOf r:Nat):Int) by rw[Int.one_mul,xef];simp,zrb,nw.2,← zh hr]
 ·rintro σ s ⟨⟨v,rfl⟩,rfl⟩;rw[ze,xce];simp only[W,V];exact q
end
section
theorem len59   (h:au[m]?=some (.lst xs)):bLen [.ref m] au=.ok (.int xs.length) au:=by
 unfold bLen;dsimp only;rw[show seqOf au (.ref m)=some xs from zkg h]
theorem Fit.box   (h:Fit m d){p:Row}(f1:p.length=m+1)(f2:Nn p)(f3:p.sum<=d):Dd.box p<=20000:=by
 have h24:=h.d24;have x24:∀x∈p,x<=24:=λx hx=>by have:=zbnd f2 x hx;lia
 by_cases c:m<=2
 ·have b1:=zbcp x24;rw[f1] at b1;have b2:25 ^ (m+1)<=25 ^ 3:=xex (by lia) (by lia);lia
 ·have t:=h.ten (by lia);have b1:=zbco f2;have b2:2 ^ p.sum.toNat<=2 ^ 10:=xex (by lia) (by lia);lia
theorem zbdl    (h0:0<=k)(hp:Mon (m+1) (d - k) p)(hx:x∈aO (raiseL k [p])):x∈allL d m:=by
 have h1:=zcd hx;rw[show raiseL k [p]=raiseR k p by unfold raiseL;simp,zfp hp.nn h0] at h1;obtain⟨a,b⟩:=xdo.mp h1;exact zgx ((zeq hp.nn x a).2.trans hp.len) (zie p hp.nn x a) (by rw[xcz b,hp.sum];lia)
theorem zwz   (h0:0<=d)  (h:p∈allL d m):Mon (m+1) d p:=by
 obtain⟨a,b,c⟩:=zel h0 h;exact⟨a,b,c⟩
end
section
end
end Dd
namespace Dd
open PySem L2
noncomputable def Sh (n:Nat) (d:D):Prop:=∃p,toData d=some p/\p.canLay0=true/\p.depth<=n
theorem Sh.int  :Sh n (.int i):=⟨_,rfl,rfl,xee _⟩
theorem Sh.str   (h:(PyData.str x).canLay0=true):Sh n (.str x):=⟨_,rfl,h,xee _⟩
theorem Sh.all :∀{ds:List D},(∀d∈ds,Sh n d)->∃ps,toDatas ds=some ps/\PyData.canLayAll0 ps=true/\PyData.depthAll ps<=n
 | [],_=>⟨[],rfl,rfl,xee _⟩
 | d::ds,h=>by
  obtain⟨p,e,h1,h2⟩:=h d (by simp);obtain⟨ps,es,h3,h4⟩:=Sh.all (ds:=ds) λx hx=>h x (by simp[hx])
  refine⟨p::ps,by rw[toDatas,e,es];rfl,?_,?_⟩
  ·show(p.canLay0&&PyData.canLayAll0 ps)=true;rw[h1,h3];rfl
  ·show max p.depth (PyData.depthAll ps)<=n;lia
theorem Sh.tup   (h:∀d∈ds,Sh n d):Sh (n+1) (.tup ds):=by
 obtain⟨ps,e,h1,h2⟩:=Sh.all h;exact⟨.tuple ps,by rw[toData,e];rfl,h1,xfk h2⟩
theorem Sh.row  :Sh (n+1) (aL r):=Sh.tup λd hd=>by
 obtain⟨x,_,rfl⟩:=xbk.mp hd;exact .int
theorem Sh.sum  :Sh (n+2) (aK l):=Sh.tup λd hd=>by
 obtain⟨x,_,rfl⟩:=xbk.mp (show d∈aJ l from hd);exact .row
theorem Sh.ok   (e:toData d=some p)(h1:p.canLay0=true)(h2:p.depth<=64):PySem.SeqAt.shaped p=true/\PyData.eqv p p=true:=by
 refine⟨?_,PySem.SeqAt.eqv_refl p h1⟩;show(p.canLay0&&decide (p.depth<=64))=true;rw[h1,xbv h2];rfl
theorem zvw    (hx:now au x=d)(hy:now au y=d)(h:Sh 64 d):oEqG neg x y au=.ok (.bl (!neg)) au:=by
 obtain⟨p,e,h1,h2⟩:=h;obtain⟨s1,s2⟩:=Sh.ok e h1 h2;unfold oEqG dataOf;rw[hx,hy,e];dsimp only;rw[if_pos ⟨s1,s1⟩,s2];cases neg<;>rfl
end Dd
namespace Dd
open PySem L2 K13
section
def stands (A:Tab):Nat->List Row->List Row
 | _,[]=>[]
 | i,r::l=>if(A (i+1)).isSome=true then stands A (i+1) l else r::stands A (i+1) l
theorem zil (A:Tab):∀(l:List Row) (i:Nat),(stands A i l).Sublist l
 | [],_=>.slnil
 | r::l,i=>by
  unfold stands;split
  ·exact .cons _ (zil A l _)
  ·exact .cons₂ _ (zil A l _)
theorem zjr (A:Tab)(r:Row):∀(l:List Row) (i:Nat),stands A i (l++[r])=stands A i l++(if(A (i+l.length+1)).isSome=true then[] else[r])
 | [],i=>by
  show stands A i [r]=_;unfold stands
  rfl
 | x::l,i=>by
  show stands A i (x::(l++[r]))=_;unfold stands;rw[zjr A r l,show i+1+l.length+1=i+(x::l).length+1 by rw[xcb];lia];split
  ·rfl
  ·rfl
theorem zvb   (h:a < b\/(a=b/\HT.lexLt x y=true)):HT.lexLt (a::x) (b::y)=true:=by
 unfold HT.lexLt;rcases h with h | ⟨h,g⟩
 ·rw[if_neg (by lia),xbv h]
 ·rw[if_pos h];exact g
theorem zrj:∀(m:Nat) (d:Int),Rise (allL d m)
 | 0,d=>by show Rise [[d]];exact xic _ _
 | m+1,d=>by
  rw[zly];refine List.pairwise_flatMap.mpr ⟨λe _=>xiu.mpr ((zrj m _).imp λ{a b} h=>zvb (.inr ⟨rfl,h⟩)),List.pairwise_lt_range.imp λ{a b} lt x hx y hy=>?_⟩;obtain⟨r,_,rfl⟩:=xbk.mp hx;obtain⟨s,_,rfl⟩:=xbk.mp hy;exact zvb (.inl (by lia))
theorem zbfn:(List.range 10).all (λi=>(List.range 25).all λd=>decide ((d:Int)<=mostD ((i:Int)+1)->cntP (d:Int) i<=200))=true:=by decide +kernel
theorem zbdd:(List.range 10).all (λi=>decide (2 < i->mostD ((i:Int)+1)<=10))=true:=by decide +kernel
theorem zzy {N d:Int}(h1:1<=N)(h2:N<=10)(d0:0<=d)(hd:d<=mostD N):cntP d (N - 1).toNat<=200/\Fit (N - 1).toNat d:=by
 obtain⟨f1,f2,f3⟩:=zft h1 h2;have d24:d<=24:=by split at f2<;>lia
 obtain⟨i,hi⟩:∃i:Nat,N=(i:Int)+1:=⟨(N - 1).toNat,by lia⟩
 obtain⟨e,rfl⟩:=xgt d0;have hi2:(N - 1).toNat=i:=by lia
 rw[hi2];have a:=xcz (xdn.mp (xdn.mp zbfn i (xcf.mpr (by lia))) e (xcf.mpr (by lia)));have b:=xcz (xdn.mp zbdd i (xcf.mpr (by lia)));rw[← hi] at a b;refine⟨a hd,by lia,by lia,by lia,?_,λz=>by have:=b z;lia⟩;rw[hi2] at f3;exact xbc (xls (by lia) _) f3
theorem ztg        (hn:au[n]?=some (.dI kvs))(hσ:∃v w,σ0=[v,w,some (.ref n)])
  (hneg:∀(i:Nat) (r:Row),WP (neg [some (.int (0+(i:Int))),some (aL r),some (.ref n)] au) (λx s=>∃k:Int,x=.int k/\s=au/\(valI kvs k).isSome=(A (i+1)).isSome))(q:Q (aJ (stands A 0 AL)) au) :
  WP (compF (gT 2 (gsCons (gN 0) (gsCons (gN 1) gsNil))) (eB (aS (oIIn true) neg (aA 2))) (aA 1) (numF 0 (aJ AL)) σ0 au) Q:=by
 refine zpr (λi acc σ s=>(∃v w,σ=[v,w,some (.ref n)])/\s=au/\acc=aJ (stands A 0 (AL.take i))) ⟨hσ,rfl,rfl⟩ ?_ ?_
 ·rintro i x acc σ s hx ⟨⟨v,w,rfl⟩,rfl,rfl⟩;obtain⟨y,hy,rfl⟩:=zgm hx;obtain⟨r,hr,rfl⟩:=zby hy;have hi:i < AL.length:=(xbg.mp hr).1;refine⟨_,rfl,?_⟩;simp only[W,V];refine(hneg i r).mono λx s' hx=>?_
  obtain⟨k,rfl,rfl,hk⟩:=hx
  try simp only[W,V]
  rw[zbkn hn];simp only[W,V,xes,hk];have sn:=zjr A r (AL.take i) 0;rw[← zh hr,List.length_take_of_le (by lia),xdt] at sn;cases e:(A (i+1)).isSome with
  | true =>
   rw[e,if_pos rfl,xcy] at sn;rw[if_neg (by decide)];exact⟨⟨_,_,rfl⟩,trivial,by rw[sn]⟩
  | false =>
   rw[e,if_neg (by decide)] at sn;rw[if_pos rfl];refine⟨⟨_,_,rfl⟩,trivial,?_⟩;rw[sn];unfold aJ;rw[xdr];rfl
 ·rintro ys σ s ⟨_,rfl,rfl⟩;rw[zck,ze,xce];exact q
end
end Dd
namespace K59
end K59
namespace Dd
open PySem L2 K13
section
abbrev gv (f:Row->Nat) (p:Int×Row):Nat:=T p.1 f p.2
def ux (f:Row->Nat) (so:List (Int×Row)) (u:Nat):Nat:=xr (List.range so.length) λj=>if u.testBit j=true then gv f (so.getD j (0,[])) else 0
theorem zbht (f:Row->Nat)(so:List (Int×Row)):ux f so 0=0:=by
 unfold ux;rw[zm (g:=λ_=>0) λj _=>by rw[xjk];rfl,zfb]
theorem zbhu (so:List (Int×Row))(u w:Nat):ux f so (u ^^^ w)=ux f so u ^^^ ux f so w:=by
 unfold ux;rw[← zic];exact zm λj _=>by rw[xip,xif]
theorem zbav {so:List (Int×Row)}  (h:u < 2 ^ so.length)(p:Int×Row):ux f (so++[p]) u=ux f so u:=by
 unfold ux;rw[xbi,show so.length+[p].length=so.length+1 from rfl,znp,xez h,if_neg (by decide),xeg];refine zm λj hj=>?_
 have:=xcf.mp hj;rw[xbj,xbj,xbw this]
theorem zbhv {so:List (Int×Row)}  (h:u < 2 ^ so.length)(p:Int×Row):ux f (so++[p]) (u ||| 2 ^ so.length)=ux f so u ^^^ gv f p/\u ||| 2 ^ so.length < 2 ^ (so++[p]).length:=by
 have z:=zbct (xez h);obtain⟨o1,o2⟩:=orx u (2 ^ so.length);have e:u ||| 2 ^ so.length=u ^^^ 2 ^ so.length:=by lia
 refine⟨?_,?_⟩
 ·rw[e,zbhu,zbav h]
  congr 1
  unfold ux;rw[xbi,show so.length+[p].length=so.length+1 from rfl,zpq (k:=so.length) (by lia) λj hj=>?_]
  ·rw[Nat.testBit_two_pow_self,if_pos rfl,xbj,xct (xbf _),xjw];rfl
  ·rw[xhy,xby (by lia)];rfl
 ·rw[xbi,show so.length+[p].length=so.length+1 from rfl,xlk];lia
structure PRepU (f:Row->Nat) (so:List (Int×Row)) (A:Tab) (kvs:List (Int×D)):Prop where
 yes:∀k v,A k=some v->∃u:Nat,valI kvs k=some (.tup [.int (v:Nat),.int (u:Nat)])/\v=ux f so u/\u < 2 ^ so.length
 no:∀k:Nat,A k=none->valI kvs k=none
theorem PRepU.is    (h:PRepU f so A kvs)(k:Nat):(valI kvs k).isSome=(A k).isSome:=by
 cases e:A k with
 | none=>rw[h.no k e];rfl
 | some v=>obtain⟨u,z,_⟩:=h.yes k v e;rw[z];rfl
theorem PRepU.put    (h:PRepU f so A kvs)(k v u:Nat)(p:Int×Row)(hv:v=ux f so u ^^^ gv f p)(hu:u < 2 ^ so.length):PRepU f (so++[p]) (setT A k v) (putI kvs k (.tup [.int (v:Nat),.int ((u ||| 2 ^ so.length:Nat):Int)])):=⟨λj w e=>by
 unfold setT at e;rw[zsx];by_cases c:j=k
 ·rw[if_pos c] at e;cases e;rw[if_pos (by rw[c])];exact⟨_,rfl,by rw[(zbhv hu p).1,hv],(zbhv (f:=f) hu p).2⟩
 ·rw[if_neg c] at e;rw[if_neg (by lia)]
  obtain⟨u,a,b,c⟩:=h.yes j w e;refine⟨u,a,by rw[zbav c,b],?_⟩;rw[xbi];exact xbh c (xex (by decide) (by lia)),λj e=>by
 unfold setT at e;rw[zsx];by_cases c:j=k
 ·rw[if_pos c] at e;cases e
 ·rw[if_neg c] at e;rw[if_neg (by lia)];exact h.no j e⟩
theorem zix {N x n:Nat}   {gs:List Nat}  (hn:au[n]?=some (.dI kvs))(rp:PRepU f so A kvs)(ld:Lds N A gs)(hx:bl x<=N)(hN:N<=100000)
  (k:∀y u:Nat,Less N A x y->(y≠0->A (bl y)=none)->x ^^^ y=ux f so u->u < 2 ^ so.length->Q (.tup [.int (y:Nat),.int (u:Nat)]) au):WP (zdl [.ref n,.int (x:Nat)] au) Q:=by
 refine zdz rfl ?_;simp only[W,V];refine znq (λm σ s=>∃(y u:Nat) (v:Option D),m=bl y/\σ=[some (.ref n),some (.int (y:Nat)),some (.int (u:Nat)),v]/\s=au/\Less N A x y/\x ^^^ y=ux f so u/\u < 2 ^ so.length) (k:=bl x) ⟨x,0,_,rfl,rfl,rfl,.refl hx,by rw[xfx,zbht],xni _⟩ (by lia) ?_;rintro m σ s ⟨y,u,v,rfl,rfl,rfl,ls,ex,ul⟩;simp only[W,V];refine⟨_,rfl,?_⟩;by_cases c:y=0
 ·subst c;rw[show(((0:Nat):Int) != 0)=false from rfl,if_neg (by decide)];exact⟨small _ (by simp),k 0 u ls (λz=>absurd rfl z) ex ul⟩
 ·rw[show(((y:Nat):Int) != 0)=true by simp[c],if_pos rfl,zsu];simp only[W,V,zpk];rw[zgr,zbkn hn];simp only[W,V,rp.is,xcq,xeh];cases e:A (bl y) with
  | none =>
   simp only[Option.isSome_none,xcq,xeh,W,V];exact⟨small _ (by simp),k y u ls (λ_=>e) ex ul⟩
  | some w =>
   simp only[Option.isSome_some,xes];obtain⟨u',hu,hw,ul'⟩:=rp.yes _ _ e;obtain⟨l2,l3⟩:=ls.step ld c e;unfold zhj;simp only[W,V,zsu,zpk];rw[zgr,zbbs hn hu];simp only[W,V,M,Dd.N,L];refine zkc rfl rfl ?_;simp only[W,V];rw[zjf];refine⟨trivial,zkc rfl rfl ?_⟩;simp only[W,V];rw[zjf];exact⟨trivial,_,l3,_,_,_,rfl,rfl,trivial,l2,by rw[← xdm,ex,zbhu,← hw],xmd ul ul'⟩
theorem zhg {N d:Int}{m n:Nat}  (hN:N=(m:Int)+1)(h:Fit m d)(hp:au[n]?=some (.dT pk))(pl:Plc (allL d m) (allL d m).length pk)
  (k:∀kvs so g A i,Enough d i->PRepU (pw (allL d m)) so A kvs->(∀p∈so,p∈srcs d m i)->so.length<=400000->Lds (allL d m).length A ((srcs d m i).map (gv (pw (allL d m))))->Q (.tup [.ref au.length,.lst (so.map srcD)]) (au++.dI kvs::.dead::g)):WP (zcn [.int N,.int d,.ref n] au) Q:=by
 have hl:=h.len;have h24:=h.d24;refine zdz rfl ?_;simp only[W,V,zst];refine⟨small _ (by simp),?_⟩;refine zgj hN h λi g0 en=>?_
 simp only[Dd.N];have i4:=en.few h24;have sl:(srcs d m i).length<=400000:=by
  have:=znx h (ks:=twos i) λk hk=>by obtain⟨t,_,a,b⟩:=zii en hk;lia
  have l:(twos i).length=i:=by unfold twos;simp
  rw[l] at this;unfold srcs;lia
 have mem:∀p∈srcs d m i,1<=p.1/\2 * p.1<=d/\Mon (m+1) (d - p.1) p.2:=λp hp=>by
  unfold srcs at hp;obtain⟨k,hk,hp⟩:=xel.mp hp;obtain⟨r,hr,rfl⟩:=xbk.mp hp;obtain⟨t,_,a,b⟩:=zii en hk;exact⟨b,a,zwz (by lia) hr⟩
 have k:=λkvs so g A=>k kvs so g A i en
 generalize srcs d m i=ss at sl mem k ⊢;generalize hAL:allL d m=AL at *
 refine zdo (λj σ s=>(∃v5 v6 v7,σ=[some (.int N),some (.int d),some (.ref n),some (.ref au.length),some (.ref (au.length+1)),v5,v6,v7])/\∃kvs so g A,s=au++.dI kvs::.lst (so.map srcD)::g/\kvs.length<=j/\so.length<=j/\(∀p∈so,p∈ss)/\PRepU (pw AL) so A kvs/\Lds AL.length A ((ss.take j).map (gv (pw AL))))
  ⟨⟨none,none,none,by simp⟩,[],[],g0,λ_=>none,by simp,xbf _,xbf _,λp hp=>absurd hp (by simp),⟨(λ_ _ e=>nomatch e),λ_ _=>rfl⟩,Lds.nil _⟩ ?_ ?_
 ·rintro j x σ s hx ⟨⟨v5,v6,v7,rfl⟩,kvs,so,g,A,rfl,hk,hs,sm,rp,ld⟩;obtain⟨p,hpj,rfl⟩:=zhb hx;obtain⟨p1,p2,p3⟩:=mem p (xbz hpj);have hj:j < ss.length:=(xbg.mp hpj).1;refine⟨_,rfl,?_⟩;unfold zgf;simp only[W,V];refine⟨small _ (by simp),?_⟩;have one:∀{P:Row->Prop},P p.2->∀r∈[p.2],P r:=λh r hr=>by simp at hr;subst hr;exact h
  have hsum:=p3.sum;refine zyl (l:=[p.2]) (by lia) (one λx hx=>⟨p3.nn x hx,by have:=zbnd p3.nn x hx;lia⟩) (one (by have:=p3.len;have:=h.m9;lia)) (one (h.box p3.len p3.nn (by lia))) (by simp) λg2=>?_
  have inn:∀x∈aO (raiseL p.1 [p.2]),x∈AL:=λx hx=>by rw[← hAL];exact zbdl (by lia) p3 hx
  have hn:n < au.length:=(xbg.mp hp).1;have hp':((au++.dI kvs::.lst (so.map srcD)::g)++g2)[n]?=some (.dT pk):=by rw[xck,xbw hn];exact hp
  refine zjh hp' pl hl (zfs _) inn ?_;have hb:=zpj.mpr (zbmw (λx hx=>pw_lt (inn x hx)):xr (aO (raiseL p.1 [p.2])) (pw AL) < 2 ^ AL.length);rw[zxf (by lia) p3.nn] at hb ⊢;refine zix (kvs:=kvs) (by simp) rp ld hb hl λy u ls hy ex ul=>?_
  refine zkc rfl rfl ⟨_,rfl,?_⟩;by_cases c:y=0
  ·subst c;rw[show(((0:Nat):Int) != 0)=false from rfl,if_neg (by decide)];simp only[L];refine⟨⟨_,_,_,rfl⟩,kvs,so,g++g2,A,by simp,by lia,by lia,sm,rp,?_⟩;rw[zh hpj,xdr];exact ld.keep ls
  ·rw[show(((y:Nat):Int) != 0)=true by simp[c],if_pos rfl];refine zbhk ?_;simp only[W,V,M,Dd.N,zsu];refine zkc rfl rfl ?_;refine zkc rfl rfl ?_;have e1:((au++.dI kvs::.lst (so.map srcD)::g)++g2)[au.length+1]?=some (.lst (so.map srcD)):=by simp
   rw[len59 e1,xbb];simp only[W,V];refine⟨⟨by lia,by lia,by decide⟩,trivial,small _ (by simp),zkc rfl rfl ?_⟩;rw[zpk,zgr,show(1:Int) * 2 ^ (so.length:Int).toNat=((2 ^ so.length:Nat):Int) by rw[Int.one_mul,xef];simp,zrb];refine⟨_,_,kvs,rfl,rfl,by simp,small17 (by lia),_,_,rfl,by simp;rfl,?_⟩;simp only[W,V,M,Dd.N,L];have val:y=ux (pw AL) so u ^^^ gv (pw AL) p:=by rw[← ex,Nat.xor_comm (T p.1 (pw AL) p.2),xdm,xfx,xeg]
   refine⟨small _ (by simp),_,so.map srcD,rfl,by simp,small17 (by rw[xbb];lia),⟨_,_,_,rfl⟩,putI kvs (bl y:Nat) _,so++[p],g++g2,setT A (bl y) y,by simp;rfl,xbc zbdn (by lia),by simp;lia,λq hq=>?_,rp.put (bl y) y u p val ul,?_⟩
   ·rcases xbr.mp hq with z | z
    ·exact sm q z
    ·rw[xbq.mp z];exact xbz hpj
   ·rw[zh hpj,xdr];exact ld.put ls c (hy c)
 ·rintro σ s ⟨⟨v5,v6,v7,rfl⟩,kvs,so,g,A,rfl,hk,hs,sm,rp,ld⟩;rw[xbb,xce] at ld;rw[xbb] at hs;simp only[W,V,M,Dd.N,L];refine⟨_,_,rfl,by simp;rfl,small _ (by simp),?_⟩;have:=k kvs so g A rp sm (by lia) ld
  simpa using this
end
end Dd
namespace Dd
open PySem L2 K07 K23
section
theorem ztm {L:Nat}{k:Int}(hf:f σ au=.ok (.ref L) au)(h0:au[L]?=some (.dI kv0))(hg:g σ au=.ok [.int k,d] st2)(h1:st2[L]?=some (.dI kvs))(hl:kvs.length < sizeLine)(hv:valI kvs k=some v):eSetDI f g σ au=.ok v st2:=by
 unfold eSetDI;rw[hf,zdh];dsimp only;rw[h0];dsimp only;rw[hg,zdh]
 try dsimp only
 rw[h1]
 try dsimp only
 rw[if_pos hl,hv]
theorem ztn {L:Nat}{k:Int}(hf:f σ au=.ok (.ref L) au)(h0:au[L]?=some (.dI kv0))(hg:g σ au=.ok [.int k,d] st2)(h1:st2[L]?=some (.dI kvs))(hl:kvs.length < sizeLine)(hv:valI kvs k=none):eSetDI f g σ au=.ok d (st2.set L (.dI (putI kvs k d))):=by
 unfold eSetDI;rw[hf,zdh];dsimp only;rw[h0];dsimp only;rw[hg,zdh]
 try dsimp only
 rw[h1]
 try dsimp only
 rw[if_pos hl,hv]
end
theorem zbep {α β:Type}{f:α->β}:∀{l:List α},(l.map f).Nodup->∀{x y:α},x∈l->y∈l->f x=f y->x=y
 | [],_,x,y,hx,_,_=>by cases hx
 | a::l,nd,x,y,hx,hy,e=>by
  rw[xbu,xet] at nd;rcases xbs.mp hx with h1 | h1
  ·rcases xbs.mp hy with h2 | h2
   ·rw[h1,h2]
   ·exact absurd (xbk.mpr ⟨y,h2,by rw[← e,h1]⟩) nd.1
  ·rcases xbs.mp hy with h2 | h2
   ·exact absurd (xbk.mpr ⟨x,h1,by rw[e,h2]⟩) nd.1
   ·exact zbep nd.2 h1 h2 e
end Dd
namespace Dd
open PySem L2 K13
section
theorem zzt {N:Int}{r:Row}(hN:(r.length:Int)=N)(hl:r.length<=1000)(nn:Nn r)(q:Q (.bl true) au):WP (zdv [.int N,aL r] au) Q:=by
 refine zdz rfl ?_;simp only[W,V];refine WP.of (show bIsinst [aL r,.ty "tuple"] au=.ok (.bl true) au from rfl) ⟨true,rfl,?_⟩
 have e1:((r.map D.int).length:Int)=N:=by rw[xbb];exact hN
 unfold aL;simp only[W,V,e1];refine⟨_,rfl,by rw[xbb];exact small _ (by lia),?_⟩;refine zhl (as:=r) (λσ=>∃v,σ=[v]) (λ_=>true) (λx=>.bl (decide (0<=x))) .int ⟨_,rfl⟩ ?_ ?_
 ·rintro x hx σ ⟨v,rfl⟩;refine⟨_,rfl,⟨_,rfl⟩,by simp only[W,xge],λ_=>?_⟩;simp only[W,V];exact WP.of (zgp (au:=au) (i:=x)) (by simp only[W,V,xge])
 ·rw[zcv];simp only[M,W,V];refine⟨_,zgw _ _,?_⟩;rw[List.all_map,show(r.all (id ∘ λx=>decide (0<=x)))=true from xdn.mpr λx hx=>xbv (nn x hx)];exact q
theorem ztf {N:Int}  (h:∀r∈l,(r.length:Int)=N/\Nn r)(hN:N<=100)(hl:l.length<=1000000)(k:∀g,Q (aK (aO l)) (au++g)):WP (zhz [.int N,.lst (aJ l)] au) Q:=by
 refine zdz rfl ?_;simp only[W,V];refine zxm ?_;simp only[W,V];refine⟨_,rfl,?_⟩;refine zdo (λi σ s=>s=au/\∃v w,σ=[some (.int N),some (.lst (aJ l)),v,w]) ⟨rfl,_,_,rfl⟩ ?_ ?_
 ·rintro i x σ s hx ⟨rfl,v,w,rfl⟩;obtain⟨y,hy,rfl⟩:=zgm hx;obtain⟨r,hr,rfl⟩:=zby hy;obtain⟨h1,h2⟩:=h r (xbz hr);refine⟨_,rfl,?_⟩;unfold zhh;simp only[W,V];refine zzt h1 (by lia) h2 ⟨true,rfl,?_⟩;simp only[W,V,L,xml,xcq,xeh];exact⟨trivial,_,_,rfl⟩
 ·rintro σ s ⟨rfl,v,w,rfl⟩;simp only[W,V];exact zom rfl hl k
def selP (so:List (Int×Row)) (u j:Nat):List (Int×Row):=((List.range j).filter λi=>u.testBit i).map λi=>so.getD i (0,[])
theorem zyg    (u:Nat)(h:so[j]?=some p):selP so u (j+1)=selP so u j++if u.testBit j=true then[p] else[]:=by
 unfold selP;rw[xih,xfj,xdr]
 congr 1
 by_cases c:u.testBit j=true
 ·rw[if_pos c,xcp c];simp[xbj,h]
 ·rw[if_neg c,xcx c];rfl
theorem zbnk (so:List (Int×Row))(u:Nat):ux f so u=xr (selP so u so.length) (gv f):=by
 unfold ux selP;rw[zsp,zfl]
theorem zkp {so:List (Int×Row)} :∀{j:Nat},j<=so.length->∀p∈selP so u j,p∈so:=λ{j} hj p hp=>by
 unfold selP at hp;obtain⟨i,hi,rfl⟩:=xbk.mp hp;have:=xcf.mp (xdo.mp hi).1;rw[xbj,xbd (by lia),Option.getD_some];exact xda _
def grp (sel:List (Int×Row)) (k:Int):List Row:=(sel.filter λp=>decide (p.1=k)).map (·.2)
theorem zox (sel:List (Int×Row))(p:Int×Row)(k:Int):grp (sel++[p]) k=grp sel k++if p.1=k then[p.2] else[]:=by
 unfold grp;rw[xfj,xdr]
 congr 1
 by_cases c:p.1=k
 ·rw[if_pos c,xcp (by simpa using c)];rfl
 ·rw[if_neg c,xcx (by simpa using c)];rfl
noncomputable def refD (q:Int×Nat):Int×D:=(q.1,.ref q.2)
structure Grp (s:Store) (b:Nat) (prs:List (Int×Nat)) (sel:List (Int×Row)):Prop where
 keys:(prs.map (·.1)).Nodup
 refs:(prs.map (·.2)).Nodup
 low:∀q∈prs,b < q.2
 at':∀q∈prs,s[q.2]?=some (.lst (aJ (grp sel q.1)))
 has:∀p∈sel,p.1∈prs.map (·.1)
 own:∀q∈prs,∃p∈sel,p.1=q.1
theorem zkk :∀{prs:List (Int×Nat)},valI (prs.map refD) k=(prs.find? λq=>decide (q.1=k)).map λq=>D.ref q.2
 | []=>rfl
 | q::prs=>by
  have ih:=zkk (k:=k) (prs:=prs);unfold valI at ih ⊢;rw[xbu,xdp,xdp];show Option.map _ (match decide (q.1=k) with | true=>_ | false=>_)=_;by_cases c:q.1=k
  ·simp[c,refD]
  ·simp only[c,xgf];exact ih
theorem zbii   {prs:List (Int×Nat)}(h:k∉prs.map (·.1)):putI (prs.map refD) k (.ref n)=(prs++[(k,n)]).map refD:=by
 unfold putI;rw[if_neg,xdr]
 ·rfl
 ·intro z;obtain⟨x,hx,hk⟩:=xji.mp z;obtain⟨q,hq,rfl⟩:=xbk.mp hx;exact h (xbk.mpr ⟨q,hq,xcz hk⟩)
theorem zld {s:Store}{n:Nat}{o:O}(h:s[n]?=some o):n < s.length:=(xbg.mp h).1
theorem zbbq {prs:List (Int×Nat)}(nd:(prs.map (·.2)).Nodup)  (hq:q∈prs)(hr:r∈prs)(e:q.2=r.2):q=r:=zbep nd hq hr e
theorem zvj {prs:List (Int×Nat)}(nd:(prs.map (·.1)).Nodup)  (hq:q∈prs)(hr:r∈prs)(e:q.1=r.1):q=r:=zbep nd hq hr e
theorem Grp.old {s:Store}{b:Nat}{prs:List (Int×Nat)}{sel:List (Int×Row)}(h:Grp s b prs sel){p:Int×Row}{q:Int×Nat}(hq:q∈prs)(e:q.1=p.1)(x:List O) :
  Grp ((s++x).set q.2 (.lst (aJ (grp sel p.1)++[aL p.2]))) b prs (sel++[p]):=by
 refine⟨h.keys,h.refs,h.low,λr hr=>?_,λp' hp'=>?_,λr hr=>?_⟩
 ·have g:=h.at' r hr;have gl:=zld g;rw[zox];by_cases c:r=q
  ·subst c;rw[xdv (by rw[xbi];lia),if_pos e.symm,e];unfold aJ;rw[xdr];rfl
  ·rw[xcl (λz=>c (zbbq h.refs hr hq z.symm)),xbw gl,g,if_neg (λz=>c (zvj h.keys hr hq (z.symm.trans e.symm))),xcy]
 ·rcases xbr.mp hp' with z | z
  ·exact h.has p' z
  ·rw[xbq.mp z,← e];exact xbk.mpr ⟨q,hq,rfl⟩
 ·obtain⟨p',h1,h2⟩:=h.own r hr;exact⟨p',xeb _ h1,h2⟩
theorem Grp.new {s:Store}{b:Nat}{prs:List (Int×Nat)}{sel:List (Int×Row)}(h:Grp s b prs sel){p:Int×Row}(hb:b < s.length)(e:p.1∉prs.map (·.1)){o:O} :
  Grp (((s++[O.lst []]).set b o).set s.length (O.lst [aL p.2])) b (prs++[(p.1,s.length)]) (sel++[p]):=by
 have none:grp sel p.1=[]:=by
  unfold grp;rw[List.filter_eq_nil_iff.mpr λq hq z=>?_];rfl
  have z:q.1=p.1:=xcz z;exact e (z ▸ h.has q hq)
 have ne:∀r∈prs,r.2≠s.length:=λr hr z=>by have:=zld (h.at' r hr);lia
 refine⟨?_,?_,λr hr=>?_,λr hr=>?_,λp' hp'=>?_,λr hr=>?_⟩
 ·rw[xdr];refine xiv.mpr ⟨h.keys,by simp,λx hx y hy=>?_⟩;rw[xbq.mp hy];intro z;rw[z] at hx;exact e hx
 ·rw[xdr];refine xiv.mpr ⟨h.refs,by simp,λx hx y hy=>?_⟩;obtain⟨r,hr,rfl⟩:=xbk.mp hx;rw[xbq.mp hy];exact ne r hr
 ·rcases xbr.mp hr with z | z
  ·exact h.low r z
  ·rw[xbq.mp z];exact hb
 ·rcases xbr.mp hr with z | z
  ·have g:=h.at' r z;have gl:=zld g;have lo:=h.low r z;rw[xcl (xer (ne r z)),xcl (by lia),xbw gl,g,zox,if_neg (λq=>e (xbk.mpr ⟨r,z,q.symm⟩)),xcy]
  ·rw[xbq.mp z,xdv (by rw[xei,xbi];simp),zox,if_pos rfl,none];rfl
 ·rw[xdr];rcases xbr.mp hp' with z | z
  ·exact xeb _ (h.has p' z)
  ·rw[xbq.mp z];exact xde _ (by simp)
 ·rcases xbr.mp hr with z | z
  ·obtain⟨p',h1,h2⟩:=h.own r z;exact⟨p',xeb _ h1,h2⟩
  ·rw[xbq.mp z];exact⟨p,by simp,rfl⟩
end
section
theorem zbmm (u j:Nat):(Builtin.bitAnd ((u:Int) / 2 ^ (0+(j:Int)).toNat) 1 != 0)=u.testBit j:=by
 rw[xhe,xef,show((u:Int) / 2 ^ j)=((u / 2 ^ j:Nat):Int) by simp,show(1:Int)=((1:Nat):Int) from rfl,zej,Nat.and_one_is_mod,Nat.testBit_eq_decide_div_mod_eq];have:u / 2 ^ j % 2=0\/u / 2 ^ j % 2=1:=by lia
 rcases this with h | h<;>rw[h]<;>rfl
theorem zua {N:Int}  {u:Nat}(hk:∀p∈so,p.1∈([1,2,4,8]:List Int))(hl:so.length<=400000)  
  (k:∀v4 v5 prs g,Grp (au++.dI (prs.map refD)::g) au.length prs (selP so u so.length)->QQ (.nx [some (.int N),some (.lst (so.map srcD)),some (.int (u:Nat)),some (.ref au.length),v4,v5]) (au++.dI (prs.map refD)::g)) :
  WP (forF (gT 2 (gsCons (gN 4) (gsCons (gN 5) gsNil))) zen (numF 0 (so.map srcD)) [some (.int N),some (.lst (so.map srcD)),some (.int (u:Nat)),some (.ref au.length),v4,v5] (au++[.dI []])) QQ:=by
 refine zdo (λj σ s=>(∃v4 v5,σ=[some (.int N),some (.lst (so.map srcD)),some (.int (u:Nat)),some (.ref au.length),v4,v5])/\∃prs g,s=au++.dI (prs.map refD)::g/\Grp s au.length prs (selP so u j)) ⟨⟨_,_,rfl⟩,[],[],rfl,⟨by simp,by simp,by simp,by simp,λp hp=>absurd hp (by simp[selP]),by simp⟩⟩ ?_ ?_
 ·rintro j x σ s hx ⟨⟨v4,v5,rfl⟩,prs,g,hs,gr⟩;obtain⟨y,hy,rfl⟩:=zgm hx;obtain⟨p,hp,rfl⟩:=zhb hy;have hj:j < so.length:=(xbg.mp hp).1;have sn:=zyg u hp;refine⟨_,rfl,?_⟩;unfold zen;simp only[W,V];refine⟨by lia,trivial,_,rfl,?_⟩;rw[zbmm];by_cases c:u.testBit j=true
  ·rw[if_pos c] at sn ⊢;have hD:s[au.length]?=some (.dI (prs.map refD)):=by rw[hs];simp
   have hlt:=zld hD;have few:prs.length<=4:=by
    have:=xfr gr.keys (l₂:=([1,2,4,8]:List Int)) λx hx=>by
     obtain⟨q,hq,rfl⟩:=xbk.mp hx;obtain⟨p',h1,h2⟩:=gr.own q hq;rw[← h2];exact hk p' (zkp (by lia) p' h1)
    rw[xbb] at this;exact this
   have lenG:(grp (selP so u j) p.1).length<=400000:=by
    unfold grp selP;rw[xbb];refine xbc (xfh _ _) ?_;rw[xbb];refine xbc (xfh _ _) ?_;rw[xeo];lia
   simp only[W,V,M,Dd.N];generalize hσ:[some (D.int N),some (D.lst (so.map srcD)),some (D.int (u:Nat)),some (D.ref au.length),some (D.int (0+(j:Int))),some (srcD p)]=σ;have hg:∃ys s',(aB (aS oIx (aA 5) (eC (.int 0))) (aB (eLstM aC) aC)) σ s=.ok ys s'/\ys=[.int p.1,.ref s.length]/\s'=s++[.lst []]:=by
    have:WP ((aB (aS oIx (aA 5) (eC (.int 0))) (aB (eLstM aC) aC)) σ s) (λys s'=>ys=[.int p.1,.ref s.length]/\s'=s++[.lst []]):=by
     rw[← hσ];simp only[W,V];refine zkc rfl rfl ?_;exact⟨small _ (by simp),rfl,rfl⟩
    exact this.get
   obtain⟨_,_,hg,rfl,rfl⟩:=hg;have hD2:(s++[O.lst []])[au.length]?=some (.dI (prs.map refD)):=by rw[xbw hlt];exact hD
   have hv3:aA 3 σ s=.ok (.ref au.length) s:=by rw[← hσ];rfl
   have kl:(prs.map refD).length < sizeLine:=by rw[xbb];exact small17 (by lia)
   by_cases kn:p.1∈prs.map (·.1)
   ·obtain⟨q,hq,eq⟩:=xbk.mp kn;have hv:valI (prs.map refD) p.1=some (.ref q.2):=by
     rw[zkk];cases e:prs.find? λq=>decide (q.1=p.1) with
     | none=>exact absurd (xbv eq) (by simpa using xil.mp e q hq)
     | some r =>
      have h1:=xjp e;have h2:r.1=p.1:=by have:=xnh e;simpa using this
      have:r=q:=zvj gr.keys h1 hq (h2.trans eq.symm);rw[this];rfl
    refine WP.of (ztm hv3 hD hg hD2 kl hv) ?_;have ga:=gr.at' q hq;have gl:=zld ga;have ga2:(s++[O.lst []])[q.2]?=some (.lst (aJ (grp (selP so u j) p.1))):=by rw[xbw gl,ga,eq]
    refine⟨_,_,rfl,ga2,zkc rfl rfl ⟨_,_,rfl,ga2,by rw[ze];exact small17 (by lia),?_⟩⟩;simp only[L];rw[← hσ];refine⟨⟨_,_,rfl⟩,prs,(g++[O.lst []]).set (q.2 - au.length - 1) (.lst (aJ (grp (selP so u j) p.1)++[aL p.2])),?_,?_⟩
    ·rw[hs];have lo:=gr.low q hq;obtain⟨z,hz⟩:∃z,q.2=au.length+(z+1):=⟨q.2 - au.length - 1,by lia⟩
     rw[hz,show au.length+(z+1) - au.length - 1=z by lia,xck,xjd _ _ (by lia),show au.length+(z+1) - au.length=z+1 by lia,xhx,xmf]
    ·rw[sn];exact gr.old hq eq _
   ·have hv:valI (prs.map refD) p.1=none:=by
     rw[zkk,xil.mpr λq hq z=>kn (xbk.mpr ⟨q,hq,xcz z⟩)];rfl
    refine WP.of (ztn hv3 hD hg hD2 kl hv) ?_;have ga2:((s++[O.lst []]).set au.length (.dI (putI (prs.map refD) p.1 (.ref s.length))))[s.length]?=some (.lst []):=by
     rw[xcl (by lia)];simp
    refine⟨_,_,rfl,ga2,zkc rfl rfl ⟨_,_,rfl,ga2,small17 (by simp),?_⟩⟩;simp only[L];rw[← hσ];refine⟨⟨_,_,rfl⟩,prs++[(p.1,s.length)],(g++[O.lst []]).set (s.length - au.length - 1) (.lst ([]++[aL p.2])),?_,?_⟩
    ·rw[zbii kn];have sl:s.length=au.length+(g.length+1):=by rw[hs];simp
     have e1:(s++[O.lst []]).set au.length (.dI ((prs++[(p.1,s.length)]).map refD))=au++O.dI ((prs++[(p.1,s.length)]).map refD)::(g++[O.lst []]):=by
      generalize O.dI ((prs++[(p.1,s.length)]).map refD)=o;rw[hs];simp
     rw[e1,sl,xjd _ _ (by lia),show au.length+(g.length+1) - au.length=g.length+1 by lia,xmf,show g.length+1 - 1=g.length by lia]
    ·rw[sn];exact gr.new hlt kn
  ·rw[if_neg c] at sn ⊢;rw[xcy] at sn;simp only[W,V,L];exact⟨⟨_,_,rfl⟩,prs,g,hs,by rw[sn];exact gr⟩
 ·rintro σ s ⟨⟨v4,v5,rfl⟩,prs,g,rfl,gr⟩;rw[zck,xbb] at gr;exact k _ _ _ _ gr
structure Keys (sel:List (Int×Row)) (ks:List Int):Prop where
 nd:ks.Nodup
 has:∀p∈sel,p.1∈ks
 own:∀k∈ks,∃p∈sel,p.1=k
theorem zrs {N:Int}  {u:Nat}(hk:∀p∈so,p.1∈([1,2,4,8]:List Int)/\(p.2.length:Int)=N/\Nn p.2)(hN:N<=100)(hl:so.length<=400000)
  (k:∀ks g,Keys (selP so u so.length) ks->Q (.tup (ks.map λk=>.tup [.int k,aK (aO (grp (selP so u so.length) k))])) (au++g)):WP (zgc [.int N,.lst (so.map srcD),.int (u:Nat)] au) Q:=by
 refine zdz rfl ?_;simp only[W,V,zst];refine zxm ?_;simp only[W,V];refine⟨_,rfl,?_⟩;refine zua (λp hp=>(hk p hp).1) hl λv4 v5 prs g gr=>?_
 simp only[W,V];have few:prs.length<=4:=by
  have:=xfr gr.keys (l₂:=([1,2,4,8]:List Int)) λx hx=>by
   obtain⟨q,hq,rfl⟩:=xbk.mp hx;obtain⟨p',h1,h2⟩:=gr.own q hq;rw[← h2];exact(hk p' (zkp (xbf _) p' h1)).1
  rw[xbb] at this;exact this
 have es:bSortDI [.ref au.length] (au++.dI (prs.map refD)::g)=.ok (.lst ((sortI (prs.map (·.1))).map .int)) (au++.dI (prs.map refD)::g):=by
  unfold bSortDI;have:(au++O.dI (prs.map refD)::g)[au.length]?=some (.dI (prs.map refD)):=by simp
  simp only[this];rw[if_pos (by rw[xbb];lia),xcr]
  rfl
 refine WP.of es ⟨_,rfl,?_⟩;have pm:=zfn (prs.map (·.1));have ndk:(sortI (prs.map (·.1))).Nodup:=pm.nodup_iff.mpr gr.keys;have kq:∀k∈sortI (prs.map (·.1)),∃q∈prs,q.1=k:=λk hk=>by
  obtain⟨q,hq,e⟩:=xbk.mp (pm.mem_iff.mp hk);exact⟨q,hq,e⟩
 have lk:(sortI (prs.map (·.1))).length=prs.length:=by rw[pm.length_eq,xbb]
 refine⟨by rw[xbb,lk];exact small _ (by lia),?_⟩
 have fin:Keys (selP so u so.length) (sortI (prs.map (·.1))):=⟨ndk,λp hp=>pm.mem_iff.mpr (gr.has p hp),λk hk=>by
  obtain⟨q,hq,e⟩:=kq k hk;obtain⟨p,h1,h2⟩:=gr.own q hq
  exact⟨p,h1,h2.trans e⟩⟩
 generalize sortI (prs.map (·.1))=ks at ndk kq lk fin;refine zpr (λi acc σ s=>(∃v,σ=[v,some (.int N),some (.ref au.length)])/\(∃g,s=au++.dI (prs.map refD)::g)/\(∀q∈prs,q.1∈ks.drop i->s[q.2]?=some (.lst (aJ (grp (selP so u so.length) q.1))))/\acc=(ks.take i).map λk=>.tup [.int k,aK (aO (grp (selP so u so.length) k))])
  ⟨⟨_,rfl⟩,⟨g,rfl⟩,λq hq _=>gr.at' q hq,rfl⟩ ?_ ?_
 ·rintro i x acc σ s hx ⟨⟨v,rfl⟩,⟨g,rfl⟩,ha,rfl⟩;obtain⟨kk,hkk,rfl⟩:=zhb hx;obtain⟨q,hq,eq⟩:=kq kk (xbz hkk);have hi:i < ks.length:=(xbg.mp hkk).1;have hd:ks.drop i=kk::ks.drop (i+1):=by
   rw[xfq hi];congr 1;exact(xbg.mp hkk).2
  have ga:=ha q hq (by rw[hd,eq];simp);have gl:=zld ga;refine⟨_,rfl,?_⟩;simp only[W,V];rw[show ∀{f:SE} {σ:DS} {au:Store} {Q:D->Store->Prop},WP (eFz f σ au) Q=WP (f σ au) (λx st1=>∃n xs,x=.ref n/\st1[n]?=some (.lst xs)/\Q (.lst xs) (st1.set n .dead)) from λ{f σ au Q}=>M.2.2.2.1];simp only[W,V];have hv:valI (prs.map refD) kk=some (.ref q.2):=by
   rw[zkk];cases e:prs.find? λq=>decide (q.1=kk) with
   | none=>exact absurd (xbv eq) (by simpa using xil.mp e q hq)
   | some r =>
    have h1:=xjp e;have h2:r.1=kk:=by have:=xnh e;simpa using this
    have:r=q:=zvj gr.keys h1 hq (h2.trans eq.symm);rw[this];rfl
  have hD:(au++O.dI (prs.map refD)::g)[au.length]?=some (.dI (prs.map refD)):=by simp
  rw[zbbs hD hv];simp only[W,V];refine⟨_,_,rfl,ga,?_⟩;rw[eq];have hg:∀r∈grp (selP so u so.length) kk,(r.length:Int)=N/\Nn r:=λr hr=>by
   unfold grp at hr;obtain⟨p,hp,rfl⟩:=xbk.mp hr;exact(hk p (zkp (xbf _) p (xdo.mp hp).1)).2
  have lg:(grp (selP so u so.length) kk).length<=1000000:=by
   unfold grp selP;rw[xbb];refine xbc (xfh _ _) ?_;rw[xbb];refine xbc (xfh _ _) ?_;rw[xeo];lia
  refine ztf hg hN lg λg2=>?_
  have lo:=gr.low q hq;obtain⟨z,hz⟩:∃z,q.2=au.length+(z+1):=⟨q.2 - au.length - 1,by lia⟩
  refine⟨small _ (by simp),⟨_,rfl⟩,⟨g.set z .dead++g2,?_⟩,λr hr hrd=>?_,?_⟩
  ·rw[hz,xjd _ _ (by lia),show au.length+(z+1) - au.length=z+1 by lia,xmf];simp
  ·have ne:r.2≠q.2:=λw=>by
    have:r=q:=zbbq gr.refs hr hq w;rw[this,eq] at hrd;have nd2:=ndk.sublist (xkm i ks);rw[hd,xet] at nd2;exact nd2.1 hrd
   have g1:=ha r hr (by rw[hd];exact xbm _ hrd);rw[xbw (by rw[xei];exact zld g1),xcl (xer ne)];exact g1
  ·rw[zh hkk,xdr];rfl
 ·rintro ys σ s ⟨_,⟨g,rfl⟩,_,rfl⟩;rw[xbb,xce];exact k ks _ fin
end
section
theorem zmg   (en:Enough d i)(hd:d<=24)  (hp:p∈srcs d m i):p.1∈([1,2,4,8]:List Int)/\1<=p.1/\p.1<=d/\Mon (m+1) (d - p.1) p.2:=by
 unfold srcs at hp;obtain⟨k,hk,hp⟩:=xel.mp hp;obtain⟨r,hr,rfl⟩:=xbk.mp hp;obtain⟨_,_,a,b⟩:=zii en hk;refine⟨?_,b,by lia,zwz (by lia) hr⟩;have i4:=en.few hd;unfold twos at hk;obtain⟨t,ht,rfl⟩:=xbk.mp hk;have ht:=xcf.mp ht
 match t,ht with
 | 0,_=>simp
 | 1,_=>simp
 | 2,_=>simp
 | 3,_=>simp
 | t+4,ht=>lia
theorem zvs {m i:Nat}{d:Int}(en:Enough d i){k:Nat}  (h1:1<=k)(hk:(k:Int)<=d)(hp:Mon (m+1) (d - k) p):Lin (·∈(srcs d m i).map (gv (pw (allL d m)))) (T k (pw (allL d m)) p):=by
 refine Lin.bind (λw hw=>?_) (dec (n:=m+1) (d:=d) (φ:=pw (allL d m)) k h1 p hp hk);obtain⟨s,r,rfl,mr,le⟩:=hw;refine .one (xbk.mpr ⟨(((2 ^ s:Nat):Int),r),?_,rfl⟩);unfold srcs;refine xel.mpr ⟨_,?_,xbk.mpr ⟨r,zgx mr.len mr.nn mr.sum,rfl⟩⟩;unfold twos;refine xbk.mpr ⟨s,xcf.mpr ?_,rfl⟩;rcases xff s i with z | z
 ·exact z
 ·have:=en.top;have:2 ^ i<=2 ^ s:=xex (by decide) z;lia
theorem zse {N x y:Nat}  {gs:List Nat}(ld:Lds N A gs)(hx:Lin (·∈gs) x)(ls:Less N A x y)(hy:y≠0->A (bl y)=none):y=0:=by
 rcases xim y with z | z
 ·exact z
 ·exfalso
  have s1:=(Span.lin ld.all hx).xor ls.span;rw[← xdm,xfx,xhf] at s1;obtain⟨S,hS⟩:=s1;have:=(zbdi ld.good S N).2;rw[← hS,hy (by lia)] at this;exact absurd (this (by lia)) (by decide)
structure Src (m:Nat) (d:Int) (sel:List (Int×Row)):Prop where
 all:∀p∈sel,p.1∈([1,2,4,8]:List Int)/\1<=p.1/\p.1<=d/\Mon (m+1) (d - p.1) p.2
theorem ziz {N d:Int}  (h1:1<=N)(h2:N<=10)(d0:0<=d)(hd:d<=mostD N)(ne:l≠[])(nd:l.Nodup)(hm:∀r∈l,r∈allL d (N - 1).toNat)(hl:l.length<=1000)
  (lin:∀i,Enough d i->Lin (·∈(srcs d (N - 1).toNat i).map (gv (pw (allL d (N - 1).toNat)))) (xr l (pw (allL d (N - 1).toNat))))
  (k:∀ ks sel g,Keys sel ks->Src (N - 1).toNat d sel->xr l (pw (allL d (N - 1).toNat))=xr sel (gv (pw (allL d (N - 1).toNat)))->Q (.tup [.str "raised", .int N,aK l,.tup (ks.map λk=>.tup [.int k,aK (aO (grp sel k))])]) (au++g)):WP (zgy [.int N,aK l] au) Q:=by
 obtain⟨fw,fit⟩:=zzy h1 h2 d0 hd;have hmf:=zft h1 h2;have hN:N=((N - 1).toNat:Int)+1:=by lia
 have h24:=fit.d24;have hAL:=fit.len;refine zdz rfl ?_;simp only[W,V];refine zmr h1 h2 d0 (by have:=hmf.2.1;split at this<;>split<;>lia) fw hl ne (λr hr=>(zel d0 (hm r hr)).2.2) λg0=>?_
 refine WP.of (show oIsN false (.int d) .non (au++g0)=.ok (.bl false) (au++g0) from rfl) ?_
 try simp only[W,V,xcq,xeh]
 refine zbdv 9 (N - 1).toNat (d:=d) (N:=N) fit.m9 (by have:=fit.m9;lia) hN d0 (by lia) fit.few λg1=>?_
 try simp only[W,V]
 refine zqg (zdi _ _) hAL λpk pl=>?_
 try simp only[W,V]
 refine zhg hN fit (n:=(au++g0++g1).length) (by simp) pl λkvs so g B i en rp sm sl lb=>?_
 try simp only[W,V]
 refine zkc rfl rfl ?_;refine zjh (n:=(au++g0++g1).length) (kvs:=pk) (by simp) pl hAL nd hm ?_;have hb:=zpj.mpr (zbmw (λx hx=>pw_lt (hm x hx)):xr l (pw (allL d (N - 1).toNat)) < 2 ^ (allL d (N - 1).toNat).length);refine zix (kvs:=kvs) (by simp) rp lb hb hAL λy u ls hy ex ul=>?_
 obtain rfl:=zse lb (lin i en) ls hy;rw[xeg] at ex
 try simp only[W,V]
 refine zkc rfl rfl ?_
 try simp only[W,V]
 rw[if_pos (show((0:Nat):Int)=0 from rfl)];refine zkc rfl rfl ?_;refine zkc rfl rfl ?_;have sf:∀p∈so,_:=λp hp=>zmg en h24 (sm p hp)
 refine zrs (λp hp=>⟨(sf p hp).1,by have:=(sf p hp).2.2.2.len;lia,(sf p hp).2.2.2.nn⟩) (by lia) sl λks g2 kf=>?_
 refine⟨small _ (by simp),?_⟩;have:=k ks (selP so u so.length) (g0++g1++.dT pk::.dI kvs::.dead::g++g2) kf ⟨λp hp=>sf p (zkp (xbf _) p hp)⟩ (by rw[ex,zbnk])
 simpa using this
end
end Dd
namespace Dd
open PySem L2
section
end
theorem zbbv   (h:SumOk n l):SumOk n (halfL l):=by
 have h1:=h.filter λr=>r.all λx=>decide (x % 2=1)
 refine⟨Rise.map (f:=(· / 2)) (P:=λx=>x % 2=1) (λi j a b=>by lia) h1.rise λr hr x hx=>?_,λr hr=>?_,λr hr x hx=>?_⟩
 ·have:=(xdo.mp hr).2;rw[xdn] at this;exact xcz (this x hx)
 ·obtain⟨z,hz,rfl⟩:=xbk.mp hr;rw[xbb];exact h1.len z hz
 ·obtain⟨z,hz,rfl⟩:=xbk.mp hr;obtain⟨y,hy,rfl⟩:=xbk.mp hx;have:=h1.pos z hz y hy;show 0<=y / 2;lia
theorem zvq (l:List (List Int)):(halfL l).length<=l.length:=by unfold halfL;rw[xbb];exact xfh _ _
section
end
end Dd
namespace K61
end K61
namespace Dd
open PySem L2 K13
section
variable {α β:Type}
theorem zbau (f:α->β->Nat):∀(l:List α) (m:List β),(xr l λx=>xr m λy=>f x y)=xr m λy=>xr l λx=>f x y
 | [],m=>(zfb m).symm
 | x::l,m=>by rw[zbr,zbau f l m,← zic];rfl
theorem zbhh (F:Nat->Nat):∀n,xr (List.range (2 * n)) F=xr (List.range n) λi=>F (2 * i) ^^^ F (2 * i+1)
 | 0=>rfl
 | n+1=>by rw[show 2 * (n+1)=2 * n+1+1 by lia,znp,znp,zbhh F n,znp,xdm]
end
def dbl (r:Row):Row:=r.map (2 * ·+1)
def hv (r:Row):Row:=r.map (· / 2)
def od (r:Row):Bool:=r.all λx=>decide (x % 2=1)
def hf (φ:Row->Nat):Row->Nat:=λx=>if od x=true then φ (hv x) else 0
theorem zou:∀x:Row,hv (dbl x)=x/\od (dbl x)=true
 | []=>⟨rfl,rfl⟩
 | e::x=>by
  obtain⟨a,b⟩:=zou x;refine⟨?_,?_⟩
  ·show(2 * e+1) / 2::hv (dbl x)=_;rw[a,show(2 * e+1) / 2=e by lia]
  ·show(decide ((2 * e+1) % 2=1)&&od (dbl x))=true;rw[b,xbv (show(2 * e+1) % 2=1 by lia)];rfl
theorem zbaf:∀{x:Row},od x=true->dbl (hv x)=x
 | [],_=>rfl
 | e::x,h=>by
  have h:(decide (e % 2=1)&&od x)=true:=h;rw[xgg] at h;have:=xcz h.1;show(2 * (e / 2)+1)::dbl (hv x)=_;rw[zbaf h.2,show 2 * (e / 2)+1=e by lia]
theorem zhe:∀x:Row,(dbl x).sum=2 * x.sum+x.length
 | []=>rfl
 | e::x=>by
  show 2 * e+1+(dbl x).sum=_;rw[zhe x,xgr,xcb];lia
theorem zfw (r:Row)(l:List Row):halfL (r::l)=(if od r=true then[hv r] else[])++halfL l:=by
 unfold halfL;rw[List.filter_cons];by_cases c:od r=true
 ·rw[if_pos c];unfold od at c;rw[if_pos c];rfl
 ·rw[if_neg c];unfold od at c;rw[if_neg c];rfl
theorem zgt:∀a b:List Row,halfL (a++b)=halfL a++halfL b
 | [],b=>rfl
 | r::a,b=>by rw[xhx,zfw,zgt a b,zfw,xck]
theorem zgs :∀{l:List Row},x∈halfL l↔dbl x∈l
 | []=>by show x∈[]↔_;simp
 | r::l=>by
  rw[zfw,xbr,zgs (l:=l),xbs];by_cases c:od r=true
  ·rw[if_pos c,xbq];exact⟨λh=>h.imp (λe=>by rw[e,zbaf c]) id,λh=>h.imp (λe=>by rw[← e,(zou x).1]) id⟩
  ·rw[if_neg c];exact⟨λh=>h.elim (λe=>by cases e) .inr,λh=>h.elim (λe=>absurd (by rw[← e];exact(zou x).2) c) .inr⟩
theorem zsq (f:Row->Nat):∀l:List Row,xr (halfL l) f=xr l (hf f)
 | []=>rfl
 | r::l=>by
  rw[zfw,zdn,zsq f l,zbr]
  congr 1
  unfold hf;by_cases c:od r=true
  ·rw[if_pos c,if_pos c];exact xeg _
  ·rw[if_neg c,if_neg c];rfl
def isR (x y:Row):Nat:=if y=x then 1 else 0
theorem zbmx (x:Row):∀l:List Row,xr l (isR x)=l.count x % 2
 | []=>rfl
 | y::l=>by
  rw[zbr,zbmx x l,xjr];unfold isR;by_cases c:y=x
  ·rw[if_pos c,if_pos (by simp[c])];rcases xdx (l.count x) with z | z
   ·rw[z,xnl,z];rfl
   ·rw[z,xnl,z];rfl
  ·rw[if_neg c,if_neg (by simpa using c),xhf];rfl
theorem zbsr (x:Row):hf (isR x)=isR (dbl x):=funext λy=>by
 unfold hf isR;by_cases c:y=dbl x
 ·rw[if_pos c,c,if_pos (zou x).2,if_pos (zou x).1]
 ·rw[if_neg c];by_cases o:od y=true
  ·rw[if_pos o,if_neg λe=>c (by rw[← e,zbaf o])]
  ·rw[if_neg o]
theorem zbmu (k:Int)(φ:Row->Nat)(r:Row)(e:Nat):T k φ (r++[(e:Int)])=xr (List.range (e+1)) λj=>if sb e j=true then T (k - j) (λu=>φ (u++[(e:Int)+(j:Int)])) r else 0:=by
 rw[zxe,zbau,zso];refine zm λj _=>?_
 by_cases c:sb e j=true
 ·rw[if_pos c,if_pos c];unfold T;refine zm λu _=>?_
  by_cases z:u.sum+((e:Int)+(j:Int))=r.sum+e+k
  ·rw[if_pos z,if_pos (by lia)]
  ·rw[if_neg z,if_neg (by lia)]
 ·rw[if_neg c,if_neg c]
theorem zun (r:Row)(e:Int):od (r++[e])=(od r&&decide (e % 2=1)):=by unfold od;rw[List.all_append];simp
theorem zbbt (r:Row)(e:Int):hv (r++[e])=hv r++[e / 2]:=by unfold hv;rw[xdr];rfl
theorem zvn (φ:Row->Nat)(e:Int):(λu=>hf φ (u++[e]))=if e % 2=1 then hf (λs=>φ (s++[e / 2])) else λ_=>0:=by
 by_cases c:e % 2=1
 ·rw[if_pos c]
  funext u
  unfold hf;rw[zun,zbbt,xbv c,xjn]
 ·rw[if_neg c]
  funext u
  unfold hf;rw[zun,xby c,xkb];rfl
def HF (m:Row):Prop:=∀(k:Int) (φ:Row->Nat),T k (hf φ) m=if k % 2=0/\od m=true then T (k / 2) φ (hv m) else 0
theorem zbbu  (h:HF r)(e:Nat):HF (r++[(e:Int)]):=λk φ=>by
 rw[zbmu,zun,zbbt];rcases xdx e with c | c
 ·rw[if_neg (by rw[xby (show ¬ (e:Int) % 2=1 by lia),xkb];simp)];rw[zm (g:=λ_=>0) λj _=>?_,zfb];by_cases s:sb e j=true
  ·rw[if_pos s,zvn];have:j % 2=0:=by
    rw[zmn,xgg] at s;have:=xcz s.2;lia
   rw[if_neg (by lia),zbhc]
  ·rw[if_neg s]
 ·obtain⟨f,rfl⟩:∃f,e=2 * f+1:=⟨e / 2,by lia⟩
  rw[show 2 * f+1+1=2 * (f+1) by lia,zbhh,xbv (show((2 * f+1:Nat):Int) % 2=1 by lia),xjn,show((2 * f+1:Nat):Int) / 2=(f:Int) by lia,zbmu];have o:∀i,(if sb (2 * f+1) (2 * i+1)=true then T (k - ((2 * i+1:Nat):Int)) (λu=>hf φ (u++[((2 * f+1:Nat):Int)+((2 * i+1:Nat):Int)])) r else 0)=0:=λi=>by
   split
   ·rw[zvn,if_neg (by lia),zbhc]
   ·rfl
  have q:∀i,(if sb (2 * f+1) (2 * i)=true then T (k - ((2 * i:Nat):Int)) (λu=>hf φ (u++[((2 * f+1:Nat):Int)+((2 * i:Nat):Int)])) r else 0)
    = if k % 2=0/\od r=true then(if sb f i=true then T (k / 2 - i) (λu=>φ (u++[(f:Int)+(i:Int)])) (hv r) else 0) else 0:=λi=>by
   rw[zmn,show(2 * f+1) / 2=f by lia,show 2 * i / 2=i by lia,xbv (show 2 * i % 2<=(2 * f+1) % 2 by lia),xjn];by_cases s:sb f i=true
   ·rw[if_pos s,if_pos s,zvn,if_pos (by lia),h,show(((2 * f+1:Nat):Int)+((2 * i:Nat):Int)) / 2=(f:Int)+i by lia,show(k - ((2 * i:Nat):Int)) / 2=k / 2 - i by lia];by_cases z:k % 2=0/\od r=true
    ·rw[if_pos z,if_pos ⟨by lia,z.2⟩]
    ·rw[if_neg z,if_neg λy=>z ⟨by lia,y.2⟩]
   ·rw[if_neg s,if_neg s];split<;>rfl
  rw[zm λi _=>by rw[o i,q i,xeg]];by_cases z:k % 2=0/\od r=true
  ·rw[if_pos z];exact zm λi _=>if_pos z
  ·rw[if_neg z,zm (g:=λ_=>0) λi _=>if_neg z,zfb]
theorem zbmv:∀m:Row,Nn m->HF m:=λm hm=>by
 have z:HF []:=λk φ=>by
  rw[zbcv,show hv []=[] from rfl,zbcv,show hf φ []=φ [] from rfl];by_cases c:k=0
  ·rw[if_pos c,if_pos ⟨by lia,rfl⟩,if_pos (by lia)]
  ·rw[if_neg c];by_cases e:k % 2=0/\od []=true
   ·rw[if_pos e,if_neg (by lia)]
   ·rw[if_neg e]
 have:=zoa (P:=λm=>HF m.dropLast/\HF m) ⟨?_,?_⟩ (λr _ h=>⟨?_,?_⟩) (λr e _ h=>⟨?_,?_⟩) m hm
 ·exact this.2
 ·exact z
 ·exact z
 ·rw[xjj];exact h.2
 ·exact zbbu h.2 0
 ·rw[xjj] at h ⊢;exact h.1
 ·rw[xjj] at h;exact zbbu h.1 (e+1)
theorem zbsm  (hk:0<=k)  (hp:Nn p)(y:Row):(raiseR k p).count y % 2=T k (isR y) p:=by
 rw[← zxf hk hp,zbmx,zeh,show raiseL k [p]=raiseR k p by unfold raiseL;simp]
theorem zbpi  (h:Nn p):Nn (hv p):=λx hx=>by
 obtain⟨y,hy,rfl⟩:=xbk.mp hx;have:=h y hy;lia
theorem zvp (l:List Row)(x:Row):(halfL l).count x % 2=l.count (dbl x) % 2:=by rw[← zbmx,zsq,zbsr,zbmx]
theorem ztt  (hk:0<=k)  (hp:Nn p)(x:Row):(raiseR k p).count (dbl x) % 2=if k % 2=0/\od p=true then(raiseR (k / 2) (hv p)).count x % 2 else 0:=by
 rw[zbsm hk hp,← zbsr,zbmv p hp];by_cases c:k % 2=0/\od p=true
 ·rw[if_pos c,if_pos c,zbsm (by lia) (zbpi hp)]
 ·rw[if_neg c,if_neg c]
theorem zju  (hk:0<=k)(x:Row):∀{l:List Row},(∀p∈l,Nn p)->(raiseL k l).count (dbl x) % 2=if k % 2=0 then(raiseL (k / 2) (halfL l)).count x % 2 else 0
 | [],_=>by show 0 % 2=_;split<;>rfl
 | p::l,h=>by
  have a:=ztt hk (h p (xbp ..)) x;have b:=zju hk x (l:=l) λq hq=>h q (xbm _ hq)
  have e:∀(j:Int) (q:Row) (m:List Row),raiseL j (q::m)=raiseR j q++raiseL j m:=λj q m=>xko
  have e2:∀(j:Int) (a b:List Row),raiseL j (a++b)=raiseL j a++raiseL j b:=λj a b=>xlr
  rw[e,xgo,xnl,a,b,zfw,e2,xgo];by_cases c:k % 2=0
  ·rw[if_pos c,if_pos c];by_cases o:od p=true
   ·rw[if_pos ⟨c,o⟩,if_pos o,e,← xnl];show _=((raiseR (k / 2) (hv p)++[]).count x+_) % 2;rw[xcy]
   ·rw[if_neg λz=>o z.2,if_neg o,xdt,Nat.mod_mod];show _=(0+_) % 2;rw[xdt]
  ·rw[if_neg c,if_neg c,if_neg λz=>c z.1]
theorem zfo   (hk:0<=k)  (h:Rows n l):Rows n (raiseL k l):=λr hr=>by
 obtain⟨p,hp,hr⟩:=xel.mp hr;have nn:Nn p:=(h p hp).2;rw[zfp nn hk] at hr;have hr:=(xdo.mp hr).1;exact⟨(zeq nn r hr).2.trans (h p hp).1,zie p nn r hr⟩
theorem zow   (hk:0<=k)  (h:Rows n l):halfL (aO (raiseL k l))=if k % 2=0 then aO (raiseL (k / 2) (halfL l)) else[]:=by
 have ok:=zbbv (zpx (zfo hk h));rw[← ok.rise.odd];have p:∀x,(halfL (aO (raiseL k l))).count x % 2=_:=λx=>(zvp _ x).trans ((zeh _ _).trans (zju hk x λp hp=>(h p hp).2))
 by_cases c:k % 2=0
 ·rw[if_pos c];exact zmw λx=>by rw[p,if_pos c]
 ·rw[if_neg c];exact(zmw (b:=[]) λx=>by rw[p,if_neg c];rfl).trans rfl
theorem zss   (hy:y∈AL):∀{L:List Row},(∀x∈L,x∈AL)->(xr L (pw AL)).testBit (AL.idxOf y)=decide (L.count y % 2=1)
 | [],_=>xjk _
 | x::L,h=>by
  rw[zbr,xip,zss hy λz hz=>h z (xbm _ hz)];unfold pw;rw[xhy,xjr];by_cases c:x=y
  ·rw[xbv (show AL.idxOf x=AL.idxOf y by rw[c]),if_pos (by simp[c]),xhj];simp;lia
  ·rw[xby (λe=>c (zvm (h x (xbp ..)) hy e)),if_neg (by simpa using c),xjb,Bool.false_xor]
theorem zwa   (h0:0<=d) :p∈allL d m↔dbl p∈allL (2 * d+((m:Int)+1)) m:=by
 refine⟨λh=>?_,λh=>?_⟩
 ·obtain⟨a,b,c⟩:=zel h0 h;refine zgx (by unfold dbl;rw[xbb];exact a) (λx hx=>?_) (by rw[zhe,a,c];lia);obtain⟨y,hy,rfl⟩:=xbk.mp hx;have:=b y hy;lia
 ·obtain⟨a,b,c⟩:=zel (by lia) h;have a:p.length=m+1:=by unfold dbl at a;rw[xbb] at a;exact a
  refine zgx a (λx hx=>?_) (by rw[zhe,a] at c;lia);have:=b (2 * x+1) (xbk.mpr ⟨x,hx,rfl⟩);lia
theorem zbew {m i i':Nat}{d:Int}(h0:0<=d)(en:Enough d i)(en':Enough (2 * d+((m:Int)+1)) i')(h24:2 * d+((m:Int)+1)<=24){v:Nat}
  (h:Lin (·∈(srcs (2 * d+((m:Int)+1)) m i').map (gv (pw (allL (2 * d+((m:Int)+1)) m)))) v) :
  ∃L:List Row,(∀x∈L,x∈allL (2 * d+((m:Int)+1)) m)/\v=xr L (pw (allL (2 * d+((m:Int)+1)) m))/\Lin (·∈(srcs d m i).map (gv (pw (allL d m)))) (xr (halfL L) (pw (allL d m))):=by
 induction h with
 | zero=>exact⟨[],(λ_ h=>by cases h),rfl,.zero⟩
 | add hP hw ih =>
  obtain⟨L,h1,rfl,h2⟩:=ih;obtain⟨⟨k,p⟩,hp,rfl⟩:=xbk.mp hP;obtain⟨_,k1,kd,mon⟩:=zmg en' h24 hp;dsimp only at k1 kd mon;have mem:∀x∈(wholeS p).filter λx=>decide (x.sum=p.sum+k),x∈allL (2 * d+((m:Int)+1)) m:=λx hx=>by
   obtain⟨a,b⟩:=xdo.mp hx;have b:=xcz b;exact zgx ((zeq mon.nn x a).2.trans mon.len) (zie p mon.nn x a) (by rw[b,mon.sum];lia)
  have tx:∀f:Row->Nat,xr ((wholeS p).filter λx=>decide (x.sum=p.sum+k)) f=T k f p:=λf=>by
   rw[zfl];unfold T;refine zm λx _=>?_
   by_cases c:x.sum=p.sum+k
   ·rw[if_pos (xbv c),if_pos c]
   ·rw[if_neg (by simp[c]),if_neg c]
  refine⟨(wholeS p).filter (λx=>decide (x.sum=p.sum+k))++L,λx hx=>(xbr.mp hx).elim (mem x) (h1 x),by rw[zdn,tx],?_⟩;rw[zgt,zdn,zsq,tx,zbmv p mon.nn];refine Lin.xor ?_ h2;by_cases c:k % 2=0/\od p=true
  ·rw[if_pos c];have ds:=zhe (hv p);have hl:(hv p).length=m+1:=by unfold hv;rw[xbb];exact mon.len
   rw[zbaf c.2,mon.sum,hl] at ds;have sn:=zlc (zbpi mon.nn);obtain⟨j,hj⟩:∃j:Nat,k / 2=(j:Int):=⟨(k / 2).toNat,by lia⟩
   rw[hj];exact zvs en (by lia) (by lia) ⟨hl,zbpi mon.nn,by lia⟩
  ·rw[if_neg c];exact .zero
theorem zvl    (hp:p∈allL d m)(hq:q∈allL d m):(allL d m).idxOf p < (allL d m).idxOf q↔HT.lexLt p q=true:=by
 have up:∀{a b:Row},a∈allL d m->b∈allL d m->(allL d m).idxOf a < (allL d m).idxOf b->HT.lexLt a b=true:=λ{a b} ha hb lt=>by
  have:=xfb.mp (zrj m d) _ _ (xec ha) (xec hb) lt;rw[xhg,xhg] at this;exact this
 refine⟨up hp hq,λh=>?_⟩;rcases Nat.lt_trichotomy ((allL d m).idxOf p) ((allL d m).idxOf q) with z | z | z
 ·exact z
 ·rw[zvm hp hq z,Srt.zed] at h;cases h
 ·have:=Srt.zle (up hq hp z);rw[this] at h;cases h
theorem zzm {m i i':Nat}{d:Int}  (h0:0<=d)(en:Enough d i)(en':Enough (2 * d + ((m:Int) + 1)) i')(h24:2 * d + ((m:Int) + 1)<=24)
    (a:Lds (allL d m).length A ((srcs d m i).map (gv (pw (allL d m)))))(b:Lds (allL (2 * d + ((m:Int) + 1)) m).length B ((srcs (2 * d + ((m:Int) + 1)) m i').map (gv (pw (allL (2 * d + ((m:Int) + 1)) m)))))
     (hp:p∈allL d m)(h:(B ((allL (2 * d + ((m:Int) + 1)) m).idxOf (dbl p) + 1)).isSome=true):(A ((allL d m).idxOf p + 1)).isSome=true:=by
  obtain⟨v,hv⟩:=xju.mp h;obtain⟨blv,v0⟩:=b.good _ _ hv;obtain⟨L,inn,rfl,lin⟩:=zbew h0 en en' h24 (b.lin _ _ hv);have hin:∀ x∈halfL L,x∈allL d m:=λx hx=>(zwa h0).mpr (inn _ (zgs.mp hx))
  have bits:∀{q:Row},q∈allL d m->(xr (halfL L) (pw (allL d m))).testBit ((allL d m).idxOf q)=(xr L (pw (allL (2 * d + ((m:Int) + 1)) m))).testBit ((allL (2 * d + ((m:Int) + 1)) m).idxOf (dbl q)):=λ{q} hq=>by
    rw[zss hq hin,zss ((zwa h0).mp hq) inn,zvp]
  have top:=zbar v0;rw[blv,Nat.add_sub_cancel, ← bits hp] at top;have le:bl (xr (halfL L) (pw (allL d m)))<=(allL d m).idxOf p + 1:=by
    refine zpj.mpr (xmx _ λj hj=>?_);by_cases c:j < (allL d m).length
    · have hq:=xda c
      have ij:(allL d m).idxOf ((allL d m)[j])=j:=xjy (zdi _ _) j c;have:=bits hq;rw[ij] at this;rw[this];refine xez (xbh (zpj.mp (xdb blv)) (xex (by decide) ?_));have lt:(allL d m).idxOf p < (allL d m).idxOf ((allL d m)[j]):=by rw[ij]; lia
      have lx:=(zvl hp hq).mp lt;refine(zvl ((zwa h0).mp hp) ((zwa h0).mp hq)).mpr ?_;unfold dbl;rw[zva (f:=(2 * · + 1)) (P:=λ_=>True) (λi j _ _=>by lia) (λ_ _=>trivial) (λ_ _=>trivial)];exact lx
    · exact xez (xbh (zbmw λx hx=>pw_lt (hin x hx)) (xex (by decide) (by lia)))
  have ge:(allL d m).idxOf p + 1<=bl (xr (halfL L) (pw (allL d m))):=by
    rcases xff ((allL d m).idxOf p) (bl (xr (halfL L) (pw (allL d m)))) with z | z
    · exact z
    · rw[xez (zpj.mp z)] at top; cases top
  obtain⟨S,hS⟩:=Span.lin a.all lin;have:=(zbdi a.good S (allL d m).length).2;rw[← hS,xdz le ge] at this;refine this λe=>?_
  rw[e,xjk] at top; cases top
theorem zkm  :∀{l:List Row} {i:Nat},r∈stands A i l↔∃j,l[j]?=some r/\(A (i+j+1)).isSome=false
 | [],i=>by unfold stands;simp
 | x::l,i=>by
  have ih:=zkm (A:=A) (r:=r) (l:=l) (i:=i+1);have sp:(∃j,(x::l)[j]?=some r/\(A (i+j+1)).isSome=false)↔(x=r/\(A (i+1)).isSome=false)\/∃j,l[j]?=some r/\(A (i+1+j+1)).isSome=false:=by
   constructor
   ·rintro⟨j,h1,h2⟩
    match j with
    | 0=>exact .inl ⟨xcv h1,h2⟩
    | j+1=>exact .inr ⟨j,h1,by rw[show i+1+j+1=i+(j+1)+1 by lia];exact h2⟩
   ·rintro(⟨h1,h2⟩ | ⟨j,h1,h2⟩)
    ·exact⟨0,congrArg some h1,h2⟩
    ·exact⟨j+1,h1,by rw[show i+(j+1)+1=i+1+j+1 by lia];exact h2⟩
  rw[sp,← ih,show stands A i (x::l)=if(A (i+1)).isSome=true then stands A (i+1) l else x::stands A (i+1) l from rfl];by_cases c:(A (i+1)).isSome=true
  ·rw[if_pos c,c];simp
  ·rw[if_neg c,xbs];have c:(A (i+1)).isSome=false:=by simpa using c
   rw[c];exact⟨λh=>h.imp (λe:r=x=>⟨e.symm,rfl⟩) id,λh=>h.imp (λe=>e.1.symm) id⟩
theorem zrm {m i i':Nat}{d:Int}  (h0:0<=d)(en:Enough d i)(en':Enough (2 * d+((m:Int)+1)) i')(h24:2 * d+((m:Int)+1)<=24)
  (a:Lds (allL d m).length A ((srcs d m i).map (gv (pw (allL d m)))))(b:Lds (allL (2 * d+((m:Int)+1)) m).length B ((srcs (2 * d+((m:Int)+1)) m i').map (gv (pw (allL (2 * d+((m:Int)+1)) m))))) :
  (stands A 0 (allL d m)).length<=(stands B 0 (allL (2 * d+((m:Int)+1)) m)).length:=by
 rw[← xbb dbl];have nd:((stands A 0 (allL d m)).map dbl).Nodup:=xiu.mpr (((zdi m d).sublist (zil A _ _)).imp λ{x y} ne e=>ne (by rw[← (zou x).1,e,(zou y).1]));refine xfr nd λx hx=>?_
 ·obtain⟨p,hp,rfl⟩:=xbk.mp hx;obtain⟨j,h1,h2⟩:=zkm.mp hp;have hin:=xbz h1;have hd:=(zwa h0).mp hin;refine zkm.mpr ⟨_,xbg.mpr ⟨xec hd,xhg _⟩,?_⟩;cases c:(B (0+(allL (2 * d+((m:Int)+1)) m).idxOf (dbl p)+1)).isSome
  ·rfl
  ·rw[xdt] at c;have:=zzm h0 en en' h24 a b hin c;obtain⟨lt,e⟩:=xbg.mp h1;rw[← e,xjy (zdi _ _),← xdt j,h2] at this;cases this
section
end
section
theorem znb {N:Int}(k:∀ g,Q (.tup [.str "raised", .int N,aK [],.tup []]) (au++g)):WP (zgy [.int N,aK []] au) Q:=by
 refine zdz rfl ?_;simp only[W,V];refine zoo λg=>?_
 refine WP.of (show oIsN false .non .non (au++g)=.ok (.bl true) (au++g) from rfl) ?_;simp only[W,V,xes];exact⟨small _ (by simp),small _ (by simp),k g⟩
end
section
theorem znw {N:Int}(h1:1<=N)(h2:N<=10)(d0:0<=d)(hd:d<=mostD N)
  (k:∀g A i,Enough d i->Lds (allL d (N - 1).toNat).length A ((srcs d (N - 1).toNat i).map (gv (pw (allL d (N - 1).toNat))))->Q (.ref (au++g).length) ((au++g)++[.lst (aJ (stands A 0 (allL d (N - 1).toNat)))])):WP (zev [.int N,.int d] au) Q:=by
 obtain⟨fw,fit⟩:=zzy h1 h2 d0 hd;have hm:=zft h1 h2;have hN:N=((N - 1).toNat:Int)+1:=by lia
 have h24:=fit.d24;refine zdz rfl ?_;simp only[W,V];have da:zbo [.int d] au=.ok (.int d) au:=by
  have:WP (zbo [.int d] au) (λv s=>v=.int d/\s=au):=by
   refine zdz rfl ?_;simp only[W,V];refine WP.of (zgp (au:=au) (i:=d)) ⟨true,rfl,?_⟩;simp only[xml,xcq,xeh,W,V];rw[if_neg (by lia)];exact⟨trivial,trivial⟩
  obtain⟨a,s,e,rfl,rfl⟩:=this.get;exact e
 refine WP.of da ?_;refine zqm h1 h2 d0 (by have:=hm.2.1;split at this<;>split<;>lia) fw ?_;refine zbdv 9 (N - 1).toNat (d:=d) (N:=N) fit.m9 (by have:=fit.m9;lia) hN d0 (by lia) fit.few λg0=>?_
 try simp only[W,V]
 refine zqg (zdi _ _) fit.len λpk pl=>?_
 refine zhg hN fit (n:=(au++g0).length) (by simp) pl λkvs so g B i en rp sm sl lb=>?_
 refine zkc rfl rfl ?_
 try simp only[W,V]
 refine zxm ?_;simp only[W,V];refine⟨_,rfl,by rw[zck,ze];exact small _ (by have:=fit.len;lia),?_⟩;refine ztg (kvs:=kvs) (A:=B) (by simp) ⟨_,_,rfl⟩ (λj r=>?_) ?_
 ·simp only[W,V];exact⟨_,rfl,trivial,by rw[show(0:Int)+(j:Int)+1=((j+1:Nat):Int) by lia,rp.is]⟩
 ·have:=k (g0++.dT pk::.dI kvs::.dead::g) B i en lb
  simpa using this
theorem zkf {N:Int}(h1:1<=N)(h2:N<=10)(d0:0<=d)(hd:d<=mostD N)
  (k:∀g A i,Enough d i->Lds (allL d (N - 1).toNat).length A ((srcs d (N - 1).toNat i).map (gv (pw (allL d (N - 1).toNat))))->Q (.int (stands A 0 (allL d (N - 1).toNat)).length) (au++g)):WP (zy [.int N,.int d] au) Q:=by
 refine zdz rfl ?_;simp only[W,V];refine znw h1 h2 d0 hd λg A i en lb=>?_
 rw[len59 (m:=(au++g).length) (xs:=aJ (stands A 0 (allL d (N - 1).toNat))) (by simp)];simp only[W,V];have:=k (g++[.lst (aJ (stands A 0 (allL d (N - 1).toNat)))]) A i en lb;rw[ze]
 simpa using this
structure Of (N d:Int) (l:List Row):Prop where
 few:l.length<=5
 rows:Rows N.toNat l
 sum:∀r∈l,r.sum=d
theorem Of.more {N:Int}{l:List Row}   (h:l.length<=j/\Rows N.toNat l/\∀r∈l,r.sum=d)(h1:r.length=N.toNat)(h2:Nn r)(h3:r.sum=d):(l++[r]).length<=j+1/\Rows N.toNat (l++[r])/\∀r'∈l++[r],r'.sum=d:=by
 obtain⟨a,b,c⟩:=h;refine⟨by rw[xbi,xiy];lia,λx hx=>?_,λx hx=>?_⟩
 ·rcases xbr.mp hx with z | z
  ·exact b x z
  ·rw[xbq.mp z];exact⟨h1,h2⟩
 ·rcases xbr.mp hx with z | z
  ·exact c x z
  ·rw[xbq.mp z];exact h3
theorem zbib {N:Int}(hb:BagAt au n)(h1:1<=N)(h2:N<=10)(d0:0<=d)(hd:d<=24)(k:∀l st',Of N d l->Drew au st' n->Q (aK l) st'):WP (zep [.ref n,.int N,.int d] au) Q:=by
 have nlt:=hb.lt;refine zdz rfl ?_;simp only[W,V];refine zxz hb h1 (by lia) d0 (by lia) (by lia) (by lia) λl s1 l1 l2 l3 l4 D1=>?_
 have b1:BagAt (s1++[O.lst (aJ l)]) n:=(Drew.more D1.bag _).bag;have D1':Drew au (s1++[O.lst (aJ l)]) n:=D1.trans (.more D1.bag _);have nlt1:n < s1.length:=D1.lt nlt;have fin:∀(s:Store) (F:List Row),s[s1.length]?=some (.lst (aJ F))->(F.length<=5/\Rows N.toNat F/\∀r∈F,r.sum=d)->Drew au s n->∃m xs,D.ref s1.length=D.ref m/\s[m]?=some (.lst xs)/\WP (zbn [.lst xs] (List.set s m .dead)) λv st1=>Q v st1:=λs F hF fF D=>by
  refine⟨_,_,rfl,hF,?_⟩;have D2:Drew au (s.set s1.length .dead) n:=⟨by rw[xei];exact D.len,λi hi ne=>by rw[xcl (by have:=D1.len;lia)];exact D.keep i hi ne,D.bag.set (by lia)⟩
  refine zum (l:=F) rfl (by lia) λg=>k _ _ ⟨xbc (zjx F) fF.1,λr hr=>fF.2.1 r (zcd hr),λr hr=>fF.2.2 r (zcd hr)⟩ (D2.trans (.more D2.bag g))
 have at1:(s1++[O.lst (aJ l)])[s1.length]?=some (.lst (aJ l)):=by simp
 simp only[W,V,M,Dd.N];refine WP.of (show bListM [aK l] s1=.ok (.ref s1.length) (s1++[.lst (aJ l)]) from rfl) ⟨by lia,?_⟩;by_cases c:(d - N) % 2=0
 ·rw[if_pos c];by_cases c2:N<=d
  ·rw[if_pos c2];refine zfc b1 (by lia) (by lia) λt s2 t0 t1 D2=>⟨_,rfl,rngN (by lia) (by lia),?_⟩
   have at2:s2[s1.length]?=some (.lst (aJ l)):=by rw[D2.keep _ (by simp) (by lia)];exact at1
   refine zdo (λj σ s=>(∃v4,σ=[some (.ref n),some (.int N),some (.int d),some (.ref s1.length),v4])/\Drew au s n/\∃F:List Row,s[s1.length]?=some (.lst (aJ F))/\(F.length<=3+j/\Rows N.toNat F/\∀r∈F,r.sum=d))
    ⟨⟨_,rfl⟩,D1'.trans D2,l,at2,by lia,l2,l4⟩ ?_ ?_
   ·rintro j x σ s hx ⟨⟨v4,rfl⟩,D,F,hF,fF⟩;obtain⟨hj,rfl⟩:=zjs hx;refine⟨_,rfl,?_⟩;unfold zhk;simp only[W,V,M,Dd.N];refine⟨_,_,rfl,hF,⟨by decide,by decide⟩,?_⟩;refine zit D.bag h1 (by lia) (by lia) (by lia) λr s3 r1 r2 r3 D3=>?_
    refine⟨_,rfl,by rw[xbb];exact small _ (by lia),?_⟩;refine zhl (as:=r) (λσ=>∃v,σ=[v]) (λ_=>true) (λx=>.int (2 * x+1)) .int ⟨_,rfl⟩ ?_ ?_
    ·rintro x hx σ ⟨v,rfl⟩;exact⟨_,rfl,⟨_,rfl⟩,by simp only[W,xge],λ_=>by simp only[W,V,and_true];exact .inl ⟨by decide,by decide⟩⟩
    ·rw[zcv];have hF3:s3[s1.length]?=some (.lst (aJ F)):=by rw[D3.keep _ (zld hF) (by lia)];exact hF
     refine⟨_,_,rfl,hF3,by rw[ze,xhu];lia,?_⟩;simp only[L];have D4:=D.trans D3;refine⟨⟨_,rfl⟩,⟨by rw[xei];exact D4.len,λi hi ne=>by rw[xcl (by have:=D1.len;lia)];exact D4.keep i hi ne,D4.bag.set (by lia)⟩,F++[dbl r],?_,Of.more fF (by unfold dbl;rw[xbb,r1]) (λx hx=>?_) (by rw[zhe,r1,r3];lia)⟩
     ·rw[xdv (zld hF3)];unfold aJ aL dbl;simp
     ·obtain⟨y,hy,rfl⟩:=xbk.mp hx;have:=r2 y hy;lia
   ·rintro σ s ⟨⟨v4,rfl⟩,D,F,hF,fF⟩;rw[zdc] at fF;simp only[W,V,M,Dd.N];exact fin s F hF ⟨by lia,fF.2⟩ D
  ·rw[if_neg c2];exact fin _ l at1 ⟨by lia,l2,l4⟩ D1'
 ·rw[if_neg c];exact fin _ l at1 ⟨by lia,l2,l4⟩ D1'
theorem zof {xs:List Int}{i:Int}(h0:0<=i)(h1:i < xs.length)(q:Q (.int (xs.getD i.toNat 0)) au):WP (oIx (.lst (xs.map .int)) (.int i) au) Q:=by
 obtain⟨j,rfl⟩:=xgt h0;have hj:j < xs.length:=by lia
 refine zkc (xs:=xs.map .int) (d:=.int (xs.getD (j:Int).toNat 0)) rfl (zbgu ?_) q;rw[xco,xbd hj,xef,xbj,xbd hj]
 rfl
theorem zbkq  (h0:0<=a)(h1:a < 4):(a=0/\([8,4,4,2]:List Int).getD a.toNat 0=8/\([9,13,11,5]:List Int).getD a.toNat 0=9/\mostD (1+a)=24)\/(a=1/\([8,4,4,2]:List Int).getD a.toNat 0=4/\([9,13,11,5]:List Int).getD a.toNat 0=13/\mostD (1+a)=24)
  \/ (a=2/\([8,4,4,2]:List Int).getD a.toNat 0=4/\([9,13,11,5]:List Int).getD a.toNat 0=11/\mostD (1+a)=18)\/(a=3/\([8,4,4,2]:List Int).getD a.toNat 0=2/\([9,13,11,5]:List Int).getD a.toNat 0=5/\mostD (1+a)=8):=by
 have:a=0\/a=1\/a=2\/a=3:=by lia
 rcases this with rfl | rfl | rfl | rfl<;>decide
theorem zbkt  (h0:0<=a)(h1:a < 5):1<=([12,12,8,3,1]:List Int).getD a.toNat 0/\2 * (([12,12,8,3,1]:List Int).getD a.toNat 0 - 1)+(1+a)<=mostD (1+a):=by
 have:a=0\/a=1\/a=2\/a=3\/a=4:=by lia
 rcases this with rfl | rfl | rfl | rfl | rfl<;>decide
structure Dr (N p d:Int) (l:List Row):Prop where
 n1:1<=N
 n4:N<=4
 p0:0<=p
 d0:0<=d
 dm:d<=mostD N
 hm:d+2 * p - N<=2 * mostD N
 of:Of N d l
theorem raise62 {N:Int}{l':List Row}(h:Dr N p d l)(ht:0<=t)(few:l'.length<=5)(hr:Rows N.toNat l')(hs:∀r∈l',r.sum<=d)(k:∀g,Q (aK (aO (raiseL t l'))) (au++g)):WP (zbe [aK l',.int t] au) Q:=by
 obtain⟨fw,fit⟩:=zzy h.n1 (by have:=h.n4;lia) h.d0 h.dm;have h24:=fit.d24;have n1:=h.n1;have n4:=h.n4;refine zna (B:=20000) ht (λr hr' x hx=>⟨(hr r hr').2 x hx,?_⟩) (λr hr'=>by rw[(hr r hr').1];lia) (λr hr'=>fit.box (by rw[(hr r hr').1];lia) (hr r hr').2 (hs r hr')) (by lia) (by lia) k;have:=zbnd (hr r hr').2 x hx;have:=hs r hr';lia
theorem zlj   (h:Rows n l):Rows n (halfL l):=λr hr=>by
 have hr:=zgs.mp hr;obtain⟨a,b⟩:=h _ hr;refine⟨by unfold dbl at a;rw[xbb] at a;exact a,λx hx=>?_⟩;have:=b (2 * x+1) (xbk.mpr ⟨x,hx,rfl⟩);lia
theorem zbde  (c:Nat)(h:halfL l=[]):halfL (l.take c)=[]:=by
 rw[← xdf c l,zgt] at h;exact(List.append_eq_nil_iff.mp h).1
noncomputable def lim62 (N:Int):Int:=if 3 < N then 8 else 40
theorem zbex (N:Int):∃c:Nat,lim62 N=(c:Int)/\c<=40:=by unfold lim62;split;exact⟨8,rfl,by lia⟩;exact⟨40,rfl,by lia⟩
theorem zben {N:Int}   (h:Dr N p d l)  (k:∀g,QQ (.nx [S,v1,v2,some (.int N),some (.int p),v5,some (aK l),v7,v8,v9]) (au++g)) :
  WP ((sIf (eB (aS oNe (aE zcu (aB (eSl (aE zbe (aB (aA 6) (aB (aS aM (aS oMulI (eC (.int 2)) (aA 4)) (eC (.int 1))) aC))) pNone (pSome (aS oIx (eLst (aB (eC (.int 40)) (aB (eC (.int 8)) aC))) (aE bInt (aB (aS oGt (aA 3) (eC (.int 3))) aC))))) aC)) (aR aC))) (sRet (eC (.bl false))) sNx) [S,v1,v2,some (.int N),some (.int p),v5,some (aK l),v7,v8,v9] au) QQ:=by
 have p0:=h.p0;have n1:=h.n1;have n4:=h.n4;simp only[W,V,M,Dd.N];refine⟨.inl ⟨by decide,by decide⟩,?_⟩;refine raise62 h (by lia) h.of.few h.of.rows (λr hr=>Int.le_of_eq (h.of.sum r hr)) λg=>?_
 simp only[W,V,M,Dd.N];refine⟨small _ (by simp),zbfo ⟨_,rfl,?_⟩⟩;obtain⟨c,ec,c40⟩:=zbex N;unfold lim62 at ec;rw[ec,zblv,show List.take c (aJ (aO (raiseL (2 * p+1) l)))=aJ ((aO (raiseL (2 * p+1) l)).take c) by unfold aJ;rw[List.map_take]];have rr:=zfo (k:=2 * p+1) (by lia) h.of.rows;refine zhv (l:=(aO (raiseL (2 * p+1) l)).take c) (by rw[xcu];lia) (λr hr=>by rw[(rr r (zcd (xew hr))).1];lia) ?_;have e:=zow (k:=2 * p+1) (by lia) h.of.rows;rw[if_neg (by lia)] at e;rw[zbde c e];refine⟨small _ (by simp),WP.of (zvw (neg:=true) (d:=.tup []) rfl rfl (Sh.sum (l:=[]))) ?_⟩;dsimp only[bK];rw[if_neg (by decide)];exact k g
theorem zzz {N:Int}   (h:Dr N p d l)  (k:∀g,QQ (.nx [S,v1,v2,some (.int N),some (.int p),v5,some (aK l),some (aK (aO (raiseL (2 * p) l))),v8,v9]) (au++g)) :
  WP ((sIf (bAnd (eB (aS oLe (aE bLen (aB (aA 7) aC)) (aS oIx (eLst (aB (eC (.int 40)) (aB (eC (.int 8)) aC))) (aE bInt (aB (aS oGt (aA 3) (eC (.int 3))) aC))))) (eB (aS oNe (aE zcu (aB (aA 7) aC)) (aE zbe (aB (aE zcu (aB (aA 6) aC)) (aB (aA 4) aC)))))) (sRet (eC (.bl false))) sNx) [S,v1,v2,some (.int N),some (.int p),v5,some (aK l),some (aK (aO (raiseL (2 * p) l))),v8,v9] au) QQ:=by
 have p0:=h.p0;have n1:=h.n1;have n4:=h.n4;have lf:=h.of.few;simp only[W,V,M,Dd.N];refine⟨small _ (by simp),zbfo ?_⟩;obtain⟨c,ec,c40⟩:=zbex N;unfold lim62 at ec;rw[ec];simp only[W,V];rw[ze];refine⟨trivial,?_⟩;by_cases lt:((aO (raiseL (2 * p) l)).length:Int)<=(c:Int)
 ·rw[if_pos lt];have rr:=zfo (k:=2 * p) (by lia) h.of.rows;refine zhv (l:=aO (raiseL (2 * p) l)) (by lia) (λr hr=>by rw[(rr r (zcd hr)).1];lia) ?_;refine zhv (l:=l) (by lia) (λr hr=>by rw[(h.of.rows r hr).1];lia) ?_;refine raise62 h p0 (xbc (zvq l) h.of.few) (zlj h.of.rows) (λr hr=>?_) λg=>?_
  ·have hm:=zgs.mp hr;have a:=h.of.sum _ hm;have nn:=zlc (zlj h.of.rows r hr).2;rw[zhe] at a;lia
  ·have e:=zow (k:=2 * p) (by lia) h.of.rows;rw[if_pos (by lia),show 2 * p / 2=p by lia] at e;rw[e];refine WP.of (zvw (neg:=true) rfl rfl (Sh.sum (n:=62))) ?_;dsimp only[bK];rw[if_neg (by decide)];exact k g
 ·rw[if_neg lt];have:=k [];rw[xcy] at this;exact this
theorem zsh {N:Int}   (h:Dr N p d l)  (k:∀g,QQ (.nx [S,v1,v2,some (.int N),some (.int p),v5,some (aK l),some (aK (aO (raiseL (2 * p) l))),v8,v9]) (au++g)) :
  WP ((sIf (bAnd (eB (aS oGt (aA 4) (eC (.int 0)))) (bAnd (eB (aS oLe (aE bLen (aB (aA 7) aC)) (aS oIx (eLst (aB (eC (.int 40)) (aB (eC (.int 8)) aC))) (aE bInt (aB (aS oGt (aA 3) (eC (.int 3))) aC))))) (eB (aS oNe (aS oIx (aE zgy (aB (aA 3) (aB (aE zcu (aB (aA 7) aC)) aC))) (eC (.int 0))) (eC (.str "raised")))))) (sRet (eC (.bl false))) sNx) [S,v1,v2,some (.int N),some (.int p),v5,some (aK l),some (aK (aO (raiseL (2 * p) l))),v8,v9] au) QQ:=by
 have p0:=h.p0;have n1:=h.n1;have n4:=h.n4;have shR:Sh 64 (.str "raised"):=Sh.str (by decide +kernel)
 have k0:=k [];rw[xcy] at k0;simp only[W,V,M,Dd.N];by_cases pp:0 < p
 ·rw[if_pos pp];refine⟨small _ (by simp),zbfo ?_⟩;obtain⟨c,ec,c40⟩:=zbex N;unfold lim62 at ec;rw[ec];simp only[W,V];rw[ze];refine⟨trivial,?_⟩;by_cases lt:((aO (raiseL (2 * p) l)).length:Int)<=(c:Int)
  ·rw[if_pos lt];have rr:=zfo (k:=2 * p) (by lia) h.of.rows;have ok:=zbbv (zpx rr);refine zhv (l:=aO (raiseL (2 * p) l)) (by lia) (λr hr=>by rw[(rr r (zcd hr)).1];lia) ?_;have e:=zow (k:=2 * p) (by lia) h.of.rows;rw[if_pos (by lia),show 2 * p / 2=p by lia] at e;have fin:∀ g,WP (oNe (.str "raised") (.str "raised") (au++g)) (bK λb st1=>if b=true then QQ (.ret (.bl false)) st1 else QQ (.nx [S,v1,v2,some (.int N),some (.int p),v5,some (aK l),some (aK (aO (raiseL (2 * p) l))),v8,v9]) st1):=λg=>by
    refine WP.of (zvw (neg:=true) rfl rfl shR) ?_;dsimp only[bK];rw[if_neg (by decide)];exact k g
   by_cases nil:halfL (aO (raiseL (2 * p) l))=[]
   ·rw[nil];exact znb λg=>zkc rfl rfl (fin g)
   ·obtain⟨r0,hr0⟩:=List.exists_mem_of_ne_nil _ nil;have sums:∀r∈halfL (aO (raiseL (2 * p) l)),2 * r.sum+N=d+2 * p:=λr hr=>by
     have a:=(ok.len r hr)
     have b:=zcd (zgs.mp hr);obtain⟨q,hq,b⟩:=xel.mp b;rw[zfp (h.of.rows q hq).2 (by lia)] at b;have b:=xcz (xdo.mp b).2;rw[zhe,h.of.sum q hq,a] at b;lia
    have s0:=sums r0 hr0;have nn0:=zlc (ok.pos r0 hr0);have hm:=h.hm;refine ziz (d:=r0.sum) n1 (by lia) nn0 (by lia) nil ok.rise.nodup (λr hr=>zgx (by rw[ok.len r hr];lia) (ok.pos r hr) (by have:=sums r hr;lia)) (by have:=zvq (aO (raiseL (2 * p) l));lia) (λi en=>?_) λks sel g _ _ _=>zkc rfl rfl (fin g)
    rw[e,zbcx λx=>zeh (raiseL p (halfL l)) x];unfold raiseL;rw[zsr];refine .xr λq hq=>?_
    have hq2:=zlj h.of.rows q hq;have t:=zxf (f:=pw (allL r0.sum (N - 1).toNat)) p0 hq2.2;rw[zbcx λx=>zeh (raiseL p [q]) x,show raiseL p [q]=raiseR p q by unfold raiseL;simp] at t;rw[t];obtain⟨e',he⟩:∃e':Nat,p=(e':Int):=⟨p.toNat,by lia⟩
    have dq:=h.of.sum _ (zgs.mp hq);have nq:=zlc hq2.2;rw[zhe,hq2.1] at dq;rw[he] at s0 pp ⊢;exact zvs en (by lia) (by lia) ⟨by rw[hq2.1];lia,hq2.2,by lia⟩
  ·rw[if_neg lt];exact k0
 ·rw[if_neg pp];exact k0
theorem zwh   (m1:1<=m)(m5:m<=5)(d0:0<=d)(hd:2 * d+m<=mostD m)  (k:∀s,QQ (.nx [S,v1,v2,v3,v4,v5,v6,v7,some (.int m),some (.int d)]) s) :
  WP ((sIf (eB (aS oGt (aE zy (aB (aA 8) (aB (aA 9) aC))) (aE zy (aB (aA 8) (aB (aS aM (aS oMulI (eC (.int 2)) (aA 9)) (aA 8)) aC))))) (sRet (eC (.bl false))) sNx) [S,v1,v2,v3,v4,v5,v6,v7,some (.int m),some (.int d)] au) QQ:=by
 obtain⟨fw,fit⟩:=zzy m1 (by lia) (show 0<=2 * d+m by lia) hd;have h24:=fit.d24;simp only[W,V];refine zkf m1 (by lia) d0 (by lia) λg A i en a=>?_
 refine⟨.inl ⟨by decide,by decide⟩,?_⟩;refine zkf m1 (by lia) (by lia) hd λg' B i' en' b=>?_
 simp only[W,V];rw[if_neg]
 ·exact⟨trivial,k _⟩
 ·obtain⟨t,ht⟩:∃t:Nat,m=(t:Int)+1:=⟨(m - 1).toNat,by lia⟩
  have e:(m - 1).toNat=t:=by lia
  rw[e] at a b ⊢;rw[ht] at en' b h24 ⊢;have:=zrm d0 en en' h24 a b;lia
section
variable {n:Nat}
theorem first62 {ns:List Int}{i:Nat}  {T:SS}  (hl:ns.length<=63)(hi:i<=3)(k:∀N p d l s n,Dr N p d l->BagAt s n->WP (T [some (.scr (ns.map .int)),some (.int (i:Int)),some (.ref n),some (.int N),some (.int p),some (.int d),some (aK l),v7,v8,v9] s) QQ) :
  WP ((aD (aF 2 (aE zew (aB (aA 0) (aB (aA 1) aC))))
 (aD (aF 3 (aS aM (eC (.int 1)) (aE zo (aB (aA 2) (aB (eC (.int 4)) aC)))))
 (aD (aF 4 (aE zo (aB (aA 2) (aB (aS oIx (eLst (aB (eC (.int 8)) (aB (eC (.int 4)) (aB (eC (.int 4)) (aB (eC (.int 2)) aC))))) (aS oSub (aA 3) (eC (.int 1)))) aC))))
 (aD (aF 5 (aE zo (aB (aA 2) (aB (aS oIx (eLst (aB (eC (.int 9)) (aB (eC (.int 13)) (aB (eC (.int 11)) (aB (eC (.int 5)) aC))))) (aS oSub (aA 3) (eC (.int 1)))) aC))))
 (aD (aF 6 (aE zep (aB (aA 2) (aB (aA 3) (aB (aA 5) aC)))))
 T))))) [some (.scr (ns.map .int)),some (.int (i:Int)),v2,v3,v4,v5,v6,v7,v8,v9] au) QQ:=by
 simp only[W,V];refine zbrq hl (by lia) λg hb=>?_
 refine zfc hb (by lia) (by lia) λa s2 a0 a1 D2=>?_
 simp only[W,V];refine⟨small _ (by simp),?_⟩;rw[show 1+a - 1=a by lia];have f4:=zbkq a0 a1;refine⟨trivial,zof (xs:=[8,4,4,2]) a0 a1 ?_⟩;refine zfc D2.bag (by lia) (by lia) λp s3 p0 p1 D3=>?_
 refine⟨small _ (by simp),trivial,?_⟩;refine zof (xs:=[9,13,11,5]) a0 a1 ?_;refine zfc D3.bag (by lia) (by lia) λd s4 d0 d1 D4=>?_
 refine zbib D4.bag (by lia) (by lia) d0 (by lia) λl s5 of D5=>?_
 exact k _ _ _ _ _ _ ⟨by lia,by lia,p0,d0,by lia,by lia,of⟩ D5.bag
end
theorem zzs (ns:List Int)(hl:ns.length<=63):∃st',zbsd [.scr (ns.map .int)] []=.ok (.bl true) st':=by
 have key:WP (zbsd [.scr (ns.map .int)] []) (λv _=>v=.bl true):=by
  refine zdz rfl ?_;simp only[W,V];have hle:((ns.map D.int).length:Int)<=63:=by rw[xbb];lia
  have hge:(0:Int)<=((ns.map D.int).length:Int):=by lia
  generalize ((ns.map D.int).length:Int)=len at hle hge;refine⟨_,rfl,rngN (by split<;>lia) (by split<;>lia),?_⟩;refine zdo (λi σ s=>∃v1 v2 v3 v4 v5 v6 v7 v8 v9:Option D,σ=[some (.scr (ns.map .int)),v1,v2,v3,v4,v5,v6,v7,v8,v9]) ⟨_,_,_,_,_,_,_,_,_,rfl⟩ ?_ ?_
  ·rintro i x σ s hx ⟨v1,v2,v3,v4,v5,v6,v7,v8,v9,rfl⟩;obtain⟨hi,rfl⟩:=zjs hx;have hi2:i<=3:=by split at hi<;>lia
   refine⟨_,rfl,?_⟩;unfold zxh;rw[xhe];refine first62 hl hi2 λN p d l s1 n dr hb=>?_
   refine zfm (R:=λfl s'=>fl=.nx [some (.scr (ns.map .int)),some (.int (i:Int)),some (.ref n),some (.int N),some (.int p),some (.int d),some (aK l),v7,v8,v9]/\BagAt s' n) (zben dr λg=>⟨rfl,(Drew.more hb g).bag⟩) ?_;rintro _ s2 ⟨rfl,hb⟩;show WP _ _;refine zfm (R:=λfl s'=>fl=.nx [some (.scr (ns.map .int)),some (.int (i:Int)),some (.ref n),some (.int N),some (.int p),some (.int d),some (aK l),some (aK (aO (raiseL (2 * p) l))),v8,v9]/\BagAt s' n) ?_ ?_
   ·simp only[W,V];exact⟨.inl ⟨by decide,by decide⟩,raise62 dr (by have:=dr.p0;lia) dr.of.few dr.of.rows (λr hr=>Int.le_of_eq (dr.of.sum r hr)) λg=>⟨rfl,(Drew.more hb g).bag⟩⟩
   rintro _ s3 ⟨rfl,hb⟩;show WP _ _;refine zfm (R:=λfl s'=>fl=.nx [some (.scr (ns.map .int)),some (.int (i:Int)),some (.ref n),some (.int N),some (.int p),some (.int d),some (aK l),some (aK (aO (raiseL (2 * p) l))),v8,v9]/\BagAt s' n) (zzz dr λg=>⟨rfl,(Drew.more hb g).bag⟩) ?_;rintro _ s4 ⟨rfl,hb⟩;show WP _ _;refine zfm (R:=λfl s'=>fl=.nx [some (.scr (ns.map .int)),some (.int (i:Int)),some (.ref n),some (.int N),some (.int p),some (.int d),some (aK l),some (aK (aO (raiseL (2 * p) l))),v8,v9]/\BagAt s' n) (zsh dr λg=>⟨rfl,(Drew.more hb g).bag⟩) ?_;rintro _ s5 ⟨rfl,hb⟩;show WP _ _;refine zfm (R:=λfl s'=>∃m d',fl=.nx [some (.scr (ns.map .int)),some (.int (i:Int)),some (.ref n),some (.int N),some (.int p),some (.int d),some (aK l),some (aK (aO (raiseL (2 * p) l))),some (.int m),v9]/\BagAt s' n/\0<=d'/\d' < 5/\m=1+d') ?_ ?_
   ·simp only[W,V];refine zfc hb (by lia) (by lia) λa s6 a0 a1 D6=>?_
    simp only[W,V];exact⟨_,_,rfl,D6.bag,a0,a1,rfl⟩
   rintro _ s6 ⟨m,a,rfl,hb,a0,a1,rfl⟩;show WP _ _;have f5:=zbkt a0 a1;refine zfm (R:=λfl s'=>∃d',fl=.nx [some (.scr (ns.map .int)),some (.int (i:Int)),some (.ref n),some (.int N),some (.int p),some (.int d),some (aK l),some (aK (aO (raiseL (2 * p) l))),some (.int (1+a)),some (.int d')]/\0<=d'/\2 * d'+(1+a)<=mostD (1+a)) ?_ ?_
   ·simp only[W,V];refine⟨small _ (by simp),?_⟩;rw[show 1+a - 1=a by lia];refine⟨trivial,zof (xs:=[12,12,8,3,1]) a0 a1 ?_⟩;refine zfc hb (by lia) (by have:=(zft (N:=1+a) (by lia) (by lia)).2.1;split at this<;>lia) λd' s7 e0 e1 D7=>?_
    exact⟨_,rfl,e0,by lia⟩
   rintro _ s7 ⟨d',rfl,e0,e1⟩;show WP _ _;refine zwh (by lia) (by lia) e0 e1 λs8=>?_
   simp only[L];exact⟨_,_,_,_,_,_,_,_,_,rfl⟩
  ·rintro σ s ⟨v1,v2,v3,v4,v5,v6,v7,v8,v9,rfl⟩;simp only[W,V]
 obtain⟨a,st',e,rfl⟩:=key.get;exact⟨st',e⟩
end
end Dd
namespace K62
theorem holds:∀ns:List Int,ns.length<=63->∃st',Dd.zbsd [.scr (ns.map .int)] []=.ok (.bl true) st':=λns hl=>Dd.zzs ns hl
end K62
namespace K62
open PySem L2 Dd
noncomputable def top (i:Nat):Stmt:=PySem.Challenge.pw_raisedsums_k62_whole_halving.main.body.getD i (.Pass ⟨0,0,0,0⟩)
section
theorem zsa {Y:En}(T:TopF Y.K "_law_bag" (top 45))(Ac:Y.mg "len"=none)(z_abs:Y.mg "abs"=none)(Ah:Y.mg "min"=none)(Ab:Y.mg "range"=none):Cl Y "_law_bag" 1 ["_law_script","_law_at"] zew:=cmk ["_law_script","_law_at","_law_cell","_law_mix","_law_k"] T λnd f cdv A outer s H E hr=>(zb (sst nd zd)
 (zb (zce (zu (zue hr.units0) zuo sv (zp zbc zlw rfl Ac zlu (sa1 sv)) (nomark _)) (zc (sst nd (zp zbgn zbrx rfl z_abs zbrm (sa1 (zfi sv sv (λ_ _=>rfl)))))) zbh)
 (zb (sst nd (sad (zcf zhn (oI_D λ_ _ _ _=>.int _) zd sv) zd))
 (zb (sfr (zcp rfl Ab (sa1 (zp (zls rfl) zbry rfl Ah zbgp (sa2 (zp zbc zlw rfl Ac zlu (sa1 sv)) zd)))) (sgn nd)
 (zc (sst nd (zcf zkt (oI_D λ_ _ _ _=>.int _) (sad (sad (zcf zhn (oI_D λ_ _ _ _=>.int _) sv zd) (zcf zkt (oI_D λ_ _ _ _=>.int _) (zfi sv sv (λ_ _=>rfl)) zd)) sv) zd))))
 (zb (zce (zu (zue hr.units0) zuo sv (zcf zbow (oI_D λ_ _ _ _=>.int _) zd zd) (nomark _)) (zc (sst nd zd)) zbh)
 (zc (zj (zeg (sa2 sv sv)))))))))
theorem zok {Y:En}(T:TopF Y.K "_law_take" (top 46))  : Cl Y "_law_take" 1 ["_law_bag_here","_law_many"] zo:=cmk ["_law_bag_here","_law_many","_law_digit","_law_number","_law_room"] T λnd f cdv A outer s H E hr=>(zb (zce (zu zbel (zfa λ_ _ _ _=>.bl _) (zfi sv zd (λ_ _=>rfl)) zd (nomark _)) (zb (sst nd (zcf zkt (oI_D λ_ _ _ _=>.int _) (zfi sv zd (λ_ _=>rfl)) sv))
 (zb (zqt (zcf ziq (oI_D λ_ _ _ _=>.int _) (zfi sv zd (λ_ _=>rfl)) sv) sv zd)
 (zc (zj sv)))) zbh)
 (zb (sst nd zd)
 (zb (sst nd zd)
 (zb (zfx xhn (zu (zue hr.units0) zuo sv sv (nomark _)) (zb (zqt (zcf zkt (oI_D λ_ _ _ _=>.int _) (sad (zcf zhn (oI_D λ_ _ _ _=>.int _) (zfi sv zd (λ_ _=>rfl)) zd) zd) zd) sv zd)
 (zb (sst nd (sad (zcf zhn (oI_D λ_ _ _ _=>.int _) sv zd) (zcf zkt (oI_D λ_ _ _ _=>.int _) (zcf zhn (oI_D λ_ _ _ _=>.int _) (zcf ziq (oI_D λ_ _ _ _=>.int _) (zfi sv zd (λ_ _=>rfl)) zd) zd) zd)))
 (zc (sst nd (zcf zhn (oI_D λ_ _ _ _=>.int _) sv zd))))))
 (zc (zj (zcf zkt (oI_D λ_ _ _ _=>.int _) sv sv)))))))
theorem zrz {Y:En}(T:TopF Y.K "_law_odd" (top 47))(Ad:Y.mg "sorted"=none)(Aa:Y.mg "tuple"=none):Cl Y "_law_odd" 1 ["_law_things"] zbn:=cmk ["_law_things","_law_odd_here","_law_thing"] T λnd f cdv A outer s H E hr=>(zb (sst nd zqw)
 (zb (sfr (zba sv) (sgn nd)
 (zc (zoz (zov hr) sv sv (zbln (zbgh (zov hr) sv sv zbcm ⟨rfl,rfl,rfl,rfl⟩)) rfl)))
 (zc (zj (zbk zx zds rfl Aa zcz (sa1 (zp (zfj rfl hr.units) zlv rfl Ad zeu (sa1 (zga rfl (zbgb sv) (λ_ _ _ _ _=>(zbt (i:=0) (show(["_law_thing","_law_odd_here"]:List Str).Nodup from by decide +kernel) rfl (Or.inl rfl))) (λ_ _ _ _ _=>(zfh (zdf (zwd (zov hr) sv sv (λ_ _=>rfl))))) (λ_ _ _ _ _=>sv) (N:=["_law_thing","_law_odd_here"]) (k:=1) (is:=[1]) (zfd (by rfl)))))))))))
theorem zhp {Y:En}(T:TopF Y.K "_law_of_degree" (top 48))(Ab:Y.mg "range"=none)(z_max:Y.mg "max"=none)(Aa:Y.mg "tuple"=none)(Ae:Cl Y "_law_take" 1 ["_law_bag_here","_law_many"] zo):Cl Y "_law_of_degree" 2 ["_law_bag_here","_law_n","_law_d"] zbg:=cmk ["_law_bag_here","_law_n","_law_d","_law_left","_law_exponents","_law_fork","_law_k","_law_e","_law_at"] T λnd f cdv A outer s H E hr=>(zb (sst nd sv)
  (zb (sst nd (zeg zbm))
  (zb (sst nd (scl Ae hr (sa2 sv zd)))
  (zb (sfr (zcp rfl Ab (sa1 (ssb sv zd))) (sgn nd)
  (zb (sst nd (scl Ae hr (sa2 sv (sad sv zd))))
  (zb (zce (zu (zku hr.units) zsb sv zd (nomark _)) (zc (sst nd (zp (zbao rfl) zbmp rfl z_max zbrl (sa1 (zga rfl (zba (zcq (zg zd (zg zd (zg zd (sa2 zd zd)))))) (λ_ _ _ _ _=>(zbt (i:=0) (show(["_law_x","_law_e"]:List Str).Nodup from by decide +kernel) rfl (Or.inl rfl))) (λ_ _ _ _ _=>(zfh (zu zyv (zfa λ_ _ _ _=>.bl _) sv sv (nomark _)))) (λ_ _ _ _ _=>sv) (N:=["_law_x","_law_e"]) (k:=1) (is:=[7]) (zfd (by rfl))))))) zbh)
  (zb (zbq (zcw sv (sa1 sv)))
  (zc (sst nd (ssb sv sv)))))))
  (zb (zbq (zcw sv (sa1 sv)))
  (zb (sst nd (scl Ae hr (sa2 sv sv)))
  (zc (zj (zbk zx zds rfl Aa zcz (sa1 (sad (zbqx sv (zpa sv) zpb) (zbqx sv zpb (zpa sv)))))))))))))
theorem zky {Y:En}(T:TopF Y.K "_law_sum_of" (top 49))(Ab:Y.mg "range"=none)(Ai:Cl Y "_law_odd" 1 ["_law_things"] zbn)(Ae:Cl Y "_law_take" 1 ["_law_bag_here","_law_many"] zo)(An:Cl Y "_law_of_degree" 2 ["_law_bag_here","_law_n","_law_d"] zbg):Cl Y "_law_sum_of" 3 ["_law_bag_here","_law_n","_law_d","_law_many"] zdu:=cmk ["_law_bag_here","_law_n","_law_d","_law_many"] T λnd f cdv A outer s H E hr=>(zc (zj (scl Ai hr (sa1 (scp ["_law_k","_law_bag_here","_law_n","_law_d"] (zcp rfl Ab (sa1 (scl Ae hr (sa2 sv (sad sv zd))))) (λ_ _ _ _ _=>(scl An hr (zg sv (sa2 sv sv)))))))))
theorem zol {Y:En}(T:TopF Y.K "_law_some" (top 51))(z_list:Y.mg "list"=none)(Ab:Y.mg "range"=none)(Aa:Y.mg "tuple"=none)(Az:Cl Y "_law_sum_of" 3 ["_law_bag_here","_law_n","_law_d","_law_many"] zdu)(Ae:Cl Y "_law_take" 1 ["_law_bag_here","_law_many"] zo)(An:Cl Y "_law_of_degree" 2 ["_law_bag_here","_law_n","_law_d"] zbg)(Ai:Cl Y "_law_odd" 1 ["_law_things"] zbn):Cl Y "_law_some" 4 ["_law_bag_here","_law_n","_law_d"] zep:=cmk ["_law_bag_here","_law_n","_law_d","_law_found","_law_turn"] T λnd f cdv A outer s H E hr=>(zb (sst nd (zbk zpi zbgs rfl z_list zbmi (sa1 (scl Az hr (zg sv (zg sv (sa2 sv zd)))))))
 (zb (zce (JW.pt (zng (zu (zku hr.units) zsb (zcf zkt (oI_D λ_ _ _ _=>.int _) (ssb sv sv) zd) zd (nomark _)) (zjb (zu zbpa (zfa λ_ _ _ _=>.bl _) sv sv (nomark _)) (by first | exact Or.inl rfl | exact Or.inr rfl)))) (zc (sfr (zcp rfl Ab (sa1 (scl Ae hr (sa2 sv zd)))) (sgn nd)
 (zc (zbq (zcw sv (sa1 (zbk zx zds rfl Aa zcz (sa1 (scp ["_law_e"] (zba (scl An hr (zg sv (sa2 sv (zcf ziq (oI_D λ_ _ _ _=>.int _) (ssb sv sv) zd))))) (λ_ _ _ _ _=>(sad (zcf zhn (oI_D λ_ _ _ _=>.int _) zd sv) zd))))))))))) zbh)
 (zc (zj (scl Ai hr (sa1 (zxi sv)))))))
theorem zkz {Y:En}(T:TopF Y.K "_law_raised" (top 50))(Ah:Y.mg "min"=none)(Ab:Y.mg "range"=none)(Ai:Cl Y "_law_odd" 1 ["_law_things"] zbn):Cl Y "_law_raised" 2 ["_law_some_here","_law_k"] zbe:=cmk ["_law_some_here","_law_k","_law_found","_law_product","_law_ways","_law_e","_law_further","_law_grown","_law_left"] T λnd f cdv A outer s H E hr=>(zb (sst nd (zeg zbm))
 (zb (sfr (zba sv) (sgn nd)
 (zb (sst nd (zlp (sa1 (zcq (sa2 (zcq zbm) sv)))))
 (zb (sfr (zba sv) (sgn nd)
 (zb (sst nd (zeg zbm))
 (zb (sfr (zba sv) (zfz rfl (zw (sgn nd) (zw (sgn nd) zdr)))
 (zc (zbq (zhy sv (sa1 (zga rfl (zcp rfl Ab (sa1 (sad (zp (zls rfl) zbry rfl Ah zbgp (sa2 sv sv)) zd))) (λ_ _ _ _ _=>(zbt (i:=0) (show(["_law_j","_law_grown","_law_left","_law_e"]:List Str).Nodup from by decide +kernel) rfl (Or.inl rfl))) (λ_ _ _ _ _=>(zfh (zu (zku hr.units) zsb (zcf zrt (zfa λ_ _ _ _=>.int _) sv sv) sv (nomark _)))) (λ_ _ _ _ _=>(zcq (sa2 (sad sv (zcq (sa1 (sad sv sv)))) (ssb sv sv)))) (N:=["_law_j","_law_grown","_law_left","_law_e"]) (k:=1) (is:=[7,8,5]) (zfd (by rfl))))))))
 (zc (sst nd (zxi sv))))))
 (zc (zbq (zhy sv (sa1 (zga rfl (zba sv) (λ_ _ _ _ _=>(zfz rfl (zw (zbt (i:=0) (show(["_law_grown","_law_left"]:List Str).Nodup from by decide +kernel) rfl (Or.inl rfl)) (zw (zbt (i:=1) (show(["_law_grown","_law_left"]:List Str).Nodup from by decide +kernel) rfl (Or.inl rfl)) zdr)))) (λ_ _ _ _ _=>(zfh (zu (zku hr.units) zsb sv zd (nomark _)))) (λ_ _ _ _ _=>sv) (N:=["_law_grown","_law_left"]) (k:=2) (is:=[]) (zfd (by rfl))))))))))
 (zc (zj (scl Ai hr (sa1 (zxi sv)))))))
theorem zuk {Y:En}(T:TopF Y.K "all_odd" (top 1))(Ao:Y.mg "all"=none):Cl Y "all_odd" 1 ["product"] zib:=cmk ["product"] T λnd f cdv A outer s H E hr=>(zc (zj (zp (zwn rfl) zbmq rfl Ao zbmk (sa1 (scp ["e"] (zba sv) (λ_ _ _ _ _=>(zpd (zku hr.units) zsb (zcf zkt (oI_D λ_ _ _ _=>.int _) sv zd) zd (nomark _))))))))
theorem zza {Y:En}(T:TopF Y.K "halved" (top 2))(Aa:Y.mg "tuple"=none)(A0:Cl Y "all_odd" 1 ["product"] zib):Cl Y "halved" 2 ["some"] zcu:=cmk ["some"] T λnd f cdv A outer s H E hr=>(zc (zj (zbk zx zds rfl Aa zcz (sa1 (zga rfl (zba sv) (λ_ _ _ _ _=>(zbt (i:=0) (show(["product"]:List Str).Nodup from by decide +kernel) rfl (Or.inl rfl))) (λ_ _ _ _ _=>(zfh (zdf (scl A0 hr (sa1 sv))))) (λ_ _ _ _ _=>(zbk zx zds rfl Aa zcz (sa1 (scp ["e"] (zba sv) (λ_ _ _ _ _=>(zcf ziq (oI_D λ_ _ _ _=>.int _) sv zd)))))) (N:=["product"]) (k:=1) (is:=[]) (zfd (by rfl)))))))
theorem zbl:FnScope ["n","d","told","e"] ["n","d"] (defScope (top 26)):=⟨rfl,rfl,rfl,by decide +kernel,rfl,by decide +kernel,by decide +kernel⟩
theorem zdx {Y:En}   (hj:1<=j)(hself:∀ ds au v st', fF ds au=.ok v st'->ds.length=2)(T:TopF Y.K "products_of_degree" (top 26))(Ab:Y.mg "range"=none)(Ag:Cl Y "products_of_degree" j ["n","d"] fF):Cl Y "products_of_degree" (j + 1) ["n","d"] (zi fF) :=
 have nd:=zbl.nd
 zwp (k:=j) T Y.X Y.G zbl (λ_ _ _ _ _ _ us hl=>len2 us hl λ_ _=>rfl) λf cdv A outer s H E hr=>(zb (zce (zu (zku hr.units) zsb (zjd (pv 0)) zd (nomark _)) (zc (zj (zlp (zg (zcq (zg (zjd (pv 1)) zbm)) zbm)))) zbh)
 (zb (zbcf (i:=2) nd rfl (Or.inl rfl) (zeg zbm))
 (zb (zbcg xhn rfl (zcp rfl Ab (zg (zcf zug zbeo (zjd (pv 1)) zd) zbm)) (zbt (i:=3) nd rfl (Or.inr rfl))
 (zc (zbq (zhy (zjd (pv 2)) (zg (zga rfl (zba (zbcl Ag hself hr rfl (zg (zcf zbek (zfa λ_ _ _ _=>.int _) (zjd (pv 0)) zd) (zg (zcf zbek (zfa λ_ _ _ _=>.int _) (zjd (pv 1)) (zjd (pv 3))) zbm)))) (λ_ _ _ _ _=>(zbt (i:=0) (show(["rest","e"]:List Str).Nodup from by decide +kernel) rfl (Or.inl rfl))) (λ_ _ _ _ _=>zpc) (λ_ _ _ _ _=>(zcf zug zbeo (zcq (zg (zjd (pv 1)) zbm)) (zjd (pv 0)))) (N:=["rest","e"]) (k:=1) (is:=[3]) (zfd (by rfl))) zbm)))))
 (zc (zj (zxi (zjd (pv 2))))))))
theorem zey {Y:En}(T:TopF Y.K "products_of_degree" (top 26))(Ab:Y.mg "range"=none):Cl Y "products_of_degree" 11 ["n","d"] (iterF zi 10):=CalD.iter (L:=1) (zwo T Y.X Y.G zbl (λ_ _ _ _ _ _ us hl=>len2 us hl λ_ _=>rfl)) (λ_ _ _ _ _ h=>zbca h) (λF j hj hs c=>zdx hj hs T Ab c) 10
theorem zkx {Y:En}(T:TopF Y.K "most_degree" (top 24))  (m_FEW_LETTERS:Y.mg "FEW_LETTERS"=some (.int 3 k_FEW_LETTERS)):Cl Y "most_degree" 1 ["n"] zeo:=cmk ["n"] T λnd f cdv A outer s H E hr=>(zc (zj (zbsy (zu zyv (zfa λ_ _ _ _=>.bl _) sv (zwe (zbbb (v:=.int 3) rfl m_FEW_LETTERS ⟨_,rfl⟩) (λ_ _=>.int _)) (nomark _)) zd zd)))
theorem zez {Y:En}(T:TopF Y.K "number_of_products" (top 25))(Ab:Y.mg "range"=none):Cl Y "number_of_products" 1 ["n","d"] zbd:=cmk ["n","d","told","i"] T λnd f cdv A outer s H E hr=>(zb (sst nd zd)
 (zb (sfr (zvy rfl Ab (sa2 zd sv)) (sgn nd)
 (zc (sst nd (zcf ziq (oI_D λ_ _ _ _=>.int _) (zcf zbjk (oI_D λ_ _ _ _=>.int _) sv (sad sv sv)) sv))))
 (zc (zj sv))))
theorem zis {Y:En}(T:TopF Y.K "can_be_judged" (top 27))  (m_MOST_JUDGED:Y.mg "MOST_JUDGED"=some (.int 200 k_MOST_JUDGED))(A1:Cl Y "number_of_products" 1 ["n","d"] zbd)(A2:Cl Y "most_degree" 1 ["n"] zeo):Cl Y "can_be_judged" 2 ["n","d"] zca:=cmk ["n","d"] T λnd f cdv A outer s H E hr=>(zc (zj (zbgl (zpd zyv (zfa λ_ _ _ _=>.bl _) sv (scl A2 hr (sa1 sv)) (nomark _)) (zbgf (zpd zyv (zfa λ_ _ _ _=>.bl _) (scl A1 hr (sa2 sv sv)) (zwe (zbbb (v:=.int 200) rfl m_MOST_JUDGED ⟨_,rfl⟩) (λ_ _=>.int _)) (nomark _))))))
theorem zuj {Y:En}(T:TopF Y.K "bounded" (top 30))(A3:Cl Y "can_be_judged" 2 ["n","d"] zca):Cl Y "bounded" 3 ["n","d"] zex:=cmk ["n","d"] T λnd f cdv A outer s H E hr=>(zb (zce (znh (zdf (scl A3 hr (sa2 sv sv)))) (zc zfy) zbh)
 (zc (zj sv)))
theorem zjm {Y:En}(T:TopF Y.K "parts_enough" (top 33))  : Cl Y "parts_enough" 1 ["d"] zci:=cmk ["d","told","k"] T λnd f cdv A outer s H E hr=>(zb (sst nd (zeg zbm))
 (zb (sst nd zd)
 (zb (zfx xhn (zu zyv (zfa λ_ _ _ _=>.bl _) (zcf zhn (oI_D λ_ _ _ _=>.int _) zd sv) sv (nomark _)) (zb (zbq (zcw sv (sa1 sv)))
 (zc (sst nd (zcf zhn (oI_D λ_ _ _ _=>.int _) zd sv)))))
 (zc (zj (zxi sv))))))
theorem zgl {Y:En}(T:TopF Y.K "raised_products" (top 34))(A4:Cl Y "parts_enough" 1 ["d"] zci)(Ag:Cl Y "products_of_degree" 11 ["n","d"] (iterF zi 10)):Cl Y "raised_products" 12 ["n","d"] zbp:=cmk ["n","d","told","k"] T λnd f cdv A outer s H E hr=>(zb (sst nd (zeg zbm))
 (zb (sfr (zba (scl A4 hr (sa1 sv))) (sgn nd)
 (zc (zbq (zhy sv (sa1 (scp ["product","k"] (zba (scl Ag hr (sa2 sv (ssb sv sv)))) (λ_ _ _ _ _=>(zcq (sa2 sv sv)))))))))
 (zc (zj (zxi sv)))))
theorem zrx {Y:En}(T:TopF Y.K "lessened" (top 37))  : Cl Y "lessened" 1 ["leads","number"] zdl:=cmk ["leads","number","used","two"] T λnd f cdv A outer s H E hr=>(zb (sst nd zd)
 (zb (zfx xhn (JW.pt (zng (zdf sv) (zjb (zbft (zbjc (zov hr) (zqx sv) sv)) (by first | exact Or.inl rfl | exact Or.inr rfl)))) (zb (sst nd (zwb (zov hr) sv (zqx sv) (λ_ _=>rfl)))
 (zb (sst nd (zcf zbji (zfa λ_ _ _ _=>.int _) sv (zfi sv zd (λ_ _=>rfl))))
 (zc (sst nd (zcf zbji (zfa λ_ _ _ _=>.int _) sv (zfi sv zd (λ_ _=>rfl))))))))
 (zc (zj (zcq (sa2 sv sv))))))
theorem zoi {Y:En}(T:TopF Y.K "as_number" (top 36))  : Cl Y "as_number" 1 ["places","some"] zcm:=cmk ["places","some","told","product"] T λnd f cdv A outer s H E hr=>(zb (sst nd zd)
 (zb (sfr (zba sv) (sgn nd)
 (zc (sst nd (zcf zbox (zfa λ_ _ _ _=>.int _) sv (zcf zyt (oI_D λ_ _ _ _=>.int _) zd (zwd (zov hr) sv sv (λ_ _=>rfl)))))))
 (zc (zj sv))))
theorem zry {Y:En}(T:TopF Y.K "is_whole" (top 10))(z_bool:Y.mg "bool"=none)(Am:Y.mg "isinstance"=none)(Al:Y.mg "int"=none):Cl Y "is_whole" 1 ["thing"] zcc:=cmk ["thing"] T λnd f cdv A outer s H E hr=>(zc (zj (zbgl (zp zgu zlx rfl Am zei (sa2 sv (zwe (zty (v:=.ty "int") rfl Al zbaq rfl) (λ_ _=>.ty _)))) (zbgf (zbln (zp zgu zlx rfl Am zei (sa2 sv (zwe (zty (v:=.ty "bool") rfl z_bool zbmj rfl) (λ_ _=>.ty _)))))))))
theorem zyx {Y:En}(T:TopF Y.K "shares" (top 14))  : Cl Y "shares" 1 ["e","least","most"] zlz:=cmk ["e","least","most","told","j"] T λnd f cdv A outer s H E hr=>(zb (sst nd (zeg zbm))
 (zb (sst nd zd)
 (zb (zfx xhn (zu zyv (zfa λ_ _ _ _=>.bl _) sv sv (nomark _)) (zb (zce (zu zbpa (zfa λ_ _ _ _=>.bl _) sv sv (nomark _)) (zc (zbq (zcw sv (sa1 sv)))) zbh)
 (zb (zce (zu (zku hr.units) zsb sv sv (nomark _)) (zc zbac) zbh)
 (zc (sst nd (zcf zrt (zfa λ_ _ _ _=>.int _) (ssb sv sv) sv))))))
 (zc (zj (zxi sv))))))
theorem zir {Y:En}(T:TopF Y.K "letter_raised" (top 15))(A5:Cl Y "shares" 1 ["e","least","most"] zlz):Cl Y "letter_raised" 2 ["partly","e","rest"] zbz:=cmk ["partly","e","rest","told","made","left","j"] T λnd f cdv A outer s H E hr=>(zb (sst nd (zeg zbm))
 (zb (sfr (zba sv) (zfz rfl (zw (sgn nd) (zw (sgn nd) zdr)))
 (zc (sfr (zba (scl A5 hr (zg sv (sa2 (ssb sv sv) sv)))) (sgn nd)
 (zc (zbq (zcw sv (sa1 (zcq (sa2 (sad sv (zcq (sa1 (sad sv sv)))) (ssb sv sv))))))))))
 (zc (zj (zxi sv)))))
theorem zho {Y:En}(T:TopF Y.K "product_raised" (top 16))(Aj:Y.mg "sum"=none)(A6:Cl Y "letter_raised" 2 ["partly","e","rest"] zbz):Cl Y "product_raised" 3 ["product","k"] zbu:=cmk ["product","k","partly","rest","e"] T λnd f cdv A outer s H E hr=>(zb (sst nd (zlp (sa1 (zcq (sa2 (zcq zbm) sv)))))
 (zb (sst nd (zp (zlq rfl) zbgr rfl Aj zbgo (sa1 sv)))
 (zb (sfr (zba sv) (sgn nd)
 (zb (zbch (i:=3) nd rfl (Or.inl rfl) sv zbpw ip_D)
 (zc (sst nd (scl A6 hr (zg sv (sa2 sv sv)))))))
 (zc (zj (zga rfl (zba sv) (λ_ _ _ _ _=>(zfz rfl (zw (zbt (i:=0) (show(["made","left"]:List Str).Nodup from by decide +kernel) rfl (Or.inl rfl)) (zw (zbt (i:=1) (show(["made","left"]:List Str).Nodup from by decide +kernel) rfl (Or.inl rfl)) zdr)))) (λ_ _ _ _ _=>zpc) (λ_ _ _ _ _=>sv) (N:=["made","left"]) (k:=2) (is:=[]) (zfd (by rfl))))))))
theorem zbjn {Y:En}(T:TopF Y.K "flip" (top 11))  : Cl Y "flip" 1 ["kept","thing"] zpp:=cmk ["kept","thing"] T λnd f cdv A outer s H E hr=>(zc (zce (zbft (zbou (zov hr) sv sv)) (zc (zbq (zblq (zov hr) sv sv ⟨rfl,rfl,rfl,rfl⟩))) (zc (zoz (zov hr) sv sv zbcm rfl))))
theorem zyy {Y:En}(T:TopF Y.K "raised" (top 17))(Aj:Y.mg "sum"=none)(Ad:Y.mg "sorted"=none)(Aa:Y.mg "tuple"=none)(Ak:Cl Y "is_whole" 1 ["thing"] zcc)(A7:Cl Y "product_raised" 3 ["product","k"] zbu)(Ap:Cl Y "flip" 1 ["kept","thing"] zpp):Cl Y "raised" 4 ["some","k"] zma:=cmk ["some","k","kept","product","made"] T λnd f cdv A outer s H E hr=>(zb (zce (JW.pt (zbfr (znh (zdf (scl Ak hr (sa1 sv)))) (zjb (zu (zue hr.units0) zuo sv zd (nomark _)) (by first | exact Or.inl rfl | exact Or.inr rfl)))) (zc zfy) zbh)
 (zb (sst nd zqw)
 (zb (sfr (zba sv) (sgn nd)
 (zc (zce (zu zyv (zfa λ_ _ _ _=>.bl _) sv (zp (zlq rfl) zbgr rfl Aj zbgo (sa1 sv)) (nomark _)) (zc (sfr (zba (scl A7 hr (sa2 sv sv))) (sgn nd)
 (zc (zbq (scl Ap hr (sa2 sv sv)))))) zbh)))
 (zc (zj (zbk zx zds rfl Aa zcz (sa1 (zp (zfj rfl hr.units) zlv rfl Ad zeu (sa1 sv)))))))))
theorem zoj {Y:En}(T:TopF Y.K "all_leads" (top 38))(Ac:Y.mg "len"=none)(A8:Cl Y "raised_products" 12 ["n","d"] zbp)(Aq:Cl Y "lessened" 1 ["leads","number"] zdl)(Ar:Cl Y "as_number" 1 ["places","some"] zcm)(A9:Cl Y "raised" 4 ["some","k"] zma):Cl Y "all_leads" 13 ["n","d","places"] zcn:=cmk ["n","d","places","leads","sources","k","product","left"] T λnd f cdv A outer s H E hr=>(zb (sst nd zwc)
 (zb (sst nd (zeg zbm))
 (zb (sfr (zba (scl A8 hr (sa2 sv sv))) (zfz rfl (zw (sgn nd) (zw (sgn nd) zdr)))
 (zb (sst nd (scl Aq hr (sa2 sv (scl Ar hr (sa2 sv (scl A9 hr (sa2 (zcq (sa1 sv)) sv)))))))
 (zc (zce (zdf (zfi sv zd (λ_ _=>rfl))) (zb (zbfy (zov hr) sv (zqx (zfi sv zd (λ_ _=>rfl))) (zcq (sa2 (zfi sv zd (λ_ _=>rfl)) (zcf zbox (zfa λ_ _ _ _=>.int _) (zfi sv zd (λ_ _=>rfl)) (zcf zyt (oI_D λ_ _ _ _=>.int _) zd (zp zbc zlw rfl Ac zlu (sa1 sv)))))) rfl)
 (zc (zbq (zcw sv (sa1 (zcq (sa2 sv sv))))))) zbh))))
 (zc (zj (zcq (sa2 sv (zxi sv))))))))
theorem zjo {Y:En}(T:TopF Y.K "degree_asked" (top 31))(Ak:Cl Y "is_whole" 1 ["thing"] zcc):Cl Y "degree_asked" 2 ["d"] zbo:=cmk ["d"] T λnd f cdv A outer s H E hr=>(zb (zce (JW.pt (zbfr (znh (zdf (scl Ak hr (sa1 sv)))) (zjb (zu (zue hr.units0) zuo sv zd (nomark _)) (by first | exact Or.inl rfl | exact Or.inr rfl)))) (zc zfy) zbh)
 (zc (zj sv)))
theorem zoh {Y:En}(T:TopF Y.K "places_of" (top 35))(Af:Y.mg "enumerate"=none):Cl Y "places_of" 1 ["products"] zcl:=cmk ["products","told","place","product"] T λnd f cdv A outer s H E hr=>(zb (sst nd zqw)
 (zb (sfr (zhx rfl Af sv) (zfz rfl (zw (sgn nd) (zw (sgn nd) zdr)))
 (zc (zoz (zov hr) sv sv sv rfl)))
 (zc (zj sv))))
theorem zru {Y:En}(T:TopF Y.K "standing" (top 42))(Af:Y.mg "enumerate"=none)(Ag:Cl Y "products_of_degree" 11 ["n","d"] (iterF zi 10))(As:Cl Y "bounded" 3 ["n","d"] zex)(Ba:Cl Y "degree_asked" 2 ["d"] zbo)(Au:Cl Y "all_leads" 13 ["n","d","places"] zcn)(Av:Cl Y "places_of" 1 ["products"] zcl):Cl Y "standing" 14 ["n","d"] zev:=cmk ["n","d","products","leads"] T λnd f cdv A outer s H E hr=>(zb (sst nd (scl Ag hr (sa2 sv (scl As hr (sa2 sv (scl Ba hr (sa1 sv)))))))
 (zb (sst nd (zfi (scl Au hr (zg sv (sa2 sv (scl Av hr (sa1 sv))))) zd (λ_ _=>rfl)))
 (zc (zj (zbgi rfl (zhx rfl Af sv) (λ_ _ _ _ _=>(zfz rfl (zw (zbt (i:=0) (show(["place","product","leads"]:List Str).Nodup from by decide +kernel) rfl (Or.inl rfl)) (zw (zbt (i:=1) (show(["place","product","leads"]:List Str).Nodup from by decide +kernel) rfl (Or.inl rfl)) zdr)))) (λ_ _ _ _ _=>(zfh (zbft (ztz (zov hr) (sad sv zd) sv)))) (λ_ _ _ _ _=>sv) (N:=["place","product","leads"]) (k:=2) (is:=[3]) (zfd (by rfl)))))))
theorem zjl {Y:En}(T:TopF Y.K "rows_counted" (top 43))(Ac:Y.mg "len"=none)(Bb:Cl Y "standing" 14 ["n","d"] zev):Cl Y "rows_counted" 15 ["n","d"] zy:=cmk ["n","d"] T λnd f cdv A outer s H E hr=>(zc (zj (zp zbc zlw rfl Ac zlu (sa1 (scl Bb hr (sa2 sv sv))))))
theorem zui {Y:En}(T:TopF Y.K "degrees" (top 23))(Aj:Y.mg "sum"=none)(Ad:Y.mg "sorted"=none)(z_set:Y.mg "set"=none):Cl Y "degrees" 1 ["some"] zia:=cmk ["some"] T λnd f cdv A outer s H E hr=>(zc (zj (zbul rfl zsm rfl Ad zeu rfl z_set zbrk (sa1 (scp ["product"] (zba sv) (λ_ _ _ _ _=>(zp (zlq rfl) zbgr rfl Aj zbgo (sa1 sv))))))))
theorem zmt {Y:En}(T:TopF Y.K "one_degree" (top 32))(Ac:Y.mg "len"=none)(Bc:Cl Y "degrees" 1 ["some"] zia)(As:Cl Y "bounded" 3 ["n","d"] zex):Cl Y "one_degree" 4 ["n","some"] zct:=cmk ["n","some","told"] T λnd f cdv A outer s H E hr=>(zb (sst nd (scl Bc hr (sa1 sv)))
 (zb (zce (zu zbel (zfa λ_ _ _ _=>.bl _) (zp zbc zlw rfl Ac zlu (sa1 sv)) zd (nomark _)) (zc zfy) zbh)
 (zc (zj (zbsy (zdf sv) (scl As hr (sa2 sv (zfi sv zd (λ_ _=>rfl)))) zblp)))))
theorem zjn {Y:En}(T:TopF Y.K "ones_counted" (top 29))  : Cl Y "ones_counted" 1 ["number"] zdt:=cmk ["number","told"] T λnd f cdv A outer s H E hr=>(zb (sst nd zd)
 (zb (zfx xhn (zdf sv) (zb (sst nd (zcf zrt (zfa λ_ _ _ _=>.int _) sv (ssb sv zd)))
 (zc (zbch (i:=1) nd rfl (Or.inl rfl) zd zbpx ip_D))))
 (zc (zj sv))))
theorem zkw {Y:En}(T:TopF Y.K "row_against" (top 40))(Ad:Y.mg "sorted"=none)(Bd:Cl Y "ones_counted" 1 ["number"] zdt):Cl Y "row_against" 2 ["leads","length"] zem:=cmk ["leads","length","row","longer"] T λnd f cdv A outer s H E hr=>(zb (sst nd (zcf zyt (oI_D λ_ _ _ _=>.int _) zd (ssb sv zd)))
 (zb (sfr (zba (zp (zhf rfl) zrg rfl Ad zeu (sa1 sv))) (sgn nd)
 (zc (zce (zu (zku hr.units) zsb (zcf zkt (oI_D λ_ _ _ _=>.int _) (scl Bd hr (sa1 (zcf zrt (zfa λ_ _ _ _=>.int _) sv (zfi (zwb (zov hr) sv sv (λ_ _=>rfl)) zd (λ_ _=>rfl))))) zd) zd (nomark _)) (zc (sst nd (zcf zbox (zfa λ_ _ _ _=>.int _) sv (zcf zyt (oI_D λ_ _ _ _=>.int _) zd (ssb sv zd))))) zbh)))
 (zc (zj sv))))
theorem zrw {Y:En}(T:TopF Y.K "odd_ones" (top 12))(Ad:Y.mg "sorted"=none)(Aa:Y.mg "tuple"=none)(Ap:Cl Y "flip" 1 ["kept","thing"] zpp):Cl Y "odd_ones" 2 ["things"] zgd:=cmk ["things","kept","thing"] T λnd f cdv A outer s H E hr=>(zb (sst nd zqw)
 (zb (sfr (zba sv) (sgn nd)
 (zc (zbq (scl Ap hr (sa2 sv sv)))))
 (zc (zj (zbk zx zds rfl Aa zcz (sa1 (zp (zfj rfl hr.units) zlv rfl Ad zeu (sa1 sv))))))))
theorem zmu {Y:En}(T:TopF Y.K "is_product" (top 21))(Ac:Y.mg "len"=none)(Aa:Y.mg "tuple"=none)(Am:Y.mg "isinstance"=none)(Ao:Y.mg "all"=none)(Ak:Cl Y "is_whole" 1 ["thing"] zcc):Cl Y "is_product" 2 ["n","thing"] zdv:=cmk ["n","thing"] T λnd f cdv A outer s H E hr=>(zb (zce (JW.pt (zbfr (znh (zdf (zp zgu zlx rfl Am zei (sa2 sv (zwe (zty (v:=.ty "tuple") rfl Aa zcz rfl) (λ_ _=>.ty _)))))) (zjb (zu (zyu hr.units) zsb (zp zbc zlw rfl Ac zlu (sa1 sv)) sv (nomark _)) (by first | exact Or.inl rfl | exact Or.inr rfl)))) (zc (zj zbcm)) zbh)
 (zc (zj (zp (zwn rfl) zbmq rfl Ao zbmk (sa1 (scp ["e"] (zba sv) (λ_ _ _ _ _=>(zbgl (scl Ak hr (sa1 sv)) (zbgf (zpd zbpa (zfa λ_ _ _ _=>.bl _) sv zd (nomark _)))))))))))
theorem zyw {Y:En}(T:TopF Y.K "sum_of" (top 22))(Af:Y.mg "enumerate"=none)(Be:Cl Y "is_product" 2 ["n","thing"] zdv)(Bf:Cl Y "odd_ones" 2 ["things"] zgd):Cl Y "sum_of" 3 ["n","things"] zhz:=cmk ["n","things","at","thing"] T λnd f cdv A outer s H E hr=>(zb (sfr (zhx rfl Af sv) (zfz rfl (zw (sgn nd) (zw (sgn nd) zdr)))
 (zc (zce (znh (zdf (scl Be hr (sa2 sv sv)))) (zc zfy) zbh)))
 (zc (zj (scl Bf hr (sa1 sv)))))
theorem zrv {Y:En}(T:TopF Y.K "pairs_of" (top 39))(Af:Y.mg "enumerate"=none)(Ad:Y.mg "sorted"=none)(Aa:Y.mg "tuple"=none)(Bg:Cl Y "sum_of" 3 ["n","things"] zhz):Cl Y "pairs_of" 4 ["n","sources","used"] zgc:=cmk ["n","sources","used","products","number","source"] T λnd f cdv A outer s H E hr=>(zb (sst nd zwc)
 (zb (sfr (zhx rfl Af sv) (zfz rfl (zw (sgn nd) (zw (sgn nd) zdr)))
 (zc (zce (zdf (zcf zrt (zfa λ_ _ _ _=>.int _) (zcf zbjj (oI_D λ_ _ _ _=>.int _) sv sv) zd)) (zc (zbq (zcw (zbge sv (sa2 (zfi sv zd (λ_ _=>rfl)) (zeg zbm))) (sa1 (zfi sv zd (λ_ _=>rfl)))))) zbh)))
 (zc (zj (zbk zx zds rfl Aa zcz (sa1 (scp ["k","n","products"] (zba (zp (zhf rfl) zrg rfl Ad zeu (sa1 sv))) (λ_ _ _ _ _=>(zcq (sa2 sv (scl Bg hr (sa2 sv (zxi (zwb (zov hr) sv sv (λ_ _=>rfl)))))))))))))))
theorem zyz {Y:En}(T:TopF Y.K "judged" (top 41))(Aa:Y.mg "tuple"=none)(Bh:Cl Y "one_degree" 4 ["n","some"] zct)(Ag:Cl Y "products_of_degree" 11 ["n","d"] (iterF zi 10))(Av:Cl Y "places_of" 1 ["products"] zcl)(Au:Cl Y "all_leads" 13 ["n","d","places"] zcn)(Aq:Cl Y "lessened" 1 ["leads","number"] zdl)(Ar:Cl Y "as_number" 1 ["places","some"] zcm)(Bi:Cl Y "pairs_of" 4 ["n","sources","used"] zgc)(Bj:Cl Y "row_against" 2 ["leads","length"] zem):Cl Y "judged" 14 ["n","some"] zgy:=cmk ["n","some","d","products","places","found","left","row"] T λnd f cdv A outer s H E hr=>(zb (sst nd (scl Bh hr (sa2 sv sv)))
 (zb (zce (zu zboz zbpe sv zblp (nomark _)) (zc (zj (zcq (zg zbag (zg sv (sa2 sv (zcq zbm))))))) zbh)
 (zb (sst nd (scl Ag hr (sa2 sv sv)))
 (zb (sst nd (scl Av hr (sa1 sv)))
 (zb (sst nd (scl Au hr (zg sv (sa2 sv sv))))
 (zb (sst nd (scl Aq hr (sa2 (zfi sv zd (λ_ _=>rfl)) (scl Ar hr (sa2 sv sv)))))
 (zb (zce (zu (zku hr.units) zsb (zfi sv zd (λ_ _=>rfl)) zd (nomark _)) (zc (zj (zcq (zg zbag (zg sv (sa2 sv (scl Bi hr (zg sv (sa2 (zfi sv zd (λ_ _=>rfl)) (zfi sv zd (λ_ _=>rfl))))))))))) zbh)
 (zb (sst nd (scl Bj hr (sa2 (zfi sv zd (λ_ _=>rfl)) (zqx (zfi sv zd (λ_ _=>rfl))))))
 (zc (zj (zcq (zg zbag (zg sv (sa2 sv (zbk zx zds rfl Aa zcz (sa1 (zga rfl (zba sv) (λ_ _ _ _ _=>(zbt (i:=0) (show(["product","row","places"]:List Str).Nodup from by decide +kernel) rfl (Or.inl rfl))) (λ_ _ _ _ _=>(zfh (zdf (zcf zrt (zfa λ_ _ _ _=>.int _) (zcf zbjj (oI_D λ_ _ _ _=>.int _) sv (zwd (zov hr) sv sv (λ_ _=>rfl))) zd)))) (λ_ _ _ _ _=>sv) (N:=["product","row","places"]) (k:=1) (is:=[7,4]) (zfd (by rfl)))))))))))))))))))
theorem zbpd {Y:En}   (F:Fun Y.K "law" "law" (top 52) f fd)(Ac:Y.mg "len"=none)(Ah:Y.mg "min"=none)(Ab:Y.mg "range"=none)(Al:Y.mg "int"=none)(Bk:Cl Y "_law_bag" 1 ["_law_script","_law_at"] zew)(Ae:Cl Y "_law_take" 1 ["_law_bag_here","_law_many"] zo)(Bl:Cl Y "_law_some" 4 ["_law_bag_here","_law_n","_law_d"] zep)(Aw:Cl Y "halved" 2 ["some"] zcu)(Ax:Cl Y "_law_raised" 2 ["_law_some_here","_law_k"] zbe)(Bm:Cl Y "judged" 14 ["n","some"] zgy)(Ay:Cl Y "rows_counted" 15 ["n","d"] zy):FnOk Y.P Y.w Y.K Y.mg Y.base CX0 16 f fd ["_law_script"] (spLaw Y.K) :=
 have sc:FnScope ["_law_script","_law_k","_law_bag_here","_law_n","_law_part","_law_d","_law_some_here","_law_up","_law_m","_law_less"] ["_law_script"] (defScope (top 52)):=⟨rfl,rfl,rfl,by decide +kernel,rfl,by decide +kernel,by decide +kernel⟩
 have nd:=sc.nd
 zbkb (k:=15) F sc rfl (λcdv A outer s H E hr=>(zb (sfr (zcp rfl Ab (sa1 (sad (zp (zls rfl) zbry rfl Ah zbgp (sa2 zd (zp zbc zlw rfl Ac zlu (sa1 sv)))) zd))) (sgn nd)
 (zb (sst nd (scl Bk hr (sa2 sv sv)))
 (zb (sst nd (sad zd (scl Ae hr (sa2 sv zd))))
 (zb (sst nd (scl Ae hr (sa2 sv (zfi (zlp (zg zd (zg zd (sa2 zd zd)))) (ssb sv zd) (λ_ _=>rfl)))))
 (zb (sst nd (scl Ae hr (sa2 sv (zfi (zlp (zg zd (zg zd (sa2 zd zd)))) (ssb sv zd) (λ_ _=>rfl)))))
 (zb (sst nd (scl Bl hr (zg sv (sa2 sv sv))))
 (zb (zce (zu (zyu hr.units) zsb (scl Aw hr (sa1 (zbqx (scl Ax hr (sa2 sv (sad (zcf zhn (oI_D λ_ _ _ _=>.int _) zd sv) zd))) zpb (zpa (zfi (zlp (sa2 zd zd)) (zbk zlt zbgt rfl Al zbaq (sa1 (zpd zbel (zfa λ_ _ _ _=>.bl _) sv zd (nomark _)))) (λ_ _=>rfl)))))) (zcq zbm) (nomark _)) (zc (zj zbcm)) zbh)
 (zb (sst nd (scl Ax hr (sa2 sv (zcf zhn (oI_D λ_ _ _ _=>.int _) zd sv))))
 (zb (zce (JW.pt (zng (zu zyv (zfa λ_ _ _ _=>.bl _) (zp zbc zlw rfl Ac zlu (sa1 sv)) (zfi (zlp (sa2 zd zd)) (zbk zlt zbgt rfl Al zbaq (sa1 (zpd zbel (zfa λ_ _ _ _=>.bl _) sv zd (nomark _)))) (λ_ _=>rfl)) (nomark _)) (zjb (zu (zyu hr.units) zsb (scl Aw hr (sa1 sv)) (scl Ax hr (sa2 (scl Aw hr (sa1 sv)) sv)) (nomark _)) (by first | exact Or.inl rfl | exact Or.inr rfl)))) (zc (zj zbcm)) zbh)
 (zb (zce (JW.pt (zng (zu zbel (zfa λ_ _ _ _=>.bl _) sv zd (nomark _)) (zng (zu zyv (zfa λ_ _ _ _=>.bl _) (zp zbc zlw rfl Ac zlu (sa1 sv)) (zfi (zlp (sa2 zd zd)) (zbk zlt zbgt rfl Al zbaq (sa1 (zpd zbel (zfa λ_ _ _ _=>.bl _) sv zd (nomark _)))) (λ_ _=>rfl)) (nomark _)) (zjb (zu (zyu hr.units) zsb (zfi (scl Bm hr (sa2 sv (scl Aw hr (sa1 sv)))) zd (λ_ _=>rfl)) zbag (nomark _)) (by first | exact Or.inl rfl | exact Or.inr rfl))))) (zc (zj zbcm)) zbh)
 (zb (sst nd (sad zd (scl Ae hr (sa2 sv zd))))
 (zb (sst nd (scl Ae hr (sa2 sv (zfi (zlp (zg zd (zg zd (zg zd (sa2 zd zd))))) (ssb sv zd) (λ_ _=>rfl)))))
 (zc (zce (zu zbel (zfa λ_ _ _ _=>.bl _) (scl Ay hr (sa2 sv sv)) (scl Ay hr (sa2 sv (sad (zcf zhn (oI_D λ_ _ _ _=>.int _) zd sv) sv))) (nomark _)) (zc (zj zbcm)) zbh))))))))))))))
 (zc (zj zbcm)))) K62.holds
end
theorem all_mk {l:W.OpenLaw}  {K:Fg}      (X:K.In h)(G:h.Ns mainGlobals mg)(hfa:mg "law"=some (.ref fa))
  (t1:TopF K "_law_bag" (top 45))(t2:TopF K "_law_take" (top 46))(t3:TopF K "_law_odd" (top 47))(t4:TopF K "_law_of_degree" (top 48))(t5:TopF K "_law_sum_of" (top 49))(t6:TopF K "_law_some" (top 51))(t7:TopF K "_law_raised" (top 50))(t8:TopF K "all_odd" (top 1))(t9:TopF K "halved" (top 2))(t10:TopF K "products_of_degree" (top 26))(t11:TopF K "most_degree" (top 24))(t12:TopF K "number_of_products" (top 25))(t13:TopF K "can_be_judged" (top 27))(t14:TopF K "bounded" (top 30))(t15:TopF K "parts_enough" (top 33))(t16:TopF K "raised_products" (top 34))(t17:TopF K "lessened" (top 37))(t18:TopF K "as_number" (top 36))(t19:TopF K "is_whole" (top 10))(t20:TopF K "shares" (top 14))(t21:TopF K "letter_raised" (top 15))(t22:TopF K "product_raised" (top 16))(t23:TopF K "flip" (top 11))(t24:TopF K "raised" (top 17))(t25:TopF K "all_leads" (top 38))(t26:TopF K "degree_asked" (top 31))(t27:TopF K "places_of" (top 35))(t28:TopF K "standing" (top 42))(t29:TopF K "rows_counted" (top 43))(t30:TopF K "degrees" (top 23))(t31:TopF K "one_degree" (top 32))(t32:TopF K "ones_counted" (top 29))(t33:TopF K "row_against" (top 40))(t34:TopF K "odd_ones" (top 12))(t35:TopF K "is_product" (top 21))(t36:TopF K "sum_of" (top 22))(t37:TopF K "pairs_of" (top 39))(t38:TopF K "judged" (top 41))(t39:TopF K "law" (top 52))  (z0:W.nsIn K mainGlobals "len"=some none)(z1:W.nsIn K mainGlobals "abs"=some none)(z2:W.nsIn K mainGlobals "min"=some none)(z3:W.nsIn K mainGlobals "range"=some none)(z4:W.nsIn K mainGlobals "sorted"=some none)(z5:W.nsIn K mainGlobals "tuple"=some none)(z6:W.nsIn K mainGlobals "max"=some none)(z7:W.nsIn K mainGlobals "list"=some none)(z8:W.nsIn K mainGlobals "all"=some none)(z9:W.nsIn K mainGlobals "bool"=some none)(z10:W.nsIn K mainGlobals "isinstance"=some none)(z11:W.nsIn K mainGlobals "int"=some none)(z12:W.nsIn K mainGlobals "sum"=some none)(z13:W.nsIn K mainGlobals "enumerate"=some none)(z14:W.nsIn K mainGlobals "set"=some none)(y0:W.nsIn K mainGlobals "FEW_LETTERS"=some (some (.int 3 u0)))(y1:W.nsIn K mainGlobals "MOST_JUDGED"=some (some (.int 200 u1)))  :
  ∃ fd:FuncData,(∀(s:Shared) (v:Value),BindsTo s fd ⟨[v],[]⟩ [("_law_script", v)])/\∀ base:Heap,K.In base->base.Ns mainGlobals mg->FnOk l.prog w K mg base CX0 16 fa fd ["_law_script"] (spLaw K):=by
 have Ac:=xdi X G z0;have z_abs:=xdi X G z1;have Ah:=xdi X G z2;have Ab:=xdi X G z3;have Ad:=xdi X G z4;have Aa:=xdi X G z5;have z_max:=xdi X G z6;have z_list:=xdi X G z7;have Ao:=xdi X G z8;have z_bool:=xdi X G z9;have Am:=xdi X G z10;have Al:=xdi X G z11;have Aj:=xdi X G z12;have Af:=xdi X G z13;have z_set:=xdi X G z14;have m_FEW_LETTERS:=xmj X G y0;have m_MOST_JUDGED:=xmj X G y1;obtain⟨f,fd,a,F⟩:=t39;have e:=hfa.symm.trans (xmj X G a);cases e;obtain⟨oc,od,kV,doc,pm,an,cdv,ct,osl,rfl,lk,hcd⟩:=id F.ex;refine⟨W.fnOf "law" "law" (defArgs (top 52)) (defBody (top 52)) (defScope (top 52)) .none kV doc pm an cdv ct,λs v=>.of_eq rfl,λbase _ _=>?_⟩
 let Y:En:=⟨l.prog,w,K,mg,base,h,X,G⟩
 have Bk:=zsa (Y:=Y) t1 Ac z_abs Ah Ab;have Ae:=zok (Y:=Y) t2;have Ai:=zrz (Y:=Y) t3 Ad Aa;have An:=zhp (Y:=Y) t4 Ab z_max Aa Ae;have Az:=zky (Y:=Y) t5 Ab Ai Ae An;have Bl:=zol (Y:=Y) t6 z_list Ab Aa Az Ae An Ai;have Ax:=zkz (Y:=Y) t7 Ah Ab Ai;have A0:=zuk (Y:=Y) t8 Ao;have Aw:=zza (Y:=Y) t9 Aa A0;have Ag:=zey (Y:=Y) t10 Ab;have A2:=zkx (Y:=Y) t11 m_FEW_LETTERS;have A1:=zez (Y:=Y) t12 Ab;have A3:=zis (Y:=Y) t13 m_MOST_JUDGED A1 A2;have As:=zuj (Y:=Y) t14 A3;have A4:=zjm (Y:=Y) t15;have A8:=zgl (Y:=Y) t16 A4 Ag;have Aq:=zrx (Y:=Y) t17;have Ar:=zoi (Y:=Y) t18;have Ak:=zry (Y:=Y) t19 z_bool Am Al;have A5:=zyx (Y:=Y) t20;have A6:=zir (Y:=Y) t21 A5;have A7:=zho (Y:=Y) t22 Aj A6;have Ap:=zbjn (Y:=Y) t23;have A9:=zyy (Y:=Y) t24 Aj Ad Aa Ak A7 Ap;have Au:=zoj (Y:=Y) t25 Ac A8 Aq Ar A9;have Ba:=zjo (Y:=Y) t26 Ak;have Av:=zoh (Y:=Y) t27 Af
 have Bb:=zru (Y:=Y) t28 Af Ag As Ba Au Av;have Ay:=zjl (Y:=Y) t29 Ac Bb;have Bc:=zui (Y:=Y) t30 Aj Ad z_set;have Bh:=zmt (Y:=Y) t31 Ac Bc As;have Bd:=zjn (Y:=Y) t32;have Bj:=zkw (Y:=Y) t33 Ad Bd;have Bf:=zrw (Y:=Y) t34 Ad Aa Ap;have Be:=zmu (Y:=Y) t35 Ac Aa Am Ao Ak;have Bg:=zyw (Y:=Y) t36 Af Be Bf;have Bi:=zrv (Y:=Y) t37 Af Ad Aa Bg;have Bm:=zyz (Y:=Y) t38 Aa Bh Ag Av Au Aq Ar Bi Bj;exact zbpd (Y:=Y) F Ac Ah Ab Al Bk Ae Bl Aw Ax Bm Ay
end K62
end
open PySem PySem.W PyProof.Rows
set_option maxRecDepth 100000 in
set_option maxHeartbeats 0 in
theorem PySem.Challenge.cw_raisedsums_k62_whole_halving_holds : PySem.Challenge.rw_raisedsums_k62_whole_halving.Holds := by
  w_on; o_law; k_head; (case hw => w_witness2)
  k_fill
  refine L2.zbhn (l := PySem.Challenge.rw_raisedsums_k62_whole_halving) (n := 63) (k := 16) (x := "_law_script") (CX := fun _ => L2.CX0) (sp := fun w => Dd.spLaw _) rfl (by decide) rfl ⟨rfl, by decide, by decide⟩ (fun w h Y => PySem.W.kIn_of Y) ?F (fun _ _ a ns hl _ hS => ⟨a, ns, rfl, hS, hl, fun _ => rfl⟩) (fun _ _ _ _ _ z => z)
  case F =>
    intro w mg fa h KX G hmg
    refine' K62.all_mk KX G hmg ?t1 ?t2 ?t3 ?t4 ?t5 ?t6 ?t7 ?t8 ?t9 ?t10 ?t11 ?t12 ?t13 ?t14 ?t15 ?t16 ?t17 ?t18 ?t19 ?t20 ?t21 ?t22 ?t23 ?t24 ?t25 ?t26 ?t27 ?t28 ?t29 ?t30 ?t31 ?t32 ?t33 ?t34 ?t35 ?t36 ?t37 ?t38 ?t39  ?z0 ?z1 ?z2 ?z3 ?z4 ?z5 ?z6 ?z7 ?z8 ?z9 ?z10 ?z11 ?z12 ?z13 ?z14 ?y0 ?y1 
    all_goals first|k_is|kernel_rfl|(refine' L2.zbb ?a ?l ?c ?k;(case a=>k_is);(case l=>k_is);(case c=>k_is);(case k=>k_is))|skip
#print axioms PySem.Challenge.cw_raisedsums_k62_whole_halving_holds
