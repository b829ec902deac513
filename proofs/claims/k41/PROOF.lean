import PyProof.Rows.All
import Wide.All
import OpenK.AllK
import Wide.FinOn
import PyProof.EqAt
import PyProof.EqKinds
import PyProof.TupleCall
import PySem.Challenge.RW_raisedsums_k41_counts_too_great
set_option Elab.async false
set_option linter.all false
set_option maxRecDepth 100000
namespace PySem.W.Fast
theorem tw10761484295980886489:True:=⟨⟩
theorem tw15494924920906306259:True:=⟨⟩
theorem tw18375355645778702953:True:=⟨⟩
theorem tw7994179304546441468:True:=⟨⟩
theorem tw16357639570055743564:True:=⟨⟩
theorem tw9257302124926031908:True:=⟨⟩
theorem tw8681147722121831224:True:=⟨⟩
theorem tw15622416823802818256:True:=⟨⟩
theorem tw9122800827023657641:True:=⟨⟩
theorem tw3204037487912124577:True:=⟨⟩
theorem tw11692392318568470511:True:=⟨⟩
theorem tw11469530879967180854:True:=⟨⟩
theorem tw12568507607742335068:True:=⟨⟩
theorem tw7219994587894058365:True:=⟨⟩
theorem tw12657145608996981151:True:=⟨⟩
theorem tw14135815886252492920:True:=⟨⟩
theorem tw18361702844451856418:True:=⟨⟩
theorem tw14034736253411013749:True:=⟨⟩
theorem tw1156159047131587629:True:=⟨⟩
theorem tw13157550924253004068:True:=⟨⟩
theorem tw16099283029987161971:True:=⟨⟩
theorem tw18281923714926194377:True:=⟨⟩
theorem tw12286241040974513514:True:=⟨⟩
theorem tw11917568425252964:True:=⟨⟩
theorem tw10620006288746680763:True:=⟨⟩
theorem tw12920951150892350548:True:=⟨⟩
theorem tw4993593566491728385:True:=⟨⟩
theorem tw8586577195186121844:True:=⟨⟩
theorem tw17169377307280366349:True:=⟨⟩
theorem tw9302774669323833259:True:=⟨⟩
theorem tw79776812929844053:True:=⟨⟩
theorem tw10701022026010424880:True:=⟨⟩
theorem tw6441461159286381761:True:=⟨⟩
theorem tw118812280516787456:True:=⟨⟩
theorem tw10842294897546855635:True:=⟨⟩
theorem tw18349896472976320277:True:=⟨⟩
theorem tw10318660750647819308:True:=⟨⟩
theorem tw16876669365157182975:True:=⟨⟩
theorem tw82633468016513743:True:=⟨⟩
theorem tw11467064475513250812:True:=⟨⟩
theorem tw11098993668560679525:True:=⟨⟩
theorem tw13906249967373603817:True:=⟨⟩
theorem tw15351850996036542311:True:=⟨⟩
theorem tw17064955403076078958:True:=⟨⟩
theorem tw12099368263610040019:True:=⟨⟩
theorem tw12679740386131997217:True:=⟨⟩
theorem tw14022748643932902673:True:=⟨⟩
theorem tw10724758374718103303:True:=⟨⟩
theorem tw10846164015095548991:True:=⟨⟩
theorem tw18125310579274890056:True:=⟨⟩
theorem tw2467669343311723567:True:=⟨⟩
theorem tw13869168508218973658:True:=⟨⟩
theorem tw13793976395142552293:True:=⟨⟩
theorem tw5314028076510086694:True:=⟨⟩
theorem tw1187775291652983796:True:=⟨⟩
theorem tw12218598717200606438:True:=⟨⟩
theorem tw14407301832001355234:True:=⟨⟩
theorem tw257328171643824757:True:=⟨⟩
theorem tw18225028352227458653:True:=⟨⟩
theorem tw10335459421723856351:True:=⟨⟩
theorem tw12891079330985274791:True:=⟨⟩
theorem tw4373697530443400376:True:=⟨⟩
theorem tw12023052064238774665:True:=⟨⟩
theorem tw8916846747205196129:True:=⟨⟩
theorem tw17019651060358026907:True:=⟨⟩
theorem tw5688661349698386098:True:=⟨⟩
theorem tw7562404654454557164:True:=⟨⟩
theorem tw997208873216376939:True:=⟨⟩
theorem tw10245070600851409773:True:=⟨⟩
theorem tw616139269665773686:True:=⟨⟩
theorem tw9766388132282464962:True:=⟨⟩
theorem tw17364039237418308080:True:=⟨⟩
theorem tw17996006135801639519:True:=⟨⟩
theorem tw882161820443825217:True:=⟨⟩
theorem tw10442520828060668524:True:=⟨⟩
theorem tw7631969169670332540:True:=⟨⟩
theorem tw11591373855651801256:True:=⟨⟩
theorem tw8138060268480953953:True:=⟨⟩
theorem tw7633490048668125356:True:=⟨⟩
theorem tw3105052676595867262:True:=⟨⟩
theorem tw1303216455624682293:True:=⟨⟩
theorem tw36308773944112736:True:=⟨⟩
theorem tw7101112805306183463:True:=⟨⟩
theorem tw4244649085951662614:True:=⟨⟩
theorem tw10043334719496145901:True:=⟨⟩
end PySem.W.Fast
set_option genSizeOfSpec false
set_option genInjectivity false
abbrev Fg:=PySem.W.Frag
abbrev xba:=@PySem.wpAny_bind
abbrev xbb:=@PySem.Heap.get?_push_of_some
abbrev xbc:=@Nat.le_trans
abbrev xbd:=@List.length_map
abbrev xbe:=@PySem.wpAny_pure
abbrev xbf:=@Nat.le_refl
abbrev xbg:=@List.getElem?_eq_getElem
abbrev xbh:=@Nat.lt_of_lt_of_le
abbrev xbi:=@PySem.Heap.lt_size
abbrev xbj:=@PyProof.Rows.wpS_bind
abbrev xbk:=@PySem.Heap.get?_push_size
abbrev xbl:=@List.mem_singleton
abbrev xbm:=@PyProof.Rows.wpS_pure
abbrev xbn:=@List.size_toArray
abbrev xbo:=@List.getElem?_eq_some_iff
abbrev xbp:=@List.map_cons
abbrev xbq:=@List.getD_eq_getElem?_getD
abbrev xbr:=@List.append_assoc
abbrev xbs:=@List.length_append
abbrev xbt:=@decide_eq_false
abbrev xbu:=@List.mem_cons
abbrev xbv:=@Nat.ne_of_lt
abbrev xbw:=@Nat.le_of_lt
abbrev xbx:=@List.length_cons
abbrev xby:=@Option.some.inj
abbrev xbz:=@Nat.le_add_right
abbrev xca:=@Array.length_toList
abbrev xcb:=@Nat.le_of_not_lt
abbrev xcc:=@List.getElem?_map
abbrev xcd:=@List.getElem?_append_left
abbrev xce:=@List.mem_append
abbrev xcf:=@List.getElem?_set_ne
abbrev xcg:=@List.all_eq_true
abbrev xch:=@List.mem_of_getElem?
abbrev xci:=@Array.getElem?_toList
abbrev xcj:=@Nat.add_le_add_left
abbrev xck:=@List.mem_range
abbrev xcl:=@Nat.add_sub_cancel'
abbrev xcm:=@List.mem_cons_self
abbrev xcn:=@PySem.PassesOwn.never
abbrev xco:=@Option.map_eq_some_iff
abbrev xcp:=@PySem.Heap.get?_update_other
abbrev xcq:=@List.mem_cons_of_mem
abbrev xcr:=@List.getElem?_append_right
abbrev xcs:=@Nat.lt_of_le_of_lt
abbrev xct:=@Ne.symm
abbrev xcu:=@PySem.W.mg_none_of
abbrev xcv:=@decide_eq_true
abbrev xcw:=@List.map_map
abbrev xcx:=@Nat.add_sub_cancel_left
abbrev xcy:=@Nat.le_of_ble_eq_true
abbrev xcz:=@Nat.le_of_lt_succ
abbrev xda:=@List.take_length
abbrev xdb:=@PySem.wpAny_newObj_type
abbrev xdc:=@Bool.false_eq_true
abbrev xdd:=@Nat.lt_of_le_of_ne
abbrev xde:=@Array.toList_append
abbrev xdf:=@PySem.W.mg_of
abbrev xdg:=@Nat.le_sub_one_of_lt
abbrev xdh:=@PySem.wpAny_mono
abbrev xdi:=@Nat.le_of_succ_le
abbrev xdj:=@List.mem_append_right
abbrev xdk:=@Nat.le_of_eq
abbrev xdl:=@Nat.le_of_add_left_le
abbrev xdm:=@PySem.wpAny_holding
abbrev xdn:=@Nat.eq_of_beq_eq_true
abbrev xdo:=@PyProof.Rows.wpS_forRange
abbrev xdp:=@Nat.le_antisymm
abbrev xdq:=@Nat.sub_lt_left_of_lt_add
abbrev xdr:=@List.map_append
abbrev xds:=@List.getElem?_set_self
abbrev xdt:=@List.mem_map
abbrev xdu:=@Nat.add_lt_of_lt_sub'
abbrev xdv:=@PySem.wpAny_field
abbrev xdw:=@List.length_take
abbrev xdx:=@Nat.zero_add
abbrev xdy:=@List.getElem_mem
abbrev xdz:=@List.map_flatMap
abbrev xea:=@List.getElem_of_mem
abbrev xeb:=@Nat.add_lt_add_left
abbrev xec:=@Int.toNat_natCast
abbrev xed:=@Nat.zero_le
abbrev xee:=@PyProof.Rows.slot_tuple_getitem
abbrev xef:=@Option.bind_eq_some_iff
abbrev xeg:=@List.append_nil
abbrev xeh:=@Nat.lt_or_ge
abbrev xei:=@Nat.sub_lt_sub_right
abbrev xej:=@Nat.min_eq_left
abbrev xek:=@Bool.and_eq_true
abbrev xel:=@Nat.not_lt_of_le
abbrev xem:=@PySem.wpAny_call_entry
abbrev xen:=@PySem.mem_of_lookup
abbrev xeo:=@List.replicate_succ
abbrev xep:=@PySem.Heap.get?_update_self
abbrev xeq:=@Nat.le_sub_of_add_le'
abbrev xer:=@List.getElem?_eq_none
abbrev xes:=@if_false
abbrev xet:=@List.filter_cons_of_neg
abbrev xeu:=@List.filter_cons_of_pos
abbrev xev:=@Nat.succ_le_succ
abbrev xew:=@Nat.lt_of_succ_lt
abbrev xex:=@PySem.wpAny_truthy_bool
abbrev xey:=@List.length_set
abbrev xez:=@List.find?_cons
abbrev xfa:=@List.drop_eq_getElem_cons
abbrev xfb:=@List.nil_append
abbrev xfc:=@List.lookup_cons
abbrev xfd:=@List.getElem?_drop
abbrev xfe:=@PySem.wpAny_Call_Name_kw
abbrev xff:=@PyProof.Rows.wpS_mono
abbrev xfg:=@Nat.lt_irrefl
abbrev xfh:=@PySem.F.slot_dict_keyiterator_next
abbrev xfi:=@Nat.sub_le_sub_right
abbrev xfj:=@beq_iff_eq
abbrev xfk:=@PySem.F.plainAttrs_list
abbrev xfl:=@Nat.sub_pos_of_lt
abbrev xfm:=@Array.toList_push
abbrev xfn:=@PyProof.Rows.callWith_type1
abbrev xfo:=@PySem.wpAny_ite_false
abbrev xfp:=@Array.getElem?_eq_some_iff
abbrev xfq:=@Array.perm_iff_toList_perm
abbrev xfr:=@Nat.min_le_right
abbrev xfs:=@Nat.lt_of_not_le
abbrev xft:=@Bool.false_ne_true
abbrev xfu:=@PySem.Obj.data_mapFields
abbrev xfv:=@List.take_append_drop
abbrev xfw:=@Nat.lt_of_lt_of_eq
abbrev xfx:=@List.getElem?_toArray
abbrev xfy:=@PySem.wpAny_pyIter_tuple
abbrev xfz:=@if_true
abbrev xga:=@Nat.ne_of_gt
abbrev xgb:=@Bool.eq_iff_iff
abbrev xgc:=@List.pairwise_append
abbrev xgd:=@Bool.or_eq_false_iff
abbrev xge:=@Nat.le_succ_of_le
abbrev xgf:=@List.flatten_cons
abbrev xgg:=@List.reverse_cons
abbrev xgh:=@of_decide_eq_true
abbrev xgi:=@PySem.wpAny_typeNameOfWhole_keyiter
abbrev xgj:=@List.getElem?_cons_succ
abbrev xgk:=@List.map_congr_left
abbrev xgl:=@PySem.Heap.size_push
abbrev xgm:=@List.not_mem_nil
abbrev xgn:=@PySem.wpAny_setField
abbrev xgo:=@PySem.wpAny_seqItems
abbrev xgp:=@Nat.sub_le
abbrev xgq:=@List.take_of_length_le
abbrev xgr:=@List.drop_eq_nil_of_le
abbrev xgs:=@PySem.call_meets
abbrev xgt:=@PyProof.Rows.wpS_modify
abbrev xgu:=@PySem.wpAny_rule
abbrev xgv:=@Nat.sub_add_cancel
abbrev xgw:=@List.length_replicate
abbrev xgx:=@List.Perm.append_left
abbrev xgy:=@List.perm_append_comm
abbrev xgz:=@PySem.wpAny_passesOwn
abbrev xha:=@Nat.lt_succ_of_lt
abbrev xhb:=@List.mem_append_left
abbrev xhc:=@List.mem_of_mem_take
abbrev xhd:=@decide_true
abbrev xhe:=@List.length_drop
abbrev xhf:=@List.take_succ_eq_append_getElem
abbrev xhg:=@PySem.F.plain_max_loop
abbrev xhh:=@List.cons_append
abbrev xhi:=@PySem.codeAny_mono
abbrev xhj:=@beq_self_eq_true
abbrev xhk:=@PySem.Heap.SameBut.update
abbrev xhl:=@Nat.sub_le_sub_left
abbrev xhm:=@beq_eq_false_iff_ne
abbrev xhn:=@List.eraseIdx_cons_succ
abbrev xho:=@List.countP_cons_of_pos
abbrev xhp:=@Nat.lt_add_of_pos_right
abbrev xhq:=@PySem.wpAny_attempt
abbrev xhr:=@PyProof.Rows.wpS_get
abbrev xhs:=@PySem.Calls.spliced_cons
abbrev xht:=@List.nodup_cons
abbrev xhu:=@Nat.sub_lt
abbrev xhv:=@Nat.min_le_left
abbrev xhw:=@Array.append_empty
abbrev xhx:=@List.pairwise_cons
abbrev xhy:=@PySem.tupleKind_room_in1
abbrev xhz:=@PySem.wpAny_setField_rec
abbrev xia:=@PySem.Calls.callWith_builtin
abbrev xib:=@List.Perm.append_right
abbrev xic:=@List.length_range
abbrev xid:=@PySem.wpAny_pyIter_list
abbrev xie:=@PySem.wpAny_dictEntries
abbrev xif:=@Nat.lt_trans
abbrev xig:=@Array.extract_eq_empty_of_le
abbrev xih:=@Nat.ble_eq_true_of_le
abbrev xii:=@decide_false
abbrev xij:=@PySem.Calls.evalArgs_plain
abbrev xik:=@Nat.min_eq_right
abbrev xil:=@Array.toList_reverse
abbrev xim:=@List.reverse_reverse
abbrev xin:=@PySem.F.slot_tuple_mul
abbrev xio:=@List.mem_flatMap
abbrev xip:=@PySem.wpAny_call
abbrev xiq:=@PySem.codeAny_call_builtin
abbrev xir:=@and_self
abbrev xis:=@PySem.Paired.length
abbrev xit:=@PySem.Calls.Name_function_global
abbrev xiu:=@PySem.sizeLine_eq
abbrev xiv:=@PySem.wpAny_letGo
abbrev xiw:=@List.filterMap_cons
abbrev xix:=@List.flatMap_append
abbrev xiy:=@List.mem_filter
abbrev xiz:=@List.range_succ
abbrev xja:=@Array.getElem?_eq_getElem
abbrev xjb:=@List.pairwise_iff_getElem
abbrev xjc:=@Int.emod_nonneg
abbrev xjd:=@PySem.wpAny_execs_nil
abbrev xje:=@Option.isSome_iff_exists
abbrev xjf:=@PySem.F.args_tuple_add_2
abbrev xjg:=@Nat.sub_self
abbrev xjh:=@Nat.add_zero
abbrev xji:=@PySem.AutoSeq1.wpAny_loadPart'
abbrev xjj:=@List.count_eq_zero
abbrev xjk:=@List.filter_append
abbrev xjl:=@PyProof.Rows.slot_tuple_getitem
abbrev xjm:=@List.nodup_nil
abbrev xjn:=@PySem.F.entry_tuple_add
abbrev xjo:=@List.countP_cons_of_neg
abbrev xjp:=@List.pairwise_singleton
abbrev xjq:=@Int.eq_ofNat_of_zero_le
abbrev xjr:=@PySem.Calls.spliced_nil
abbrev xjs:=@Nat.zero_lt_of_lt
abbrev xjt:=@List.count_append
abbrev xju:=@PySem.W.cellsFrom_some
abbrev xjv:=@PySem.F.slot_tuple_add
abbrev xjw:=@Array.getElem?_eq_none
abbrev xjx:=@List.any_cons
abbrev xjy:=@List.mem_reverse
abbrev xjz:=@Nat.lt_succ_self
abbrev xka:=@PyProof.Rows.wpS_lift
abbrev xkb:=@PySem.F.slot_tuple_lt
abbrev xkc:=@List.length_singleton
abbrev xkd:=@PySem.F.slot_dict_get
abbrev xke:=@PySem.Obj.isFreed_of_fields
abbrev xkf:=@List.length_filter_le
abbrev xkg:=@List.eraseIdxIfInBounds_toArray
abbrev xkh:=@Array.getElem?_setIfInBounds_ne
abbrev xki:=@List.of_mem_zip
abbrev xkj:=@List.length_nil
abbrev xkk:=@Int.ediv_one
abbrev xkl:=@List.foldl_cons
abbrev xkm:=@Int.zero_add
abbrev xkn:=@PySem.codeAny_builtin
abbrev xko:=@List.length_reverse
abbrev xkp:=@List.drop_drop
abbrev xkq:=@or_false
abbrev xkr:=@Nat.le_succ
abbrev xks:=@PySem.W.callWith_K
abbrev xkt:=@List.zip_cons_cons
abbrev xku:=@List.filterMap_map
abbrev xkv:=@PySem.Heap.IsSliceOf.new
abbrev xkw:=@Nat.pos_of_ne_zero
abbrev xkx:=@PySem.F.args_tuple_mul_2
abbrev xky:=@Nat.eq_zero_or_pos
abbrev xkz:=@Int.fdiv_eq_ediv_of_nonneg
abbrev xla:=@PySem.F.excAttr_ValueError
abbrev xlb:=@PySem.wpAny_standAt
abbrev xlc:=@PySem.evalPart_none
abbrev xld:=@PySem.plainId_quiet
abbrev xle:=@List.mapM_toArray
abbrev xlf:=@List.ext_getElem?
abbrev xlg:=@PySem.F.entry_tuple_mul
abbrev xlh:=@List.flatMap_cons
abbrev xli:=@PySem.PassesOwn.leaving
abbrev xlj:=@PySem.wpAny_sequenceKey
abbrev xlk:=@PySem.slot_list_getitem
abbrev xll:=@decide_eq_true_eq
abbrev xlm:=@List.map_nil
abbrev xln:=@List.any_eq_true
abbrev xlo:=@List.ext_getElem
abbrev xlp:=@List.getElem_map
abbrev xlq:=@Nat.max_eq_right
abbrev xlr:=@Option.bind_some
abbrev xls:=@List.drop_length
abbrev xlt:=@map_eq_pure_bind
abbrev xlu:=@List.forIn_cons
abbrev xlv:=@Nat.le_add_left
abbrev xlw:=@Bool.or_eq_true
abbrev xlx:=@List.length_zip
abbrev xly:=@Nat.two_pos
abbrev xlz:=@Int.neg_neg
set_option maxHeartbeats 0
namespace L2
open PySem PySem.Spec PyProof.Rows
abbrev Key:=Sum Int Str
def keyIs:Key->Value->Bool
 | .inl k,v=>Value.isInt k v
 | .inr x,v=>Value.isStrOf x v
def keyH (w:World):Key->Int
 | .inl k=>hashInt k
 | .inr x=>hashStr w x
theorem zbu:∀{k:Key} {v:Value},keyIs k v=true->(∃i t,k=Sum.inl i/\v=Value.int i t)\/(∃x t,k=Sum.inr x/\v=Value.str x t)
 | .inl i,v,h=>by
  obtain⟨t,e⟩:=Value.isInt_shape (k:=i) (v:=v) h;exact .inl ⟨i,t,rfl,e⟩
 | .inr x,v,h=>by
  obtain⟨t,e⟩:=Value.isStrOf_shape (x:=x) (v:=v) h;exact .inr ⟨x,t,rfl,e⟩
theorem zuc (i:Int)(t:Tok):keyIs (.inl i) (.int i t)=true:=by simp[keyIs,Value.isInt]
theorem zub (x:Str)(t:Tok):keyIs (.inr x) (.str x t)=true:=by simp[keyIs,Value.isStrOf]
theorem zbik (a b:Int):decide ((Sum.inl a:Key)=Sum.inl b)=(a==b):=by
 by_cases e:a=b
 ·subst e;simp
 ·have h:¬ (Sum.inl a:Key)=Sum.inl b:=fun q=>e (Sum.inl.inj q)
  rw[xbt h];exact(xhm.mpr e).symm
theorem zbih (a b:Str):decide ((Sum.inr a:Key)=Sum.inr b)=decide (a=b):=by
 by_cases e:a=b
 ·subst e;simp
 ·have h:¬ (Sum.inr a:Key)=Sum.inr b:=fun q=>e (Sum.inr.inj q)
  rw[xbt h,xbt e]
theorem zbij (a:Int)(b:Str):decide ((Sum.inl a:Key)=Sum.inr b)=false:=xbt (fun q=>nomatch q)
theorem zbii (a:Str)(b:Int):decide ((Sum.inr a:Key)=Sum.inl b)=false:=xbt (fun q=>nomatch q)
def mixKind (prog:Program) (w:World):PySem.KeyKind prog w Key where
 is:=keyIs
 hash:=keyH w
 inj:=fun v a b ha hb=>by
  rcases zbu ha with⟨i,t,rfl,rfl⟩ | ⟨x,t,rfl,rfl⟩
  ·rcases zbu hb with⟨j,u,rfl,e⟩ | ⟨y,u,rfl,e⟩
   ·injection e with e1 _;rw[e1]
   ·exact nomatch e
  ·rcases zbu hb with⟨j,u,rfl,e⟩ | ⟨y,u,rfl,e⟩
   ·exact nomatch e
   ·injection e with e1 _;rw[e1]
 byValue:=fun k v h=>by
  rcases zbu h with⟨i,t,rfl,rfl⟩ | ⟨x,t,rfl,rfl⟩<;>rfl
 pyHash:=fun hv h=>by
  rcases zbu hv with⟨i,t,rfl,rfl⟩ | ⟨x,t,rfl,rfl⟩
  ·exact wpAny_pyHash_int h
  ·exact wpAny_pyHash_str h
 eqBool:=fun hu hv h=>by
  rcases zbu hu with⟨i,t,rfl,rfl⟩ | ⟨x,t,rfl,rfl⟩
  ·rcases zbu hv with⟨j,u,rfl,rfl⟩ | ⟨y,u,rfl,rfl⟩
   ·rw[zbik] at h;exact wpAny_eqBool_int h
   ·rw[zbij] at h;exact SeqAt.EqAt.int_str i t y u _ _ _ _ h
  ·rcases zbu hv with⟨j,u,rfl,rfl⟩ | ⟨y,u,rfl,rfl⟩
   ·rw[zbii] at h;exact SeqAt.EqAt.str_int x t j u _ _ _ _ h
   ·rw[zbih] at h;exact wpAny_eqBool_str h
 «strs»:=fun k x t v h=>by
  rcases zbu h with⟨i,u,rfl,e⟩ | ⟨y,u,rfl,e⟩
  ·exact nomatch e
  ·injection e with e1 _
   subst e1;cases v<;>rfl
theorem zoy (prog:Program)(w:World)(i:Int)(t:Tok):(mixKind prog w).is (.inl i) (.int i t)=true:=zuc i t
theorem zox (prog:Program)(w:World)(x:Str)(t:Tok):(mixKind prog w).is (.inr x) (.str x t)=true:=zub x t
set_option genInjectivity true in
inductive V where
 | non | bl (b:Bool) | int (i:Int) | str (x:Str) | byt (b:Array UInt8) | flt (b:UInt64) | ref (a:Addr) | ty (n:String)
 deriving DecidableEq
def RelV:V->Value->Prop
 | .non,u=>u=Value.none
 | .bl b,u=>u=Value.bool b
 | .int i,u=>∃t,u=Value.int i t
 | .str x,u=>∃t,u=Value.str x t
 | .byt b,u=>∃t,u=Value.bytes b t
 | .flt b,u=>∃t,u=Value.float b t
 | .ref a,u=>u=Value.ref a
 | .ty n,u=>u=Value.type n
abbrev Vals:List V->List Value->Prop:=Paired RelV
theorem Vals.length {xs:List V}{us:List Value}(r:Vals xs us):xs.length=us.length:=xis r
theorem Vals.get:∀{xs:List V} {us:List Value} {i:Nat} {x:V},Vals xs us->xs[i]?=some x->∃u,us[i]?=some u/\RelV x u
 | _,_,_,_,.nil,e=>by simp at e
 | _,_,0,_,.cons r _,e=>by simp at e;subst e;exact⟨_,rfl,r⟩
 | _,_,i+1,x,.cons _ t,e=>by
  obtain⟨u,h1,h2⟩:=Vals.get (i:=i) (x:=x) t (by simpa using e);exact⟨u,by simpa using h1,h2⟩
theorem Vals.set {x:V}{u:Value}(r:RelV x u):∀{xs:List V} {us:List Value} (i:Nat),Vals xs us->Vals (xs.set i x) (us.set i u)
 | _,_,_,.nil=>.nil
 | _,_,0,.cons _ t=>.cons r t
 | _,_,i+1,.cons q t=>.cons q (Vals.set r i t)
theorem Vals.append:∀{xs ys:List V} {us ws:List Value},Vals xs us->Vals ys ws->Vals (xs++ys) (us++ws)
 | _,_,_,_,.nil,s=>s
 | _,_,_,_,.cons r t,s=>.cons r (Vals.append t s)
theorem Vals.take:∀{xs:List V} {us:List Value} (n:Nat),Vals xs us->Vals (xs.take n) (us.take n)
 | _,_,0,_=>.nil
 | _,_,_+1,.nil=>.nil
 | _,_,n+1,.cons r t=>.cons r (Vals.take n t)
theorem Vals.drop:∀{xs:List V} {us:List Value} (n:Nat),Vals xs us->Vals (xs.drop n) (us.drop n)
 | _,_,0,r=>r
 | _,_,_+1,.nil=>.nil
 | _,_,n+1,.cons _ t=>Vals.drop n t
def RelO:Option V->Option Value->Prop
 | some v,some u=>RelV v u
 | none,none=>True
 | _,_=>False
def KV {κ:Type}:List (κ×V)->List (κ×Value)->Prop:=Paired fun(p:κ×V) (q:κ×Value)=>p.1=q.1/\RelV p.2 q.2
def kV:Key->V
 | .inl i=>.int i
 | .inr x=>.str x
set_option genInjectivity true in
inductive HO where
 /-- a list -/
 | lst (xs:List V)
 /-- a tuple (never changes) -/
 | tup (xs:List V)
 /-- a dict whose keys are ints and texts;one whose keys are tuples of ints and texts (the empty one is both) -/
 | dK (kvs:List (Key×V)) | dT (kvs:List (List Key×V))
 /-- a set of ints: its members,its size -/
 | set (S:Int->Bool) (n:Nat)
 /-- an instance of the class at C,its dict at dx,its attributes -/
 | ins (C dx:Addr) (fs:List (Str×V))
 /-- the dict of the instance at x -/
 | own (x:Addr)
 /-- the dict of an exception -/
 | xd (fs:List (Str×V))
 /-- a bound method,f of x -/
 | met (f x:Addr)
 /-- a range object lo,lo+1,.. below hi -/
 | rng (lo hi:Int)
 /-- a thing that is known to the object (the script;a dict while a loop walks it): read,never written while it is so -/
 | frz (o:Obj) (u:HO)
 /-- a code object's table -/
 | tbl (ps:Array Value)
 /-- any other thing,by what is true of its one object (a def of one's own: SetO a S n:=HO.ext fun h=>..) -/
 | ext (φ:Heap->Prop)
abbrev Hp:=Addr->Option HO
def upd (H:Hp) (a:Addr) (o:HO):Hp:=fun b=>if b=a then some o else H b
theorem zm {H:Hp}{a:Addr}{o:HO}:upd H a o a=some o:=by unfold upd;rw[if_pos rfl]
theorem zn {H:Hp}{a b:Addr}{o:HO}(h:b≠a):upd H a o b=H b:=by unfold upd;rw[if_neg h]
theorem zban {H:Hp}{a:Addr}{o u:HO}:upd (upd H a o) a u=upd H a u:=by
 funext b;unfold upd;split<;>rfl
theorem zblr {H:Hp}{a b:Addr}{o u:HO}(h:H a=some o)(h':H b=some u)(d:o≠u):a≠b:=by
 intro e;subst e;rw[h] at h';exact d (xby h')
theorem zj {H:Hp}{a b:Addr}{o:HO}(h:H a=some o)(h':H b=none):a≠b:=by
 intro e;subst e;rw[h] at h';cases h'
section
variable (P:Program)(w:World)
def ObjOk (H:Hp) (h:Heap) (a:Addr):HO->Prop
 | .lst xs=>xs.length<=sizeLine/\∃(its:List Value) (n:Nat), Vals xs its/\h.get? a=some { cls:=.type "list", data:=.seq its.toArray n }
 | .tup xs=>xs.length<=sizeLine/\∃its:List Value,Vals xs its/\IsTup h a its.toArray
 | .dK kvs=>kvs.length<=sizeLine/\(a==sysModules)=false/\∃vs,KV kvs vs/\h.DictOf (mixKind P w) a vs
 | .dT kvs=>kvs.length<=sizeLine/\(a==sysModules)=false/\∃xs:List (List Key×Addr×Value),
  Paired (fun(p:List Key×V) (q:List Key×Addr×Value)=>p.1=q.1/\H q.2.1=some (.tup (p.1.map kV))/\RelV p.2 q.2.2) kvs xs /\
  ∃o es ep,h.get? a=some o/\o.ExactDict/\o.data=.dict es ep/\es.toList=xs.map (entryOfKey (tupleKind (mixKind P w)))/\(xs.map (·.1)).Nodup
 | .set S n=>h.SetOf (intKind P w) a S n
 | .ins C dx fs=>H dx=some (.own a)/\fs.length<=1000/\dx≠a/\h.get? a=some (W.instObj C dx) /\
  ∃mA,h.Ns1 dx mA/\(∀f,RelO (fs.lookup f) (mA f))/\PySem.Within mA (fs.map (·.1))
 | .own _=>∃o,h.get? a=some o
 | .xd fs=>∃mA,h.Ns1 a mA/\∀f,RelO (fs.lookup f) (mA f)
 | .rng lo hi=>∃ t u v, h.get? a=some { cls:=.type "range", data:=.fields #[.int lo t, .int hi u, .int 1 v] }
 | .frz o u=>h.get? a=some o/\ObjOk H h a u
 | .tbl ps=>h.get? a=some {cls:=.none,data:=.fields ps}
 | .met f x=>h.get? a=some (W.methodObj (.ref f) (.ref x))
 | .ext φ=>φ h/\(∃o,h.get? a=some o)/\∀h1 h2:Heap,φ h1->(∀o,h1.get? a=some o->h2.get? a=some o)->φ h2
def HOk (H:Hp) (h:Heap):Prop:=∀a o,H a=some o->ObjOk P w H h a o
end
section
variable {P:Program}{w:World}{H H':Hp}{h h':Heap}{a:Addr}{o:HO}
theorem ObjOk.lt (x:ObjOk P w H h a o):a < h.objs.size:=by
 cases o with
 | lst xs=>obtain⟨_,_,_,_,e⟩:=x;exact xbi e
 | tup xs=>obtain⟨_,_,_,p⟩:=x;exact p.lt
 | dK kvs=>obtain⟨_,_,_,_,o,_,_,e,_⟩:=x;exact xbi e
 | dT kvs=>obtain⟨_,_,_,_,o,_,_,e,_⟩:=x;exact xbi e
 | set S n=>obtain⟨o,_,_,_,e,_⟩:=x;exact xbi e
 | ins C dx fs=>obtain⟨_,_,_,e,_⟩:=x;exact xbi e
 | own y=>obtain⟨_,e⟩:=x;exact xbi e
 | xd fs=>obtain⟨_,⟨_,_,_,e,_⟩,_⟩:=x;exact xbi e
 | rng lo hi=>obtain⟨_,_,_,e⟩:=x;exact xbi e
 | frz ob u=>obtain⟨e,_⟩:=x;exact xbi e
 | tbl ps=>exact xbi (show h.get? a=some _ from x)
 | met f y=>exact xbi (show h.get? a=some _ from x)
 | ext φ=>obtain⟨_,⟨_,e⟩,_⟩:=x;exact xbi e
theorem Paired.mapP {α β:Type}{F G:α->β->Prop}:∀{l₁:List α} {l₂:List β},Paired F l₁ l₂->(∀a b,F a b->G a b)->Paired G l₁ l₂
 | _,_,.nil,_=>.nil
 | _,_,.cons r t,f=>.cons (f _ _ r) (Paired.mapP t f)
theorem ObjOk.stay (x:ObjOk P w H h a o)(k:∀b u,(b=a\/H b=some (.own a))->h.get? b=some u->h'.get? b=some u)
  (ho:∀b,H b=some (.own a)->H' b=some (.own a))(ht:∀b xs,H b=some (.tup xs)->H' b=some (.tup xs)):ObjOk P w H' h' a o:=by
 induction o with
 | lst xs=>obtain⟨z,its,n,r,e⟩:=x;exact⟨z,its,n,r,k _ _ (.inl rfl) e⟩
 | tup xs=>obtain⟨z,its,r,ob,e,c⟩:=x;exact⟨z,its,r,ob,k _ _ (.inl rfl) e,c⟩
 | dK kvs=>obtain⟨z,y,vs,r,ob,es,ep,e,c⟩:=x;exact⟨z,y,vs,r,ob,es,ep,k _ _ (.inl rfl) e,c⟩
 | dT kvs =>
  obtain⟨z,y,xs,r,ob,es,ep,e,c⟩:=x;exact⟨z,y,xs,Paired.mapP r fun p q z=>⟨z.1,ht _ _ z.2.1,z.2.2⟩,ob,es,ep,k _ _ (.inl rfl) e,c⟩
 | set S n=>obtain⟨ob,es,ep,t,e,c⟩:=x;exact⟨ob,es,ep,t,k _ _ (.inl rfl) e,c⟩
 | ins C dx fs =>
  obtain⟨d,z,ne,e,mA,⟨od,es,ep,e2,c⟩,r⟩:=x;exact⟨ho _ d,z,ne,k _ _ (.inl rfl) e,mA,⟨od,es,ep,k _ _ (.inr d) e2,c⟩,r⟩
 | own y=>obtain⟨ob,e⟩:=x;exact⟨ob,k _ _ (.inl rfl) e⟩
 | xd fs=>obtain⟨mA,⟨od,es,ep,e,c⟩,r⟩:=x;exact⟨mA,⟨od,es,ep,k _ _ (.inl rfl) e,c⟩,r⟩
 | rng lo hi=>obtain⟨t,u,v,e⟩:=x;exact⟨t,u,v,k _ _ (.inl rfl) e⟩
 | frz ob u ih=>obtain⟨e,q⟩:=x;exact⟨k _ _ (.inl rfl) e,ih q⟩
 | tbl ps =>
  have e:h.get? a=some {cls:=.none,data:=.fields ps}:=x;show h'.get? a=some {cls:=.none,data:=.fields ps};exact k a _ (.inl rfl) e
 | met f y =>
  have e:h.get? a=some (W.methodObj (.ref f) (.ref y)):=x;show h'.get? a=some (W.methodObj (.ref f) (.ref y));exact k a _ (.inl rfl) e
 | ext φ=>obtain⟨p,⟨o,e⟩,st⟩:=x;exact⟨st _ _ p fun o q=>k _ _ (.inl rfl) q,⟨o,k _ _ (.inl rfl) e⟩,st⟩
theorem HOk.lt (x:HOk P w H h)(e:H a=some o):a < h.objs.size:=(x a o e).lt
theorem HOk.fresh (x:HOk P w H h)(e:h.objs.size<=a):H a=none:=by
 cases q:H a with
 | none=>rfl
 | some u=>exact absurd (xbh (x.lt q) e) (xfg _)
theorem HOk.kept (x:HOk P w H h)(k:∀b u,h.get? b=some u->h'.get? b=some u):HOk P w H h':=fun a o e =>
 (x a o e).stay (fun b u _ q=>k b u q) (fun _ q=>q) fun _ _ q=>q
theorem HOk.laid (x:HOk P w H h)(k:∀b u,h.get? b=some u->h'.get? b=some u)(hp:h.objs.size<=a)(new:ObjOk P w (upd H a o) h' a o):HOk P w (upd H a o) h':=fun b u e=>by
 have hn:=x.fresh hp;by_cases hb:b=a
 ·subst hb;rw[zm] at e;cases e;exact new
 ·rw[zn hb] at e;exact(x b u e).stay (fun c v _ q=>k c v q) (fun c q=>by rw[zn (zj q hn)];exact q) fun c xs q=>by rw[zn (zj q hn)];exact q
end
def Rd (H:Hp) (a:Addr) (u:HO):Prop:=H a=some u\/∃o,H a=some (.frz o u)
theorem Rd.ok {P:Program}{w:World}{H:Hp}{h:Heap}{a:Addr}{u:HO}(r:Rd H a u)(x:HOk P w H h):ObjOk P w H h a u:=by
 rcases r with r | ⟨o,r⟩
 ·exact x a u r
 ·obtain⟨_,q⟩:=x a _ r;exact q
def Mut:Option HO->Prop
 | some (.lst _)=>True
 | some (.dK _)=>True
 | some (.dT _)=>True
 | some (.set _ _)=>True
 | some (.ins _ _ _)=>True
 | some (.ext _)=>True
 | _=>False
section
variable {P:Program}{w:World}{H:Hp}{h h':Heap}{x e:Addr}{o':HO}
theorem HOk.write (ok:HOk P w H h)(mu:Mut (H x))(he:e=x\/H e=some (.own x))(k:∀b u,b≠e->h.get? b=some u->h'.get? b=some u)(heo:∃u,h'.get? e=some u)
  (new:ObjOk P w (upd H x o') h' x o'):HOk P w (upd H x o') h':=fun b u q=>by
 have nown:∀c y,H c=some (.own y)->c≠x:=fun c y r z=>by subst z;rw[r] at mu;exact mu
 have ntup:∀c xs,H c=some (.tup xs)->c≠x:=fun c xs r z=>by subst z;rw[r] at mu;exact mu
 by_cases hb:b=x
 ·subst hb;rw[zm] at q;cases q;exact new
 ·rw[zn hb] at q;by_cases hbe:b=e
  ·have q':H b=some (.own x):=by
    rcases he with z | z
    ·exact absurd (hbe.trans z) hb
    ·rw[hbe];exact z
   rw[q] at q';cases q'
   obtain⟨v,hv⟩:=heo;exact⟨v,by rw[hbe];exact hv⟩
  ·refine(ok b u q).stay (fun c v hc r=>k c v ?_ r) (fun c r=>by rw[zn (nown c b r)];exact r) fun c xs r=>by rw[zn (ntup c xs r)];exact r
   rcases hc with rfl | hc
   ·exact hbe
   ·rintro rfl;rcases he with z | z
    ·exact nown c b hc z
    ·rw[hc] at z;cases z;exact hb rfl
end
structure Un (fs ex:List Addr) (H H':Hp) (h h':Heap):Prop where
 keep:∀b o,h.get? b=some o->H b=none->b∉fs->b∉ex->h'.get? b=some o
 slot:∀b o,h.get? b=some o->H b=none->b∈fs->b∉ex->∃sl,h'.get? b=some {o with slots:=sl}
 free:∀b o,h.get? b=some o->H b=none->b∉ex->H' b=none
 there:∀b o,h.get? b=some o->b∉ex->∃o',h'.get? b=some o'
 tups:∀b xs,H b=some (.tup xs)->H' b=some (.tup xs)
 frzs:∀b o u,H b=some (.frz o u)->H' b=some (.frz o u)
 tbls:∀b ps,H b=some (.tbl ps)->∃more,H' b=some (.tbl (ps++more))
section
variable {fs fs' ex ex':List Addr}{H H1 H2:Hp}{h h1 h2 h':Heap}{a x e:Addr}{o:HO}
theorem Un.any (u:Un fs ex H H1 h h1){b:Addr}{ob:Obj}(q:h.get? b=some ob)(n:H b=none)(hx:b∉ex):∃sl,h1.get? b=some {ob with slots:=sl}:=by
 by_cases hb:b∈fs
 ·exact u.slot b ob q n hb hx
 ·exact⟨ob.slots,u.keep b ob q n hb hx⟩
theorem Un.kept (k:∀b u,h.get? b=some u->h'.get? b=some u):Un fs ex H H h h' :=
 ⟨fun b ob q _ _ _=>k b ob q,fun b ob q _ _ _=>⟨ob.slots,k b ob q⟩,fun _ _ _ n _=>n,fun b ob q _=>⟨ob,k b ob q⟩,fun _ _ q=>q,fun _ _ _ q=>q,fun _ ps q=>⟨#[],by rw[q];simp⟩⟩
theorem Un.refl:Un fs ex H H h h:=Un.kept fun _ _ q=>q
theorem Un.laid (k:∀b u,h.get? b=some u->h'.get? b=some u)(hp:h.objs.size<=a)(hn:H a=none):Un fs ex H (upd H a o) h h' where
 keep:=fun b u q _ _ _=>k b u q
 slot:=fun b u q _ _ _=>⟨u.slots,k b u q⟩
 free:=fun b u q n _=>by rw[zn (xbv (xbh (xbi q) hp))];exact n
 there:=fun b u q _=>⟨u,k b u q⟩
 tups:=fun b xs q=>by rw[zn (zj q hn)];exact q
 frzs:=fun b u xs q=>by rw[zn (zj q hn)];exact q
 tbls:=fun b ps q=>⟨#[],by rw[zn (zj q hn),q];simp⟩
theorem Un.write (mu:Mut (H x))(he:e=x\/H e=some (.own x))(k:∀b u,b≠e->h.get? b=some u->h'.get? b=some u)(heo:∃u,h'.get? e=some u):Un fs ex H (upd H x o) h h':=by
 have hx:∀b,H b=none->b≠x:=fun b n z=>by subst z;rw[n] at mu;exact mu
 have hb:∀b,H b=none->b≠e:=fun b n z=>by
  subst z;rcases he with r | r
  ·exact hx b n r
  ·rw[n] at r;cases r
 have hm:∀b u,H b=some u->¬ Mut (some u)->b≠x:=fun b u q nm z=>by subst z;rw[q] at mu;exact nm mu
 refine⟨fun b u q n _ _=>k b u (hb b n) q,fun b u q n _ _=>⟨u.slots,k b u (hb b n) q⟩,fun b u q n _=>by rw[zn (hx b n)];exact n,fun b u q _=>?_,
  fun b xs q=>by rw[zn (hm b _ q fun z=>z)];exact q,fun b u xs q=>by rw[zn (hm b _ q fun z=>z)];exact q,fun b ps q=>⟨#[],by rw[zn (hm b _ q fun z=>z),q];simp⟩⟩
 by_cases hbe:b=e
 ·subst hbe;exact heo
 ·exact⟨u,k b u hbe q⟩
end
def trk (h:Heap) (H:Hp):List Addr:=(List.range h.objs.size).filter fun a=>(H a).isSome
def hidT (h:Heap) (H:Hp):Heap:=W.hideAll h (trk h H)
theorem zud (h:Heap)(H:Hp):(hidT h H).objs.size=h.objs.size:=W.hideAll_size _ _
theorem zyr {h:Heap}{H:Hp}{b:Addr}{o:Obj}(e:h.get? b=some o)(n:H b=none):(hidT h H).get? b=some o :=
 W.hideAll_get _ e fun hm=>by
  have q:(H b).isSome=true:=(xiy.mp hm).2;rw[n] at q;simp at q
theorem zbck {h:Heap}{H:Hp}{b:Addr}{o:Obj}(e:(hidT h H).get? b=some o):h.get? b=some o/\H b=none:=by
 have e':h.get? b=some o:=W.of_hideAll (trk h H) e;refine⟨e',?_⟩;cases q:H b with
 | none=>rfl
 | some x =>
  have hm:b∈trk h H:=xiy.mpr ⟨xck.mpr (xbi e'),by simp[q]⟩;have z:(hidT h H).get? b=none:=W.hideAll_none (trk h H) hm;rw[z] at e;cases e
structure Mod (K:Fg) (mg:Str->Option Value) (base:Heap):Prop where
 kin:K.In base
 glob:base.Ns mainGlobals mg
 blt:∃ mb, base.Ns builtinsNs mb/\∀ x:Str, x≠"__name__"->mb x=bootBuiltins x
 nolimit:base.NoLimit
structure Cx where
 prog:Program
 w:World
 K:Fg
 mg:Str->Option Value
 base:Heap
 A:Around
 N:List Str
 s₀:Shared
 H₀:Hp
 env:Env
 outer:List Env
 stack:List Env
 ex:List Addr
 fn:Str->Bool
 calm:Bool
 pn:List (Addr×Obj)
 xe:Value->Shared->Prop
def frs (l:List Env):List Addr:=l.filterMap (·.frame)
abbrev Cx.fs (X:Cx):List Addr:=frs X.outer
def Vis (sc:Scope) (x:Str):Prop:=sc.names.lookup x=some .local\/sc.names.lookup x=some .cell\/sc.names.lookup x=some .free
def Loc (sc:Scope) (x:Str):Prop:=sc.names.lookup x=some .local\/sc.names.lookup x=some .cell
def Look (env:Env) (h:Heap) (m:Str->Option Value) (x:Str) (u:Value):Prop :=
 (env.kindOf x=some .local/\m x=some u)\/((env.kindOf x=some .cell\/env.kindOf x=some .free)/\∃c,env.cells.lookup x=some c/\h.IsCell c (some u))
structure Cx.Ok (X:Cx):Prop where
 mod:Mod X.K X.mg X.base
 kind:X.env.scope.kind=.function
 glob:X.env.globals=mainGlobals
 blt:X.env.builtins=builtinsNs
 above:X.s₀.heap.objs.size<=X.env.locals
 inj:∀x y c,X.env.cells.lookup x=some c->X.env.cells.lookup y=some c->x=y
 has:∀x,(X.env.kindOf x=some .cell\/X.env.kindOf x=some .free)->∃c,X.env.cells.lookup x=some c
 cab:∀x c,X.fn x=true->X.env.cells.lookup x=some c->X.s₀.heap.objs.size<=c
 hd:X.calm=true->X.A.handled=none
 frames:X.A.frames=some X.stack
 stk:X.stack=X.outer\/(X.stack=X.env::X.outer/\X.env.frame=some X.env.locals)
 exf:∀b∈X.ex,b≠X.env.locals/\∀x c,X.env.cells.lookup x=some c->c≠b
 bs:∀b o,X.base.get? b=some o->X.s₀.heap.get? b=some o/\X.H₀ b=none
 bsz:X.base.objs.size<=X.s₀.heap.objs.size
 noex:∀b o,X.base.get? b=some o->b∉X.ex
 exfs:∀b∈X.ex,b∉X.fs
 funs:X.s₀.heap.FunFrames X.base X.outer
 frf:∀b∈X.fs,X.H₀ b=none
def Hnd (A:Around) (H:Hp):Prop:=∀v,A.handled=some v->∃a o,v=.ref a/\H a=some (.frz o (.ext fun _=>True))/\∃vs,o.data=.fields vs/\vs[2]?=some .none
theorem Hnd.map {A:Around}{H H':Hp}(h:Hnd A H)(f:∀b o u,H b=some (.frz o u)->H' b=some (.frz o u)):Hnd A H':=fun v e=>let ⟨a,o,h1,h2,h3⟩:=h v e;⟨a,o,h1,f _ _ _ h2,h3⟩
theorem Hnd.none {A:Around}{H:Hp}(h:A.handled=.none):Hnd A H:=fun v e=>by rw[h] at e;cases e
structure Inv (X:Cx) (aY:List (Addr×Obj)) (σ:List (Option V)) (H:Hp) (s:Shared):Prop where
 ok:X.Ok
 os:s.os=X.s₀.os
 bare:AllBare s.gens
 base:Un X.fs X.ex X.H₀ H X.s₀.heap s.heap
 loc:∃m,s.heap.Ns X.env.locals m/\∀(i:Nat) (x:Str) (v:V),X.N[i]?=some x->σ[i]?=some (some v)->Vis X.env.scope x->∃u,RelV v u/\Look X.env s.heap m x u
 cell:∀x c,X.env.cells.lookup x=some c->∃v,s.heap.IsCell c v
 free:H X.env.locals=none
 freeC:∀x c,X.env.cells.lookup x=some c->H c=none
 pin:∀p∈X.pn++aY,s.heap.get? p.1=some p.2/\H p.1=none/\p.1≠X.env.locals/\p.1∉X.fs/\∀v,p.2.data≠.cell v
 hok:HOk X.prog X.w H s.heap
 len:σ.length=X.N.length
 hnd:Hnd X.A H
section
variable {X:Cx}{aY:List (Addr×Obj)}{σ:List (Option V)}{H H':Hp}{s:Shared}{h':Heap}
theorem Cx.Ok.nofr (ok:X.Ok){b:Addr}{o:Obj}(e:X.base.get? b=some o):b∉X.fs:=fun hb=>by
 have:=(ok.funs.mem hb).1;rw[e] at this;cases this
theorem Inv.bs (I:Inv X aY σ H s):∀b o,X.base.get? b=some o->s.heap.get? b=some o/\H b=none:=fun b o e =>
 ⟨I.base.keep b o (I.ok.bs b o e).1 (I.ok.bs b o e).2 (I.ok.nofr e) (I.ok.noex b o e),I.base.free b o (I.ok.bs b o e).1 (I.ok.bs b o e).2 (I.ok.noex b o e)⟩
theorem Inv.bk (I:Inv X aY σ H s):∀b o,X.base.get? b=some o->s.heap.get? b=some o:=fun b o e=>(I.bs b o e).1
theorem Inv.mod (I:Inv X aY σ H s):Mod X.K X.mg X.base:=I.ok.mod
theorem Inv.kIn (I:Inv X aY σ H s):X.K.In s.heap:=I.ok.mod.kin.keeps I.bk
theorem Inv.lt (I:Inv X aY σ H s):X.env.locals < s.heap.objs.size:=let ⟨_,hn,_⟩:=I.loc;hn.lt
theorem Inv.sz (I:Inv X aY σ H s):X.s₀.heap.objs.size<=s.heap.objs.size:=xbc I.ok.above (xbw I.lt)
theorem Inv.nofs (I:Inv X aY σ H s){a:Addr}(h:s.heap.objs.size<=a):a∉X.fs:=fun hb=>by
 obtain⟨_,o,ho,_⟩:=I.ok.funs.mem hb;exact absurd (xbh (xbi ho) (xbc I.sz h)) (xfg _)
theorem Inv.cne (I:Inv X aY σ H s):∀x c,X.env.cells.lookup x=some c->c≠X.env.locals:=fun x c e z=>by
 obtain⟨v,o,ho,hd⟩:=I.cell x c e;obtain⟨m,⟨o',es,ep,ho',hd',_⟩,_⟩:=I.loc;rw[z,ho'] at ho;cases ho;rw[hd'] at hd;cases hd
theorem Inv.funs (I:Inv X aY σ H s):s.heap.FunFrames X.base X.outer:=by
 have all:∀(l:List Env),(∀b∈frs l,b∈X.fs)->X.s₀.heap.FunFrames X.base l->s.heap.FunFrames X.base l:=by
  intro l
  induction l with
  | nil=>intro _ _;trivial
  | cons env r ih =>
   intro hs hl;obtain⟨hk,⟨L,o,hf,hn,ho,hd⟩,hr⟩:=hl;have hL:L∈X.fs:=hs L (by unfold frs;rw[xiw,hf];exact xcm);obtain⟨sl,e⟩:=I.base.slot L o ho (I.ok.frf L hL) hL fun z=>I.ok.exfs L z hL
   exact⟨hk,⟨L,_,hf,hn,e,hd⟩,ih (fun b hb=>hs b (by unfold frs;rw[xiw,hf];exact xcq _ hb)) hr⟩
 exact all X.outer (fun _ hb=>hb) I.ok.funs
theorem Inv.stack (I:Inv X aY σ H s):s.heap.FunFrames X.base X.stack:=by
 rcases I.ok.stk with e | ⟨e,hf⟩
 ·rw[e];exact I.funs
 ·rw[e];obtain⟨m,hn,_⟩:=I.loc;refine .cons (by rw[I.ok.kind];decide) hf hn ?_ I.funs;exact Heap.get?_none_of_le (xbc I.ok.bsz I.ok.above)
theorem Inv.stkSub (I:Inv X aY σ H s):∀b∈frs X.stack,b∈X.env.locals::X.fs:=fun b hb=>by
 rcases I.ok.stk with e | ⟨e,hf⟩
 ·rw[e] at hb;exact xcq _ hb
 ·rw[e] at hb;unfold frs at hb;rw[xiw,hf] at hb;exact hb
theorem Inv.stkFree (I:Inv X aY σ H s):∀b∈frs X.stack,H b=none:=fun b hb=>by
 rcases xbu.mp (I.stkSub b hb) with e | hb
 ·rw[e];exact I.free
 ·obtain⟨_,o,ho,_⟩:=I.ok.funs.mem hb;exact I.base.free b o ho (I.ok.frf b hb) fun z=>I.ok.exfs b z hb
theorem Inv.step {g':Array GenState}{t':Nat}{d':Drawn}{ch:List Addr}(I:Inv X aY σ H s)
  (hch:∀b∈ch,(b∈X.ex\/X.s₀.heap.objs.size<=b)/\b≠X.env.locals/\(∀x c,X.env.cells.lookup x=some c->c≠b)/\∀p∈X.pn++aY,p.1≠b)
  (keep:∀b o,b≠X.env.locals->b∉X.fs->b∉ch->s.heap.get? b=some o->H b=none->h'.get? b=some o)
  (slot:∀b o,b≠X.env.locals->b∈X.fs->b∉ch->s.heap.get? b=some o->H b=none->∃sl,h'.get? b=some {o with slots:=sl})(free:∀b o,b∉ch->s.heap.get? b=some o->H b=none->H' b=none)
  (there:∀b o,b∉ch->s.heap.get? b=some o->∃o',h'.get? b=some o')
  (tups:∀b xs,H b=some (.tup xs)->H' b=some (.tup xs))(frzs:∀b o u,H b=some (.frz o u)->H' b=some (.frz o u))(tbls:∀b ps,H b=some (.tbl ps)->∃more,H' b=some (.tbl (ps++more)))
  (ns:∀m,s.heap.Ns X.env.locals m->h'.Ns X.env.locals m)(hok:HOk X.prog X.w H' h')(hg:AllBare g') :
  Inv X aY σ H' {s with heap:=h',gens:=g',drawn:=d',toks:=t'}:=by
 have neL:∀b o,X.s₀.heap.get? b=some o->b≠X.env.locals:=fun b o e=>xbv (xbh (xbi e) I.ok.above)
 have neC:∀b o,X.s₀.heap.get? b=some o->b∉X.ex->b∉ch:=fun b o e hx hb=>by
  rcases(hch b hb).1 with z | z
  ·exact hx z
  ·exact absurd (xbh (xbi e) z) (xfg _)
 have cellK:∀x c,X.env.cells.lookup x=some c->∀v,s.heap.IsCell c v->h'.IsCell c v:=fun x c e v hq0=>by
  obtain⟨o,ho,hd⟩:=hq0;have nch:c∉ch:=fun z=>(hch c z).2.2.1 x c e rfl
  by_cases hc:c∈X.fs
  ·obtain⟨sl,q⟩:=slot c o (I.cne x c e) hc nch ho (I.freeC x c e);exact⟨_,q,hd⟩
  ·exact⟨o,keep c o (I.cne x c e) hc nch ho (I.freeC x c e),hd⟩
 refine⟨I.ok,I.os,hg,⟨fun b o e n hb hx=>?_,fun b o e n hb hx=>?_,fun b o e n hx=>?_,fun b o e hx=>?_,fun b xs e=>tups b xs (I.base.tups b xs e),fun b o xs e=>frzs b o xs (I.base.frzs b o xs e),fun b ps e=>?_⟩,?_,fun x c e=>?_,?_,fun x c e=>?_,fun p hp=>?_,hok,I.len,I.hnd.map frzs⟩
 ·exact keep b o (neL b o e) hb (neC b o e hx) (I.base.keep b o e n hb hx) (I.base.free b o e n hx)
 ·obtain⟨sl,e1⟩:=I.base.slot b o e n hb hx;obtain⟨sl',e2⟩:=slot b _ (neL b o e) hb (neC b o e hx) e1 (I.base.free b o e n hx);exact⟨sl',e2⟩
 ·obtain⟨o',e1⟩:=I.base.there b o e hx;exact free b o' (neC b o e hx) e1 (I.base.free b o e n hx)
 ·obtain⟨o',e1⟩:=I.base.there b o e hx;exact there b o' (neC b o e hx) e1
 ·obtain⟨m1,e1⟩:=I.base.tbls b ps e;obtain⟨m2,e2⟩:=tbls b _ e1;exact⟨m1++m2,by rw[e2,Array.append_assoc]⟩
 ·obtain⟨m,hn,hl⟩:=I.loc;refine⟨m,ns m hn,fun i x v e1 e2 e3=>?_⟩;obtain⟨u,r,l⟩:=hl i x v e1 e2 e3;refine⟨u,r,?_⟩;rcases l with l | ⟨k,c,e,z⟩
  ·exact .inl l
  ·exact .inr ⟨k,c,e,cellK x c e _ z⟩
 ·obtain⟨v,z⟩:=I.cell x c e;exact⟨v,cellK x c e v z⟩
 ·obtain⟨m,⟨o,_,_,ho,_⟩,_⟩:=I.loc;exact free _ o (fun z=>(hch _ z).2.1 rfl) ho I.free
 ·obtain⟨v,o,ho,hd⟩:=I.cell x c e;exact free c o (fun z=>(hch c z).2.2.1 x c e rfl) ho (I.freeC x c e)
 ·obtain⟨e,n,ne,nf,d⟩:=I.pin p hp;have nch:p.1∉ch:=fun z=>(hch p.1 z).2.2.2 p hp rfl
  exact⟨keep p.1 p.2 ne nf nch e n,free p.1 p.2 nch e n,ne,nf,d⟩
theorem Inv.un {t':Nat}(I:Inv X aY σ H s)(u:Un X.fs [] H H' s.heap h')(hok:HOk X.prog X.w H' h'):Inv X aY σ H' {s with heap:=h',toks:=t'}:=by
 obtain⟨m,⟨o,es,ep,ho,r⟩,_⟩:=id I.loc;obtain⟨sl,hL⟩:=u.any ho I.free (by simp)
 exact I.step (g':=s.gens) (d':=s.drawn) (ch:=[]) (fun _ z=>nomatch z) (fun b o _ hb _ e n=>u.keep b o e n hb (by simp)) (fun b o _ hb _ e n=>u.slot b o e n hb (by simp)) (fun b o _ e n=>u.free b o e n (by simp)) (fun b o _ e=>u.there b o e (by simp)) u.tups u.frzs u.tbls (fun m' hm=>by
  obtain⟨o',es',ep',ho',r'⟩:=hm;rw[ho] at ho';cases ho'
  exact⟨_,es',ep',hL,r'⟩) hok I.bare
theorem Inv.call {g':Array GenState}{t':Nat}{d':Drawn}{ch:List Addr}(I:Inv X aY σ H s)(u:Un (frs X.stack) ch H H' s.heap h')(hok:HOk X.prog X.w H' h')(hg:AllBare g')
  (hch:∀b∈ch,(b∈X.ex\/X.s₀.heap.objs.size<=b)/\b≠X.env.locals/\(∀x c,X.env.cells.lookup x=some c->c≠b)/\∀p∈X.pn++aY,p.1≠b) :
  Inv X aY σ H' {s with heap:=h',gens:=g',drawn:=d',toks:=t'}:=by
 obtain⟨m,⟨o,es,ep,ho,r⟩,_⟩:=id I.loc;obtain⟨sl,hL⟩:=u.any ho I.free fun z=>(hch _ z).2.1 rfl
 exact I.step (ch:=ch) hch (fun b o hL hb hc e n=>u.keep b o e n (fun z=>(xbu.mp (I.stkSub b z)).elim hL hb) hc) (fun b o _ _ hc e n=>u.any e n hc) (fun b o hc e n=>u.free b o e n hc) (fun b o hc e=>u.there b o e hc) u.tups u.frzs u.tbls (fun m' hm=>by
  obtain⟨o',es',ep',ho',r'⟩:=hm;rw[ho] at ho';cases ho'
  exact⟨_,es',ep',hL,r'⟩) hok hg
theorem Inv.turned {t':Nat}{it:Addr}(I:Inv X aY σ H s)(k:∀b o,b≠it->s.heap.get? b=some o->h'.get? b=some o)(hn:H it=none)(hL:it≠X.env.locals)
  (h1:it∈X.ex\/X.s₀.heap.objs.size<=it)(h2:∀x c,X.env.cells.lookup x=some c->c≠it)(h3:∀p∈X.pn++aY,p.1≠it):Inv X aY σ H {s with heap:=h',toks:=t'}:=by
 have nit:∀b u,H b=some u->b≠it:=fun b u e z=>by rw[z,hn] at e;cases e
 refine I.step (g':=s.gens) (d':=s.drawn) (ch:=[it]) (fun b hb=>?_) (fun b o _ _ hc e _=>k b o (fun z=>hc (by simp[z])) e) (fun b o _ _ hc e _=>⟨o.slots,k b o (fun z=>hc (by simp[z])) e⟩) (fun _ _ _ _ n=>n)
  (fun b o hc e=>⟨o,k b o (fun z=>hc (by simp[z])) e⟩) (fun _ _ e=>e) (fun _ _ _ e=>e) (fun b ps e=>⟨#[],by rw[e];simp⟩) (fun m hm=>?_) (fun b u e=>?_) I.bare
 ·have e:b=it:=by simpa using hb
  subst e;exact⟨h1,hL,h2,h3⟩
 ·obtain⟨o,es,ep,ho,r⟩:=hm;exact⟨o,es,ep,k _ o (xct hL) ho,r⟩
 ·refine(I.hok b u e).stay (fun c v hc q=>k c v ?_ q) (fun _ q=>q) fun _ _ q=>q
  rcases hc with z | z
  ·rw[z];exact nit b u e
  ·exact nit c _ z
theorem Inv.tok (I:Inv X aY σ H s)(t:Nat):Inv X aY σ H {s with toks:=t}:=I.un (h':=s.heap) (t':=t) Un.refl I.hok
theorem Inv.kept {t':Nat}(I:Inv X aY σ H s)(k:∀b u,s.heap.get? b=some u->h'.get? b=some u):Inv X aY σ H {s with heap:=h',toks:=t'}:=I.un (Un.kept k) (I.hok.kept k)
theorem Inv.laid {a:Addr}{o:HO}{t':Nat}(I:Inv X aY σ H s)(k:∀b u,s.heap.get? b=some u->h'.get? b=some u)(hp:s.heap.objs.size<=a)(new:ObjOk X.prog X.w (upd H a o) h' a o) :
 Inv X aY σ (upd H a o) {s with heap:=h',toks:=t'}:=I.un (Un.laid k hp (I.hok.fresh hp)) (I.hok.laid k hp new)
theorem Inv.write {x e:Addr}{o:HO}{t':Nat}(I:Inv X aY σ H s)(mu:Mut (H x))(he:e=x\/H e=some (.own x))(k:∀b u,b≠e->s.heap.get? b=some u->h'.get? b=some u)(heo:∃u,h'.get? e=some u)
 (new:ObjOk X.prog X.w (upd H x o) h' x o):Inv X aY σ (upd H x o) {s with heap:=h',toks:=t'}:=I.un (Un.write mu he k heo) (I.hok.write mu he k heo new)
theorem Inv.pins_of {pins':List (Addr×Obj)}(I:Inv X aY σ H s)(h:∀p∈pins',s.heap.get? p.1=some p.2/\H p.1=none/\p.1≠X.env.locals/\p.1∉X.fs/\∀v,p.2.data≠.cell v):Inv X pins' σ H s :=
 ⟨I.ok,I.os,I.bare,I.base,I.loc,I.cell,I.free,I.freeC,fun p hp=>(xce.mp hp).elim (fun z=>I.pin p (xhb _ z)) (h p),I.hok,I.len,I.hnd⟩
theorem zqt {N:List Str}(hN:N.Nodup){i j:Nat}{x:Str}(a:N[i]?=some x)(b:N[j]?=some x):i=j:=by
 obtain⟨h1,e1⟩:=xbo.mp a;obtain⟨h2,e2⟩:=xbo.mp b;exact(List.getElem_inj hN).mp (e1.trans e2.symm)
theorem znb {M:Model}{A:Around}{E:Value->Shared->Prop}{i:Nat}{x:Str}{v:V}{u:Value}{Q:Unit->Shared->Prop}(I:Inv X aY σ H s)(hN:X.N.Nodup)(hi:X.N[i]?=some x)(hx:Loc X.env.scope x)(r:RelV v u)
  (h:∀s',Inv X aY (σ.set i (some v)) H s'->(∃a,Heap.SameBut a s.heap s'.heap/\(a=X.env.locals\/X.env.cells.lookup x=some a))->Q () s')(hf:X.fn x=true\/X.env.scope.names.lookup x=some .local:=by first | exact .inl rfl | exact .inr rfl | assumption):wpAny M A (storeName X.env x u) Q E s:=by
 obtain⟨m,hn,hl⟩:=id I.loc;have hcls:(X.env.scope.kind==.class||(X.env.scope.kind==.module&&X.env.locals != X.env.globals))=false:=by rw[I.ok.kind];rfl
 have hiσ:i < σ.length:=by rw[I.len];exact(xbo.mp hi).1
 have cne:=I.cne;have tracked:∀{a:Addr} {h':Heap},(∃o,s.heap.get? a=some o/\H a=none)->Heap.SameBut a s.heap h'->HOk X.prog X.w H h':=fun {a h'} ha hs b ob e=>by
  obtain⟨_,_,hfree⟩:=ha;refine(I.hok b ob e).stay (fun c w' hc q=>(hs.2 c ?_).trans q) (fun _ q=>q) fun _ _ q=>q
  rintro rfl;rcases hc with rfl | hc
  ·rw[hfree] at e;cases e
  ·rw[hfree] at hc;cases hc
 rcases hx with hk | hk
 ·refine wpAny_storeName_local hk hn (fun h' hn' hs=>?_) hcls;obtain⟨oL,_,_,hoL,_⟩:=id hn;refine h _ ⟨I.ok,I.os,I.bare,⟨fun b o e n hb hx=>?_,fun b o e n hb hx=>?_,I.base.free,fun b o e hx=>?_,I.base.tups,I.base.frzs,I.base.tbls⟩,⟨_,hn',fun j y v' e1 e2 e3=>?_⟩,fun y c e=>?_,I.free,I.freeC,fun p hp=>?_,tracked ⟨oL,hoL,I.free⟩ hs,by simpa using I.len,I.hnd⟩ ⟨_,hs,.inl rfl⟩
  ·exact(hs.2 b (xbv (xbh (xbi e) I.ok.above))).trans (I.base.keep b o e n hb hx)
  ·obtain⟨sl,e1⟩:=I.base.slot b o e n hb hx;exact⟨sl,(hs.2 b (xbv (xbh (xbi e) I.ok.above))).trans e1⟩
  ·obtain⟨o',e1⟩:=I.base.there b o e hx;exact⟨o',(hs.2 b (xbv (xbh (xbi e) I.ok.above))).trans e1⟩
  ·by_cases hj:j=i
   ·subst hj;rw[hi] at e1;cases e1
    rw[xds hiσ] at e2;cases e2;exact⟨u,r,.inl ⟨hk,by simp⟩⟩
   ·rw[xcf (xct hj)] at e2;obtain⟨u',r',q⟩:=hl j y v' e1 e2 e3;refine⟨u',r',?_⟩;rcases q with⟨k,e⟩ | ⟨k,c,e,z⟩
    ·refine .inl ⟨k,?_⟩;have:y≠x:=fun e=>hj (zqt hN e1 (e ▸ hi))
     simp[this,e]
    ·exact .inr ⟨k,c,e,z.sameBut hs (cne y c e)⟩
  ·obtain⟨w',z⟩:=I.cell y c e;exact⟨w',z.sameBut hs (cne y c e)⟩
  ·obtain⟨e,n,ne,nf,d⟩:=I.pin p hp;exact⟨(hs.2 p.1 ne).trans e,n,ne,nf,d⟩
 ·have hfn:X.fn x=true:=by
   rcases hf with z | z
   ·exact z
   ·rw[z] at hk;cases hk
  obtain⟨c,hc⟩:=I.ok.has x (.inl hk);obtain⟨w',z⟩:=I.cell x c hc;refine wpAny_storeName_cell I.ok.kind hk hc z (fun h' hc' hs=>?_);obtain⟨oc,hoc,hocd⟩:=id z;refine h {s with heap:=h'} ⟨I.ok,I.os,I.bare,⟨fun b o e n hb hx=>?_,fun b o e n hb hx=>?_,I.base.free,fun b o e hx=>?_,I.base.tups,I.base.frzs,I.base.tbls⟩,⟨m,hn.sameBut hs (xct (cne x c hc)),fun j y v' e1 e2 e3=>?_⟩,fun y c' e=>?_,I.free,I.freeC,fun p hp=>?_,tracked ⟨oc,hoc,I.freeC x c hc⟩ hs,by simpa using I.len,I.hnd⟩ ⟨c,hs,.inr hc⟩
  ·exact(hs.2 b (xbv (xbh (xbi e) (I.ok.cab x c hfn hc)))).trans (I.base.keep b o e n hb hx)
  ·obtain⟨sl,e1⟩:=I.base.slot b o e n hb hx;exact⟨sl,(hs.2 b (xbv (xbh (xbi e) (I.ok.cab x c hfn hc)))).trans e1⟩
  ·obtain⟨o',e1⟩:=I.base.there b o e hx;exact⟨o',(hs.2 b (xbv (xbh (xbi e) (I.ok.cab x c hfn hc)))).trans e1⟩
  ·by_cases hj:j=i
   ·subst hj;rw[hi] at e1;cases e1
    rw[xds hiσ] at e2;cases e2;exact⟨u,r,.inr ⟨.inl hk,c,hc,hc'⟩⟩
   ·rw[xcf (xct hj)] at e2;obtain⟨u',r',q⟩:=hl j y v' e1 e2 e3;refine⟨u',r',?_⟩;rcases q with q | ⟨k,c',e,z'⟩
    ·exact .inl q
    ·refine .inr ⟨k,c',e,z'.sameBut hs ?_⟩;rintro rfl;exact hj (zqt hN e1 (I.ok.inj _ _ _ e hc ▸ hi))
  ·by_cases hcc:c'=c
   ·subst hcc;exact⟨_,hc'⟩
   ·obtain⟨w2,z2⟩:=I.cell y c' e;exact⟨w2,z2.sameBut hs hcc⟩
  ·obtain⟨e,n,ne,nf,d⟩:=I.pin p hp;refine⟨(hs.2 p.1 ?_).trans e,n,ne,nf,d⟩;intro q;rw[q,hoc] at e;have q':oc=p.2:=xby e;exact d w' (by rw[← q'];exact hocd)
theorem zjn {M:Model}{A:Around}{E:Value->Shared->Prop}{i:Nat}{x:Str}{v:V}{u:Value}{Q:Unit->Shared->Prop}(I:Inv X aY σ H s)(hN:X.N.Nodup)(hi:X.N[i]?=some x)(hx:Loc X.env.scope x)(r:RelV v u)
  (h:∀s',Inv X aY (σ.set i (some v)) H s'->Q () s')(hf:X.fn x=true\/X.env.scope.names.lookup x=some .local:=by first | exact .inl rfl | exact .inr rfl | assumption):wpAny M A (storeName X.env x u) Q E s :=
 znb I hN hi hx r (fun s' I' _=>h s' I') hf
theorem Inv.call' {s':Shared}{ch:List Addr}(I:Inv X aY σ H s)(ho:s'.os=s.os)(u:Un (frs X.stack) ch H H' s.heap s'.heap)(hok:HOk X.prog X.w H' s'.heap)(hg:AllBare s'.gens)
  (hch:∀b∈ch,(b∈X.ex\/X.s₀.heap.objs.size<=b)/\b≠X.env.locals/\(∀x c,X.env.cells.lookup x=some c->c≠b)/\∀p∈X.pn++aY,p.1≠b):Inv X aY σ H' s':=by
 obtain⟨h',g',d',t',o'⟩:=s';have e:o'=s.os:=ho;subst e;exact I.call (g':=g') (t':=t') (d':=d') u hok hg hch
end
abbrev XK:=Value->Option Addr->Hp->Prop
abbrev St:=List (Option V)
abbrev VK:=V->Hp->Prop
abbrev TE:=St->Hp->VK->Prop
abbrev TT:=St->Hp->(Bool->Hp->Prop)->Prop
abbrev TA:=St->Hp->(List V->Hp->Prop)->Prop
structure Ends where
 nx:St->Hp->Prop
 rt:VK
 bk:St->Hp->Prop:=fun _ _=>False
 ct:St->Hp->Prop:=fun _ _=>False
abbrev TS:=Ends->St->Hp->Prop
def EP (X:Cx) (aY:List (Addr×Obj)) (σ:St) (Q:VK) (u:Value) (s':Shared):Prop:=∃v H',Inv X aY σ H' s'/\RelV v u/\Q v H'
def TP (X:Cx) (aY:List (Addr×Obj)) (σ:St) (Q:Bool->Hp->Prop) (b:Bool) (s':Shared):Prop:=∃H',Inv X aY σ H' s'/\Q b H'
def AP (X:Cx) (aY:List (Addr×Obj)) (σ:St) (Q:List V->Hp->Prop) (us:List Value) (s':Shared):Prop:=∃vs H',Inv X aY σ H' s'/\Vals vs us/\Q vs H'
def SP (X:Cx) (aY:List (Addr×Obj)) (D:Ends) (f:Flow) (s':Shared):Prop :=
 match f with
 | .next=>∃σ' H',Inv X aY σ' H' s'/\D.nx σ' H'
 | .brk=>∃σ' H',Inv X aY σ' H' s'/\D.bk σ' H'
 | .cont=>∃σ' H',Inv X aY σ' H' s'/\D.ct σ' H'
 | .ret u=>∃v σ' H',Inv X aY σ' H' s'/\RelV v u/\D.rt v H'
def PE (X:Cx) (e:Expr) (t:TE):Prop :=
 ∀(aY:List (Addr×Obj)) (s:Shared) (σ:St) (H:Hp) (Q:VK),Inv X aY σ H s->t σ H Q->wpAny (model X.prog X.w) X.A (eval e X.env) (EP X aY σ Q) X.xe s
def PT (X:Cx) (e:Expr) (t:TT):Prop :=
 ∀(aY:List (Addr×Obj)) (s:Shared) (σ:St) (H:Hp) (Q:Bool->Hp->Prop),Inv X aY σ H s->t σ H Q->wpAny (model X.prog X.w) X.A (isTrue e X.env (eval e X.env)) (TP X aY σ Q) X.xe s
def PW (X:Cx) (e:Expr) (t:TT):Prop :=
 ∀(whole:Sem Value) (aY:List (Addr×Obj)) (s:Shared) (σ:St) (H:Hp) (Q:Bool->Hp->Prop),Inv X aY σ H s->t σ H Q->wpAny (model X.prog X.w) X.A (isTrue e X.env whole) (TP X aY σ Q) X.xe s
theorem PW.pt {X:Cx}{e:Expr}{t:TT}(h:PW X e t):PT X e t:=h _
def PA (X:Cx) (es:List Expr) (t:TA):Prop :=
 ∀(pos:Pos) (aY:List (Addr×Obj)) (s:Shared) (σ:St) (H:Hp) (Q:List V->Hp->Prop),Inv X aY σ H s->t σ H Q->wpAny (model X.prog X.w) X.A (spliced (backTo pos (starEach es X.env))) (AP X aY σ Q) X.xe s
def PS (X:Cx) (st:Stmt) (t:TS):Prop :=
 ∀(aY:List (Addr×Obj)) (s:Shared) (σ:St) (H:Hp) (D:Ends),Inv X aY σ H s->t D σ H->wpAny (model X.prog X.w) X.A (exec st X.env) (SP X aY D) X.xe s
def PSs (X:Cx) (st:List Stmt) (t:TS):Prop :=
 ∀(aY:List (Addr×Obj)) (s:Shared) (σ:St) (H:Hp) (D:Ends),Inv X aY σ H s->t D σ H->wpAny (model X.prog X.w) X.A (execs st X.env) (SP X aY D) X.xe s
theorem thn {α:Type}{t:Sem α}{Q Q':α->Shared->Prop}{M:Model}{A:Around}{E:Value->Shared->Prop}{s:Shared}(h:wpAny M A t Q E s)(hQ:∀a s,Q a s->Q' a s):wpAny M A t Q' E s:=xdh h hQ fun _ _ x=>x
section
variable {X:Cx}
def tVar (i:Nat):TE:=fun σ H Q=>∃v,σ[i]?=some (some v)/\Q v H
def tC (v:V):TE:=fun _ H Q=>Q v H
theorem zbhn {i:Nat}{x:Str}{pos:Pos}(hN:X.N[i]?=some x)(hv:Vis X.env.scope x)(hd:(x==("__debug__" : Str))=false:=by decide)(hcd:(x==("__classdict__" : Str))=false:=by decide):PE X (.Name x pos) (tVar i):=by
 intro aY s σ H Q I h;obtain⟨v,e,h⟩:=h;obtain⟨m,hn,hl⟩:=I.loc;obtain⟨u,r,l⟩:=hl i x v hN e hv;have fin:EP X aY σ Q u s:=⟨v,H,I,r,h⟩
 rcases l with⟨hk,hm⟩ | ⟨hk,c,hc,hcell⟩
 ·exact wpAny_Name (wpAny_loadName_local I.ok.kind hk hn hm fin) hd
 ·rcases hk with hk | hk
  ·exact wpAny_Name (wpAny_loadName_cell I.ok.kind hk hc hcell fin) hd
  ·exact wpAny_Name (wpAny_loadName_free I.ok.kind hk hc hcell fin hcd) hd
theorem zbbv {i j pos}:PE X (.Constant (.int i) j pos) (tC (.int i)):=fun _ _ _ H _ I h=>wpAny_Constant_int ⟨.int i,H,I.tok _,⟨_,rfl⟩,h⟩
theorem zbmo {b j pos}:PE X (.Constant (.bool b) j pos) (tC (.bl b)):=fun _ _ _ H _ I h=>Constant_bool ⟨.bl b,H,I,rfl,h⟩
theorem zbhr {j pos}:PE X (.Constant .none j pos) (tC .non):=fun _ _ _ H _ I h=>Constant_none ⟨.non,H,I,rfl,h⟩
theorem zbhp {x j pos}:PE X (.Constant (.str x) j pos) (tC (.str x)):=fun _ _ _ H _ I h=>Calls.Constant_str ⟨.str x,H,I.tok _,⟨_,rfl⟩,h⟩
def Gl (X:Cx) (x:Str):Prop:=X.env.kindOf x=some .globalImplicit
theorem zkq {E:Value->Shared->Prop}{aY:List (Addr×Obj)}{s:Shared}{σ:St}{H:Hp}{x:Str}{u:Value}{pos:Pos}{Q:Value->Shared->Prop}(I:Inv X aY σ H s)(hg:Gl X x)(hm:X.mg x=some u)(h:Q u s)
  (hd:(x==("__debug__" : Str))=false:=by decide):wpAny (model X.prog X.w) X.A (eval (.Name x pos) X.env) Q E s :=
 xit I.ok.kind hg (Calls.loadGlobal_global (by rw[I.ok.glob];exact I.mod.glob.keeps I.bk) hm h) hd
theorem zjt {E:Value->Shared->Prop}{aY:List (Addr×Obj)}{s:Shared}{σ:St}{H:Hp}{x:Str}{u:Value}{pos:Pos}{Q:Value->Shared->Prop}(I:Inv X aY σ H s)(hg:Gl X x)(hm:X.mg x=none)(hv:bootBuiltins x=some u)(h:Q u s)
  (hn:x≠"__name__":=by decide)(hd:(x==("__debug__" : Str))=false:=by decide):wpAny (model X.prog X.w) X.A (eval (.Name x pos) X.env) Q E s:=by
 obtain⟨mb,h1,h2⟩:=I.mod.blt;exact xit I.ok.kind hg (Calls.loadGlobal_builtin (by rw[I.ok.glob];exact I.mod.glob.keeps I.bk) hm (by rw[I.ok.blt];exact h1.keeps I.bk) ((h2 x hn).trans hv) h) hd
theorem zde {x:Str}{v:V}{u:Value}{pos:Pos}(hg:Gl X x)(hm:X.mg x=some u)(r:RelV v u)(hd:(x==("__debug__" : Str))=false:=by decide):PE X (.Name x pos) (tC v) :=
 fun _ _ _ H _ I h=>zkq I hg hm ⟨v,H,I,r,h⟩ hd
theorem zbca {x:Str}{v:V}{u:Value}{pos:Pos}(hg:Gl X x)(hm:X.mg x=none)(hv:bootBuiltins x=some u)(r:RelV v u)(hn:x≠"__name__":=by decide)(hd:(x==("__debug__" : Str))=false:=by decide):PE X (.Name x pos) (tC v) :=
 fun _ _ _ H _ I h=>zjt I hg hm hv ⟨v,H,I,r,h⟩ hn hd
variable {a b:Expr}{ta tb:TE}{pos:Pos}
def PC (X:Cx) (op:CmpOp) (a b:Expr) (t:TE):Prop :=
 ∀(aY:List (Addr×Obj)) (s:Shared) (σ:St) (H:Hp) (Q:VK),Inv X aY σ H s->t σ H Q ->
  wpAny (model X.prog X.w) X.A (eval a X.env) (fun v s₁=>wpAny (model X.prog X.w) X.A (eval b X.env) (fun u s₂=>wpAny (model X.prog X.w) X.A (compareOp op v u) (EP X aY σ Q) X.xe s₂) X.xe s₁) X.xe s
def tB (t:TE):TT:=fun σ H Q=>t σ H fun x H1=>∃c,x=.bl c/\Q c H1
theorem zbhc {op:CmpOp}{t:TE}(h:PC X op a b t)(h1:behindInMarks op b=false:=by first | exact nobehind _ (by decide) (by decide) | rfl):PT X (.Compare a [op] [b] pos) (tB t):=by
 intro aY s σ H Q I hw;refine wpAny_isTrue_Compare1 (thn (h aY s σ H _ I hw) fun v s1 h1=>thn h1 fun u s2 h2=>thn h2 fun c s3 hq0=>?_) h1;obtain⟨x,H1,I1,r1,q1⟩:=hq0;obtain⟨d,rfl,q⟩:=q1;cases r1;exact xex ⟨H1,I1,q⟩
variable {tA tB':TT}{rest:List Expr}
def tAnd (t u:TT):TT:=fun σ H Q=>t σ H fun c H1=>if c=true then u σ H1 Q else Q false H1
def tOr (t u:TT):TT:=fun σ H Q=>t σ H fun c H1=>if c=true then Q true H1 else u σ H1 Q
def tNot (t:TT):TT:=fun σ H Q=>t σ H fun c H1=>Q (!c) H1
theorem pw_and1 (ha:PT X a tA):PW X (.BoolOp .And [a] pos) tA:=by
 intro wh aY s σ H Q I h;refine isTrue_and (thn (ha aY s σ H Q I h) fun c s1 e=>?_);cases c with
 | true=>exact isTrue_and_nil e
 | false=>exact e
theorem pw_or1 (ha:PT X a tA):PW X (.BoolOp .Or [a] pos) tA:=by
 intro wh aY s σ H Q I h;refine isTrue_or (thn (ha aY s σ H Q I h) fun c s1 e=>?_);cases c with
 | false=>exact isTrue_or_nil e
 | true=>exact e
theorem pw_and (ha:PT X a tA)(hb:PW X (.BoolOp .And (b::rest) pos) tB'):PW X (.BoolOp .And (a::b::rest) pos) (tAnd tA tB'):=by
 intro wh aY s σ H Q I h;refine isTrue_and (thn (ha aY s σ H _ I h) fun c s1 hq0=>?_);obtain⟨H1,I1,q1⟩:=hq0;cases c with
 | true=>exact hb wh aY s1 σ H1 Q I1 q1
 | false=>exact⟨H1,I1,q1⟩
theorem pw_or (ha:PT X a tA)(hb:PW X (.BoolOp .Or (b::rest) pos) tB'):PW X (.BoolOp .Or (a::b::rest) pos) (tOr tA tB'):=by
 intro wh aY s σ H Q I h;refine isTrue_or (thn (ha aY s σ H _ I h) fun c s1 hq0=>?_);obtain⟨H1,I1,q1⟩:=hq0;cases c with
 | true=>exact⟨H1,I1,q1⟩
 | false=>exact hb wh aY s1 σ H1 Q I1 q1
theorem zbhb (ha:PT X a tA):PT X (.UnaryOp .Not a pos) (tNot tA):=by
 intro aY s σ H Q I h;exact isTrue_not (ha aY s σ H (fun c H1=>Q (!c) H1) I h)
def tNotV (ta:TE):TE:=fun σ H Q=>ta σ H fun x H1=>∃c,x=.bl c/\Q (.bl (!c)) H1
theorem zbhq (ha:PE X a ta):PE X (.UnaryOp .Not a pos) (tNotV ta):=by
 intro aY s σ H Q I h;refine UnaryOp_ (thn (ha aY s σ H _ I h) fun v s1 hq0=>?_);obtain⟨x,H1,I1,r1,q1⟩:=hq0;obtain⟨c,rfl,q1⟩:=q1;cases r1;exact not_of (xex ⟨.bl (!c),H1,I1,rfl,q1⟩)
end
def SqL (K:Fg) (H:Hp) (a:Addr) (xs:List V):Prop :=
 Rd H a (.lst xs) \/
  ∃(o:Obj) (its:Array Value) (n:Nat), K.lookup a=some o/\o.cls=.type "list"/\o.dict=none/\o.data=.seq its n/\its.size<=sizeLine/\Vals xs its.toList
def SqT (K:Fg) (H:Hp) (a:Addr) (xs:List V):Prop :=
 Rd H a (.tup xs) \/
  ∃(o:Obj) (its:Array Value) (n:Nat), K.lookup a=some o/\o.cls=.type "tuple"/\o.data=.seq its n/\its.size<=sizeLine/\Vals xs its.toList
def absV:Value->Option V
 | .none=>some .non
 | .bool b=>some (.bl b)
 | .int i _=>some (.int i)
 | .str x _=>some (.str x)
 | .bytes b _=>some (.byt b)
 | .float b _=>some (.flt b)
 | .ref a=>some (.ref a)
 | .type n=>some (.ty n)
 | _=>none
theorem RelV.abs {x:V}{u:Value}(r:RelV x u):absV u=some x:=by
 cases x with
 | non=>cases r;rfl
 | bl _=>cases r;rfl
 | int _=>obtain⟨t,rfl⟩:=r;rfl
 | str _=>obtain⟨t,rfl⟩:=r;rfl
 | byt _=>obtain⟨t,rfl⟩:=r;rfl
 | flt _=>obtain⟨t,rfl⟩:=r;rfl
 | ref _=>cases r;rfl
 | ty _=>cases r;rfl
theorem RelV.inj {x y:V}{u:Value}(r:RelV x u)(q:RelV y u):x=y:=xby (r.abs.symm.trans q.abs)
theorem Vals.inj:∀{xs ys:List V} {us:List Value},Vals xs us->Vals ys us->xs=ys
 | _,_,_,.nil,.nil=>rfl
 | _,_,_,.cons r t,.cons r' t'=>by rw[r.inj r',Vals.inj t t']
section
variable {X:Cx}{aY:List (Addr×Obj)}{σ:St}{H:Hp}{s:Shared}{a:Addr}{xs ys:List V}
theorem SqL.of {K:Fg}(h:H a=some (.lst xs)):SqL K H a xs:=.inl (.inl h)
theorem SqT.of {K:Fg}(h:H a=some (.tup xs)):SqT K H a xs:=.inl (.inl h)
theorem Inv.list (I:Inv X aY σ H s)(h:SqL X.K H a xs):∃its:List Value,Vals xs its/\PlainL s.heap a its.toArray/\xs.length<=sizeLine:=by
 rcases h with h | ⟨o,its,n,hk,hc,hd,hs,hz,r⟩
 ·obtain⟨z,its,n,r,e⟩:=h.ok I.hok;exact⟨its,r,⟨_,n,e,rfl,rfl,rfl⟩,z⟩
 ·refine⟨its.toList,r,⟨o,n,I.kIn a o hk,hc,hd,by simpa using hs⟩,?_⟩;have e:=r.length;simp only[xca] at e;lia
theorem Inv.tuple (I:Inv X aY σ H s)(h:SqT X.K H a xs):∃its:List Value,Vals xs its/\IsTup s.heap a its.toArray/\xs.length<=sizeLine:=by
 rcases h with h | ⟨o,its,n,hk,hc,hs,hz,r⟩
 ·obtain⟨z,its,r,p⟩:=h.ok I.hok;exact⟨its,r,p,z⟩
 ·refine⟨its.toList,r,⟨o,I.kIn a o hk,hc,n,by simpa using hs⟩,?_⟩;have e:=r.length;simp only[xca] at e;lia
theorem Inv.list_inj (I:Inv X aY σ H s)(h:SqL X.K H a xs)(h':SqL X.K H a ys):xs=ys:=by
 obtain⟨its,r,⟨o,n,e,_,_,d⟩,_⟩:=I.list h;obtain⟨its',r',⟨o',n',e',_,_,d'⟩,_⟩:=I.list h';rw[e] at e';cases e'
 rw[d] at d';injection d' with d1 _
 have:its=its':=by simpa using congrArg Array.toList d1
 subst this;exact r.inj r'
theorem Inv.tuple_inj (I:Inv X aY σ H s)(h:SqT X.K H a xs)(h':SqT X.K H a ys):xs=ys:=by
 obtain⟨its,r,⟨o,e,_,n,d⟩,_⟩:=I.tuple h;obtain⟨its',r',⟨o',e',_,n',d'⟩,_⟩:=I.tuple h';rw[e] at e';cases e'
 rw[d] at d';injection d' with d1 _
 have:its=its':=by simpa using congrArg Array.toList d1
 subst this;exact r.inj r'
end
abbrev Cx.wish (X:Cx) (E:Value->Shared->Prop):Cx:={X with xe:=E}
abbrev Cx.nox (X:Cx):Cx:=X.wish fun _ _=>False
theorem Cx.Ok.wish {X:Cx}(ok:X.Ok)(E:Value->Shared->Prop):(X.wish E).Ok :=
 ⟨ok.mod,ok.kind,ok.glob,ok.blt,ok.above,ok.inj,ok.has,ok.cab,ok.hd,ok.frames,ok.stk,ok.exf,ok.bs,ok.bsz,ok.noex,ok.exfs,ok.funs,ok.frf⟩
theorem Cx.Ok.unwish {X:Cx}{E:Value->Shared->Prop}(ok:(X.wish E).Ok):X.Ok :=
 ⟨ok.mod,ok.kind,ok.glob,ok.blt,ok.above,ok.inj,ok.has,ok.cab,ok.hd,ok.frames,ok.stk,ok.exf,ok.bs,ok.bsz,ok.noex,ok.exfs,ok.funs,ok.frf⟩
section
variable {X:Cx}{aY:List (Addr×Obj)}{σ:St}{H:Hp}{s:Shared}{E:Value->Shared->Prop}
theorem Inv.wish (I:Inv X aY σ H s)(E:Value->Shared->Prop):Inv (X.wish E) aY σ H s:=⟨I.ok.wish E,I.os,I.bare,I.base,I.loc,I.cell,I.free,I.freeC,I.pin,I.hok,I.len,I.hnd⟩
theorem Inv.unwish (I:Inv (X.wish E) aY σ H s):Inv X aY σ H s:=⟨I.ok.unwish,I.os,I.bare,I.base,I.loc,I.cell,I.free,I.freeC,I.pin,I.hok,I.len,I.hnd⟩
theorem SP.unwish {D:Ends}{f:Flow}{s':Shared}(h:SP (X.wish E) aY D f s'):SP X aY D f s':=by
 cases f with
 | next=>obtain⟨σ',H',I,q⟩:=h;exact⟨σ',H',I.unwish,q⟩
 | brk=>obtain⟨σ',H',I,q⟩:=h;exact⟨σ',H',I.unwish,q⟩
 | cont=>obtain⟨σ',H',I,q⟩:=h;exact⟨σ',H',I.unwish,q⟩
 | ret u=>obtain⟨v,σ',H',I,r,q⟩:=h;exact⟨v,σ',H',I.unwish,r,q⟩
theorem PSs.nox {st:List Stmt}{t:TS}(h:PSs X.nox st t):PSs X st t:=fun aY s σ H D I hw =>
 xdh (h aY s σ H D (I.wish _) hw) (fun _ _ q=>q.unwish) fun _ _ z=>False.elim z
end
section
variable {X:Cx}{st:Stmt}{rest:List Stmt}{t u:TS}{e:Expr}{te:TE}{pos:Pos}
def tNext:TS:=fun D σ H=>D.nx σ H
def tSeq (t u:TS):TS:=fun D σ H=>t {D with nx:=u D} σ H
theorem zbbf:PSs X [] tNext:=fun _ _ σ H _ I h=>xjd ⟨σ,H,I,h⟩
theorem zlw (h1:PS X st t)(h2:PSs X rest u):PSs X (st::rest) (tSeq t u):=by
 intro aY s σ H D I h;refine wpAny_execs_cons (thn (h1 aY s σ H {D with nx:=u D} I h) fun f s1 q=>?_);cases f with
 | next =>
  obtain⟨σ',H',I',q⟩:=q;exact h2 aY s1 σ' H' D I' q
 | ret v=>exact q
 | brk=>exact q
 | cont=>exact q
theorem zqg (h1:PS X st t):PSs X [st] t:=by
 intro aY s σ H D I h;refine wpAny_execs_cons (thn (h1 aY s σ H D I h) fun f s1 q=>?_);cases f with
 | next=>exact xjd q
 | ret v=>exact q
 | brk=>exact q
 | cont=>exact q
theorem Inv.quiet {aY:List (Addr×Obj)}{σ:St}{H:Hp}{s:Shared}(I:Inv X aY σ H s):interactive X.env=false:=by simp[interactive,I.ok.kind]
def tDrop (te:TE):TS:=fun D σ H=>te σ H fun _ H1=>D.nx σ H1
theorem zvn (he:PE X e te)(hs:swapsWith e none pos.line X.env=pure false:=by rfl):PS X (.Expr e pos) (tDrop te):=by
 intro aY s σ H D I h;exact wpAny_Expr_any (thn (he aY s σ H _ I h) fun v s1 ⟨x,H1,I1,r1,q1⟩=>⟨σ,H1,I1,q1⟩) I.quiet hs
def tRet (te:TE):TS:=fun D σ H=>te σ H D.rt
theorem zbhf (he:PE X e te):PS X (.Return (some e) pos) (tRet te):=by
 intro aY s σ H D I h;exact wpAny_Return_some (thn (he aY s σ H _ I h) fun v s1 ⟨x,H1,I1,r1,q1⟩=>⟨x,σ,H1,I1,r1,q1⟩)
def tIfS (c:TT) (t u:TS):TS:=fun D σ H=>c σ H fun b H1=>if b=true then t D σ H1 else u D σ H1
theorem zbll {c:Expr}{a b:List Stmt}{tc:TT}(hc:PT X c tc)(ha:PSs X a t)(hb:PSs X b u):PS X (.If c a b pos) (tIfS tc t u):=by
 intro aY s σ H D I h;refine wpAny_If (thn (hc aY s σ H _ I h) fun d s1 hq0=>?_);obtain⟨H1,I1,q1⟩:=hq0;cases d with
 | true=>exact ha aY s1 σ H1 D I1 q1
 | false=>exact hb aY s1 σ H1 D I1 q1
end
abbrev TG:=V->St->Hp->(St->Hp->Prop)->Prop
abbrev TGs:=List V->St->Hp->(St->Hp->Prop)->Prop
def PG (X:Cx) (target:Expr) (t:TG):Prop :=
 ∀(aY:List (Addr×Obj)) (s:Shared) (σ:St) (H:Hp) (v:V) (u:Value) (Q:St->Hp->Prop),Inv X aY σ H s->RelV v u->t v σ H Q ->
  wpAny (model X.prog X.w) X.A (assign target X.env u) (fun _ s'=>∃σ' H',Inv X aY σ' H' s'/\Q σ' H') X.xe s
def PGs (X:Cx) (ts:List Expr) (t:TGs):Prop :=
 ∀(aY:List (Addr×Obj)) (s:Shared) (σ:St) (H:Hp) (vs:List V) (us:List Value) (Q:St->Hp->Prop),Inv X aY σ H s->Vals vs us->t vs σ H Q ->
  wpAny (model X.prog X.w) X.A (assignInOrder ((assignEach ts X.env).map (·.2)) us) (fun _ s'=>∃σ' H',Inv X aY σ' H' s'/\Q σ' H') X.xe s
abbrev TSet:=V->V->V->Hp->(Hp->Prop)->Prop
def PSet (X:Cx) (t:TSet):Prop :=
 ∀(aY:List (Addr×Obj)) (s:Shared) (σ:St) (H:Hp) (o i v:V) (ov iv u:Value) (Q:Hp->Prop),Inv X aY σ H s->RelV o ov->RelV i iv->RelV v u->t o i v H Q ->
  wpAny (model X.prog X.w) X.A (setItem ov iv u) (fun _ s'=>∃H',Inv X aY σ H' s'/\Q H') X.xe s
abbrev TIp:=V->V->Hp->VK->Prop
def PIp (X:Cx) (op:Operator) (t:TIp):Prop :=
 ∀(aY:List (Addr×Obj)) (s:Shared) (σ:St) (H:Hp) (x y:V) (v u:Value) (Q:VK),Inv X aY σ H s->RelV x v->RelV y u->t x y H Q ->
  wpAny (model X.prog X.w) X.A (inplaceOp op v u) (EP X aY σ Q) X.xe s
section
variable {X:Cx}{pos:Pos}
def gName (i:Nat):TG:=fun v σ H Q=>Q (σ.set i (some v)) H
theorem zbbt {i:Nat}{x:Str}(hN:X.N.Nodup)(hi:X.N[i]?=some x)(hx:Loc X.env.scope x)(hf:X.fn x=true\/X.env.scope.names.lookup x=some .local:=by first | exact .inl rfl | exact .inr rfl | assumption):PG X (.Name x pos) (gName i):=by
 intro aY s σ H v u Q I r h;exact wpAny_assign_Name (zjn I hN hi hx r (fun s' I'=>⟨_,H,I',h⟩) hf)
def gNil:TGs:=fun vs σ H Q=>vs=[]/\Q σ H
def gCons (t:TG) (u:TGs):TGs:=fun vs σ H Q=>∃v r,vs=v::r/\t v σ H fun σ' H'=>u r σ' H' Q
theorem zbbs:PGs X [] gNil:=by
 intro aY s σ H vs us Q I r h;obtain⟨e,h⟩:=h;subst e;cases r;exact assignInOrder_nil ⟨σ,H,I,h⟩
theorem zxo {e:Expr}{es:List Expr}{t:TG}{u:TGs}(h1:PG X e t)(h2:PGs X es u)
  (hs:(assignEach (e::es) X.env).map (·.2)=assign e X.env::(assignEach es X.env).map (·.2):=by rfl):PGs X (e::es) (gCons t u):=by
 intro aY s σ H vs us Q I r h;obtain⟨v,vr,e1,h⟩:=h;subst e1;cases r with
 | cons r rr =>
  rw[hs];refine assignInOrder_cons (thn (h1 aY s σ H _ _ _ I r h) fun _ s1 hq0=>?_);obtain⟨σ1,H1,I1,q1⟩:=hq0;exact h2 aY s1 σ1 H1 _ _ Q I1 rr q1
def gTup (K:Fg) (n:Nat) (t:TGs):TG:=fun v σ H Q=>∃a xs,v=.ref a/\SqT K H a xs/\xs.length=n/\t xs σ H Q
theorem zbhl {es:List Expr}{k:Nat}{t:TGs}{n:Nat}(hc:X.calm=true)(h:PGs X es t)
  (hn:(assignEach es X.env).length=n:=by rfl)(hst:(assignEach es X.env).findIdx? (·.1)=none:=by rfl):PG X (.Tuple es k pos) (gTup X.K n t):=by
 intro aY s σ H v u Q I r hw;obtain⟨a,xs,e1,hq,hl,hw⟩:=hw;subst e1;cases r;obtain⟨its,rv,ht,hz⟩:=I.tuple hq;refine assign_Tuple_tuple (I.ok.hd hc) ht (by simp[hn,← hl,rv.length]) hst fun h' hx=>?_
 have I1:Inv X aY σ H {s with heap:=h'}:=I.kept (t':=s.toks) fun b o e=>hx b o (xbv (xbi e)) e
 exact h aY _ σ H xs _ Q I1 (by simpa using rv) hw
def gSub (to ti:TE) (t:TSet):TG:=fun v σ H Q=>to σ H fun o H1=>ti σ H1 fun i H2=>t o i v H2 fun H3=>Q σ H3
theorem zbhm {o i:Expr}{to ti:TE}{t:TSet}(ho:PE X o to)(hi:PE X i ti)(hs:PSet X t)
  (ha:∀v,assign (.Subscript o i pos) X.env v=(do
   let ov ← holding [v] (eval o X.env)
   let iv ← holding [v,ov] (eval i X.env)
   standAt pos
   holding [v,ov,iv] (setItem ov iv v)
   release [v,ov,iv] []):=by intro _;rfl):PG X (.Subscript o i pos) (gSub to ti t):=by
 intro aY s σ H v u Q I r h;rw[ha];refine xba (xdm (thn (ho aY s σ H _ I h) fun ov s1 hq0=>?_));obtain⟨x,H1,I1,r1,q1⟩:=hq0;refine xba (xdm (thn (hi aY s1 σ H1 _ I1 q1) fun iv s2 hq0=>?_));obtain⟨y,H2,I2,r2,q2⟩:=hq0;refine xba (xlb (xba (xdm (thn (hs aY s2 σ H2 x y v ov iv u _ I2 r1 r2 r q2) fun _ s3 hq0=>?_))));obtain⟨H3,I3,q3⟩:=hq0;exact wpAny_release ⟨σ,H3,I3,q3⟩
def tAsg (te:TE) (g:TG):TS:=fun D σ H=>te σ H fun x H1=>g x σ H1 D.nx
theorem zbhh {tg e:Expr}{te:TE}{g:TG}(he:PE X e te)(hg:PG X tg g)(hs:swapsWithSole [tg] e pos.line X.env=pure false:=by rfl)(hw:swappedStores [tg] e X.env=pure none:=by rfl)
  (h1:(assignEach [tg] X.env).map (·.2)=[assign tg X.env]:=by rfl):PS X (.Assign [tg] e pos) (tAsg te g):=by
 intro aY s σ H D I h;refine wpAny_Assign_stores (thn (he aY s σ H _ I h) fun v s1 hq0=>?_) hs hw;obtain⟨x,H1,I1,r1,q1⟩:=hq0;rw[h1];exact thn (hg aY s1 σ H1 x v _ I1 r1 q1) fun _ s2 q=>q
theorem zbhe {i:Nat}{x:Str}{e:Expr}{te:TE}{pos':Pos}(hN:X.N.Nodup)(hi:X.N[i]?=some x)(hx:Loc X.env.scope x)(he:PE X e te)(hs:swapsWith e (some (.Name x pos')) pos.line X.env=pure false:=by rfl)(hf:X.fn x=true\/X.env.scope.names.lookup x=some .local:=by first | exact .inl rfl | exact .inr rfl | assumption) :
  PS X (.Assign [.Name x pos'] e pos) (tAsg te (gName i)):=by
 intro aY s σ H D I h;refine wpAny_Assign_Name (thn (he aY s σ H _ I h) fun v s1 hq0=>?_) hs;obtain⟨y,H1,I1,r1,q1⟩:=hq0;exact zjn I1 hN hi hx r1 (fun s2 I2=>⟨_,H1,I2,q1⟩) hf
def tAug (i:Nat) (te:TE) (ti:TIp):TS:=fun D σ H=>∃x,σ[i]?=some (some x)/\te σ H fun y H1=>ti x y H1 fun z H2=>D.nx (σ.set i (some z)) H2
theorem zbhg {i:Nat}{x:Str}{e:Expr}{te:TE}{op:Operator}{ti:TIp}{pos':Pos}(hN:X.N.Nodup)(hi:X.N[i]?=some x)(hx:Loc X.env.scope x)(he:PE X e te)(ho:PIp X op ti)(hf:X.fn x=true\/X.env.scope.names.lookup x=some .local:=by first | exact .inl rfl | exact .inr rfl | assumption) :
  PS X (.AugAssign (.Name x pos') op e pos) (tAug i te ti):=by
 intro aY s σ H D I h;obtain⟨v,e1,h⟩:=h;obtain⟨m,hn,hl⟩:=I.loc;have vis:Vis X.env.scope x:=by rcases hx with k | k;exact .inl k;exact .inr (.inl k)
 obtain⟨u,r,l⟩:=hl i x v hi e1 vis;refine wpAny_AugAssign_Name ?_;have go:wpAny (model X.prog X.w) X.A (eval e X.env) (fun w s₂=>wpAny (model X.prog X.w) X.A (inplaceOp op u w) (fun r s₃=>wpAny (model X.prog X.w) X.A (storeName X.env x r) (fun _=>SP X aY D .next) X.xe s₃) X.xe s₂) X.xe s:=by
  refine thn (he aY s σ H _ I h) fun w s1 hq0=>?_
  obtain⟨y,H1,I1,r1,q1⟩:=hq0;refine thn (ho aY s1 σ H1 v y u w _ I1 r r1 q1) fun z s2 hq0=>?_
  obtain⟨zv,H2,I2,r2,q2⟩:=hq0;exact zjn I2 hN hi hx r2 (fun s3 I3=>⟨_,H2,I3,q2⟩) hf
 rcases l with⟨hk,hm⟩ | ⟨hk,c,hc,hcell⟩
 ·exact wpAny_loadName_local I.ok.kind hk hn hm go
 ·rcases hk with hk | hk
  ·exact wpAny_loadName_cell I.ok.kind hk hc hcell go
  ·rcases hx with k | k
   ·have:X.env.scope.names.lookup x=some .free:=hk;rw[k] at this;cases this
   ·have:X.env.scope.names.lookup x=some .free:=hk;rw[k] at this;cases this
def ipI (f:Int->Int->Int):TIp:=fun x y H Q=>∃i j,x=.int i/\y=.int j/\Q (.int (f i j)) H
theorem zbiq:PIp X .Add (ipI fun i j=>i+j):=by
 intro aY s σ H x y v u Q I r1 r2 h;obtain⟨i,j,e1,e2,q⟩:=h;subst e1;subst e2
 obtain⟨t,rfl⟩:=r1;obtain⟨t',rfl⟩:=r2;exact iadd_int ⟨.int _,H,I.tok _,⟨_,rfl⟩,q⟩
def tWhile (c:TT) (tb:TS):TS:=fun D σ H=>∃W:Nat->St->Hp->Prop,(∃m,W m σ H)/\∀m σ H,W m σ H ->
 c σ H fun b H1=>if b=true then ∃N:St->Hp->Prop,(∀σ' H',N σ' H'->∃m',m' < m/\W m' σ' H')/\tb {D with nx:=N,ct:=N,bk:=D.nx} σ H1 else D.nx σ H1
theorem zxg {c:Expr}{body:List Stmt}{tc:TT}{tb:TS}(hp:PassesOwn (model X.prog X.w) X.A X.env X.xe)(hc:PT X c tc)(hb:PSs X body tb):PS X (.While c body [] pos) (tWhile tc tb):=by
 intro aY s σ H D I h;obtain⟨W,⟨m0,w0⟩,turn⟩:=h;refine wpAny_While (codeAny_whileLoop (fun n s'=>∃σ' H',Inv X aY σ' H' s'/\W n σ' H') ?_ m0 ⟨σ,H,I,w0⟩);rintro n s1 ⟨σ1,H1,I1,w1⟩;refine xgz hp (thn (hc aY s1 σ1 H1 _ I1 (turn n σ1 H1 w1)) fun b s2 hq0=>?_);obtain⟨H2,I2,q2⟩:=hq0;cases b with
 | true =>
  obtain⟨N,hN,q2⟩:=q2;rw[if_pos rfl];refine xgz hp (thn (hb aY s2 σ1 H2 _ I2 q2) fun f s3 q3=>?_);cases f with
  | next =>
   obtain⟨σ3,H3,I3,n3⟩:=q3;obtain⟨m',hm,w3⟩:=hN σ3 H3 n3;exact⟨m',hm,σ3,H3,I3,w3⟩
  | cont =>
   obtain⟨σ3,H3,I3,n3⟩:=q3;obtain⟨m',hm,w3⟩:=hN σ3 H3 n3;exact⟨m',hm,σ3,H3,I3,w3⟩
  | brk=>exact q3
  | ret v=>exact q3
 | false =>
  rw[if_neg xft];exact xjd ⟨σ1,H2,I2,q2⟩
end
structure It where
 go:Nat->Hp->Prop
 yld:Nat->Hp->V->Hp->Prop
 stop:Nat->Hp->Prop
def FpOk (X:Cx) (aY:List (Addr×Obj)) (H:Hp) (b:Addr):Prop :=
 H b=none/\b≠X.env.locals/\b∉X.fs/\(b∈X.ex\/X.s₀.heap.objs.size<=b)/\(∀x c,X.env.cells.lookup x=some c->c≠b)/\∀p∈X.pn++aY,p.1≠b
theorem Inv.fpOk {X:Cx}{aY:List (Addr×Obj)}{σ:St}{H H':Hp}{s:Shared}{b:Addr}(I:Inv X aY σ H s)(hb:s.heap.objs.size<=b)(hn:H' b=none):FpOk X aY H' b:=by
 refine⟨hn,xga (xbh I.lt hb),I.nofs hb,.inr (xbc I.sz hb),fun x c e z=>?_,fun p hp z=>?_⟩
 ·obtain⟨v,q⟩:=I.cell x c e;exact absurd (xbh q.lt (by rw[z];exact hb)) (xfg _)
 ·exact absurd (xbh (xbi (I.pin p hp).1) (by rw[z];exact hb)) (xfg _)
structure Turn (P:Program) (w:World) (K:Fg) (tg:Expr) (J:It) (fp:List Addr) (it:Addr) (tn:Nat->Heap->Prop):Prop where
 mem:it∈fp
 obj:∀i h,tn i h->∀b∈fp,∃o,h.get? b=some o/\∀v,o.data≠.cell v
 keep:∀i h h',tn i h->(∀b∈fp,∀o,h.get? b=some o->h'.get? b=some o)->tn i h'
 item:∀(X:Cx),X.prog=P->X.w=w->X.K=K->X.calm=true->∀(i:Nat) (aY:List (Addr×Obj)) (s:Shared) (σ:St) (H:Hp) (E:Value->Shared->Prop),Inv X aY σ H s->(∀b∈fp,FpOk X aY H b)->tn i s.heap->J.go i H ->
  wpAny (model P w) X.A (pyNext (.ref it)) (fun r s1=>∃u,r=some u /\
   wpAny (model P w) X.A (letOwnedTupleGo tg (.ref it) u) (fun _ s2=>∃x H',Inv X aY σ H' s2/\RelV x u/\J.yld i H x H'/\tn (i+1) s2.heap/\∀b∈fp,H' b=none) E s1) E s
 done:∀(X:Cx),X.prog=P->X.w=w->X.K=K->X.calm=true->∀(i:Nat) (aY:List (Addr×Obj)) (s:Shared) (σ:St) (H:Hp) (E:Value->Shared->Prop),Inv X aY σ H s->(∀b∈fp,FpOk X aY H b)->tn i s.heap->J.stop i H ->
  wpAny (model P w) X.A (pyNext (.ref it)) (fun r s1=>r=none/\Inv X aY σ H s1) E s
 self:∀(A:Around) (i:Nat) (s:Shared) (Q:Value->Shared->Prop) (E:Value->Shared->Prop),tn i s.heap->Q (.ref it) s->wpAny (model P w) A (pyIter (.ref it)) Q E s
abbrev TI:=St->Hp->(It->Hp->Prop)->Prop
def PIE (X:Cx) (aY:List (Addr×Obj)) (σ:St) (tg:Expr) (R:It->Hp->Prop) (itv:Value) (s2:Shared):Prop :=
 ∃(it:Addr) (fp:List Addr) (tn:Nat->Heap->Prop) (J:It) (H':Hp),itv=.ref it/\Inv X aY σ H' s2/\Turn X.prog X.w X.K tg J fp it tn/\tn 0 s2.heap/\(∀b∈fp,FpOk X aY H' b)/\R J H'
def PI (X:Cx) (tg iter:Expr) (wi:TI):Prop :=
 ∀(aY:List (Addr×Obj)) (s:Shared) (σ:St) (H:Hp) (R:It->Hp->Prop),Inv X aY σ H s->wi σ H R ->
  wpAny (model X.prog X.w) X.A (eval iter X.env) (fun v s1=>wpAny (model X.prog X.w) X.A (pyIter v) (PIE X aY σ tg R) X.xe s1) X.xe s
theorem zbdl {M:Model}{A:Around}{E:Value->Shared->Prop}{s:Shared}{tg:Expr}{it:Addr}{u:Value}{o:Obj}{n:String}{vs:Array Value}{Q:Unit->Shared->Prop}(ho:s.heap.get? it=some o)(hc:o.cls=.type n)(hd:o.data=.fields vs)
    (hn:["enumerate", "zip", "dict_itemiterator", "dict_reverseitemiterator", "odict_iterator", "itertools.zip_longest", "itertools.pairwise"].contains n=false)(hQ:Q () s):wpAny M A (letOwnedTupleGo tg (.ref it) u) Q E s:=by
  unfold letOwnedTupleGo;cases tg <;> first
    | exact xbe hQ
    | (cases u <;> first
        | exact xbe hQ
        | (refine xba (wpAny_load ho ?_)
           rw[hc, hd];show wpAny M A (if(["enumerate", "zip", "dict_itemiterator", "dict_reverseitemiterator", "odict_iterator", "itertools.zip_longest", "itertools.pairwise"].contains n&&vs[0]?==some (rawInt _))=true then _ else _) Q E s
           rw[if_neg (by intro h; rw[hn, Bool.false_and] at h; cases h)]
           exact xbe hQ))
def Itl (K:Fg) (a:Addr):It :=
 ⟨fun i H=>∃xs x,SqL K H a xs/\xs[i]?=some x,fun i H x H'=>H'=H/\∀xs,SqL K H a xs->xs[i]?=some x,fun i H=>∃xs,SqL K H a xs/\xs.length<=i⟩
def Itt (K:Fg) (a:Addr):It :=
 ⟨fun i H=>∃xs x,SqT K H a xs/\xs[i]?=some x,fun i H x H'=>H'=H/\∀xs,SqT K H a xs->xs[i]?=some x,fun i H=>∃xs,SqT K H a xs/\xs.length<=i⟩
def Itr (lo:Int) (n:Nat):It:=⟨fun i _=>i < n,fun i H x H'=>H'=H/\x=.int (lo+i),fun i _=>n<=i⟩
theorem zsq {P:Program}{w:World}{K:Fg}{tg:Expr}(a it:Addr):Turn P w K tg (Itl K a) [it] it (fun i h=>h.IsListIter it a i) where
 mem:=by simp
 obj:=fun i h st b hb=>by
  have e:b=it:=by simpa using hb
  subst e;obtain⟨o,e,c,d⟩:=st;exact⟨o,e,fun v z=>by rw[d] at z;cases z⟩
 keep:=fun i h h' st k=>st.at fun o e=>k it (by simp) o e
 item:=by
  intro X hP hw hK hc i aY s σ H E I hf st hg;subst hP hw hK;obtain⟨xs,x,hq,hx⟩:=hg;obtain⟨its,rv,p,hz⟩:=I.list hq;obtain⟨u,hu,ru⟩:=rv.get hx;obtain⟨f0,f1,f2,f3,f4,f5⟩:=hf it (by simp);refine wpAny_pyNext_list_item st p.isList (x:=u) (by simpa using hu) fun h' st' sb=>?_
  have I1:Inv X aY σ H {s with heap:=h'}:=I.turned (t':=s.toks) (fun b o hb e=>(sb.2 b hb).trans e) f0 f1 f3 f4 f5;obtain⟨o,e,c,d⟩:=id st';exact⟨u,rfl,zbdl (s:={s with heap:=h'}) e c d (by decide) ⟨x,H,I1,ru,⟨rfl,fun ys hy=>by rw[I.list_inj hy hq];exact hx⟩,st',fun b hb=>(hf b hb).1⟩⟩
 done:=by
  intro X hP hw hK hc i aY s σ H E I hf st hg;subst hP hw hK;obtain⟨xs,hq,hx⟩:=hg;obtain⟨its,rv,p,hz⟩:=I.list hq;obtain⟨f0,f1,f2,f3,f4,f5⟩:=hf it (by simp);have hl:=rv.length;exact wpAny_pyNext_list_end (I.ok.hd hc) st p.isList (by simp;lia) fun h' eb=>⟨rfl,I.turned (t':=s.toks) (fun b o hb e=>eb b o hb e) f0 f1 f3 f4 f5⟩
 self:=fun _ _ _ _ _ st h=>wpAny_pyIter_listiter st h
theorem zpn {P:Program}{w:World}{K:Fg}{tg:Expr}(a it:Addr):Turn P w K tg (Itt K a) [it] it (fun i h=>h.IsTupleIter it a i) where
 mem:=by simp
 obj:=fun i h st b hb=>by
  have e:b=it:=by simpa using hb
  subst e;obtain⟨o,e,c,d⟩:=st;exact⟨o,e,fun v z=>by rw[d] at z;cases z⟩
 keep:=fun i h h' st k=>st.at fun o e=>k it (by simp) o e
 item:=by
  intro X hP hw hK hc i aY s σ H E I hf st hg;subst hP hw hK;obtain⟨xs,x,hq,hx⟩:=hg;obtain⟨its,rv,p,hz⟩:=I.tuple hq;obtain⟨u,hu,ru⟩:=rv.get hx;obtain⟨f0,f1,f2,f3,f4,f5⟩:=hf it (by simp);refine wpAny_pyNext_tuple_item st (show s.heap.IsTuple a its.toArray from p) (x:=u) (by simpa using hu) fun h' st' sb=>?_
  have I1:Inv X aY σ H {s with heap:=h'}:=I.turned (t':=s.toks) (fun b o hb e=>(sb.2 b hb).trans e) f0 f1 f3 f4 f5;obtain⟨o,e,c,d⟩:=id st';exact⟨u,rfl,zbdl (s:={s with heap:=h'}) e c d (by decide) ⟨x,H,I1,ru,⟨rfl,fun ys hy=>by rw[I.tuple_inj hy hq];exact hx⟩,st',fun b hb=>(hf b hb).1⟩⟩
 done:=by
  intro X hP hw hK hc i aY s σ H E I hf st hg;subst hP hw hK;obtain⟨xs,hq,hx⟩:=hg;obtain⟨its,rv,p,hz⟩:=I.tuple hq;obtain⟨f0,f1,f2,f3,f4,f5⟩:=hf it (by simp);have hl:=rv.length;exact wpAny_pyNext_tuple_end (I.ok.hd hc) st (show s.heap.IsTuple a its.toArray from p) (by simp;lia) fun h' eb=>⟨rfl,I.turned (t':=s.toks) (fun b o hb e=>eb b o hb e) f0 f1 f3 f4 f5⟩
 self:=fun _ _ _ _ _ st h=>wpAny_pyIter_tupleiter st h
theorem zpo {P:Program}{w:World}{K:Fg}{tg:Expr}(it:Addr)(lo:Int)(n:Nat):Turn P w K tg (Itr lo n) [it] it (fun i h=>IsRangeIter h it (lo+(i:Nat) * 1) ((n:Int) - (i:Nat)) 1) where
 mem:=by simp
 obj:=fun i h st b hb=>by
  have e:b=it:=by simpa using hb
  subst e
  exact⟨_,st,fun v z=>by
   have z':Data.fields _=Data.cell v:=z
   cases z'⟩
 keep:=fun i h h' st k=>k it (by simp) _ st
 item:=by
  intro X hP hw hK hc i aY s σ H E I hf st hg;subst hP hw hK;obtain⟨f0,f1,f2,f3,f4,f5⟩:=hf it (by simp);have W:=Walks.range (prog:=X.prog) (w:=X.w) (I.ok.hd hc) it lo 1 n;refine W.item i s _ _ hg st fun v h' tk hv st' kk=>?_
  obtain⟨t,rfl⟩:=hv;have I1:Inv X aY σ H {s with heap:=h',toks:=tk}:=I.turned (fun b o hb e=>kk b o (by simpa using hb) e) f0 f1 f3 f4 f5;refine⟨_, rfl, zbdl (s:={ s with heap:=h', toks:=tk }) (n:="range_iterator") st' rfl rfl (by decide) ⟨.int (lo + i), H, I1,⟨t, ?_⟩,⟨rfl, rfl⟩, st', fun b hb=>(hf b hb).1⟩⟩
  rw[Int.mul_one]
 done:=by
  intro X hP hw hK hc i aY s σ H E I hf st hg;subst hP hw hK;obtain⟨f0,f1,f2,f3,f4,f5⟩:=hf it (by simp);exact wpAny_pyNext_range_end (I.ok.hd hc) st (by have:n<=i:=hg;lia) fun h' eb=>⟨rfl,I.turned (t':=s.toks) (fun b o hb e=>eb b o hb e) f0 f1 f3 f4 f5⟩
 self:=fun _ _ _ _ _ st h=>wpAny_pyIter_rangeiter st h
section
variable {X:Cx}{tg:Expr}
def iList (K:Fg) (tl:TE):TI:=fun σ H R=>tl σ H fun x H1=>∃a,x=.ref a/\(∃xs,SqL K H1 a xs)/\R (Itl K a) H1
def iTup (K:Fg) (tl:TE):TI:=fun σ H R=>tl σ H fun x H1=>∃a,x=.ref a/\(∃xs,SqT K H1 a xs)/\R (Itt K a) H1
theorem zbbp {l:Expr}{tl:TE}(hl:PE X l tl):PI X tg l (iList X.K tl):=by
 intro aY s σ H R I h;refine thn (hl aY s σ H _ I h) fun v s1 hq0=>?_
 obtain⟨x,H1,I1,r1,q1⟩:=hq0;obtain⟨a,e,⟨xs,hq⟩,q⟩:=q1;subst e;cases r1;obtain⟨its,rv,p,hz⟩:=I1.list hq;refine xid p.isList ?_;refine⟨s1.heap.objs.size,[s1.heap.objs.size],_,_,H1,rfl,I1.kept (t':=s1.toks) fun b o e=>xbb _ e,zsq a _,⟨_,xbk _ rfl,rfl,rfl⟩,fun b hb=>?_,q⟩;have e:b=s1.heap.objs.size:=by simpa using hb
 subst e;exact I1.fpOk (xbf _) (I1.hok.fresh (xbf _))
theorem zbhk {l:Expr}{tl:TE}(hl:PE X l tl):PI X tg l (iTup X.K tl):=by
 intro aY s σ H R I h;refine thn (hl aY s σ H _ I h) fun v s1 hq0=>?_
 obtain⟨x,H1,I1,r1,q1⟩:=hq0;obtain⟨a,e,⟨xs,hq⟩,q⟩:=q1;subst e;cases r1;obtain⟨its,rv,p,hz⟩:=I1.tuple hq;refine xfy (show s1.heap.IsTuple a its.toArray from p) ?_;refine⟨s1.heap.objs.size,[s1.heap.objs.size],_,_,H1,rfl,I1.kept (t':=s1.toks) fun b o e=>xbb _ e,zpn a _,⟨_,xbk _ rfl,rfl,rfl⟩,fun b hb=>?_,q⟩;have e:b=s1.heap.objs.size:=by simpa using hb
 subst e;exact I1.fpOk (xbf _) (I1.hok.fresh (xbf _))
theorem zqd {aY:List (Addr×Obj)}{σ:St}{H:Hp}{s:Shared}{R:It->Hp->Prop}{E:Value->Shared->Prop}{lo hi:Int}{t u v:Tok}{tk:Nat}(I:Inv X aY σ H s)(h1:-(2 ^ 62)<=lo)(h2:lo < 2 ^ 62)(h3:-(2 ^ 62)<=hi)(h4:hi < 2 ^ 62)
  (q:R (Itr lo (hi - lo).toNat) H):wpAny (model X.prog X.w) X.A (pyIter (.ref s.heap.objs.size)) (PIE X aY σ tg R) E { s with heap:=s.heap.push { cls:=.type "range", data:=.fields #[.int lo t, .int hi u, .int 1 v] }, toks:=tk }:=by
 refine wpAny_pyIter_range (IsRange.new ..) (small_one h1 h2 h3 h4) ?_;have I1:Inv X aY σ H { s with heap:=s.heap.push { cls:=.type "range", data:=.fields #[.int lo t, .int hi u, .int 1 v] }, toks:=tk }:=I.kept fun b o e=>xbb _ e
 refine⟨(s.heap.push { cls:=.type "range", data:=.fields #[.int lo t, .int hi u, .int 1 v] }).objs.size,[(s.heap.push { cls:=.type "range", data:=.fields #[.int lo t, .int hi u, .int 1 v] }).objs.size], _, _, H, rfl,
  I1.kept (t':=tk) fun b o e=>xbb _ e,zpo _ lo (hi - lo).toNat,?_,fun b hb=>?_,q⟩
 ·have e1:lo+((0:Nat):Int) * 1=lo:=by simp
  have e2:(((hi - lo).toNat:Nat):Int) - ((0:Nat):Int)=Builtin.Range.rangeSize lo hi 1:=by rw[rangeSize_one];split<;>lia
  show IsRangeIter _ _ (lo+((0:Nat):Int) * 1) ((((hi - lo).toNat:Nat):Int) - ((0:Nat):Int)) 1;rw[e1,e2];exact xbk _ rfl
 ·have e:b=(s.heap.push { cls:=.type "range", data:=.fields #[.int lo t, .int hi u, .int 1 v] }).objs.size:=by simpa using hb
  subst e;exact I1.fpOk (xbf _) (I1.hok.fresh (xbf _))
def iRng1 (ta:TA):TI:=fun σ H R=>ta σ H fun vs H1=>∃j:Int,vs=[.int j]/\-(2 ^ 62)<=j/\j < 2 ^ 62/\R (Itr 0 j.toNat) H1
def iRng2 (ta:TA):TI:=fun σ H R=>ta σ H fun vs H1=>∃i j:Int,vs=[.int i,.int j]/\(-(2 ^ 62)<=i/\i < 2 ^ 62/\-(2 ^ 62)<=j/\j < 2 ^ 62)/\R (Itr i (j - i).toNat) H1
theorem ztg {a:Expr}{ta:TA}{p pos:Pos}(hg:Gl X "range")(hm:X.mg "range"=none)(ha:PA X [a] ta)(hs:starEach [a] X.env=[(false, eval a X.env)]:=by rfl):PI X tg (.Call (.Name "range" p) [a] [] pos) (iRng1 ta):=by
 intro aY s σ H R I h;refine Call_ (zjt I hg hm boot_range (xfn (thn (ha pos aY s σ H _ I h) fun us s1 hq0=>?_) hs rfl));obtain⟨vs,H1,I1,r1,q1⟩:=hq0;obtain⟨j,e,q1,q2,q⟩:=q1;subst e;cases r1 with
 | cons r rr =>
  cases rr;obtain⟨t,rfl⟩:=r;exact call_range_1 (zqd I1 (by lia) (by lia) q1 q2 (by simpa using q))
theorem ztf {a b:Expr}{ta:TA}{p pos:Pos}(hg:Gl X "range")(hm:X.mg "range"=none)(ha:PA X [a, b] ta)(hs:starEach [a, b] X.env=[(false, eval a X.env),(false, eval b X.env)]:=by rfl)(hs2:starEach [b] X.env=[(false, eval b X.env)]:=by rfl) :
  PI X tg (.Call (.Name "range" p) [a, b] [] pos) (iRng2 ta):=by
 intro aY s σ H R I h;refine Call_ (zjt I hg hm boot_range (xfn (thn (ha pos aY s σ H _ I h) fun us s1 ⟨vs,H1,I1,r1,q1⟩=>?_) (by rw[hs,hs2]) (by rw[hs2];rfl)));obtain⟨i,j,e,⟨q1,q2,q3,q4⟩,q⟩:=q1;subst e;cases r1 with
 | cons r rr =>
  cases rr with
  | cons r' rr =>
   cases rr;obtain⟨t,rfl⟩:=r;obtain⟨t',rfl⟩:=r';exact call_range_2 (zqd I1 q1 q2 q3 q4 q)
def tFor (wi:TI) (g:TG) (tb:TS):TS:=fun D σ H=>wi σ H fun J H1=>∃W:Nat->Nat->St->Hp->Prop,(∃m,W 0 m σ H1)/\∀i m σ H,W i m σ H ->
 (J.stop i H/\D.nx σ H)\/(J.go i H/\∃N:St->Hp->Prop,(∀σ' H',N σ' H'->∃m',m' < m/\W (i+1) m' σ' H')/\∀x H',J.yld i H x H'->g x σ H' fun σ2 H2=>tb {D with nx:=N,ct:=N,bk:=D.nx} σ2 H2)
def pinsAt (fp:List Addr) (h:Heap):List (Addr×Obj):=fp.filterMap fun b=>(h.get? b).map fun o=>(b,o)
theorem zfv {fp:List Addr}{h:Heap}{b:Addr}{o:Obj}(hb:b∈fp)(e:h.get? b=some o):(b,o)∈pinsAt fp h:=List.mem_filterMap.mpr ⟨b,hb,by rw[e];rfl⟩
theorem ztl {fp:List Addr}{h:Heap}{p:Addr×Obj}(hp:p∈pinsAt fp h):p.1∈fp/\h.get? p.1=some p.2:=by
 obtain⟨b,hb,e⟩:=List.mem_filterMap.mp hp;cases q:h.get? b with
 | none=>rw[q] at e;cases e
 | some o =>
  rw[q] at e;have e':(b,o)=p:=xby e;subst e';exact⟨hb,q⟩
theorem Inv.pinned {aY:List (Addr×Obj)}{σ:St}{H:Hp}{s:Shared}{fp:List Addr}(I:Inv X aY σ H s)(hf:∀b∈fp,FpOk X aY H b)(ho:∀b∈fp,∃o,s.heap.get? b=some o/\∀v,o.data≠.cell v):Inv X (aY++pinsAt fp s.heap) σ H s :=
 I.pins_of fun p hp=>(xce.mp hp).elim (fun z=>I.pin p (xdj _ z)) fun z=>by
  obtain⟨hb,e⟩:=ztl z;obtain⟨f0,f1,f2,_⟩:=hf p.1 hb;obtain⟨o,e',d⟩:=ho p.1 hb;rw[e] at e';cases e'
  exact⟨e,f0,f1,f2,d⟩
theorem Inv.unpinned {aY pl:List (Addr×Obj)}{σ:St}{H:Hp}{s:Shared}(I:Inv X (aY++pl) σ H s):Inv X aY σ H s:=I.pins_of fun p hp=>I.pin p (xdj _ (xhb _ hp))
theorem zbbi {iter:Expr}{body:List Stmt}{wi:TI}{g:TG}{tb:TS}{pos:Pos}(hp:PassesOwn (model X.prog X.w) X.A X.env X.xe)(hc:X.calm=true)(hi:PI X tg iter wi)(hg:PG X tg g)(hb:PSs X body tb)
  (hs:∀x,foldedSetIterable iter X.env x=pure x:=by intro _;rfl):PS X (.For tg iter body [] pos) (tFor wi g tb):=by
 intro aY s σ H D I h;refine wpAny_For (thn (hi aY s σ H _ I h) fun v s1 h1=>thn h1 fun itv s2 h2=>?_) hs;obtain⟨it,fp,tn,J,H2,e,I2,T,st2,f2,W,⟨m0,w0⟩,turn⟩:=h2;subst e;have stat:∀{H':Hp},(∀b∈fp,H' b=none)->∀b∈fp,FpOk X aY H' b:=fun hn b hb=>⟨hn b hb,(f2 b hb).2⟩
 refine codeAny_forLoop_any (fun n s'=>∃i σ' H',Inv X aY σ' H' s'/\tn i s'.heap/\(∀b∈fp,H' b=none)/\W i n σ' H') ?_ m0 ⟨0,σ,H2,I2,st2,fun b hb=>(f2 b hb).1,w0⟩;rintro n s3 ⟨i,σ3,H3,I3,st3,fr3,w3⟩;rcases turn i n σ3 H3 w3 with⟨stop,qn⟩ | ⟨go,N,hN,step⟩
 ·refine xgz hp (thn (T.done X rfl rfl rfl hc i aY s3 σ3 H3 X.xe I3 (stat fr3) st3 stop) fun r s4 hq0=>?_);obtain⟨hr,I4⟩:=hq0;subst hr;exact xjd ⟨σ3,H3,I4,qn⟩
 ·refine xgz hp (thn (T.item X rfl rfl rfl hc i aY s3 σ3 H3 X.xe I3 (stat fr3) st3 go) fun r s4 hq0=>?_);obtain⟨u,hr,h4⟩:=hq0;subst hr;refine xgz hp (thn h4 fun _ s5 hq0=>?_);obtain⟨x,H5,I5,r5,y5,st5,fr5⟩:=hq0;have I5':=I5.pinned (stat fr5) (T.obj _ _ st5);refine xgz hp (thn (hg _ s5 σ3 H5 x u _ I5' r5 (step x H5 y5)) fun _ s6 hq0=>?_);obtain⟨σ6,H6,I6,q6⟩:=hq0;refine xgz hp (thn (hb _ s6 σ6 H6 _ I6 q6) fun f s7 q7=>?_);have again:∀{σ7:St} {H7:Hp},Inv X (aY++pinsAt fp s5.heap) σ7 H7 s7->N σ7 H7->∃m,m < n/\∃i σ' H',Inv X aY σ' H' s7/\tn i s7.heap/\(∀b∈fp,H' b=none)/\W i m σ' H':=fun {σ7 H7} I7 n7=>by
   obtain⟨m',hm,w7⟩:=hN σ7 H7 n7;refine⟨m',hm,i+1,σ7,H7,I7.unpinned,T.keep _ _ _ st5 fun b hb o e=>(I7.pin (b,o) (xdj _ (xdj _ (zfv hb e)))).1,fun b hb=>?_,w7⟩;obtain⟨o,e,d⟩:=T.obj _ _ st5 b hb;exact(I7.pin (b,o) (xdj _ (xdj _ (zfv hb e)))).2.1
  cases f with
  | next=>obtain⟨σ7,H7,I7,n7⟩:=q7;exact again I7 n7
  | cont=>obtain⟨σ7,H7,I7,n7⟩:=q7;exact again I7 n7
  | brk=>obtain⟨σ7,H7,I7,q7⟩:=q7;exact⟨σ7,H7,I7.unpinned,q7⟩
  | ret v=>obtain⟨x7,σ7,H7,I7,r7,q7⟩:=q7;exact⟨x7,σ7,H7,I7.unpinned,r7,q7⟩
end
abbrev R2:=V->V->Hp->VK->Prop
def OpR (X:Cx) (f:Value->Value->Sem Value) (r:R2):Prop :=
 ∀(aY:List (Addr×Obj)) (s:Shared) (σ:St) (H:Hp) (x y:V) (v u:Value) (Q:VK),Inv X aY σ H s->RelV x v->RelV y u->r x y H Q ->
  wpAny (model X.prog X.w) X.A (f v u) (EP X aY σ Q) X.xe s
def UnR (X:Cx) (f:Value->Sem Value) (r:V->Hp->VK->Prop):Prop :=
 ∀(aY:List (Addr×Obj)) (s:Shared) (σ:St) (H:Hp) (x:V) (v:Value) (Q:VK),Inv X aY σ H s->RelV x v->r x H Q ->
  wpAny (model X.prog X.w) X.A (f v) (EP X aY σ Q) X.xe s
def CallR (X:Cx) (f:Value) (r:List V->Hp->VK->Prop):Prop :=
 ∀(aY:List (Addr×Obj)) (s:Shared) (σ:St) (H:Hp) (xs:List V) (us:List Value) (Q:VK),Inv X aY σ H s->Vals xs us->r xs H Q ->
  wpAny (model X.prog X.w) X.A (call f us) (EP X aY σ Q) X.xe s
def TruR (X:Cx) (r:V->Hp->(Bool->Hp->Prop)->Prop):Prop :=
 ∀(aY:List (Addr×Obj)) (s:Shared) (σ:St) (H:Hp) (x:V) (v:Value) (Q:Bool->Hp->Prop),Inv X aY σ H s->RelV x v->r x H Q ->
  wpAny (model X.prog X.w) X.A (truthy v) (TP X aY σ Q) X.xe s
def tOp (r:R2) (ta tb:TE):TE:=fun σ H Q=>ta σ H fun x H1=>tb σ H1 fun y H2=>r x y H2 Q
def tUn (r:V->Hp->VK->Prop) (ta:TE):TE:=fun σ H Q=>ta σ H fun x H1=>r x H1 Q
def rI (C:Int->Int->Prop) (g:Int->Int->V):R2:=fun x y H Q=>∃i j,x=.int i/\y=.int j/\C i j/\Q (g i j) H
def rI0 (g:Int->Int->V):R2:=fun x y H Q=>∃i j,x=.int i/\y=.int j/\Q (g i j) H
def rU (g:Int->V):V->Hp->VK->Prop:=fun x H Q=>∃i,x=.int i/\Q (g i) H
section
variable {X:Cx}{a b c:Expr}{ta tb tc:TE}{pos:Pos}
theorem binT (ha:PE X a ta)(hb:PE X b tb){aY:List (Addr×Obj)}{s:Shared}{σ:St}{H:Hp}{R:V->V->Hp->Prop}(I:Inv X aY σ H s)
  (h:ta σ H fun x H1=>tb σ H1 fun y H2=>R x y H2){Q:Value->Shared->Prop}{f:Value->Value->Sem Value}
  (hf:∀v u s2 x y H2,Inv X aY σ H2 s2->RelV x v->RelV y u->R x y H2->wpAny (model X.prog X.w) X.A (f v u) Q X.xe s2) :
  wpAny (model X.prog X.w) X.A (eval a X.env) (fun v s₁=>wpAny (model X.prog X.w) X.A (eval b X.env) (fun u s₂=>wpAny (model X.prog X.w) X.A (f v u) Q X.xe s₂) X.xe s₁) X.xe s:=by
 refine thn (ha aY s σ H _ I h) fun v s1 hq0=>?_
 obtain⟨x,H1,I1,r1,q1⟩:=hq0;refine thn (hb aY s1 σ H1 _ I1 q1) fun u s2 hq0=>?_
 obtain⟨y,H2,I2,r2,q2⟩:=hq0;exact hf v u s2 x y H2 I2 r1 r2 q2
theorem zbmm {op:Operator}{r:R2}(ho:OpR X (binaryOp op) r)(ha:PE X a ta)(hb:PE X b tb):PE X (.BinOp a op b pos) (tOp r ta tb):=by
 intro aY s σ H Q I h;exact wpAny_BinOp (binT ha hb I h fun v u s2 x y H2 I2 rx ry q=>ho aY s2 σ H2 x y v u Q I2 rx ry q)
theorem zblo {op:UnaryOp}{r:V->Hp->VK->Prop}(ho:UnR X (unaryOp op) r)(ha:PE X a ta):PE X (.UnaryOp op a pos) (tUn r ta):=by
 intro aY s σ H Q I h;exact UnaryOp_ (thn (ha aY s σ H _ I h) fun v s1 ⟨x,H1,I1,r1,q1⟩=>ho aY s1 σ H1 x v Q I1 r1 q1)
theorem opI {f:Value->Value->Sem Value}{C:Int->Int->Prop}{g:Int->Int->Int}
  (rule:∀(i j:Int) (t u:Tok) (s:Shared) (Q:Value->Shared->Prop) (E:Value->Shared->Prop),C i j->Q (.int (g i j) s.toks) {s with toks:=s.toks+1}->wpAny (model X.prog X.w) X.A (f (.int i t) (.int j u)) Q E s) :
  OpR X f (rI C fun i j=>.int (g i j)):=by
 intro aY s σ H x y v u Q I rx ry h;obtain⟨i,j,rfl,rfl,hc,q⟩:=h;obtain⟨t,rfl⟩:=rx;obtain⟨t',rfl⟩:=ry;exact rule i j t t' s _ _ hc ⟨.int (g i j),H,I.tok _,⟨_,rfl⟩,q⟩
theorem opI0 {f:Value->Value->Sem Value}{g:Int->Int->Int}
  (rule:∀(i j:Int) (t u:Tok) (s:Shared) (Q:Value->Shared->Prop) (E:Value->Shared->Prop),Q (.int (g i j) s.toks) {s with toks:=s.toks+1}->wpAny (model X.prog X.w) X.A (f (.int i t) (.int j u)) Q E s) :
  OpR X f (rI0 fun i j=>.int (g i j)):=by
 intro aY s σ H x y v u Q I rx ry h;obtain⟨i,j,rfl,rfl,q⟩:=h;obtain⟨t,rfl⟩:=rx;obtain⟨t',rfl⟩:=ry;exact rule i j t t' s _ _ ⟨.int (g i j),H,I.tok _,⟨_,rfl⟩,q⟩
theorem opB0 {f:Value->Value->Sem Value}{g:Int->Int->Bool}
  (rule:∀(i j:Int) (t u:Tok) (s:Shared) (Q:Value->Shared->Prop) (E:Value->Shared->Prop),Q (.bool (g i j)) s->wpAny (model X.prog X.w) X.A (f (.int i t) (.int j u)) Q E s) :
  OpR X f (rI0 fun i j=>.bl (g i j)):=by
 intro aY s σ H x y v u Q I rx ry h;obtain⟨i,j,rfl,rfl,q⟩:=h;obtain⟨t,rfl⟩:=rx;obtain⟨t',rfl⟩:=ry;exact rule i j t t' s _ _ ⟨.bl (g i j),H,I,rfl,q⟩
def CPow (i j:Int):Prop:=0<=j/\j<=1000000/\i.natAbs < 2 ^ 64
def CMul (i j:Int):Prop:=(-(2 ^ 64) < i/\i < 2 ^ 64)\/(-(2 ^ 64) < j/\j < 2 ^ 64)
theorem CMul.ok {i j:Int}(h:CMul i j):IntMulOk i j:=by
 rcases h with⟨h1,h2⟩ | ⟨h1,h2⟩
 ·exact .of_left (intBits_le_64 h1 h2)
 ·exact .of_right (intBits_le_64 h1 h2)
theorem zpm (k:Nat):(0:Int)<=2 ^ k:=by
 rw[two_pow_cast];exact Int.natCast_nonneg _
theorem zbhz:OpR X (binaryOp .Add) (rI0 fun i j=>.int (i+j)):=opI0 fun _ _ _ _ _ _ _ q=>add_int q
theorem zda:OpR X (binaryOp .Sub) (rI0 fun i j=>.int (i - j)):=opI0 fun _ _ _ _ _ _ _ q=>sub_int q
theorem zim:OpR X (binaryOp .Mult) (rI CMul fun i j=>.int (i * j)):=opI fun _ _ _ _ _ _ _ hc q=>mul_int q hc.ok
theorem zot:OpR X (binaryOp .Mod) (rI (fun _ j=>0 < j) fun i j=>.int (i % j)):=opI fun i j _ _ _ _ _ hc q=>by
 have h1:(0:Int) < j:=hc;exact mod_int' (by lia) (by rw[Int.fmod_eq_emod_of_nonneg i (by lia)];exact q)
theorem zbhw:OpR X (binaryOp .Pow) (rI CPow fun i j=>.int (i ^ j.toNat)):=opI fun _ _ _ _ _ _ _ hc q=>pow_int_small hc.1 hc.2.1 hc.2.2 q
theorem zql:OpR X (binaryOp .LShift) (rI CPow fun i j=>.int (i * 2 ^ j.toNat)):=opI fun _ _ _ _ _ _ _ hc q=>lshift_int_small hc.1 hc.2.1 hc.2.2 q
theorem zbcf:OpR X (binaryOp .RShift) (rI (fun _ j=>0<=j) fun i j=>.int (i / 2 ^ j.toNat)):=opI fun i j _ _ _ _ _ hc q =>
 rshift_int hc (by rw[xkz i (zpm _)];exact q)
theorem ztk:OpR X (binaryOp .BitAnd) (rI0 fun i j=>.int (Builtin.bitAnd i j)):=opI0 fun _ _ _ _ _ _ _ q=>and_int q
theorem zbmq:OpR X (binaryOp .BitOr) (rI0 fun i j=>.int (Builtin.bitOr i j)):=opI0 fun _ _ _ _ _ _ _ q=>or_int q
theorem unI {f:Value->Sem Value}{g:Int->Int}
  (rule:∀(i:Int) (t:Tok) (s:Shared) (Q:Value->Shared->Prop) (E:Value->Shared->Prop),Q (.int (g i) s.toks) {s with toks:=s.toks+1}->wpAny (model X.prog X.w) X.A (f (.int i t)) Q E s) :
  UnR X f (rU fun i=>.int (g i)):=by
 intro aY s σ H x v Q I rx h;obtain⟨i,rfl,q⟩:=h;obtain⟨t,rfl⟩:=rx;exact rule i t s _ _ ⟨.int (g i),H,I.tok _,⟨_,rfl⟩,q⟩
theorem zbao:UnR X (unaryOp .USub) (rU fun i=>.int (-i)):=unI fun _ _ _ _ _ q=>neg_int q
theorem zbiv {aY:List (Addr×Obj)}{σ:St}{H:Hp}{s:Shared}{Q:VK}{k k':Bool}(I:Inv X aY σ H s)(q:Q (.bl k) H)(e:k=k'):EP X aY σ Q (.bool k') s:=by
 subst e;exact⟨.bl k,H,I,rfl,q⟩
theorem zbmr:OpR X (compareOp .Lt) (rI0 fun i j=>.bl (decide (i < j))):=opB0 fun _ _ _ _ _ _ _ q=>lt_int q
theorem zbms:OpR X (compareOp .LtE) (rI0 fun i j=>.bl (decide (i<=j))):=opB0 fun _ _ _ _ _ _ _ q=>le_int q
theorem zzz:OpR X (compareOp .Gt) (rI0 fun i j=>.bl (decide (j < i))):=opB0 fun _ _ _ _ _ _ _ q=>gt_int q
theorem zbcg:OpR X (compareOp .IsNot) (fun x y H Q=>y=.non/\Q (.bl (!decide (x=.non))) H):=by
 intro aY s σ H x y v u Q I rx ry h;obtain⟨rfl,q⟩:=h;cases ry;refine isnot_none_gen (zbiv I q ?_);cases x<;>first
  | (cases rx;rfl)
  | (obtain⟨t,rfl⟩:=rx;rfl)
theorem OpR.or {f:Value->Value->Sem Value}{r r':R2}(h:OpR X f r)(h':OpR X f r'):OpR X f (fun x y H Q=>r x y H Q\/r' x y H Q):=by
 intro aY s σ H x y v u Q I rx ry q;rcases q with q | q
 ·exact h aY s σ H x y v u Q I rx ry q
 ·exact h' aY s σ H x y v u Q I rx ry q
theorem nomark (b:Expr){op:CmpOp}(h:op≠.In:=by decide)(h2:op≠.NotIn:=by decide):behindInMarks op b=false:=by
 have e1:(op==CmpOp.In)=false:=by cases op<;>first | rfl | exact absurd rfl h
 have e2:(op==CmpOp.NotIn)=false:=by cases op<;>first | rfl | exact absurd rfl h2
 cases b<;>simp[behindInMarks,e1,e2]
theorem zbby {op:CmpOp}{r:R2}(ho:OpR X (compareOp op) r)(ha:PE X a ta)(hb:PE X b tb)(hm:behindInMarks op b=false):PE X (.Compare a [op] [b] pos) (tOp r ta tb):=by
 intro aY s σ H Q I h;exact wpAny_Compare1 (binT ha hb I h fun v u s2 x y H2 I2 rx ry q=>ho aY s2 σ H2 x y v u Q I2 rx ry q) hm
def tTest (t:TE):TT:=fun σ H Q=>t σ H fun x H'=>∃k,x=.bl k/\Q k H'
theorem zbbd {op:CmpOp}{r:R2}(ho:OpR X (compareOp op) r)(ha:PE X a ta)(hb:PE X b tb)(hm:behindInMarks op b=false):PT X (.Compare a [op] [b] pos) (tTest (tOp r ta tb)):=by
 intro aY s σ H Q I h
 refine wpAny_isTrue_Compare1 (thn (ha aY s σ H _ I h) fun v s1 ⟨x,H1,I1,r1,q1⟩=>thn (hb aY s1 σ H1 _ I1 q1) fun u s2 ⟨y,H2,I2,r2,q2⟩ =>
  thn (ho aY s2 σ H2 x y v u _ I2 r1 r2 q2) fun c s3 ⟨z,H3,I3,r3,k,e,q3⟩=>?_) hm
 subst e;cases r3;exact xex ⟨H3,I3,q3⟩
def tChain (r r':R2) (ta tb tc:TE):TE:=fun σ H Q=>ta σ H fun x H1=>tb σ H1 fun y H2=>r x y H2 fun z H3=>∃k,z=.bl k /\
 (if k=true then tc σ H3 fun w' H4=>r' y w' H4 Q else Q (.bl false) H3)
theorem zxf {op op':CmpOp}{r r':R2}(ho:OpR X (compareOp op) r)(ho':OpR X (compareOp op') r')(ha:PE X a ta)(hb:PE X b tb)(hc:PE X c tc)
  (hm:lastMarks [op,op'] [b,c]=false:=by with_unfolding_all rfl):PT X (.Compare a [op,op'] [b,c] pos) (tTest (tChain r r' ta tb tc)):=by
 intro aY s σ H Q I h
 refine isTrue_chain (thn (ha aY s σ H _ I h) fun v s1 ⟨x,H1,I1,r1,q1⟩=>test_link (thn (hb aY s1 σ H1 _ I1 q1) fun u s2 ⟨y,H2,I2,r2,q2⟩ =>
  thn (ho aY s2 σ H2 x y v u _ I2 r1 r2 q2) fun d s3 ⟨z,H3,I3,r3,k,e,q3⟩=>?_)) hm
 subst e;cases r3;refine xex ?_;cases k with
 | false =>
  obtain⟨k',e',q'⟩:=q3;cases e';exact ite_ff ⟨H3,I3,q'⟩
 | true =>
  refine ite_tt (test_last (thn (hc aY s3 σ H3 _ I3 q3) fun w' s4 ⟨z',H4,I4,r4,q4⟩=>thn (ho' aY s4 σ H4 y z' u w' _ I4 r2 r4 q4) fun d' s5 hq0=>?_));obtain⟨z2,H5,I5,r5,k2,e2,q5⟩:=hq0;subst e2;cases r5;exact xex ⟨H5,I5,q5⟩
def TruV (K:Fg) (x:V) (H:Hp) (k:Bool):Prop :=
 match x with
 | .non=>k=false
 | .bl b=>k=b
 | .int i=>k=(i != 0)
 | .str y=>y.length<=sizeLine/\k=((y.length:Int) != 0)
 | .byt y=>y.size<=sizeLine/\k=((y.size:Int) != 0)
 | .ref p=>(∃xs,SqL K H p xs/\k=!xs.isEmpty)\/(∃xs,SqT K H p xs/\k=!xs.isEmpty)\/∃kvs,H p=some (.dK kvs)/\k=!kvs.isEmpty
 | _=>False
theorem zra {κ:Type}{kvs:List (κ×V)}{vs:List (κ×Value)}(r:KV kvs vs):(!vs.isEmpty)=!kvs.isEmpty:=by
 cases r<;>rfl
theorem zkr {xs:List V}{its:List Value}(r:Vals xs its):(!its.toArray.isEmpty)=!xs.isEmpty:=by
 cases r<;>simp
theorem line63:(sizeLine:Nat) < 2 ^ 63:=by rw[xiu];decide
theorem zbgk:TruR X (fun x H Q=>∃k,TruV X.K x H k/\Q k H):=by
 intro aY s σ H x v Q I rx h;obtain⟨k,e,q⟩:=h;have hl:=line63;have hs:sizeLine=16777216:=xiu;cases x with
 | non =>
  cases rx;have e':k=false:=e;subst e';exact truthy_none ⟨H,I,q⟩
 | bl b =>
  cases rx;have e':k=b:=e;subst e';exact xex ⟨H,I,q⟩
 | int i =>
  obtain⟨t,rfl⟩:=rx;have e':k=(i != 0):=e;subst e';exact PySem.P.truthy_int ⟨H,I,q⟩
 | str y =>
  obtain⟨t,rfl⟩:=rx;obtain⟨hy,e'⟩:y.length<=sizeLine/\k=((y.length:Int) != 0):=e;subst e';exact PySem.P.truthy_str (by lia) ⟨H,I.tok _,q⟩
 | byt y =>
  obtain⟨t,rfl⟩:=rx;obtain⟨hy,e'⟩:y.size<=sizeLine/\k=((y.size:Int) != 0):=e;subst e';exact W.truthy_bytes (by lia) ⟨H,I.tok _,q⟩
 | ref p =>
  cases rx;have e':(∃xs,SqL X.K H p xs/\k=!xs.isEmpty)\/(∃xs,SqT X.K H p xs/\k=!xs.isEmpty)\/∃kvs,H p=some (.dK kvs)/\k=!kvs.isEmpty:=e
  rcases e' with⟨xs,hx,e'⟩ | ⟨xs,hx,e'⟩ | ⟨kvs,hx,e'⟩
  ·subst e';obtain⟨its,r,pl,hz⟩:=I.list hx;have hlen:=r.length;exact wpAny_truthy_list pl.isList (by simp only[xbn];lia) ⟨H,I.tok _,by rw[zkr r];exact q⟩
  ·subst e';obtain⟨its,r,pl,hz⟩:=I.tuple hx;have hlen:=r.length;exact truthy_tuple pl (by simp only[xbn];lia) ⟨H,I.tok _,by rw[zkr r];exact q⟩
  ·subst e';obtain⟨hz,hS,vs,r,m⟩:kvs.length<=sizeLine/\(p==sysModules)=false/\∃vs,KV kvs vs/\s.heap.DictOf (mixKind X.prog X.w) p vs:=I.hok p _ hx
   have hlen:kvs.length=vs.length:=xis r;exact wpAny_truthy_dict hS m (by lia) ⟨H,I.tok _,by rw[zra r];exact q⟩
 | _=>exact(show False from e).elim
theorem zxe (ha:PE X a ta)(he:∀whole,isTrue a X.env whole=(do let v ← whole;standAt a.pos;holding [v] (truthy v))) :
  PT X a (fun σ H Q=>ta σ H fun x H'=>∃k,TruV X.K x H' k/\Q k H'):=by
 intro aY s σ H Q I h;exact isTrue_plain (thn (ha aY s σ H _ I h) fun v s1 ⟨x,H1,I1,r1,q1⟩=>zbgk aY s1 σ H1 x v Q I1 r1 q1) (he _)
theorem zqn:OpR X (binaryOp .Add) (fun x y H Q=>∃i j,x=.str i/\y=.str j/\i.length+j.length<=sizeLine/\Q (.str (i++j)) H):=by
 intro aY s σ H x y v u Q I rx ry h;obtain⟨i,j,rfl,rfl,hz,q⟩:=h;obtain⟨t,rfl⟩:=rx;obtain⟨t',rfl⟩:=ry;exact add_str (fun t' tk=>⟨.str (i++j),H,I.tok _,⟨_,rfl⟩,q⟩) hz
theorem vals1 {x:V}{us:List Value}(r:Vals [x] us):∃u,us=[u]/\RelV x u:=by
 cases r with
 | cons r1 r2=>cases r2;exact⟨_,rfl,r1⟩
theorem vals2 {x y:V}{us:List Value}(r:Vals [x,y] us):∃u w',us=[u,w']/\RelV x u/\RelV y w':=by
 cases r with
 | cons r1 r2 =>
  cases r2 with
  | cons r3 r4=>cases r4;exact⟨_,_,rfl,r1,r3⟩
theorem zzt:CallR X (.builtin "abs") (fun xs H Q=>∃ i, xs=[.int i]/\Q (.int (if i < 0 then -i else i)) H):=by
 intro aY s σ H xs us Q I r h;obtain⟨i,rfl,q⟩:=h;obtain⟨u,rfl,t,rfl⟩:=vals1 r;exact call_abs_int fun u tk=>⟨.int (if i < 0 then -i else i),H,I.tok _,⟨_,rfl⟩,q⟩
theorem zhi (hc:X.calm=true):CallR X (.builtin "min") (fun xs H Q=>∃ i j, xs=[.int i, .int j]/\Q (.int (if j < i then j else i)) H):=by
 intro aY s σ H xs us Q I r h;obtain⟨i,j,rfl,q⟩:=h;obtain⟨u,w',rfl,⟨t,rfl⟩,⟨t',rfl⟩⟩:=vals2 r;refine min_two_ints (I.ok.hd hc) fun h' tk k=>⟨_,H,I.kept k,?_,q⟩
 by_cases hj:j < i
 ·rw[if_pos hj,if_pos hj];exact⟨_,rfl⟩
 ·rw[if_neg hj,if_neg hj];exact⟨_,rfl⟩
theorem zog:CallR X (.type "int") (fun xs H Q=>(∃ i, xs=[.int i]/\Q (.int i) H)\/∃ k, xs=[.bl k]/\Q (.int (if k then 1 else 0)) H):=by
 intro aY s σ H xs us Q I r h;rcases h with⟨i,rfl,q⟩ | ⟨k,rfl,q⟩
 ·obtain⟨u,rfl,t,rfl⟩:=vals1 r;exact call_int_int ⟨.int i,H,I,⟨_,rfl⟩,q⟩
 ·obtain⟨u,rfl,r1⟩:=vals1 r;cases r1;exact call_int_bool ⟨.int (if k then 1 else 0),H,I.tok _,⟨_,rfl⟩,q⟩
end
section
variable {prog:Program}{w:World}{A:Around}{E:Value->Shared->Prop}{s:Shared}{K:Fg}{x dx C f:Addr}{mA:Str->Option Value}{name:Str}{v:Value}
end
theorem RelO.some_of {v:V}{o:Option Value}(r:RelO (some v) o):∃u,o=some u/\RelV v u:=by
 cases o with
 | none=>exact(show False from r).elim
 | some u=>exact⟨u,rfl,r⟩
section
variable {P:Program}{w:World}{H H':Hp}{h h':Heap}{a C dx:Addr}{fs fs':List (Str×V)}
end
section
variable {X:Cx}{aY:List (Addr×Obj)}{σ:St}{H:Hp}{s:Shared}{a C dx:Addr}{fs:List (Str×V)}{f:Str}{v:V}{A:Around}{E:Value->Shared->Prop}
end
section
variable {X:Cx}{o e value:Expr}{f:Str}{pos pos' tpos:Pos}{ta tv:TE}
end
section
variable {X:Cx}{aY:List (Addr×Obj)}{σ:St}{H:Hp}{s:Shared}{A:Around}{E:Value->Shared->Prop}{Q:Value->Shared->Prop}{c:Value}{b:Bool}
end
structure Room (k:Nat) (A:Around):Prop where
 hd:A.handled=none
 dp:A.depth+3 * k+5 < recursionLimit
 un:A.units+16 * k+200 < cLine
theorem Room.mono {j k:Nat}{A:Around}(r:Room k A)(h:j<=k):Room j A:=⟨r.hd,by have:=r.dp;lia,by have:=r.un;lia⟩
theorem Room.deeper {k:Nat}{A:Around}(r:Room (k+1) A)(env:Env):Room k (A.deeper env) :=
 ⟨r.hd,by have:=r.dp;show A.depth+1+3 * k+5 < _;lia,by have:=r.un;show A.units+3+16 * k+200 < _;lia⟩
theorem Room.depth {k:Nat}{A:Around}(r:Room k A):A.depth < recursionLimit:=by have:=r.dp;lia
theorem Room.units {k:Nat}{A:Around}(r:Room k A):A.units+64 < cLine:=by have:=r.un;lia
theorem Room.units0 {k:Nat}{A:Around}(r:Room k A):A.units < cLine:=by have:=r.un;lia
def tNil:TA:=fun _ H Q=>Q [] H
def tCons (ta:TE) (tr:TA):TA:=fun σ H Q=>ta σ H fun x H1=>tr σ H1 fun xs H2=>Q (x::xs) H2
section
variable {X:Cx}{e:Expr}{es:List Expr}{te:TE}{t:TA}{pos:Pos}
theorem zxx:PA X [] tNil:=fun _ _ _ _ H Q I h=>xjr ⟨[],H,I,.nil,h⟩
theorem zng (ha:PE X e te)(hr:PA X es t)(hs:starEach (e::es) X.env=(false,eval e X.env)::starEach es X.env:=by rfl):PA X (e::es) (tCons te t):=by
 intro pos aY s σ H Q I h;rw[hs];show wpAny _ _ (spliced ((false,eval e X.env)::backTo pos (starEach es X.env))) _ _ s;refine xhs (thn (ha aY s σ H _ I h) fun u s1 hq0=>?_);obtain⟨x,H1,I1,r1,q1⟩:=hq0;exact thn (hr pos aY s1 σ H1 _ I1 q1) fun us s2 ⟨xs,H2,I2,r2,q2⟩=>⟨x::xs,H2,I2,.cons r1 r2,q2⟩
def tTup (t:TA):TE:=fun σ H Q=>t σ H fun xs H1=>xs.length<=sizeLine/\∀p,H1 p=none->Q (.ref p) (upd H1 p (.tup xs))
def tLst (t:TA):TE:=fun σ H Q=>t σ H fun xs H1=>xs.length<=sizeLine/\∀p,H1 p=none->Q (.ref p) (upd H1 p (.lst xs))
theorem zbho {x1}(h:PA X es t):PE X (.Tuple es x1 pos) (tTup t):=by
 intro aY s σ H Q I hq;refine wpAny_Tuple_spliced (thn (h pos aY s σ H _ I hq) fun us s1 ⟨xs,H1,I1,r,z,q⟩=>⟨by rw[← r.length];exact z,?_⟩);have hf:H1 s1.heap.objs.size=none:=I1.hok.fresh (xbf _);refine⟨.ref s1.heap.objs.size,upd H1 s1.heap.objs.size (.tup xs),I1.laid (t':=s1.toks) (fun b u e=>xbb _ e) (xbf _) ?_,rfl,q _ hf⟩;exact⟨z,us,r,⟨_,xbk _ rfl,rfl,_,rfl⟩⟩
theorem zbbu (h:PA X es t):PE X (.List es pos) (tLst t):=by
 intro aY s σ H Q I hq;refine wpAny_List_spliced (thn (h pos aY s σ H _ I hq) fun us s1 ⟨xs,H1,I1,r,z,q⟩=>⟨by rw[← r.length];exact z,?_⟩);have hf:H1 s1.heap.objs.size=none:=I1.hok.fresh (xbf _);refine⟨.ref s1.heap.objs.size,upd H1 s1.heap.objs.size (.lst xs),I1.laid (t':=s1.toks) (fun b u e=>xbb _ e) (xbf _) ?_,rfl,q _ hf⟩;exact⟨z,us,0,r,xbk _ rfl⟩
end
abbrev Sp:=List V->Hp->VK->XK->Prop
abbrev CXT:=List Env->Hp->Shared->XK->Value->Shared->Prop
structure Env0 (P:Program) (w:World) (K:Fg) (mg:Str->Option Value) (base:Heap) (A:Around) (outer:List Env) (s:Shared) (H:Hp):Prop where
 frames:A.frames=some outer
 mod:Mod K mg base
 bs:∀b o,base.get? b=some o->s.heap.get? b=some o/\H b=none
 bsz:base.objs.size<=s.heap.objs.size
 funs:s.heap.FunFrames base outer
 frf:∀b∈frs outer,H b=none
 hok:HOk P w H s.heap
 bare:AllBare s.gens
def CE (outer:List Env) (P:Program) (w:World) (H:Hp) (s:Shared) (Q:VK) (u:Value) (s':Shared):Prop :=
 ∃v H',s'.os=s.os/\AllBare s'.gens/\Un (frs outer) [] H H' s.heap s'.heap/\HOk P w H' s'.heap/\RelV v u/\Q v H'
def CR (CX:CXT) (outer:List Env) (P:Program) (w:World) (H:Hp) (s:Shared) (Q:VK) (E:XK) (r:Result) (s':Shared):Prop :=
 match r with
 | .ok (.ret u)=>CE outer P w H s Q u s'
 | .ok _=>False
 | .error e=>CX outer H s E e s'
structure FnOk (P:Program) (w:World) (K:Fg) (mg:Str->Option Value) (base:Heap) (CX:CXT) (k:Nat) (f:Addr) (fd:FuncData) (ps:List Str) (sp:Sp):Prop where
 len:∀vs H Q E,sp vs H Q E->vs.length=ps.length
 run:∀(A:Around) (outer:List Env) (s:Shared) (H:Hp) (args:Args) (us:List Value) (vs:List V) (Q:VK) (E:XK),Room k A->Env0 P w K mg base A outer s H->BindsTo s fd args (ps.zip us)->Vals vs us->sp vs H Q E ->
  codeAny (model P w) A (.call (.ref f) args) (CR CX outer P w H s Q E) s
section
variable {X:Cx}{aY:List (Addr×Obj)}{σ:St}{H:Hp}{s s':Shared}
theorem Inv.env0 (I:Inv X aY σ H s):Env0 X.prog X.w X.K X.mg X.base X.A X.stack s H :=
 ⟨I.ok.frames,I.ok.mod,I.bs,xbc I.ok.bsz I.sz,I.stack,I.stkFree,I.hok,I.bare⟩
theorem Inv.after {Q:VK}{u:Value}(I:Inv X aY σ H s)(h:CE X.stack X.prog X.w H s Q u s'):EP X aY σ Q u s':=by
 obtain⟨v,H',os,bare,un,hok,r,q⟩:=h;obtain⟨hh,g,d,t,os'⟩:=s';obtain rfl:os'=s.os:=os;exact⟨v,H',I.call (h':=hh) (g':=g) (d':=d) (t':=t) (ch:=[]) un hok bare (fun b z=>absurd z (by simp)),r,q⟩
end
def tCall (sp:Sp) (dvs:List V) (E:XK) (t:TA):TE:=fun σ H Q=>t σ H fun vs H1=>sp (vs++dvs) H1 Q E
def Binds (K:Fg) (fd:FuncData) (ps:List Str) (ds:List Value):Prop :=
 ∀(s:Shared) (us:List Value),K.In s.heap->(us++ds).length=ps.length->BindsTo s fd ⟨us,[]⟩ (ps.zip (us++ds))
theorem Binds.all {K:Fg}{fd:FuncData}{ps:List Str}(h:∀us:List Value,us.length=ps.length->bindArgs fd ⟨us,[]⟩=pure (ps.zip us)):Binds K fd ps []:=fun s us _ hl=>by
 rw[xeg] at hl ⊢;exact .of_eq (h us hl)
def Passes (CX:CXT) (X:Cx) (E:XK):Prop:=∀(aY:List (Addr×Obj)) (σ:St) (H:Hp) (s:Shared) (e:Value) (s':Shared),Inv X aY σ H s->CX X.stack H s E e s'->X.xe e s'
section
variable {X:Cx}{CX:CXT}{k:Nat}{f C:Addr}{fd:FuncData}{ps:List Str}{sp:Sp}{dvs:List V}{ds:List Value}{E:XK}{x m:Str}{p pos apos:Pos}{e o:Expr}{es:List Expr}{ta:TE}{t:TA}
theorem zbgy {aY:List (Addr×Obj)}{σ:St}{H:Hp}{s:Shared}{Q:VK}{us:List Value}{vs:List V}(F:FnOk X.prog X.w X.K X.mg X.base CX k f fd ps sp)(hr:Room k X.A)(hb:Binds X.K fd ps ds)(hd:Vals dvs ds)(hx:Passes CX X E)
  (I:Inv X aY σ H s)(r:Vals vs us)(h:sp (vs++dvs) H Q E):wpAny (model X.prog X.w) X.A (call (.ref f) us) (EP X aY σ Q) X.xe s:=by
 have r2:Vals (vs++dvs) (us++ds):=r.append hd;have hl:(us++ds).length=ps.length:=by rw[← r2.length];exact F.len _ _ _ _ h
 refine xip (xhi (F.run X.A X.stack s H ⟨us,[]⟩ (us++ds) (vs++dvs) Q E hr I.env0 (hb s us I.kIn hl) r2 h) fun r s' hq=>?_);cases r with
 | error e=>exact hx aY σ H s e s' I hq
 | ok fl =>
  cases fl with
  | ret u=>exact I.after hq
  | next=>exact False.elim hq
  | brk=>exact False.elim hq
  | cont=>exact False.elim hq
theorem zvo (F:FnOk X.prog X.w X.K X.mg X.base CX k f fd ps sp)(hr:Room k X.A)(hg:Gl X x)(hm:X.mg x=some (.ref f))(hk:W.keepIn X.K (.ref f)=true)(hb:Binds X.K fd ps ds)(hd:Vals dvs ds)(hx:Passes CX X E)
  (ha:PA X (e::es) t)(hdb:(x==("__debug__" : Str))=false:=by decide)(he:starEach (e::es) X.env=(false, eval e X.env)::starEach es X.env:=by rfl)(hpl:(backTo pos (starEach es X.env)).any (·.1)=false:=by rfl) :
  PE X (.Call (.Name x p) (e::es) [] pos) (tCall sp dvs E t):=by
 intro aY s σ H Q I h;refine xfe (zkq I hg hm ?_ hdb);refine xks (h₀:=X.base) I.ok.mod.kin hk (thn (ha pos aY s σ H _ I h) fun us s1 ⟨vs,H1,I1,r,q⟩=>⟨I1.kIn,?_⟩) he hpl;exact zbgy F hr hb hd hx I1 r q
end
section
variable {X:Cx}{CX:CXT}{k:Nat}{f C:Addr}{fd:FuncData}{ps ks:List Str}{sp:Sp}{E:XK}{x m:Str}{p pos apos kpos:Pos}{e o:Expr}{es:List Expr}{kws:List Keyword}{te ta:TE}{t tk:TA}{nm:Option Str}
variable {g:List Value->List Value->List Value}{gV:List V->List V->List V}
end
structure FnScope (N P:List Str) (sc:Scope):Prop where
 kind:sc.kind=.function
 co:sc.isCoroutine=false
 gen:sc.isGenerator=false
 nd:N.Nodup
 pre:N.take P.length=P
 par:∀x∈P,sc.names.lookup x=some .local\/sc.names.lookup x=some .cell
 nofree:∀y∈sc.names,y.2≠.free
theorem zoi {kindOf:Str->Option NameKind}{x:Str}:∀{binds:List (Str×Value)} {m:Str->Option Value},(∀v,(x,v)∉binds)->bindL kindOf binds m x=m x
 | [],_,_=>rfl
 | (n,v)::r,m,h=>by
  unfold bindL;rw[zoi fun w hw=>h w (xcq _ hw)];split
  ·have:x≠n:=by rintro rfl;exact h v xcm
   simp[this]
  ·rfl
theorem zok {kindOf:Str->Option NameKind}{x:Str}:∀{binds:List (Str×Value)} {m:Str->Option Value},(∀v,(x,v)∉binds)->bindC kindOf binds m x=m x
 | [],_,_=>rfl
 | (n,v)::r,m,h=>by
  unfold bindC;rw[zok fun w hw=>h w (xcq _ hw)];split
  ·rfl
  ·have:x≠n:=by rintro rfl;exact h v xcm
   simp[this]
theorem zoj {kindOf:Str->Option NameKind}{x:Str}{v:Value}:∀{P:List Str} {vs:List Value} {i:Nat} {m:Str->Option Value},P.Nodup->P[i]?=some x->vs[i]?=some v->kindOf x=some .local ->
  bindL kindOf (P.zip vs) m x=some v
 | [],_,_,_,_,h,_,_=>by simp at h
 | _::_,[],_,_,_,_,h,_=>by simp at h
 | p::P,w::vs,0,m,nd,h1,h2,hk=>by
  simp at h1 h2;subst h1;subst h2
  show bindL kindOf ((p,w)::P.zip vs) m p=_;unfold bindL;rw[zoi fun v hv=>(xht.mp nd).1 (xki hv).1,if_pos hk];simp
 | p::P,w::vs,i+1,m,nd,h1,h2,hk=>by
  show bindL kindOf ((p,w)::P.zip vs) m x=_;unfold bindL;exact zoj (i:=i) (xht.mp nd).2 (by simpa using h1) (by simpa using h2) hk
theorem zol {kindOf:Str->Option NameKind}{x:Str}{v:Value}:∀{P:List Str} {vs:List Value} {i:Nat} {m:Str->Option Value},P.Nodup->P[i]?=some x->vs[i]?=some v->kindOf x≠some .local ->
  bindC kindOf (P.zip vs) m x=some v
 | [],_,_,_,_,h,_,_=>by simp at h
 | _::_,[],_,_,_,_,h,_=>by simp at h
 | p::P,w::vs,0,m,nd,h1,h2,hk=>by
  simp at h1 h2;subst h1;subst h2
  show bindC kindOf ((p,w)::P.zip vs) m p=_;unfold bindC;rw[zok fun v hv=>(xht.mp nd).1 (xki hv).1,if_neg hk];simp
 | p::P,w::vs,i+1,m,nd,h1,h2,hk=>by
  show bindC kindOf ((p,w)::P.zip vs) m x=_;unfold bindC;exact zol (i:=i) (xht.mp nd).2 (by simpa using h1) (by simpa using h2) hk
def start (N:List Str) (vs:List V):St:=vs.map some++List.replicate (N.length - vs.length) none
def cxOf (CX:CXT) (P:Program) (w:World) (K:Fg) (mg:Str->Option Value) (base:Heap) (N:List Str) (qual:Str) (scope:Scope) (f:Addr) (cd:Value) (A:Around) (outer:List Env) (s:Shared) (H:Hp) (E:XK):Cx where
 prog:=P
 w:=w
 K:=K
 mg:=mg
 base:=base
 A:=A.deeper (envOfC qual scope s.heap.objs.size f cd)
 N:=N
 s₀:=s
 H₀:=H
 env:=envOfC qual scope s.heap.objs.size f cd
 outer:=outer
 stack:=envOfC qual scope s.heap.objs.size f cd::outer
 ex:=[]
 calm:=true
 fn:=fun _=>true
 pn:=[]
 xe:=fun e s'=>wpAny (model P w) (A.deeper (envOfC qual scope s.heap.objs.size f cd)) (leaving (envOfC qual scope s.heap.objs.size f cd) e) (fun _ s''=>CX outer H s E e s'') (fun e' s''=>CX outer H s E e' s'') s'
theorem zrt {sc:Scope}{n:Nat}{x:Str}(h:sc.names.lookup x=some .cell):∃c,(cellsFrom n sc.names []).lookup x=some c:=by
 have q:=xju sc.names n [] (.inl h);exact xje.mp q
theorem znv {CX:CXT}{P:Program}{w:World}{K:Fg}{mg:Str->Option Value}{base:Heap}{N ps:List Str}{qual:Str}{scope:Scope}{f:Addr}{cd:Value}{A:Around}{outer:List Env}{s s1:Shared}{H:Hp}{E:XK}{us:List Value}{vs:List V}
  (S:FnScope N ps scope)(hd:A.handled=none)(e0:Env0 P w K mg base A outer s H)(hl:vs.length=ps.length)(r:Vals vs us)
  (x:InCallC s s.heap.objs.size (bindL (envOfC qual scope s.heap.objs.size f cd).kindOf (ps.zip us) fun _=>none) (cellsFrom (s.heap.objs.size+1) scope.names []) (bindC (envOfC qual scope s.heap.objs.size f cd).kindOf (ps.zip us) fun _=>none) s1) :
  Inv (cxOf CX P w K mg base N qual scope f cd A outer s H E) [] (start N vs) H s1:=by
 have hpl:ps.length<=N.length:=by have:=congrArg List.length S.pre;rw[xdw] at this;lia
 obtain⟨h1,tk,rfl,hk⟩:=x.done;have noA:∀b:Addr,b∉(cxOf CX P w K mg base N qual scope f cd A outer s H E).ex:=fun b z=>absurd (show b∈([]:List Addr) from z) (by simp)
 refine⟨⟨e0.mod,S.kind,rfl,rfl,xbf _,fun y z c h1 h2=>?_,fun y hy=>?_,fun y c _ h=>?_,fun _=>hd,Around.frames_deeper e0.frames,.inr ⟨rfl,rfl⟩,fun b z=>absurd z (noA b),e0.bs,e0.bsz,fun b _ _=>noA b,fun b z=>absurd z (noA b),e0.funs,e0.frf⟩,
  rfl,e0.bare,Un.kept hk,⟨_,x.toInCall.ns,fun i y v h1 h2 h3=>?_⟩,fun y c h=>⟨_,x.cell y c h⟩,e0.hok.fresh (xbf _),fun y c h=>?_,fun p hp=>absurd (show p∈([]:List (Addr×Obj)) from hp) (by simp),e0.hok.kept hk,?_,Hnd.none hd⟩
 ·exact name_of_addr x.apart (xen h1) (xen h2)
 ·have hy:scope.names.lookup y=some .cell\/scope.names.lookup y=some .free:=hy;rcases hy with hy | hy
  ·exact zrt hy
  ·exact absurd rfl (S.nofree _ (xen hy))
 ·exact xbw (x.above y c (xen h))
 ·have hi:i < vs.length:=by
   unfold start at h2;by_cases hi:i < vs.length
   ·exact hi
   ·rw[xcr (by simpa using hi)] at h2;rw[List.getElem?_replicate] at h2;split at h2<;>cases h2
  have ha:vs[i]?=some v:=by
   unfold start at h2;rw[xcd (by simpa using hi),xcc] at h2;cases e:vs[i]? with
   | none=>rw[e] at h2;cases h2
   | some a=>rw[e] at h2;cases h2;rfl
  obtain⟨u,hu,rv⟩:=r.get ha;have hp:ps[i]?=some y:=by
   rw[← S.pre,List.getElem?_take_of_lt (by lia)];exact h1
  have ndP:ps.Nodup:=by rw[← S.pre];exact S.nd.sublist (List.take_sublist _ _)
  refine⟨u,rv,?_⟩;rcases S.par y (xch hp) with k | k
  ·exact .inl ⟨k,zoj ndP hp hu k⟩
  ·obtain⟨c,e⟩:=zrt (n:=s.heap.objs.size+1) k;refine .inr ⟨.inl k,c,e,?_⟩;have q:=x.cell y c e;rw[zol ndP hp hu (by show scope.names.lookup y≠_;rw[k];decide)] at q;exact q
 ·exact e0.hok.fresh (xbw (x.above y c (xen h)))
 ·unfold start;show _=N.length;rw[xbs,xbd,xgw];lia
theorem zbiu {CX:CXT}{P:Program}{w:World}{K:Fg}{mg:Str->Option Value}{base:Heap}{k:Nat}{f:Addr}{name qual:Str}{params:Arguments}{body:List Stmt}{scope:Scope}{dV kV doc pm cdv ct oc:Value}{an od:Option Addr}
  {osl:Array (Option Value)}{N ps:List Str}{sp:Sp}(lk:K.lookup f=some ⟨oc,od,.func (W.fnOf name qual params body scope dV kV doc pm an cdv ct),osl⟩)(hcd:W.codeIn K cdv qual=true)(S:FnScope N ps scope)
  (len:∀vs H Q E,sp vs H Q E->vs.length=ps.length)
  (hbody:∀(A:Around) (outer:List Env) (s:Shared) (H:Hp) (vs:List V) (Q:VK) (E:XK),Room k (A.deeper (envOfC qual scope s.heap.objs.size f cdv))->sp vs H Q E ->
   ∃t,PSs (cxOf CX P w K mg base N qual scope f cdv A outer s H E) body t/\t {nx:=fun _ H'=>Q .non H',rt:=Q} (start N vs) H) :
  FnOk P w K mg base CX (k+1) f (W.fnOf name qual params body scope dV kV doc pm an cdv ct) ps sp:=by
 refine⟨len,fun A outer s H args us vs Q E hr e0 hb r hsp=>?_⟩;have hl:=len _ _ _ _ hsp;have KX:K.In s.heap:=e0.mod.kin.keeps fun b o e=>(e0.bs b o e).1
 have lim:s.heap.NoLimit:=e0.mod.nolimit.keeps fun b o e=>(e0.bs b o e).1
 have hkind:∀y∈ps.zip us,scope.names.lookup y.1=some .local\/(scope.names.lookup y.1=some .cell/\((cellsFrom (s.heap.objs.size+1) scope.names []).lookup y.1).isSome=true):=fun hq0 hy=>by
  obtain⟨n,v⟩:=hq0;rcases S.par n (xki hy).1 with q | q
  ·exact .inl q
  ·exact .inr ⟨q,xju _ _ _ (.inl q)⟩
 refine codeAny_call_function hr.depth (KX _ _ lk) rfl S.co S.gen rfl (W.codeRec_of KX hcd) (hb _ _ _ _ ?_);refine wpAny_newFunctionEnv_cells S.kind hkind fun env he s1 x=>?_
 subst he;refine⟨lim.keeps x.toInCall.keep,codeAny_func ?_⟩;obtain⟨t,ht,hq⟩:=hbody A outer s H vs Q E (hr.deeper _) hsp;have I:Inv (cxOf CX P w K mg base N qual scope f cdv A outer s H E) [] (start N vs) H s1:=znv S hr.hd e0 hl r x;refine xdh (ht [] s1 (start N vs) H _ I hq) (fun fl s' hs=>?_) fun e s' hs=>hs
 have fin:∀{σ':St} {H':Hp} {v:V} {u:Value},Inv (cxOf CX P w K mg base N qual scope f cdv A outer s H E) [] σ' H' s'->RelV v u->Q v H'->CE outer P w H s Q u s' :=
  fun {σ' H' v u} J rv q=>⟨v,H',J.os,J.bare,J.base,J.hok,rv,q⟩
 cases fl with
 | ret u =>
  obtain⟨v,σ',H',J,rv,q⟩:=hs;exact fin J rv q
 | next =>
  obtain⟨σ',H',J,q⟩:=hs;exact fin (v:=V.non) (u:=Value.none) J rfl q
 | brk =>
  obtain⟨_,_,_,q⟩:=hs;exact False.elim q
 | cont =>
  obtain⟨_,_,_,q⟩:=hs;exact False.elim q
section
variable {X:Cx}{x:Str}{p pos:Pos}{e:Expr}{es:List Expr}{t:TA}{id T:String}{r:List V->Hp->VK->Prop}
def tCB (r:List V->Hp->VK->Prop) (t:TA):TE:=fun σ H Q=>t σ H fun vs H1=>r vs H1 Q
theorem zqi (hc:CallR X (.builtin id) r)(hg:Gl X x)(hm:X.mg x=none)(hv:bootBuiltins x=some (.builtin id))(ha:PA X (e::es) t)(hn:x≠"__name__":=by decide)(hdb:(x==("__debug__" : Str))=false:=by decide)
  (he:starEach (e::es) X.env=(false,eval e X.env)::starEach es X.env:=by rfl)(hpl:(backTo pos (starEach es X.env)).any (·.1)=false:=by rfl):PE X (.Call (.Name x p) (e::es) [] pos) (tCB r t):=by
 intro aY s σ H Q I h;refine xfe (zjt I hg hm hv ?_ hn hdb);exact PyProof.Rows.callWith_builtin1 (thn (ha pos aY s σ H _ I h) fun us s1 ⟨vs,H1,I1,r1,q1⟩=>hc aY s1 σ H1 vs us Q I1 r1 q1) he hpl
theorem zti (hc:CallR X (.type T) r)(hg:Gl X x)(hm:X.mg x=none)(hv:bootBuiltins x=some (.type T))(ha:PA X (e::es) t)(hn:x≠"__name__":=by decide)(hdb:(x==("__debug__" : Str))=false:=by decide)
  (he:starEach (e::es) X.env=(false,eval e X.env)::starEach es X.env:=by rfl)(hpl:(backTo pos (starEach es X.env)).any (·.1)=false:=by rfl):PE X (.Call (.Name x p) (e::es) [] pos) (tCB r t):=by
 intro aY s σ H Q I h;refine xfe (zjt I hg hm hv ?_ hn hdb);exact xfn (thn (ha pos aY s σ H _ I h) fun us s1 ⟨vs,H1,I1,r1,q1⟩=>hc aY s1 σ H1 vs us Q I1 r1 q1) he hpl
end
end L2
namespace HT
open PySem PyProof.Rows
def lexLt:List Int->List Int->Bool
 | [],[]=>false
 | [],_::_=>true
 | _::_,[]=>false
 | x::xs,y::ys=>if x=y then lexLt xs ys else decide (x < y)
theorem zdm (x y:Int)(xs ys:List Int):lexLt (x::xs) (y::ys)=if x=y then lexLt xs ys else decide (x < y):=rfl
theorem zej:lexLt [] []=false:=rfl
theorem zcp (y:Int)(ys:List Int):lexLt [] (y::ys)=true:=rfl
theorem zdt (x:Int)(xs:List Int):lexLt (x::xs) []=false:=rfl
theorem zyt (A:Around)(s:Shared)(a:Int)(t:Tok)(c:Int)(u:Tok):∃e,SeqAt.EqAt A s (.int a t) (.int c u) e/\(e=true↔a=c) :=
 ⟨(a==c),SeqAt.EqAt.int_int a t c u,by simp⟩
theorem zxb (A:Around)(s:Shared)(a:Int)(t:Tok)(c:Int)(u:Tok)(prog:Program)(w:World)(E:Value->Shared->Prop)(Q:Value->Shared->Prop)(h:Q (.bool (decide (a < c))) s) :
  wpAny (model prog w) A (richCompare .Lt (.int a t) (.int c u)) Q E s :=
 (PyProof.Rows.lt_int h:wpAny (model prog w) A (compareOp .Lt (.int a t) (.int c u)) Q E s)
section
open PySem.SeqAt
open PySem.AutoSeq1 (wpAny_loadPart')
open PySem.MeetsSeq PySem.MeetsSeq2 PySem.MeetsSeq3
theorem zgt (l b:Addr)(items items2:Array Value)(n n2:Nat)(dd dd2:Option Addr)(sl sl2:Array (Option Value))(ns ms:List Int)(hi:IntsAre items.toList ns)(hj:IntsAre items2.toList ms) :
  Meets (Builtin.«tuple.__lt__» ⟨[.ref l,.ref b],[]⟩)
   (fun _ R s=>s.heap.get? l=some { cls:=.type "tuple", dict:=dd, data:=.seq items n, slots:=sl }/\s.heap.get? b=some { cls:=.type "tuple", dict:=dd2, data:=.seq items2 n2, slots:=sl2 } /\
    R (.ok (.ret (.bool (lexLt ns ms)))) s) :=
 .of_wp fun prog w A R s h=>by
  obtain⟨hp,g,d,tk,os⟩:=s;obtain⟨hl,hb,h⟩:=h
  have f2:=AutoSeq1.sub_tuple_tuple;have z1:items.size=ns.length:=by rw[← hi.length];simp
  have z2:items2.size=ms.length:=by rw[← hj.length];simp
  wp_walk using wpAny_loadPart' hl,wpAny_loadPart' hb,wpAny_forIn_list _ (fun rest b s'=>b.1=none/\s'=⟨hp,g,d,tk,os⟩/\∃(vs ws:List Value) (ns' ms':List Int),rest=vs.zip ws /\
   IntsAre vs ns'/\IntsAre ws ms'/\ns'.length+items2.size=ms'.length+items.size/\R (.ok (.ret (.bool (lexLt ns' ms')))) ⟨hp,g,d,tk,os⟩) _
  case turn =>
   rintro⟨y,x⟩ rest b s' ⟨hb',rfl,vs,ws,ns',ms',hz,hvi,hwi,hlen,hR⟩;cases hvi with
   | nil=>rw[List.zip_nil_left] at hz;cases hz
   | cons a t hvi' =>
    cases hwi with
    | nil=>rw[List.zip_nil_right] at hz;cases hz
    | cons c u hwi' =>
     rw[xkt] at hz;injection hz with hyx hrest
     injection hyx with hy hx
     subst hy hx;rw[zdm] at hR;simp only[xbx] at hlen;obtain⟨e,he,hiff⟩:=zyt A.in1 ⟨hp,g,d,tk,os⟩ a t c u;refine xba (he prog w _ _ ?_);cases e with
     | true =>
      rw[if_pos (hiff.mp rfl)] at hR
      wp_walk
      exact⟨rfl,rfl,_,_,_,_,hrest,hvi',hwi',by lia,hR⟩
     | false =>
      rw[if_neg (fun q=>absurd (hiff.mpr q) xft)] at hR;have hri:=zxb A.in1 ⟨hp,g,d,tk,os⟩ a t c u prog w
      wp_walk using hri
      exact⟨_,rfl,by simpa using hR⟩
  case fin =>
   rintro⟨b1,b2⟩ s' ⟨hb',rfl,vs,ws,ns',ms',hz,hvi,hwi,hlen,hR⟩;simp only at hb';subst hb';have hv:lexLt ns' ms'=decide (items.size < items2.size):=by
    cases hvi with
    | nil =>
     cases hwi with
     | nil =>
      simp only[xkj] at hlen;rw[zej];exact(xbt (by lia)).symm
     | cons c u hw =>
      simp only[xkj,xbx] at hlen;rw[zcp];exact(xcv (by lia)).symm
    | cons a t hv =>
     cases hwi with
     | nil =>
      simp only[xkj,xbx] at hlen;rw[zdt];exact(xbt (by lia)).symm
     | cons c u hw =>
      rw[xkt] at hz;cases hz
   rw[hv] at hR
   wp_walk
   exact⟨_,rfl,by simpa [Builtin.Tuple.tupleCompareSizes] using hR⟩
  case h =>
   exact⟨rfl,rfl,items.toList,items2.toList,ns,ms,rfl,hi,hj,by lia,h⟩
end
section
variable {prog:Program}{w:World}{A:Around}{E:Value->Shared->Prop}{s:Shared}
theorem zkp {l b:Addr}{items items2:Array Value}{ns ms:List Int}{Q:Value->Shared->Prop}(hl:IsTup s.heap l items)(hb:IsTup s.heap b items2)(hi:IntsAre items.toList ns)(hj:IntsAre items2.toList ms)
  (hu:A.units < cLine)(h:Q (.bool (lexLt ns ms)) s):wpAny (model prog w) A (compareOp .Lt (.ref l) (.ref b)) Q E s:=by
 obtain⟨⟨cls,dd,data,sl⟩,ho,hc,n,hd⟩:=id hl;obtain⟨⟨cls2,dd2,data2,sl2⟩,ho2,hc2,n2,hd2⟩:=id hb;simp only at hc hd hc2 hd2;subst hc hd hc2 hd2;exact richCompare_meets_room (op:=.Lt) ⟨_,ho,rfl⟩ ⟨_,ho2,rfl⟩ xkb F.entry_tuple_lt (F.args_tuple_lt_2 _ _) (zgt l b items items2 n n2 dd dd2 sl sl2 ns ms hi hj)
  ⟨ho,ho2,show Value.bool (lexLt ns ms)≠Value.notImplemented/\Q (.bool (lexLt ns ms)) s from⟨(fun x=>nomatch x),h⟩⟩ hu
theorem zbfg {t b:Addr}{vs ws:List Value}{Q:Value->Shared->Prop}(ht:IsTup s.heap t vs.toArray)(hb:IsTup s.heap b ws.toArray)(hv:vs≠[])
  (h1:ws=[]->Q (.ref t) s)(h2:ws≠[]->Q (.ref s.heap.objs.size) { s with heap:=s.heap.push { cls:=.type "tuple", data:=.seq (vs++ws).toArray } })
  (hsz:vs.length+ws.length<=sizeLine):wpAny (model prog w) A (binaryOp .Add (.ref t) (.ref b)) Q E s:=by
 obtain⟨⟨cls,dd,data,sl⟩,ho,hc,n,hd⟩:=id ht;obtain⟨⟨cls2,dd2,data2,sl2⟩,ho2,hc2,n2,hd2⟩:=id hb;simp only at hc hd hc2 hd2;subst hc hd hc2 hd2;have e:vs.toArray++ws.toArray=(vs++ws).toArray:=by simp
 by_cases hw:ws=[]
 ·exact concat_meets ⟨_,ho,rfl⟩ ⟨_,ho2,rfl⟩ noFill_tuple_add seq_tuple_add xjv xjn (xjf _ _)
   (tuple_addW1 t b vs.toArray ws.toArray n n2 dd dd2 sl sl2 (by simpa using hv) (by simp[hw])) ⟨ho,ho2,h1 hw⟩
 ·refine concat_meets ⟨_,ho,rfl⟩ ⟨_,ho2,rfl⟩ noFill_tuple_add seq_tuple_add xjv xjn (xjf _ _)
   (tuple_addW2 t b vs.toArray ws.toArray n n2 dd dd2 sl sl2 (by simpa using hv) (by simpa using hw) (by rw[xbn,xbn];exact hsz)) ⟨ho,ho2,?_⟩
  rw[e];exact h2 hw
def sIx (n d:Nat):Option Int->Nat
 | none=>d
 | some v=>if v < 0 then(v+(n:Int)).toNat else min v.toNat n
theorem zpu (n d:Nat):sIx n d none=d:=rfl
theorem zvl (n d k:Nat):sIx n d (some (k:Int))=min k n:=by
 show(if(k:Int) < 0 then((k:Int)+(n:Int)).toNat else min (k:Int).toNat n)=min k n;rw[if_neg (by lia),xec]
theorem zbgw (n d:Nat)(hd:d<=n)(o:Option Int):sIx n d o<=n:=by
 cases o with
 | none=>exact hd
 | some v =>
  show(if v < 0 then(v+(n:Int)).toNat else min v.toNat n)<=n;by_cases hv:v < 0
  ·rw[if_pos hv];lia
  ·rw[if_neg hv];exact xfr _ _
theorem zwi (v:Int)(n d:Nat):(if v < 0 then max (v+(n:Int)) 0 else min v (n:Int))=((sIx n d (some v):Nat):Int):=by
 show(if v < 0 then max (v+(n:Int)) 0 else min v (n:Int))=(((if v < 0 then(v+(n:Int)).toNat else min v.toNat n):Nat):Int)
 by_cases hv:v < 0
 ·simp only[if_pos hv];lia
 ·simp only[if_neg hv];lia
theorem zse (lo hi:Option Int)(n:Nat):Builtin.Slice.sliceAdjust lo hi 1 (n:Int)=(((sIx n 0 lo:Nat):Int),((sIx n n hi:Nat):Int)):=by
 have h1:¬ ((1:Int) < 0):=by lia
 unfold Builtin.Slice.sliceAdjust;simp only[h1,xes];refine Prod.ext ?_ ?_
 ·cases lo with
  | none=>rfl
  | some v=>exact zwi v n 0
 ·cases hi with
  | none=>rfl
  | some v=>exact zwi v n n
theorem zqh (i j:Nat):Builtin.Slice.slicePlaces (i:Int) (j:Int) 1=j - i:=by
 unfold Builtin.Slice.slicePlaces;have h1:(1:Int) > 0:=by lia
 simp only[h1,xfz,xkk];split<;>lia
theorem zee {v:Value}{o:Option Int}{Q:Option Int->Shared->Prop}(p:IsPart v o)(h:Q o s):wpAny (model prog w) A (Builtin.Slice.slicePartIndex v) Q E s:=by
 cases p with
 | none=>exact slicePart_none h
 | int i t=>exact slicePart_int h
theorem zef {sl:Addr}{vl vu:Value}{lo hi:Option Int}{n:Nat}{Q:Int×Int×Nat->Shared->Prop}(hs:s.heap.IsSliceOf sl vl vu .none)(pl:IsPart vl lo)(pu:IsPart vu hi)
  (h:Q (((sIx n 0 lo:Nat):Int),1,sIx n n hi - sIx n 0 lo) s):wpAny (model prog w) A (Builtin.Slice.sliceApplied (.ref sl) (pure (n:Int))) Q E s:=by
 obtain⟨os,hos,hcs,hds⟩:=id hs;unfold Builtin.Slice.sliceApplied Builtin.Slice.sliceFields;refine xba (xba (xdv hos hds (x:=vl) rfl (xba (xdv hos hds (x:=vu) rfl (xba (xdv hos hds (x:=.none) rfl (xbe ?_)))))));refine xba (slicePart_none ?_);show wpAny _ _ (if((1:Int)==0)=true then _ else _) _ _ s;rw[if_neg (by decide)];refine xba (zee pl (xba (zee pu (xba (xbe ?_)))));show wpAny _ _ (match Builtin.Slice.sliceAdjust lo hi 1 (n:Int) with | (lo,hi)=>pure (lo,(1:Int),Builtin.Slice.slicePlaces lo hi 1)) _ _ s;rw[zse lo hi n];show wpAny _ _ (pure (((sIx n 0 lo:Nat):Int),(1:Int),Builtin.Slice.slicePlaces ((sIx n 0 lo:Nat):Int) ((sIx n n hi:Nat):Int) 1)) _ _ s;rw[zqh];exact xbe h
theorem zxl (xs:Array Value)(i k:Nat):((List.range k).filterMap fun(m:Nat)=>xs[((i:Int)+(m:Int) * 1).toNat]?).toArray=((xs.toList.drop i).take k).toArray:=by
 have e:(fun(m:Nat)=>xs[((i:Int)+(m:Int) * 1).toNat]?)=fun m=>xs[i+m]?:=by
  funext m
  have:((i:Int)+(m:Int) * 1).toNat=i+m:=by lia
  rw[this]
 rw[e];have:=pick_run xs i k;rw[xku] at this;have e2:((fun x=>xs[x]?) ∘ fun x=>i+x)=fun m=>xs[i+m]?:=rfl
 rw[e2] at this;rw[this]
theorem zhc {t sl:Addr}{items:Array Value}{vl vu:Value}{lo hi:Option Int}{Q:Value->Shared->Prop}(ht:IsTup s.heap t items)(hs:s.heap.IsSliceOf sl vl vu .none)(pl:IsPart vl lo)(pu:IsPart vu hi)
  (hw:¬ (sIx items.size 0 lo=0/\sIx items.size items.size hi=items.size))
  (h:Q (.ref s.heap.objs.size) { s with heap:=s.heap.push { cls:=.type "tuple", data:=.seq ((items.toList.drop (sIx items.size 0 lo)).take (sIx items.size items.size hi - sIx items.size 0 lo)).toArray } })
  (hsz:items.size<=sizeLine):wpAny (model prog w) A (getItem (.ref t) (.ref sl)) Q E s:=by
 have htake:sizeOk (.seq ((items.toList.drop (sIx items.size 0 lo)).take (sIx items.size items.size hi - sIx items.size 0 lo)).toArray):=by
  show((items.toList.drop (sIx items.size 0 lo)).take (sIx items.size items.size hi - sIx items.size 0 lo)).toArray.size<=sizeLine;rw[xbn,xdw,xhe,xca];lia
 have hj:sIx items.size items.size hi<=items.size:=zbgw _ _ (xbf _) hi;obtain⟨os,hos,hcs,hds⟩:=id hs;have hTs:s.TypeIs (.ref sl) "slice":=⟨os, hos, hcs⟩
 unfold getItem
 try with_reducible refine xdm ?_
 first | refine xba (xbe ?_) | skip
 refine xba (xlj ht.typeIs (by decide) ?_)
 refine xba (wpAny_callSpecial?_slot (name:=Str.ofString "__getitem__") ht.typeIs xee
  (xem xee ht.typeIs entry_tuple_getitem ?_ (args_tuple_getitem _ _)))
 show wpAny _ _ (Builtin.Tuple.tupleItemsOf (.ref t) >>= _) _ _ s;refine xba (tupleItemsOf_ ht ?_);refine xba (wpAny_typeOf hTs ?_);rw[if_pos (by decide)];refine xba (zef hs pl pu ?_);have hno:¬ ((((sIx items.size 0 lo:Nat):Int)==0&&(1:Int)==1&&(sIx items.size items.size hi - sIx items.size 0 lo)==items.size)=true):=by
  intro q;rw[xek,xek] at q;have q1:((sIx items.size 0 lo:Nat):Int)=0:=eq_of_beq q.1.1;have q2:sIx items.size items.size hi - sIx items.size 0 lo=items.size:=eq_of_beq q.2;exact hw ⟨by lia,by lia⟩
 show wpAny _ _ (if(((sIx items.size 0 lo:Nat):Int)==0&&(1:Int)==1&&(sIx items.size items.size hi - sIx items.size 0 lo)==items.size)=true then _ else _) _ _ s;rw[if_neg hno,zxl]
 first
  | exact xba (m:=Builtin.Tuple.tupleExact _) (xdb (xbe ⟨_,rfl,xbe h⟩) htake)
  | exact xba (m:=Builtin.Tuple.tupleExact _) (xdb (xba (xbe (xbe ⟨_,rfl,xbe h⟩))) htake)
  | exact xba (xba (m:=Builtin.Tuple.tupleExact _) (xdb (xbe (xbe ⟨_,rfl,xbe h⟩)) htake))
  | exact xba (xba (m:=Builtin.Tuple.tupleExact _) (xdb (xbe ⟨_,rfl,xbe h⟩) htake))
end
end HT
namespace L2
open PySem PySem.Spec PyProof.Rows
abbrev TO:=St->Hp->(Option Int->Hp->Prop)->Prop
def PO (X:Cx) (e:Option Expr) (t:TO):Prop :=
 ∀(aY:List (Addr×Obj)) (s:Shared) (σ:St) (H:Hp) (Q:Option Int->Hp->Prop),Inv X aY σ H s->t σ H Q ->
  wpAny (model X.prog X.w) X.A (evalPart e X.env) (fun u s'=>∃o H',Inv X aY σ H' s'/\IsPart u o/\Q o H') X.xe s
def tNoPart:TO:=fun _ H Q=>Q none H
def tPart (t:TE):TO:=fun σ H Q=>t σ H fun x H1=>∃i,x=.int i/\Q (some i) H1
theorem zfx {ns:List Int}:∀{us:List Value},Vals (ns.map V.int) us->IntsAre us ns:=by
 induction ns with
 | nil=>intro us r;rw[xlm] at r;cases r;exact .nil
 | cons n ns ih =>
  intro us r;rw[xbp] at r;cases r with
  | cons r1 r2 =>
   obtain⟨t,e⟩:=r1;subst e;exact .cons n t (ih r2)
section
variable {X:Cx}{e:Expr}{te:TE}{lo hi:Option Expr}{tl th:TO}{pos p2:Pos}
theorem zbbm:PO X none tNoPart:=by
 intro aY s σ H Q I h;rw[xlc];exact xbe ⟨none,H,I,.none,h⟩
theorem zbbl (h:PE X e te):PO X (some e) (tPart te):=by
 intro aY s σ H Q I hw;rw[evalPart_some];refine thn (h aY s σ H _ I hw) fun u s1 hq0=>?_
 obtain⟨x,H1,I1,r1,q1⟩:=hq0;obtain⟨i,rfl,q⟩:=q1;obtain⟨t,rfl⟩:=r1;exact⟨some i,H1,I1,.int i t,q⟩
def SlR (X:Cx) (r:V->Option Int->Option Int->Hp->VK->Prop):Prop :=
 ∀(aY:List (Addr×Obj)) (s:Shared) (σ:St) (H:Hp) (x:V) (v vl vu:Value) (lo hi:Option Int) (sl:Addr) (Q:VK),Inv X aY σ H s->RelV x v->s.heap.IsSliceOf sl vl vu .none->IsPart vl lo->IsPart vu hi->r x lo hi H Q ->
  ∃ T id, typeLookup (.type T) "__getitem__"=pure (some (.builtin id))/\s.TypeIs v T/\wpAny (model X.prog X.w) X.A (getItem v (.ref sl)) (EP X aY σ Q) X.xe s
theorem SlR.or {r r':V->Option Int->Option Int->Hp->VK->Prop}(h:SlR X r)(h':SlR X r'):SlR X (fun x lo hi H Q=>r x lo hi H Q\/r' x lo hi H Q):=by
 intro aY s σ H x v vl vu lo hi sl Q I rx hs pl pu q;rcases q with q | q
 ·exact h aY s σ H x v vl vu lo hi sl Q I rx hs pl pu q
 ·exact h' aY s σ H x v vl vu lo hi sl Q I rx hs pl pu q
def tSl (r:V->Option Int->Option Int->Hp->VK->Prop) (te:TE) (tl th:TO):TE:=fun σ H Q=>te σ H fun x H1=>tl σ H1 fun l H2=>th σ H2 fun u H3=>r x l u H3 Q
theorem zxp {r:V->Option Int->Option Int->Hp->VK->Prop}(hr:SlR X r)(he:PE X e te)(hl:PO X lo tl)(hu:PO X hi th):PE X (.Subscript e (.Slice lo hi none p2) pos) (tSl r te tl th):=by
 intro aY s σ H Q I h;refine Subscript_ (thn (he aY s σ H _ I h) fun v s1 hq0=>?_);obtain⟨x,H1,I1,r1,q1⟩:=hq0;refine wpAny_Slice (thn (hl aY s1 σ H1 _ I1 q1) fun vl s2 ⟨l,H2,I2,pl,q2⟩=>thn (hu aY s2 σ H2 _ I2 q2) fun vu s3 hq0=>?_);obtain⟨u,H3,I3,pu,q3⟩:=hq0;rw[xlc];refine xbe ?_;have I4:Inv X aY σ H3 { s3 with heap:=s3.heap.push { cls:=.type "slice", data:=.fields #[vl, vu, .none] } }:=I3.kept (t':=s3.toks) fun b ob q=>xbb _ q
 obtain⟨T, id, hT, ht, hg⟩:=hr aY { s3 with heap:=s3.heap.push { cls:=.type "slice", data:=.fields #[vl, vu, .none] } } σ H3 x v vl vu l u s3.heap.objs.size Q I4 r1 (xkv ..) pl pu q3
 show wpAny (model X.prog X.w) X.A (subscriptTail e (.Slice lo hi none p2) v (.ref s3.heap.objs.size)) (EP X aY σ Q) X.xe { s3 with heap:=s3.heap.push { cls:=.type "slice", data:=.fields #[vl, vu, .none] } }
 exact tail_any (ops:=[.ref s3.heap.objs.size,v]) ht hT hg (by with_unfolding_all rfl)
def cutV (xs:List V) (lo hi:Option Int):List V:=(xs.drop (HT.sIx xs.length 0 lo)).take (HT.sIx xs.length xs.length hi - HT.sIx xs.length 0 lo)
theorem zjg (xs:List V)(lo hi:Option Int):(cutV xs lo hi).length<=xs.length:=by
 unfold cutV;rw[xdw,xhe];lia
def rSlT (K:Fg):V->Option Int->Option Int->Hp->VK->Prop:=fun x lo hi H Q=>∃a xs,x=.ref a/\SqT K H a xs /\
 ¬ (HT.sIx xs.length 0 lo=0/\HT.sIx xs.length xs.length hi=xs.length)/\∀p,H p=none->Q (.ref p) (upd H p (.tup (cutV xs lo hi)))
theorem zbgp:SlR X (rSlT X.K):=by
 intro aY s σ H x v vl vu lo hi sl Q I rx hs pl pu h;obtain⟨a,xs,rfl,hx,hw,q⟩:=h;cases rx;obtain⟨its,r,ht,hz⟩:=I.tuple hx;have hlen:its.toArray.size=xs.length:=by rw[xbn];exact r.length.symm
 refine⟨"tuple", _, xee.lookup, ht.typeIs, ?_⟩
 refine HT.zhc ht hs pl pu (by rw[hlen];exact hw) ?_ (by rw[hlen];exact hz);rw[hlen];refine⟨.ref s.heap.objs.size,_,I.laid (t':=s.toks) (o:=.tup (cutV xs lo hi)) (fun b ob q=>xbb _ q) (xbf _) ?_,rfl,q _ (I.hok.fresh (xbf _))⟩;exact⟨xbc (zjg xs lo hi) hz,_,(r.drop (HT.sIx xs.length 0 lo)).take (HT.sIx xs.length xs.length hi - HT.sIx xs.length 0 lo),IsTup.new _ _⟩
def rLtT (K:Fg):R2:=fun x y H Q=>∃a b ns ms,x=.ref a/\y=.ref b/\SqT K H a (ns.map V.int)/\SqT K H b (ms.map V.int)/\Q (.bl (HT.lexLt ns ms)) H
theorem zbhx (hu:X.A.units < cLine):OpR X (compareOp .Lt) (rLtT X.K):=by
 intro aY s σ H x y v u Q I rx ry h;obtain⟨a,b,ns,ms,rfl,rfl,ha,hb,q⟩:=h;cases rx;cases ry;obtain⟨its,r1,p1,_⟩:=I.tuple ha;obtain⟨its2,r2,p2,_⟩:=I.tuple hb;have i1:IntsAre its.toArray.toList ns:=zfx r1;have i2:IntsAre its2.toArray.toList ms:=zfx r2;exact HT.zkp p1 p2 i1 i2 hu ⟨.bl (HT.lexLt ns ms),H,I,rfl,q⟩
def rCatT (K:Fg):R2:=fun x y H Q=>∃a b xs ys,x=.ref a/\y=.ref b/\SqT K H a xs/\SqT K H b ys/\xs≠[]/\xs.length+ys.length<=sizeLine /\
 (ys=[]->Q (.ref a) H)/\(ys≠[]->∀p,H p=none->Q (.ref p) (upd H p (.tup (xs++ys))))
theorem Vals.nil_iff {xs:List V}{us:List Value}(r:Vals xs us):us=[]↔xs=[]:=by
 cases r with
 | nil=>simp
 | cons _ _=>simp
theorem zbch:OpR X (binaryOp .Add) (rCatT X.K):=by
 intro aY s σ H x y v u Q I rx ry h;obtain⟨a,b,xs,ys,rfl,rfl,ha,hb,hx,hz,q1,q2⟩:=h;cases rx;cases ry;obtain⟨its,r1,p1,_⟩:=I.tuple ha;obtain⟨its2,r2,p2,_⟩:=I.tuple hb;refine HT.zbfg p1 p2 (fun z=>hx (r1.nil_iff.mp z)) (fun z=>⟨.ref a,H,I,rfl,q1 (r2.nil_iff.mp z)⟩) (fun z=>?_) (by rw[← r1.length,← r2.length];exact hz);refine⟨.ref s.heap.objs.size,_,I.laid (t':=s.toks) (o:=.tup (xs++ys)) (fun b ob q=>xbb _ q) (xbf _) ?_,rfl,q2 (fun w=>z (r2.nil_iff.mpr w)) _ (I.hok.fresh (xbf _))⟩;exact⟨by rw[xbs];exact hz,_,r1.append r2,IsTup.new _ _⟩
end
def ixN (n:Nat) (i:Int):Option Nat:=if 0<=i then(if i < n then some i.toNat else none) else if -(n:Int)<=i then some (i+n).toNat else none
def atI {α:Type} (xs:List α) (i:Int):Option α:=(ixN xs.length i).bind fun j=>xs[j]?
theorem zvt {n:Nat}{i:Int}{j:Nat}(h:ixN n i=some j):seqIndex? i n=some j/\j < n/\-(n:Int)<=i/\i < n:=by
 unfold ixN at h;by_cases h0:0<=i
 ·rw[if_pos h0] at h;by_cases h1:i < n
  ·rw[if_pos h1] at h;have e:i.toNat=j:=xby h;exact⟨by rw[seqIndex_of h0 h1,e],by lia,by lia,h1⟩
  ·rw[if_neg h1] at h;cases h
 ·rw[if_neg h0] at h;by_cases h1:-(n:Int)<=i
  ·rw[if_pos h1] at h;have e:(i+n).toNat=j:=xby h;exact⟨by rw[seqIndex_neg (by lia) h1,e],by lia,h1,by lia⟩
  ·rw[if_neg h1] at h;cases h
theorem zsc {α:Type}{xs:List α}{i:Int}{v:α}(h:atI xs i=some v):∃j,seqIndex? i xs.length=some j/\xs[j]?=some v/\j < xs.length/\-(xs.length:Int)<=i/\i < xs.length:=by
 unfold atI at h;cases e:ixN xs.length i with
 | none=>rw[e] at h;cases h
 | some j =>
  rw[e] at h;obtain⟨h1,h2,h3,h4⟩:=zvt e;exact⟨j,h1,h,h2,h3,h4⟩
theorem zon {α:Type}{xs:List α}{j:Nat}{v:α}(h:xs[j]?=some v):atI xs (j:Int)=some v:=by
 have hj:j < xs.length:=(xbo.mp h).1;have e:ixN xs.length (j:Int)=some j:=by
  unfold ixN;rw[if_pos (by lia),if_pos (by lia)];simp
 unfold atI;rw[e];exact h
def PlainIx (b:Expr):Prop:=∀o i,subscripted b false o i=operate [o,i] (getItem o i)
def IxR (X:Cx) (r:R2):Prop :=
 ∀(value slice:Expr) (aY:List (Addr×Obj)) (s:Shared) (σ:St) (H:Hp) (x y:V) (v u:Value) (Q:VK),Inv X aY σ H s->RelV x v->RelV y u->r x y H Q ->
  subscripted slice false v u=operate [v,u] (getItem v u)->wpAny (model X.prog X.w) X.A (subscriptTail value slice v u) (EP X aY σ Q) X.xe s
def MtR (X:Cx) (id:String) (r:V->List V->Hp->VK->Prop):Prop :=
 ∀(aY:List (Addr×Obj)) (s:Shared) (σ:St) (H:Hp) (x:V) (xs:List V) (v:Value) (us:List Value) (Q:VK),Inv X aY σ H s->RelV x v->Vals xs us->r x xs H Q ->
  wpAny (model X.prog X.w) X.A (call (.builtin id) (v::us)) (EP X aY σ Q) X.xe s
section
variable {X:Cx}{a b:Expr}{ta tb:TE}{pos:Pos}
theorem IxR.or {r r':R2}(h:IxR X r)(h':IxR X r'):IxR X (fun x y H Q=>r x y H Q\/r' x y H Q):=by
 intro value slice aY s σ H x y v u Q I rx ry q hs;rcases q with q | q
 ·exact h value slice aY s σ H x y v u Q I rx ry q hs
 ·exact h' value slice aY s σ H x y v u Q I rx ry q hs
theorem zbmn {r:R2}(hr:IxR X r)(ha:PE X a ta)(hb:PE X b tb)(hs:PlainIx b):PE X (.Subscript a b pos) (tOp r ta tb):=by
 intro aY s σ H Q I h;exact Subscript_ (binT ha hb I h fun v u s2 x y H2 I2 rx ry q=>hr a b aY s2 σ H2 x y v u Q I2 rx ry q (hs _ _))
def rIxL (K:Fg):R2:=fun x y H Q=>∃p xs i v,x=.ref p/\y=.int i/\SqL K H p xs/\atI xs i=some v/\Q v H
def rIxT (K:Fg):R2:=fun x y H Q=>∃p xs i v,x=.ref p/\y=.int i/\SqT K H p xs/\atI xs i=some v/\Q v H
def rIxS:R2:=fun x y H Q=>∃z i c,x=.str z/\y=.int i/\z.length<=sizeLine/\atI z.cps.toList i=some c/\Q (.str ⟨#[c]⟩) H
theorem zbde:IxR X (rIxL X.K):=by
 intro value slice aY s σ H x y v u Q I rx ry h hs;obtain⟨p,xs,i,z,rfl,rfl,hq,he,q⟩:=h;cases rx;obtain⟨t,rfl⟩:=ry;obtain⟨its,r,pl,hz⟩:=I.list hq;obtain⟨j,h1,h2,h3,h4,h5⟩:=zsc he;obtain⟨w,ew,rw'⟩:=r.get h2;have hl:=r.length;have hn:=line63;have fin:EP X aY σ Q w s:=⟨z,H,I,rw',q⟩
 by_cases h0:0<=i
 ·have hj:i.toNat=j:=by
   rw[seqIndex_of h0 h5] at h1;exact xby h1
  exact item_listR pl.isList h0 (by lia) (by rw[hj];simpa using ew) fin hs
 ·have hj:(i+(its.toArray.size:Int)).toNat=j:=by
   rw[seqIndex_neg (by lia) h4] at h1;rw[xbn,← hl];exact xby h1
  exact subscriptTail_builtinR (x:=w) pl.isList.typeIs xlk.lookup
   (wpAny_getItem_list_neg (Q:=fun r s'=>r=w/\EP X aY σ Q r s') pl.isList (by lia) (by rw[xbn]<;>lia) (by lia) (by rw[hj];simpa using ew) ⟨rfl,fin⟩) hs
theorem zbim:IxR X (rIxT X.K):=by
 intro value slice aY s σ H x y v u Q I rx ry h hs;obtain⟨p,xs,i,z,rfl,rfl,hq,he,q⟩:=h;cases rx;obtain⟨t,rfl⟩:=ry;obtain⟨its,r,pl,hz⟩:=I.tuple hq;obtain⟨j,h1,h2,h3,h4,h5⟩:=zsc he;obtain⟨w,ew,rw'⟩:=r.get h2;have hl:=r.length;have hn:=line63;have fin:EP X aY σ Q w s:=⟨z,H,I,rw',q⟩
 exact subscriptTail_builtinR (x:=w) pl.typeIs xjl.lookup
  (getItem_tuple (j:=j) (Q:=fun r s'=>r=w/\EP X aY σ Q r s') pl (by lia) (by lia) (by rw[xbn,← hl];exact h1) (by simpa using ew) ⟨rfl,fin⟩) hs
theorem zbin:IxR X rIxS:=by
 intro value slice aY s σ H x y v u Q I rx ry h hs;obtain⟨z,i,c,rfl,rfl,hz,he,q⟩:=h;obtain⟨t,rfl⟩:=rx;obtain⟨t',rfl⟩:=ry;obtain⟨j,h1,h2,h3,h4,h5⟩:=zsc he;have hl:z.cps.toList.length=z.length:=by simp[Str.length]
 rw[hl] at h1 h4 h5;have hn:=line63
 exact tail_any (typeIs_str s z t) slot_str_getitem.lookup (getItem_str (c:=c) (by
  have e1:decide (i < -(2 ^ 63:Int))=false:=xbt (by lia);have e2:decide (i ≥ 2 ^ 63)=false:=xbt (by lia)
  rw[e1,e2,Bool.or_false]) (by rw[h1];simpa using h2) ⟨.str ⟨#[c]⟩,H,I.tok _,⟨_,rfl⟩,q⟩) hs
def rIx (K:Fg):R2:=fun x y H Q=>rIxL K x y H Q\/rIxT K x y H Q\/rIxS x y H Q
theorem zbio:IxR X (rIx X.K):=zbde.or (zbim.or zbin)
theorem zqv (its:List Value)(n j:Nat)(u:Value):Obj.mapSeq (·.setIfInBounds j u) { cls:=.type "list", data:=.seq its.toArray n }={ cls:=.type "list", data:=.seq (its.set j u).toArray n }:=by
 simp[Obj.mapSeq]
theorem Inv.lst {aY:List (Addr×Obj)}{σ:St}{H:Hp}{s:Shared}{p:Addr}{xs:List V}(I:Inv X aY σ H s)(h:H p=some (.lst xs)) :
  ∃(its:List Value) (n:Nat), Vals xs its/\s.heap.get? p=some { cls:=.type "list", data:=.seq its.toArray n }/\xs.length<=sizeLine:=by
 obtain⟨z,its,n,r,e⟩:=I.hok p _ h;exact⟨its,n,r,e,z⟩
theorem Inv.lstUpd {aY:List (Addr×Obj)}{σ:St}{H:Hp}{s:Shared}{p:Addr}{xs ys:List V}{its its':List Value}{n n':Nat}{f:Obj->Obj}(I:Inv X aY σ H s)(h:H p=some (.lst xs))
  (ho:s.heap.get? p=some { cls:=.type "list", data:=.seq its.toArray n })(hf:f { cls:=.type "list", data:=.seq its.toArray n }={ cls:=.type "list", data:=.seq its'.toArray n' })(r:Vals ys its')(hz:ys.length<=sizeLine)(t:Nat) :
  Inv X aY σ (upd H p (.lst ys)) {s with heap:=s.heap.update p f,toks:=t}:=by
 have e:(s.heap.update p f).get? p=some { cls:=.type "list", data:=.seq its'.toArray n' }:=by
  rw[xep f ho (by rw[hf]<;>rfl),hf]
 refine I.write (x:=p) (e:=p) (by rw[h];trivial) (.inl rfl) (fun b u hb q=>(xcp _ _ (xct hb)).trans q) ⟨_,e⟩ ?_;exact⟨hz,its',n',r,e⟩
def rSetL:V->V->V->Hp->(Hp->Prop)->Prop:=fun o i v H Q=>∃p xs k j,o=.ref p/\i=.int k/\H p=some (.lst xs)/\ixN xs.length k=some j/\Q (upd H p (.lst (xs.set j v)))
theorem zwv:PSet X rSetL:=by
 intro aY s σ H o i v ov iv u Q I ro ri rv h;obtain⟨p,xs,k,j,rfl,rfl,hp,hj,q⟩:=h;cases ro;obtain⟨t,rfl⟩:=ri;obtain⟨its,n,r,ho,hz⟩:=I.lst hp;obtain⟨h1,h2,h3,h4⟩:=zvt hj;have hl:=r.length;have hn:=line63;have I':Inv X aY σ (upd H p (.lst (xs.set j v))) {s with heap:=s.heap.update p (Obj.mapSeq (·.setIfInBounds j u))} :=
  I.lstUpd hp ho (zqv its n j u) (r.set rv j) (by rw[xey];exact hz) s.toks
 by_cases h0:0<=k
 ·have hk:k.toNat=j:=by
   rw[seqIndex_of h0 h4] at h1;exact xby h1
  exact W.ki_setAt ho h0 (by lia) (by rw[xbn,← hl];exact h4) (by rw[hk];exact⟨_,I',q⟩)
 ·have hk:(k+(its.toArray.size:Int)).toNat=j:=by
   rw[seqIndex_neg (by lia) h3] at h1;rw[xbn,← hl];exact xby h1
  exact W.ki_setBack ho (by lia) (by rw[xbn,← hl];exact h3) (by lia) (by rw[hk];exact⟨_,I',q⟩)
theorem zlt (lo hi:Option Int)(n:Nat):(sliceBounds lo hi none n).1=((HT.sIx n 0 lo:Nat):Int)/\(sliceBounds lo hi none n).2.1=((HT.sIx n n hi:Nat):Int)/\(sliceBounds lo hi none n).2.2=1:=by
 refine⟨?_,?_,rfl⟩
 ·cases lo with
  | none=>simp[sliceBounds,HT.sIx]
  | some i =>
   simp only[sliceBounds,HT.sIx,Option.getD_none,show(1:Int) > 0 by decide,xfz];by_cases h:i < 0
   ·simp only[h,xfz]<;>lia
   ·simp only[h,xes]<;>lia
 ·cases hi with
  | none=>simp[sliceBounds,HT.sIx]
  | some i =>
   simp only[sliceBounds,HT.sIx,Option.getD_none,show(1:Int) > 0 by decide,xfz];by_cases h:i < 0
   ·simp only[h,xfz]<;>lia
   ·simp only[h,xes]<;>lia
theorem zkg (its:List Value)(lo hi:Option Int):slicePick its.toArray lo hi none=((its.drop (HT.sIx its.length 0 lo)).take (HT.sIx its.length its.length hi - HT.sIx its.length 0 lo)).toArray:=by
 obtain⟨h1,h2,h3⟩:=zlt lo hi its.toArray.size;unfold slicePick;rw[h1,h2,h3];simp only[sliceRange_one,pick_run,xbn]<;>rfl
def rSlL (K:Fg):V->Option Int->Option Int->Hp->VK->Prop:=fun x lo hi H Q=>∃a xs,x=.ref a/\SqL K H a xs/\∀p,H p=none->Q (.ref p) (upd H p (.lst (cutV xs lo hi)))
theorem zbaw:SlR X (rSlL X.K):=by
 intro aY s σ H x v vl vu lo hi sl Q I rx hs pl pu h;obtain⟨a,xs,rfl,hx,q⟩:=h;cases rx;obtain⟨its,r,ht,hz⟩:=I.list hx;have hlen:=r.length;refine⟨"list", _, xlk.lookup, ht.isList.typeIs, ?_⟩
 refine wpAny_getItem_list_slice ht.isList hs pl pu .none (by simp) ?_ (by rw[xbn]<;>lia);rw[zkg,← hlen];refine⟨.ref s.heap.objs.size,_,I.laid (t':=s.toks) (o:=.lst (cutV xs lo hi)) (fun b ob q=>xbb _ q) (xbf _) ?_,rfl,q _ (I.hok.fresh (xbf _))⟩;exact⟨xbc (zjg xs lo hi) hz,_,0,(r.drop (HT.sIx xs.length 0 lo)).take (HT.sIx xs.length xs.length hi - HT.sIx xs.length 0 lo),xbk _ rfl⟩
theorem zu:CallR X (.builtin "len") (fun xs H Q=>∃ p ys, xs=[.ref p]/\(SqL X.K H p ys\/SqT X.K H p ys)/\Q (.int ys.length) H):=by
 intro aY s σ H xs us Q I r h;obtain⟨p,ys,rfl,hq,q⟩:=h;obtain⟨u,rfl,rx⟩:=vals1 r;cases rx;have hn:=line63;rcases hq with hq | hq
 ·obtain⟨its,r',pl,hz⟩:=I.list hq;have hlen:=r'.length;exact Calls.call_len_list pl.isList (by simp only[xbn]<;>lia) ⟨.int ys.length,H,I.tok _,⟨s.toks+1,by rw[xbn,hlen]⟩,q⟩
 ·obtain⟨its,r',pl,hz⟩:=I.tuple hq;have hlen:=r'.length;exact len_tuple pl (by simp only[xbn]<;>lia) ⟨.int ys.length,H,I.tok _,⟨s.toks+1,by rw[xbn,hlen]⟩,q⟩
theorem CallR.or {f:Value}{r r':List V->Hp->VK->Prop}(h:CallR X f r)(h':CallR X f r'):CallR X f (fun xs H Q=>r xs H Q\/r' xs H Q):=by
 intro aY s σ H xs us Q I rs q;rcases q with q | q
 ·exact h aY s σ H xs us Q I rs q
 ·exact h' aY s σ H xs us Q I rs q
theorem zfm:CallR X (.type "list") (fun xs H Q=>∃ p ys, xs=[.ref p]/\(SqL X.K H p ys\/SqT X.K H p ys)/\∀ l, H l=none->Q (.ref l) (upd H l (.lst ys))):=by
 intro aY s σ H xs us Q I r h;obtain⟨p,ys,rfl,hq,q⟩:=h;obtain⟨u,rfl,rx⟩:=vals1 r;cases rx;have fin:∀(its:List Value),Vals ys its->ys.length<=sizeLine->∀(h':Heap) (c':Nat),(∀b o',s.heap.get? b=some o'->h'.get? b=some o') ->
   h'.get? s.heap.objs.size=some { cls:=.type "list", dict:=none, data:=.seq its.toArray c', slots:=#[] }->EP X aY σ Q (.ref s.heap.objs.size) { s with heap:=h' }:=fun its r' hz h' c' kp e =>
  ⟨.ref s.heap.objs.size,_,I.laid (t':=s.toks) kp (xbf _) (show ObjOk X.prog X.w _ h' _ (.lst ys) from⟨hz,its,c',r',e⟩),rfl,q _ (I.hok.fresh (xbf _))⟩
 rcases hq with hq | hq
 ·obtain⟨its,r',pl,hz⟩:=I.list hq;have hlen:=r'.length;obtain⟨o,ho,hc,n,hd⟩:=pl.isList;exact call_list_seq p (.inl rfl) ho hc hd (fun h' c' kp e=>fin its r' hz h' c' kp e) (by simp only[xbn]<;>lia)
 ·obtain⟨its,r',pl,hz⟩:=I.tuple hq;have hlen:=r'.length;obtain⟨o,ho,hc,n,hd⟩:=pl;exact call_list_seq p (.inr rfl) ho hc hd (fun h' c' kp e=>fin its r' hz h' c' kp e) (by simp only[xbn]<;>lia)
theorem zbg:CallR X (.type "tuple") (fun xs H Q=>∃ p ys, xs=[.ref p]/\((SqL X.K H p ys/\∀ l, H l=none->Q (.ref l) (upd H l (.tup ys)))\/(SqT X.K H p ys/\Q (.ref p) H))):=by
 intro aY s σ H xs us Q I r h;obtain⟨p,ys,rfl,h⟩:=h;obtain⟨u,rfl,rx⟩:=vals1 r;cases rx;rcases h with⟨hq,q⟩ | ⟨hq,q⟩
 ·obtain⟨its,r',pl,hz⟩:=I.list hq;have hlen:=r'.length;refine call_tuple_list pl.isList (fun h' kp=>?_) (by simp only[xbn]<;>lia);have I1:Inv X aY σ H {s with heap:=h'}:=I.kept (t':=s.toks) kp;have I2:Inv X aY σ (upd H h'.objs.size (.tup ys)) { s with heap:=h'.push { cls:=.type "tuple", data:=.seq its.toArray } } :=
   I1.laid (t':=s.toks) (fun b o e=>xbb _ e) (xbf _) (show ObjOk X.prog X.w _ _ _ (.tup ys) from⟨hz,its,r',IsTup.new _ _⟩)
  exact⟨.ref h'.objs.size,_,I2,rfl,q _ (I1.hok.fresh (xbf _))⟩
 ·obtain⟨its,r',pl,hz⟩:=I.tuple hq;exact call_tuple_same pl ⟨.ref p,H,I,rfl,q⟩
def tyV (K:Fg) (T:String) (x:V) (H:Hp):Prop:=match x with
 | .str _=>T="str"
 | .int _=>T="int"
 | .ref p=>(T="list"/\∃ xs, SqL K H p xs)\/(T="tuple"/\∃ o, K.lookup p=some o/\o.cls=.type "tuple"/\o.dict=none) \/
  (T="dict"/\((∃ kvs, H p=some (.dK kvs))\/∃ kvs, H p=some (.dT kvs)))\/(T="set"/\∃ S n, H p=some (.set S n))
 | _=>False
theorem zbap {aY:List (Addr×Obj)}{σ:St}{H:Hp}{s:Shared}{T:String}{x:V}{v:Value}(I:Inv X aY σ H s)(r:RelV x v)(ty:tyV X.K T x H) :
  s.TypeIs v T/\∀a,v=.ref a->∃ob,s.heap.get? a=some ob/\ob.dict=none:=by
 cases x with
 | str z =>
  obtain⟨t,rfl⟩:=r;cases(show T="str" from ty)
  exact⟨typeIs_str s z t,fun _ e=>nomatch e⟩
 | int i =>
  obtain⟨t,rfl⟩:=r;cases(show T="int" from ty)
  exact⟨typeIs_int s i t,fun _ e=>nomatch e⟩
 | ref p =>
  cases r;rcases ty with⟨rfl,xs,hq⟩ | ⟨rfl,o,hk,hc,hd⟩ | ⟨rfl,hk⟩ | ⟨rfl,S,n,hk⟩
  ·obtain⟨its,_,pl,_⟩:=I.list hq;refine⟨pl.isList.typeIs,fun a e=>?_⟩;cases e;obtain⟨o,n,e,c,hd,_⟩:=pl;exact⟨o,e,hd⟩
  ·refine⟨⟨o,I.kIn p o hk,hc⟩,fun a e=>?_⟩;cases e;exact⟨o,I.kIn _ o hk,hd⟩
  ·have z:∃o,s.heap.get? p=some o/\o.ExactDict:=by
    rcases hk with⟨kvs,hk⟩ | ⟨kvs,hk⟩
    ·obtain⟨_,_,_,_,o,_,_,e,ex,_⟩:=I.hok p _ hk;exact⟨o,e,ex⟩
    ·obtain⟨_,_,_,_,o,_,_,e,ex,_⟩:=I.hok p _ hk;exact⟨o,e,ex⟩
   obtain⟨o,e,ex⟩:=z;refine⟨⟨o,e,ex.1⟩,fun a e2=>?_⟩;cases e2;exact⟨o,e,ex.2.1⟩
  ·obtain⟨o,_,_,_,e,ex,_⟩:=I.hok p _ hk;refine⟨⟨o,e,ex.1⟩,fun a e2=>?_⟩;cases e2;exact⟨o,e,ex.2.1⟩
 | _=>exact False.elim ty
def tBM0 (K:Fg) (T:String) (r:V->List V->Hp->VK->Prop) (to:TE):TE:=fun σ H Q=>to σ H fun x H1=>tyV K T x H1/\r x [] H1 Q
def tBM (K:Fg) (T:String) (r:V->List V->Hp->VK->Prop) (to:TE) (t:TA):TE:=fun σ H Q=>to σ H fun x H1=>tyV K T x H1/\t σ H1 fun xs H2=>r x xs H2 Q
variable {o e:Expr}{es:List Expr}{to:TE}{t:TA}{name:Str}{apos cpos:Pos}{T id:String}{r:V->List V->Hp->VK->Prop}
theorem zbht (pa:PlainAttrs T)(slot:Slot T name id)(hty:typeOf (.builtin id)=pure (.type "method_descriptor"))(hm:MtR X id r)(ho:PE X o to)
  (hbase:attributeBase o name X.env (eval o X.env)=eval o X.env:=by rfl)(hline:(apos.endLine==cpos.line)=true:=by rfl):PE X (.Call (.Attribute o name apos) [] [] cpos) (tBM0 X.K T r to):=by
 intro aY s σ H Q I h;refine wpAny_Call_method0_late hbase hline (thn (ho aY s σ H _ I h) fun v s1 hq0=>?_);obtain⟨x,H1,I1,r1,ty,q1⟩:=hq0;obtain⟨h1,h2⟩:=zbap I1 r1 ty;exact⟨T,id,pa,slot,hty,h1,h2,xia rfl (PySem.evalArgs_none (hm aY s1 σ H1 x [] v [] Q I1 r1 .nil q1))⟩
theorem zbbz (pa:PlainAttrs T)(slot:Slot T name id)(hty:typeOf (.builtin id)=pure (.type "method_descriptor"))(hm:MtR X id r)(ho:PE X o to)(ha:PA X (e::es) t)
  (hbase:attributeBase o name X.env (eval o X.env)=eval o X.env:=by rfl)
  (hfew:((backTo cpos (starEach (e::es) X.env)).all (fun x=>!x.1)&&(backToKw cpos (keywordEach [] X.env)).all (fun x=>x.1.isSome)
   && decide ((e::es).length+([]:List Keyword).length+(if([]:List Keyword).isEmpty then 0 else 1) < 30))=true:=by rfl)
  (hline:(apos.endLine==cpos.line)=true:=by rfl)(hs:starEach (e::es) X.env=(false,eval e X.env)::starEach es X.env:=by rfl)(hplain:(backTo cpos (starEach es X.env)).any (·.1)=false:=by rfl) :
  PE X (.Call (.Attribute o name apos) (e::es) [] cpos) (tBM X.K T r to t):=by
 intro aY s σ H Q I h;refine wpAny_Call_method_late hbase hfew hline rfl (thn (ho aY s σ H _ I h) fun v s1 hq0=>?_);obtain⟨x,H1,I1,r1,ty,q1⟩:=hq0;obtain⟨h1,h2⟩:=zbap I1 r1 ty;refine⟨T,id,pa,slot,hty,h1,h2,?_⟩;have hA:=ha cpos aY s1 σ H1 _ I1 q1;rw[hs] at hA ⊢;refine xia (by show(false||(backTo cpos (starEach es X.env)).any (·.1))=false;rw[hplain]<;>rfl) (xij ?_);exact thn hA fun us s2 ⟨vs,H2,I2,r2,q2⟩=>hm aY s2 σ H2 x vs v us Q I2 r1 r2 q2
/- xs.append(e),list.index on a module's tuple .. are MtR facts of 06m -/
end
def MtM (X:Cx) (id:String) (r:V->List V->Hp->VK->Prop):Prop :=
 ∀(aY:List (Addr×Obj)) (s:Shared) (σ:St) (H:Hp) (x:V) (xs:List V) (v:Value) (us:List Value) (Q:VK),Inv X aY σ H s->RelV x v->Vals xs us->r x xs H Q ->
  wpAny (model X.prog X.w) X.A (call (.builtin id) (v::us)) (EP X aY σ Q) X.xe s
theorem Vals.one:∀{x:V} {us:List Value},Vals [x] us->∃u,us=[u]/\RelV x u
 | _,_,.cons r .nil=>⟨_,rfl,r⟩
theorem Vals.zero:∀{us:List Value},Vals [] us->us=[]
 | _,.nil=>rfl
theorem Vals.dropLast {xs:List V}{us:List Value}(h:Vals xs us):Vals xs.dropLast us.dropLast:=by
 induction h with
 | nil=>exact .nil
 | cons r t ih =>
  cases t with
  | nil=>exact .nil
  | cons q t'=>exact .cons r ih
theorem Vals.eraseIdx:∀{xs:List V} {us:List Value} (i:Nat),Vals xs us->Vals (xs.eraseIdx i) (us.eraseIdx i)
 | _,_,_,.nil=>.nil
 | _,_,0,.cons _ t=>t
 | _,_,i+1,.cons r t=>.cons r (Vals.eraseIdx i t)
theorem zrd {α:Type}(l:List α):l.eraseIdx (l.length - 1)=l.dropLast:=by
 induction l with
 | nil=>rfl
 | cons a r ih =>
  cases r with
  | nil=>rfl
  | cons b r =>
   have e:(a::b::r).length - 1=((b::r).length - 1)+1:=by
    have h1:(a::b::r).length=r.length+2:=rfl;have h2:(b::r).length=r.length+1:=rfl;lia
   rw[e,xhn,ih]
   all_goals rfl
theorem znq {α:Type}:∀(l:List α) (i:Nat),(l.eraseIdx i).length<=l.length
 | [],_=>xbf _
 | _::_,0=>xkr _
 | _::r,i+1=>xev (znq r i)
section
variable {X:Cx}{aY:List (Addr×Obj)}{σ:St}{H:Hp}{s:Shared}{l b:Addr}{xs ys zs:List V}
theorem Inv.lset {its its':List Value}{n:Nat}{f:Array Value->Array Value}{t':Nat}(I:Inv X aY σ H s)(hH:H l=some (.lst xs))
  (e:s.heap.get? l=some { cls:=.type "list", data:=.seq its.toArray n })(hf:f its.toArray=its'.toArray)(hv:Vals ys its')(hz:ys.length<=sizeLine) :
  Inv X aY σ (upd H l (.lst ys)) {s with heap:=s.heap.update l (Obj.mapSeq f),toks:=t'}:=by
 have q:=PySem.IsL.update e f;rw[hf] at q;refine I.write (x:=l) (e:=l) (by rw[hH];exact trivial) (.inl rfl) (fun b' u hb hu=>(xcp s.heap (Obj.mapSeq f) (xct hb)).trans hu) ⟨_,q⟩ ?_;exact⟨hz,its',_,hv,q⟩
theorem Inv.lnew {its:List Value}{t':Nat}(I:Inv X aY σ H s)(hv:Vals ys its)(hz:ys.length<=sizeLine) :
  Inv X aY σ (upd H s.heap.objs.size (.lst ys)) { s with heap:=s.heap.push { cls:=.type "list", data:=.seq its.toArray }, toks:=t' } :=
 I.laid (fun _ _ q=>xbb _ q) (xbf _) ⟨hz,its,0,hv,xbk _ rfl⟩
theorem Inv.fresh (I:Inv X aY σ H s):H s.heap.objs.size=none:=I.hok.fresh (xbf _)
theorem Inv.lstM (I:Inv X aY σ H s)(hH:H l=some (.lst xs)):xs.length<=sizeLine/\∃(its:List Value) (n:Nat), Vals xs its/\xs.length=its.length/\s.heap.get? l=some { cls:=.type "list", data:=.seq its.toArray n }:=by
 obtain⟨z,its,n,r,e⟩:=I.hok l _ hH;exact⟨z,its,n,r,r.length,e⟩
theorem notLongL {n:Nat}(h:n<=sizeLine):Builtin.List.listTooLong n=false:=by
 unfold Builtin.List.listTooLong;exact xbt (by lia)
end
section
variable {X:Cx}
def rAppend:V->List V->Hp->VK->Prop:=fun x vs H Q=>∃l xs y,x=.ref l/\vs=[y]/\H l=some (.lst xs)/\xs.length < sizeLine/\Q .non (upd H l (.lst (xs++[y])))
theorem znn:MtM X "list.append" rAppend:=by
 intro aY s σ H x vs v us Q I rx rv h;obtain⟨l,xs,y,rfl,rfl,hH,hz,q⟩:=h;cases rx;obtain⟨u,rfl,ru⟩:=rv.one;obtain⟨z,its,n,r,hl,e⟩:=I.lstM hH;refine xgs F.slot_list_append ⟨_,e,rfl⟩ F.entry_list_append (F.args_list_append_2 _ _) (PySem.list_append l its.toArray n u (by rw[xbn];lia)) ⟨e,?_⟩;refine⟨.non,_,I.lset (its':=its++[u]) hH e (by simp) (r.append (.cons ru .nil)) ?_,rfl,q⟩;rw[xbs,xkc];lia
def rExtend:V->List V->Hp->VK->Prop:=fun x vs H Q=>∃l b xs zs,x=.ref l/\vs=[.ref b]/\H l=some (.lst xs)/\H b=some (.lst zs)/\xs.length+zs.length<=sizeLine/\Q .non (upd H l (.lst (xs++zs)))
theorem ztt:MtM X "list.extend" rExtend:=by
 intro aY s σ H x vs v us Q I rx rv h;obtain⟨l,b,xs,zs,rfl,rfl,hH,hB,hz,q⟩:=h;cases rx;obtain⟨u,rfl,ru⟩:=rv.one;cases ru;obtain⟨z,its,n,r,hl,e⟩:=I.lstM hH;obtain⟨z2,its2,n2,r2,hl2,e2⟩:=I.lstM hB;have hsz:its.toArray.size+its2.toArray.size<=sizeLine:=by rw[xbn,xbn];lia
 have hlong:¬ (!its.toArray.isEmpty&&Builtin.List.listTooLong (its.toArray.size+its2.toArray.size))=true:=by
  rw[notLongL hsz,Bool.and_false];exact xft
 refine xgs F.slot_list_extend ⟨_,e,rfl⟩ F.entry_list_extend (F.args_list_extend_2 _ _)
  (AutoSeq1.list_extend_list_list_0 l its.toArray n b its2.toArray n2 hlong (by rw[xbn];lia) (by lia)) ⟨e,e2,?_⟩
 refine⟨.non,_,I.lset (its':=its++its2) hH e (by simp) (r.append r2) ?_,rfl,q⟩;rw[xbs];lia
def rPop:V->List V->Hp->VK->Prop:=fun x vs H Q=>∃l xs y,x=.ref l/\vs=[]/\H l=some (.lst xs)/\xs[xs.length - 1]?=some y/\Q y (upd H l (.lst xs.dropLast))
theorem zbid:MtM X "list.pop" rPop:=by
 intro aY s σ H x vs v us Q I rx rv h;obtain⟨l,xs,y,rfl,rfl,hH,hy,q⟩:=h;cases rx;have hus:=rv.zero;subst hus;obtain⟨z,its,n,r,hl,e⟩:=I.lstM hH;obtain⟨u,hu,ru⟩:=r.get hy;have hy':its.toArray[its.toArray.size - 1]?=some u:=by
  show its.toArray[its.length - 1]?=some u;rw[← xci,← hl];exact hu
 refine xgs F.slot_list_pop ⟨_,e,rfl⟩ F.entry_list_pop (F.args_list_pop_1 _) (MeetsSeq.list_pop_last l its.toArray n u hy' (by rw[xbn];lia)) ⟨e,?_⟩;refine⟨y,_,I.lset (its':=its.dropLast) hH e ?_ r.dropLast ?_,ru,q⟩
 ·show its.toArray.eraseIdxIfInBounds (its.toArray.size - 1)=its.dropLast.toArray;rw[xbn,xkg,zrd]
 ·rw[List.length_dropLast];lia
def rPopAt:V->List V->Hp->VK->Prop:=fun x vs H Q=>∃l xs i k y,x=.ref l/\vs=[.int i]/\H l=some (.lst xs)/\-(2 ^ 63)<=i/\i < 2 ^ 63/\seqIndex? i xs.length=some k/\xs[k]?=some y/\Q y (upd H l (.lst (xs.eraseIdx k)))
theorem zye:MtM X "list.pop" rPopAt:=by
 intro aY s σ H x vs v us Q I rx rv h;obtain⟨l,xs,i,k,y,rfl,rfl,hH,h1,h2,hk,hy,q⟩:=h;cases rx;obtain⟨u,rfl,ru⟩:=rv.one;obtain⟨t,rfl⟩:=ru;obtain⟨z,its,n,r,hl,e⟩:=I.lstM hH;obtain⟨w,hw,rw'⟩:=r.get hy;refine xgs F.slot_list_pop ⟨_,e,rfl⟩ F.entry_list_pop (F.args_list_pop_2 _ _)
  (MeetsSeq.list_pop_at l its.toArray n i t k w (fitsIndex_both h1 h2) (by rw[xbn,← hl];exact hk) (by rw[← xci];exact hw) (by rw[xbn];lia)) ⟨e,?_⟩
 refine⟨y,_,I.lset (its':=its.eraseIdx k) hH e ?_ (r.eraseIdx k) ?_,rw',q⟩
 ·show its.toArray.eraseIdxIfInBounds k=(its.eraseIdx k).toArray;rw[xkg]
 ·have:=znq xs k;lia
def rCat:R2:=fun x y H Q=>∃l b xs zs,x=.ref l/\y=.ref b/\H l=some (.lst xs)/\H b=some (.lst zs)/\xs.length+zs.length<=sizeLine/\∀p,H p=none->Q (.ref p) (upd H p (.lst (xs++zs)))
theorem zbhy:OpR X (binaryOp .Add) rCat:=by
 intro aY s σ H x y v u Q I rx ry h;obtain⟨l,b,xs,zs,rfl,rfl,hH,hB,hz,q⟩:=h;cases rx;cases ry;obtain⟨z,its,n,r,hl,e⟩:=I.lstM hH;obtain⟨z2,its2,n2,r2,hl2,e2⟩:=I.lstM hB;refine PySem.P.add_list e e2 ?_ (by rw[xbn,xbn];lia);have ea:its.toArray++its2.toArray=(its++its2).toArray:=by simp
 rw[ea];exact⟨.ref _,_,I.lnew (t':=s.toks) (r.append r2) (by rw[xbs];lia),rfl,q _ I.fresh⟩
end
section
variable {prog:Program}{w:World}{A:Around}{E:Value->Shared->Prop}{s:Shared}
end
section
variable {X:Cx}
end
section
variable {κ:Type}[DecidableEq κ]
def valV (kvs:List (κ×V)) (k:κ):Option V:=(kvs.find? fun kv=>decide (kv.1=k)).map (·.2)
def putK (kvs:List (κ×V)) (k:κ) (v:V):List (κ×V) :=
 if(kvs.any fun kv=>decide (kv.1=k))=true then kvs.map (fun kv=>if kv.1=k then(kv.1,v) else kv) else kvs++[(k,v)]
def dropK (kvs:List (κ×V)) (k:κ):List (κ×V):=kvs.filter fun kv=>decide (kv.1≠k)
theorem zjj {p:κ×V}{r:List (κ×V)}{k:κ}(e:p.1=k):valV (p::r) k=some p.2:=by simp[valV,xez,e]
theorem zjk {p:κ×V}{r:List (κ×V)}{k:κ}(e:¬ p.1=k):valV (p::r) k=valV r k:=by simp[valV,xez,e]
theorem zpl (k:κ):∀kvs:List (κ×V),(kvs.any fun kv=>decide (kv.1=k))=(valV kvs k).isSome
 | []=>rfl
 | p::r=>by
  rw[xjx];by_cases e:p.1=k
  ·simp only[zjj e,xcv e,Bool.true_or,Option.isSome_some]
  ·rw[zjk e,xbt e,Bool.false_or];exact zpl k r
theorem zjd (kvs:List (κ×V))(k:κ)(v:V):(putK kvs k v).length<=kvs.length+1:=by
 unfold putK;split
 ·rw[xbd];lia
 ·rw[xbs,xbx,xkj];lia
theorem RelO.isSome_eq {o:Option V}{u:Option Value}(r:RelO o u):o.isSome=u.isSome:=by
 cases o with
 | none=>cases u with
  | none=>rfl
  | some _=>exact(show False from r).elim
 | some _=>cases u with
  | none=>exact(show False from r).elim
  | some _=>rfl
theorem RelO.getD {o:Option V}{u:Option Value}{d:V}{d':Value}(r:RelO o u)(rd:RelV d d'):RelV (o.getD d) (u.getD d'):=by
 cases o with
 | none=>cases u with
  | none=>exact rd
  | some _=>exact(show False from r).elim
 | some _=>cases u with
  | none=>exact(show False from r).elim
  | some _=>exact r
theorem KV.val {kvs:List (κ×V)}{vs:List (κ×Value)}(r:KV kvs vs)(k:κ):RelO (valV kvs k) (valueAt vs k):=by
 unfold KV at r
 induction r with
 | nil=>exact True.intro
 | @cons p q ps qs h t ih =>
  obtain⟨h1,h2⟩:=h;by_cases e:p.1=k
  ·have e':q.1=k:=h1.symm.trans e;have b:valueAt (q::qs) k=some q.2:=by simp[valueAt,xez,e']
   rw[zjj e,b];exact h2
  ·have e':¬ q.1=k:=fun z=>e (h1.trans z)
   have b:valueAt (q::qs) k=valueAt qs k:=by simp[valueAt,xez,e']
   rw[zjk e,b];exact ih
theorem KV.any {kvs:List (κ×V)}{vs:List (κ×Value)}(r:KV kvs vs)(k:κ):(kvs.any fun kv=>decide (kv.1=k))=vs.any fun kv=>decide (kv.1=k):=by
 unfold KV at r
 induction r with
 | nil=>rfl
 | cons h t ih=>rw[xjx,xjx,ih,h.1]
theorem KV.repl {kvs:List (κ×V)}{vs:List (κ×Value)}(r:KV kvs vs)(k:κ){y:V}{u:Value}(ry:RelV y u) :
  KV (kvs.map fun kv=>if kv.1=k then(kv.1,y) else kv) (vs.map fun kv=>if kv.1=k then(kv.1,u) else kv):=by
 unfold KV at r ⊢
 induction r with
 | nil=>exact .nil
 | @cons p q ps qs h t ih =>
  rw[xbp,xbp];refine .cons ?_ ih;obtain⟨h1,h2⟩:=h;by_cases e:p.1=k
  ·rw[if_pos e,if_pos (h1.symm.trans e)];exact⟨h1,ry⟩
  ·rw[if_neg e,if_neg (fun z=>e (h1.trans z))];exact⟨h1,h2⟩
theorem KV.put {kvs:List (κ×V)}{vs:List (κ×Value)}(r:KV kvs vs)(k:κ){y:V}{u:Value}(ry:RelV y u):KV (putK kvs k y) (stored vs k u):=by
 unfold putK stored;rw[r.any k];by_cases e:(vs.any fun kv=>decide (kv.1=k))=true
 ·rw[if_pos e,if_pos e];exact r.repl k ry
 ·rw[if_neg e,if_neg e];exact Paired.snoc r ⟨rfl,ry⟩
theorem KV.length {kvs:List (κ×V)}{vs:List (κ×Value)}(r:KV kvs vs):kvs.length=vs.length:=xis r
end
theorem zbdd {P:Program}{w:World}{k:Key}{u:Value}(r:RelV (kV k) u):(mixKind P w).is k u=true:=by
 cases k with
 | inl i=>obtain⟨t,e⟩:=(show ∃t,u=Value.int i t from r);subst e;exact zoy P w i t
 | inr x=>obtain⟨t,e⟩:=(show ∃t,u=Value.str x t from r);subst e;exact zox P w x t
theorem znt {P:Program}{w:World}:∀{ks:List Key} {us:List Value},Vals (ks.map kV) us->ItemsAre (mixKind P w) ks us
 | [],_,r=>by rw[xlm] at r;cases r;exact .nil
 | k::ks,_,r=>by
  rw[xbp] at r;cases r with
  | cons h t=>exact .cons (zbdd h) (znt t)
abbrev KT (H:Hp):List (List Key×V)->List (List Key×Addr×Value)->Prop:=Paired fun p q=>p.1=q.1/\H q.2.1=some (.tup (p.1.map kV))/\RelV p.2 q.2.2
theorem KT.val {H:Hp}{kvs:List (List Key×V)}{xs:List (List Key×Addr×Value)}(r:KT H kvs xs)(k:List Key):RelO (valV kvs k) ((atKey xs k).map (·.2)):=by
 induction r with
 | nil=>exact True.intro
 | @cons p q ps qs h t ih =>
  obtain⟨h1,_,h2⟩:=h;by_cases e:p.1=k
  ·have e':q.1=k:=h1.symm.trans e;have b:atKey (q::qs) k=some q.2:=by simp[atKey,xez,e']
   rw[zjj e,b];exact h2
  ·have e':¬ q.1=k:=fun z=>e (h1.trans z)
   have b:atKey (q::qs) k=atKey qs k:=by simp[atKey,xez,e']
   rw[zjk e,b];exact ih
theorem KT.repl {H:Hp}{kvs:List (List Key×V)}{xs:List (List Key×Addr×Value)}(r:KT H kvs xs)(k:List Key){y:V}{u:Value}(ry:RelV y u) :
  KT H (kvs.map fun kv=>if kv.1=k then(kv.1,y) else kv) (xs.map (putAt k u)):=by
 induction r with
 | nil=>exact .nil
 | @cons p q ps qs h t ih =>
  rw[xbp,xbp];refine .cons ?_ ih;obtain⟨h1,h2,h3⟩:=h;unfold putAt;by_cases e:p.1=k
  ·rw[if_pos e,if_pos (h1.symm.trans e)];exact⟨h1,h2,ry⟩
  ·rw[if_neg e,if_neg (fun z=>e (h1.trans z))];exact⟨h1,h2,h3⟩
theorem KT.put {H:Hp}{kvs:List (List Key×V)}{xs:List (List Key×Addr×Value)}(r:KT H kvs xs)(k:List Key){b:Addr}{y:V}{u:Value}(hb:H b=some (.tup (k.map kV)))(ry:RelV y u) :
  KT H (putK kvs k y) (storedH xs k b u):=by
 have e:(kvs.any fun kv=>decide (kv.1=k))=(atKey xs k).isSome:=by
  rw[zpl,(r.val k).isSome_eq,Option.isSome_map]
 unfold putK storedH;rw[e];by_cases q:(atKey xs k).isSome=true
 ·rw[if_pos q,if_pos q];exact r.repl k ry
 ·rw[if_neg q,if_neg q];exact Paired.snoc r ⟨rfl,hb,ry⟩
theorem KT.keeps {H H':Hp}{kvs:List (List Key×V)}{xs:List (List Key×Addr×Value)}(r:KT H kvs xs)(ht:∀b ys,H b=some (.tup ys)->H' b=some (.tup ys)):KT H' kvs xs :=
 Paired.mapP r fun _ _ z=>⟨z.1,ht _ _ z.2.1,z.2.2⟩
section
variable {P:Program}{w:World}{H:Hp}{h:Heap}{a:Addr}
theorem zblk {u:HO}(ok:HOk P w H h)(e:Rd H a u):ObjOk P w H h a u:=e.ok ok
theorem zbad {kvs:List (Key×V)}(ok:HOk P w H h)(e:Rd H a (.dK kvs)):kvs.length<=sizeLine/\(a==sysModules)=false/\∃vs,KV kvs vs/\h.DictOf (mixKind P w) a vs :=
 show ObjOk P w H h a (.dK kvs) from zblk ok e
theorem zbnm {kvs:List (Key×V)}(ok:HOk P w H h)(e:H a=some (.dK kvs)):kvs.length<=sizeLine/\(a==sysModules)=false/\∃vs,KV kvs vs/\h.DictOf (mixKind P w) a vs:=zbad ok (.inl e)
theorem zpb {ks:List Key}(ok:HOk P w H h)(e:H a=some (.tup (ks.map kV))):(tupleKind (mixKind P w)).is h ks a:=by
 obtain⟨_,its,r,o,h1,h2,n,h3⟩:=(show ObjOk P w H h a (.tup (ks.map kV)) from ok a _ e)
 exact⟨o,its.toArray,n,h1,h2,h3,by simpa using znt r⟩
theorem zbac {kvs:List (List Key×V)}(ok:HOk P w H h)(e:Rd H a (.dT kvs)):kvs.length<=sizeLine/\(a==sysModules)=false /\
  ∃xs,KT H kvs xs/\h.DictOfH (tupleKind (mixKind P w)) a xs:=by
 obtain⟨z,y,xs,r,o,es,ep,h1,h2,h3,h4,h5⟩:=(show ObjOk P w H h a (.dT kvs) from zblk ok e)
 refine⟨z,y,xs,r,o,es,ep,h1,h2,h3,h4,fun x hx=>?_,h5⟩;have all:∀{l:List (List Key×V)} {m:List (List Key×Addr×Value)},KT H l m->∀x∈m,(tupleKind (mixKind P w)).is h x.1 x.2.1:=by
  intro l m q
  induction q with
  | nil=>intro x hx;exact nomatch hx
  | @cons p q ps qs hq t ih =>
   intro x hx;rcases xbu.mp hx with e | hx
   ·subst e;exact zpb ok (by rw[← hq.1];exact hq.2.1)
   ·exact ih x hx
 exact all r x hx
theorem zblz {kvs:List (List Key×V)}(ok:HOk P w H h)(e:H a=some (.dT kvs)):kvs.length<=sizeLine/\(a==sysModules)=false /\
 ∃xs,KT H kvs xs/\h.DictOfH (tupleKind (mixKind P w)) a xs:=zbac ok (.inl e)
end
def DGet (H:Hp) (a:Addr) (y:V) (r:Option V):Prop :=
 (∃kvs k,Rd H a (.dK kvs)/\y=kV k/\r=valV kvs k)\/∃kvs k b,Rd H a (.dT kvs)/\y=.ref b/\H b=some (.tup (k.map kV))/\r=valV kvs k
def DPut (H:Hp) (a:Addr) (y v:V) (H':Hp):Prop :=
 (∃kvs k,H a=some (.dK kvs)/\y=kV k/\kvs.length < sizeLine/\H'=upd H a (.dK (putK kvs k v))) \/
 ∃kvs k b,H a=some (.dT kvs)/\y=.ref b/\H b=some (.tup (k.map kV))/\kvs.length < sizeLine/\H'=upd H a (.dT (putK kvs k v))
theorem DPut.t {H:Hp}{a b:Addr}{kvs:List (List Key×V)}{k:List Key}{v:V}(e:H a=some (.dT kvs))(eb:H b=some (.tup (k.map kV)))(hl:kvs.length < sizeLine) :
 DPut H a (.ref b) v (upd H a (.dT (putK kvs k v))):=.inr ⟨kvs,k,b,e,rfl,eb,hl,rfl⟩
section
variable {X:Cx}{aY:List (Addr×Obj)}{σ:St}{H:Hp}{s:Shared}{a:Addr}{y v:V}{u r:Value}{o:Option V}{A:Around}{E:Value->Shared->Prop}
theorem Inv.big (I:Inv X aY σ H s):sysModules < s.heap.objs.size:=by
 have h:mainGlobals < s.heap.objs.size:=(I.mod.glob.keeps I.bk).lt;exact xif (by decide) h
theorem zus {Q:Value->Shared->Prop}(hu:A.units+1 < cLine)(I:Inv X aY σ H s)(g:DGet H a y (some v))(ry:RelV y u)(h:∀w' s',Inv X aY σ H s'->RelV v w'->Q w' s') :
  wpAny (model X.prog X.w) A (getItem (.ref a) u) Q E s:=by
 rcases g with⟨kvs,k,e,ey,l⟩ | ⟨kvs,k,b,e,ey,eb,l⟩
 ·subst ey;obtain⟨z,hd,vs,rel,dd⟩:=zbad I.hok e;obtain⟨w',hw,rw'⟩:=RelO.some_of (v:=v) (o:=valueAt vs k) (by rw[l];exact rel.val k);exact wpAny_getItem_of (zbdd ry) dd.mapOf hw (h w' _ (I.tok _) rw')
 ·subst ey;cases(show u=Value.ref b from ry);obtain⟨z,hd,xs,rel,dd⟩:=zbac I.hok e;obtain⟨w',hw,rw'⟩:=RelO.some_of (v:=v) (o:=(atKey xs k).map (·.2)) (by rw[l];exact rel.val k);obtain⟨p,hp,hp2⟩:=xco.mp hw;refine wpAny_getItem_heap (xhy hu) (zpb I.hok eb) dd hp ?_;rw[hp2];exact h w' _ (I.tok _) rw'
theorem d_in {Q:Value->Shared->Prop}(hu:A.units+1 < cLine)(I:Inv X aY σ H s)(g:DGet H a y o)(ry:RelV y u)(h:∀s',Inv X aY σ H s'->Q (.bool o.isSome) s') :
  wpAny (model X.prog X.w) A (compareOp .In u (.ref a)) Q E s:=by
 rcases g with⟨kvs,k,e,ey,l⟩ | ⟨kvs,k,b,e,ey,eb,l⟩
 ·subst ey;obtain⟨z,hd,vs,rel,dd⟩:=zbad I.hok e;refine wpAny_in_of (zbdd ry) hd dd.mapOf ?_;rw[← (rel.val k).isSome_eq,← l];exact h _ (I.tok _)
 ·subst ey;cases(show u=Value.ref b from ry);obtain⟨z,hd,xs,rel,dd⟩:=zbac I.hok e;refine wpAny_in_heap (xhy hu) (zpb I.hok eb) hd dd ?_;have q:=(rel.val k).isSome_eq;rw[Option.isSome_map] at q;rw[← q,← l];exact h _ (I.tok _)
theorem zrm {h':Heap}{t':Nat}{ob:HO}(I:Inv X aY σ H s)(mu:Mut (H a))(hs:Heap.SameBut a s.heap h')(he:∃q,h'.get? a=some q)(new:ObjOk X.prog X.w (upd H a ob) h' a ob) :
  Inv X aY σ (upd H a ob) {s with heap:=h',toks:=t'} :=
 I.write (x:=a) (e:=a) mu (.inl rfl) (fun b q hb z=>(hs.2 b hb).trans z) he new
theorem zbjr {P:Program}{w:World}{H':Hp}{h':Heap}{kvs:List (Key×V)}{vs:List (Key×Value)}(z:kvs.length<=sizeLine)(hd:(a==sysModules)=false)(rel:KV kvs vs)(dd:h'.DictOf (mixKind P w) a vs) :
 ObjOk P w H' h' a (.dK kvs):=⟨z,hd,vs,rel,dd⟩
theorem zuq {H':Hp}{Q:Unit->Shared->Prop}(hu:A.units+1 < cLine)(I:Inv X aY σ H s)(g:DPut H a y v H')(ry:RelV y u)(rv:RelV v r)(h:∀s',Inv X aY σ H' s'->Q () s') :
  wpAny (model X.prog X.w) A (setItem (.ref a) u r) Q E s:=by
 rcases g with⟨kvs,k,e,ey,l,eH⟩ | ⟨kvs,k,b,e,ey,eb,l,eH⟩
 ·subst ey eH;obtain⟨z,hd,vs,rel,dd⟩:=zbnm I.hok e;have hz:vs.length<=sizeLine:=by rw[← rel.length];exact z
  have hl:(putK kvs k v).length<=sizeLine:=by have:=zjd kvs k v;lia
  refine wpAny_setItem_pairs (hsz:=hz) (zbdd ry) dd fun h' dd' hs=>h _ ?_
  have he:∃q,h'.get? a=some q:=let ⟨q,_,_,hq,_⟩:=dd';⟨q,hq⟩
  exact zrm I (by rw[e];exact True.intro) hs he (zbjr hl hd (rel.put k rv) dd')
 ·subst ey eH;cases(show u=Value.ref b from ry);obtain⟨z,hd,xs,rel,dd⟩:=zblz I.hok e;have hz:xs.length<=sizeLine:=by rw[← xis rel];exact z
  have hl:(putK kvs k v).length<=sizeLine:=by have:=zjd kvs k v;lia
  refine wpAny_setItem_heap (hsz:=hz) (xhy hu) (zpb I.hok eb) dd fun h' dd' hs=>h _ ?_
  obtain⟨q,es,ep,hq,h2,h3,h4,_,h5⟩:=dd';refine zrm I (by rw[e];exact True.intro) hs ⟨q,hq⟩ ⟨hl,hd,_,(rel.put k eb rv).keeps fun c ys ec=>?_,q,es,ep,hq,h2,h3,h4,h5⟩;rw[zn (zblr ec e (fun z=>nomatch z))];exact ec
end
section
variable {X:Cx}{aY:List (Addr×Obj)}{σ:St}{H:Hp}{s:Shared}{a:Addr}{kvs:List (Key×V)}{k:Key}{u:Value}{A:Around}{E:Value->Shared->Prop}
end
def NoSl (i:Expr):Prop:=∀ov iv,subscripted i false ov iv=operate [ov,iv] (getItem ov iv)
theorem zbau {prog:Program}{w:World}{A:Around}{E:Value->Shared->Prop}{s:Shared}{env:Env}{value slice:Expr}{pos:Pos}{T id:String}{Q:Value->Shared->Prop}
  (hl:typeLookup (.type T) "__getitem__"=pure (some (.builtin id)))(hs:NoSl slice)
  (h:wpAny (model prog w) A (eval value env) (fun o s₁=>wpAny (model prog w) A (eval slice env) (fun i s₂=>s₂.TypeIs o T/\wpAny (model prog w) A (getItem o i) Q E s₂) E s₁) E s) :
  wpAny (model prog w) A (eval (.Subscript value slice pos) env) Q E s:=by
 refine Subscript_ (xdh h (fun o s₁ h₁=>xdh h₁ (fun i s₂ h₂=>?_) fun _ _ x=>x) fun _ _ x=>x);obtain⟨hT,h₂⟩:=h₂;unfold subscriptTail;refine xba ?_;rw[getitemInPython_of_ne hT.not_modules];refine xba (wpAny_specialOf hT hl ?_);have fin:wpAny (model prog w) A (subscripted slice false o i) (fun r s₃=>wpAny (model prog w) A (letTemporaryGo value o r >>= fun _=>pure r) Q E s₃) E s₂:=by
  rw[hs o i];exact wpAny_operating (xdh h₂ (fun r s₃ h₃=>xba (wpAny_letTemporaryGo (xbe h₃))) fun _ _ x=>x)
 first
  | exact xbe (xba fin)
  | exact xba (xbe (xba fin))
  | exact xba fin
theorem zpd {X:Cx}{aY:List (Addr×Obj)}{σ:St}{H:Hp}{s:Shared}{a:Addr}{y:V}{o:Option V}(I:Inv X aY σ H s)(g:DGet H a y o):s.TypeIs (.ref a) "dict":=by
 rcases g with⟨kvs,k,e,_,_⟩ | ⟨kvs,k,b,e,_,_,_⟩
 ·obtain⟨_,_,vs,_,dd⟩:=zbad I.hok e;exact dd.typeIs
 ·obtain⟨_,_,xs,_,dd⟩:=zbac I.hok e;exact dd.typeIs
def tDGet (td ty:TE):TE:=fun σ H Q=>td σ H fun x H1=>ty σ H1 fun y H2=>∃a v,x=.ref a/\DGet H2 a y (some v)/\Q v H2
def tDIn (ty td:TE):TE:=fun σ H Q=>ty σ H fun y H1=>td σ H1 fun x H2=>∃a o,x=.ref a/\DGet H2 a y o/\Q (.bl o.isSome) H2
def sDPut (td ty tv:TE):TS:=fun D σ H=>tv σ H fun v H1=>td σ H1 fun x H2=>ty σ H2 fun y H3=>∃a H4,x=.ref a/\DPut H3 a y v H4/\D.nx σ H4
section
variable {X:Cx}{o i e value:Expr}{pos pos' tpos:Pos}{td ty tv:TE}
theorem zbbw (hu:X.A.units+1 < cLine)(ho:PE X o td)(hi:PE X i ty)(hs:NoSl i):PE X (.Subscript o i pos) (tDGet td ty):=by
 intro aY s σ H Q I h;refine zbau F.slot_dict_getitem.lookup hs (thn (ho aY s σ H _ I h) fun u s1 ⟨x,H1,I1,rx,q1⟩=>thn (hi aY s1 σ H1 _ I1 q1) fun iv s2 hq0=>?_);obtain⟨y,H2,I2,ry,a,v,ex,g,q2⟩:=hq0;subst ex;obtain rfl:u=Value.ref a:=rx;exact⟨zpd I2 g,zus hu I2 g ry fun w' s3 I3 rw'=>⟨v,H2,I3,rw',q2⟩⟩
theorem zbhv (hu:X.A.units+1 < cLine)(hi:PE X i ty)(ho:PE X o td):PC X .In i o (tDIn ty td):=by
 intro aY s σ H Q I h;refine thn (hi aY s σ H _ I h) fun iv s1 ⟨y,H1,I1,ry,q1⟩=>thn (ho aY s1 σ H1 _ I1 q1) fun u s2 hq0=>?_
 obtain⟨x,H2,I2,rx,a,ov,ex,g,q2⟩:=hq0;subst ex;obtain rfl:u=Value.ref a:=rx;exact d_in hu I2 g ry fun s3 I3=>⟨.bl ov.isSome,H2,I3,rfl,q2⟩
theorem zbbj (hu:X.A.units+1 < cLine)(ho:PE X o td)(hi:PE X i ty)(hv:PE X value tv)(hs:swapsWith value (some (.Subscript o i pos')) pos.line X.env=pure false) :
  PS X (.Assign [.Subscript o i pos'] value pos) (sDPut td ty tv):=by
 intro aY s σ H D I h;refine wpAny_Assign_Subscript (thn (hv aY s σ H _ I h) fun r s1 ⟨v,H1,I1,rv,q1⟩=>thn (ho aY s1 σ H1 _ I1 q1) fun u s2 ⟨x,H2,I2,rx,q2⟩=>thn (hi aY s2 σ H2 _ I2 q2) fun iv s3 hq0=>?_) hs;obtain⟨y,H3,I3,ry,a,H4,ex,g,q3⟩:=hq0;subst ex;obtain rfl:u=Value.ref a:=rx;exact zuq hu I3 g ry rv fun s4 I4=>⟨σ,H4,I4,q3⟩
end
theorem zyw {P:Program}{w:World}{H:Hp}(h:Heap)(hb:sysModules < h.objs.size):ObjOk P w H (h.push { cls:=.type "dict", data:=.dict #[] }) h.objs.size (.dT []) :=
 ⟨xed _,xhm.mpr (xct (xbv hb)),[],.nil,_,#[],0,xbk _ rfl,⟨rfl,rfl,rfl⟩,rfl,rfl,xjm⟩
def tDNewT:TE:=fun _ H Q=>∀p,H p=none->Q (.ref p) (upd H p (.dT []))
section
variable {X:Cx}{pos:Pos}
theorem zxs:PE X (.Dict [] [] pos) tDNewT:=fun aY s σ H Q I h =>
 wpAny_Dict_empty ⟨.ref s.heap.objs.size,_,I.laid (a:=s.heap.objs.size) (o:=.dT []) (t':=s.toks) (fun _ _ q=>xbb _ q) (xbf _) (zyw s.heap I.big),rfl,h _ (I.hok.fresh (xbf _))⟩
end
structure M1 (X:Cx) (o:Expr) (m:Str) (apos:Pos) (e:Expr) (cpos:Pos):Prop where
 base:attributeBase o m X.env (eval o X.env)=eval o X.env
 few:((backTo cpos (starEach [e] X.env)).all (fun x=>!x.1)&&(backToKw cpos (keywordEach [] X.env)).all (fun x=>x.1.isSome)
  && decide (([e]:List Expr).length+([]:List Keyword).length+(if([]:List Keyword).isEmpty then 0 else 1) < 30))=true
 line:(apos.endLine==cpos.line)=true
 trees:backTo cpos (starEach [e] X.env)=[(false,eval e X.env)]
structure M2 (X:Cx) (o:Expr) (m:Str) (apos:Pos) (e f:Expr) (cpos:Pos):Prop where
 base:attributeBase o m X.env (eval o X.env)=eval o X.env
 few:((backTo cpos (starEach [e,f] X.env)).all (fun x=>!x.1)&&(backToKw cpos (keywordEach [] X.env)).all (fun x=>x.1.isSome)
  && decide (([e,f]:List Expr).length+([]:List Keyword).length+(if([]:List Keyword).isEmpty then 0 else 1) < 30))=true
 line:(apos.endLine==cpos.line)=true
 trees:backTo cpos (starEach [e,f] X.env)=[(false,eval e X.env),(false,eval f X.env)]
def IsD (H:Hp) (a:Addr):Prop:=(∃kvs,Rd H a (.dK kvs))\/∃kvs,Rd H a (.dT kvs)
theorem zbdi {X:Cx}{aY:List (Addr×Obj)}{σ:St}{H:Hp}{s:Shared}{a:Addr}(I:Inv X aY σ H s)(d:IsD H a) :
  s.TypeIs (.ref a) "dict"/\(∀ b, Value.ref a=.ref b->∃ ob, s.heap.get? b=some ob/\ob.dict=none)/\(a==sysModules)=false:=by
 rcases d with⟨kvs,e⟩ | ⟨kvs,e⟩
 ·obtain⟨_,hd,vs,_,dd⟩:=zbad I.hok e;refine⟨dd.typeIs,fun b q=>?_,hd⟩;cases q;obtain⟨ob,_,_,h1,h2,_⟩:=dd;exact⟨ob,h1,h2.2.1⟩
 ·obtain⟨_,hd,xs,_,dd⟩:=zbac I.hok e;refine⟨dd.typeIs,fun b q=>?_,hd⟩;cases q;obtain⟨ob,_,_,h1,h2,_⟩:=dd;exact⟨ob,h1,h2.2.1⟩
section
variable {X:Cx}{aY:List (Addr×Obj)}{σ:St}{H:Hp}{s:Shared}{a:Addr}{y d:V}{u r:Value}{o:Option V}{A:Around}{E:Value->Shared->Prop}
theorem zbka {Q:Value->Shared->Prop}(hu:A.units+1 < cLine)(I:Inv X aY σ H s)(g:DGet H a y o)(ry:RelV y u)(rd:RelV d r)(h:∀w' s',Inv X aY σ H s'->RelV (o.getD d) w'->Q w' s') :
  wpAny (model X.prog X.w) A (call (.builtin "dict.get") [.ref a, u, r]) Q E s:=by
 rcases g with⟨kvs,k,e,ey,l⟩ | ⟨kvs,k,b,e,ey,eb,l⟩
 ·subst ey;obtain⟨z,hd,vs,rel,dd⟩:=zbad I.hok e;refine call_meetsIn xkd dd.typeIs F.entry_dict_get (F.args_dict_get_3 _ _ _) (meets_dict_get_default (mixKind X.prog X.w) a (zbdd ry) hd r) ⟨_,dd.mapOf,h _ _ (I.tok _) ?_⟩;rw[l];exact(rel.val k).getD rd
 ·subst ey;cases(show u=Value.ref b from ry);obtain⟨z,hd,xs,rel,dd⟩:=zbac I.hok e;refine call_meetsIn xkd dd.typeIs F.entry_dict_get (F.args_dict_get_3 _ _ _) (meetsH_dict_get_default (tupleKind (mixKind X.prog X.w)) a b hd r) ⟨xhy hu,k,xs,zpb I.hok eb,dd,h _ _ (I.tok _) ?_⟩;rw[l];exact(rel.val k).getD rd
end
def tDGet2 (td ty tx:TE):TE:=fun σ H Q=>td σ H fun x H1=>∃a,x=.ref a/\IsD H1 a/\ty σ H1 fun y H2=>tx σ H2 fun z H3=>∃o,DGet H3 a y o/\Q (o.getD z) H3
section
variable {X:Cx}{o e f:Expr}{apos cpos:Pos}{td ty tx:TE}
theorem zxt (hu:X.A.units + 1 < cLine)(ho:PE X o td)(he:PE X e ty)(hf:PE X f tx)(m:M2 X o "get" apos e f cpos):PE X (.Call (.Attribute o "get" apos) [e, f] [] cpos) (tDGet2 td ty tx):=by
 intro aY s σ H Q I h;refine wpAny_Call_method m.base m.few m.line F.plainAttrs_dict xkd F.type_dict_get (thn (ho aY s σ H _ I h) fun u s1 hq0=>?_);obtain⟨x,H1,I1,rx,a,ex,d,q1⟩:=hq0;subst ex;obtain rfl:u=Value.ref a:=rx;obtain⟨t1,t2,_⟩:=zbdi I1 d;refine⟨t1,t2,?_⟩;rw[m.trees]
 refine xia rfl (xij (xhs (thn (he aY s1 σ H1 _ I1 q1) fun iv s2 ⟨y,H2,I2,ry,q2⟩ =>
  xhs (thn (hf aY s2 σ H2 _ I2 q2) fun fv s3 ⟨z,H3,I3,rz,ov,g,q3⟩=>xjr ?_))))
 exact zbka hu I3 g ry rz fun w' s4 I4 rw'=>⟨_,H3,I4,rw',q3⟩
end
section
variable {X:Cx}{aY:List (Addr×Obj)}{σ:St}{H:Hp}{s:Shared}{a:Addr}{kvs:List (Key×V)}{A:Around}{E:Value->Shared->Prop}
end
section
variable {X:Cx}{aY:List (Addr×Obj)}{σ:St}{H:Hp}{s:Shared}{a:Addr}{y:V}{u:Value}{A:Around}{E:Value->Shared->Prop}
end
end L2
namespace Att
open PySem PySem.W PySem.Calls PyProof.Rows
theorem zis {P:Params}{h:Heap}:∀(ns:List Int) (vs:List Value),WellAll P h vs (ns.map WData.int)->IntsAre vs ns:=by
 intro ns
 induction ns with
 | nil =>
  intro vs w;rw[xlm] at w;cases w;exact .nil
 | cons n ns ih =>
  intro vs w;rw[xbp] at w;cases w with
  | cons a b =>
   cases a;exact .cons _ _ (ih _ b)
theorem zsx {l:OpenLaw}{n:Nat}(hn:l.most=some n){P:Params}{h:Heap}{args:List WData}{vals:List Value}
  (hpre:l.row.toRowW.claim.pre args=true)(hwl:WellAll P h vals args) :
  ∃ a vs ns, vals=[Value.ref a]/\args=[WData.list (ns.map WData.int)]/\h.get? a=some { cls:=.type "list", data:=.seq vs.toArray }/\IntsAre vs ns/\ns.length<=n:=by
 have hsh:WShape.hasAll [] args [.list .int]=true:=(pre_splitW hpre).1;have hc:l.pre.holds [] {args:=args}=true:=(pre_splitW hpre).2;obtain⟨d,r,rfl,h1,h2⟩:=hasAllW_cons hsh;obtain rfl:=hasAllW_nil h2;obtain⟨xs,rfl,h3⟩:=hasW_list h1;obtain⟨ns,rfl⟩:=items_int h3;have hlen:ns.length<=n:=by
  unfold OpenLaw.pre at hc;have h4:(WTm.not (.lt (.lit (.int (n:Int))) (.len (.arg 0)))).holds [] {args:=[.list (ns.map .int)]}=true:=by
   have h4:=(holds_andW hc).1;rw[hn] at h4;exact h4
  have h5:=condW_of h4 (w_not (w_lt w_lit (w_len_list (w_arg rfl))));rw[xbd] at h5;refine xcb fun q=>?_
  have q':(n:Int) < ((ns.length:Nat):Int):=by lia
  first
   | (rw[xcv q'] at h5;exact absurd h5 (by decide))
   | (simp at h5;lia)
 cases hwl with
 | cons w1 w2 =>
  cases w2;cases w1 with
  | list ho hall=>exact⟨_,_,ns,rfl,rfl,ho,zis ns _ hall,hlen⟩
theorem ztd (l:OpenLaw)(args:List WData):l.row.toRowW.claim.post args (.bool true) args=true :=
 postW_of (r:=l.row.toRowW) (X:=(true==true))
  (show WShape.has [] (.bool true) .bool=true by first | rfl | decide | simp[WShape.has,WShape.arms,WShape.armsAll])
  (show(WTm.eq .res (.lit (.bool true))).value [] {args:=args,res:=some (.bool true),after:=args}=some (.bool (true==true)) from w_eq_bool (w_res rfl) w_lit) rfl
theorem attach_call {l:OpenLaw}{n:Nat}{q:Program}{loose:List Str}{XP:(Str->Option Value)->Heap->Prop}{YP:World->Heap->Prop}{d:DefRec}
  (hn:l.most=some n)(hdf:d.params.defaults=[])
  (call:∀(w:World) (s₀ s₁:Shared) (mg mb:Str->Option Value) (fa:Addr) (o:Obj) (pm cd doc:Value) (a:Addr) (vs:List Value) (ns:List Int),
   Ground q loose [] XP w s₀ mg mb s₁.heap->YP w s₁.heap ->
   s₁.heap.get? fa=some o->o.data=.func (docDef d.name d.params d.body d.scope pm cd doc)->s₁.heap.CodeRec cd d.name->mg d.name=some (.ref fa) ->
   s₁.heap.get? a=some { cls:=.type "list", data:=.seq vs.toArray }->IntsAre vs ns->ns.length<=n->s₁.gens=#[] ->
   codeAny (model l.prog w) callerA (.call (.ref fa) ⟨[.ref a],[]⟩) (fun r s'=>r=.ok (.ret (.bool true))/\OldK s₁.heap s'.heap/\s'.os=s₁.os/\AllBare s'.gens) s₁) :
  WalkO q loose XP YP l.row.toRowW d [] (fun f vs=>PySem.call f vs):=by
 intro w s₀ s₁ mg mb G Y fa o pm cd doc dV kV ho hd hcd hD hmg hg args vals as hpre hlay hrd hwl hlo;obtain rfl:dV=.none:=Dflts.none hD hdf;obtain rfl:kV=.none:=Dflts.noKw hD;obtain⟨a,vs,ns,rfl,rfl,hobj,hints,hlen⟩:=zsx hn hpre hwl;refine enter_call (xhi (call w s₀ s₁ mg mb fa o pm cd doc a vs ns G Y ho (fd_plain hd) hcd hmg hobj hints hlen hg) fun r s' hq=>?_);obtain⟨rfl,h2,h3,h4⟩:=hq;exact⟨.inl ⟨.bool true,.bool true,[],rfl,fun _=>rfl,.bool true,ztd l _,fun _=>⟨List.Pairwise.nil,fun _ hm=>(nomatch hm)⟩⟩,h2,h3,h4⟩
section
variable {prog:Program}{w:World}{A:Around}{E:Value->Shared->Prop}{s:Shared}{K:Frag}
end
end Att
namespace L2
open PySem PySem.Spec PyProof.Rows
theorem zmw:∀{vs:List Value} {ns:List Int},IntsAre vs ns->Vals (ns.map V.int) vs
 | _,_,.nil=>.nil
 | _,_,.cons n t h=>.cons ⟨t,rfl⟩ (zmw h)
end L2
/- THE LAST THEOREM (shape;LID,My.* are yours):
 My.Adr: a structure of the addresses that your layer names (classes,functions);My.Txt K t: a structure (Prop) of the equations over K;
 My.txt_mk:{K} {implicit addresses ..} (e1:nsIn K mainGlobals "law"=some (some (.ref f))) (e2:K.lookup f=some ⟨oc, od, .func (fnOf "law" "law" params body scope dV kV doc pm an cdv ct), sl⟩) (e3:codeIn K cdv "law"=true) ..:∃ t, My.Txt K t
(the tactic k_is has no namespace: write k_is) -/
namespace L2
open PySem PySem.Spec PyProof.Rows
def defArgs (s:Stmt):Arguments:=match s with
 | .FunctionDef _ a _ _ _ _ _ _ _ _=>a
 | _=>{posonlyargs:=[],args:=[],vararg:=none,kwonlyargs:=[],kw_defaults:=[],kwarg:=none,defaults:=[]}
def defBody (s:Stmt):List Stmt:=match s with
 | .FunctionDef _ _ b _ _ _ _ _ _ _=>b
 | _=>[]
def defScope (s:Stmt):Scope:=match s with
 | .FunctionDef _ _ _ _ _ _ sc _ _ _=>sc
 | _=>{kind:=.function,names:=[],isGenerator:=false,isCoroutine:=false}
abbrev CX0:CXT:=fun _ _ _ _ _ _=>False
abbrev E0:XK:=fun _ _ _=>False
theorem pass0 {X:Cx}:Passes CX0 X E0:=fun _ _ _ _ _ _ _ h=>h.elim
structure Fun (K:Fg) (x qual:Str) (st:Stmt) (f:Addr) (fd:FuncData):Prop where
 ex:∃(oc:Value) (od:Option Addr) (kV doc pm:Value) (an:Option Addr) (cdv ct:Value) (osl:Array (Option Value)),
  fd=W.fnOf x qual (defArgs st) (defBody st) (defScope st) .none kV doc pm an cdv ct/\K.lookup f=some ⟨oc,od,.func fd,osl⟩/\W.codeIn K cdv qual=true
 kp:W.keepIn K (.ref f)=true
section
variable {P:Program}{w:World}{K:Fg}{mg:Str->Option Value}{base:Heap}
theorem Fun.ok {x qual:Str}{st:Stmt}{f:Addr}{fd:FuncData}{N ps:List Str}{k:Nat}{sp:Sp}(F:Fun K x qual st f fd)(S:FnScope N ps (defScope st))(len:∀vs H Q E,sp vs H Q E->vs.length=ps.length)
  (hbody:∀(cdv:Value) (A:Around) (outer:List Env) (s:Shared) (H:Hp) (vs:List V) (Q:VK) (E:XK),Room k (A.deeper (envOfC qual (defScope st) s.heap.objs.size f cdv))->sp vs H Q E ->
   ∃t,PSs (cxOf CX0 P w K mg base N qual (defScope st) f cdv A outer s H E).nox (defBody st) t/\t {nx:=fun _ H'=>Q .non H',rt:=Q} (start N vs) H):FnOk P w K mg base CX0 (k+1) f fd ps sp:=by
 obtain⟨oc,od,kV,doc,pm,an,cdv,ct,osl,rfl,lk,hcd⟩:=F.ex;refine zbiu lk hcd S len fun A outer s H vs Q E hr hsp=>?_
 obtain⟨t,h,q⟩:=hbody cdv A outer s H vs Q E hr hsp;exact⟨t,h.nox,q⟩
theorem Fun.binds {x qual:Str}{st:Stmt}{f:Addr}{fd:FuncData}{ps:List Str}(F:Fun K x qual st f fd)
  (h:∀(kV doc pm:Value) (an:Option Addr) (cdv ct:Value) (us:List Value),us.length=ps.length->bindArgs (W.fnOf x qual (defArgs st) (defBody st) (defScope st) .none kV doc pm an cdv ct) ⟨us,[]⟩=pure (ps.zip us)):Binds K fd ps []:=by
 obtain⟨oc,od,kV,doc,pm,an,cdv,ct,osl,rfl,lk,hcd⟩:=F.ex;exact .all (h kV doc pm an cdv ct)
theorem zbit {x qual:Str}{st:Stmt}{f:Addr}{oc:Value}{od an:Option Addr}{osl:Array (Option Value)}{kV doc pm cdv ct:Value}(l:K.lookup f=some ⟨oc,od,.func (W.fnOf x qual (defArgs st) (defBody st) (defScope st) .none kV doc pm an cdv ct),osl⟩)
 (c:W.codeIn K cdv qual=true)(k:W.keepIn K (.ref f)=true):Fun K x qual st f (W.fnOf x qual (defArgs st) (defBody st) (defScope st) .none kV doc pm an cdv ct):=⟨⟨oc,od,kV,doc,pm,an,cdv,ct,osl,rfl,l,c⟩,k⟩
end
theorem zbab {A:Around}{k:Nat}(hr:Room k A):A.units+1 < cLine:=xcs (xcj (by decide:1<=64) _) hr.units
section
variable {X:Cx}
theorem pv (i:Nat){x:Str}{pos:Pos}(hN:X.N[i]?=some x:=by rfl)(hv:Vis X.env.scope x:=by first | exact Or.inl rfl | exact Or.inr (Or.inl rfl) | exact Or.inr (Or.inr rfl))(hd:(x==("__debug__" : Str))=false:=by decide)
 (hcd:(x==("__classdict__" : Str))=false:=by decide):PE X (.Name x pos) (tVar i):=zbhn hN hv hd hcd
end
theorem iteF {A B:Prop}(h:B):if false=true then A else B:=by
 rw[if_neg xft];exact h
theorem iteT {A B:Prop}(h:A):if true=true then A else B:=by
 rw[if_pos rfl];exact h
section
variable {X:Cx}
end
section
variable {κ:Type}[DecidableEq κ]
end
section
variable {P:Program}{w:World}{B:Around}{R:Result->Shared->Prop}{sh:Shared}
abbrev NoX:Value->Shared->Prop:=fun _ _=>False
abbrev testsOf (cs:List Expr) (ev:Env):Sem Bool :=
 forIn cs true fun d b=>if b=true then do let z ← isTrue d ev (eval d ev);pure (ForInStep.yield z) else pure (ForInStep.yield b)
def CompStep (P:Program) (w:World) (B:Around) (tg x:Expr) (cs:List Expr) (ev:Env) (i l:Value) (K:Shared->Prop) (v:Value) (sa:Shared):Prop :=
 wpAny (model P w) B (letOwnedTupleGo tg i v) (fun _ sb=>wpAny (model P w) B (assign tg ev v) (fun _ sc=>wpAny (model P w) B (testsOf cs ev) (fun ok sd =>
  if ok=true then wpAny (model P w) B (eval x ev) (fun y se=>wpAny (model P w) B (call (.builtin "list.append") [l, y]) (fun _ sf=>K sf) NoX se) NoX sd else K sd) NoX sc) NoX sb) NoX sa
theorem zuw {tg it x:Expr}{cs:List Expr}{sc:Scope}{ps:Pos}{i l:Value}{ev:Env}(J:Nat->Shared->Prop)
  (go:∀k sk,J k sk->wpAny (model P w) B (pyNext i) (fun o sa=>match o with
   | none=>R (.ok .next) sa
   | some v=>CompStep P w B tg x cs ev i l (fun sf=>∃k',k' < k/\J k' sf) v sa) NoX sk)
  (k:Nat)(hJ:J k sh):codeAny (model P w) B (.compLoop (.ListComp x [⟨tg,it,cs,0⟩] sc ps) 0 i l ev) R sh:=by
 have none_:∀{E:Value->Shared->Prop} (e:Value) (z:Shared),NoX e z->E e z:=fun _ _ z=>z.elim
 refine codeAny_loop rfl J (fun k sk hk=>wpAny_noted (by
  rw[compTurn_list];refine xba (xlb (xba (xdh (go k sk hk) (fun o sa ho=>?_) none_)))
  match o,ho with
  | none,ho=>exact xbe ho
  | some v,ho =>
   refine xba (xdh ho (fun _ sb hb=>xba (xdh hb (fun _ sc' hc=>xba (xdh hc (fun ok sd hd=>?_) none_)) none_)) none_)
   match ok,hd with
   | false,hd=>exact xbe (And.intro rfl hd)
   | true,hd=>exact xba (xba (xdh hd (fun y se he=>xba (xdh he (fun _ sf hf=>xbe (xbe (And.intro rfl hf))) none_)) none_)))) k hJ
end
theorem zmo {env:Env}:∀(names:List (Str×NameKind)) (acc:List (Str×Addr)),(∀y∈names,y.2=.free->∃c,env.cells.lookup y.1=some c)->(∀x c,acc.lookup x=some c->env.cells.lookup x=some c) ->
  ∃cl:List (Str×Addr),(forIn names acc (fun x r=>if(x.2==NameKind.free)=true then do let a ← cellOf env x.1;pure (ForInStep.yield ((x.1,a)::r)) else pure (ForInStep.yield r)):Sem (List (Str×Addr)))=pure cl /\
   (∀x c,cl.lookup x=some c->env.cells.lookup x=some c)/\(∀x c,acc.lookup x=some c->∃c',cl.lookup x=some c')/\∀x,(x,NameKind.free)∈names->∃c,cl.lookup x=some c:=by
 intro names
 induction names with
 | nil=>intro acc _ ha;exact⟨acc,rfl,ha,fun x c e=>⟨c,e⟩,fun x z=>(nomatch z)⟩
 | cons y r ih =>
  intro acc hf ha;obtain⟨n,k⟩:=y;by_cases hk:k=.free
  ·subst hk;obtain⟨c,hc⟩:=hf (n,.free) xcm rfl
   obtain⟨cl,e,h1,h2,h3⟩:=ih ((n,c)::acc) (fun y hy=>hf y (xcq _ hy)) (fun x c' e=>by
    rw[xfc] at e;by_cases hx:x=n
    ·subst hx;rw[xhj] at e;cases e;exact hc
    ·rw[xhm.mpr hx] at e
     exact ha x c' e)
   refine⟨cl,?_,h1,fun x c' e'=>?_,fun x hx=>?_⟩
   ·rw[xlu];simp only[xhj,ite_true];have q:cellOf env n=pure c:=by unfold cellOf;rw[hc]
    rw[q];simp only[pure_bind];exact e
   ·by_cases hx:x=n
    ·subst hx;exact h2 x c (by rw[xfc,xhj])
    ·exact h2 x c' (by rw[xfc,xhm.mpr hx];exact e')
   ·rcases xbu.mp hx with z | z
    ·cases z;exact h2 n c (by rw[xfc,xhj])
    ·exact h3 x z
  ·obtain⟨cl,e,h1,h2,h3⟩:=ih acc (fun y hy=>hf y (xcq _ hy)) ha;refine⟨cl,?_,h1,h2,fun x hx=>?_⟩
   ·rw[xlu];have hb:(k==NameKind.free)=false:=by simpa using hk
    simp only[hb,xdc,xes,pure_bind];exact e
   ·rcases xbu.mp hx with z | z
    ·cases z;exact absurd rfl hk
    ·exact h3 x z
theorem zrs {scope:Scope}{env:Env}(h:∀y∈scope.names,y.2=.free->∃c,env.cells.lookup y.1=some c) :
  ∃cl,closureFor scope env=pure cl/\(∀x c,cl.lookup x=some c->env.cells.lookup x=some c)/\∀x,(x,NameKind.free)∈scope.names->∃c,cl.lookup x=some c:=by
 obtain⟨cl,e,h1,_,h3⟩:=zmo (env:=env) scope.names [] h (fun x c e=>(nomatch e));refine⟨cl,?_,h1,h3⟩;unfold closureFor;have e':=congrArg (fun m=>m >>= fun r=>(pure r:Sem (List (Str×Addr)))) e;simp only[pure_bind] at e';exact e'
theorem zbt {env:Env}:∀{names:List (Str×NameKind)} {x:Str} {k:NameKind},(names.map fun(n,k)=>if(k==NameKind.free&&env.scope.kind==.function&&env.kindOf n==some .cell) then(n,NameKind.cell) else(n,k)).lookup x=some k ->
  names.lookup x=some k\/(k=.cell/\names.lookup x=some .free)
 | [],_,_,h=>by simp at h
 | (n,k')::r,x,k,h=>by
  have ih:=@zbt env r x k;have h':List.lookup x ((if(k'==NameKind.free&&env.scope.kind==.function&&env.kindOf n==some .cell)=true then(n,NameKind.cell) else(n,k'))::_)=_:=h;cases hx:x==n with
  | true =>
   by_cases hc:(k'==NameKind.free&&env.scope.kind==.function&&env.kindOf n==some .cell)=true
   ·rw[if_pos hc] at h';simp only[xfc,hx] at h' ⊢;cases h';rw[xek,xek] at hc;exact .inr ⟨rfl,by rw[eq_of_beq hc.1.1]⟩
   ·rw[if_neg hc] at h';simp only[xfc,hx] at h' ⊢;exact .inl h'
  | false =>
   have h2:(r.map fun(n,k)=>if(k==NameKind.free&&env.scope.kind==.function&&env.kindOf n==some .cell) then(n,NameKind.cell) else(n,k)).lookup x=some k:=by
    by_cases hc:(k'==NameKind.free&&env.scope.kind==.function&&env.kindOf n==some .cell)=true
    ·rw[if_pos hc] at h';simp only[xfc,hx] at h';exact h'
    ·rw[if_neg hc] at h';simp only[xfc,hx] at h';exact h'
   simp only[xfc,hx];exact ih h2
def cxC (X:Cx) (N:List Str) (scope:Scope) (cl:List (Str×Addr)) (C:Addr) (fp:List Addr) (s:Shared) (H:Hp):Cx :=
 {X with N:=N,s₀:=s,H₀:=H,env:=compEnvC scope cl C X.env,outer:=X.stack,ex:=fp,fn:=fun _=>false,pn:=[],xe:=fun _ _=>False}
def startC (k:Nat) (is:List Nat) (σ:St):St:=List.replicate k none++is.map fun i=>(σ[i]?).getD none
structure CompScope (X:Cx) (N:List Str) (k:Nat) (is:List Nat) (scope:Scope):Prop where
 kind:scope.kind=.function
 nocell:∀y∈scope.names,y.2≠.cell
 names:∀y∈scope.names,y.2=.local->scope.names.lookup y.1=some .local
 frees:∀y∈scope.names,y.2=.free->X.env.kindOf y.1=some .cell\/X.env.kindOf y.1=some .free
 len:N.length=k+is.length
 own:∀j i,is[j]?=some i->∃x,N[k+j]?=some x/\X.N[i]?=some x/\scope.names.lookup x=some .free
theorem zdl {x:Str}{k:NameKind}{l:List (Str×NameKind)}(h:l.lookup x=some k):(x,k)∈l:=xen h
section
variable {X:Cx}{aY:List (Addr×Obj)}{σ:St}{H:Hp}{s:Shared}
theorem zyo {N:List Str}{k:Nat}{is:List Nat}{scope:Scope}{cl:List (Str×Addr)}{fp:List Addr}{h1:Heap}{tk:Nat}(S:CompScope X N k is scope)(I:Inv X aY σ H s)
  (c1:∀x c,cl.lookup x=some c->X.env.cells.lookup x=some c)(c2:∀x,(x,NameKind.free)∈scope.names->∃c,cl.lookup x=some c)
  (hf:∀b∈fp,FpOk X aY H b)(hfo:∀b∈fp,∃o,s.heap.get? b=some o)(hn:h1.Ns s.heap.objs.size (fun _=>none))(hk:∀b o,s.heap.get? b=some o->h1.get? b=some o) :
  Inv (cxC X N scope cl s.heap.objs.size fp s H) [] (startC k is σ) H {s with heap:=h1,toks:=tk}:=by
 have hC:∀b o,s.heap.get? b=some o->b≠s.heap.objs.size:=fun b o e=>xbv (xbi e)
 have nfs:∀b∈fp,b∉frs X.stack:=fun b hb z=>by
  rcases xbu.mp (I.stkSub b z) with e | e
  ·exact(hf b hb).2.1 e
  ·exact(hf b hb).2.2.1 e
 refine⟨⟨I.ok.mod,S.kind,I.ok.glob,I.ok.blt,xbf _,fun x y c e1 e2=>I.ok.inj x y c (c1 x c e1) (c1 y c e2),fun x hx=>?_,fun x c z=>?_,I.ok.hd,I.ok.frames,.inl rfl,fun b hb=>⟨?_,fun x c e=>?_⟩,I.bs,xbc I.ok.bsz I.sz,fun b o e hb=>?_,nfs,I.stack,I.stkFree⟩,
  rfl,I.bare,Un.kept hk,⟨_,hn,fun i x v e1 e2 e3=>?_⟩,fun x c e=>?_,I.hok.fresh (xbf _),fun x c e=>I.freeC x c (c1 x c e),fun p hp=>(nomatch hp),I.hok.kept hk,?_,I.hnd⟩
 ·have hx':(scope.names.map fun(n,k)=>if(k==NameKind.free&&X.env.scope.kind==.function&&X.env.kindOf n==some .cell) then(n,NameKind.cell) else(n,k)).lookup x=some .cell\/(scope.names.map fun(n,k)=>if(k==NameKind.free&&X.env.scope.kind==.function&&X.env.kindOf n==some .cell) then(n,NameKind.cell) else(n,k)).lookup x=some .free:=hx;have q:scope.names.lookup x=some .free:=by
   rcases hx' with z | z
   ·rcases zbt z with q | ⟨_,q⟩
    ·exact absurd rfl (S.nocell _ (zdl q))
    ·exact q
   ·rcases zbt z with q | ⟨q,_⟩
    ·exact q
    ·cases q
  exact c2 x (zdl q)
 ·cases z
 ·obtain⟨o,e⟩:=hfo b hb;exact hC b o e
 ·exact(hf b hb).2.2.2.2.1 x c (c1 x c e)
 ·rcases(hf b hb).2.2.2.1 with z | z
  ·exact I.ok.noex b o e z
  ·exact absurd (xbh (xbi (I.ok.bs b o e).1) z) (xfg _)
 ·-- a name of the def around
  unfold startC at e2;have hi:k<=i:=by
   rcases xeh i k with z | z
   ·rw[xcd (by rw[xgw];exact z),List.getElem?_replicate,if_pos z] at e2;cases e2
   ·exact z
  rw[xcr (by rw[xgw];exact hi),xgw,xcc] at e2;cases ej:is[i - k]? with
  | none=>rw[ej] at e2;cases e2
  | some j =>
   rw[ej] at e2;have e2':(σ[j]?).getD none=some v:=xby e2;obtain⟨y,y1,y2,y3⟩:=S.own (i - k) j ej;have ey:y=x:=by
    have z:N[i]?=some y:=by rw[← y1];congr 1;lia
    have e1':N[i]?=some x:=e1;rw[z] at e1';exact xby e1'
   subst ey;have e4:σ[j]?=some (some v):=by
    cases q:σ[j]? with
    | none=>rw[q] at e2';cases e2'
    | some o=>rw[q] at e2';exact congrArg some e2'
   have kd:=S.frees _ (zdl y3) rfl;have vis:Vis X.env.scope y:=.inr kd;obtain⟨m,_,hl⟩:=I.loc;obtain⟨u,r,lk⟩:=hl j y v y2 e4 vis;refine⟨u,r,?_⟩;rcases lk with⟨z,_⟩ | ⟨_,c,e5,cc⟩
   ·rcases kd with q | q<;>(rw[q] at z;cases z)
   ·obtain⟨c',e6⟩:=c2 y (zdl y3);have:c'=c:=by
     have z:=c1 y c' e6;rw[e5] at z;exact(xby z).symm
    subst this;refine .inr ⟨?_,c',e6,?_⟩
    ·rcases e3 with z | z | z
     ·exact absurd (zbt z) (by
       rw[y3];rintro(q | ⟨q,_⟩)
       ·cases q
       ·cases q)
     ·exact .inl z
     ·exact .inr z
    ·obtain⟨o,ho,hd⟩:=cc;exact⟨o,hk _ o ho,hd⟩
 ·obtain⟨v,o,ho,hd⟩:=I.cell x c (c1 x c e);exact⟨v,o,hk _ o ho,hd⟩
 ·unfold startC;rw[xbs,xgw,xbd];exact S.len.symm
theorem zyp {N:List Str}{scope:Scope}{cl:List (Str×Addr)}{fp:List Addr}{σ':St}{H':Hp}{s':Shared}{h':Heap}(I:Inv X aY σ H s)(hf:∀b∈fp,FpOk X aY H b)(J:Inv (cxC X N scope cl s.heap.objs.size fp s H) [] σ' H' s')
  (hs:Heap.SameBut s.heap.objs.size s'.heap h'):Inv X aY σ H' {s' with heap:=h'}:=by
 have hC:∀b o,s.heap.get? b=some o->b≠s.heap.objs.size:=fun b o e=>xbv (xbi e)
 have hH:H' s.heap.objs.size=none:=J.free;have B:Un (frs X.stack) fp H H' s.heap s'.heap:=J.base
 have U:Un (frs X.stack) fp H H' s.heap h':=⟨fun b o e n h1 h2=>hs.extBut b o (hC b o e) (B.keep b o e n h1 h2),fun b o e n h1 h2=>by
   obtain⟨sl,q⟩:=B.slot b o e n h1 h2;exact⟨sl,hs.extBut b _ (hC b o e) q⟩,B.free,fun b o e hx=>by
   obtain⟨o',q⟩:=B.there b o e hx
   exact⟨o',hs.extBut b o' (hC b o e) q⟩,B.tups,B.frzs,B.tbls⟩
 refine I.call' (s':={s' with heap:=h'}) J.os U (fun a o e=>?_) J.bare (fun b hb=>⟨(hf b hb).2.2.2.1,(hf b hb).2.1,(hf b hb).2.2.2.2.1,(hf b hb).2.2.2.2.2⟩);refine(J.hok a o e).stay (fun b u hb q=>hs.extBut b u ?_ q) (fun _ q=>q) fun _ _ q=>q
 rcases hb with z | z
 ·intro y;rw[z] at y;rw[y,hH] at e;cases e
 ·intro y;rw[y,hH] at z;cases z
end
structure OffC (X:Cx) (aY:List (Addr×Obj)) (H:Hp) (C:Addr):Prop where
 free:H C=none
 loc:C≠X.env.locals
 young:X.s₀.heap.objs.size<=C
 cell:∀x c,X.env.cells.lookup x=some c->c≠C
 pin:∀p∈X.pn++aY,p.1≠C
theorem OffC.back {X:Cx}{aY:List (Addr×Obj)}{σ:St}{H:Hp}{C:Addr}{s:Shared}{h':Heap}(o:OffC X aY H C)(I:Inv X aY σ H s)(hs:Heap.SameBut C s.heap h'):Inv X aY σ H {s with heap:=h'} :=
 I.turned (t':=s.toks) (fun b u hb e=>hs.extBut b u hb e) o.free o.loc (.inr o.young) o.cell o.pin
def nxC (p:Addr) (te:TE) (tc:TT) (N:St->Hp->Prop):St->Hp->Prop:=fun σ2 H3=>tc σ2 H3 fun b H4 =>
 if b=true then te σ2 H4 fun y H5=>∃xs,H5 p=some (.lst xs)/\xs.length < sizeLine/\N σ2 (upd H5 p (.lst (xs++[y]))) else N σ2 H4
def CompG (J:It) (g:TG) (tc:TT) (te:TE) (Q:VK) (p:Addr) (σ:St) (H:Hp):Prop:=∃W:Nat->Nat->St->Hp->Prop,(∃m,W 0 m σ H) /\
 ∀i m σ' H',W i m σ' H'->(J.stop i H'/\Q (.ref p) H')\/(J.go i H'/\∃N:St->Hp->Prop,(∀σ2 H2,N σ2 H2->∃m',m' < m/\W (i+1) m' σ2 H2)/\∀x H2,J.yld i H' x H2->g x σ' H2 (nxC p te tc N))
def tComp (wi:TI) (k:Nat) (is:List Nat) (g:TG) (tc:TT) (te:TE):TE:=fun σ H Q=>wi σ H fun J H1=>∀p,H1 p=none->CompG J g tc te Q p (startC k is σ) (upd H1 p (.lst []))
def tYes:TT:=fun _ H Q=>Q true H
section
variable {X:Cx}{tg iter elt:Expr}{ifs:List Expr}{wi:TI}{g:TG}{tc:TT}{te:TE}{N:List Str}{k:Nat}{is:List Nat}{scope:Scope}{pos:Pos}
def PIf (X:Cx) (ifs:List Expr) (t:TT):Prop :=
 ∀(aY:List (Addr×Obj)) (s:Shared) (σ:St) (H:Hp) (Q:Bool->Hp->Prop),Inv X aY σ H s->t σ H Q ->
  wpAny (model X.prog X.w) X.A (forIn ifs true fun c r=>if r=true then do let ok ← isTrue c X.env (eval c X.env);pure (ForInStep.yield ok) else pure (ForInStep.yield r)) (TP X aY σ Q) X.xe s
theorem zbbo:PIf X [] tYes:=fun aY s σ H Q I h=>wpAny_tests_nil ⟨H,I,h⟩
theorem zbbn {c:Expr}{t:TT}(h:PT X c t):PIf X [c] t:=fun aY s σ H Q I hq=>wpAny_tests_one (h aY s σ H Q I hq)
theorem zlc (hcalm:X.calm=true)(hg:∀cl C fp s H,PG (cxC X N scope cl C fp s H) tg g)(hc:∀cl C fp s H,PIf (cxC X N scope cl C fp s H) ifs tc)(he:∀cl C fp s H,PE (cxC X N scope cl C fp s H) elt te)
  (S:CompScope X N k is scope){aY:List (Addr×Obj)}{σ:St}{H2:Hp}{s2:Shared}{cl:List (Str×Addr)}{it:Addr}{fp:List Addr}{tn:Nat->Heap->Prop}{J:It}{Q:VK}{E:Value->Shared->Prop}{RR:Value->Addr->Result->Shared->Prop}
  (I2:Inv X aY σ H2 s2)(T:Turn X.prog X.w X.K tg J fp it tn)(st2:tn 0 s2.heap)(f2:∀b∈fp,FpOk X aY H2 b)
  (c1:∀x c,cl.lookup x=some c->X.env.cells.lookup x=some c)(c2:∀x,(x,NameKind.free)∈scope.names->∃c,cl.lookup x=some c)
  (h:∀p,H2 p=none->∃W:Nat->Nat->St->Hp->Prop,(∃m,W 0 m (startC k is σ) (upd H2 p (.lst []))) /\
   ∀i m σ' H',W i m σ' H'->(J.stop i H'/\Q (.ref p) H')\/(J.go i H'/\∃N:St->Hp->Prop,(∀σ2 H2,N σ2 H2->∃m',m' < m/\W (i+1) m' σ2 H2)/\∀x H2,J.yld i H' x H2->g x σ' H2 (nxC p te tc N)))
  (hR:∀(p C:Addr) (s':Shared) (H':Hp) (m:Str->Option Value),OffC X aY H' C->s'.heap.Ns C m->Inv X aY σ H' s'->Q (.ref p) H'->RR (.ref p) C (.ok .next) s') :
  wpAny (model X.prog X.w) X.A (newList []) (fun acc s₃=>wpAny (model X.prog X.w) X.A (newFunctionEnv scope X.env.globals cl [] X.env.qual none .none (some X.env)) (fun cenv s₄ =>
   codeAny (model X.prog X.w) X.A (.compStart (.ListComp elt [⟨tg,iter,ifs,0⟩] scope pos) 0 (.ref it) acc {cenv with scope:=relabel scope X.env}) (RR acc cenv.locals) s₄) E s₃) E s2:=by
 refine xdb ?_;have fresh:H2 s2.heap.objs.size=none:=I2.fresh;have I3:Inv X aY σ (upd H2 s2.heap.objs.size (.lst [])) { s2 with heap:=s2.heap.push { cls:=.type "list", dict:=none, data:=.seq ([]:List Value).toArray } }:=I2.lnew (t':=s2.toks) (.nil) (by decide)
 generalize hs3:({ s2 with heap:=s2.heap.push { cls:=.type "list", dict:=none, data:=.seq ([]:List Value).toArray } }:Shared)=s3 at I3
 have k3:∀b o,s2.heap.get? b=some o->s3.heap.get? b=some o:=fun b o e=>by rw[← hs3];exact xbb _ e
 refine wpAny_newFunctionEnv S.nocell (by intro y hy;simp at hy) (fun h₁ hns₁ hsb₁=>?_) S.kind;have st3:tn 0 s3.heap:=T.keep _ _ _ st2 fun b _ o e=>k3 b o e
 have f3:∀b∈fp,FpOk X aY (upd H2 s2.heap.objs.size (.lst [])) b:=fun b hb=>by
  obtain⟨o,e,_⟩:=T.obj _ _ st2 b hb;exact⟨by rw[zn (xbv (xbi e))];exact(f2 b hb).1,(f2 b hb).2⟩
 have k4:∀b o,s3.heap.get? b=some o->h₁.get? b=some o:=fun b o e=>hsb₁.extBut b o (xbv (xbi e)) (xbb _ e)
 have J4:=zyo (tk:=s3.toks+([]:List (Str×Value)).length) S I3 c1 c2 f3 (fun b hb=>let ⟨o,e,_⟩:=T.obj _ _ st3 b hb;⟨o,e⟩) hns₁ k4;obtain⟨W,⟨m0,w0⟩,turn⟩:=h s2.heap.objs.size fresh;have st4:tn 0 h₁:=T.keep _ _ _ st3 fun b _ o e=>k4 b o e
 have loop:codeAny (model X.prog X.w) X.A (.compLoop (.ListComp elt [⟨tg,iter,ifs,0⟩] scope pos) 0 (.ref it) (.ref s2.heap.objs.size) (compEnvC scope cl s3.heap.objs.size X.env)) (RR (.ref s2.heap.objs.size) s3.heap.objs.size) {s3 with heap:=h₁,toks:=s3.toks+([]:List (Str×Value)).length}:=by
  have stat:∀{H':Hp},(∀b∈fp,H' b=none)->∀b∈fp,FpOk (cxC X N scope cl s3.heap.objs.size fp s3 (upd H2 s2.heap.objs.size (.lst []))) [] H' b:=fun {H'} hn b hb=>by
   obtain⟨o,e,_⟩:=T.obj _ _ st3 b hb;refine⟨hn b hb,xbv (xbi e),J4.ok.exfs b hb,.inl hb,fun x c e'=>(f3 b hb).2.2.2.2.1 x c (c1 x c e'),fun p hp=>(nomatch hp)⟩
  refine zuw (fun n s'=>∃i σ' H',Inv (cxC X N scope cl s3.heap.objs.size fp s3 (upd H2 s2.heap.objs.size (.lst []))) [] σ' H' s'/\tn i s'.heap/\(∀b∈fp,H' b=none)/\W i n σ' H') ?_ m0
   ⟨0,_,_,J4,st4,fun b hb=>(f3 b hb).1,w0⟩
  rintro n s5 ⟨i,σ5,H5,I5,st5,fr5,w5⟩;rcases turn i n σ5 H5 w5 with⟨stop,q⟩ | ⟨go,N',hN',step⟩
  ·refine thn (T.done (cxC X N scope cl s3.heap.objs.size fp s3 (upd H2 s2.heap.objs.size (.lst []))) rfl rfl rfl hcalm i [] s5 σ5 H5 _ I5 (stat fr5) st5 stop) fun r s6 hq0=>?_
   obtain⟨hr,I6⟩:=hq0;subst hr;obtain⟨m,hm,_⟩:=I6.loc;refine hR _ _ s6 H5 m ⟨I6.free,xga I3.lt,I3.sz,fun x c e=>?_,fun p hp=>xbv (xbi (I3.pin p hp).1)⟩ hm (zyp (h':=s6.heap) I3 f3 I6 (.refl ..)) q;obtain⟨v,o,ho,_⟩:=I3.cell x c e;exact xbv (xbi ho)
  ·refine thn (T.item (cxC X N scope cl s3.heap.objs.size fp s3 (upd H2 s2.heap.objs.size (.lst []))) rfl rfl rfl hcalm i [] s5 σ5 H5 _ I5 (stat fr5) st5 go) fun r s6 hq0=>?_
   obtain⟨u,hr,h6⟩:=hq0;subst hr;refine thn h6 fun _ s7 hq0=>?_
   obtain⟨x,H7,I7,r7,y7,st7,fr7⟩:=hq0;have I7':=I7.pinned (stat fr7) (T.obj _ _ st7);refine thn (hg cl s3.heap.objs.size fp s3 _ _ s7 σ5 H7 x u _ I7' r7 (step x H7 y7)) fun _ s8 hq0=>?_
   obtain⟨σ8,H8,I8,q8⟩:=hq0;refine thn (hc cl s3.heap.objs.size fp s3 _ _ s8 σ8 H8 _ I8 q8) fun b s9 hq0=>?_
   obtain⟨H9,I9,q9⟩:=hq0;have again:∀{σ':St} {H':Hp} {s':Shared} {m':Nat},Inv (cxC X N scope cl s3.heap.objs.size fp s3 (upd H2 s2.heap.objs.size (.lst []))) ([]++pinsAt fp s7.heap) σ' H' s'->m' < n->W (i+1) m' σ' H' ->
     ∃m,m < n/\∃i σ' H',Inv (cxC X N scope cl s3.heap.objs.size fp s3 (upd H2 s2.heap.objs.size (.lst []))) [] σ' H' s'/\tn i s'.heap/\(∀b∈fp,H' b=none)/\W i m σ' H':=fun {σ' H' s' m'} I' hm w'=>by
    refine⟨m',hm,i+1,σ',H',I'.unpinned,T.keep _ _ _ st7 fun b hb o e=>(I'.pin (b,o) (xdj _ (xdj _ (zfv hb e)))).1,fun b hb=>?_,w'⟩;obtain⟨o,e,d⟩:=T.obj _ _ st7 b hb;exact(I'.pin (b,o) (xdj _ (xdj _ (zfv hb e)))).2.1
   cases b with
   | false =>
    obtain⟨m',hm,w'⟩:=hN' _ _ q9;exact again I9 hm w'
   | true =>
    refine thn (he cl s3.heap.objs.size fp s3 _ _ s9 σ8 H9 _ I9 q9) fun v s10 hq0=>?_
    obtain⟨y,H10,I10,r10,xs,hxs,hz,n10⟩:=hq0;obtain⟨m',hm,w'⟩:=hN' _ _ n10;refine thn (znn (X:=cxC X N scope cl s3.heap.objs.size fp s3 (upd H2 s2.heap.objs.size (.lst []))) _ s10 σ8 H10 (.ref s2.heap.objs.size) [y] _ [v] (fun _ H'=>H'=upd H10 s2.heap.objs.size (.lst (xs++[y]))) I10 rfl (.cons r10 .nil) ⟨_,xs,y,rfl,rfl,hxs,hz,rfl⟩) fun _ s11 hq0=>?_
    obtain⟨_,H11,I11,_,e11⟩:=hq0;subst e11;exact again I11 hm w'
 have hs3':s2.heap.push { cls:=.type "list", dict:=none, data:=.seq ([]:List Value).toArray }=s3.heap:=by rw[← hs3]
 have fin:=codeAny_compStart_list (elt:=elt) (target:=tg) (iter:=iter) (ifs:=ifs) (rest:=[]) (scope:=scope) (pos:=pos) loop (T.self X.A 0 _ _ _ st4 loop);exact fin
theorem zfl (S:CompScope X N k is scope){aY:List (Addr×Obj)}{σ:St}{H:Hp}{s:Shared}(I:Inv X aY σ H s) :
  ∃cl,closureFor scope X.env=pure cl/\(∀x c,cl.lookup x=some c->X.env.cells.lookup x=some c)/\∀x,(x,NameKind.free)∈scope.names->∃c,cl.lookup x=some c :=
 zrs fun y hy hf=>I.ok.has y.1 (S.frees y hy hf)
theorem zbbx (hcalm:X.calm=true)(hi:PI X tg iter wi)(hg:∀cl C fp s H,PG (cxC X N scope cl C fp s H) tg g)(hc:∀cl C fp s H,PIf (cxC X N scope cl C fp s H) ifs tc)(he:∀cl C fp s H,PE (cxC X N scope cl C fp s H) elt te)
  (S:CompScope X N k is scope)(hs:∀x,foldedSetIterable iter X.env x=pure x:=by intro _;rfl):PE X (.ListComp elt [⟨tg,iter,ifs,0⟩] scope pos) (tComp wi k is g tc te):=by
 intro aY s σ H Q I h;obtain⟨cl,e,c1,c2⟩:=zfl S I;rw[eval_ListComp];refine wpAny_comprehension_free (use:=none) rfl hs e S.kind S.names (thn (hi aY s σ H _ I h) fun xv s1 h1=>thn h1 fun itv s2 h2=>?_);obtain⟨it,fp,tn,J,H2,e2,I2,T,st2,f2,h3⟩:=h2;subst e2;refine zlc (Q:=Q) (RR:=fun acc C=>compPost (model X.prog X.w) X.A X.xe none (EP X aY σ Q) acc C) hcalm hg hc he S I2 T st2 f2 c1 c2 h3 ?_;intro p C s' H' m off hm I' q;exact⟨m,hm,fun h' hs'=>⟨.ref p,H',off.back I' hs',rfl,q⟩⟩
theorem zbbh {i:Nat}{x:Str}{pos':Pos}(hcalm:X.calm=true)(hN:X.N.Nodup)(hxi:X.N[i]?=some x)(hx:Loc X.env.scope x)(hi:PI X tg iter wi)(hg:∀cl C fp s H,PG (cxC X N scope cl C fp s H) tg g)(hc:∀cl C fp s H,PIf (cxC X N scope cl C fp s H) ifs tc)
  (he:∀cl C fp s H,PE (cxC X N scope cl C fp s H) elt te)(S:CompScope X N k is scope){spos:Pos}(hsw:swapsWith (.ListComp elt [⟨tg,iter,ifs,0⟩] scope pos) (some (.Name x pos')) spos.line X.env=pure true:=by rfl)
  (hf:X.fn x=true\/X.env.scope.names.lookup x=some .local:=by first | exact .inl rfl | exact .inr rfl | assumption)
  (hs:∀x,foldedSetIterable iter X.env x=pure x:=by intro _;rfl):PS X (.Assign [.Name x pos'] (.ListComp elt [⟨tg,iter,ifs,0⟩] scope pos) spos) (tAsg (tComp wi k is g tc te) (gName i)):=by
 intro aY s σ H D I h;obtain⟨cl,e,c1,c2⟩:=zfl S I;rw[exec_Assign_Name_used (hs:=hsw)];refine xba (xlb (xba (?_:wpAny _ X.A _ _ _ s)));show wpAny _ X.A (do let _ ← comprehension (.ListComp elt [⟨tg,iter,ifs,0⟩] scope pos) scope X.env _ (newList []) false (eval iter X.env) (some (assign (.Name x pos') X.env))) _ _ s
 refine xba (xdh (wpAny_comprehension_free (use:=some (assign (.Name x pos') X.env)) (Q:=fun _ s'=>SP X aY D .next s') rfl hs e S.kind S.names
  (thn (hi aY s σ H _ I h) fun xv s1 h1=>thn h1 fun itv s2 h2=>?_)) (fun _ s' hq=>xbe (xbe hq)) fun _ _ e=>e)
 obtain⟨it,fp,tn,J,H2,e2,I2,T,st2,f2,h3⟩:=h2;subst e2;refine zlc (Q:=fun v H'=>gName i v σ H' D.nx) (RR:=fun acc C=>compPost (model X.prog X.w) X.A X.xe (some (assign (.Name x pos') X.env)) (fun _ s'=>SP X aY D .next s') acc C) hcalm hg hc he S I2 T st2 f2 c1 c2 h3 ?_;intro p C s' H' m off hm I' q;show wpAny _ X.A (assign (.Name x pos') X.env (.ref p)) _ _ _;refine wpAny_assign_Name (znb (v:=.ref p) I' hN hxi hx rfl (fun s'' I'' hq0=>?_) hf);obtain⟨a,hsb,ha⟩:=hq0;have hCa:C≠a:=by
  rcases ha with z | z
  ·rw[z];exact off.loc
  ·exact(off.cell x a z).symm
 exact⟨m,hm.sameBut hsb hCa,fun h' hs'=>⟨_,H',off.back I'' hs',q⟩⟩
end
section
variable {g:TG}{tc:TT}{te:TE}{Q:VK}{σ:St}{H:Hp}{p:Addr}
end
def Callee (P:Program) (w:World) (K:Fg) (mg:Str->Option Value) (base:Heap) (x:Str) (k:Nat) (ps:List Str) (sp:Sp):Prop :=
 ∃f fd,FnOk P w K mg base CX0 k f fd ps sp/\Binds K fd ps []/\W.keepIn K (.ref f)=true/\mg x=some (.ref f)
section
variable {X:Cx}{x:Str}{k:Nat}{ps:List Str}{sp:Sp}{p pos:Pos}{e:Expr}{es:List Expr}{t:TA}
theorem zxu (c:Callee X.prog X.w X.K X.mg X.base x k ps sp)(hr:Room k X.A)(hg:Gl X x)(ha:PA X (e::es) t)(hdb:(x==("__debug__" : Str))=false:=by decide)
  (he:starEach (e::es) X.env=(false,eval e X.env)::starEach es X.env:=by rfl)(hpl:(backTo pos (starEach es X.env)).any (·.1)=false:=by rfl) :
  PE X (.Call (.Name x p) (e::es) [] pos) (tCall sp [] E0 t):=by
 obtain⟨f,fd,F,b,kp,m⟩:=c;exact zvo F hr hg m kp b .nil pass0 ha hdb he hpl
end
def TopF (K:Fg) (x:Str) (st:Stmt):Prop :=
 ∃f fd,W.nsIn K mainGlobals x=some (some (.ref f))/\Fun K x x st f fd
theorem zdh {K:Fg}{x:Str}{st:Stmt}{f:Addr}{od an:Option Addr}{sl:Array (Option Value)}{oc kV dc pm cd ct:Value}
  (a:W.nsIn K mainGlobals x=some (some (.ref f)))(l:K.lookup f=some ⟨oc,od,.func (W.fnOf x x (defArgs st) (defBody st) (defScope st) .none kV dc pm an cd ct),sl⟩)(c:W.codeIn K cd x=true)(k:W.keepIn K (.ref f)=true):TopF K x st :=
 ⟨f,_,a,zbit l c k⟩
theorem zuy {P:Program}{w:World}{K:Fg}{mg:Str->Option Value}{base h:Heap}{x:Str}{st:Stmt}{N ps:List Str}{k:Nat}{sp:Sp}(T:TopF K x st)(X:K.In h)(G:h.Ns mainGlobals mg)(S:FnScope N ps (defScope st))
  (bd:∀(kV doc pm:Value) (an:Option Addr) (cdv ct:Value) (us:List Value),us.length=ps.length->bindArgs (W.fnOf x x (defArgs st) (defBody st) (defScope st) .none kV doc pm an cdv ct) ⟨us,[]⟩=pure (ps.zip us))
  (len:∀vs H Q E,sp vs H Q E->vs.length=ps.length)
  (hbody:∀(f:Addr) (cdv:Value) (A:Around) (outer:List Env) (s:Shared) (H:Hp) (vs:List V) (Q:VK) (E:XK),Room k (A.deeper (envOfC x (defScope st) s.heap.objs.size f cdv))->sp vs H Q E ->
   ∃t,PSs (cxOf CX0 P w K mg base N x (defScope st) f cdv A outer s H E).nox (defBody st) t/\t {nx:=fun _ H'=>Q .non H',rt:=Q} (start N vs) H):Callee P w K mg base x (k+1) ps sp:=by
 obtain⟨f,fd,a,F⟩:=T;exact⟨f,fd,F.ok S len (hbody f),F.binds bd,F.kp,xdf X G a⟩
section
variable {X:Cx}
def CDivP (i j:Int):Prop:=0 < j/\j < 2 ^ 1000
theorem zlz:OpR X (binaryOp .FloorDiv) (rI CDivP fun i j=>.int (i / j)):=opI fun i j _ _ _ _ _ hc q=>by
 have e:i.fdiv j=i / j:=xkz i (by have:=hc.1;lia);refine floordiv_int (by have:=hc.1;lia) (by rw[e];exact q) (.inl (PyProof.noPylong_of_log2 ?_));have h1:j.natAbs < 2 ^ 1000:=by
  have h2:=hc.1;have h3:=hc.2;have h4:(j.natAbs:Int)=j:=by lia
  have h5:(j.natAbs:Int) < ((2 ^ 1000:Nat):Int):=by
   rw[h4];exact_mod_cast h3
  exact_mod_cast h5
 have h0:j.natAbs≠0:=by have:=hc.1;lia
 have:=(Nat.log2_lt h0).mpr h1;lia
end
section
variable {X:Cx}{st:Stmt}{t:TS}
end
def compLook (XN:List Str) (xs:List (Str×NameKind)) (N:List Str) (k:Nat) (is:List Nat) (scope:Scope):Bool :=
 (scope.kind==.function)&&scope.names.all (fun y=>y.2 != .cell)&&scope.names.all (fun y=>y.2 != .local||scope.names.lookup y.1==some .local) &&
 scope.names.all (fun y=>y.2 != .free||(xs.lookup y.1==some .cell||xs.lookup y.1==some .free))&&(N.length==k+is.length) &&
 (List.range is.length).all (fun j=>match is[j]?,N[k+j]? with
  | some i,some x=>XN[i]?==some x&&scope.names.lookup x==some .free
  | _,_=>false)
theorem zcj {X:Cx}{N:List Str}{k:Nat}{is:List Nat}{scope:Scope}(h:compLook X.N X.env.scope.names N k is scope=true):CompScope X N k is scope:=by
 unfold compLook at h;simp only[xek,xcg] at h;obtain⟨⟨⟨⟨⟨h1,h2⟩,h3⟩,h4⟩,h5⟩,h6⟩:=h;refine⟨eq_of_beq h1,fun y hy e=>?_,fun y hy e=>?_,fun y hy e=>?_,eq_of_beq h5,fun j i e=>?_⟩
 ·have:=h2 y hy;rw[e] at this;simp at this
 ·have:=h3 y hy;rw[e] at this;simp at this;exact this
 ·have:=h4 y hy;rw[e] at this;simp at this;exact this
 ·have hj:j < is.length:=(xbo.mp e).1;have:=h6 j (xck.mpr hj);rw[e] at this;cases e2:N[k+j]? with
  | none=>rw[e2] at this;cases this
  | some x =>
   rw[e2] at this;simp only[xek,xfj] at this;exact⟨x,rfl,this.1,this.2⟩
theorem zgr:bootBuiltins "len"=some (.builtin "len"):=by decide +kernel
theorem zbkq:bootBuiltins "abs"=some (.builtin "abs"):=by decide +kernel
theorem zvb:bootBuiltins "min"=some (.builtin "min"):=by decide +kernel
theorem zbfl:bootBuiltins "sum"=some (.builtin "sum"):=by decide +kernel
theorem zoh:bootBuiltins "sorted"=some (.builtin "sorted"):=by decide +kernel
theorem zbko:bootBuiltins "any"=some (.builtin "any"):=by decide +kernel
theorem zbkp:bootBuiltins "all"=some (.builtin "all"):=by decide +kernel
theorem zle:bootBuiltins "isinstance"=some (.builtin "isinstance"):=by decide +kernel
theorem zbfm:bootBuiltins "int"=some (.type "int"):=by decide +kernel
theorem zdw:bootBuiltins "tuple"=some (.type "tuple"):=by decide +kernel
theorem zrv:bootBuiltins "list"=some (.type "list"):=by decide +kernel
theorem zwr {H:Hp}{p:Addr}{o:HO}(h:H p=some o):upd H p o=H:=by
 funext b
 unfold upd;split
 ·subst b;exact h.symm
 ·rfl
section
variable {X:Cx}{K:Fg}
end
end L2
namespace Srt
open PySem PySem.W PyProof.Rows
section
variable (r:Nat->Nat)
def lt (i j:Nat):Bool:=decide (r i < r j)
def At (p:Array Nat) (i:Nat):Nat:=r (p.getD i 0)
def Up (p:Array Nat) (n:Nat):Prop:=∀i j,i<=j->j < n->At r p i<=At r p j
end
section
variable {r:Nat->Nat}{p:Array Nat}{n:Nat}
end
section
variable {n:Nat}
end
section
variable {P:Program}{w:World}{B:Around}{E:Value->Shared->Prop}{st:Shared}
def midHeap (h:Heap) (d:Addr) (xs:List Value):Heap:=((h.update d (Obj.mapSeq fun _=>(#[]:Array Value))).push (seqObj "tuple" xs.toArray 0)).push (seqObj "list" #[] 0)
theorem zjb {h:Heap}{d b:Addr}{xs:List Value}{ob:Obj}(ne:b≠d)(e:h.get? b=some ob):(midHeap h d xs).get? b=some ob :=
 xbb _ (xbb _ ((Heap.get?_update_ne _ _ _ _ ne).trans e))
def Answers (P:Program) (w:World) (B:Around) (r:Nat->Nat) (xs:List Value) (sg:Shared):Prop :=
 ∃κ,(∀R:SortKind->Shared->Prop,R κ sg->wpAny (model P w) B (keyKind' xs.toArray) R (fun _ _=>False) sg) /\
  ∀i j C,i < xs.length->j < xs.length->C (lt r i j) sg->kas_ask P w B κ xs i j C sg
def outOf (xs:List Value) (p:Array Nat):Array Value:=List.toArray (p.toList.map fun i=>xs.getD i Value.none)
theorem zsw {xs:List Value}(h:xs.length < 2):(xs.toArray.zip xs.toArray).map (·.2)=outOf xs (List.toArray (List.range xs.length)):=by
 unfold outOf
 match xs,h with
 | [],_=>simp
 | [_],_=>simp[xiz]
 | _::_::_,h=>exact absurd h (by simp)
end
end Srt
namespace Srt
open PySem PySem.W PyProof.Rows HT
theorem zhw:∀a:List Int,lexLt a a=false
 | []=>rfl
 | x::a=>by rw[zdm,if_pos rfl];exact zhw a
theorem zhf:∀{a b c:List Int},lexLt a b=true->lexLt b c=true->lexLt a c=true
 | _,[],[],_,h=>by rw[zej] at h;cases h
 | _,_::_,[],_,h=>by rw[zdt] at h;cases h
 | [],[],_::_,h,_=>by rw[zej] at h;cases h
 | _::_,[],_::_,h,_=>by rw[zdt] at h;cases h
 | [],_::_,_::_,_,_=>zcp _ _
 | x::a,y::b,z::c,h1,h2=>by
  rw[zdm] at h1 h2 ⊢;by_cases e1:x=y
  ·rw[if_pos e1] at h1;subst e1;by_cases e2:x=z
   ·rw[if_pos e2] at h2 ⊢;exact zhf h1 h2
   ·rw[if_neg e2] at h2 ⊢;exact h2
  ·rw[if_neg e1] at h1;have h1':=xgh h1;by_cases e2:y=z
   ·subst e2;rw[if_neg e1];exact h1
   ·rw[if_neg e2] at h2;have h2':=xgh h2;rw[if_neg (by lia)];exact xcv (by lia)
theorem znp:∀a b:List Int,lexLt a b=true\/a=b\/lexLt b a=true
 | [],[]=>.inr (.inl rfl)
 | [],_::_=>.inl (zcp _ _)
 | _::_,[]=>.inr (.inr (zcp _ _))
 | x::a,y::b=>by
  rw[zdm,zdm];by_cases e:x=y
  ·subst e;rw[if_pos rfl,if_pos rfl];rcases znp a b with h | h | h
   ·exact .inl h
   ·exact .inr (.inl (by rw[h]))
   ·exact .inr (.inr h)
  ·rw[if_neg e,if_neg (fun z=>e z.symm)];rcases Int.lt_or_gt_of_ne e with h | h
   ·exact .inl (xcv h)
   ·exact .inr (.inr (xcv h))
theorem zty {a b:List Int}(h:lexLt a b=true):lexLt b a=false:=by
 cases e:lexLt b a with
 | false=>rfl
 | true=>have:=zhf h e;rw[zhw] at this;cases this
theorem zrq {p q:Nat->Bool}(hpq:∀x,p x=true->q x=true):∀{l:List Nat} {y:Nat},y∈l->q y=true->p y=false->l.countP p < l.countP q
 | [],_,h,_,_=>nomatch h
 | x::l,y,h,h1,h2=>by
  have mono:∀l:List Nat,l.countP p<=l.countP q:=fun l=>List.countP_mono_left fun x _=>hpq x
  rcases xbu.mp h with rfl | h
  ·rw[xho h1,xjo (by rw[h2];decide)];exact Nat.lt_succ_of_le (mono l)
  ·have ih:=zrq hpq h h1 h2;by_cases c:p x=true
   ·rw[xho c,xho (hpq x c)];lia
   ·rw[xjo c];by_cases d:q x=true
    ·rw[xho d];lia
    ·rw[xjo d];exact ih
def rank (ks:List (List Int)) (i:Nat):Nat:=(List.range ks.length).countP fun k=>lexLt (ks.getD k []) (ks.getD i [])
theorem zqc {ks:List (List Int)}{i j:Nat}(hi:i < ks.length)(hj:j < ks.length):lt (rank ks) i j=lexLt (ks.getD i []) (ks.getD j []):=by
 have up:∀{a b:Nat},a < ks.length->lexLt (ks.getD a []) (ks.getD b [])=true->rank ks a < rank ks b:=fun {a b} ha h =>
  zrq (fun x hx=>zhf hx h) (xck.mpr ha) h (zhw _)
 cases e:lexLt (ks.getD i []) (ks.getD j []) with
 | true=>exact xcv (up hi e)
 | false =>
  refine xbt fun h=>?_
  rcases znp (ks.getD i []) (ks.getD j []) with z | z | z
  ·rw[e] at z;cases z
  ·unfold rank at h;rw[z] at h;exact absurd h (xfg _)
  ·have:=up hj z;lia
section
variable {prog:Program}{w:World}{A:Around}{s:Shared}{b:Bool}{Q:Bool->Shared->Prop}
theorem zqy:∀{us ws:List Value} {ns ms:List Int} (i:Nat),IntsAre us ns->IntsAre ws ms->Q (lexLt ns ms) s->KatLex prog w A b (decide (us.length < ws.length)) Q (us.zip ws) i s
 | _,_,_,_,_,.nil,.nil,h=>h
 | _,_,_,_,_,.nil,.cons _ _ _,h=>h
 | _,_,_,_,_,.cons _ _ _,.nil,h=>h
 | _,_,_,_,i,.cons x t (vs:=us) (ns:=ns) r1,.cons y u (vs:=ws) (ns:=ms) r2,h=>by
  rw[zdm] at h;refine kat_cons (wpAny_eqBool_int (kat_go (fun e=>kat_yes ?_) fun e=>kat_no ?_))
  ·rw[if_pos (eq_of_beq e)] at h;have q:=zqy (i+1) r1 r2 h;have ee:decide ((Value.int x t::us).length < (Value.int y u::ws).length)=decide (us.length < ws.length):=by
    rw[xbx,xbx,xgb];simp
   rw[ee];exact q
  ·rw[if_neg (xhm.mp e)] at h;cases hb:(b&&i==0) with
   | true=>exact oneLt_int h
   | false=>exact kat_one _ _ (PyProof.Rows.lt_int h)
end
end Srt
namespace L2
open PySem PySem.Spec PyProof.Rows PySem.W
theorem zmv:∀{as:List Addr} {us:List Value},Vals (as.map V.ref) us->us=as.map Value.ref
 | [],_,.nil=>rfl
 | a::as,_,.cons r t=>by
  rw[show _=Value.ref a from r,zmv t]
  rfl
def TupsAt (K:Fg) (H:Hp) (ps:List (Addr×List Int)):Prop:=∀p∈ps,SqT K H p.1 (p.2.map V.int)
theorem zq {α β:Type}(f:α->β)(d:β){l:List α}{i:Nat}{x:α}(h:l[i]?=some x):(l.map f).getD i d=f x:=by
 rw[xbq,xcc,h]
 rfl
section
variable {X:Cx}
end
end L2
namespace L2
open PySem PySem.Spec PyProof.Rows
mutual
inductive DAt (K:Fg) (H:Hp):V->PyData->Prop
 | non:DAt K H .non .none
 | bl (b:Bool):DAt K H (.bl b) (.bool b)
 | int (i:Int):DAt K H (.int i) (.int i)
 | str (x:Str):DAt K H (.str x) (.str x)
 | lst {a:Addr} {xs:List V} {ds:List PyData}:SqL K H a xs->DAll K H xs ds->DAt K H (.ref a) (.list ds)
 | tup {a:Addr} {xs:List V} {ds:List PyData}:SqT K H a xs->DAll K H xs ds->DAt K H (.ref a) (.tuple ds)
inductive DAll (K:Fg) (H:Hp):List V->List PyData->Prop
 | nil:DAll K H [] []
 | cons {x:V} {xs:List V} {d:PyData} {ds:List PyData}:DAt K H x d->DAll K H xs ds->DAll K H (x::xs) (d::ds)
end
section
variable {X:Cx}{aY:List (Addr×Obj)}{σ:St}{H:Hp}{s:Shared}
mutual
theorem zhv (I:Inv X aY σ H s):∀{v:V} {d:PyData} {u:Value},DAt X.K H v d->RelV v u->∃as,Reads s.heap u d as
 | _,_,_,.non,r=>by cases r;exact⟨_,.none⟩
 | _,_,_,.bl b,r=>by cases r;exact⟨_,.bool b⟩
 | _,_,_,.int i,r=>by obtain⟨t,rfl⟩:=r;exact⟨_,.int i t⟩
 | _,_,_,.str x,r=>by obtain⟨t,rfl⟩:=r;exact⟨_,.str x t⟩
 | _,_,_,.lst h all,r=>by
  cases r;obtain⟨its,rv,⟨o,n,e,c,_,dd⟩,_⟩:=I.list h;obtain⟨as,q⟩:=zgm I all rv;exact⟨_,.list e c dd q⟩
 | _,_,_,.tup h all,r=>by
  cases r;obtain⟨its,rv,⟨o,e,c,n,dd⟩,_⟩:=I.tuple h;obtain⟨as,q⟩:=zgm I all rv;exact⟨_,.tuple e c dd q⟩
theorem zgm (I:Inv X aY σ H s):∀{vs:List V} {ds:List PyData} {us:List Value},DAll X.K H vs ds->Vals vs us->∃as,ReadsAll s.heap us ds as
 | _,_,_,.nil,.nil=>⟨_,.nil⟩
 | _,_,_,.cons h t,.cons r rs=>by
  obtain⟨as,q⟩:=zhv I h r;obtain⟨bs,q'⟩:=zgm I t rs;exact⟨_,.cons q q'⟩
end
end
def rEqX (K:Fg) (neg:Bool):R2:=fun x y H Q=>∃dx dy,DAt K H x dx/\DAt K H y dy/\PySem.SeqAt.shaped dx=true/\PySem.SeqAt.shaped dy=true/\Q (.bl (if neg then !PyData.eqv dx dy else PyData.eqv dx dy)) H
section
variable {X:Cx}
theorem zin (hu:X.A.units+64 < cLine):OpR X (compareOp .Eq) (rEqX X.K false):=by
 intro aY s σ H x y v u Q I r1 r2 h;obtain⟨dx,dy,a1,a2,a3,a4,q⟩:=h;obtain⟨as,ra⟩:=zhv I a1 r1;obtain⟨bs,rb⟩:=zhv I a2 r2;exact eq_dataH ra rb a3 a4 hu ⟨.bl (PyData.eqv dx dy),H,I,rfl,q⟩
theorem ztj (hu:X.A.units+64 < cLine):OpR X (compareOp .NotEq) (rEqX X.K true):=by
 intro aY s σ H x y v u Q I r1 r2 h;obtain⟨dx,dy,a1,a2,a3,a4,q⟩:=h;obtain⟨as,ra⟩:=zhv I a1 r1;obtain⟨bs,rb⟩:=zhv I a2 r2;exact ne_dataH ra rb a3 a4 hu ⟨.bl (!PyData.eqv dx dy),H,I,rfl,q⟩
end
def dI (ns:List Int):List PyData:=ns.map PyData.int
def dRow (ns:List Int):PyData:=.tuple (dI ns)
theorem zbey:∀a b:List Int,PyData.eqvAll (dI a) (dI b)=decide (a=b)
 | [],[]=>by rfl
 | [],_::_=>by rfl
 | _::_,[]=>by rfl
 | x::a,y::b=>by
  show(x==y&&PyData.eqvAll (dI a) (dI b))=_;rw[zbey a b,xgb];simp
theorem zzk (a b:List Int):PyData.eqv (dRow a) (dRow b)=decide (a=b):=zbey a b
theorem zoe:∀a b:List (List Int),PyData.eqvAll (a.map dRow) (b.map dRow)=decide (a=b)
 | [],[]=>by rfl
 | [],_::_=>by rfl
 | _::_,[]=>by rfl
 | x::a,y::b=>by
  show(PyData.eqv (dRow x) (dRow y)&&PyData.eqvAll (a.map dRow) (b.map dRow))=_;rw[zoe a b,zzk,xgb];simp
theorem zbex:∀a:List Int,PyData.canLayAll0 (dI a)=true/\PyData.depthAll (dI a)=0
 | []=>⟨rfl,rfl⟩
 | x::a=>by
  obtain⟨h1,h2⟩:=zbex a;refine⟨?_,?_⟩
  ·show(true&&PyData.canLayAll0 (dI a))=true;rw[h1];rfl
  ·show max 0 (PyData.depthAll (dI a))=0;rw[h2];rfl
theorem zod:∀a:List (List Int),PyData.canLayAll0 (a.map dRow)=true/\PyData.depthAll (a.map dRow)<=1
 | []=>⟨rfl,xed _⟩
 | x::a=>by
  obtain⟨h1,h2⟩:=zod a;obtain⟨h3,h4⟩:=zbex x;refine⟨?_,?_⟩
  ·show(PyData.canLayAll0 (dI x)&&PyData.canLayAll0 (a.map dRow))=true;rw[h1,h3];rfl
  ·show max (PyData.depthAll (dI x)+1) (PyData.depthAll (a.map dRow))<=1;rw[h4];lia
theorem zie (a:List (List Int)):PySem.SeqAt.shaped (.tuple (a.map dRow))=true:=by
 obtain⟨h1,h2⟩:=zod a;show(PyData.canLayAll0 (a.map dRow)&&decide (PyData.depthAll (a.map dRow)+1<=64))=true;rw[h1,xcv (by lia)];rfl
section
variable {X:Cx}
theorem zhl:∀{bs:List Bool} {us:List Value},Vals (bs.map V.bl) us->us=bs.map Value.bool
 | [],_,.nil=>rfl
 | b::bs,_,.cons r t=>by
  rw[show _=Value.bool b from r,zhl t]
  rfl
theorem zta (bs:List Bool):((List.range bs.length).any fun i=>bs.getD i false)=bs.any id:=by
 rw[xgb];simp only[xln,xck];constructor
 ·rintro⟨i,hi,h⟩;rw[xbq,xbg hi] at h;exact⟨bs[i],xdy hi,h⟩
 ·rintro⟨b,hb,h⟩;obtain⟨i,hi,rfl⟩:=xea hb;exact⟨i,hi,by rw[xbq,xbg hi];exact h⟩
theorem ztb (bs:List Bool):((List.range bs.length).all fun i=>bs.getD i false)=bs.all id:=by
 rw[xgb];simp only[xcg,xck];constructor
 ·intro h b hb;obtain⟨i,hi,rfl⟩:=xea hb;have:=h i hi;rw[xbq,xbg hi] at this;exact this
 ·intro h i hi;rw[xbq,xbg hi];exact h _ (xdy hi)
def rAny (K:Fg) (al:Bool):List V->Hp->VK->Prop:=fun xs H Q=>∃(l:Addr) (bs:List Bool),xs=[.ref l]/\SqL K H l (bs.map V.bl)/\Q (.bl (if al then bs.all id else bs.any id)) H
theorem zgh {prog:Program}{w:World}{A:Around}(bs:List Bool):TruthOf prog w A (fun i v=>(bs.map Value.bool).toArray[i]?=some v) (fun i=>bs.getD i false):=fun i v s Q E hP hQ=>by
 have hP':(bs.map Value.bool)[i]?=some v:=by simpa using hP
 rw[xcc] at hP';cases e:bs[i]? with
 | none=>rw[e] at hP';cases hP'
 | some b =>
  rw[e] at hP';cases hP';dsimp only at hQ;rw[xbq,e] at hQ;exact xex hQ
theorem zzv (hc:X.calm=true){aY:List (Addr×Obj)}{σ:St}{H:Hp}{s:Shared}{l:Addr}{bs:List Bool}{R:Bool->Prop}(I:Inv X aY σ H s)(hl:SqL X.K H l (bs.map V.bl)){Q:Value->Shared->Prop}{F:(Nat->Bool)->Nat->Bool}
  (hQ:∀s',Inv X aY σ H s'->Q (.bool (F (fun i=>bs.getD i false) bs.length)) s') :
  wpAny (model X.prog X.w) X.A.in1 (pyIter (.ref l)) (fun it s₂=>∃I fp wr n P St tr,it=.ref I/\Walks X.prog X.w X.A.in1 I fp wr n P St/\St 0 s₂.heap/\TruthOf X.prog X.w X.A.in1 P tr /\
   ∀h' tk,(∀b o,b∉wr->s₂.heap.get? b=some o->h'.get? b=some o)->Q (.bool (F tr n)) {s₂ with heap:=h',toks:=tk}) X.xe s:=by
 obtain⟨its,rv,pl,hz⟩:=I.list hl;have e:=zhl rv;subst e;have hlt:l < s.heap.objs.size:=by obtain⟨o,n,e,_⟩:=pl;exact xbi e
 refine xid pl.isList ?_;refine⟨s.heap.objs.size,_,[s.heap.objs.size],_,_,_,_,rfl,Walks.list (A:=X.A.in1) (I.ok.hd hc) _ l (xbv hlt) (bs.map Value.bool).toArray,⟨⟨_,xbk _ rfl,rfl,rfl⟩,pl.isList.push _⟩,zgh bs,fun h' tk hk=>?_⟩;have e2:(bs.map Value.bool).toArray.size=bs.length:=by simp
 rw[e2];refine hQ _ ?_;refine I.kept (t':=tk) fun b o e=>hk b o ?_ (xbb _ e)
 intro z;have z':b=s.heap.objs.size:=by simpa using z
 have z2:=xbi e;rw[z'] at z2;exact absurd z2 (xfg _)
theorem zzs (hc:X.calm=true):CallR X (.builtin "all") (rAny X.K true):=by
 intro aY s σ H xs us Q I r h;obtain⟨l,bs,rfl,hl,q⟩:=h;obtain⟨u,rfl,ru⟩:=vals1 r;cases ru;refine call_all_walk (zzv (R:=fun _=>True) hc I hl (F:=fun tr n=>(List.range n).all tr) fun s' I'=>⟨.bl ((List.range bs.length).all fun i=>bs.getD i false),H,I',rfl,?_⟩);rw[ztb];exact q
end
end L2
namespace Dct
open PySem PySem.W PyProof.Rows
def Raw (h:Heap) (d:Addr) (es:Array DictEntry) (ep:Nat):Prop:=∃ob,h.get? d=some ob/\ob.ExactDict/\ob.data=.dict es ep
theorem Raw.kept {h h':Heap}{d:Addr}{es:Array DictEntry}{ep:Nat}(x:Raw h d es ep)(k:∀ob,h.get? d=some ob->h'.get? d=some ob):Raw h' d es ep :=
 let ⟨ob,e,r⟩:=x;⟨ob,k ob e,r⟩
theorem Raw.lt {h:Heap}{d:Addr}{es:Array DictEntry}{ep:Nat}(x:Raw h d es ep):d < h.objs.size:=let ⟨_,e,_⟩:=x;xbi e
theorem Raw.is {st:Shared}{d:Addr}{es:Array DictEntry}{ep:Nat}(x:Raw st.heap d es ep):st.TypeIs (.ref d) "dict":=let ⟨ob, e, c, _⟩:=x; ⟨ob, e, c.1⟩
section
variable {P:Program}{w:World}{B:Around}{E:Value->Shared->Prop}{st:Shared}{d it:Addr}{es:Array DictEntry}{ep k:Nat}
def iterObj (d:Addr) (n ep:Nat):Obj:={ cls:=.type "dict_keyiterator", data:=.fields #[.ref d, .int 0 0, .int n 0, .int ep 0] }
theorem zqb {W:Value->Shared->Prop}(ns:(d==sysModules)=false)(x:Raw st.heap d es ep)(fin:W (.ref st.heap.objs.size) {st with heap:=st.heap.push (iterObj d es.size ep)}):wpAny (model P w) B (pyIter (.ref d)) W E st:=by
 obtain⟨ob,e,c,dt⟩:=id x;have ty:=x.is;refine wpAny_pyIter_slot ty F.slot_dict_iter (xem F.slot_dict_iter ty F.entry_dict_iter ?body (F.args_dict_iter_1 _))
 case body =>
  unfold Builtin.«dict.__iter__» Builtin.Dict.dictSlotNone Builtin.Dict.showsAll;refine xba (xba (wpAny_notOrdered_dict ty (xbe ?_)));show wpAny _ _ ((if(d==sysModules)=true then _ else _) >>= _) _ _ st;rw[if_neg (fun z=>xft (ns.symm.trans z))];refine xba (xbe (xba (xie e dt (xba (wpAny_dictEpoch e dt (xba (xdb (xbe ⟨_, rfl, "dict_keyiterator", _,⟨_, xbk _ rfl, rfl⟩, xfh.lookup, ?_⟩))))))))
  exact fin
theorem zqa {W:Option Value->Shared->Prop}{en:DictEntry}(hi:st.heap.IsKeyIter it d k es.size ep)(x:Raw st.heap d es ep)(hk:es[k]?=some en)
  (fin:∀g:Heap,g.IsKeyIter it d (k+1) es.size ep->Heap.SameBut it st.heap g->W (some en.key) {st with heap:=g}):wpAny (model P w) B (pyNext (.ref it)) W E st:=by
 obtain⟨oi,ei,ci,di⟩:=id hi;obtain⟨ob,e,c,dt⟩:=id x;have lt:k < es.size:=(xfp.mp hk).1;unfold pyNext;refine xba (xhq (wpAny_callSpecial?_slot (name:=Str.ofString "__next__") hi.typeIs xfh (xem xfh hi.typeIs F.entry_dict_keyiterator_next ?body (F.args_dict_keyiterator_next_1 _))))
 case body =>
  refine xba (xbe (xba (xba (xba (xgi hi.typeIs (xbe (xba (wpAny_fieldsOf ei di ?_))))))));simp only[show Builtin.Dict_items.ownsTuple "dict_keyiterator"=false from by decide, xdc, ite_false]
  show wpAny _ _ (if(Value.ref d==Value.none)=true then _ else _) _ _ st;have nn:¬ (Value.ref d==Value.none)=true:=xft;rw[if_neg nn];refine xba (xbe (xba (xie e dt ?_)));rw[if_neg (by simp)];refine xba (xbe (xba (wpAny_dictEpoch e dt ?_)));rw[if_neg (by simp)];refine xbe ?_;simp only[show ¬ ((k:Int) < 0) from by lia,ite_false,xec,hk];refine xba (xba (xgi hi.typeIs (xbe (xba (wpAny_isOneOf_keyiter hi.typeIs ?_)))));show wpAny _ _ (setField (.ref it) 1 (rawInt ((k:Int)+1)) >>= _) _ _ st;refine xba (xgn ei di (by simp) ?_);have hi':(st.heap.update it (Obj.mapFields (·.setIfInBounds 1 (rawInt ((k:Int)+1))))).IsKeyIter it d (k+1) es.size ep :=
   ⟨_,xep _ ei (xke (xfu di _)),(Obj.cls_mapFields ..).trans ci,by rw[xfu di];simp[rawInt]⟩
  refine xba (xdm (xba (wpAny_isOneOf_keyiter (s:={st with heap:=st.heap.update it (Obj.mapFields (·.setIfInBounds 1 (rawInt ((k:Int)+1))))}) hi'.typeIs ?_)));show wpAny _ _ (pure en.key) _ _ _;exact xbe (xbe ⟨_,rfl,xbe (fin _ hi' (xhk ..))⟩)
theorem zvm {W:Option Value->Shared->Prop}(hh:B.handled=none)(hi:st.heap.IsKeyIter it d k es.size ep)(x:Raw st.heap d es ep)(hk:es.size<=k)
  (fin:∀g:Heap,Heap.ExtBut it st.heap g->W none {st with heap:=g}):wpAny (model P w) B (pyNext (.ref it)) W E st:=by
 obtain⟨oi,ei,ci,di⟩:=id hi;obtain⟨ob,e,c,dt⟩:=id x;unfold pyNext;refine xba (xhq (wpAny_callSpecial?_slot (name:=Str.ofString "__next__") hi.typeIs xfh (xem xfh hi.typeIs F.entry_dict_keyiterator_next ?body (F.args_dict_keyiterator_next_1 _))))
 case body =>
  refine xba (xbe (xba (xba (xba (xgi hi.typeIs (xbe (xba (wpAny_fieldsOf ei di ?_))))))));simp only[show Builtin.Dict_items.ownsTuple "dict_keyiterator"=false from by decide, xdc, ite_false]
  show wpAny _ _ (if(Value.ref d==Value.none)=true then _ else _) _ _ st;have nn:¬ (Value.ref d==Value.none)=true:=xft;rw[if_neg nn];refine xba (xbe (xba (xie e dt ?_)));rw[if_neg (by simp)];refine xba (xbe (xba (wpAny_dictEpoch e dt ?_)));rw[if_neg (by simp)];refine xbe ?_;simp only[show ¬ ((k:Int) < 0) from by lia,ite_false,xec,xjw hk];refine xba (xba (xgi hi.typeIs (xbe ?_)));show wpAny _ _ (setField (.ref it) 0 .none >>= _) _ _ st;refine xba (xgn ei di (by simp) ?_);show wpAny _ _ (newExc (.type "StopIteration") [] >>= _) _ _ _
  refine xba ?_;simp only[newExc,newTuple];refine xba (xdb (xba (m:=firstArgMember _ _) (wpAny_of_eq (a:=Value.none) (by first | rfl | (simp only[firstArgMember];rfl)) (xdb ?_ (by size_fits)))) (by size_fits));simp only[raiseNew];refine xba (wpAny_handled ?_);rw[show B.in1.handled=none from hh];refine xba (xbe (wpAny_throw ?_));refine xba (wpAny_isInstance (T:="StopIteration") (b:=true) ?_ isSubtype_stop (xbe (fin _ (((xhk ..).extBut.push _).push _))))
  exact⟨_,xbk _ rfl,rfl⟩
theorem zsz (hh:B.handled=none)(ne:d≠it)(es:Array DictEntry)(ep:Nat) :
  Walks P w B it [it,d] [it] es.size (fun i v=>∃en,es[i]?=some en/\v=en.key) (fun i h=>h.IsKeyIter it d i es.size ep/\Raw h d es ep) where
 sub:=fun b hb=>xbu.mpr (.inl (xbl.mp hb))
 frame:=fun _ _ _ z hk=>⟨z.1.at fun o e=>hk it xcm o e,z.2.kept fun o e=>hk d (xcq _ (xbl.mpr rfl)) o e⟩
 item:=fun i sh W' E' hi z hQ=>by
  have hx:es[i]?=some es[i]:=xja hi;exact zqa z.1 z.2 hx fun g a b=>hQ es[i].key g sh.toks ⟨_,hx,rfl⟩ ⟨a,z.2.kept fun o e=>b.extBut d o ne e⟩ fun c o hc e=>b.extBut c o (fun q=>hc (xbl.mpr q)) e
 done:=fun sh W' E' z hQ=>zvm hh z.1 z.2 (xbf _) fun g b=>hQ g sh.toks fun c o hc e=>b c o (fun q=>hc (xbl.mpr q)) e
 self:=fun _ _ _ _ z hQ=>wpAny_pyIter_keyiter z.1 hQ
theorem zbbb (ns:(d==sysModules)=false)(es:Array DictEntry)(ep:Nat):KdlSrc P w "dict" d d es.size (fun i v=>∃ en, es[i]?=some en/\v=en.key) (fun h=>Raw h d es ep) where
 type:=fun _ x=>x.is
 there:=fun _ x=>⟨x.lt,x.lt⟩
 keep:=fun _ _ x hk=>x.kept fun o e=>hk d (.inl rfl) o e
 notList:=by decide
 notTuple:=by decide
 hint:=fun _ _ _ _ x hq=>kdl_hint_dict x.is hq
 iter:=fun _ sh hh x=>⟨_,_,fun _ _ hq=>zqb ns x hq,zsz hh (xbv x.lt) es ep,⟨⟨_,xbk _ rfl,rfl,rfl⟩,x.kept fun o e=>xbb _ e⟩⟩
end
end Dct
namespace Srt
open PySem PySem.W PyProof.Rows
section
variable {P:Program}{w:World}{B:Around}{E:Value->Shared->Prop}{st:Shared}
end
end Srt
namespace L2
open PySem PySem.Spec PyProof.Rows
theorem ObjOk.ob {P:Program}{w:World}{H:Hp}{h:Heap}{a:Addr}{o:HO}(x:ObjOk P w H h a o):∃ob,h.get? a=some ob:=by
 cases o with
 | lst xs=>obtain⟨_,_,_,_,e⟩:=x;exact⟨_,e⟩
 | tup xs=>obtain⟨_,_,_,ob,e,_⟩:=x;exact⟨_,e⟩
 | dK kvs=>obtain⟨_,_,_,_,ob,_,_,e,_⟩:=x;exact⟨_,e⟩
 | dT kvs=>obtain⟨_,_,_,_,ob,_,_,e,_⟩:=x;exact⟨_,e⟩
 | set S n=>obtain⟨ob,_,_,_,e,_⟩:=x;exact⟨_,e⟩
 | ins C dx fs=>obtain⟨_,_,_,e,_⟩:=x;exact⟨_,e⟩
 | own y=>obtain⟨_,e⟩:=x;exact⟨_,e⟩
 | xd fs=>obtain⟨_,⟨_,_,_,e,_⟩,_⟩:=x;exact⟨_,e⟩
 | rng lo hi=>obtain⟨_,_,_,e⟩:=x;exact⟨_,e⟩
 | frz ob u=>obtain⟨e,_⟩:=x;exact⟨_,e⟩
 | tbl ps=>exact⟨_,(show h.get? a=some _ from x)⟩
 | met f y=>exact⟨_,(show h.get? a=some _ from x)⟩
 | ext φ=>obtain⟨_,⟨_,e⟩,_⟩:=x;exact⟨_,e⟩
section
variable {X:Cx}{aY:List (Addr×Obj)}{σ:St}{H:Hp}{s:Shared}
theorem Inv.away (I:Inv X aY σ H s){q:Addr}(ne:∀b ob,s.heap.get? b=some ob->b≠q):H q=none:=by
 cases e:H q with
 | none=>rfl
 | some o =>
  obtain⟨ob,z⟩:=(I.hok q o e).ob;exact absurd rfl (ne q ob z)
theorem Inv.laidN {q:Addr}{o:HO}{g:Heap}{t':Nat}(I:Inv X aY σ H s)(k:∀b u,s.heap.get? b=some u->g.get? b=some u)(ne:∀b ob,s.heap.get? b=some ob->b≠q)(new:ObjOk X.prog X.w (upd H q o) g q o) :
  Inv X aY σ (upd H q o) {s with heap:=g,toks:=t'}:=by
 have hn:=I.away ne;have off:∀{b:Addr} {u:HO},H b=some u->upd H q o b=some u:=fun {b u} e=>by rw[zn (zj e hn)];exact e
 refine I.un ⟨fun b u e _ _ _=>k b u e,fun b u e _ _ _=>⟨u.slots,k b u e⟩,fun b u e n _=>by rw[zn (ne b u e)];exact n,fun b u e _=>⟨u,k b u e⟩,fun b xs e=>off e,fun b ob u e=>off e,fun b ps e=>⟨#[],by rw[off e];simp⟩⟩ fun b u e=>?_
 by_cases hb:b=q
 ·subst hb;rw[zm] at e;cases e;exact new
 ·rw[zn hb] at e;exact(I.hok b u e).stay (fun c v _ z=>k c v z) (fun c z=>off z) fun c xs z=>off z
end
theorem zvs (ns:List Int):(ns.map (Sum.inl:Int->Key)).map kV=ns.map V.int:=by rw[xcw];rfl
theorem zla {P:Program}{w:World}{H:Hp}{kvs:List (List Key×V)}:∀{ks:List (List Int)} {xs:List (List Key×Addr×Value)},
  Paired (fun(p:List Key×V) (q:List Key×Addr×Value)=>p.1=q.1/\H q.2.1=some (.tup (p.1.map kV))/\RelV p.2 q.2.2) kvs xs->kvs.map (·.1)=ks.map (fun ns=>ns.map Sum.inl) ->
   ∃ps:List (Addr×List Int),ps.map (·.2)=ks/\(∀p∈ps,H p.1=some (.tup (p.2.map V.int)))/\xs.map (fun q=>(entryOfKey (tupleKind (mixKind P w)) q).key)=ps.map fun p=>Value.ref p.1:=by
 induction kvs with
 | nil =>
  intro ks xs r e;cases r;cases ks with
  | nil=>exact⟨[],rfl,fun p hp=>(nomatch hp),rfl⟩
  | cons x ks=>cases e
 | cons kv kvs ih =>
  intro ks xs r e;cases r with
  | cons r rs =>
   cases ks with
   | nil=>cases e
   | cons ns ks =>
    rw[xbp,xbp] at e;injection e with e1 e2
    obtain⟨ps,a1,a2,a3⟩:=ih rs e2;rename_i b _;obtain⟨r1,r2,r3⟩:=r;refine⟨(b.2.1,ns)::ps,by rw[xbp,a1],fun p hp=>?_,by rw[xbp,xbp,a3];rfl⟩;rcases xbu.mp hp with z | z
    ·subst z;rw[e1,zvs] at r2;exact r2
    ·exact a2 p z
open PySem.W in
theorem zzw {P:Program}{w:World}{B:Around}{sg:Shared}{ps:List (Addr×List Int)}(h2:2<=ps.length)
  (tup:∀(i:Nat) (p:Addr×List Int), ps[i]?=some p->∃(us:List Value) (o:Obj) (n:Nat), IntsAre us p.2/\sg.heap.get? p.1=some o/\o.cls=.type "tuple"/\o.data=.seq us.toArray n/\p.2≠[]) :
  Srt.Answers P w B (Srt.rank (ps.map (·.2))) (ps.map fun p=>Value.ref p.1) sg:=by
 refine⟨tuples' true,fun R hq=>?_,fun i j C hi hj hC=>?_⟩
 ·have kt:∀(l:List (Addr×List Int)),(∀p∈l,∃i:Nat,ps[i]?=some p)->∃fs:List Value,KatTups sg.heap (l.map fun p=>Value.ref p.1) fs/\fs.length=l.length/\∀v∈fs,∃i t,v=Value.int i t:=fun l=>by
   induction l with
   | nil=>intro _;exact⟨[],KatTups.nil,rfl,fun v hv=>(nomatch hv)⟩
   | cons p l ih =>
    intro hp;obtain⟨fs,b1,b2,b3⟩:=ih fun p' hp'=>hp p' (xcq _ hp')
    obtain⟨i,hi⟩:=hp p xcm;obtain⟨us,o,n,a1,a2,a3,a4,a5⟩:=tup i p hi;obtain⟨pa,pn⟩:=p;dsimp only at a1 a2 a3 a4 a5;cases a1 with
    | nil=>exact absurd rfl a5
    | cons x t r=>exact⟨Value.int x t::fs,KatTups.cons a2 a3 a4 rfl b1,by rw[xbx,xbx,b2],fun v hv=>(xbu.mp hv).elim (fun z=>⟨x,t,z⟩) (b3 v)⟩
  obtain⟨fs,b1,b2,b3⟩:=kt ps fun p hp=>List.mem_iff_getElem?.mp hp
  exact kat_kind (T:=.type "int") b1 (by lia) (fun v hv=>by
   obtain⟨i,t,rfl⟩:=b3 v hv
   exact Looks.of_pure rfl) rfl hq
 ·rw[xbd] at hi hj;have ei:ps[i]?=some ps[i]:=xbg hi;have ej:ps[j]?=some ps[j]:=xbg hj;obtain⟨us,o,n,a1,a2,a3,a4,a5⟩:=tup i _ ei;obtain⟨us2,o2,n2,c1,c2,c3,c4,c5⟩:=tup j _ ej;unfold kas_ask;rw[zq (fun p:Addr×List Int=>Value.ref p.1) _ ei,zq (fun p:Addr×List Int=>Value.ref p.1) _ ej];refine kat_lt a2 a4 c2 c4 (Srt.zqy 0 a1 c1 ?_);rw[Srt.zqc (by rw[xbd];exact hi) (by rw[xbd];exact hj),zq (fun p:Addr×List Int=>p.2) _ ei,zq (fun p:Addr×List Int=>p.2) _ ej] at hC;exact hC
theorem zqk {ps:List (Addr×List Int)}{p:Array Nat}(p1:p.Perm (List.toArray (List.range ps.length)))(p2:Srt.Up (Srt.rank (ps.map (·.2))) p ps.length) :
  ∃qs:List (Addr×List Int),qs.Perm ps/\(qs.map (·.2)).Pairwise (fun x y=>HT.lexLt y x=false)/\Srt.outOf (ps.map fun p=>Value.ref p.1) p=(qs.map fun p=>Value.ref p.1).toArray:=by
 have hps:p.size=ps.length:=by rw[p1.size_eq];simp
 have sm:∀i∈p.toList,i < ps.length:=fun i hi=>by
  have h3:=(p1.mem_iff (a:=i)).mp (by rw[← Array.mem_toList_iff];exact hi);exact xck.mp (List.mem_toArray.mp h3)
 refine⟨p.toList.map fun i=>ps.getD i (0,[]),?_,?_,?_⟩
 ·have e1:p.toList.Perm (List.range ps.length):=by
   have:=xfq.mp p1
   simpa using this
  have e2:=e1.map fun i=>ps.getD i (0,[])
  have e3:((List.range ps.length).map fun i=>ps.getD i (0,[]))=ps:=by
   apply xlo
   ·simp
   ·intro i h1 h2;simp[xbq,h2]
  rw[e3] at e2;exact e2
 ·rw[xcw,xjb];intro i j hi hj hij;rw[xlp,xlp];rw[xbd] at hi hj;have hi':i < p.size:=by simpa using hi
  have hj':j < p.size:=by simpa using hj
  have hu:=p2 i j (xbw hij) (by lia);have g:∀k,(hk:k < p.toList.length)->p.getD k 0=p.toList[k]:=fun k hk=>by
   have hk':k < p.size:=by simpa using hk
   rw[Array.getD_eq_getD_getElem?,xja hk'];simp
  have si:=sm _ (xdy hi);have sj:=sm _ (xdy hj);have lk:=Srt.zqc (ks:=ps.map (·.2)) (i:=p.toList[j]) (j:=p.toList[i]) (by rw[xbd];exact sj) (by rw[xbd];exact si);have hno:Srt.lt (Srt.rank (ps.map (·.2))) p.toList[j] p.toList[i]=false:=by
   refine xbt fun z=>?_
   unfold Srt.At at hu;rw[g i hi,g j hj] at hu;lia
  rw[hno] at lk;have v:∀k,k < ps.length->(ps.map (·.2)).getD k []=(ps.getD k (0,[])).2:=fun k hk=>by
   have ek:ps[k]?=some ps[k]:=xbg hk;rw[zq (fun p:Addr×List Int=>p.2) _ ek,xbq,ek]
   rfl
  rw[v _ sj,v _ si] at lk;exact lk.symm
 ·unfold Srt.outOf;rw[xcw]
  congr 1
  refine xgk fun i hi=>?_
  have hi2:=sm i hi;have ei:ps[i]?=some ps[i]:=xbg hi2;rw[zq (fun p:Addr×List Int=>Value.ref p.1) _ ei];show _=Value.ref (ps.getD i (0,[])).1;rw[xbq,ei]
  rfl
section
variable {X:Cx}
end
section
variable {X:Cx}{aY:List (Addr×Obj)}{σ:St}{H:Hp}{s:Shared}
theorem Inv.freeze {a:Addr}{kvs:List (List Key×V)}{ob:Obj}(I:Inv X aY σ H s)(h:H a=some (.dT kvs))(e:s.heap.get? a=some ob):Inv X aY σ (upd H a (.frz ob (.dT kvs))) s:=by
 have off:∀{b:Addr} {u:HO},H b=some u->(∀l,u≠.dT l)->upd H a (.frz ob (.dT kvs)) b=some u:=fun {b u} q n=>by
  rw[zn (by rintro rfl;rw[h] at q;cases q;exact n _ rfl)];exact q
 have z:=I.un (h':=s.heap) (t':=s.toks) (H':=upd H a (.frz ob (.dT kvs))) ⟨fun b u q _ _ _=>q,fun b u q _ _ _=>⟨u.slots,q⟩,fun b u q n _=>by
   rw[zn (by rintro rfl;rw[h] at n;cases n)];exact n,fun b u q _=>⟨u,q⟩,fun b xs q=>off q (fun l z=>by cases z),fun b o u q=>off q (fun l z=>by cases z),fun b ps q=>⟨#[],by rw[off q (fun l z=>by cases z)];simp⟩⟩ (fun b u q=>by
   by_cases hb:b=a
   ·subst hb;rw[zm] at q;cases q;exact⟨e,(I.hok b _ h).stay (fun c v _ r=>r) (fun c r=>off r (fun l z=>by cases z)) fun c xs r=>off r (fun l z=>by cases z)⟩
   ·rw[zn hb] at q
    exact(I.hok b u q).stay (fun c v _ r=>r) (fun c r=>off r (fun l z=>by cases z)) fun c xs r=>off r (fun l z=>by cases z))
 exact z
end
def Itd (a:Addr) (ob:Obj) (kvs:List (List Key×V)) (ps:List (Addr×List Int)):It :=
 ⟨fun i H=>i < ps.length/\H a=some (.frz ob (.dT kvs)),fun i H x H'=>H'=H/\∃p,ps[i]?=some p/\x=.ref p.1,fun i H=>ps.length<=i/\H a=some (.frz ob (.dT kvs))⟩
theorem zss {P:Program}{w:World}{K:Fg}{tg:Expr}{a it:Addr}{ob:Obj}{kvs:List (List Key×V)}{ps:List (Addr×List Int)}{es:Array DictEntry}{ep:Nat}(ex:ob.ExactDict)(dt:ob.data=.dict es ep)
  (hk:es.toList.map (·.key)=ps.map fun p=>Value.ref p.1):Turn P w K tg (Itd a ob kvs ps) [it] it (fun i h=>h.IsKeyIter it a i es.size ep) where
 mem:=xbl.mpr rfl
 obj:=fun i h st b hb=>by
  have e:b=it:=xbl.mp hb;subst e;obtain⟨o,e,c,d⟩:=st;exact⟨o,e,fun v z=>by rw[d] at z;cases z⟩
 keep:=fun i h h' st k=>st.at fun o e=>k it (xbl.mpr rfl) o e
 item:=by
  intro Y hP hw hK hc i aY s σ H E I hf st hg;subst hP hw hK;obtain⟨hi,hz⟩:=hg;have hsz:es.size=ps.length:=by
   have:=congrArg List.length hk
   rwa [xbd,xbd,xca] at this
  obtain⟨eo,_⟩:=(show ObjOk Y.prog Y.w H s.heap a (.frz ob (.dT kvs)) from I.hok a _ hz)
  obtain⟨f0,f1,f2,f3,f4,f5⟩:=hf it (xbl.mpr rfl);have hen:es[i]?=some es[i]:=xja (by lia);have hpi:ps[i]?=some ps[i]:=xbg hi;have hkey:es[i].key=Value.ref ps[i].1:=by
   have q:=congrArg (fun l=>l[i]?) hk;simp only[xcc,xci,hen,hpi] at q;exact xby q
  refine Dct.zqa st ⟨ob,eo,ex,dt⟩ hen fun g st' sb=>?_
  have I1:Inv Y aY σ H {s with heap:=g}:=I.turned (t':=s.toks) (fun b o hb e=>sb.extBut b o hb e) f0 f1 f3 f4 f5;obtain⟨o,e,c,d⟩:=id st';exact⟨_,rfl,zbdl (s:={s with heap:=g}) e c d (by decide) ⟨.ref ps[i].1,H,I1,hkey,⟨rfl,ps[i],hpi,rfl⟩,st',fun b hb=>(hf b hb).1⟩⟩
 done:=by
  intro Y hP hw hK hc i aY s σ H E I hf st hg;subst hP hw hK;obtain⟨hi,hz⟩:=hg;have hsz:es.size=ps.length:=by
   have:=congrArg List.length hk
   rwa [xbd,xbd,xca] at this
  obtain⟨eo,_⟩:=(show ObjOk Y.prog Y.w H s.heap a (.frz ob (.dT kvs)) from I.hok a _ hz)
  obtain⟨f0,f1,f2,f3,f4,f5⟩:=hf it (xbl.mpr rfl);exact Dct.zvm (I.ok.hd hc) st ⟨ob,eo,ex,dt⟩ (by lia) fun g eb=>⟨rfl,I.turned (t':=s.toks) (fun b o hb e=>eb b o hb e) f0 f1 f3 f4 f5⟩
 self:=fun _ _ _ _ _ st h=>wpAny_pyIter_keyiter st h
def iDct (td:TE):TI:=fun σ H R=>td σ H fun x H1=>∃(a:Addr) (kvs:List (List Key×V)) (ks:List (List Int)),x=.ref a/\H1 a=some (.dT kvs)/\kvs.map (·.1)=ks.map (fun ns=>ns.map Sum.inl) /\
 ∀(ob:Obj) (ps:List (Addr×List Int)),ps.map (·.2)=ks->(∀p∈ps,H1 p.1=some (.tup (p.2.map V.int)))->R (Itd a ob kvs ps) (upd H1 a (.frz ob (.dT kvs)))
theorem zbbq {X:Cx}{tg l:Expr}{td:TE}(hl:PE X l td):PI X tg l (iDct td):=by
 intro aY s σ H R I h;refine thn (hl aY s σ H _ I h) fun v s1 hq0=>?_
 obtain⟨x,H1,I1,r1,q1⟩:=hq0;obtain⟨a,kvs,ks,rfl,hd,ek,q⟩:=q1;cases r1;obtain⟨z,ns,ys,rel,ob,es,ep,e1,e2,e3,e4,e5⟩:=(show ObjOk X.prog X.w H1 s1.heap a (.dT kvs) from I1.hok a _ hd)
 obtain⟨ps,a1,a2,a3⟩:=zla (P:=X.prog) (w:=X.w) rel ek;have hes:es.toList.map (·.key)=ps.map fun p=>Value.ref p.1:=by rw[e4,xcw];exact a3
 refine Dct.zqb ns ⟨ob,e1,e2,e3⟩ ?_;have I2:=I1.freeze hd e1;refine⟨s1.heap.objs.size,[s1.heap.objs.size],_,_,_,rfl,I2.kept (t':=s1.toks) fun b o e=>xbb _ e,zss e2 e3 hes,⟨_,xbk _ rfl,rfl,rfl⟩,fun b hb=>?_,q ob ps a1 a2⟩;have e:b=s1.heap.objs.size:=xbl.mp hb;subst e;exact I2.fpOk (xbf _) (I2.hok.fresh (xbf _))
section
variable {g:TG}{tc:TT}{te:TE}{Q:VK}{σ:St}{H:Hp}{p:Addr}
end
end L2
namespace L2
open PySem PySem.Spec PyProof.Rows PySem.W
def TupsG (g:Heap) (ps:List (Addr×List Int)):Prop:=∀ p∈ps, ∃(us:List Value) (o:Obj) (n:Nat), IntsAre us p.2/\g.get? p.1=some o/\o.cls=.type "tuple"/\o.data=.seq us.toArray n
section
variable {P:Program}{w:World}{B:Around}{E:Value->Shared->Prop}{sg:Shared}
theorem zny:∀{ps:List (Addr×List Int)},TupsG sg.heap ps->∃fs:List (Option Value),fs.map Option.isSome=ps.map (fun p=>!p.2.isEmpty)/\∀(W:List (Option Value)->Shared->Prop),W fs sg->wpAny (model P w) B ((ps.map fun p=>Value.ref p.1).mapM firstOfTuple') W E sg
 | [],_=>⟨[],rfl,fun W h=>by rw[xlm,List.mapM_nil];exact xbe h⟩
 | p::ps,h=>by
  obtain⟨fs,f1,f2⟩:=zny (ps:=ps) fun q hq=>h q (xcq _ hq)
  obtain⟨us,o,n,a1,a2,a3,a4⟩:=h p xcm;refine⟨us.toArray[0]?::fs,?_,fun W hW=>?_⟩
  ·rw[xbp,xbp,f1]
   congr 1
   obtain⟨pa,pn⟩:=p;dsimp only at a1 ⊢;cases a1 with
   | nil=>rfl
   | cons x t r=>rfl
  ·rw[xbp,List.mapM_cons];have ty:Looks (model P w) sg.heap (typeOf (.ref p.1)) o.cls:=(Looks.ld a2).andThen .now;refine xba ?_;rw[kas_first_eq];refine xba (Looks.here ty ?_);rw[a3,if_neg (by first | decide | simp)];exact xba (listItems_at a2 a4 (xbe (xba (f2 _ (xbe hW)))))
theorem zqx (x y:Value):keyLt' general' x y=oneLt' false x y:=rfl
theorem zzu {κ:SortKind}(hκ:κ=general'\/κ=oneType')(hu:B.units < cLine){a b:Addr×List Int}(ha:TupsG sg.heap [a])(hb:TupsG sg.heap [b]){C:Bool->Shared->Prop}(hC:C (HT.lexLt a.2 b.2) sg) :
  wpAny (model P w) B (keyLt' κ (.ref a.1) (.ref b.1)) C E sg:=by
 obtain⟨us,o,n,a1,a2,a3,a4⟩:=ha a xcm;obtain⟨us2,o2,n2,b1,b2,b3,b4⟩:=hb b xcm;rcases hκ with rfl | rfl
 ·rw[zqx];exact kat_one _ _ (HT.zkp (items:=us.toArray) (items2:=us2.toArray) ⟨o,a2,a3,n,a4⟩ ⟨o2,b2,b3,n2,b4⟩ a1 b1 hu hC)
 ·rw[keyLt'_oneType,oneLt'_eq];simp only[ite_true];refine xba (wpAny_cRoomFor hu (xba (wpAny_callSpecialIfBound?_slot (T:="tuple") ⟨o, a2, a3⟩ xkb ?_)))
  obtain⟨cls,dd,data,sl⟩:=o;obtain⟨cls2,dd2,data2,sl2⟩:=o2;dsimp only at a3 a4 b3 b4;subst a3 a4 b3 b4;exact xgs xkb ⟨_,a2,rfl⟩ F.entry_tuple_lt (F.args_tuple_lt_2 _ _) (HT.zgt a.1 b.1 us.toArray us2.toArray n n2 dd dd2 sl sl2 a.2 b.2 a1 b1) ⟨a2,b2,xex hC⟩
theorem zzx {ps:List (Addr×List Int)}(hu:B.units < cLine)(tup:TupsG sg.heap ps)(emp:∃p∈ps,p.2=[]):Srt.Answers P w B (Srt.rank (ps.map (·.2))) (ps.map fun p=>Value.ref p.1) sg:=by
 obtain⟨fs,f1,f2⟩:=zny (P:=P) (w:=w) (B:=B) (E:=fun _ _=>False) tup;have notAll:¬ (fs.toArray.all fun x=>x.isSome)=true:=fun z=>by
  have z':fs.all (fun x=>x.isSome)=true:=by simpa using z
  obtain⟨p,hp,he⟩:=emp;have m:(!p.2.isEmpty)∈fs.map Option.isSome:=by rw[f1];exact List.mem_map_of_mem (f:=fun p:Addr×List Int=>!p.2.isEmpty) hp
  obtain⟨o,ho,e⟩:=xdt.mp m;have:=xcg.mp z' o ho;rw[e,he] at this;cases this
 have cmp:∀{κ:SortKind},κ=general'\/κ=oneType'->∀i j C,i < (ps.map fun p=>Value.ref p.1).length->j < (ps.map fun p=>Value.ref p.1).length->C (Srt.lt (Srt.rank (ps.map (·.2))) i j) sg->kas_ask P w B κ (ps.map fun p=>Value.ref p.1) i j C sg:=fun {κ} hκ i j C hi hj hC=>by
  rw[xbd] at hi hj;have ei:ps[i]?=some ps[i]:=xbg hi;have ej:ps[j]?=some ps[j]:=xbg hj;unfold kas_ask;rw[zq (fun p:Addr×List Int=>Value.ref p.1) _ ei,zq (fun p:Addr×List Int=>Value.ref p.1) _ ej];rw[Srt.zqc (by rw[xbd];exact hi) (by rw[xbd];exact hj),zq (fun p:Addr×List Int=>p.2) _ ei,zq (fun p:Addr×List Int=>p.2) _ ej] at hC;have one:∀k,(hk:k < ps.length)->TupsG sg.heap [ps[k]]:=fun k hk q hq=>by
   rw[xbl.mp hq];exact tup _ (xdy hk)
  exact zzu hκ hu (one i hi) (one j hj) hC
 by_cases fst:(fs.toArray[0]?.bind id).isSome=true
 ·refine⟨general',fun R hR=>?_,cmp (.inl rfl)⟩;rw[kat_kind_eq,xle,xlt];refine xba (xba (f2 _ (xbe ?_)));rw[if_neg notAll,if_pos fst];exact xbe hR
 ·refine⟨oneType',fun R hR=>?_,cmp (.inr rfl)⟩;rw[kat_kind_eq,xle,xlt];refine xba (xba (f2 _ (xbe ?_)));rw[if_neg notAll,if_neg fst,oneTypeOnly'_eq,xle,xlt];have ty:∀ v∈(ps.map fun p=>Value.ref p.1), ∀ W:Value->Shared->Prop, W (.type "tuple") sg->wpAny (model P w) B (typeOf v) W (fun _ _=>False) sg:=fun v hv W hW=>by
   obtain⟨p,hp,rfl⟩:=xdt.mp hv;obtain⟨us,o,n,a1,a2,a3,a4⟩:=tup p hp;have lk:Looks (model P w) sg.heap (typeOf (.ref p.1)) o.cls:=(Looks.ld a2).andThen .now;rw[a3] at lk;exact lk.here hW
  refine xba (xba (xba (kas_mapM (r:=Value.type "tuple") _ ty (xbe ?_))))
  obtain⟨p,hp,_⟩:=emp;obtain⟨p0,rest,rfl⟩:∃p0 rest,ps=p0::rest:=by
   cases ps with
   | nil=>exact nomatch hp
   | cons p0 rest=>exact⟨p0,rest,rfl⟩
  have all:((List.map (fun _=>Value.type "tuple") ((p0::rest).map fun p=>Value.ref p.1)).toArray.all fun x=>x==Value.type "tuple")=true:=by
   rw[List.all_toArray,xcg];intro x hx;obtain⟨_,_,rfl⟩:=xdt.mp hx
   rfl
  have zero:(List.map (fun _=>Value.type "tuple") ((p0::rest).map fun p=>Value.ref p.1)).toArray[0]?=some (Value.type "tuple"):=by simp
  rw[zero];simp only[all,ite_true];exact xbe (xbe hR)
theorem zwl {ps:List (Addr×List Int)}(hu:B.units < cLine)(h2:2<=ps.length)(tup:TupsG sg.heap ps):Srt.Answers P w B (Srt.rank (ps.map (·.2))) (ps.map fun p=>Value.ref p.1) sg:=by
 by_cases c:∃p∈ps,p.2=[]
 ·exact zzx hu tup c
 ·refine zzw h2 fun i p hi=>?_
  have hp:=xch hi;obtain⟨us,o,n,a1,a2,a3,a4⟩:=tup p hp;exact⟨us,o,n,a1,a2,a3,a4,fun z=>c ⟨p,hp,z⟩⟩
end
theorem zhk (z:List (Addr×List Int)):Vals (z.map fun p=>V.ref p.1) (z.map fun p=>Value.ref p.1):=by
 induction z with
 | nil=>exact .nil
 | cons x z ih=>exact .cons rfl ih
section
variable {X:Cx}
end
end L2
namespace TS
open PySem PyProof.Rows
def kA (R:Keyed->Nat) (xs:Array Keyed) (i:Nat):Nat:=match xs[i]? with
 | some p=>R p
 | none=>0
theorem zdu {R:Keyed->Nat}{xs ys:Array Keyed}{i j:Nat}(h:xs[i]?=ys[j]?):kA R xs i=kA R ys j:=by unfold kA;rw[h]
theorem zeb {R:Keyed->Nat}{xs:Array Keyed}{i:Nat}{x:Keyed}(h:xs[i]?=some x):kA R xs i=R x:=by unfold kA;rw[h]
def UpA (R:Keyed->Nat) (xs:Array Keyed) (a b:Nat):Prop:=∀i j,a<=i->i<=j->j < b->kA R xs i<=kA R xs j
def DnA (R:Keyed->Nat) (xs:Array Keyed) (a b:Nat):Prop:=∀i j,a<=i->i<=j->j < b->kA R xs j<=kA R xs i
section
variable {prog:Program}{w:World}{A:Around}{E:Value->Shared->Prop}{s:Shared}{κ:SortKind}{a₀:Array Keyed}{R:Keyed->Nat}
def Orc (prog:Program) (w:World) (A:Around) (s:Shared) (κ:SortKind) (a₀:Array Keyed) (R:Keyed->Nat):Prop :=
 ∀x,x∈a₀.toList->∀y,y∈a₀.toList->∀(C:Bool->Shared->Prop),C (decide (R x < R y)) s->wpAny (model prog w) A (keyLt' κ x.1 y.1) C (fun _ _=>False) s
structure B (κ:SortKind) (a₀:Array Keyed) (st:SortSt):Prop where
 perm:(arrOf st).Perm a₀
 kind:kindOf st=κ
 failed:failedOf st=none
theorem B.size {st:SortSt}(h:B κ a₀ st):(arrOf st).size=a₀.size:=h.perm.size_eq
theorem B.set {st:SortSt}(h:B κ a₀ st){xs:Array Keyed}(hp:xs.Perm (arrOf st)):B κ a₀ (setArr st xs):=⟨hp.trans h.perm,h.kind,h.failed⟩
theorem B.mem {st:SortSt}(h:B κ a₀ st){i:Nat}(hi:i < a₀.size):∃x,(arrOf st)[i]?=some x/\x∈a₀.toList:=by
 have hi':i < (arrOf st).size:=by rw[h.size];exact hi
 exact⟨_,getElem?_pos _ i hi',(xfq.mp h.perm).mem_iff.mp (by simp)⟩
theorem w_lt {x y:Keyed}{st:SortSt}{Q:Option Bool->SortSt->Prop}(O:Orc prog w A s κ a₀ R)(hk:kindOf st=κ)(hx:x∈a₀.toList)(hy:y∈a₀.toList)(h:Q (some (decide (R x < R y))) st):wpS (model prog w) A E s (lt' x y) Q st:=by
 rw[lt'_eq];refine xbj (xhr ?_);rw[hk];refine xbj (xka (xhq (xdh (O x hx y hy (fun b s'=>s'=s/\b=decide (R x < R y)) ⟨rfl,rfl⟩) (fun b s' hb=>?_) fun _ _ f=>f.elim)));obtain⟨rfl,rfl⟩:=hb;exact⟨rfl,xbm h⟩
theorem zkd {arr:Array Keyed}{i:Nat}{x:Keyed}{st:SortSt}{Q:Keyed->SortSt->Prop}(e:arr[i]?=some x)(h:Q x st):wpS (model prog w) A E s (elem' arr i) Q st:=by
 rw[elem'_eq,e];exact xbm h
theorem zlm {i j:Nat}{st:SortSt}{Q:Option Bool->SortSt->Prop}(O:Orc prog w A s κ a₀ R)(b:B κ a₀ st)(hi:i < a₀.size)(hj:j < a₀.size)(h:Q (some (decide (kA R (arrOf st) i < kA R (arrOf st) j))) st):wpS (model prog w) A E s (ltAt' i j) Q st:=by
 obtain⟨x,e1,m1⟩:=b.mem hi;obtain⟨y,e2,m2⟩:=b.mem hj;rw[zeb e1,zeb e2] at h;rw[ltAt'_eq];exact xbj (xhr (xbj (zkd e1 (xbj (zkd e2 (w_lt O b.kind m1 m2 h))))))
theorem zsm {i j:Nat}{st:SortSt}{Q:Unit->SortSt->Prop}(h:Q () (setArr st (mirror (arrOf st) i j ((j - i) / 2)))):wpS (model prog w) A E s (reverseSlice' i j) Q st:=by
 rw[reverseSlice'_eq];exact xgt h
theorem zbgj {i j:Nat}{st:SortSt}{Q:Unit->SortSt->Prop}(h:Q () (setArr st (bubble (arrOf st) i (i - j)))):wpS (model prog w) A E s (moveDown' i j) Q st:=by
 rw[moveDown'_eq];exact xgt h
theorem zbaf {lo x n N:Nat}(h:x < n)(hn:lo+n<=N):lo+x < N:=xbh (xeb h lo) hn
theorem zbae {lo x n N:Nat}(h:x < n)(hn:lo+n<=N):lo+x - 1 < N:=xcs (xgp _ _) (zbaf h hn)
theorem zqz {lo n:Nat}(h:1<=n):lo+n - 1 < lo+n:=xhu (xbh h (xlv _ _)) Nat.one_pos
theorem zbgc {j lo n:Nat}(h:j < lo+(n+1))(e:¬j=lo+n):j < lo+n:=xdd (xcz h) e
theorem zbct {i j k:Nat}(c2:k < j):i<=i+j - 1 - k:=Nat.le_sub_of_add_le (xdg (xeb c2 i))
theorem zbcu {i j k:Nat}(c1:i<=k)(c2:k < j):i+j - 1 - k < j:=xcs (xhl c1 _) (by rw[Nat.sub_right_comm,xcx];exact xhu (xjs c2) Nat.one_pos)
theorem zju {xs:Array Keyed}{i j:Nat}(hj:j<=xs.size)(k:Nat):kA R (mirror xs i j ((j - i) / 2)) k=if i<=k/\k < j then kA R xs (i+j - 1 - k) else kA R xs k:=by
 have e:=getElem?_mirror_all (i:=i) hj k;split
 ·rename_i c;rw[if_pos c] at e;exact zdu e
 ·rename_i c;rw[if_neg c] at e;exact zdu e
def Out (xs ys:Array Keyed) (a b:Nat):Prop:=∀k,k < a\/b<=k->xs[k]?=ys[k]?
theorem Out.refl (xs:Array Keyed)(a b:Nat):Out xs xs a b:=fun _ _=>rfl
theorem Out.trans {xs ys zs:Array Keyed}{a b:Nat}(h1:Out xs ys a b)(h2:Out ys zs a b):Out xs zs a b:=fun k hk=>(h1 k hk).trans (h2 k hk)
theorem Out.mirror {xs:Array Keyed}{i j a b:Nat}(hj:j<=xs.size)(hi:a<=i)(hb:j<=b):Out (mirror xs i j ((j - i) / 2)) xs a b:=fun k hk=>by
 rw[getElem?_mirror_all (i:=i) hj k,if_neg fun z=>hk.elim (fun h=>xel (xbc hi z.1) h) fun h=>xel (xbc hb h) z.2]
theorem Out.bubble {xs:Array Keyed}{src d a b:Nat}(hs:src < xs.size)(hd:d<=src)(ha:a<=src - d)(hb:src < b):Out (bubble xs src d) xs a b:=fun k hk=>by
 rw[getElem?_bubble hs d hd k,if_neg fun z=>hk.elim (fun h=>xel (xbc ha (xdk z.symm)) h) fun h=>xel h (xcs (xbc (xdk z) (xgp _ _)) hb),if_neg fun z=>hk.elim (fun h=>xel (xbc ha (xbw z.1)) h) fun h=>xel h (xcs z.2 hb)]
structure Sm (st st':SortSt) (a b:Nat):Prop where
 out:Out (arrOf st') (arrOf st) a b
 pend:pendingOf st'=pendingOf st
theorem zbal {lo a nrem:Nat}{st:SortSt}{Q:Option (Option Nat)×Nat->SortSt->Prop}(O:Orc prog w A s κ a₀ R)(b:B κ a₀ st)(hn:lo+nrem<=a₀.size)(ha:1<=a)(han:a<=nrem)(hs:UpA R (arrOf st) lo (lo+a))
  (h:∀n,a<=n->n<=nrem->UpA R (arrOf st) lo (lo+n)->(n=nrem\/kA R (arrOf st) (lo+n) < kA R (arrOf st) (lo+n - 1))->Q (none,n) st) :
  wpS (model prog w) A E s (forIn [a:nrem] ((none,a):Option (Option Nat)×Nat) fun _ r=>do
   let x ← ltAt' (lo+r.2) (lo+r.2 - 1)
   match x with
   | some smaller=>if smaller=true then pure (ForInStep.done (none,r.2)) else pure (ForInStep.yield (none,r.2+1))
   | _=>pure (ForInStep.done (some none,r.2))) Q st:=by
 refine xdo (I:=fun x c st'=>st'=st/\c=(none,x)/\UpA R (arrOf st) lo (lo+x)) ?_ ?_ ⟨rfl,rfl,hs⟩
 ·rintro x c st' h1 h2 ⟨rfl,rfl,h3⟩;dsimp only;refine xbj (zlm O b (zbaf h2 hn) (zbae h2 hn) ?_);by_cases c:kA R (arrOf st') (lo+x) < kA R (arrOf st') (lo+x - 1)
  ·simp only[c,xhd,xfz];exact xbm (h x h1 (xbw h2) h3 (.inr c))
  ·simp only[c,xii,xdc,xes];refine xbm ⟨rfl,rfl,fun i j hi hij hj=>?_⟩;by_cases e:j=lo+x
   ·subst e;by_cases e2:i=lo+x
    ·rw[e2];exact xbf _
    ·exact xbc (h3 i (lo+x - 1) hi (xdg (xdd hij e2)) (zqz (xbc ha h1))) (xcb c)
   ·exact h3 i j hi hij (zbgc hj e)
 ·rintro c st' ⟨rfl,rfl,h3⟩;rw[xlq han] at h3 ⊢;exact h nrem han (xbf _) h3 (.inl rfl)
theorem zhx {xs:Array Keyed}{i j:Nat}(hj:j<=xs.size)(he:∀k,i<=k->k < j->kA R xs k=kA R xs (j - 1))(k:Nat):kA R (mirror xs i j ((j - i) / 2)) k=kA R xs k:=by
 rw[zju hj];split
 ·rename_i c;rw[he _ (zbct c.2) (zbcu c.1 c.2),he k c.1 c.2]
 ·rfl
structure Fl (κ:SortKind) (a₀:Array Keyed) (R:Keyed->Nat) (st₀ st:SortSt) (lo n neq b:Nat):Prop where
 base:B κ a₀ st
 same:Sm st₀ st lo b
 dn:DnA R (arrOf st) lo (lo+n)
 hq:neq+1<=n
 eqs:∀i,lo+n - (neq+1)<=i->i < lo+n->kA R (arrOf st) i=kA R (arrOf st) (lo+n - 1)
theorem Fl.turn {st₀ st:SortSt}{lo n neq b:Nat}(h:Fl κ a₀ R st₀ st lo n neq b)(hb:lo+n<=b)(hs:b<=a₀.size) :
  Fl κ a₀ R st₀ (setArr st (mirror (arrOf st) (lo+n - (neq+1)) (lo+n) ((lo+n - (lo+n - (neq+1))) / 2))) lo n neq b/\∀k,kA R (mirror (arrOf st) (lo+n - (neq+1)) (lo+n) ((lo+n - (lo+n - (neq+1))) / 2)) k=kA R (arrOf st) k:=by
 have hz:=h.base.size;have hq:=h.hq;have hle:lo+n<=(arrOf st).size:=by rw[hz];exact xbc hb hs
 have e:=zhx (R:=R) (xs:=arrOf st) (i:=lo+n - (neq+1)) (j:=lo+n) hle h.eqs;refine⟨⟨h.base.set (mirror_perm _ _ _ _),⟨(Out.mirror hle (Nat.le_sub_of_add_le (xcj hq lo)) hb).trans h.same.out,h.same.pend⟩,fun i j a1 a2 a3=>?_,h.hq,fun i a1 a2=>?_⟩,e⟩
 ·show kA R (mirror _ _ _ _) j<=kA R (mirror _ _ _ _) i;rw[e,e];exact h.dn i j a1 a2 a3
 ·show kA R (mirror _ _ _ _) i=kA R (mirror _ _ _ _) _;rw[e,e];exact h.eqs i a1 a2
theorem Fl.less {st₀ st:SortSt}{lo n neq b:Nat}(h:Fl κ a₀ R st₀ st lo n neq b)(c:kA R (arrOf st) (lo+n)<=kA R (arrOf st) (lo+n - 1)):DnA R (arrOf st) lo (lo+(n+1)):=fun i j a1 a2 a3=>by
 have hq:=h.hq;by_cases e:j=lo+n
 ·subst e;by_cases e2:i=lo+n
  ·rw[e2];exact xbf _
  ·exact xbc c (h.dn i (lo+n - 1) a1 (xdg (xdd a2 e2)) (zqz (xbc (xlv 1 neq) hq)))
 ·exact h.dn i j a1 a2 (zbgc a3 e)
theorem Fl.fresh {st₀ st:SortSt}{lo n neq b:Nat}(h:Fl κ a₀ R st₀ st lo n neq b)(c:kA R (arrOf st) (lo+n)<=kA R (arrOf st) (lo+n - 1)):Fl κ a₀ R st₀ st lo (n+1) 0 b:=⟨h.base,h.same,h.less c,xev (xed _),fun i g1 g2=>by
 have:i=lo+(n+1) - 1:=xdp (xcz g2) g1
 rw[this]⟩
theorem Fl.more {st₀ st:SortSt}{lo n neq b:Nat}(h:Fl κ a₀ R st₀ st lo n neq b)(c:kA R (arrOf st) (lo+n)=kA R (arrOf st) (lo+n - 1)):Fl κ a₀ R st₀ st lo (n+1) (neq+1) b:=by
 have hq:=h.hq;refine⟨h.base,h.same,h.less (xdk c),xev hq,fun i g1 g2=>?_⟩;rw[show lo+(n+1) - 1=lo+n from rfl];by_cases e:i=lo+n
 ·rw[e]
 ·rw[c];exact h.eqs i (xbc (xdk (Nat.succ_sub_succ (lo+n) (neq+1)).symm) g1) (zbgc g2 e)
theorem zbak {lo nrem:Nat}{st:SortSt}{Q:Option Nat->SortSt->Prop}(O:Orc prog w A s κ a₀ R)(b:B κ a₀ st)(hn:lo+nrem<=a₀.size)(h1:1<=nrem)
  (h:∀m st',1<=m->m<=nrem->B κ a₀ st'->Sm st st' lo (lo+nrem)->UpA R (arrOf st') lo (lo+m)->Q (some m) st'):wpS (model prog w) A E s (countRun' lo nrem) Q st:=by
 have sm0:Sm st st lo (lo+nrem):=⟨Out.refl _ _ _,rfl⟩
 have one:∀xs:Array Keyed,UpA R xs lo (lo+1):=fun xs i j a1 a2 a3=>by
  have:i=j:=xdp a2 (xbc (xcz a3) a1);subst this;exact xbf _
 have oneD:∀xs:Array Keyed,DnA R xs lo (lo+1):=fun xs i j a1 a2 a3=>by
  have:i=j:=xdp a2 (xbc (xcz a3) a1);subst this;exact xbf _
 rw[countRun'_eq];dsimp only;refine xbj (zbal O b hn (xbf _) h1 (one _) fun n n1 n2 hu hlast=>?_);dsimp only;split
 ·exact xbm (h n st n1 n2 b sm0 hu)
 rename_i hne;have hne':n≠nrem:=fun z=>hne (by simp[z])
 have hlt:n < nrem:=xdd n2 hne';have hl:kA R (arrOf st) (lo+n) < kA R (arrOf st) (lo+n - 1):=by
  rcases hlast with z | z
  ·exact absurd z hne'
  ·exact z
 have hz:=b.size;have fin:∀(n:Nat) (st1:SortSt),B κ a₀ st1->Sm st st1 lo (lo+nrem)->1<=n->n<=nrem->DnA R (arrOf st1) lo (lo+n) ->
   B κ a₀ (setArr st1 (mirror (arrOf st1) lo (lo+n) ((lo+n - lo) / 2)))/\Sm st (setArr st1 (mirror (arrOf st1) lo (lo+n) ((lo+n - lo) / 2))) lo (lo+nrem)/\UpA R (mirror (arrOf st1) lo (lo+n) ((lo+n - lo) / 2)) lo (lo+n):=fun n st1 b1 sm1 m1 m2 dn1=>by
  have hz:=b1.size;have hm:=xcj m2 lo;have hle:lo+n<=(arrOf st1).size:=by rw[hz];exact xbc hm hn
  refine⟨b1.set (mirror_perm _ _ _ _),⟨(Out.mirror hle (xbf _) hm).trans sm1.out,sm1.pend⟩,fun i j a1 a2 a3=>?_⟩;have hi:=xcs a2 a3;rw[zju hle,zju hle,if_pos ⟨a1,hi⟩,if_pos ⟨xbc a1 a2,a3⟩];exact dn1 _ _ (zbct a3) (xhl a2 _) (zbcu a1 hi)
 have eqs:¬ kA R (arrOf st) lo < kA R (arrOf st) (lo+n - 1)->∀k,lo<=k->k < lo+n->kA R (arrOf st) k=kA R (arrOf st) (lo+n - 1):=fun c k k1 k2=>by
  have g1:=hu lo k (xbf _) k1 k2;have g2:=hu k (lo+n - 1) k1 (xdg k2) (zqz n1);exact xdp g2 (xbc (xcb c) g1)
 have dnx:∀xs:Array Keyed,(∀k,kA R xs k=kA R (arrOf st) k)->¬ kA R (arrOf st) lo < kA R (arrOf st) (lo+n - 1)->DnA R xs lo (lo+(n+1)):=fun xs e c i j a1 a2 a3=>by
  rw[e,e];by_cases e2:j=lo+n
  ·subst e2;by_cases e3:i=lo+n
   ·rw[e3];exact xbf _
   ·rw[eqs c i a1 (xdd a2 e3)];exact xbw hl
  ·have jn:=zbgc a3 e2;rw[eqs c i a1 (xcs a2 jn),eqs c j (xbc a1 a2) jn];exact xbf _
 split
 ·have hle:lo+n<=(arrOf st).size:=by rw[hz];exact xbc (xcj n2 lo) hn
  refine xbj (zlm O b (xbh (xhp h1) hn) (zbae hlt hn) ?_);by_cases c:kA R (arrOf st) lo < kA R (arrOf st) (lo+n - 1)
  ·simp only[c,xhd,xfz];exact xbm (h n st n1 n2 b sm0 hu)
  ·simp only[c,xii,xdc,xes];refine xbj (zsm ?_);have b1:B κ a₀ (setArr st (mirror (arrOf st) lo (lo+n) ((lo+n - lo) / 2))):=b.set (mirror_perm _ _ _ _);have sm1:Sm st (setArr st (mirror (arrOf st) lo (lo+n) ((lo+n - lo) / 2))) lo (lo+nrem):=⟨Out.mirror hle (xbf _) (xcj n2 lo),rfl⟩
   have dn1:DnA R (arrOf (setArr st (mirror (arrOf st) lo (lo+n) ((lo+n - lo) / 2)))) lo (lo+(n+1)):=dnx _ (zhx hle (eqs c)) c;generalize (setArr st (mirror (arrOf st) lo (lo+n) ((lo+n - lo) / 2)))=st1 at b1 sm1 dn1 ⊢;refine xbj (xka (xgu ⟨rfl,?_⟩));refine xbj (xff (xdo (I:=fun x c st'=>∃neq,c=(none,x,neq)/\Fl κ a₀ R st st' lo x neq (lo+nrem)) (Q:=fun c st'=>∃m neq,c=(none,m,neq)/\n+1<=m/\m<=nrem/\Fl κ a₀ R st st' lo m neq (lo+nrem)) ?_ ?_ ?_) ?_)
   ·rintro x c st' a1 a2 ⟨neq,rfl,f⟩;dsimp only;refine xbj (zlm O f.base (zbaf a2 hn) (zbae a2 hn) ?_);by_cases c:kA R (arrOf st') (lo+x) < kA R (arrOf st') (lo+x - 1)
    ·simp only[c,xhd,xfz];split
     ·obtain⟨f2,e⟩:=f.turn (xcj (xbw a2) lo) hn;refine xbj (zsm (xbm ⟨0,rfl,f2.fresh ?_⟩));refine xbw (?_:kA R (mirror _ _ _ _) _ < kA R (mirror _ _ _ _) _);rw[e,e];exact c
     ·exact xbm ⟨0,rfl,f.fresh (xbw c)⟩
    ·simp only[c,xii,xdc,xes];refine xbj (zlm O f.base (zbae a2 hn) (zbaf a2 hn) ?_);by_cases c2:kA R (arrOf st') (lo+x - 1) < kA R (arrOf st') (lo+x)
     ·simp only[c2,xhd,xfz];exact xbm ⟨x,neq,rfl,a1,xbw a2,f⟩
     ·simp only[c2,xii,xdc,xes];exact xbm ⟨neq+1,rfl,f.more (xdp (xcb c2) (xcb c))⟩
   ·rintro c st' ⟨neq,rfl,f⟩;rw[xlq hlt] at f ⊢;exact⟨nrem,neq,rfl,hlt,xbf _,f⟩
   ·exact⟨0,rfl,b1,sm1,dn1,xev (xed _),fun i g1 g2=>by
     have:i=lo+(n+1) - 1:=xdp (xcz g2) g1
     rw[this]⟩
   ·rintro c st' ⟨m,neq,rfl,a1,a2,f⟩;dsimp only;split
    ·obtain⟨f2,e⟩:=f.turn (xcj a2 lo) hn;refine xbj (zsm (xbj (zsm ?_)));obtain⟨b3,s3,u3⟩:=fin m _ f2.base f2.same (xdl a1) a2 f2.dn;exact xbj (zbal O b3 hn (xdl a1) a2 u3 fun m' m1 m2 hu' _=>xbm (h m' _ (xbc (xdl a1) m1) m2 b3 s3 hu'))
    ·refine xbj (zsm ?_);obtain⟨b3,s3,u3⟩:=fin m _ f.base f.same (xdl a1) a2 f.dn;exact xbj (zbal O b3 hn (xdl a1) a2 u3 fun m' m1 m2 hu' _=>xbm (h m' _ (xbc (xdl a1) m1) m2 b3 s3 hu'))
 ·rename_i hn1;have b1:=b;have sm1:=sm0
  have dn1:DnA R (arrOf st) lo (lo+(n+1)):=dnx _ (fun _=>rfl) (by
   have:n=1:=xdp (xcb hn1) n1;subst this
   simp)
  refine xbj (xka (xgu ⟨rfl,?_⟩));refine xbj (xff (xdo (I:=fun x c st'=>∃neq,c=(none,x,neq)/\Fl κ a₀ R st st' lo x neq (lo+nrem)) (Q:=fun c st'=>∃m neq,c=(none,m,neq)/\n+1<=m/\m<=nrem/\Fl κ a₀ R st st' lo m neq (lo+nrem)) ?_ ?_ ?_) ?_)
  ·rintro x c st' a1 a2 ⟨neq,rfl,f⟩;dsimp only;refine xbj (zlm O f.base (zbaf a2 hn) (zbae a2 hn) ?_);by_cases c:kA R (arrOf st') (lo+x) < kA R (arrOf st') (lo+x - 1)
   ·simp only[c,xhd,xfz];split
    ·obtain⟨f2,e⟩:=f.turn (xcj (xbw a2) lo) hn;refine xbj (zsm (xbm ⟨0,rfl,f2.fresh ?_⟩));refine xbw (?_:kA R (mirror _ _ _ _) _ < kA R (mirror _ _ _ _) _);rw[e,e];exact c
    ·exact xbm ⟨0,rfl,f.fresh (xbw c)⟩
   ·simp only[c,xii,xdc,xes];refine xbj (zlm O f.base (zbae a2 hn) (zbaf a2 hn) ?_);by_cases c2:kA R (arrOf st') (lo+x - 1) < kA R (arrOf st') (lo+x)
    ·simp only[c2,xhd,xfz];exact xbm ⟨x,neq,rfl,a1,xbw a2,f⟩
    ·simp only[c2,xii,xdc,xes];exact xbm ⟨neq+1,rfl,f.more (xdp (xcb c2) (xcb c))⟩
  ·rintro c st' ⟨neq,rfl,f⟩;rw[xlq hlt] at f ⊢;exact⟨nrem,neq,rfl,hlt,xbf _,f⟩
  ·exact⟨0,rfl,b1,sm1,dn1,xev (xed _),fun i g1 g2=>by
    have:i=lo+(n+1) - 1:=xdp (xcz g2) g1
    rw[this]⟩
  ·rintro c st' ⟨m,neq,rfl,a1,a2,f⟩;dsimp only;split
   ·obtain⟨f2,e⟩:=f.turn (xcj a2 lo) hn;refine xbj (zsm (xbj (zsm ?_)));obtain⟨b3,s3,u3⟩:=fin m _ f2.base f2.same (xdl a1) a2 f2.dn;exact xbj (zbal O b3 hn (xdl a1) a2 u3 fun m' m1 m2 hu' _=>xbm (h m' _ (xbc (xdl a1) m1) m2 b3 s3 hu'))
   ·refine xbj (zsm ?_);obtain⟨b3,s3,u3⟩:=fin m _ f.base f.same (xdl a1) a2 f.dn;exact xbj (zbal O b3 hn (xdl a1) a2 u3 fun m' m1 m2 hu' _=>xbm (h m' _ (xbc (xdl a1) m1) m2 b3 s3 hu'))
end
section
variable {prog:Program}{w:World}{A:Around}{E:Value->Shared->Prop}{s:Shared}{κ:SortKind}{a₀:Array Keyed}{R:Keyed->Nat}
theorem zns {xs:Array Keyed}{src d:Nat}(hs:src < xs.size)(hd:d<=src)(k:Nat):kA R (bubble xs src d) k=if k=src - d then kA R xs src else if src - d < k/\k<=src then kA R xs (k - 1) else kA R xs k:=by
 have e:=getElem?_bubble hs d hd k;split
 ·rename_i c;rw[if_pos c] at e;exact zdu e
 ·rename_i c;rw[if_neg c] at e;split
  ·rename_i c2;rw[if_pos c2] at e;exact zdu e
  ·rename_i c2;rw[if_neg c2] at e;exact zdu e
theorem zjs {a b n:Nat}(h1:a<=b)(h:b - a<=n - max 0 n):b=a:=by
 rw[Nat.zero_max,xjg] at h;exact xdp (Nat.le_of_sub_eq_zero (Nat.le_zero.mp h)) h1
theorem zbis {l r:Nat}(h:¬l ≥ r):l<=(l+r) / 2:=(Nat.le_div_iff_mul_le xly).mpr (by rw[Nat.mul_two];exact xcj (xbw (xfs h)) l)
theorem zbgd {l r:Nat}(h:¬l ≥ r):(l+r) / 2 < r:=(Nat.div_lt_iff_lt_mul xly).mpr (by rw[Nat.mul_two];exact Nat.add_lt_add_right (xfs h) r)
theorem hf_l {l r k x:Nat}(h:¬l ≥ r)(g:r - l<=k - x):(l+r) / 2 - l<=k - (x+1):=xbc (xdg (xei (zbis h) (zbgd h))) (xfi g 1)
theorem hf_r {l r k x:Nat}(h:¬l ≥ r)(g:r - l<=k - x):r - ((l+r) / 2+1)<=k - (x+1):=xbc (xhl (xev (zbis h)) r) (xfi g 1)
theorem zxi {p j q:Nat}(h:p < j)(h2:j<=q):j - 1 < q:=xbh (xhu (xjs h) Nat.one_pos) h2
theorem zbmd {lo n ok:Nat}{st:SortSt}{Q:Bool->SortSt->Prop}(O:Orc prog w A s κ a₀ R)(b:B κ a₀ st)(hn:lo+n<=a₀.size)(h1:1<=ok)(h2:ok<=n)(up:UpA R (arrOf st) lo (lo+ok))
  (h:∀st',B κ a₀ st'->Sm st st' lo (lo+n)->UpA R (arrOf st') lo (lo+n)->Q true st'):wpS (model prog w) A E s (binarySort' lo n ok) Q st:=by
 rw[binarySort'_eq]
 refine xbj (xff (xdo (I:=fun k c st'=>c=(none,())/\B κ a₀ st'/\Sm st st' lo (lo+n)/\UpA R (arrOf st') lo (lo+min k n))
  (Q:=fun c st'=>c=(none,())/\B κ a₀ st'/\Sm st st' lo (lo+n)/\UpA R (arrOf st') lo (lo+n)) ?_ ?_ ?_) ?_)
 ·rintro k c st' k1 k2 ⟨rfl,b1,sm1,up1⟩;rw[xej (xbw k2)] at up1;have hz:=b1.size;have hk:lo+k < a₀.size:=xbh (xeb k2 lo) hn
  refine xbj (xff (xdo (I:=fun x c st2=>st2=st'/\∃l r,c=(none,l,r)/\l<=r/\r<=k/\r - l<=k - x/\(∀i,i < l->kA R (arrOf st') (lo+i)<=kA R (arrOf st') (lo+k))/\(∀i,r<=i->i < k->kA R (arrOf st') (lo+k)<=kA R (arrOf st') (lo+i)))
   (Q:=fun c st2=>st2=st'/\∃l r,c=(none,l,r)/\l<=k/\(∀i,i < l->kA R (arrOf st') (lo+i)<=kA R (arrOf st') (lo+k))/\(∀i,l<=i->i < k->kA R (arrOf st') (lo+k)<=kA R (arrOf st') (lo+i))) ?_ ?_ ?_) ?_)
  ·rintro x c st2 x1 x2 ⟨rfl,l,r,rfl,g1,g2,g3,g4,g5⟩;dsimp only;by_cases hge:l ≥ r
   ·rw[if_pos hge];have e:l=r:=xdp g1 hge;subst e;exact xbm ⟨rfl,l,l,rfl,g2,g4,g5⟩
   ·have hm:lo+(l+r) / 2 < lo+k:=xeb (xbh (zbgd hge) g2) lo;rw[if_neg hge];refine xbj (zlm O b1 hk (xif hm hk) ?_);by_cases c:kA R (arrOf st2) (lo+k) < kA R (arrOf st2) (lo+(l+r) / 2)
    ·simp only[c,xhd,xfz];exact xbm ⟨rfl,l,(l+r) / 2,rfl,zbis hge,xbc (xbw (zbgd hge)) g2,hf_l hge g3,g4,fun i a1 a2=>xbc (xbw c) (up1 _ _ (xbz _ _) (xcj a1 lo) (xeb a2 lo))⟩
    ·simp only[c,xii,xdc,xes];exact xbm ⟨rfl,(l+r) / 2+1,r,rfl,zbgd hge,g2,hf_r hge g3,fun i a1=>xbc (up1 (lo+i) (lo+(l+r) / 2) (xbz _ _) (xcj (xcz a1) lo) hm) (xcb c),g5⟩
  ·rintro c st2 ⟨rfl,l,r,rfl,g1,g2,g3,g4,g5⟩;have e:=zjs g1 g3;subst e;exact⟨rfl,_,_,rfl,g2,g4,g5⟩
  ·exact⟨rfl,0,k,rfl,xed _,xbf _,xbf _,fun i hi=>absurd hi (Nat.not_lt_zero _),fun i a1 a2=>absurd a2 (xel a1)⟩
  ·rintro c st2 ⟨rfl,l,r,rfl,g1,g2,g3⟩;dsimp only;have hd:lo+k - (lo+k - (lo+l))=lo+l:=Nat.sub_sub_self (xcj g1 lo);have hs:lo+k < (arrOf st2).size:=by rw[hz];exact hk
   refine xbj (zbgj (xbm ⟨rfl,b1.set (bubble_perm _ _ _),⟨(Out.bubble hs (xgp _ _) (by rw[hd];exact xbz _ _) (xeb k2 lo)).trans sm1.out,sm1.pend⟩,fun i j a1 a2 a3=>?_⟩));show kA R (bubble (arrOf st2) (lo+k) (lo+k - (lo+l))) i<=kA R (bubble (arrOf st2) (lo+k) (lo+k - (lo+l))) j;rw[zns hs (xgp _ _),zns hs (xgp _ _),hd];rw[xej k2] at a3;have hj:j<=lo+k:=xcz a3;have low:∀q,lo<=q->q < lo+l->kA R (arrOf st2) q<=kA R (arrOf st2) (lo+k):=fun q q1 q2=>by
    have:=g2 (q - lo) (xdq q1 q2);rw[xcl q1] at this;exact this
   have hig:∀q,lo+l<=q->q < lo+k->kA R (arrOf st2) (lo+k)<=kA R (arrOf st2) q:=fun q q1 q2=>by
    have q0:=xbc (xbz _ _) q1;have:=g3 (q - lo) (xeq q1) (xdq q0 q2);rw[xcl q0] at this;exact this
   by_cases i1:i=lo+l
   ·rw[if_pos i1];by_cases j1:j=lo+l
    ·rw[if_pos j1];exact xbf _
    ·have jj:=xdd (i1 ▸ a2) (xct j1);rw[if_neg j1,if_pos ⟨jj,hj⟩];exact hig _ (xdg jj) (zxi jj hj)
   ·rw[if_neg i1];by_cases i2:lo+l < i/\i<=lo+k
    ·have jj:=xbh i2.1 a2;rw[if_pos i2,if_neg (xga jj),if_pos ⟨jj,hj⟩];exact up1 _ _ (xbc (xbz lo l) (xdg i2.1)) (xfi a2 1) (zxi jj hj)
    ·have il:i < lo+l:=xdd (xcb fun z=>i2 ⟨z,xbc a2 hj⟩) i1;rw[if_neg i2];by_cases j1:j=lo+l
     ·rw[if_pos j1];exact low i a1 il
     ·rw[if_neg j1];by_cases j2:lo+l < j/\j<=lo+k
      ·rw[if_pos j2];exact up1 _ _ a1 (xdg (xif il j2.1)) (zxi j2.1 hj)
      ·rw[if_neg j2];exact up1 _ _ a1 a2 (xbh (xdd (xcb fun z=>j2 ⟨z,hj⟩) j1) (xcj g1 lo))
 ·rintro c st' ⟨rfl,b1,sm1,up1⟩;rw[xik (Nat.le_max_right _ _)] at up1;exact⟨rfl,b1,sm1,up1⟩
 ·refine⟨rfl,b,⟨Out.refl _ _ _,rfl⟩,fun i j a1 a2 a3=>up i j a1 a2 (xbh a3 (xcj (xbc (xhv _ _) (xdk (Nat.max_eq_left h1))) lo))⟩
 ·rintro c st' ⟨rfl,b1,sm1,up1⟩;exact xbm (h st' b1 sm1 up1)
def gallop':Bool->Keyed->Array Keyed->Nat->Nat->Nat->StateT SortSt Sem (Option Nat):=sortPriv% PySem.Builtin.gallop
def Cut (left:Bool) (R:Keyed->Nat) (key:Keyed) (arr:Array Keyed) (base n h:Nat):Prop:=h<=n/\(∀i,i < h->if left then kA R arr (base+i) < R key else kA R arr (base+i)<=R key)/\(∀i,h<=i->i < n->if left then R key<=kA R arr (base+i) else R key < kA R arr (base+i))
def ahead (left:Bool) (R:Keyed->Nat) (key:Keyed) (arr:Array Keyed) (base i:Nat):Bool:=if left then decide (kA R arr (base+i) < R key) else decide (kA R arr (base+i)<=R key)
theorem zke {left:Bool}{key:Keyed}{arr:Array Keyed}{base i:Nat}{st:SortSt}{Q:Option Bool->SortSt->Prop}(O:Orc prog w A s κ a₀ R)(hk:kindOf st=κ)(mk:key∈a₀.toList)(ma:∃x,arr[base+i]?=some x/\x∈a₀.toList)(h:Q (some (ahead left R key arr base i)) st) :
  wpS (model prog w) A E s (do
   let x ← elem' arr (base+i)
   if left=true then lt' x key else do
    let y ← lt' key x
    pure (Option.map (fun x=>!x) y)) Q st:=by
 obtain⟨x,e,m⟩:=ma;refine xbj (zkd e ?_);unfold ahead at h;rw[zeb e] at h;cases left with
 | true =>
  rw[if_pos rfl] at h ⊢;exact w_lt O hk m mk h
 | false =>
  rw[if_neg (by decide)] at h ⊢;refine xbj (w_lt O hk mk m (xbm ?_));have q:(!decide (R key < R x))=decide (R x<=R key):=by
   by_cases c:R key < R x
   ·rw[xcv c,xbt (Nat.not_le_of_lt c)];rfl
   ·rw[xbt c,xcv (xcb c)];rfl
  show Q (some (!decide (R key < R x))) st;rw[q];exact h
theorem zsd {left:Bool}{key:Keyed}{arr:Array Keyed}{base n i j:Nat}(up:UpA R arr base (base+n))(hij:i<=j)(hj:j < n)(h:ahead left R key arr base j=true):ahead left R key arr base i=true:=by
 have:=up (base+i) (base+j) (xbz _ _) (xcj hij _) (xeb hj _);unfold ahead at h ⊢;cases left with
 | true=>rw[if_pos rfl] at h ⊢;exact xcv (xcs this (xgh h))
 | false=>rw[if_neg (by decide)] at h ⊢;exact xcv (xbc this (xgh h))
theorem zbfa {left:Bool}{key:Keyed}{arr:Array Keyed}{base n h:Nat}(h0:h<=n)(h1:∀i,i < h->ahead left R key arr base i=true)(h2:∀i,h<=i->i < n->ahead left R key arr base i=false):Cut left R key arr base n h:=by
 refine⟨h0,fun i hi=>?_,fun i a1 a2=>?_⟩
 ·have:=h1 i hi;unfold ahead at this;cases left with
  | true=>rw[if_pos rfl] at this ⊢;exact xgh this
  | false=>rw[if_neg (by decide)] at this ⊢;exact xgh this
 ·have:=h2 i a1 a2;unfold ahead at this;cases left with
  | true=>rw[if_pos rfl] at this ⊢;exact xcb (of_decide_eq_false this)
  | false=>rw[if_neg (by decide)] at this ⊢;exact xfs (of_decide_eq_false this)
theorem zvv {a b:Nat}(c:¬a ≥ b):(b - a) / 2 < b - a:=Nat.div_lt_self (xfl (xfs c)) (xbf 2)
theorem zbie {a b:Nat}(c:¬a ≥ b):a+(b - a) / 2 < b:=xdu (zvv c)
theorem zbaa {a b n:Nat}(c:¬a ≥ b)(h:b<=n):a+(b - a) / 2 < n:=xbh (zbie c) h
theorem zbcw {a b n x:Nat}(h:b - a<=n - x):b - (a+(b - a) / 2+1)<=n - (x+1):=xbc (xhl (xev (xbz a _)) b) (xfi h 1)
theorem zbcv {a b n x:Nat}(c:¬a ≥ b)(h:b - a<=n - x):a+(b - a) / 2 - a<=n - (x+1):=by
 rw[xcx];exact xbc (xdg (zvv c)) (xfi h 1)
theorem zbej (o:Nat):o < 2 * o+1:=Nat.lt_succ_of_le (Nat.le_mul_of_pos_left o xly)
theorem zbek {x o:Nat}(h:x+1<=o):x+1+1<=2 * o+1:=xev (xbc h (Nat.le_mul_of_pos_left o xly))
theorem zbat {a b n:Nat}(h:a+b < n):b < n - a:=Nat.lt_sub_of_add_lt (Nat.add_comm a b ▸ h)
inductive GI (f:Nat->Bool) (n:Nat) (st:SortSt) (x:Nat):Option (Option Nat)×Nat×Nat->SortSt->Prop where
 | mk {a b:Nat} (q1:a<=b) (q2:b<=n) (q3:b - a<=n - x) (q4:∀i,i < a->f i=true) (q5:∀i,b<=i->i < n->f i=false):GI f n st x (none,a,b) st
inductive GE (f:Nat->Bool) (n:Nat) (st:SortSt):Option (Option Nat)×Nat×Nat->SortSt->Prop where
 | mk {b:Nat} (q2:b<=n) (q4:∀i,i < b->f i=true) (q5:∀i,b<=i->i < n->f i=false):GE f n st (none,b,b) st
inductive GU (f:Nat->Bool) (n hint:Nat) (P:Nat->Prop) (st:SortSt):Option (Option Nat)×Nat×Nat->SortSt->Prop where
 | mk {l o:Nat} (g1:l < o) (g2:hint+l < n) (g3:f (hint+l)=true) (g4:P o):GU f n hint P st (none,l,o) st
inductive GD (f:Nat->Bool) (hint:Nat) (P:Nat->Prop) (st:SortSt):Option (Option Nat)×Nat×Nat->SortSt->Prop where
 | mk {l o:Nat} (g1:l < o) (g2:l<=hint) (g3:f (hint - l)=false) (g4:P o):GD f hint P st (none,l,o) st
theorem zgg {left:Bool}{key:Keyed}{arr:Array Keyed}{base n hint:Nat}{st:SortSt}{Q:Option Nat->SortSt->Prop}(O:Orc prog w A s κ a₀ R)(hk:kindOf st=κ)(mk:key∈a₀.toList)(ma:∀i,i < n->∃x,arr[base+i]?=some x/\x∈a₀.toList)(hh:hint < n)
  (up:UpA R arr base (base+n))(h:∀k,Cut left R key arr base n k->Q (some k) st):wpS (model prog w) A E s (gallop' left key arr base n hint) Q st:=by
 have mono:∀i j,i<=j->j < n->ahead left R key arr base j=true->ahead left R key arr base i=true:=fun i j a1 a2=>zsd up a1 a2
 have monoF:∀i j,i<=j->j < n->ahead left R key arr base i=false->ahead left R key arr base j=false:=fun i j a1 a2 e=>by
  cases c:ahead left R key arr base j with
  | false=>rfl
  | true=>rw[mono i j a1 a2 c] at e;cases e
 refine xbj (zke O hk mk (ma hint hh) ?_);dsimp only;cases hr:ahead left R key arr base hint with
 | true =>
  rw[if_pos rfl];refine xbj (xff (xdo (I:=fun x=>GU (ahead left R key arr base) n hint (x+1<=·) st) (Q:=GU (ahead left R key arr base) n hint (fun o=>n - hint<=o\/(hint+o < n/\ahead left R key arr base (hint+o)=false)) st) ?_ ?_ ?_) ?_)
  ·rintro x c st' x1 x2 @⟨l,o,g1,g2,g3,g4⟩;dsimp only;by_cases c:o ≥ n - hint
   ·rw[if_pos c];exact xbm (.mk g1 g2 g3 (.inl c))
   ·have c3:hint+o < n:=xdu (xfs c);rw[if_neg c];refine xbj (zke O hk mk (ma (hint+o) c3) ?_);dsimp only;cases c2:ahead left R key arr base (hint+o) with
    | true=>exact xbm (.mk (zbej o) c3 c2 (zbek g4))
    | false=>exact xbm (.mk g1 g2 g3 (.inr ⟨c3,c2⟩))
  ·rintro c st' @⟨l,o,g1,g2,g3,g4⟩;rw[Nat.zero_max] at g4;exact .mk g1 g2 g3 (.inl (xbc (xgp _ _) (xdi g4)))
  ·exact .mk Nat.one_pos hh hr (xbf _)
  ·rintro c st' @⟨l,o,g1,g2,g3,g4⟩;dsimp only;have f1:∀i,i < hint+l+1->ahead left R key arr base i=true:=fun i hi=>mono i (hint+l) (xcz hi) g2 g3
   have f2:∀i,hint+min o (n - hint)<=i->i < n->ahead left R key arr base i=false:=fun i a1 a2=>by
    rcases g4 with g | ⟨ga,gb⟩
    ·rw[xik g,xcl (xbw hh)] at a1;exact absurd a2 (xel a1)
    ·rw[xej (xbw (zbat ga))] at a1;exact monoF (hint+o) i a1 a2 gb
   have f3:hint+l+1<=hint+min o (n - hint):=xcj (Nat.le_min.mpr ⟨g1,zbat g2⟩) hint;have f4:hint+min o (n - hint)<=n:=xbc (xcj (xfr _ _) hint) (xdk (xcl (xbw hh)));generalize hint+l+1=lo at f1 f3 ⊢;generalize hint+min o (n - hint)=hi at f2 f3 f4 ⊢;refine xbj (xff (xdo (I:=GI (ahead left R key arr base) n st) (Q:=GE (ahead left R key arr base) n st) ?_ ?_ (.mk f3 f4 (xbc (xgp _ _) f4) f1 f2)) ?_)
   ·rintro x c st2 x1 x2 @⟨a,b,q1,q2,q3,q4,q5⟩;dsimp only;by_cases c:a ≥ b
    ·rw[if_pos c];have e:b=a:=xdp c q1;subst e;exact xbm (.mk q2 q4 q5)
    ·rw[if_neg c];refine xbj (zke O hk mk (ma (a+(b - a) / 2) (zbaa c q2)) ?_);dsimp only;cases c2:ahead left R key arr base (a+(b - a) / 2) with
     | true=>exact xbm (.mk (zbie c) q2 (zbcw q3) (fun i hi=>mono i (a+(b - a) / 2) (xcz hi) (zbaa c q2) c2) q5)
     | false=>exact xbm (.mk (xbz _ _) (xbw (zbaa c q2)) (zbcv c q3) q4 fun i a1 a2=>monoF (a+(b - a) / 2) i a1 a2 c2)
   ·rintro c st2 @⟨a,b,q1,q2,q3,q4,q5⟩;have e:=zjs q1 q3;subst e;exact .mk q2 q4 q5
   ·rintro c st2 @⟨b,q2,q4,q5⟩;exact xbm (h b (zbfa q2 q4 q5))
 | false =>
  rw[if_neg (by decide)];refine xbj (xff (xdo (I:=fun x=>GD (ahead left R key arr base) hint (x+1<=·) st) (Q:=GD (ahead left R key arr base) hint (fun o=>hint+1<=o\/(o<=hint/\ahead left R key arr base (hint - o)=true)) st) ?_ ?_ ?_) ?_)
  ·rintro x c st' x1 x2 @⟨l,o,g1,g2,g3,g4⟩;dsimp only;by_cases c:o ≥ hint+1
   ·rw[if_pos c];exact xbm (.mk g1 g2 g3 (.inl c))
   ·rw[if_neg c];refine xbj (zke O hk mk (ma (hint - o) (xcs (xgp _ _) hh)) ?_);dsimp only;cases c2:ahead left R key arr base (hint - o) with
    | true=>exact xbm (.mk g1 g2 g3 (.inr ⟨xcz (xfs c),c2⟩))
    | false=>exact xbm (.mk (zbej o) (xcz (xfs c)) c2 (zbek g4))
  ·rintro c st' @⟨l,o,g1,g2,g3,g4⟩;rw[Nat.zero_max] at g4;exact .mk g1 g2 g3 (.inl (xbc hh (xdi g4)))
  ·exact .mk Nat.one_pos (xed _) hr (xbf _)
  ·rintro c st' @⟨l,o,g1,g2,g3,g4⟩;dsimp only;have f1:∀i,i < hint+1 - min o (hint+1)->ahead left R key arr base i=true:=fun i hi=>by
    rcases g4 with g | ⟨ga,gb⟩
    ·rw[xik g,xjg] at hi;exact absurd hi (Nat.not_lt_zero _)
    ·rw[xej (xge ga),Nat.succ_sub ga] at hi;exact mono i (hint - o) (xcz hi) (xcs (xgp _ _) hh) gb
   have f2:∀i,hint - l<=i->i < n->ahead left R key arr base i=false:=fun i a1 a2=>monoF (hint - l) i a1 a2 g3
   have f3:hint+1 - min o (hint+1)<=hint - l:=xbc (xhl (Nat.le_min.mpr ⟨g1,xev g2⟩) _) (xdk (Nat.succ_sub_succ hint l));have f4:hint - l<=n:=xbc (xgp _ _) (xbw hh);generalize hint+1 - min o (hint+1)=lo at f1 f3 ⊢;generalize hint - l=hi at f2 f3 f4 ⊢;refine xbj (xff (xdo (I:=GI (ahead left R key arr base) n st) (Q:=GE (ahead left R key arr base) n st) ?_ ?_ (.mk f3 f4 (xbc (xgp _ _) f4) f1 f2)) ?_)
   ·rintro x c st2 x1 x2 @⟨a,b,q1,q2,q3,q4,q5⟩;dsimp only;by_cases c:a ≥ b
    ·rw[if_pos c];have e:b=a:=xdp c q1;subst e;exact xbm (.mk q2 q4 q5)
    ·rw[if_neg c];refine xbj (zke O hk mk (ma (a+(b - a) / 2) (zbaa c q2)) ?_);dsimp only;cases c2:ahead left R key arr base (a+(b - a) / 2) with
     | true=>exact xbm (.mk (zbie c) q2 (zbcw q3) (fun i hi=>mono i (a+(b - a) / 2) (xcz hi) (zbaa c q2) c2) q5)
     | false=>exact xbm (.mk (xbz _ _) (xbw (zbaa c q2)) (zbcv c q3) q4 fun i a1 a2=>monoF (a+(b - a) / 2) i a1 a2 c2)
   ·rintro c st2 @⟨a,b,q1,q2,q3,q4,q5⟩;have e:=zjs q1 q3;subst e;exact .mk q2 q4 q5
   ·rintro c st2 @⟨b,q2,q4,q5⟩;exact xbm (h b (zbfa q2 q4 q5))
end
section
variable {prog:Program}{w:World}{A:Around}{E:Value->Shared->Prop}{s:Shared}{κ:SortKind}{a₀:Array Keyed}{R:Keyed->Nat}
abbrev Ord (R:Keyed->Nat) (l:List Keyed):Prop:=l.Pairwise fun x y=>R x<=R y
structure SmG (st st':SortSt):Prop where
 arr:arrOf st'=arrOf st
 pend:pendingOf st'=pendingOf st
 kind:kindOf st'=kindOf st
 failed:failedOf st'=failedOf st
theorem SmG.refl (st:SortSt):SmG st st:=⟨rfl,rfl,rfl,rfl⟩
theorem SmG.trans {a b c:SortSt}(x:SmG a b)(y:SmG b c):SmG a c:=⟨y.arr.trans x.arr,y.pend.trans x.pend,y.kind.trans x.kind,y.failed.trans x.failed⟩
def mergeLo':Array Keyed->Array Keyed->StateT SortSt Sem (Array Keyed):=sortPriv% PySem.Builtin.mergeLo
def mergeHi':Array Keyed->Array Keyed->StateT SortSt Sem (Array Keyed):=sortPriv% PySem.Builtin.mergeHi
structure ML (R:Keyed->Nat) (all out rest:List Keyed):Prop where
 perm:(out++rest).Perm all
 ord:Ord R out
 le:∀x∈out,∀y∈rest,R x<=R y
theorem ML.grow {all out rest xs rest':List Keyed}(m:ML R all out rest)(p:rest.Perm (xs++rest'))(o:Ord R xs)(h:∀x∈xs,∀y∈rest',R x<=R y):ML R all (out++xs) rest':=by
 refine⟨?_,xgc.mpr ⟨m.ord,o,fun x hx y hy=>m.le x hx y (p.mem_iff.mpr (xhb _ hy))⟩,fun x hx y hy=>?_⟩
 ·rw[xbr];exact(xgx out p.symm).trans m.perm
 ·rcases xce.mp hx with hx | hx
  ·exact m.le x hx y (p.mem_iff.mpr (xdj _ hy))
  ·exact h x hx y hy
theorem ML.fin {all out rest rest':List Keyed}(m:ML R all out rest)(p:rest'.Perm rest)(o:Ord R rest'):(out++rest').Perm all/\Ord R (out++rest') :=
 ⟨(xgx out p).trans m.perm,xgc.mpr ⟨m.ord,o,fun x hx y hy=>m.le x hx y (p.mem_iff.mp hy)⟩⟩
theorem Ord.at {l:List Keyed}(h:Ord R l){i j:Nat}{x y:Keyed}(hi:l[i]?=some x)(hj:l[j]?=some y)(hij:i<=j):R x<=R y:=by
 obtain⟨h1,e1⟩:=xbo.mp hi;obtain⟨h2,e2⟩:=xbo.mp hj;by_cases c:i=j
 ·subst c;rw[← e1,← e2];exact xbf _
 ·rw[← e1,← e2];exact xjb.mp h i j h1 h2 (xdd hij c)
theorem Ord.drop {l:List Keyed}(h:Ord R l)(n:Nat):Ord R (l.drop n):=List.Pairwise.sublist (List.drop_sublist _ _) h
theorem Ord.take {l:List Keyed}(h:Ord R l)(n:Nat):Ord R (l.take n):=List.Pairwise.sublist (List.take_sublist _ _) h
theorem zbs {l:List Keyed}{n:Nat}{y:Keyed}(h:y∈l.drop n):∃j,n<=j/\l[j]?=some y:=by
 obtain⟨i,hi,e⟩:=xea h;refine⟨n+i,xbz _ _,?_⟩;rw[← e,List.getElem_drop];exact xbg _
theorem zw {l:List Keyed}{n:Nat}{y:Keyed}(h:y∈l.take n):∃j,j < n/\l[j]?=some y:=by
 obtain⟨i,hi,e⟩:=xea h;have hi2:i < n/\i < l.length:=by rw[xdw] at hi;exact Nat.lt_min.mp hi
 refine⟨i,hi2.1,?_⟩;rw[← e,List.getElem_take];exact xbg _
theorem zib {l:List Keyed}{i:Nat}{x:Keyed}(h:l[i]?=some x):l.drop i=x::l.drop (i+1):=by
 obtain⟨h1,rfl⟩:=xbo.mp h;exact xfa h1
theorem zkz (l:List Keyed)(i k:Nat):l.drop i=(l.drop i).take k++l.drop (i+k):=by
 rw[← xkp,xfv]
structure Two (R:Keyed->Nat) (la lb:List Keyed):Prop where
 oa:Ord R la
 ob:Ord R lb
 last:∀x,la[la.length - 1]?=some x->∀y∈lb,R y<=R x
def Fin (R:Keyed->Nat) (la lb:List Keyed) (r:Array Keyed):Prop:=r.toList.Perm (la++lb)/\Ord R r.toList
variable {la lb:List Keyed}{out:Array Keyed}{ia ib:Nat}
theorem ML.pushB {R:Keyed->Nat}{all:List Keyed}(T:Two R la lb)(m:ML R all out.toList (la.drop ia++lb.drop ib)){y:Keyed}(hy:lb[ib]?=some y)(h:∀z∈la.drop ia,R y<=R z):ML R all (out.push y).toList (la.drop ia++lb.drop (ib+1)):=by
 rw[xfm];refine m.grow ?_ (xjp _ _) fun x hx z hz=>?_
 ·rw[zib hy];exact List.perm_middle
 ·simp at hx;subst hx
  rcases xce.mp hz with hz | hz
  ·exact h z hz
  ·obtain⟨j,hj,e⟩:=zbs hz;exact T.ob.at hy e (xdi hj)
theorem ML.pushA {R:Keyed->Nat}{all:List Keyed}(T:Two R la lb)(m:ML R all out.toList (la.drop ia++lb.drop ib)){x:Keyed}(hx:la[ia]?=some x)(h:∀z∈lb.drop ib,R x<=R z):ML R all (out.push x).toList (la.drop (ia+1)++lb.drop ib):=by
 rw[xfm];refine m.grow ?_ (xjp _ _) fun w hw z hz=>?_
 ·rw[zib hx];exact .refl _
 ·simp at hw;subst hw
  rcases xce.mp hz with hz | hz
  ·obtain⟨j,hj,e⟩:=zbs hz;exact T.oa.at hx e (xdi hj)
  ·exact h z hz
theorem zcg (xs:Array Keyed)(i j:Nat):(xs.extract i j).toList=(xs.toList.drop i).take (j - i):=by
 rw[Array.toList_extract,List.extract_eq_take_drop]
theorem znz (xs:Array Keyed)(i:Nat):(xs.extract i).toList=xs.toList.drop i:=by
 rw[zcg];exact xgq (by simp)
theorem zcd {xs:Array Keyed}{i:Nat}{x:Keyed}(h:xs.toList[i]?=some x):kA R xs i=R x:=zeb (by rw[← xci];exact h)
end
section
variable {prog:Program}{w:World}{A:Around}{E:Value->Shared->Prop}{s:Shared}{κ:SortKind}{a₀:Array Keyed}{R:Keyed->Nat}{a b out:Array Keyed}{ia ib k:Nat}{y x:Keyed}{all:List Keyed}
theorem ML.galA (T:Two R a.toList b.toList)(m:ML R all out.toList (a.toList.drop ia++b.toList.drop ib))(hy:b.toList[ib]?=some y)(c:Cut false R y a ia (a.size - ia) k):ML R all (out++a.extract ia (ia+k)).toList (a.toList.drop (ia+k)++b.toList.drop ib)/\∀z∈a.toList.drop (ia+k),R y<=R z:=by
 have up:∀z∈a.toList.drop (ia+k),R y<=R z:=fun z hz=>by
  obtain⟨j,hj,e⟩:=zbs hz;have hj2:j < a.size:=by have:=(xbo.mp e).1;simpa using this
  have h0:=xbc (xbz _ _) hj;have:=c.2.2 (j - ia) (xeq hj) (xei h0 hj2);rw[xcl h0,zcd e] at this;exact xbw this
 have low:∀z∈(a.toList.drop ia).take k,R z<=R y:=fun z hz=>by
  obtain⟨j,hj,e⟩:=zw hz;rw[xfd] at e;have:=c.2.1 j hj;rw[zcd e] at this;exact this
 refine⟨?_,up⟩;rw[xde,zcg,xcx];refine m.grow ?_ ((T.oa.drop ia).take k) fun z hz v hv=>?_
 ·conv=>lhs;rw[zkz a.toList ia k]
  rw[xbr]
 ·rcases xce.mp hv with hv | hv
  ·exact xbc (low z hz) (up v hv)
  ·obtain⟨j,hj,e⟩:=zbs hv;exact xbc (low z hz) (T.ob.at hy e hj)
theorem ML.galB (T:Two R a.toList b.toList)(m:ML R all out.toList (a.toList.drop ia++b.toList.drop ib))(hx:a.toList[ia]?=some x)(c:Cut true R x b ib (b.size - ib) k):ML R all (out++b.extract ib (ib+k)).toList (a.toList.drop ia++b.toList.drop (ib+k))/\∀z∈b.toList.drop (ib+k),R x<=R z:=by
 have up:∀z∈b.toList.drop (ib+k),R x<=R z:=fun z hz=>by
  obtain⟨j,hj,e⟩:=zbs hz;have hj2:j < b.size:=by have:=(xbo.mp e).1;simpa using this
  have h0:=xbc (xbz _ _) hj;have:=c.2.2 (j - ib) (xeq hj) (xei h0 hj2);rw[xcl h0,zcd e] at this;exact this
 have low:∀z∈(b.toList.drop ib).take k,R z<=R x:=fun z hz=>by
  obtain⟨j,hj,e⟩:=zw hz;rw[xfd] at e;have:=c.2.1 j hj;rw[zcd e] at this;exact xbw this
 refine⟨?_,up⟩;rw[xde,zcg,xcx];refine m.grow ?_ ((T.ob.drop ib).take k) fun z hz v hv=>?_
 ·conv=>lhs;rw[zkz b.toList ib k]
  rw[← xbr,← xbr];exact xib _ xgy
 ·rcases xce.mp hv with hv | hv
  ·obtain⟨j,hj,e⟩:=zbs hv;exact xbc (low z hz) (T.oa.at hx e hj)
  ·exact xbc (low z hz) (up v hv)
theorem ML.done (T:Two R a.toList b.toList)(m:ML R (a.toList++b.toList) out.toList (a.toList.drop ia++b.toList.drop ib))(h:ia=a.size\/ib=b.size):Fin R a.toList b.toList (out++a.extract ia++b.extract ib):=by
 unfold Fin;rw[xde,xde,znz,znz,xbr];refine m.fin (.refl _) ?_;rcases h with rfl | rfl
 ·rw[xgr (by simp),xfb];exact T.ob.drop _
 ·rw[xgr (as:=b.toList) (by simp),xeg];exact T.oa.drop _
theorem ML.lastA (T:Two R a.toList b.toList)(m:ML R (a.toList++b.toList) out.toList (a.toList.drop ia++b.toList.drop ib))(h:ia+1=a.size):Fin R a.toList b.toList (out++b.extract ib++a.extract ia):=by
 unfold Fin;rw[xde,xde,znz,znz,xbr];refine m.fin xgy (xgc.mpr ⟨T.ob.drop _,T.oa.drop _,fun v hv z hz=>?_⟩);obtain⟨j,hj,e⟩:=zbs hz;have hj2:j < a.size:=by have:=(xbo.mp e).1;simpa using this
 have:j=a.toList.length - 1:=xdp (xdg (by rw[xca];exact hj2)) (by rw[xca,← h];exact hj);subst this;exact T.last z e v (List.mem_of_mem_drop hv)
def setG':Nat->StateT SortSt Sem Unit:=sortPriv% PySem.Builtin.setMinGallop
theorem zsl {g:Nat}{st:SortSt}{Q:Unit->SortSt->Prop}(h:∀st',SmG st st'->Q () st'):wpS (model prog w) A E s (setG' g) Q st :=
 xgt (h _ ⟨rfl,rfl,rfl,rfl⟩)
theorem zblf {α:Type}{K:Nat->StateT SortSt Sem α}{Q:α->SortSt->Prop}{st:SortSt}(h:∀v,wpS (model prog w) A E s (K v) Q st):∀y x:Nat,wpS (model prog w) A E s (if y > 1 then K x else K y) Q st:=fun y x=>by
 by_cases e:y > 1
 ·rw[if_pos e];exact h x
 ·rw[if_neg e];exact h y
theorem zblh {α:Type}{c c2:Prop}[Decidable c][Decidable c2]{X Y Y':StateT SortSt Sem α}{Q:α->SortSt->Prop}{st:SortSt}(hY:¬c->Y'=Y)(h1:c->c2->wpS (model prog w) A E s X Q st)(h2:(c->¬c2)->wpS (model prog w) A E s Y Q st):wpS (model prog w) A E s (if c then(if c2 then X else Y) else Y') Q st:=by
 by_cases e:c
 ·rw[if_pos e];by_cases e2:c2
  ·rw[if_pos e2];exact h1 e e2
  ·rw[if_neg e2];exact h2 fun _=>e2
 ·rw[if_neg e,hY e];exact h2 fun z=>absurd z e
theorem zbaj {α:Type}{c c2 c3:Prop}[Decidable c][Decidable c2][Decidable c3]{X X3 Y Y':StateT SortSt Sem α}{Q:α->SortSt->Prop}{st:SortSt}(hY:¬c->Y'=Y)(h1:c->c2->wpS (model prog w) A E s X Q st)(h3:c->c3->wpS (model prog w) A E s X3 Q st)(h2:(c->¬c2/\¬c3)->wpS (model prog w) A E s Y Q st):wpS (model prog w) A E s (if c then(if c2 then X else if c3 then X3 else Y) else Y') Q st:=by
 by_cases e:c
 ·rw[if_pos e];by_cases e2:c2
  ·rw[if_pos e2];exact h1 e e2
  ·rw[if_neg e2];by_cases e3:c3
   ·rw[if_pos e3];exact h3 e e3
   ·rw[if_neg e3];exact h2 fun _=>⟨e2,e3⟩
 ·rw[if_neg e,hY e];exact h2 fun z=>absurd z e
theorem zblg {α:Type}{c c2:Prop}[Decidable c][Decidable c2]{X X2 Y:StateT SortSt Sem α}{Q:α->SortSt->Prop}{st:SortSt}(h1:c->wpS (model prog w) A E s X Q st)(h2:c2->wpS (model prog w) A E s X2 Q st)(h3:¬c->¬c2->wpS (model prog w) A E s Y Q st):wpS (model prog w) A E s (if c then X else if c2 then X2 else Y) Q st:=by
 by_cases e:c
 ·rw[if_pos e];exact h1 e
 ·rw[if_neg e];by_cases e2:c2
  ·rw[if_pos e2];exact h2 e2
  ·rw[if_neg e2];exact h3 e e2
theorem w_if {α:Type}{c:Prop}[Decidable c]{X Y:StateT SortSt Sem α}{Q:α->SortSt->Prop}{st:SortSt}(h1:c->wpS (model prog w) A E s X Q st)(h2:¬c->wpS (model prog w) A E s Y Q st):wpS (model prog w) A E s (if c then X else Y) Q st:=by
 by_cases e:c
 ·rw[if_pos e];exact h1 e
 ·rw[if_neg e];exact h2 e
theorem w_el {α:Type}{arr:Array Keyed}{i:Nat}{x:Keyed}{f:Keyed->StateT SortSt Sem α}{Q:α->SortSt->Prop}{st:SortSt}(e:arr[i]?=some x)(h:wpS (model prog w) A E s (f x) Q st):wpS (model prog w) A E s (elem' arr i >>= f) Q st:=xbj (zkd e h)
theorem zbai {α:Type}{x y:Keyed}{f:Option Bool->StateT SortSt Sem α}{Q:α->SortSt->Prop}{st:SortSt}(O:Orc prog w A s κ a₀ R)(hk:kindOf st=κ)(hx:x∈a₀.toList)(hy:y∈a₀.toList)(h1:R x < R y->wpS (model prog w) A E s (f (some true)) Q st)(h2:R y<=R x->wpS (model prog w) A E s (f (some false)) Q st):wpS (model prog w) A E s (lt' x y >>= f) Q st:=by
 refine xbj (w_lt O hk hx hy ?_);by_cases c:R x < R y
 ·rw[xcv c];exact h1 c
 ·rw[xbt c];exact h2 (xcb c)
inductive Dn {β:Type} (R:Keyed->Nat) (a b:Array Keyed) (st:SortSt):Option (Array Keyed)×β->SortSt->Prop where
 | mk {r:Array Keyed} {z:β} {st':SortSt} (sm:SmG st st') (f:Fin R a.toList b.toList r):Dn R a b st (some r,z) st'
inductive L1 (R:Keyed->Nat) (a b:Array Keyed) (st:SortSt) (x:Nat):Option (Array Keyed)×Array Keyed×Nat×Nat×Nat->SortSt->Prop where
 | mk {out:Array Keyed} {ia ib g:Nat} {st':SortSt} (sm:SmG st st') (m:ML R (a.toList++b.toList) out.toList (a.toList.drop ia++b.toList.drop ib)) (ha:ia+1 < a.size) (hb:ib < b.size) (hx:x < ia+ib):L1 R a b st x (none,out,ia,ib,g) st'
inductive L2' (R:Keyed->Nat) (a b:Array Keyed) (st:SortSt) (x:Nat):Option (Array Keyed)×Array Keyed×Nat×Nat×Nat×Nat->SortSt->Prop where
 | mk {out:Array Keyed} {ia ib ac bc:Nat} {st':SortSt} (sm:SmG st st') (m:ML R (a.toList++b.toList) out.toList (a.toList.drop ia++b.toList.drop ib)) (ha:ia+1 < a.size) (hb:ib < b.size) (hx:x<=ia+ib):L2' R a b st x (none,out,ia,ib,ac,bc) st'
inductive L3 (R:Keyed->Nat) (a b:Array Keyed) (st:SortSt) (x:Nat):Option (Array Keyed)×Array Keyed×Nat×Nat×Nat×Nat×Nat->SortSt->Prop where
 | mk {out:Array Keyed} {ia ib g ac bc:Nat} {st':SortSt} (sm:SmG st st') (m:ML R (a.toList++b.toList) out.toList (a.toList.drop ia++b.toList.drop ib)) (ha:ia+1 < a.size) (hb:ib < b.size) (hx:x<=ia+ib):L3 R a b st x (none,out,ia,ib,g,ac,bc) st'
theorem zsn {st:SortSt}{Q:Array Keyed->SortSt->Prop}(O:Orc prog w A s κ a₀ R)(hk:kindOf st=κ)(ma:∀x∈a.toList,x∈a₀.toList)(mb:∀x∈b.toList,x∈a₀.toList)(T:Two R a.toList b.toList)(ha:1<=a.size)(hb:1<=b.size)
  (fst:∀y,b.toList[0]?=some y->∀x∈a.toList,R y<=R x)(h:∀r st',SmG st st'->Fin R a.toList b.toList r->Q r st'):wpS (model prog w) A E s (mergeLo' a b) Q st:=by
 have atA:∀(i:Nat) (hi:i < a.size),a[i]?=some a[i]/\a.toList[i]?=some a[i]/\a[i]∈a₀.toList:=fun i hi=>⟨getElem?_pos a i hi,by rw[xci];exact getElem?_pos a i hi,ma _ (by simp)⟩
 have atB:∀(i:Nat) (hi:i < b.size),b[i]?=some b[i]/\b.toList[i]?=some b[i]/\b[i]∈a₀.toList:=fun i hi=>⟨getElem?_pos b i hi,by rw[xci];exact getElem?_pos b i hi,mb _ (by simp)⟩
 have upA:∀i,UpA R a i (i+(a.size - i)):=fun i p q a1 a2 a3=>by
  have hq:q < a.size:=by lia
  have e1:=(atA p (by lia)).2.1;have e2:=(atA q hq).2.1;rw[zcd e1,zcd e2];exact T.oa.at e1 e2 a2
 have upB:∀i,UpA R b i (i+(b.size - i)):=fun i p q a1 a2 a3=>by
  have hq:q < b.size:=by lia
  have e1:=(atB p (by lia)).2.1;have e2:=(atB q hq).2.1;rw[zcd e1,zcd e2];exact T.ob.at e1 e2 a2
 obtain⟨y0,f0,f1⟩:∃x,b[0]?=some x/\b.toList[0]?=some x:=⟨_,(atB 0 hb).1,(atB 0 hb).2.1⟩
 have start:ML R (a.toList++b.toList) (#[y0]:Array Keyed).toList (a.toList.drop 0++b.toList.drop 1):=by
  have z:ML R (a.toList++b.toList) (#[]:Array Keyed).toList (a.toList.drop 0++b.toList.drop 0):=⟨by simp,List.Pairwise.nil,by simp⟩
  exact z.pushB T f1 fun x hx=>fst y0 f1 x (List.mem_of_mem_drop hx)
 refine xbj (xka (xgu ⟨rfl,xbj (zkd f0 (zblg (fun c1=>?_) (fun c2=>?_) fun c1 c2=>?_))⟩))
 ·exact xbm (h _ _ (.refl _) (start.done T (.inr (by simpa using c1))))
 ·exact xbm (h _ _ (.refl _) (start.lastA T (by simpa using c2)))
 simp only[xfj] at c1 c2;refine xbj (xhr ?_);refine xbj (xff (xdo (I:=L1 R a b st) (Q:=Dn R a b st) ?_ ?_ (.mk (.refl _) start (by lia) (by lia) (by lia))) ?_)
 ·rintro x c st1 x1 x2 @⟨out,ia,ib,g,st1,sm1,m,ha1,hb1,hx⟩;dsimp only;refine xbj (xff (xdo (I:=fun _=>L2' R a b st (ia+ib)) (Q:=fun c st'=>Dn R a b st c st'\/L2' R a b st (ia+ib) c st') ?_ ?_ (.mk sm1 m ha1 hb1 (xbf _))) ?_)
  ·rintro x' c st2 _ _ @⟨out,ia',ib',ac,bc,st2,sm2,m,ha2,hb2,hp⟩;dsimp only;have ea:=(atA ia' (xew ha2)).1;have ela:=(atA ia' (xew ha2)).2.1;have mea:=(atA ia' (xew ha2)).2.2;have eb:=(atB ib' hb2).1;have elb:=(atB ib' hb2).2.1;have meb:=(atB ib' hb2).2.2;refine w_el eb (w_el ea (zbai O (sm2.kind.trans hk) meb mea (fun cw=>w_el eb ?_) fun cw=>w_el ea ?_))
   ·skip
    have m2:=m.pushB T elb fun z hz=>by
     obtain⟨j,hj,e⟩:=zbs hz;exact xbc (xbw cw) (T.oa.at ela e hj)
    refine w_if (fun c5=>xbm (.inl (.mk sm2 (m2.done T (.inr (eq_of_beq c5)))))) fun c5=>?_
    rw[xfj] at c5;have hb3:ib'+1 < b.size:=xdd hb2 c5;have hp3:ia+ib<=ia'+(ib'+1):=xge hp;exact w_if (fun _=>xbm (.inr (.mk sm2 m2 ha2 hb3 hp3))) fun _=>xbm (.mk sm2 m2 ha2 hb3 hp3)
   ·skip
    have m2:=m.pushA T ela fun z hz=>by
     obtain⟨j,hj,e⟩:=zbs hz;exact xbc cw (T.ob.at elb e hj)
    refine w_if (fun c5=>xbm (.inl (.mk sm2 (m2.lastA T (eq_of_beq c5))))) fun c5=>?_
    rw[xfj] at c5;have ha3:ia'+1+1 < a.size:=xdd ha2 c5;have hp3:ia+ib<=ia'+1+ib':=Nat.succ_add ia' ib' ▸ xge hp
    exact w_if (fun _=>xbm (.inr (.mk sm2 m2 ha3 hb2 hp3))) fun _=>xbm (.mk sm2 m2 ha3 hb2 hp3)
  ·exact fun c st2 k=>.inr k
  ·rintro c st2 (⟨sm2,f⟩ | @⟨out,ia',ib',ac,bc,st2,sm2,m,ha2,hb2,hp⟩)
   ·exact xbm (.mk sm2 f)
   ·dsimp only;refine xbj (xka (xgu ⟨rfl,?_⟩));refine xbj (xff (xdo (I:=fun x'=>L3 R a b st (ia+ib+x')) (Q:=fun c st'=>Dn R a b st c st'\/L3 R a b st (ia+ib+1) c st') ?_ ?_ (.mk sm2 m ha2 hb2 hp)) ?_)
    ·rintro x' c st3 _ x2' @⟨out,ia',ib',g',ac,bc,st3,sm3,m,ha2,hb2,hp⟩;dsimp only;have eb:=(atB ib' hb2).1;have elb:=(atB ib' hb2).2.1;have meb:=(atB ib' hb2).2.2;generalize g' - 1=g1;generalize g'=y;revert g1;revert y
     refine zblf ?_;intro gg;refine xbj (zsl fun st4 sg=>?_);have sm4:=sm3.trans sg;refine w_el eb (xbj (zgg O (sm4.kind.trans hk) meb (fun i hi=>⟨_,(atA (ia'+i) (xdu hi)).1,(atA (ia'+i) (xdu hi)).2.2⟩) (xfl (xew ha2)) (upA ia') fun k1 cut1=>?_));have m5:=(m.galA T elb cut1).1;have u5:=(m.galA T elb cut1).2;have hk1:=cut1.1;dsimp only;refine zbaj (fun c6=>?_) (fun c6 c7=>?_) (fun c6 c8=>?_) fun hh=>?_
     ·have z:k1=0:=Nat.le_zero.mp (xcb c6);subst z;simp only[xjh,xig (xhv _ _),xhw]
     ·exact xbm (.inl (.mk sm4 (m5.lastA T (eq_of_beq c7))))
     ·exact xbm (.inl (.mk sm4 (m5.done T (.inl (eq_of_beq c8)))))
     have ha5:ia'+k1+1 < a.size:=by
      by_cases c6:k1 > 0
      ·have:=hh c6;simp at this;lia
      ·lia
     have hp5:ia+ib+x'<=ia'+k1+ib':=xbc hp (Nat.add_le_add_right (xbz _ _) _);clear hh;generalize ia'+k1=ia5 at m5 u5 ha5 hp5 ⊢;generalize out++a.extract ia' ia5=out5 at m5 ⊢;have m6:=m5.pushB T elb u5;have ea:=(atA _ (xew ha5)).1;have ela:=(atA _ (xew ha5)).2.1;have mea:=(atA _ (xew ha5)).2.2;refine w_el eb (w_if (fun c9=>xbm (.inl (.mk sm4 (m6.done T (.inr (eq_of_beq c9)))))) fun c9=>w_el ea ?_);rw[xfj] at c9;refine xbj (zgg O (sm4.kind.trans hk) mea (fun i hi=>⟨_,(atB (ib'+1+i) (xdu hi)).1,(atB (ib'+1+i) (xdu hi)).2.2⟩) (xfl (xdd hb2 c9)) (upB (ib'+1)) fun k2 cut2=>?_);have m7:=(m6.galB T ela cut2).1;have u7:=(m6.galB T ela cut2).2;have hk2:=cut2.1;dsimp only;refine zblh (fun d6=>?_) (fun d6 d7=>?_) fun hh=>?_
     ·have z2:k2=0:=Nat.le_zero.mp (xcb d6);subst z2;simp only[xjh,xig (xhv _ _),xhw]
     ·exact xbm (.inl (.mk sm4 (m7.done T (.inr (eq_of_beq d7)))))
     have h20:ib'+1+k2≠b.size:=by
      by_cases d6:k2 > 0
      ·have:=hh d6;simp at this;lia
      ·lia
     have m8:=m7.pushA T ela u7;refine w_el ea (w_if (fun d8=>xbm (.inl (.mk sm4 (m8.lastA T (eq_of_beq d8))))) fun d8=>?_);rw[xfj] at d8;have ha9:ia5+1+1 < a.size:=xdd ha5 d8;have hb9:ib'+1+k2 < b.size:=by lia
     have hp9:ia+ib+(x'+1)<=ia5+1+(ib'+1+k2):=by lia
     exact w_if (fun _=>xbm (.inr (.mk sm4 m8 ha9 hb9 (xbc (xcj (xlv 1 x') _) hp9)))) fun _=>xbm (.mk sm4 m8 ha9 hb9 hp9)
    ·rintro c st3 ⟨sm3,m,ha2,hb2,hp⟩;exact .inr (.mk sm3 m ha2 hb2 (by lia))
    ·rintro c st3 (⟨sm3,f⟩ | ⟨sm3,m,ha2,hb2,hp⟩)
     ·exact xbm (.mk sm3 f)
     ·exact xbj (zsl fun st4 sg=>xbm (.mk (sm3.trans sg) m ha2 hb2 (xbh (Nat.succ_lt_succ hx) hp)))
 ·rintro c st1 ⟨sm1,m,ha1,hb1,hx⟩;lia
 ·rintro c st1 ⟨sm1,f⟩;exact xbm (h _ st1 sm1 f)
end
structure MH (R:Keyed->Nat) (all out rest:List Keyed):Prop where
 perm:(rest++out.reverse).Perm all
 ord:Ord R out.reverse
 le:∀x∈rest,∀y∈out,R x<=R y
section
variable {R:Keyed->Nat}
theorem MH.grow {all out rest xs rest':List Keyed}(m:MH R all out rest)(p:rest.Perm (rest'++xs.reverse))(o:Ord R xs.reverse)(h:∀x∈rest',∀y∈xs,R x<=R y):MH R all (out++xs) rest':=by
 refine⟨?_,?_,fun x hx y hy=>?_⟩
 ·rw[List.reverse_append,← xbr];exact(xib _ p.symm).trans m.perm
 ·rw[List.reverse_append];exact xgc.mpr ⟨o,m.ord,fun x hx y hy=>m.le x (p.mem_iff.mpr (xdj _ hx)) y (xjy.mp hy)⟩
 ·rcases xce.mp hy with hy | hy
  ·exact m.le x (p.mem_iff.mpr (xhb _ hx)) y hy
  ·exact h x hx y hy
theorem MH.fin {all out rest rest':List Keyed}(m:MH R all out rest)(p:rest'.Perm rest)(o:Ord R rest'):(rest'++out.reverse).Perm all/\Ord R (rest'++out.reverse) :=
 ⟨(xib _ p).trans m.perm,xgc.mpr ⟨o,m.ord,fun x hx y hy=>m.le x (p.mem_iff.mp hx) y (xjy.mp hy)⟩⟩
theorem zhn {l:List Keyed}{i:Nat}{x:Keyed}(h:l[i]?=some x):l.take (i+1)=l.take i++[x]:=by
 obtain⟨h1,rfl⟩:=xbo.mp h;exact xhf h1
structure TwoH (R:Keyed->Nat) (la lb:List Keyed):Prop where
 oa:Ord R la
 ob:Ord R lb
 first:∀y,lb[0]?=some y->∀x∈la,R y<=R x
variable {la lb all:List Keyed}{out:Array Keyed}{na nb:Nat}
theorem MH.pushB (T:TwoH R la lb)(m:MH R all out.toList (la.take na++lb.take (nb+1))){y:Keyed}(hy:lb[nb]?=some y)(h:∀z∈la.take na,R z<=R y):MH R all (out.push y).toList (la.take na++lb.take nb):=by
 rw[xfm];refine m.grow ?_ (by simp) fun z hz w hw=>?_
 ·rw[zhn hy];simp
 ·simp at hw;subst hw
  rcases xce.mp hz with hz | hz
  ·exact h z hz
  ·obtain⟨j,hj,e⟩:=zw hz;exact T.ob.at e hy (by lia)
theorem MH.pushA (T:TwoH R la lb)(m:MH R all out.toList (la.take (na+1)++lb.take nb)){x:Keyed}(hx:la[na]?=some x)(h:∀z∈lb.take nb,R z<=R x):MH R all (out.push x).toList (la.take na++lb.take nb):=by
 rw[xfm];refine m.grow ?_ (by simp) fun z hz w hw=>?_
 ·rw[zhn hx];simp only[List.reverse_singleton,xbr];exact xgx _ xgy
 ·simp at hw;subst hw
  rcases xce.mp hz with hz | hz
  ·obtain⟨j,hj,e⟩:=zw hz;exact T.oa.at e hx (by lia)
  ·exact h z hz
end
section
variable {prog:Program}{w:World}{A:Around}{E:Value->Shared->Prop}{s:Shared}{κ:SortKind}{a₀:Array Keyed}{R:Keyed->Nat}{a b out:Array Keyed}{na nb k:Nat}{y x:Keyed}{all:List Keyed}
theorem zro (l:List Keyed){k n:Nat}(h:k<=n):l.take n=l.take k++(l.drop k).take (n - k):=by
 conv=>lhs;rw[show n=k+(n - k) by lia,List.take_add]
theorem MH.galA (T:TwoH R a.toList b.toList)(m:MH R all out.toList (a.toList.take na++b.toList.take (nb+1)))(hy:b.toList[nb]?=some y)(hn:na<=a.size)(c:Cut false R y a 0 na k):MH R all (out++(a.extract k na).reverse).toList (a.toList.take k++b.toList.take (nb+1))/\∀z∈a.toList.take k,R z<=R y:=by
 have low:∀z∈a.toList.take k,R z<=R y:=fun z hz=>by
  obtain⟨j,hj,e⟩:=zw hz;have:=c.2.1 j hj;rw[xdx,zcd e] at this;exact this
 have up:∀z∈(a.toList.drop k).take (na - k),R y<=R z:=fun z hz=>by
  obtain⟨j,hj,e⟩:=zw hz;rw[xfd] at e;have:=c.2.2 (k+j) (by lia) (by lia);rw[xdx,zcd e] at this;exact xbw this
 refine⟨?_,low⟩;rw[xde,xil,zcg];refine m.grow ?_ (by rw[xim];exact(T.oa.drop k).take _) fun v hv z hz=>?_
 ·rw[xim,zro a.toList c.1,xbr,xbr];exact xgx _ xgy
 ·have hz:=up z (xjy.mp hz);rcases xce.mp hv with hv | hv
  ·exact xbc (low v hv) hz
  ·obtain⟨j,hj,e⟩:=zw hv;exact xbc (T.ob.at e hy (by lia)) hz
theorem MH.galB (T:TwoH R a.toList b.toList)(m:MH R all out.toList (a.toList.take (na+1)++b.toList.take nb))(hx:a.toList[na]?=some x)(hn:nb<=b.size)(c:Cut true R x b 0 nb k):MH R all (out++(b.extract k nb).reverse).toList (a.toList.take (na+1)++b.toList.take k)/\∀z∈b.toList.take k,R z<=R x:=by
 have low:∀z∈b.toList.take k,R z<=R x:=fun z hz=>by
  obtain⟨j,hj,e⟩:=zw hz;have:=c.2.1 j hj;rw[xdx,zcd e] at this;exact xbw this
 have up:∀z∈(b.toList.drop k).take (nb - k),R x<=R z:=fun z hz=>by
  obtain⟨j,hj,e⟩:=zw hz;rw[xfd] at e;have:=c.2.2 (k+j) (by lia) (by lia);rw[xdx,zcd e] at this;exact this
 refine⟨?_,low⟩;rw[xde,xil,zcg];refine m.grow ?_ (by rw[xim];exact(T.ob.drop k).take _) fun v hv z hz=>?_
 ·rw[xim,zro b.toList c.1,xbr]
 ·have hz:=up z (xjy.mp hz);rcases xce.mp hv with hv | hv
  ·obtain⟨j,hj,e⟩:=zw hv;exact xbc (T.oa.at e hx (by lia)) hz
  ·exact xbc (low v hv) hz
theorem zjx (xs:Array Keyed)(n:Nat):(xs.extract 0 n).toList=xs.toList.take n:=by
 rw[zcg,List.drop_zero,Nat.sub_zero]
theorem MH.done (T:TwoH R a.toList b.toList)(m:MH R (a.toList++b.toList) out.toList (a.toList.take na++b.toList.take nb))(h:na=0\/nb=0):Fin R a.toList b.toList (a.extract 0 na++b.extract 0 nb++out.reverse):=by
 unfold Fin;rw[xde,xde,zjx,zjx,xil];refine m.fin (.refl _) ?_;rcases h with rfl | rfl
 ·rw[List.take_zero,xfb];exact T.ob.take _
 ·rw[List.take_zero,xeg];exact T.oa.take _
theorem MH.firstB (T:TwoH R a.toList b.toList)(m:MH R (a.toList++b.toList) out.toList (a.toList.take na++b.toList.take nb))(h:nb=1):Fin R a.toList b.toList (b.extract 0 nb++a.extract 0 na++out.reverse):=by
 unfold Fin;rw[xde,xde,zjx,zjx,xil];refine m.fin xgy (xgc.mpr ⟨T.ob.take _,T.oa.take _,fun v hv z hz=>?_⟩);obtain⟨j,hj,e⟩:=zw hv;have:j=0:=by lia
 subst this;exact T.first v e z (xhc hz)
inductive H1 (R:Keyed->Nat) (a b:Array Keyed) (st:SortSt) (x:Nat):Option (Array Keyed)×Nat×Nat×Array Keyed×Nat->SortSt->Prop where
 | mk {na nb:Nat} {out:Array Keyed} {g:Nat} {st':SortSt} (sm:SmG st st') (m:MH R (a.toList++b.toList) out.toList (a.toList.take na++b.toList.take nb)) (a1:1<=na) (a2:na<=a.size) (b1:2<=nb) (b2:nb<=b.size) (hx:x+na+nb < a.size+b.size):H1 R a b st x (none,na,nb,out,g) st'
inductive H2 (R:Keyed->Nat) (a b:Array Keyed) (st:SortSt) (x:Nat):Option (Array Keyed)×Nat×Nat×Array Keyed×Nat×Nat->SortSt->Prop where
 | mk {na nb:Nat} {out:Array Keyed} {ac bc:Nat} {st':SortSt} (sm:SmG st st') (m:MH R (a.toList++b.toList) out.toList (a.toList.take na++b.toList.take nb)) (a1:1<=na) (a2:na<=a.size) (b1:2<=nb) (b2:nb<=b.size) (hx:na+nb<=x):H2 R a b st x (none,na,nb,out,ac,bc) st'
inductive H3 (R:Keyed->Nat) (a b:Array Keyed) (st:SortSt) (x y:Nat):Option (Array Keyed)×Nat×Nat×Array Keyed×Nat×Nat×Nat->SortSt->Prop where
 | mk {na nb:Nat} {out:Array Keyed} {g ac bc:Nat} {st':SortSt} (sm:SmG st st') (m:MH R (a.toList++b.toList) out.toList (a.toList.take na++b.toList.take nb)) (a1:1<=na) (a2:na<=a.size) (b1:2<=nb) (b2:nb<=b.size) (hx:y+na+nb<=x):H3 R a b st x y (none,na,nb,out,g,ac,bc) st'
theorem zso {st:SortSt}{Q:Array Keyed->SortSt->Prop}(O:Orc prog w A s κ a₀ R)(hk:kindOf st=κ)(ma:∀x∈a.toList,x∈a₀.toList)(mb:∀x∈b.toList,x∈a₀.toList)(T:TwoH R a.toList b.toList)(ha:1<=a.size)(hb:1<=b.size)
  (lst:∀x,a.toList[a.size - 1]?=some x->∀y∈b.toList,R y<=R x)(h:∀r st',SmG st st'->Fin R a.toList b.toList r->Q r st'):wpS (model prog w) A E s (mergeHi' a b) Q st:=by
 have atA:∀(i:Nat) (hi:i < a.size),a[i]?=some a[i]/\a.toList[i]?=some a[i]/\a[i]∈a₀.toList:=fun i hi=>⟨getElem?_pos a i hi,by rw[xci];exact getElem?_pos a i hi,ma _ (by simp)⟩
 have atB:∀(i:Nat) (hi:i < b.size),b[i]?=some b[i]/\b.toList[i]?=some b[i]/\b[i]∈a₀.toList:=fun i hi=>⟨getElem?_pos b i hi,by rw[xci];exact getElem?_pos b i hi,mb _ (by simp)⟩
 have upA:∀n,n<=a.size->UpA R a 0 (0+n):=fun n hn p q a1 a2 a3=>by
  have hq:q < a.size:=xbh a3 (xbc (xdk (xdx n)) hn);have e1:=(atA p (xcs a2 hq)).2.1;have e2:=(atA q hq).2.1;rw[zcd e1,zcd e2];exact T.oa.at e1 e2 a2
 have upB:∀n,n<=b.size->UpA R b 0 (0+n):=fun n hn p q a1 a2 a3=>by
  have hq:q < b.size:=xbh a3 (xbc (xdk (xdx n)) hn);have e1:=(atB p (xcs a2 hq)).2.1;have e2:=(atB q hq).2.1;rw[zcd e1,zcd e2];exact T.ob.at e1 e2 a2
 obtain⟨x0,f0,f1⟩:∃x,a[a.size - 1]?=some x/\a.toList[a.size - 1]?=some x:=⟨_,(atA (a.size - 1) (xhu ha Nat.one_pos)).1,(atA (a.size - 1) (xhu ha Nat.one_pos)).2.1⟩
 have start:MH R (a.toList++b.toList) (#[x0]:Array Keyed).toList (a.toList.take (a.size - 1)++b.toList.take b.size):=by
  have z:MH R (a.toList++b.toList) (#[]:Array Keyed).toList (a.toList.take (a.size - 1+1)++b.toList.take b.size):=by
   refine⟨?_,List.Pairwise.nil,by simp⟩;rw[xgv ha,xgq (by simp),xgq (by simp)];simp
  exact z.pushA T f1 fun y hy=>lst x0 f1 y (xhc hy)
 refine xbj (xka (xgu ⟨rfl,xbj (zkd f0 (zblg (fun c1=>?_) (fun c2=>?_) fun c1 c2=>?_))⟩))
 ·exact xbm (h _ _ (.refl _) (start.done T (.inl (by simpa using c1))))
 ·exact xbm (h _ _ (.refl _) (start.firstB T (by simpa using c2)))
 simp only[xfj] at c1 c2;refine xbj (xhr ?_);refine xbj (xff (xdo (I:=H1 R a b st) (Q:=Dn R a b st) ?_ ?_ (.mk (.refl _) start (by lia) (by lia) (by lia) (xbf _) (by lia))) ?_)
 ·rintro x c st1 x1 x2 @⟨na,nb,out,g,st1,sm1,m,a1,a2,b1,b2,hx⟩;dsimp only;refine xbj (xff (xdo (I:=fun _=>H2 R a b st (na+nb)) (Q:=fun c st'=>Dn R a b st c st'\/H2 R a b st (na+nb) c st') ?_ ?_ (.mk sm1 m a1 a2 b1 b2 (xbf _))) ?_)
  ·rintro x' c st2 _ _ @⟨na',nb',out,ac,bc,st2,sm2,m,g1,g2,g3,g4,hp⟩;obtain⟨p,rfl⟩:∃p,na'=p+1:=⟨na' - 1,(xgv g1).symm⟩
   obtain⟨q,rfl⟩:∃q,nb'=q+1:=⟨nb' - 1,(xgv (xdi g3)).symm⟩
   dsimp only;have ea:=(atA p g2).1;have ela:=(atA p g2).2.1;have mea:=(atA p g2).2.2;have eb:=(atB q g4).1;have elb:=(atB q g4).2.1;have meb:=(atB q g4).2.2;refine w_el eb (w_el ea (zbai O (sm2.kind.trans hk) meb mea (fun cw=>w_el ea ?_) fun cw=>w_el eb ?_))
   ·skip
    have m2:=m.pushA T ela fun z hz=>by
     obtain⟨j,hj,e⟩:=zw hz;exact xbc (T.ob.at e elb (xcz hj)) (xbw cw)
    refine w_if (fun c5=>xbm (.inl (.mk sm2 (m2.done T (.inl (eq_of_beq c5)))))) fun c5=>?_
    rw[xfj] at c5;have a3:1<=p:=xkw c5;have a4:p<=a.size:=xdi g2;have a5:p+(q+1)<=na+nb:=xbc (Nat.add_le_add_right (xkr p) _) hp;exact w_if (fun _=>xbm (.inr (.mk sm2 m2 a3 a4 g3 g4 a5))) fun _=>xbm (.mk sm2 m2 a3 a4 g3 g4 a5)
   ·skip
    have m2:=m.pushB T elb fun z hz=>by
     obtain⟨j,hj,e⟩:=zw hz;exact xbc (T.oa.at e ela (xcz hj)) cw
    refine w_if (fun c5=>xbm (.inl (.mk sm2 (m2.firstB T (eq_of_beq c5))))) fun c5=>?_
    rw[xfj] at c5;have a3:2<=q:=xdd (Nat.le_of_succ_le_succ g3) (xct c5);have a4:q<=b.size:=xdi g4;have a5:p+1+q<=na+nb:=xdi hp;exact w_if (fun _=>xbm (.inr (.mk sm2 m2 g1 g2 a3 a4 a5))) fun _=>xbm (.mk sm2 m2 g1 g2 a3 a4 a5)
  ·exact fun c st2 k=>.inr k
  ·rintro c st2 (⟨sm2,f⟩ | @⟨na',nb',out,ac,bc,st2,sm2,m,g1,g2,g3,g4,hp⟩)
   ·exact xbm (.mk sm2 f)
   ·dsimp only;refine xbj (xka (xgu ⟨rfl,?_⟩));refine xbj (xff (xdo (I:=H3 R a b st (na+nb)) (Q:=fun c st'=>Dn R a b st c st'\/H3 R a b st (na+nb) 1 c st') ?_ ?_ (.mk sm2 m g1 g2 g3 g4 (by rw[xdx];exact hp))) ?_)
    ·rintro x' c st3 _ x2' @⟨na',nb',out,g',ac,bc,st3,sm3,m,g1,g2,g3,g4,hp⟩;obtain⟨q,rfl⟩:∃q,nb'=q+1:=⟨nb' - 1,(xgv (xdi g3)).symm⟩
     dsimp only;have eb:=(atB q g4).1;have elb:=(atB q g4).2.1;have meb:=(atB q g4).2.2;generalize g' - 1=g1;generalize g'=y;revert g1;revert y
     refine zblf ?_;intro gg;refine xbj (zsl fun st4 sg=>?_);have sm4:=sm3.trans sg;refine w_el eb (xbj (zgg O (sm4.kind.trans hk) meb (fun i hi=>⟨_,(atA (0+i) (by lia)).1,(atA (0+i) (by lia)).2.2⟩) (by lia) (upA na' g2) fun k1 cut1=>?_));have m5:=(m.galA T elb g2 cut1).1;have u5:=(m.galA T elb g2 cut1).2;have hk1:=cut1.1;dsimp only;refine zblh (fun c6=>?_) (fun c6 c7=>?_) fun hh=>?_
     ·have z:k1=na':=by lia
      subst z;rw[show out++(a.extract k1 k1).reverse=out by simp[xhv]]
     ·exact xbm (.inl (.mk sm4 (m5.done T (.inl (eq_of_beq c7)))))
     have g5:1<=k1:=by
      by_cases c6:na' - k1 > 0
      ·have:=hh c6;simp at this;lia
      ·lia
     have g6:k1<=a.size:=xbc hk1 g2;have hp5:x'+k1+(q+1)<=na+nb:=by lia
     clear hh hk1 cut1;generalize out++(a.extract k1 na').reverse=out5 at m5 ⊢;obtain⟨p,rfl⟩:∃p,k1=p+1:=⟨k1 - 1,(xgv g5).symm⟩
     simp only[Nat.add_sub_cancel];have m6:=m5.pushB T elb u5;have ea:=(atA p g6).1;have ela:=(atA p g6).2.1;have mea:=(atA p g6).2.2;refine w_el eb (w_if (fun c9=>xbm (.inl (.mk sm4 (m6.firstB T (eq_of_beq c9))))) fun c9=>w_el ea ?_);rw[xfj] at c9;refine xbj (zgg O (sm4.kind.trans hk) mea (fun i hi=>⟨_,(atB (0+i) (by lia)).1,(atB (0+i) (by lia)).2.2⟩) (by lia) (upB q (xdi g4)) fun k2 cut2=>?_);have m7:=(m6.galB T ela (xdi g4) cut2).1;have u7:=(m6.galB T ela (xdi g4) cut2).2;have hk2:=cut2.1;dsimp only;refine zbaj (fun d6=>?_) (fun d6 d7=>?_) (fun d6 d9=>?_) fun hh=>?_
     ·have z2:k2=q:=by lia
      subst z2;simp only[xig (xbc (xhv _ _) (xbf _)),Array.reverse_empty,xhw]
     ·exact xbm (.inl (.mk sm4 (m7.firstB T (eq_of_beq d7))))
     ·exact xbm (.inl (.mk sm4 (m7.done T (.inr (eq_of_beq d9)))))
     have h20:2<=k2:=by
      by_cases d6:q - k2 > 0
      ·have:=hh d6;simp at this;lia
      ·lia
     have m8:=m7.pushA T ela u7;refine w_el ea (w_if (fun d8=>xbm (.inl (.mk sm4 (m8.done T (.inl (eq_of_beq d8)))))) fun d8=>?_);rw[xfj] at d8;have a3:1<=p:=xkw d8;have a4:p<=a.size:=xdi g6;have a5:k2<=b.size:=xbc hk2 (xdi g4);have a6:x'+1+p+k2<=na+nb:=by lia
     exact w_if (fun _=>xbm (.inr (.mk sm4 m8 a3 a4 h20 a5 (by lia)))) fun _=>xbm (.mk sm4 m8 a3 a4 h20 a5 a6)
    ·rintro c st3 ⟨sm3,m,g1,g2,g3,g4,hp⟩;exact .inr (.mk sm3 m g1 g2 g3 g4 (by lia))
    ·rintro c st3 (⟨sm3,f⟩ | @⟨na',nb',out,g',ac,bc,st3,sm3,m,g1,g2,g3,g4,hp⟩)
     ·exact xbm (.mk sm3 f)
     ·have h9:x+1+na'+nb' < a.size+b.size:=by lia
      exact xbj (zsl fun st4 sg=>xbm (.mk (sm3.trans sg) m g1 g2 g3 g4 h9))
 ·rintro c st1 ⟨sm1,m,a1,a2,b1,b2,hx⟩;lia
 ·rintro c st1 ⟨sm1,f⟩;exact xbm (h _ st1 sm1 f)
end
theorem zqe:∀(l:List Keyed) (n off:Nat) (xs:Array Keyed),off+n+l.length<=xs.size->∀i,((l.zipIdx n).foldl (fun a p=>a.setIfInBounds (off+p.2) p.1) xs)[i]?=if off+n<=i/\i < off+n+l.length then l[i - (off+n)]? else xs[i]?
 | [],n,off,xs,h,i=>by
  rw[if_neg (by simp)]
  rfl
 | x::l,n,off,xs,h,i=>by
  rw[List.zipIdx_cons,xkl];rw[xbx] at h;have e1:off+(n+1)+l.length=off+n+(l.length+1):=Nat.succ_add_eq_add_succ (off+n) l.length;rw[zqe l (n+1) off _ (by rw[Array.size_setIfInBounds];exact xbc (xdk e1) h) i];rw[xbx];by_cases c:off+(n+1)<=i/\i < off+(n+1)+l.length
  ·rw[if_pos c,if_pos ⟨xdi c.1,xfw c.2 e1⟩,show i - (off+n)=i - (off+(n+1))+1 from(xgv (xfl c.1)).symm,xgj]
  ·rw[if_neg c];by_cases c2:i=off+n
   ·rw[if_pos ⟨xdk c2.symm,xcs (xdk c2) (xhp (Nat.succ_pos _))⟩,c2,xjg,List.getElem?_cons_zero];exact Array.getElem?_setIfInBounds_self_of_lt (xbh (xhp (Nat.succ_pos l.length)) h)
   ·rw[if_neg fun z=>c ⟨xdd z.1 (xct c2),xfw z.2 e1.symm⟩];exact xkh (fun z=>c2 z.symm)
theorem zxd {m xs:Array Keyed}{off:Nat}(h:off+m.size<=xs.size):(m.toList.zipIdx.foldl (fun a p=>a.setIfInBounds (off+p.2) p.1) xs).toList=xs.toList.take off++m.toList++xs.toList.drop (off+m.size):=by
 apply xlf;intro i;rw[xci,zqe m.toList 0 off xs (by simpa using h) i];simp only[xjh,xca];have l1:(xs.toList.take off).length=off:=by rw[xdw,xca];exact xej (xbc (xbz _ _) h)
 by_cases c:off<=i/\i < off+m.size
 ·rw[if_pos c,xbr,xcr (xbc (xdk l1) c.1),l1,xcd (by rw[xca];exact xdq c.1 c.2)]
 ·rw[if_neg c];by_cases c2:i < off
  ·rw[xbr,xcd (xfw c2 l1.symm),List.getElem?_take,if_pos c2,xci]
  ·have h3:off+m.size<=i:=xcb fun z=>c ⟨xcb c2,z⟩
   rw[xcr (by rw[xbs,l1,xca];exact h3),xfd];simp only[xbs,l1,xca];rw[xcl h3,xci]
section
variable {prog:Program}{w:World}{A:Around}{E:Value->Shared->Prop}{s:Shared}{κ:SortKind}{a₀:Array Keyed}{R:Keyed->Nat}
theorem zvq {xs:Array Keyed}{i j:Nat}(up:UpA R xs i j)(hj:j<=xs.size):Ord R (xs.extract i j).toList:=by
 rw[zcg];refine xjb.mpr fun p q hp hq hpq=>?_
 simp only[xdw,xhe,xca] at hp hq;simp only[List.getElem_take,List.getElem_drop,Array.getElem_toList];have:=up (i+p) (i+q) (xbz _ _) (xcj (xbw hpq) i) (xdu (xbh hq (xhv _ _)));rw[zeb (getElem?_pos xs (i+p) (xdu (xbh hp (xfr _ _)))),zeb (getElem?_pos xs (i+q) (xdu (xbh hq (xfr _ _))))] at this;exact this
theorem zjc {xs:Array Keyed}{i j:Nat}{x:Keyed}(h:x∈(xs.extract i j).toList):∃q,i<=q/\q < j/\xs[q]?=some x:=by
 rw[zcg] at h;obtain⟨q,hq,e⟩:=zw h;rw[xfd,xci] at e;exact⟨i+q,xbz _ _,xdu hq,e⟩
theorem zbdq {xs:Array Keyed}{i j q:Nat}(h:q < j - i):(xs.extract i j).toList[q]?=xs[i+q]?:=by
 rw[zcg,List.getElem?_take,if_pos h,xfd,xci]
structure Mg (R:Keyed->Nat) (xs ys:Array Keyed) (lo hi:Nat):Prop where
 perm:ys.Perm xs
 out:Out ys xs lo hi
 up:UpA R ys lo hi
theorem ztv {xs m:Array Keyed}{sa sb ea k nb':Nat}{y0 xl:Keyed}(hsb:sb<=ea)(hea:ea<=xs.size)(hk:sa+k < sb)(hnb:sb+nb'<=ea)(hnb1:1<=nb')(upA:UpA R xs sa sb)(upB:UpA R xs sb ea)
  (e0:xs[sb]?=some y0)(el:xs[sb - 1]?=some xl)(c1:Cut false R y0 xs sa (sb - sa) k)(c2:Cut true R xl xs sb (ea - sb) nb')
  (f:Fin R (xs.extract (sa+k) sb).toList (xs.extract sb (sb+nb')).toList m):Mg R xs (m.toList.zipIdx.foldl (fun a p=>a.setIfInBounds (sa+k+p.2) p.1) xs) sa ea:=by
 have lx:(xs.extract (sa+k) sb).toList.length=sb - (sa+k):=by rw[zcg,xdw,xhe,xca];exact xej (xfi (xbc hsb hea) _)
 have ly:(xs.extract sb (sb+nb')).toList.length=nb':=by rw[zcg,xdw,xhe,xca,xcx];exact xej (xeq (xbc hnb hea))
 have lm:m.size=sb+nb' - (sa+k):=by
  have:=f.1.length_eq;rw[xbs,lx,ly,xca] at this;exact this.trans (Nat.sub_add_comm (xbw hk)).symm
 have he:sa+k+m.size=sb+nb':=by rw[lm];exact xcl (xbc (xbw hk) (xbz _ _))
 have hsz:sa+k+m.size<=xs.size:=by rw[he];exact xbc hnb hea
 have hs1:=xdg hk;have s1:sb - 1 < sb:=xhu (xjs hk) Nat.one_pos;have g:∀i,(m.toList.zipIdx.foldl (fun a p=>a.setIfInBounds (sa+k+p.2) p.1) xs)[i]?=if sa+k<=i/\i < sb+nb' then m.toList[i - (sa+k)]? else xs[i]?:=fun i=>by
  have:=zqe m.toList 0 (sa+k) xs (by simpa using hsz) i;simp only[xjh,xca] at this;rw[he] at this;exact this
 have mid:∀v∈m.toList,R y0<=R v/\R v<=R xl:=fun v hv=>by
  rcases xce.mp (f.1.mem_iff.mp hv) with hv | hv
  ·obtain⟨q,q1,q2,e⟩:=zjc hv;have q0:=xbc (xbz _ _) q1;have h1:=c1.2.2 (q - sa) (xeq q1) (xei q0 q2);rw[xcl q0,zeb e] at h1;have h2:=upA q (sb - 1) q0 (xdg q2) s1;rw[zeb e,zeb el] at h2;have h1':R y0 < R v:=h1;exact⟨xbw h1',h2⟩
  ·obtain⟨q,q1,q2,e⟩:=zjc hv;have h1:=upB sb q (xbf _) q1 (xbh q2 hnb);rw[zeb e,zeb e0] at h1;have h2:=c2.2.1 (q - sb) (xdq q1 q2);rw[xcl q1,zeb e] at h2;have h2':R v < R xl:=h2;exact⟨h1,xbw h2'⟩
 have low:∀i,sa<=i->i < sa+k->kA R xs i<=R y0:=fun i a1 a2=>by
  have:=c1.2.1 (i - sa) (xdq a1 a2);rw[xcl a1] at this;exact this
 have hig:∀i,sb+nb'<=i->i < ea->R xl<=kA R xs i:=fun i a1 a2=>by
  have i0:=xbc (xbz _ _) a1;have:=c2.2.2 (i - sb) (xeq a1) (xei i0 a2);rw[xcl i0] at this;exact this
 have kk:∀i,kA R (m.toList.zipIdx.foldl (fun a p=>a.setIfInBounds (sa+k+p.2) p.1) xs) i=if sa+k<=i/\i < sb+nb' then kA R m (i - (sa+k)) else kA R xs i:=fun i=>by
  have:=g i;split
  ·rename_i c;rw[if_pos c,xci] at this;exact zdu this
  ·rename_i c;rw[if_neg c] at this;exact zdu this
 have mm:∀i,i < m.size->∃v,m.toList[i]?=some v/\v∈m.toList:=fun i hi=>⟨m.toList[i]'(by simpa using hi),xbg _,xdy _⟩
 refine⟨?_,fun i hi=>?_,fun i j a1 a2 a3=>?_⟩
 ·refine xfq.mpr ?_;rw[zxd hsz,he];have split:xs.toList=xs.toList.take (sa+k)++((xs.extract (sa+k) sb).toList++(xs.extract sb (sb+nb')).toList)++xs.toList.drop (sb+nb'):=by
   rw[zcg,zcg];rw[xcx]
   conv=>lhs;rw[← xfv (sa+k) xs.toList,← xfv (sb - (sa+k)) (xs.toList.drop (sa+k)),xkp,xcl (xbw hk),← xfv nb' (xs.toList.drop sb),xkp]
   simp only[xbr]
  conv=>rhs;rw[split]
  exact xib _ (xgx _ f.1)
 ·rw[g i,if_neg fun z=>hi.elim (fun h=>xel (xbc (xbz sa k) z.1) h) fun h=>xel h (xbh z.2 hnb)]
 ·rw[kk,kk];by_cases ci:sa+k<=i/\i < sb+nb'
  ·rw[if_pos ci];obtain⟨v,ev,mv⟩:=mm (i - (sa+k)) (by rw[lm];exact xei ci.1 ci.2);rw[zcd ev];by_cases cj:sa+k<=j/\j < sb+nb'
   ·rw[if_pos cj];obtain⟨u,eu,mu⟩:=mm (j - (sa+k)) (by rw[lm];exact xei cj.1 cj.2);rw[zcd eu];exact f.2.at ev eu (xfi a2 _)
   ·rw[if_neg cj];exact xbc (mid v mv).2 (hig j (xcb fun z=>cj ⟨xbc ci.1 a2,z⟩) a3)
  ·rw[if_neg ci];by_cases ci2:i < sa+k
   ·have h1:=low i a1 ci2;by_cases cj:sa+k<=j/\j < sb+nb'
    ·rw[if_pos cj];obtain⟨u,eu,mu⟩:=mm (j - (sa+k)) (by rw[lm];exact xei cj.1 cj.2);rw[zcd eu];exact xbc h1 (mid u mu).1
    ·rw[if_neg cj];by_cases cj2:j < sa+k
     ·exact upA i j a1 a2 (xif cj2 hk)
     ·have h2:=hig j (xcb fun z=>cj ⟨xcb cj2,z⟩) a3;have h3:R y0<=R xl:=by
       have s0:=xbc (xbz _ _) hs1;have h4:=c1.2.2 (sb - 1 - sa) (xeq hs1) (xei s0 s1);rw[xcl s0,zeb el] at h4;exact xbw h4
      exact xbc h1 (xbc h3 h2)
   ·have hi2:sb+nb'<=i:=xcb fun z=>ci ⟨xcb ci2,z⟩
    rw[if_neg fun z=>xel (xbc hi2 a2) z.2];exact upB i j (xbc (xbz _ _) hi2) a2 a3
end
section
variable {prog:Program}{w:World}{A:Around}{E:Value->Shared->Prop}{s:Shared}{κ:SortKind}{a₀:Array Keyed}{R:Keyed->Nat}
theorem zbmc {x st:SortSt}{Q:Unit->SortSt->Prop}(h:Q () x):wpS (model prog w) A E s (set x:StateT SortSt Sem PUnit) Q st:=by
 unfold wpS;rw[StateT.run_set];exact xbe ⟨rfl,h⟩
theorem zsp {i sa na pw sb nb pw':Nat}{st:SortSt}{Q:Bool->SortSt->Prop}(O:Orc prog w A s κ a₀ R)(b:B κ a₀ st)(p1:(pendingOf st)[i]?=some (sa,na,pw))(p2:(pendingOf st)[i+1]?=some (sb,nb,pw'))(hsb:sb=sa+na)(hna:1<=na)(hnb:1<=nb)(hz:sb+nb<=a₀.size)
  (upA:UpA R (arrOf st) sa sb)(upB:UpA R (arrOf st) sb (sb+nb))
  (h:∀st',B κ a₀ st'->pendingOf st'=((pendingOf st).setIfInBounds i (sa,na+nb,pw)).eraseIdxIfInBounds (i+1)->Out (arrOf st') (arrOf st) sa (sb+nb)->UpA R (arrOf st') sa (sb+nb)->Q true st'):wpS (model prog w) A E s (mergeAt' i) Q st:=by
 have hsz:=b.size;have bs:sb < a₀.size:=xbh (xhp hnb) hz;refine xbj (xhr ?_);dsimp only;have q1:(sortPriv% PySem.Builtin.SortState.pending) st=pendingOf st:=rfl;rw[q1,p1,p2];dsimp only;refine xbj (zbmc ?_);obtain⟨y0,e0,my0⟩:=b.mem (i:=sb) bs;have inA:∀q,q < a₀.size->∃x,(arrOf st)[q]?=some x/\x∈a₀.toList:=fun q hq=>b.mem hq
 refine xbj (zkd e0 ?_);refine xbj (zgg O b.kind my0 (fun q hq=>inA (sa+q) (xif (xfw (xeb hq sa) hsb.symm) bs)) hna (by rw[← hsb];exact upA) fun k c1=>?_);dsimp only;have hk:=c1.1;have c1':Cut false R y0 (arrOf st) sa (sb - sa) k:=by rw[show sb - sa=na from by rw[hsb,xcx]];exact c1
 by_cases d1:na - k=0
 ·rw[if_pos (by simpa using d1)];refine xbm (h _ ⟨b.perm,b.kind,b.failed⟩ rfl (Out.refl _ _ _) fun p q a1 a2 a3=>?_);by_cases z1:q < sb
  ·exact upA p q a1 a2 z1
  ·by_cases z2:p < sb
   ·have h1:=c1.2.1 (p - sa) (xbh (xdq a1 (xfw z2 hsb)) (Nat.le_of_sub_eq_zero d1));rw[xcl a1] at h1;have h2:=upB sb q (xbf _) (xcb z1) a3;rw[zeb e0] at h2;exact xbc h1 h2
   ·exact upB p q (xcb z2) a2 a3
 ·rw[if_neg (by simpa using d1)];have hk2:sa+k < sb:=xfw (xeb (xfs fun z=>d1 (Nat.sub_eq_zero_of_le z)) sa) hsb.symm;have s1:sb - 1 < sb:=xhu (xjs hk2) Nat.one_pos;obtain⟨xl,el,mxl⟩:=inA (sb - 1) (xif s1 bs);have el':(arrOf st)[sa+k+(na - k) - 1]?=some xl:=by rw[Nat.add_assoc,xcl hk,← hsb];exact el
  refine xbj (zkd el' ?_);refine xbj (zgg O b.kind mxl (fun q hq=>inA (sb+q) (xbh (xeb hq sb) hz)) (xhu hnb Nat.one_pos) upB fun nb' c2=>?_);dsimp only;have hn2:=c2.1;have c2':Cut true R xl (arrOf st) sb (sb+nb - sb) nb':=by rw[xcx];exact c2
  by_cases d2:nb'=0
  ·rw[if_pos (by simpa using d2)];refine xbm (h _ ⟨b.perm,b.kind,b.failed⟩ rfl (Out.refl _ _ _) fun p q a1 a2 a3=>?_);subst d2;by_cases z1:q < sb
   ·exact upA p q a1 a2 z1
   ·by_cases z2:p < sb
    ·have h1:=upA p (sb - 1) a1 (xdg z2) s1;rw[zeb el] at h1;have h2:=c2.2.2 (q - sb) (xed _) (xdq (xcb z1) a3);rw[xcl (xcb z1)] at h2;exact xbc h1 h2
    ·exact upB p q (xcb z2) a2 a3
  ·rw[if_neg (by simpa using d2)];have hn1:1<=nb':=xkw d2;have hez:sb<=(arrOf st).size:=by rw[hsz];exact xbw bs
   have hbz:sb+nb<=(arrOf st).size:=by rw[hsz];exact hz
   have hb2:sb+nb'<=sb+nb:=xcj hn2 sb;have oa:Ord R ((arrOf st).extract (sa+k) sb).toList:=zvq (fun p q a1 a2 a3=>upA p q (xbc (xbz _ _) a1) a2 a3) hez;have ob:Ord R ((arrOf st).extract sb (sb+nb')).toList:=zvq (fun p q a1 a2 a3=>upB p q a1 a2 (xbh a3 hb2)) (xbc hb2 hbz);have ma:∀x∈((arrOf st).extract (sa+k) sb).toList,x∈a₀.toList:=fun x hx=>by
    obtain⟨q,q1,q2,e⟩:=zjc hx;obtain⟨x',e',m'⟩:=inA q (xif q2 bs);rw[e] at e';cases e';exact m'
   have mb:∀x∈((arrOf st).extract sb (sb+nb')).toList,x∈a₀.toList:=fun x hx=>by
    obtain⟨q,q1,q2,e⟩:=zjc hx;obtain⟨x',e',m'⟩:=inA q (xbh q2 (xbc hb2 hz));rw[e] at e';cases e';exact m'
   have sx:((arrOf st).extract (sa+k) sb).size=sb - (sa+k):=by rw[Array.size_extract,xej hez]
   have sy:((arrOf st).extract sb (sb+nb')).size=nb':=by rw[Array.size_extract,xej (xbc hb2 hbz),xcx]
   have fst:∀y,((arrOf st).extract sb (sb+nb')).toList[0]?=some y->∀x∈((arrOf st).extract (sa+k) sb).toList,R y<=R x:=fun y hy x hx=>by
    rw[zbdq (by rw[xcx];exact hn1),xjh,e0] at hy;cases hy;obtain⟨q,q1,q2,e⟩:=zjc hx;have q0:=xbc (xbz _ _) q1;have:=c1.2.2 (q - sa) (xeq q1) (xdq q0 (xfw q2 hsb));rw[xcl q0,zeb e] at this;exact xbw this
   have lst:∀x,((arrOf st).extract (sa+k) sb).toList[sb - (sa+k) - 1]?=some x->∀y∈((arrOf st).extract sb (sb+nb')).toList,R y<=R x:=fun x hx y hy=>by
    rw[zbdq (xhu (xfl hk2) Nat.one_pos),show sa+k+(sb - (sa+k) - 1)=sb - 1 from by rw[← Nat.add_sub_assoc (xfl hk2),xcl (xbw hk2)],el] at hx;cases hx;obtain⟨q,q1,q2,e⟩:=zjc hy;have:=c2.2.1 (q - sb) (xdq q1 q2);rw[xcl q1,zeb e] at this;exact xbw this
   have post:∀m st2,SmG st st2\/True->Fin R ((arrOf st).extract (sa+k) sb).toList ((arrOf st).extract sb (sb+nb')).toList m->Mg R (arrOf st) (m.toList.zipIdx.foldl (fun a p=>a.setIfInBounds (sa+k+p.2) p.1) (arrOf st)) sa (sb+nb):=fun m _ _ f =>
    ztv (xbz _ _) hbz hk2 hb2 hn1 upA upB e0 el c1' c2' f
   by_cases d3:na - k<=nb'
   ·rw[if_pos d3];refine xbj (zsn O b.kind ma mb ⟨oa,ob,fun x hx=>lst x (by rw[xca,sx] at hx;exact hx)⟩ (by show 1<=((arrOf st).extract (sa+k) sb).size;rw[sx];exact xfl hk2) (by show 1<=((arrOf st).extract sb (sb+nb')).size;rw[sy];exact hn1) fst fun m st2 sg f=>?_);have mg:=post m st2 (.inr trivial) f;refine xbj (xgt (xbj (xhr ?_)));have a2:arrOf st2=arrOf st:=sg.arr;have f2:failedOf st2=none:=sg.failed.trans b.failed;refine xbm (?_:Q ((failedOf st2).isNone) (setArr st2 (m.toList.zipIdx.foldl (fun a p=>a.setIfInBounds (sa+k+p.2) p.1) (arrOf st2))));rw[f2,a2];exact h _ ⟨mg.perm.trans b.perm,sg.kind.trans b.kind,f2⟩ sg.pend mg.out mg.up
   ·rw[if_neg d3];refine xbj (zso O b.kind ma mb ⟨oa,ob,fst⟩ (by show 1<=((arrOf st).extract (sa+k) sb).size;rw[sx];exact xfl hk2) (by show 1<=((arrOf st).extract sb (sb+nb')).size;rw[sy];exact hn1) (fun x hx=>lst x (by rw[sx] at hx;exact hx)) fun m st2 sg f=>?_);have mg:=post m st2 (.inr trivial) f;refine xbj (xgt (xbj (xhr ?_)));have a2:arrOf st2=arrOf st:=sg.arr;have f2:failedOf st2=none:=sg.failed.trans b.failed;refine xbm (?_:Q ((failedOf st2).isNone) (setArr st2 (m.toList.zipIdx.foldl (fun a p=>a.setIfInBounds (sa+k+p.2) p.1) (arrOf st2))));rw[f2,a2];exact h _ ⟨mg.perm.trans b.perm,sg.kind.trans b.kind,f2⟩ sg.pend mg.out mg.up
end
def Segs (R:Keyed->Nat) (xs:Array Keyed):Nat->List (Nat×Nat×Nat)->Nat->Prop
 | s,[],e=>s=e
 | s,p::r,e=>p.1=s/\1<=p.2.1/\UpA R xs s (s+p.2.1)/\Segs R xs (s+p.2.1) r e
section
variable {R:Keyed->Nat}{xs ys:Array Keyed}
theorem Segs.le:∀{l:List (Nat×Nat×Nat)} {s e:Nat},Segs R xs s l e->s+l.length<=e
 | [],s,e,h=>by cases h;simp
 | p::r,s,e,h=>by
  have:=Segs.le h.2.2.2;have:=h.2.1;simp;lia
theorem Segs.append:∀{l m:List (Nat×Nat×Nat)} {s e:Nat},Segs R xs s (l++m) e↔∃k,Segs R xs s l k/\Segs R xs k m e
 | [],m,s,e=>⟨fun h=>⟨s,rfl,h⟩,fun⟨k,h1,h2⟩=>by cases h1;exact h2⟩
 | p::r,m,s,e=>by
  constructor
  ·rintro⟨h1,h2,h3,h4⟩;obtain⟨k,g1,g2⟩:=Segs.append.mp h4;exact⟨k,⟨h1,h2,h3,g1⟩,g2⟩
  ·rintro⟨k,⟨h1,h2,h3,h4⟩,g2⟩;exact⟨h1,h2,h3,Segs.append.mpr ⟨k,h4,g2⟩⟩
theorem UpA.same {a b:Nat}(h:UpA R xs a b)(e:∀i,a<=i->i < b->ys[i]?=xs[i]?):UpA R ys a b:=fun i j a1 a2 a3=>by
 rw[zdu (e i a1 (xcs a2 a3)),zdu (e j (xbc a1 a2) a3)];exact h i j a1 a2 a3
theorem Segs.same:∀{l:List (Nat×Nat×Nat)} {s e:Nat},Segs R xs s l e->(∀i,s<=i->i < e->ys[i]?=xs[i]?)->Segs R ys s l e
 | [],s,e,h,_=>h
 | p::r,s,e,h,k=>by
  have:=Segs.le h.2.2.2;exact⟨h.1,h.2.1,h.2.2.1.same fun i a1 a2=>k i a1 (xbh a2 (xbc (xbz _ _) this)),Segs.same h.2.2.2 fun i a1 a2=>k i (xbc (xbz _ _) a1) a2⟩
theorem Segs.power {s e:Nat}:∀{l m:List (Nat×Nat×Nat)},l.map (fun p=>(p.1,p.2.1))=m.map (fun p=>(p.1,p.2.1))->Segs R xs s l e->Segs R xs s m e:=by
 intro l
 induction l generalizing s with
 | nil=>intro m h k;cases m with
  | nil=>exact k
  | cons=>cases h
 | cons p r ih=>intro m h k;cases m with
  | nil=>cases h
  | cons q t =>
   rw[xbp,xbp] at h;obtain⟨h1,h2⟩:=List.cons.inj h;obtain⟨g1,g2⟩:=Prod.mk.inj h1;obtain⟨k1,k2,k3,k4⟩:=k;rw[g2] at k2 k3 k4;exact⟨g1.symm.trans k1,k2,k3,ih h2 k4⟩
end
section
variable {prog:Program}{w:World}{A:Around}{E:Value->Shared->Prop}{s:Shared}{κ:SortKind}{a₀:Array Keyed}{R:Keyed->Nat}
theorem zyh {l:List (Nat×Nat×Nat)}{i:Nat}(h:i+1 < l.length):∃pre p q post,l=pre++p::q::post/\pre.length=i:=by
 refine⟨l.take i,l[i],l[i+1],l.drop (i+2),?_,by rw[xdw];exact xej (xbw (xew h))⟩
 conv=>lhs;rw[← xfv i l,xfa (xew h),xfa h]
theorem w_at {i e:Nat}{st:SortSt}{Q:Bool->SortSt->Prop}(O:Orc prog w A s κ a₀ R)(b:B κ a₀ st)(sg:Segs R (arrOf st) 0 (pendingOf st).toList e)(he:e<=a₀.size)(hi:i+1 < (pendingOf st).size)
  (h:∀st',B κ a₀ st'->Segs R (arrOf st') 0 (pendingOf st').toList e->(pendingOf st').size+1=(pendingOf st).size->(∀k,e<=k->(arrOf st')[k]?=(arrOf st)[k]?)->Q true st'):wpS (model prog w) A E s (mergeAt' i) Q st:=by
 obtain⟨pre,p,q,post,el,hl⟩:=zyh (l:=(pendingOf st).toList) (i:=i) (by simpa using hi);obtain⟨sa,na,pw⟩:=p;obtain⟨sb,nb,pw'⟩:=q;rw[el] at sg;obtain⟨k,g1,g2⟩:=Segs.append.mp sg;obtain⟨h1,h2,h3,h4,h5,h6,h7⟩:=g2;dsimp only at h1 h2 h3 h4 h5 h6 h7;subst h1;have l7:=Segs.le h7;have l1:=Segs.le g1;have p1:(pendingOf st)[i]?=some (sa,na,pw):=by rw[← xci,el,xcr (xdk hl),hl,xjg];rfl
 have p2:(pendingOf st)[i+1]?=some (sb,nb,pw'):=by rw[← xci,el,xcr (xbc (xdk hl) (xbz i 1)),hl,xcx];rfl
 refine zsp O b p1 p2 h4 h2 h5 (by lia) (by rw[h4];exact h3) (by rw[h4];exact h6) fun st' b' pe ou up=>?_
 have pl:(pendingOf st').toList=pre++(sa,na+nb,pw)::post:=by
  rw[pe];rw[Array.toList_eraseIdxIfInBounds,Array.toList_setIfInBounds,el];rw[List.set_append_right _ _ (xdk hl),hl,xjg,List.set_cons_zero,List.eraseIdx_append_of_length_le (xbc (xdk hl) (xbz i 1)),hl,xcx]
  rfl
 have keep:∀j,j < sa\/sb+nb<=j->(arrOf st')[j]?=(arrOf st)[j]?:=ou
 refine h st' b' ?_ ?_ fun j hj=>keep j (.inr (by lia))
 ·rw[pl];refine Segs.append.mpr ⟨sa,g1.same fun j a1 a2=>keep j (.inl a2),rfl,by show 1<=na+nb;lia,?_,?_⟩
  ·show UpA R (arrOf st') sa (sa+(na+nb));rw[show sa+(na+nb)=sb+nb by lia];exact up
  ·show Segs R (arrOf st') (sa+(na+nb)) post e;rw[show sa+(na+nb)=sa+na+nb by lia];exact h7.same fun j a1 a2=>keep j (.inr (by lia))
 ·have e1:(pendingOf st').size=(pendingOf st').toList.length:=by simp
  have e2:(pendingOf st).size=(pendingOf st).toList.length:=by simp
  rw[e1,e2,pl,el];simp only[xbs,xbx];lia
theorem zbif {c:Prop}[Decidable c]{a b n:Nat}(h1:a+1 < n)(h2:b+1 < n):(if c then a else b)+1 < n:=by split<;>assumption
theorem zvr {g:Nat×Nat×Nat->Nat×Nat}{f:Nat×Nat×Nat->Nat×Nat×Nat}(h:∀x,g (f x)=g x):∀(l:List (Nat×Nat×Nat)) (i:Nat),(l.modify i f).map g=l.map g
 | [],i=>by simp
 | x::l,0=>by simp[h]
 | x::l,i+1=>by simp[zvr h l i]
theorem Segs.mod {xs:Array Keyed}{s e:Nat}{l:List (Nat×Nat×Nat)}(h:Segs R xs s l e)(i c:Nat):Segs R xs s (l.modify i fun x=>(x.1,x.2.1,c)) e :=
 h.power (zvr (g:=fun p=>(p.1,p.2.1)) (f:=fun x=>(x.1,x.2.1,c)) (fun _=>rfl) l i).symm
theorem zbgi {st:SortSt}{Q:Unit->SortSt->Prop}(O:Orc prog w A s κ a₀ R)(b:B κ a₀ st)(pe:pendingOf st=#[])(h2:2<=a₀.size)
  (h:∀st',B κ a₀ st'->UpA R (arrOf st') 0 a₀.size->Q () st'):wpS (model prog w) A E s sortRuns' Q st:=by
 have hz:=b.size;rw[sortRuns'_eq];refine xbj (xhr ?_);dsimp only;rw[hz]
 refine xbj (xff (xdo (I:=fun x c st'=>∃lo,c=(none,lo)/\B κ a₀ st'/\Segs R (arrOf st') 0 (pendingOf st').toList lo/\lo<=a₀.size/\x<=lo)
  (Q:=fun c st'=>c=(none,a₀.size)/\B κ a₀ st'/\Segs R (arrOf st') 0 (pendingOf st').toList a₀.size) ?_ ?_ ⟨0,rfl,b,by rw[pe];rfl,by lia,by lia⟩) ?_)
 ·rintro x c st1 x1 x2 ⟨lo,rfl,b1,sg1,hlo,hx⟩;dsimp only;by_cases c1:lo ≥ a₀.size
  ·rw[if_pos c1];have:lo=a₀.size:=by lia
   subst this;exact xbm ⟨rfl,b1,sg1⟩
  rw[if_neg c1];refine xbj (zbak O b1 (by lia) (by lia) fun m st2 m1 m2 b2 sm2 up2=>?_);dsimp only;have sg2:Segs R (arrOf st2) 0 (pendingOf st2).toList lo:=by
   rw[sm2.pend];exact sg1.same fun i a1 a2=>sm2.out i (.inl a2)
  by_cases c2:m < minRun' a₀.size a₀.size 0
  ·rw[if_pos c2];refine xbj (xka (xgu ⟨rfl,?_⟩));refine xbj (zbmd O b2 (by lia) m1 (by lia) up2 fun st3 b3 sm3 up3=>?_);have sg3:Segs R (arrOf st3) 0 (pendingOf st3).toList lo:=by
    rw[sm3.pend];exact sg2.same fun i a1 a2=>sm3.out i (.inl a2)
   have hn1:1<=min (a₀.size - lo) (minRun' a₀.size a₀.size 0):=by lia
   have hn2:lo+min (a₀.size - lo) (minRun' a₀.size a₀.size 0)<=a₀.size:=by lia
   simp only[Bool.not_true,xdc,xes];generalize min (a₀.size - lo) (minRun' a₀.size a₀.size 0)=n at up3 hn1 hn2 sm3 ⊢;refine xbj (xhr ?_);cases hb:(pendingOf st3).back? with
   | none =>
    dsimp only;refine xbj (xgt (xbm ⟨lo+n,rfl,⟨b3.perm,b3.kind,b3.failed⟩,?_,hn2,by lia⟩));show Segs R (arrOf st3) 0 ((pendingOf st3).push (lo,n,0)).toList (lo+n);rw[xfm];exact Segs.append.mpr ⟨lo,sg3,rfl,hn1,up3,rfl⟩
   | some p =>
    obtain⟨s1,n1,p1⟩:=p;dsimp only;refine xbj (xff (xdo (I:=fun _ c st'=>c=(none,())/\B κ a₀ st'/\Segs R (arrOf st') 0 (pendingOf st').toList lo/\UpA R (arrOf st') lo (lo+n)) (Q:=fun c st'=>c=(none,())/\B κ a₀ st'/\Segs R (arrOf st') 0 (pendingOf st').toList lo/\UpA R (arrOf st') lo (lo+n)) ?_ (fun _ _ hh=>hh) ⟨rfl,b3,sg3,up3⟩) ?_)
    ·rintro x' c st4 _ _ ⟨rfl,b4,sg4,up4⟩;refine xbj (xhr ?_);by_cases hs:(pendingOf st4).size > 1
     ·rw[if_pos hs,getElem?_pos (pendingOf st4) ((pendingOf st4).size - 2) (by lia)];obtain⟨s2,n2,p2⟩:=(pendingOf st4)[(pendingOf st4).size - 2]'(by lia);dsimp only;split
      ·exact xbm ⟨rfl,b4,sg4,up4⟩
      ·refine xbj (w_at O b4 sg4 hlo (by lia) fun st5 b5 sg5 _ k5=>?_);exact xbm ⟨rfl,b5,sg5,up4.same fun i a1 a2=>k5 i a1⟩
     ·rw[if_neg hs];exact xbm ⟨rfl,b4,sg4,up4⟩
    ·rintro c st4 ⟨rfl,b4,sg4,up4⟩;dsimp only;refine xbj (xgt (xbj (xgt (xbm ⟨lo+n,rfl,⟨b4.perm,b4.kind,b4.failed⟩,?_,hn2,by lia⟩))));refine(?_:Segs R (arrOf st4) 0 (((pendingOf st4).modify ((pendingOf st4).size - 1) fun x=>(x.1,x.2.1,_)).push (lo,n,0)).toList (lo+n));rw[xfm,Array.toList_modify];exact Segs.append.mpr ⟨lo,sg4.mod _ _,rfl,hn1,up4,rfl⟩
  ·rw[if_neg c2];have b3:=b2;have sg3:=sg2;have up3:=up2;have hn1:=m1;have hn2:lo+m<=a₀.size:=by lia
   generalize st2=st3 at b3 sg3 up3 ⊢;generalize m=n at up3 hn1 hn2 ⊢;refine xbj (xhr ?_);cases hb:(pendingOf st3).back? with
   | none =>
    dsimp only;refine xbj (xgt (xbm ⟨lo+n,rfl,⟨b3.perm,b3.kind,b3.failed⟩,?_,hn2,by lia⟩));show Segs R (arrOf st3) 0 ((pendingOf st3).push (lo,n,0)).toList (lo+n);rw[xfm];exact Segs.append.mpr ⟨lo,sg3,rfl,hn1,up3,rfl⟩
   | some p =>
    obtain⟨s1,n1,p1⟩:=p;dsimp only;refine xbj (xff (xdo (I:=fun _ c st'=>c=(none,())/\B κ a₀ st'/\Segs R (arrOf st') 0 (pendingOf st').toList lo/\UpA R (arrOf st') lo (lo+n)) (Q:=fun c st'=>c=(none,())/\B κ a₀ st'/\Segs R (arrOf st') 0 (pendingOf st').toList lo/\UpA R (arrOf st') lo (lo+n)) ?_ (fun _ _ hh=>hh) ⟨rfl,b3,sg3,up3⟩) ?_)
    ·rintro x' c st4 _ _ ⟨rfl,b4,sg4,up4⟩;refine xbj (xhr ?_);by_cases hs:(pendingOf st4).size > 1
     ·rw[if_pos hs,getElem?_pos (pendingOf st4) ((pendingOf st4).size - 2) (by lia)];obtain⟨s2,n2,p2⟩:=(pendingOf st4)[(pendingOf st4).size - 2]'(by lia);dsimp only;split
      ·exact xbm ⟨rfl,b4,sg4,up4⟩
      ·refine xbj (w_at O b4 sg4 hlo (by lia) fun st5 b5 sg5 _ k5=>?_);exact xbm ⟨rfl,b5,sg5,up4.same fun i a1 a2=>k5 i a1⟩
     ·rw[if_neg hs];exact xbm ⟨rfl,b4,sg4,up4⟩
    ·rintro c st4 ⟨rfl,b4,sg4,up4⟩;dsimp only;refine xbj (xgt (xbj (xgt (xbm ⟨lo+n,rfl,⟨b4.perm,b4.kind,b4.failed⟩,?_,hn2,by lia⟩))));refine(?_:Segs R (arrOf st4) 0 (((pendingOf st4).modify ((pendingOf st4).size - 1) fun x=>(x.1,x.2.1,_)).push (lo,n,0)).toList (lo+n));rw[xfm,Array.toList_modify];exact Segs.append.mpr ⟨lo,sg4.mod _ _,rfl,hn1,up4,rfl⟩
 ·rintro c st1 ⟨lo,rfl,b1,sg1,hlo,hx⟩;have:lo=a₀.size:=by lia
  subst this;exact⟨rfl,b1,sg1⟩
 ·rintro c st1 ⟨rfl,b1,sg1⟩;dsimp only
  refine xbj (xff (xdo (I:=fun x c st'=>c=(none,())/\B κ a₀ st'/\Segs R (arrOf st') 0 (pendingOf st').toList a₀.size/\(pendingOf st').size+x<=a₀.size)
   (Q:=fun c st'=>c=(none,())/\B κ a₀ st'/\Segs R (arrOf st') 0 (pendingOf st').toList a₀.size/\(pendingOf st').size<=1) ?_ ?_ ⟨rfl,b1,sg1,by have:=sg1.le;simp at this;lia⟩) ?_)
  ·rintro x c st2 x1 x2 ⟨rfl,b2,sg2,hp⟩;refine xbj (xhr ?_);by_cases c1:(pendingOf st2).size<=1
   ·rw[if_pos c1];exact xbm ⟨rfl,b2,sg2,c1⟩
   rw[if_neg c1];refine xbj (w_at O b2 sg2 (xbf _) ?_ fun st3 b3 sg3 p3 _=>xbm ⟨rfl,b3,sg3,by lia⟩);exact zbif (by lia) (by lia)
  ·rintro c st2 ⟨rfl,b2,sg2,hp⟩;exact⟨rfl,b2,sg2,by lia⟩
  ·rintro c st2 ⟨rfl,b2,sg2,hp⟩;refine xbm (h st2 b2 ?_);cases hl:(pendingOf st2).toList with
   | nil=>rw[hl] at sg2;have:0=a₀.size:=sg2;lia
   | cons p r =>
    have:r=[]:=by
     have e2:(pendingOf st2).size=(pendingOf st2).toList.length:=by simp
     rw[e2,hl,xbx] at hp;exact List.length_eq_zero_iff.mp (by lia)
    subst this;rw[hl] at sg2;obtain⟨_,_,g3,g4⟩:=sg2;have g4':0+p.2.1=a₀.size:=g4;rw[g4'] at g3;exact g3
end
end TS
namespace Srt
open PySem PySem.W PyProof.Rows
theorem zos {α β:Type}(f:α->β):∀{l m':List β},l.Perm m'->∀m:List α,m'=m.map f->∃p:List α,p.Perm m/\l=p.map f:=by
 intro l m' h
 induction h with
 | nil=>exact fun m e=>⟨[],by rw[List.map_eq_nil_iff.mp e.symm],rfl⟩
 | cons x _ ih =>
  intro m e;cases m with
  | nil=>cases e
  | cons y m =>
   rw[xbp] at e;injection e with e1 e2
   obtain⟨p,p1,p2⟩:=ih m e2;exact⟨y::p,p1.cons y,by rw[xbp,← p2,e1]⟩
 | swap x y l =>
  intro m e
  match m,e with
  | a::b::m,e =>
   rw[xbp,xbp] at e;injection e with e1 e2
   injection e2 with e2 e3
   exact⟨b::a::m,.swap _ _ _,by rw[xbp,xbp,e1,e2,e3]⟩
 | trans _ _ ih1 ih2 =>
  intro m e;obtain⟨p,p1,p2⟩:=ih2 m e;obtain⟨q,q1,q2⟩:=ih1 p p2;exact⟨q,q1.trans p1,q2⟩
def Coh (r:Nat->Nat) (xs:List Value):Prop:=∀i j,i < xs.length->j < xs.length->xs.getD i Value.none=xs.getD j Value.none->r i=r j
open Classical in
noncomputable def rankV (r:Nat->Nat) (xs:List Value) (x:Keyed):Nat:=if h:∃i,i < xs.length/\xs.getD i Value.none=x.1 then r h.choose else 0
theorem zlv {r:Nat->Nat}{xs:List Value}(coh:Coh r xs){x:Keyed}{i:Nat}(hi:i < xs.length)(e:xs.getD i Value.none=x.1):rankV r xs x=r i:=by
 have h:∃i,i < xs.length/\xs.getD i Value.none=x.1:=⟨i,hi,e⟩
 unfold rankV;rw[dif_pos h];exact coh _ _ h.choose_spec.1 hi (h.choose_spec.2.trans e.symm)
theorem zph (xs:List Value):(xs.toArray.zip xs.toArray).toList=(List.range xs.length).map fun i=>((xs.getD i Value.none,xs.getD i Value.none):Keyed):=by
 rw[Array.toList_zip];apply xlo
 ·simp
 ·intro i h1 h2;have h3:i < xs.length:=by simpa using h2
  simp[xbq,h3]
section
variable {P:Program}{w:World}{B:Around}{E:Value->Shared->Prop}{st:Shared}
theorem zyf {r:Nat->Nat}{xs:List Value}{κ:SortKind}{sg:Shared}(h2:2<=xs.length)(coh:Coh r xs)
  (cmp:∀i j C,i < xs.length->j < xs.length->C (lt r i j) sg->kas_ask P w B κ xs i j C sg) :
  wpAny (model P w) B ((sortRuns').run (SortSt.mk' κ (xs.toArray.zip xs.toArray) #[] 7 none)) (fun y z=>∃p:Array Nat,(p.Perm (List.toArray (List.range xs.length))/\Up r p xs.length)/\(arrOf y.2).map (·.2)=outOf xs p/\failedOf y.2=none/\z=sg) E sg:=by
 have sz:(xs.toArray.zip xs.toArray).size=xs.length:=by simp
 have O:TS.Orc P w B sg κ (xs.toArray.zip xs.toArray) (rankV r xs):=fun x hx y hy C hC=>by
  rw[zph] at hx hy;obtain⟨i,hi,rfl⟩:=xdt.mp hx;obtain⟨j,hj,rfl⟩:=xdt.mp hy;rw[xck] at hi hj;rw[zlv coh hi rfl,zlv coh hj rfl] at hC;exact cmp i j C hi hj hC
 have run:=TS.zbgi (E:=E) (Q:=fun _ y=>∃p:Array Nat,(p.Perm (List.toArray (List.range xs.length))/\Up r p xs.length)/\(arrOf y).map (·.2)=outOf xs p/\failedOf y=none) O (st:=SortSt.mk' κ (xs.toArray.zip xs.toArray) #[] 7 none) ⟨.refl _,rfl,rfl⟩ rfl (by rw[sz];exact h2) fun y b up=>by
  obtain⟨l,l1,l2⟩:=zos (fun i=>((xs.getD i Value.none,xs.getD i Value.none):Keyed)) (xfq.mp b.perm) _ (zph xs);have ll:l.length=xs.length:=by rw[l1.length_eq,xic]
  have mem:∀k,(hk:k < l.length)->l[k] < xs.length:=fun k hk=>xck.mp (l1.mem_iff.mp (xdy hk))
  have key:∀k,k < xs.length->TS.kA (rankV r xs) (arrOf y) k=At r l.toArray k:=fun k hk=>by
   have hk':k < l.length:=by lia
   have e:(arrOf y)[k]?=some (xs.getD l[k] Value.none,xs.getD l[k] Value.none):=by
    rw[← xci,l2,xcc,xbg hk']
    rfl
   rw[TS.zeb e,zlv coh (mem k hk') rfl];unfold At;simp[hk']
  refine⟨l.toArray,⟨?_,fun i j hij hj=>?_⟩,?_,b.failed⟩
  ·exact xfq.mpr (by simpa using l1)
  ·rw[← key i (by lia),← key j hj];exact up i j (xed _) hij (by rw[sz];exact hj)
  ·unfold outOf;apply Array.toList_inj.mp;rw[Array.toList_map,l2,xcw]
   rfl
 exact xdh run (fun y z hz=>by
  obtain⟨rfl,p,a,b,c⟩:=hz
  exact⟨p,a,b,c,rfl⟩) fun _ _ x=>x
theorem zkf (r:Nat->Nat){d:Addr}{xs:List Value}{k:Nat}{W:Fin->Shared->Prop}(e0:st.heap.get? d=some (seqObj "list" xs.toArray k))(few:xs.length<=sizeLine)(coh:Coh r xs)
  (ask:2<=xs.length->Answers P w B r xs {st with heap:=midHeap st.heap d xs})
  (fin:∀p:Array Nat,p.Perm (List.toArray (List.range xs.length))->Up r p xs.length->W (.done (.ret .none)) {st with heap:=sortedHeap st.heap d xs (outOf xs p)}) :
  wpAny (model P w) B (Builtin.«list.sort» ⟨[.ref d],[]⟩) W E st:=by
 obtain⟨c, ec⟩:∃ c,(st.heap.update d (Obj.mapSeq fun _=>(#[]:Array Value))).get? d=some (seqObj "list" #[] c):=⟨_, get?_update_seq e0 fun _=>#[]⟩
 have em:(midHeap st.heap d xs).get? d=some (seqObj "list" #[] c):=xbb _ (xbb _ ec)
 have szs:xs.toArray.size=xs.length:=xbn;rw[list_sort_plain];refine xba (listItems_at e0 rfl (xba (listUpdate_at e0 rfl (xba (seqEpoch_at ec rfl (xba (wpAny_newTuple (xba (wpAny_newList (xdm ?_) (xed _))) (few))))) (by rw[szs];exact few) (xed _))));show wpAny (model P w) B _ W E {st with heap:=midHeap st.heap d xs};dsimp only;by_cases two:xs.toArray.size < 2
 ·rw[if_pos two,if_pos two];rw[szs] at two;have eo:((arrOf (SortSt.mk' general' (xs.toArray.zip xs.toArray) #[] 7 none)).map (·.2))=outOf xs (List.toArray (List.range xs.length)):=zsw two
  refine xba (xbe (by
   rw[StateT.run_pure];refine xba (xbe (xba (seqEpoch_at em rfl (xba (listUpdate_at em rfl ?_ (xed _) ?_)))))
   ·rw[if_neg (by simp)];refine xbe ?_;rw[eo];exact fin _ (.refl _) fun i j hij hj=>xdk (congrArg (At r _) (by lia))
   ·rw[eo];refine xge (xbc (xdk ?_) (few));unfold outOf
    simp))
 ·rw[if_neg two,if_neg two];rw[szs] at two;obtain⟨κ,kd,cmp⟩:=ask (by lia);refine xba (xdh (kd (fun κ' z=>κ'=κ/\z={st with heap:=midHeap st.heap d xs}) ⟨rfl,rfl⟩) (fun κ' z hz=>?_) fun _ _ x=>x.elim);obtain⟨rfl,rfl⟩:=hz;have run:=zyf (E:=E) (r:=r) (xs:=xs) (κ:=κ') (sg:={st with heap:=midHeap st.heap d xs}) (by lia) coh cmp;refine xba (xdh run (fun yy z hz=>?_) fun _ _ x=>x);obtain⟨⟨⟩,y⟩:=yy;obtain⟨p,hp,ho,hf,rfl⟩:=hz;dsimp only at ho hf ⊢;refine xba (seqEpoch_at em rfl (xba (listUpdate_at em rfl ?_ (xed _) ?_)))
  ·rw[hf,if_neg (by simp),ho];exact xbe (fin p hp.1 hp.2)
  ·rw[ho];refine xge (xbc (xdk ?_) (few));unfold outOf;rw[xbn,xbd,xca,hp.1.size_eq];simp
theorem zlp (r:Nat->Nat){d:Addr}{xs:List Value}{W:Value->Shared->Prop}(isl:st.heap.IsList d xs.toArray)(few:xs.length<=sizeLine)(coh:Coh r xs)
  (ask:2<=xs.length->∀g:Heap,(∀b ob,st.heap.get? b=some ob->g.get? b=some ob)->Answers P w B.in1.in1 r xs {st with heap:=g})
  (fin:∀p:Array Nat,p.Perm (List.toArray (List.range xs.length))->Up r p xs.length->W (.ref (st.heap.objs.size+1)) {st with heap:=sortedAll st.heap xs (outOf xs p)}) :
  wpAny (model P w) B (call (.builtin "sorted") [.ref d]) W E st:=by
 let g0:Heap:=(st.heap.push (seqObj "list" #[] 0)).update st.heap.objs.size (Obj.mapSeq (·++xs.toArray))
 have sz:g0.objs.size=st.heap.objs.size+1:=(Heap.size_update ..).trans (size_push' _ _);have new:(g0.push (seqObj "list" xs.toArray 0)).get? (st.heap.objs.size + 1)=some (seqObj "list" xs.toArray 0):=by
  have z:=xbk g0 (o:=seqObj "list" xs.toArray 0) rfl
  rw[sz] at z;exact z
 have old:∀ b ob, st.heap.get? b=some ob->(g0.push (seqObj "list" xs.toArray 0)).get? b=some ob:=fun b ob e=>by
  have lt:=xbi e;exact xbb _ ((Heap.get?_update_ne _ _ _ _ (xbv lt)).trans (xbb _ e))
 have ar:argsOk "sorted" ⟨[.ref d],[]⟩:=args_sorted1 _
 refine Calls.call_function_entry kind_sorted plain_sorted entry_sorted ar ?_;unfold Builtin.«sorted»;refine xba (m:=checkCount "sorted" 1 1 _) (xbe (xba (collect_list isl (xba (wpAny_newList ?_ (few))) (few))))
 show wpAny _ _ _ _ _ { st with heap:=g0.push (seqObj "list" xs.toArray 0) }
 have esz:(Value.ref g0.objs.size)=Value.ref (st.heap.objs.size+1):=by rw[sz]
 rw[show((st.heap.push (seqObj "list" #[] 0)).update st.heap.objs.size (Obj.mapSeq (·++xs.toArray))).objs.size=st.heap.objs.size + 1 from sz]
 refine xba (xdm (xem slot_list_sort ⟨_, new, rfl⟩ entry_list_sort (zkf r (st:={ st with heap:=g0.push (seqObj "list" xs.toArray 0) }) new few coh (fun two=>?_) fun p p1 p2=>⟨_, rfl, xbe ⟨_, rfl, fin p p1 p2⟩⟩) (args_list_sort _)))
 exact ask two _ fun b ob e=>zjb (xbv (xha (xbi e))) (old b ob e)
theorem zoq {T:String}{a d:Addr}{n:Nat}{It:Nat->Value->Prop}{OK:Heap->Prop}(S:KdlSrc P w T a d n It OK)(hh:B.handled=none)(ok:OK st.heap)(few:n<=sizeLine){W:Value->Shared->Prop}
  (ask:∀xs:List Value,xs.length=n->(∀(j:Nat) (v:Value),xs[j]?=some v->It j v)->∃r:Nat->Nat,Coh r xs/\(2<=n->∀(g:Heap) (tk:Nat),(∀b ob,st.heap.get? b=some ob->g.get? b=some ob)->Answers P w B.in1.in1 r xs {st with heap:=g,toks:=tk}) /\
   ∀(p:Array Nat) (q:Addr) (g:Heap) (tk c:Nat), p.Perm (List.toArray (List.range xs.length))->Up r p xs.length->(∀ b ob, st.heap.get? b=some ob->g.get? b=some ob)->(∀ b ob, st.heap.get? b=some ob->b≠q)->g.get? q=some (seqObj "list" (outOf xs p) c)->W (.ref q) { st with heap:=g, toks:=tk }) :
  wpAny (model P w) B (call (.builtin "sorted") [.ref a]) W E st:=by
 have ar:argsOk "sorted" ⟨[.ref a],[]⟩:=args_sorted1 _
 refine Calls.call_function_entry kind_sorted plain_sorted entry_sorted ar ?_;unfold Builtin.«sorted»;refine xba (m:=checkCount "sorted" 1 1 _) (xbe (xba (kdu_collect (A:=B.in1) S hh ok (few) fun g tk acc keep items=>?_)))
 have len:acc.toList.length=n:=by rw[xca];exact items.1
 obtain⟨r,coh,an,fin⟩:=ask acc.toList len (fun j v e=>items.2 j v (by rw[← xci];exact e));refine xba (wpAny_newList ?_ (by rw[len];exact few));have new:(g.push (seqObj "list" acc.toList.toArray 0)).get? g.objs.size=some (seqObj "list" acc.toList.toArray 0):=xbk g rfl
 have old:∀ b ob, st.heap.get? b=some ob->(g.push (seqObj "list" acc.toList.toArray 0)).get? b=some ob:=fun b ob e=>xbb _ (keep b ob e)
 have lt:∀b ob,st.heap.get? b=some ob->b≠g.objs.size:=fun b ob e=>xbv (xbi (keep b ob e))
 show wpAny _ _ _ _ _ { st with heap:=g.push (seqObj "list" acc.toList.toArray 0), toks:=tk }
 refine xba (xdm (xem slot_list_sort ⟨_, new, rfl⟩ entry_list_sort (zkf r (st:={ st with heap:=g.push (seqObj "list" acc.toList.toArray 0), toks:=tk }) new (by rw[len]; exact few) coh (fun two=>?_) fun p p1 p2=>⟨_, rfl, xbe ⟨_, rfl, ?_⟩⟩) (args_list_sort _)))
 ·exact an (by lia) _ tk fun b ob e=>zjb (lt b ob e) (old b ob e)
 ·obtain⟨c,ec⟩:=sortedHeap_at (n:=0) (vs:=acc.toList) (out:=outOf acc.toList p) new;refine fin p g.objs.size _ tk c p1 p2 (fun b ob e=>?_) ?_ ec
  ·rw[sortedHeap_old (lt b ob e) (xbi (old b ob e))];exact old b ob e
  ·exact lt
end
end Srt
namespace L2
open PySem PySem.Spec PyProof.Rows PySem.W
theorem small10000 {n:Nat}(h:n<=1000000):n<=sizeLine:=xbc h (by rw[xiu];lia)
theorem zjf:∀{us:List Value} {a b:List Int},IntsAre us a->IntsAre us b->a=b
 | _,_,_,.nil,.nil=>rfl
 | _,_,_,.cons x t r,.cons _ _ r'=>by rw[zjf r r']
theorem zrr {g:Heap}{ps:List (Addr×List Int)}(tup:TupsG g ps):Srt.Coh (Srt.rank (ps.map (·.2))) (ps.map fun p=>Value.ref p.1):=fun i j hi hj e=>by
 rw[xbd] at hi hj;have ei:ps[i]?=some ps[i]:=xbg hi;have ej:ps[j]?=some ps[j]:=xbg hj;rw[zq (fun p:Addr×List Int=>Value.ref p.1) _ ei,zq (fun p:Addr×List Int=>Value.ref p.1) _ ej] at e;injection e with e
 obtain⟨us,o,n,a1,a2,a3,a4⟩:=tup _ (xdy hi);obtain⟨us2,o2,n2,b1,b2,b3,b4⟩:=tup _ (xdy hj);rw[e,b2] at a2;injection a2 with a2
 subst a2;rw[b4] at a4;injection a4 with a4 _
 have a5:us2=us:=by simpa using a4
 subst a5;have d:=zjf a1 b1;unfold Srt.rank;rw[zq (fun p:Addr×List Int=>p.2) _ ei,zq (fun p:Addr×List Int=>p.2) _ ej,d]
def rSortedAL (K:Fg):List V->Hp->VK->Prop:=fun xs H Q=>∃(l:Addr) (ps:List (Addr×List Int)),xs=[.ref l]/\SqL K H l (ps.map fun p=>V.ref p.1)/\ps.length<=1000000/\TupsAt K H ps /\
 ∀(q:Addr) (qs:List (Addr×List Int)),H q=none->qs.Perm ps->(qs.map (·.2)).Pairwise (fun a b=>HT.lexLt b a=false)->Q (.ref q) (upd H q (.lst (qs.map fun p=>V.ref p.1)))
def rSortedDAL:List V->Hp->VK->Prop:=fun xs H Q=>∃(a:Addr) (kvs:List (List Key×V)) (ks:List (List Int)),xs=[.ref a]/\Rd H a (.dT kvs)/\kvs.map (·.1)=ks.map (fun ns=>ns.map Sum.inl)/\ks.length<=1000000 /\
 ∀(q:Addr) (qs:List (Addr×List Int)),H q=none->(qs.map (·.2)).Perm ks->(qs.map (·.2)).Pairwise (fun x y=>HT.lexLt y x=false)->(∀p∈qs,H p.1=some (.tup (p.2.map V.int)))->Q (.ref q) (upd H q (.lst (qs.map fun p=>V.ref p.1)))
section
variable {X:Cx}
theorem zld (hu:X.A.units + 64 < cLine):CallR X (.builtin "sorted") (rSortedAL X.K):=by
 intro aY s σ H xs us Q I r h;obtain⟨l,ps,rfl,hl,h64,ht,q⟩:=h;obtain⟨u,rfl,ru⟩:=vals1 r;cases ru;obtain⟨its,rv,pl,hz⟩:=I.list hl;have eits:its=ps.map fun p=>Value.ref p.1:=by
  have e:(ps.map fun p=>V.ref p.1)=(ps.map (·.1)).map V.ref:=by rw[xcw];rfl
  rw[e] at rv;rw[zmv rv,xcw]
  rfl
 subst eits;have tup:∀g:Heap,(∀b o,s.heap.get? b=some o->g.get? b=some o)->TupsG g ps:=fun g keep p hp=>by
  obtain⟨us,rv',⟨o,b2,b3,n,b4⟩,_⟩:=I.tuple (ht p hp);exact⟨us,o,n,zfx rv',keep _ _ b2,b3,b4⟩
 refine Srt.zlp (Srt.rank (ps.map (·.2))) pl.isList (by rw[xbd];exact small10000 h64) (zrr (tup s.heap fun _ _ z=>z)) (fun h2 g keep=>zwl (by show X.A.units+1+1 < cLine;lia) (by rw[xbd] at h2;exact h2) (tup g keep)) (fun p p1 p2=>?_);rw[xbd] at p1 p2;obtain⟨qs,q1,q2,q3⟩:=zqk p1 p2;obtain⟨e,he⟩:=sortedAll_at s.heap (ps.map fun p=>Value.ref p.1) (Srt.outOf (ps.map fun p=>Value.ref p.1) p);rw[q3] at he ⊢;refine⟨.ref (s.heap.objs.size+1),_,I.laid (a:=s.heap.objs.size+1) (o:=.lst (qs.map fun p=>V.ref p.1)) (t':=s.toks) (fun _ _ z=>sortedAll_old z) (xkr _) ⟨?_,_,e,zhk qs,he⟩,rfl,q _ _ (I.hok.fresh (xkr _)) q1 q2⟩;rw[xbd,q1.length_eq];exact small10000 (by lia)
theorem zkb (hc:X.calm=true)(hu:X.A.units + 64 < cLine):CallR X (.builtin "sorted") rSortedDAL:=by
 intro aY s σ H xs us Q I r h;obtain⟨a,kvs,ks,rfl,hd,ek,few,q⟩:=h;obtain⟨u,rfl,ru⟩:=vals1 r;cases ru;obtain⟨z,ns,ys,rel,ob,es,ep,e1,e2,e3,e4,e5⟩:=(show ObjOk X.prog X.w H s.heap a (.dT kvs) from hd.ok I.hok)
 obtain⟨ps,a1,a2,a3⟩:=zla (P:=X.prog) (w:=X.w) rel ek;have hpl:ps.length=ks.length:=by rw[← a1,xbd]
 have hes:es.toList.map (·.key)=ps.map fun p=>Value.ref p.1:=by rw[e4,xcw];exact a3
 have hsz:es.size=ps.length:=by
  have:=congrArg List.length hes;rw[xbd,xbd,xca] at this;exact this
 have tup:∀g:Heap,(∀b o,s.heap.get? b=some o->g.get? b=some o)->TupsG g ps:=fun g keep p hp=>by
  obtain⟨us,rv,⟨o,b2,b3,n,b4⟩,_⟩:=I.tuple (SqT.of (a2 p hp));exact⟨us,o,n,zfx rv,keep _ _ b2,b3,b4⟩
 refine Srt.zoq (Dct.zbbb ns es ep) (I.ok.hd hc) ⟨ob,e1,e2,e3⟩ (small10000 (by lia)) fun vs hl hv=>?_
 have evs:vs=ps.map fun p=>Value.ref p.1:=by
  rw[← hes];apply xlf;intro i;by_cases hi:i < es.size
  ·have h1:vs[i]?=some vs[i]:=xbg (by lia);obtain⟨en,h2,h3⟩:=hv i _ h1;rw[h1,h3,xcc,xci,h2]
   rfl
  ·rw[xer (by lia),xer (by rw[xbd,xca];lia)]
 subst evs;refine⟨Srt.rank (ps.map (·.2)),zrr (tup s.heap fun _ _ z=>z),fun h2 g tk keep=>zwl (by show X.A.units+1+1 < cLine;lia) (by lia) (tup g keep),fun p t g tk c p1 p2 keep ne eg=>?_⟩;rw[xbd] at p1 p2;obtain⟨qs,q1,q2,q3⟩:=zqk p1 p2;rw[q3] at eg;refine⟨.ref t,_,I.laidN (o:=.lst (qs.map fun p=>V.ref p.1)) keep ne ⟨?_,_,c,zhk qs,eg⟩,rfl,q t qs (I.away ne) ((q1.map _).trans (by rw[a1])) q2 fun p hp=>a2 p (q1.mem_iff.mp hp)⟩;rw[xbd,q1.length_eq];exact small10000 (by lia)
end
end L2
namespace L2
open PySem PySem.Spec PyProof.Rows
theorem zia {κ β:Type}[DecidableEq κ]{k:κ}:∀{xs:List (κ×β)} {j:Nat} {p:β},(xs.map (·.1)).Nodup->xs[j]?=some (k,p)->xs.eraseIdx j=xs.filter fun x=>decide (x.1≠k)
 | [],_,_,_,e=>by simp at e
 | x::r,0,p,nd,e=>by
  simp at e;subst e;rw[xbp,xht] at nd;rw[List.eraseIdx_cons_zero,xet (by simp)]
  symm
  rw[List.filter_eq_self];intro y hy;refine xcv fun z=>nd.1 ?_
  rw[← z];exact xdt.mpr ⟨y,hy,rfl⟩
 | x::r,j+1,p,nd,e=>by
  rw[xbp,xht] at nd;have e':r[j]?=some (k,p):=by simpa using e
  have hx:x.1≠k:=fun z=>nd.1 (by rw[z];exact xdt.mpr ⟨_,xch e',rfl⟩)
  rw[xhn,xeu (by simpa using hx),zia nd.2 e']
theorem zoa {α β:Type}(f:α->β):∀(l:List α) (j:Nat),(l.map f).eraseIdx j=(l.eraseIdx j).map f
 | [],_=>rfl
 | _::_,0=>rfl
 | x::l,j+1=>by rw[xbp,xhn,xhn,xbp,zoa f l j]
section
variable {prog:Program}{w:World}{κ:Type}[DecidableEq κ]{knd:HeapKind prog w κ}{A:Around}{E:Value->Shared->Prop}{s:Shared}{d a:Addr}{k:κ}{xs:List (κ×Addr×Value)}{p:Addr×Value}
theorem zst {W:Option DictEntry->Shared->Prop}(hu:knd.room A)(hkey:knd.is s.heap k a)(hm:s.heap.DictOfH knd d xs)(hp:atKey xs k=some p)(hsz:xs.length<=sizeLine)
  (fin:∀e h',e.val=p.2->h'.DictOfH knd d (xs.filter fun x=>decide (x.1≠k))->Heap.SameBut d s.heap h'->W (some e) {s with heap:=h',toks:=s.toks+knd.draws k}) :
  wpAny (model prog w) A (Builtin.Dict.takeOut d (.ref a)) W E s:=by
 obtain⟨o,es,ep,ho,hc,hd,he,his,hn⟩:=hm;unfold Builtin.Dict.takeOut;refine xdm ?_;refine xba (knd.pyHash hu hkey ?_);refine xba (wpAny_dictFind_heap (s:={s with toks:=s.toks+knd.draws k}) hu hkey ho hd he his hn (fun z=>?_) fun j q hj=>?_)
 ·rw[atKey_none_of_get z] at hp;cases hp
 ·have hq:q=p:=by
   have z:=atKey_of_get hn hj;rw[hp] at z;exact(xby z).symm
  subst hq;refine xba (xie (s:={s with toks:=s.toks+knd.draws k}) ho hd ?_);rw[entry_at he j,hj];have big:es.size<=sizeLine:=by have:=size_of_entries he;lia
  refine xba (wpAny_updateDictKeys (hz:=big) (s:={s with toks:=s.toks+knd.draws k}) ho hd (xbe (fin _ _ rfl ⟨_,_,ep+1,xep _ ho (Obj.isFreed_of_dict (Obj.data_mapDictKeys hd _)),hc.mapDictKeys _,Obj.data_mapDictKeys hd _,?_,fun x hx=>?_,?_⟩ (xhk ..))))
  ·rw[← zia hn hj];obtain⟨l⟩:=es;have he':l=xs.map (entryOfKey knd):=he;subst he';simp[zoa]
  ·exact knd.keeps (his x (xiy.mp hx).1) ho hd (xhk ..)
  ·exact List.Sublist.nodup (List.Sublist.map (fun x:κ×Addr×Value=>x.1) List.filter_sublist) hn
theorem zxj {W:Value->Shared->Prop}(hu:knd.room A.in1)(hkey:knd.is s.heap k a)(hm:s.heap.DictOfH knd d xs)(hp:atKey xs k=some p)(hsz:xs.length<=sizeLine)
  (fin:∀h',h'.DictOfH knd d (xs.filter fun x=>decide (x.1≠k))->Heap.SameBut d s.heap h'->W p.2 {s with heap:=h',toks:=s.toks+knd.draws k}) :
  wpAny (model prog w) A (call (.builtin "dict.pop") [.ref d, .ref a]) W E s:=by
 have M:MeetsIn prog w (Builtin.«dict.pop» ⟨[.ref d,.ref a],[]⟩) (fun B R g=>B=A/\g=s/\∀h',h'.DictOfH knd d (xs.filter fun x=>decide (x.1≠k))->Heap.SameBut d s.heap h'->R (.ok (.ret p.2)) {s with heap:=h',toks:=s.toks+knd.draws k}) :=
  .of_wp fun B R g hq0=>by
   obtain⟨hB,hg,q⟩:=hq0;subst hB hg;unfold Builtin.«dict.pop» Builtin.Dict.keyAndDefault;refine xba (xba (wpAny_notOrdered_dict hm.typeIs (xbe ?_)));obtain⟨o,es,ep,ho,hc,hd,he,his,hn⟩:=id hm;have ne:es.isEmpty=false:=by
    have:=size_of_entries he;cases xs with
    | nil=>cases hp
    | cons x r =>
     rw[xbx] at this;rw[Array.isEmpty_eq_false_iff];intro z;rw[z] at this;simp at this
   simp only[keyPart,Option.isSome_none,xdc,xes];refine xba (xie ho hd (xba (xbe ?_)));rw[ne];simp only[xdc,xes];refine xba (zst hu hkey hm hp hsz fun e h' hv dd hs=>?_);simp only[Option.isNone_some,xdc,xes];exact xba (xiv (xbe ⟨e.val,rfl,by rw[hv];exact q h' dd hs⟩))
 exact call_meetsIn F.slot_dict_pop hm.typeIs F.entry_dict_pop (F.args_dict_pop_2 _ _) M ⟨rfl,rfl,fin⟩
end
theorem KT.drop {H:Hp}{kvs:List (List Key×V)}{xs:List (List Key×Addr×Value)}(r:KT H kvs xs)(k:List Key):KT H (dropK kvs k) (xs.filter fun x=>decide (x.1≠k)):=by
 unfold dropK
 induction r with
 | nil=>exact .nil
 | @cons p q ps qs h t ih =>
  by_cases e:p.1=k
  ·rw[xet (by simp[e]),xet (by simp[← h.1,e])];exact ih
  ·rw[xeu (by simp[e]),xeu (by simp[← h.1,e])];exact .cons h ih
section
variable {X:Cx}{aY:List (Addr×Obj)}{σ:St}{H:Hp}{s:Shared}{a b:Addr}{kvs:List (List Key×V)}{k:List Key}
theorem zbjx {v:V}{Q:Value->Shared->Prop}{E:Value->Shared->Prop}(hu:X.A.units+1 < cLine)(I:Inv X aY σ H s)(e:H a=some (.dT kvs))(eb:H b=some (.tup (k.map kV)))(l:valV kvs k=some v)
  (h:∀ w' s', Inv X aY σ (upd H a (.dT (dropK kvs k))) s'->RelV v w'->Q w' s'):wpAny (model X.prog X.w) X.A (call (.builtin "dict.pop") [.ref a, .ref b]) Q E s:=by
 obtain⟨z,hd,xs,rel,dd⟩:=zblz I.hok e;obtain⟨w',hw,rw'⟩:=RelO.some_of (v:=v) (o:=(atKey xs k).map (·.2)) (by rw[← l];exact rel.val k);cases hp:atKey xs k with
 | none=>rw[hp] at hw;cases hw
 | some p =>
  rw[hp] at hw;have hw':p.2=w':=xby hw;subst hw';refine zxj (xhy hu) (zpb I.hok eb) dd hp (by rw[← xis rel];exact z) fun h' dd' hs=>h _ _ ?_ rw'
  obtain⟨q,es,ep,hq,h2,h3,h4,_,h5⟩:=dd';refine zrm I (by rw[e];exact True.intro) hs ⟨q,hq⟩ ⟨xbc (xkf _ _) z,hd,_,(rel.drop k).keeps fun c ys ec=>?_,q,es,ep,hq,h2,h3,h4,h5⟩;rw[zn (zblr ec e (fun z=>nomatch z))];exact ec
end
def tDPopT (td ty:TE):TE:=fun σ H Q=>td σ H fun x H1=>∃a,x=.ref a/\IsD H1 a/\ty σ H1 fun y H2=>∃kvs k v b,H2 a=some (.dT kvs)/\y=.ref b/\H2 b=some (.tup (k.map kV))/\valV kvs k=some v/\Q v (upd H2 a (.dT (dropK kvs k)))
section
variable {X:Cx}{o e:Expr}{apos cpos:Pos}{td ty:TE}
theorem zxr (hu:X.A.units + 1 < cLine)(ho:PE X o td)(he:PE X e ty)(m:M1 X o "pop" apos e cpos):PE X (.Call (.Attribute o "pop" apos) [e] [] cpos) (tDPopT td ty):=by
 intro aY s σ H Q I h;refine wpAny_Call_method m.base m.few m.line F.plainAttrs_dict F.slot_dict_pop F.type_dict_pop (thn (ho aY s σ H _ I h) fun u s1 hq0=>?_);obtain⟨x,H1,I1,rx,a,ex,d,q1⟩:=hq0;subst ex;obtain rfl:u=Value.ref a:=rx;obtain⟨t1,t2,_⟩:=zbdi I1 d;refine⟨t1,t2,?_⟩;rw[m.trees];refine xia rfl (xij (xhs (thn (he aY s1 σ H1 _ I1 q1) fun iv s2 ⟨y,H2,I2,ry,kvs,k,v,b,ea,ey,eb,l,q2⟩=>xjr ?_)));subst ey;cases(show iv=Value.ref b from ry);exact zbjx hu I2 ea eb l fun w' s3 I3 rw'=>⟨v,_,I3,rw',q2⟩
end
def rCatA (K:Fg):R2:=fun x y H Q=>∃a b xs ys,x=.ref a/\y=.ref b/\SqT K H a xs/\SqT K H b ys/\xs.length+ys.length<=sizeLine /\
 (xs=[]->Q (.ref b) H)/\(xs≠[]->ys=[]->Q (.ref a) H)/\(xs≠[]->ys≠[]->∀p,H p=none->Q (.ref p) (upd H p (.tup (xs++ys))))
section
variable {X:Cx}
theorem zbci:OpR X (binaryOp .Add) (rCatA X.K):=by
 intro aY s σ H x y v u Q I rx ry h;obtain⟨a,b,xs,ys,rfl,rfl,ha,hb,hz,q0,q1,q2⟩:=h;by_cases hx:xs=[]
 ·cases rx;cases ry;obtain⟨its,r1,p1,_⟩:=I.tuple ha;obtain⟨its2,r2,p2,_⟩:=I.tuple hb;obtain⟨⟨cls,dd,data,sl⟩,ho,hc,n,hd⟩:=id p1;obtain⟨⟨cls2,dd2,data2,sl2⟩,ho2,hc2,n2,hd2⟩:=id p2;simp only at hc hd hc2 hd2;subst hc hd hc2 hd2;have e:its=[]:=r1.nil_iff.mpr hx;exact concat_meets ⟨_,ho,rfl⟩ ⟨_,ho2,rfl⟩ noFill_tuple_add seq_tuple_add xjv xjn (xjf _ _)
   (tuple_addW0 a b its.toArray its2.toArray n n2 dd dd2 sl sl2 (by simp[e])) ⟨ho,ho2,⟨.ref b,H,I,rfl,q0 hx⟩⟩
 ·exact zbch aY s σ H _ _ v u Q I rx ry ⟨a,b,xs,ys,rfl,rfl,ha,hb,hx,hz,fun z=>q1 hx z,fun z=>q2 hx z⟩
end
section
variable {prog:Program}{w:World}{A:Around}{E:Value->Shared->Prop}{s:Shared}
theorem zuv {t sl:Addr}{its:Array Value}{vl vu:Value}{lo hi:Option Int}{W:Value->Shared->Prop}(ht:IsTup s.heap t its)(hs:s.heap.IsSliceOf sl vl vu .none)(pl:IsPart vl lo)(pu:IsPart vu hi)
  (h0:HT.sIx its.size 0 lo=0)(h1:HT.sIx its.size its.size hi=its.size)(fin:W (.ref t) s):wpAny (model prog w) A (getItem (.ref t) (.ref sl)) W E s:=by
 obtain⟨os,hos,hcs,hds⟩:=id hs;unfold getItem
 try with_reducible refine xdm ?_
 first | refine xba (xbe ?_) | skip
 refine xba (xlj ht.typeIs (by decide) ?_);refine xba (wpAny_callSpecial?_slot (name:=Str.ofString "__getitem__") ht.typeIs xjl (xem xjl ht.typeIs entry_tuple_getitem ?_ (args_tuple_getitem _ _)))
 show wpAny _ _ (Builtin.Tuple.tupleItemsOf (.ref t) >>= _) _ _ s;refine xba (tupleItemsOf_ ht ?_);have hTs:s.TypeIs (.ref sl) "slice":=⟨os, hos, hcs⟩
 refine xba (wpAny_typeOf hTs ?_);rw[if_pos (by decide)];refine xba (HT.zef hs pl pu ?_);have yes:(((HT.sIx its.size 0 lo:Nat):Int)==0&&(1:Int)==1&&(HT.sIx its.size its.size hi - HT.sIx its.size 0 lo)==its.size)=true:=by
  rw[h0,h1];simp
 show wpAny _ _ (if(((HT.sIx its.size 0 lo:Nat):Int)==0&&(1:Int)==1&&(HT.sIx its.size its.size hi - HT.sIx its.size 0 lo)==its.size)=true then _ else _) _ _ s;rw[if_pos yes];refine xba (?_:wpAny _ _ (Builtin.Tuple.tupleIsExact (.ref t)) _ _ s);unfold Builtin.Tuple.tupleIsExact;refine xba (wpAny_typeOf ht.typeIs (xbe ?_));rw[if_pos (by decide)];exact xba (xgu (xbe ⟨_,rfl,xbe fin⟩))
end
def rSlA (K:Fg):V->Option Int->Option Int->Hp->VK->Prop:=fun x lo hi H Q=>∃a xs,x=.ref a/\SqT K H a xs/\(cutV xs lo hi=xs->Q (.ref a) H)/\∀p,H p=none->Q (.ref p) (upd H p (.tup (cutV xs lo hi)))
theorem zbav {X:Cx}:SlR X (rSlA X.K):=by
 intro aY s σ H x v vl vu lo hi sl Q I rx hs pl pu h;obtain⟨a,xs,rfl,hx,q1,q2⟩:=h;by_cases hw:HT.sIx xs.length 0 lo=0/\HT.sIx xs.length xs.length hi=xs.length
 ·cases rx;obtain⟨its,r,ht,hz⟩:=I.tuple hx;have hlen:its.toArray.size=xs.length:=by rw[xbn];exact r.length.symm
  refine⟨"tuple", _, xjl.lookup, ht.typeIs, ?_⟩
  refine zuv ht hs pl pu (by rw[hlen];exact hw.1) (by rw[hlen];exact hw.2) ⟨.ref a,H,I,rfl,q1 ?_⟩;unfold cutV;rw[hw.1,hw.2];simp
 ·exact zbgp aY s σ H _ v vl vu lo hi sl Q I rx hs pl pu ⟨a,xs,rfl,hx,hw,q2⟩
theorem ziy (ns:List Int):∀k,k<=ns.length->preSum (fun i=>ns.getD i 0) k=(ns.take k).sum
 | 0,_=>rfl
 | k+1,h=>by
  show preSum (fun i=>ns.getD i 0) k+ns.getD k 0=_;rw[ziy ns k (by lia),xhf (by lia),List.sum_append,xbq,xbg (by lia)];simp
theorem zkt:∀{ns:List Int} {us:List Value} {i:Nat} {v:Value},Vals (ns.map V.int) us->us[i]?=some v->∃t,v=.int (ns.getD i 0) t
 | [],_,_,_,.nil,e=>by simp at e
 | n::ns,_,0,_,.cons r _,e=>by
  simp at e;subst e
  obtain⟨t,rfl⟩:=r;exact⟨t,rfl⟩
 | n::ns,_,i+1,v,.cons _ t,e=>by
  have:=zkt (i:=i) t (by simpa using e)
  simpa using this
def rSum (K:Fg):List V->Hp->VK->Prop:=fun xs H Q=>∃(a:Addr) (ns:List Int),xs=[.ref a]/\(SqL K H a (ns.map V.int)\/SqT K H a (ns.map V.int))/\Q (.int ns.sum) H
theorem zof {X:Cx}(hc:X.calm=true):CallR X (.builtin "sum") (rSum X.K):=by
 intro aY s σ H xs us Q I r h;obtain⟨a,ns,rfl,hs,q⟩:=h;obtain⟨u,rfl,ru⟩:=vals1 r;cases ru;have key:∀{its:List Value} (h':Heap) (tk:Nat) (t':Tok) (nn:Nat),nn=ns.length->(∀b o,b≠s.heap.objs.size->s.heap.get? b=some o->h'.get? b=some o) ->
   EP X aY σ Q (.int (preSum (fun i=>ns.getD i 0) nn) t') {s with heap:=h',toks:=tk}:=fun h' tk t' nn hn hk=>by
  subst hn;rw[ziy ns _ (xbf _),xda];exact⟨.int ns.sum,H,I.kept (t':=tk) fun b o e=>hk b o (xbv (xbi e)) e,⟨_,rfl⟩,q⟩
 refine call_sum_walkG ?_;rcases hs with hs | hs
 ·obtain⟨its,rv,pl,hz⟩:=I.list hs;have hlt:a < s.heap.objs.size:=by obtain⟨o,n,e,_⟩:=pl;exact xbi e
  have hl:=rv.length;rw[xbd] at hl;refine xid pl.isList ?_;refine⟨s.heap.objs.size,_,[s.heap.objs.size],_,_,_,fun i=>ns.getD i 0,rfl,Walks.list (A:=X.A.in1) (I.ok.hd hc) _ a (xbv hlt) its.toArray,⟨⟨_,xbk _ rfl,rfl,rfl⟩,pl.isList.push _⟩,?_,fun i v e=>zkt rv (by simpa using e),fun h' tk t' hk=>?_⟩
  ·intro b hb;show b < (s.heap.push _).objs.size;rw[show ∀o:Obj,(s.heap.push o).objs.size=s.heap.objs.size+1 from fun o=>by simp[Heap.push]];rcases xbu.mp hb with rfl | hb
   ·exact xjz _
   ·rcases xbu.mp hb with rfl | hb
    ·exact xha hlt
    ·cases hb
  ·exact key (its:=its) h' tk t' _ (by simp[hl]) fun b o hb e=>hk b o (by simpa using hb) (xbb _ e)
 ·obtain⟨its,rv,pl,hz⟩:=I.tuple hs;have hlt:a < s.heap.objs.size:=pl.lt;have hl:=rv.length;rw[xbd] at hl;have pt:s.heap.IsTuple a its.toArray:=pl;refine xfy pt ?_;refine⟨s.heap.objs.size,_,[s.heap.objs.size],_,_,_,fun i=>ns.getD i 0,rfl,Walks.tuple (A:=X.A.in1) (I.ok.hd hc) _ a (xbv hlt) its.toArray,⟨⟨_,xbk _ rfl,rfl,rfl⟩,pt.push _⟩,?_,fun i v e=>zkt rv (by simpa using e),fun h' tk t' hk=>?_⟩
  ·intro b hb;show b < (s.heap.push _).objs.size;rw[show ∀o:Obj,(s.heap.push o).objs.size=s.heap.objs.size+1 from fun o=>by simp[Heap.push]];rcases xbu.mp hb with rfl | hb
   ·exact xjz _
   ·rcases xbu.mp hb with rfl | hb
    ·exact xha hlt
    ·cases hb
  ·exact key (its:=its) h' tk t' _ (by simp[hl]) fun b o hb e=>hk b o (by simpa using hb) (xbb _ e)
theorem zhu {prog:Program}{w:World}{A:Around}{E:Value->Shared->Prop}{s:Shared}{it t:Addr}{i:Nat}{items:Array Value}{Q:Value->Shared->Prop}(hh:A.handled=none)(hit:s.heap.IsTupleIter it t i)(ht:s.heap.IsTuple t items)
  (hQ:∀x,items[i]?=some x->∀h',h'.IsTupleIter it t (i+1)->Heap.SameBut it s.heap h'->Q x {s with heap:=h'})
  (hE:items[i]?=none->∀ h' e, Heap.ExtBut it s.heap h'->(∃ o, h'.get? e=some o/\o.cls=.type "StopIteration")->E (.ref e) { s with heap:=h' }):wpAny (model prog w) A (Builtin.SmallTypes.nextOf (.ref it)) Q E s:=by
 rcases hit with⟨o,ho,hc,hd⟩
 rcases ht with⟨u,hu,_,n,hs⟩
 refine xba (wpAny_callSpecial?_slot (name:=Str.ofString "__next__") ⟨o, ho, hc⟩ F.slot_tuple_iterator_next (xem F.slot_tuple_iterator_next ⟨o, ho, hc⟩ F.entry_tuple_iterator_next ?_ (F.args_tuple_iterator_next_1 _)))
 have f0:(#[Value.ref t,.int i 0]:Array Value)[0]?=some (.ref t):=rfl;have f1:(#[Value.ref t,.int i 0]:Array Value)[1]?=some (.int i 0):=rfl
 wp_walk using xdv ho hd f0,xdv ho hd f1,xgo hu hs
 rw[xec];cases hx:items[i]? with
 | some x =>
  exact xba (xgn ho hd (by simp) (xbe ⟨x,rfl,xbe (hQ x hx _ ⟨_,xep _ ho (xke (xfu hd _)),(Obj.cls_mapFields ..).trans hc,by rw[xfu hd];simp[rawInt]⟩ (.update ..))⟩))
 | none =>
  have hh':A.in1.handled=none:=hh
  wp_walk using xgn ho hd (by simp)
  unfold raiseNew;refine xba (wpAny_handled ?_);rw[hh'];exact xba (xbe (wpAny_throw (hE hx _ _ ((xhk ..).extBut.push _ |>.push _) ⟨_,xbk _ rfl,rfl⟩)))
theorem draws1 {prog:Program}{w:World}{A:Around}(hh:A.handled=none)(it t:Addr)(hne:t≠it)(items:Array Value) :
  Draws prog w A it [it,t] (items.size+1) (fun j v=>∃i,j=i+1/\items[i]?=some v) (fun j h=>∃i,j=i+1/\h.IsTupleIter it t i/\h.IsTuple t items) where
 live:=fun _ _ ⟨_,_,⟨o,ho,_⟩,_⟩=>⟨o,ho⟩
 frame:=fun _ _ _ ⟨i,e,a,b⟩ hk=>⟨i,e,a.at fun o e=>hk it (by simp) o e,b.at fun o e=>hk t (by simp) o e⟩
 item:=fun j s Q E hj hq0 hQ=>by
  obtain⟨i,e,a,b⟩:=hq0;have hi:i < items.size:=by lia
  refine zhu hh a b (fun x hx h' hit' hs'=>?_) fun z=>absurd z (by simp;lia)
  exact hQ _ h' s.toks ⟨i,e,hx⟩ ⟨i+1,by lia,hit',b.extBut hs'.extBut hne⟩ hs'
 done:=fun s Q E ⟨i,e,a,b⟩ hE=>zhu hh a b (fun x hx=>absurd hx (by rw[xjw (by lia)];simp)) fun _=>hE
theorem draws0 {prog:Program}{w:World}{A:Around}(hh:A.handled=none)(it t:Addr)(items:Array Value)(i:Nat)(hi:items.size<=i) :
  Draws prog w A it [it,t] (i+1) (fun _ _=>False) (fun j h=>j=i+1/\h.IsTupleIter it t i/\h.IsTuple t items) where
 live:=fun _ _ ⟨_,⟨o,ho,_⟩,_⟩=>⟨o,ho⟩
 frame:=fun _ _ _ ⟨e,a,b⟩ hk=>⟨e,a.at fun o e=>hk it (by simp) o e,b.at fun o e=>hk t (by simp) o e⟩
 item:=fun j s Q E hj ⟨e,_⟩ _=>absurd e (by lia)
 done:=fun s Q E ⟨_,a,b⟩ hE=>zhu hh a b (fun x hx=>absurd hx (by rw[xjw hi];simp)) fun _=>hE
section
variable {X:Cx}{aY:List (Addr×Obj)}{σ:St}{H:Hp}{s:Shared}{h':Heap}
theorem Inv.turned2 {t':Nat}{e it:Addr}(I:Inv X aY σ H s)(k:∀b o,b≠e->b≠it->s.heap.get? b=some o->h'.get? b=some o)(hn:H it=none)(hL:it≠X.env.locals)
  (h1:it∈X.ex\/X.s₀.heap.objs.size<=it)(h2:∀x c,X.env.cells.lookup x=some c->c≠it)(h3:∀p∈X.pn++aY,p.1≠it)(gn:H e=none)(gL:e≠X.env.locals)
  (g1:e∈X.ex\/X.s₀.heap.objs.size<=e)(g2:∀x c,X.env.cells.lookup x=some c->c≠e)(g3:∀p∈X.pn++aY,p.1≠e):Inv X aY σ H {s with heap:=h',toks:=t'}:=by
 have nit:∀b u,H b=some u->b≠it:=fun b u e z=>by rw[z,hn] at e;cases e
 have nie:∀b u,H b=some u->b≠e:=fun b u q z=>by rw[z,gn] at q;cases q
 refine I.step (g':=s.gens) (d':=s.drawn) (ch:=[e,it]) (fun b hb=>?_) (fun b o _ _ hc e _=>k b o (fun z=>hc (by simp[z])) (fun z=>hc (by simp[z])) e) (fun b o _ _ hc e _=>⟨o.slots,k b o (fun z=>hc (by simp[z])) (fun z=>hc (by simp[z])) e⟩) (fun _ _ _ _ n=>n)
  (fun b o hc e=>⟨o,k b o (fun z=>hc (by simp[z])) (fun z=>hc (by simp[z])) e⟩) (fun _ _ e=>e) (fun _ _ _ e=>e) (fun b ps e=>⟨#[],by rw[e];simp⟩) (fun m hm=>?_) (fun b u e=>?_) I.bare
 ·rcases xbu.mp hb with z | z
  ·subst z;exact⟨g1,gL,g2,g3⟩
  ·have z':b=it:=by simpa using z
   subst z';exact⟨h1,hL,h2,h3⟩
 ·obtain⟨o,es,ep,ho,r⟩:=hm;exact⟨o,es,ep,k _ o (xct gL) (xct hL) ho,r⟩
 ·refine(I.hok b u e).stay (fun c v hc q=>k c v ?_ ?_ q) (fun _ q=>q) fun _ _ q=>q
  ·rcases hc with z | z
   ·rw[z];exact nie b u e
   ·exact nie c _ z
  ·rcases hc with z | z
   ·rw[z];exact nit b u e
   ·exact nit c _ z
end
def Ite (K:Fg) (a:Addr):It :=
 ⟨fun i H=>∃xs x,SqT K H a xs/\xs[i]?=some x,fun i H y H'=>∃p,H p=none/\y=.ref p/\∀xs x,SqT K H a xs->xs[i]?=some x->H'=upd H p (.tup [.int ((i+1:Nat):Int),x]),fun i H=>∃xs,SqT K H a xs/\xs.length<=i⟩
theorem zpp {P:Program}{w:World}{K:Fg}{elts:List Expr}{k:Nat}{tpos:Pos}(e it a:Addr)(hei:e≠it) :
  Turn P w K (.Tuple elts k tpos) (Ite K a) [e,it] e (fun i h=>(∃old,IsEnum h e it ((i+1:Nat):Int) old)/\h.IsTupleIter it a i) where
 mem:=by simp
 obj:=fun i h st b hb=>by
  obtain⟨⟨old,he⟩,o,e',c,d⟩:=st;rcases xbu.mp hb with rfl | hb
  ·exact⟨_,he,fun v z=>by
    have z':Data.fields _=Data.cell v:=z
    cases z'⟩
  ·have:b=it:=by simpa using hb
   subst this;exact⟨o,e',fun v z=>by rw[d] at z;cases z⟩
 keep:=fun i h h' st k=>⟨let ⟨old,he⟩:=st.1;⟨old,k e (by simp) _ he⟩,st.2.at fun o z=>k it (by simp) o z⟩
 item:=by
  intro X hP hw hK hc i aY s σ H E I hf st hg;subst hP hw hK;obtain⟨xs,x,hq,hx⟩:=hg;obtain⟨⟨old,he⟩,hit⟩:=st;obtain⟨its,rv,p,hz⟩:=I.tuple hq;have ht:s.heap.IsTuple a its.toArray:=p;obtain⟨u,hu,ru⟩:=rv.get hx;have hae:a≠e:=fun z=>by
   obtain⟨o,ho,hcl,_⟩:=ht;rw[z,he] at ho;cases ho;simp at hcl
  have hai:a≠it:=fun z=>by
   obtain⟨o,ho,hcl,_⟩:=ht;obtain⟨o',ho',hcl',_⟩:=hit;rw[z,ho'] at ho;cases ho;rw[hcl'] at hcl;simp at hcl
  have hi:i < its.length:=(xbo.mp hu).1;have D:=draws1 (prog:=X.prog) (w:=X.w) (A:=X.A.in1) (I.ok.hd hc) it a hai its.toArray;refine wpAny_pyNext_enum_itemD D (i:=i+1) he ⟨i,rfl,hit,ht⟩ (by simp;lia) hei (by simp;exact⟨hei,fun z=>hae z.symm⟩) fun x' h' tk hP ho hs' hT hsz hk=>?_
  obtain⟨i',e1,e2⟩:=hP;cases(show i'=i by lia);have eu:x'=u:=by
   rw[xfx,hu] at e2;exact(xby e2).symm
  subst eu;refine⟨_,rfl,wpAny_letOwnedTupleGo_enum ho fun h2 he2 hs2=>?_⟩;obtain⟨f0,f1,f2,f3,f4,f5⟩:=hf e (by simp);obtain⟨g0,g1,g2,g3,g4,g5⟩:=hf it (by simp);have hel:e < s.heap.objs.size:=xbi he;have hil:it < s.heap.objs.size:=by obtain⟨o',ho',_⟩:=hit;exact xbi ho'
  have I1:Inv X aY σ (upd H s.heap.objs.size (.tup [.int ((i + 1:Nat):Int), x])) { s with heap:=s.heap.push { cls:=.type "tuple", data:=.seq #[.int ((i + 1:Nat):Int) tk, x'] }, toks:=s.toks } :=
   I.laid (fun _ _ q=>xbb _ q) (xbf _) ⟨by simp;decide,[.int ((i+1:Nat):Int) tk,x'],.cons ⟨tk,rfl⟩ (.cons ru .nil),⟨_,xbk _ rfl,rfl,_,rfl⟩⟩
  have T2:h2.get? s.heap.objs.size=some { cls:=.type "tuple", data:=.seq #[.int ((i + 1:Nat):Int) tk, x'] }:=(hs2.2 _ (xga hel)).trans hT
  have I2:Inv X aY σ (upd H s.heap.objs.size (.tup [.int ((i+1:Nat):Int),x])) {s with heap:=h2,toks:=tk+1}:=by
   refine Inv.turned2 (s:={ s with heap:=s.heap.push { cls:=.type "tuple", data:=.seq #[.int ((i + 1:Nat):Int) tk, x'] }, toks:=s.toks }) (h':=h2) (t':=tk + 1) (e:=e) (it:=it) I1 (fun b o hbe hbi q=>?_) (by rw[zn (xbv hil)]; exact g0) g1 g3 g4 g5 (by rw[zn (xbv hel)]; exact f0) f1 f3 f4 f5
   have q':(s.heap.push { cls:=.type "tuple", data:=.seq #[.int ((i + 1:Nat):Int) tk, x'] }).get? b=some o:=q
   rcases Heap.get?_push_cases q' with⟨z,z2⟩ | z
   ·rw[z,z2];exact T2
   ·exact(hs2.2 _ hbe).trans (hk b o hbe hbi z)
  refine⟨.ref s.heap.objs.size,_,I2,rfl,⟨s.heap.objs.size,I.fresh,rfl,fun ys y hy e'=>?_⟩,⟨⟨x',?_⟩,?_⟩,fun b hb=>?_⟩
  ·rw[I.tuple_inj hy hq,hx] at e';cases e'
   rfl
  ·have:(((i+1+1:Nat)):Int)=(((i+1:Nat)):Int)+1:=by push_cast;rfl
   rw[this];exact he2
  ·obtain⟨i',e3,e4,_⟩:=hs';cases(show i'=i+1 by lia);exact e4.at fun o q=>(hs2.2 it (xct hei)).trans q
  ·rcases xbu.mp hb with rfl | hb
   ·rw[zn (xbv hel)];exact f0
   ·have:b=it:=by simpa using hb
    subst this;rw[zn (xbv hil)];exact g0
 done:=by
  intro X hP hw hK hc i aY s σ H E I hf st hg;subst hP hw hK;obtain⟨xs,hq,hx⟩:=hg;obtain⟨⟨old,he⟩,hit⟩:=st;obtain⟨its,rv,p,hz⟩:=I.tuple hq;have ht:s.heap.IsTuple a its.toArray:=p;have hl:=rv.length;obtain⟨g0,g1,g2,g3,g4,g5⟩:=hf it (by simp);have D:=draws0 (prog:=X.prog) (w:=X.w) (A:=X.A.in1) (I.ok.hd hc) it a its.toArray i (by simp;lia);exact wpAny_pyNext_enum_endD D he ⟨rfl,hit,ht⟩ fun h' he'=>⟨rfl,I.turned (t':=s.toks) (fun b o hb e=>he' b o hb e) g0 g1 g3 g4 g5⟩
 self:=fun A i s Q E st h=>let ⟨old,he⟩:=st.1;wpAny_pyIter_enum he h
theorem zug (a:Addr)(items:Array Value)(ob:Obj)(t:Tok) :
  Meets (Builtin.«enumerate.__new__» ⟨[.type "enumerate", .ref a],[(Str.ofString "start", .int 1 t)]⟩) (fun _ R s=>s.heap.get? a=some ob/\s.heap.IsTuple a items /\
   R (.ok (.ret (.ref (s.heap.objs.size+1))))
    { s with heap:=(s.heap.push { cls:=.type "tuple_iterator", data:=.fields #[.ref a, .int 0 0] }).push { cls:=.type "enumerate", data:=.fields #[.none, .bool false, .ref s.heap.objs.size, rawInt 1, .none, .none] } }):=by
 refine Meets.of_wp ?_;rintro prog w A R ⟨hp,g,d,tk,os⟩ ⟨h1,h2,h3⟩;have known:=sub_enumerate;have size:(hp.push { cls:=.type "tuple_iterator", data:=.fields #[.ref a, .int 0 0] }).objs.size=hp.objs.size + 1:=xgl ..
 rw[← size] at h3
 wp_walk using xji h1
 refine wpAny_stack_any fun _=>xbe ?_
 split
 ·rename_i c _ _ _ _ _;generalize (c==Value.type "enumerate")=b
  cases b<;>(wp_walk using xji h1,xfy h2;exact⟨_,rfl,h3⟩)
 ·wp_walk using xji h1,xfy h2
  exact⟨_,rfl,h3⟩
theorem zbdk {T nw:String}{self a:Value}{rest:List Value}{k:Str×Value}{kw:List (Str×Value)}(h1:typeLookup (.type T) "__init__"=pure (some (.builtin "object.__init__")))(h2:Bind.madeBy (.type T)=pure (some nw))
  (h3:(some nw != some "object.__new__")=true):Meets (Builtin.«object.__init__» ⟨self::a::rest, k::kw⟩) (fun _ R s=>s.TypeIs self T/\R (.ok (.ret .none)) s) :=
 .of_wp fun _ _ _ _ _ hq0=>by
  obtain⟨h4,h5⟩:=hq0
  repeat any_goals first | assumption | wp_step
  exact⟨_,rfl,h5⟩
theorem zyc (a:Value)(t:Tok):checkBuiltinCall "enumerate.__new__" ⟨[.type "enumerate", a],[(Str.ofString "start", .int 1 t)]⟩=pure ():=by kernel_rfl
theorem zxz (o a:Value)(t:Tok):argsOk "object.__init__" ⟨[o, a],[(Str.ofString "start", .int 1 t)]⟩:=by kernel_rfl
theorem zru {prog:Program}{w:World}{A:Around}{E:Value->Shared->Prop}{s:Shared}{a:Addr}{items:Array Value}{t:Tok}{Q:Value->Shared->Prop}(hL:s.heap.IsTuple a items)
  (h:∀h',IsEnum h' (s.heap.objs.size+1) s.heap.objs.size 1 .none->h'.IsTupleIter s.heap.objs.size a 0->(∀b o,s.heap.get? b=some o->h'.get? b=some o)->Q (.ref (s.heap.objs.size+1)) {s with heap:=h'}) :
  wpAny (model prog w) A (call (.type "enumerate") [.ref a] [(Str.ofString "start", .int 1 t)]) Q E s:=by
 rcases id hL with⟨ob,hob,_⟩
 have ft:=F.called_enumerate;rcases ft.mro with⟨c,tl,m1⟩
 have m2:=ft.made;have m3:=ft.sub;have m4:=ft.notType;have m5:=ft.canCreate;have m6:=ft.init.lookup;have size:(s.heap.push { cls:=.type "tuple_iterator", data:=.fields #[.ref a, .int 0 0] }).objs.size=s.heap.objs.size + 1:=xgl ..
 have he:IsEnum ((s.heap.push { cls:=.type "tuple_iterator", data:=.fields #[.ref a, .int 0 0] }).push { cls:=.type "enumerate", data:=.fields #[.none, .bool false, .ref s.heap.objs.size, rawInt 1, .none, .none] }) (s.heap.objs.size + 1) s.heap.objs.size 1 .none:=by
  rw[← size];exact xbk _ rfl
 have done:=h _ he ⟨_,xbb _ (xbk _ rfl),rfl,rfl⟩ fun b o x=>xbb _ (xbb _ x)
 refine xip (codeAny_of_tree (xbe ⟨Code.quiet_builtin _ (by decide +kernel),xkn F.entry_type_call ?_⟩));rw[Around.under_plain (weight_type_call_type _ _ _) (units_type_call_type _ _ _)]
 repeat any_goals first | assumption | wp_step
 refine xhi (xiq ft.plain F.entry_enumerate_new (wpAny_of_eq (zyc _ t) (zug a items ob t prog w A.in1 (wants (fun x s1=>s1.TypeIs x "enumerate"/\Q x s1) E) s ⟨hob, hL,⟨_, he, rfl⟩, done⟩))) ?_
 clear done he size h hL hob;rintro(e | _ | _ | _ | x) s1 hr
 case ok.ret =>
  obtain⟨T,q⟩:=hr;have m7:=ft.init.bind x
  repeat any_goals first | assumption | wp_step
  refine xhi (xiq ft.init.plain F.entry_object_init (ft.init.check _ _ _ _ _ _ _ _ T (zxz _ _ t) (zbdk m6 m2 (by decide) prog w A.in1 (wants (fun y s2=>y=.none/\Q x s2) E) _ ⟨T,rfl,q⟩))) ?_;rintro(e | _ | _ | _ | y) s2 hr
  case ok.ret =>
   obtain⟨rfl,q⟩:=hr
   repeat any_goals first | assumption | wp_step
  all_goals first | exact hr | exact hr.elim
 all_goals first | exact hr | exact hr.elim
theorem cw_kw {M:Model}{A:Around}{E:Value->Shared->Prop}{s:Shared}{pos:Pos}{T:String}{first:List Value}{args:List (Bool×Sem Value)}{kws:List (Option Str×Sem Value)}{Q:Value->Shared->Prop}(h1:args.any (·.1)=false)(h2:kws.any (·.1.isNone)=false)
  (h:wpAny M A (evalArgs (.type T) true args kws) (fun a s1=>wpAny M A (call (.type T) (first++a.pos) a.kw) Q E s1) E s):wpAny M A (callWith pos (.type T) first args kws) Q E s:=by
 unfold callWith;refine xba (xdm (xdh h ?_ fun _ _=>id));intro a s1 k;rw[h1,h2];exact xba (xlb (xba (xbe (xba (xdh k (fun _ _ q=>xba (xdm (wpAny_point (xbe q)))) fun _ _=>id)))))
section
variable {X:Cx}
def iEnum1 (K:Fg) (tl:TE):TI:=fun σ H R=>tl σ H fun x H1=>∃a,x=.ref a/\(∃xs,SqT K H1 a xs)/\R (Ite K a) H1
theorem zxn {elts:List Expr}{k j:Nat}{tpos p pos kpos cpos:Pos}{l:Expr}{tl:TE}(hg:Gl X "enumerate")(hm:X.mg "enumerate"=none)(hl:PE X l tl)
  (he:starEach [l] X.env=[(false,eval l X.env)]:=by rfl) :
  PI X (.Tuple elts k tpos) (.Call (.Name "enumerate" p) [l] [⟨some "start", .Constant (.int 1) j cpos, kpos⟩] pos) (iEnum1 X.K tl):=by
 intro aY s σ H R I h;refine xfe (zjt I hg hm PyProof.Rows.boot_enumerate ?_);refine cw_kw (by rw[he];rfl) rfl ?_;rw[he];refine evalArgs_kwB rfl ?_;refine xhs (thn (hl aY s σ H _ I h) fun v s1 hq0=>?_);obtain⟨x,H1,I1,r1,q1⟩:=hq0;refine xjr ?_;refine kws_cons ?_;refine wpAny_Constant_int (kws_nil ?_);obtain⟨a,rfl,⟨xs,hq⟩,q⟩:=q1;cases r1;have I2:=I1.tok (s1.toks+1);obtain⟨its,rv,pp,hz⟩:=I2.tuple hq;refine zru (show _ from pp) fun h' he' hit hk=>?_
 refine wpAny_pyIter_enum he' ?_;have I3:=I2.kept (h':=h') (t':=s1.toks+1) hk;refine⟨s1.heap.objs.size+1,[s1.heap.objs.size+1,s1.heap.objs.size],_,_,H1,rfl,I3,zpp _ s1.heap.objs.size a (Nat.succ_ne_self _),⟨⟨_,he'⟩,hit⟩,fun b hb=>?_,q⟩;have hb':s1.heap.objs.size<=b:=by
  have hb2:b=s1.heap.objs.size+1\/b=s1.heap.objs.size:=by simpa using hb
  cases hb2 with
  | inl z=>exact z ▸ xkr _
  | inr z=>exact z ▸ xbf _
 exact I1.fpOk hb' (I1.hok.fresh hb')
end
def bestI (gt:Bool) (n:Int) (ns:List Int):Int:=ns.foldl (fun i j=>if(if gt then decide (j > i) else decide (j < i))=true then j else i) n
theorem zig:∀(ns:List Int) (n:Int),bestI true n ns∈n::ns/\∀a∈n::ns,a<=bestI true n ns
 | [],n=>⟨by simp[bestI],by simp[bestI]⟩
 | m::ns,n=>by
  have e:bestI true n (m::ns)=bestI true (if m > n then m else n) ns:=by simp[bestI]
  obtain⟨h1,h2⟩:=zig ns (if m > n then m else n);rw[e];refine⟨?_,fun a ha=>?_⟩
  ·rcases xbu.mp h1 with z | z
   ·rw[z];split<;>simp
   ·simp[z]
  ·have h3:=h2 _ xcm;rcases xbu.mp ha with rfl | ha
   ·refine Int.le_trans ?_ h3;split<;>lia
   ·rcases xbu.mp ha with rfl | ha
    ·refine Int.le_trans ?_ h3;split<;>lia
    ·exact h2 a (xcq _ ha)
theorem zrx {n:Int}{ns:List Int}{k:Nat}(hk:k=ns.length):(n::ns).getD (argBest (fun i j=>decide ((n::ns).getD i 0 >(n::ns).getD j 0)) k) 0=bestI true n ns:=by
 subst hk;obtain⟨h1,h2⟩:=argBest_gt (fun i=>(n::ns).getD i 0) ns.length;obtain⟨g1,g2⟩:=zig ns n;have hl:argBest (fun i j=>decide ((n::ns).getD i 0 >(n::ns).getD j 0)) ns.length < (n::ns).length:=by rw[xbx];lia
 obtain⟨j,hj,ej⟩:=xea g1;have a1:=h2 j (by simp at hj;lia);have a2:=g2 ((n::ns).getD (argBest (fun i j=>decide ((n::ns).getD i 0 >(n::ns).getD j 0)) ns.length) 0) (by rw[xbq,xbg hl];exact xdy hl);have e:(n::ns).getD j 0=bestI true n ns:=by rw[xbq,xbg hj,ej];rfl
 rw[e] at a1;lia
section
variable {X:Cx}
theorem zsk {aY:List (Addr×Obj)}{σ:St}{H:Hp}{s:Shared}{E:Value->Shared->Prop}{a:Addr}{ns:List Int}{R:Value->Shared->Prop}(hc:X.calm=true)(I:Inv X aY σ H s)(hs:SqL X.K H a (ns.map V.int)\/SqT X.K H a (ns.map V.int))
  (h:∀I' fp wr P St s2,Walks X.prog X.w X.A.in1 I' fp wr ns.length P St->St 0 s2.heap->(∀b∈fp,b < s2.heap.objs.size)->(∀i v,P i v->∃t,v=.int (ns.getD i 0) t) ->
   (∀h' tk,(∀b o,b∉wr->s2.heap.get? b=some o->h'.get? b=some o)->Inv X aY σ H {s2 with heap:=h',toks:=tk})->R (.ref I') s2) :
  wpAny (model X.prog X.w) X.A.in1 (pyIter (.ref a)) R E s:=by
 have key:∀(o:Obj) (h':Heap) (tk:Nat),(∀b u,b∉[s.heap.objs.size]->(s.heap.push o).get? b=some u->h'.get? b=some u)->Inv X aY σ H {s with heap:=h',toks:=tk}:=fun o h' tk hk =>
  I.kept (t':=tk) fun b u e=>hk b u (by simp;exact xbv (xbi e)) (xbb _ e)
 have low:∀(o:Obj),a < s.heap.objs.size->∀b∈[s.heap.objs.size,a],b < (s.heap.push o).objs.size:=fun o hlt b hb=>by
  rw[xgl];have hb':b=s.heap.objs.size\/b=a:=by simpa using hb
  rcases hb' with z | z
  ·rw[z];exact xjz _
  ·rw[z];exact xha hlt
 rcases hs with hs | hs
 ·obtain⟨its,rv,pl,hz⟩:=I.list hs;have hlt:a < s.heap.objs.size:=by obtain⟨o,n,e,_⟩:=pl;exact xbi e
  have hl:=rv.length;rw[xbd] at hl;have W:=Walks.list (prog:=X.prog) (w:=X.w) (A:=X.A.in1) (I.ok.hd hc) s.heap.objs.size a (xbv hlt) its.toArray;rw[show its.toArray.size=ns.length from by rw[xbn];exact hl.symm] at W;exact xid pl.isList (h _ _ _ _ _ { s with heap:=s.heap.push { cls:=.type "list_iterator", data:=.fields #[.ref a, .int 0 0] } } W ⟨⟨_, xbk _ rfl, rfl, rfl⟩, pl.isList.push _⟩ (low _ hlt) (fun i v e=>zkt rv (by simpa using e)) fun h' tk hk=>key _ h' tk hk)
 ·obtain⟨its,rv,pl,hz⟩:=I.tuple hs;have hlt:a < s.heap.objs.size:=pl.lt;have hl:=rv.length;rw[xbd] at hl;have pt:s.heap.IsTuple a its.toArray:=pl;have W:=Walks.tuple (prog:=X.prog) (w:=X.w) (A:=X.A.in1) (I.ok.hd hc) s.heap.objs.size a (xbv hlt) its.toArray;rw[show its.toArray.size=ns.length from by rw[xbn];exact hl.symm] at W;exact xfy pt (h _ _ _ _ _ { s with heap:=s.heap.push { cls:=.type "tuple_iterator", data:=.fields #[.ref a, .int 0 0] } } W ⟨⟨_, xbk _ rfl, rfl, rfl⟩, pt.push _⟩ (low _ hlt) (fun i v e=>zkt rv (by simpa using e)) fun h' tk hk=>key _ h' tk hk)
theorem Inv.turnedL {aY:List (Addr×Obj)}{σ:St}{H:Hp}{s:Shared}{h':Heap}{t':Nat}{ch:List Addr}(I:Inv X aY σ H s)(k:∀b o,b∉ch->s.heap.get? b=some o->h'.get? b=some o)(hf:∀b∈ch,FpOk X aY H b):Inv X aY σ H {s with heap:=h',toks:=t'}:=by
 have nit:∀b u,H b=some u->b∉ch:=fun b u e z=>by have:=(hf b z).1;rw[e] at this;cases this
 have loc:X.env.locals∉ch:=fun z=>(hf _ z).2.1 rfl
 refine I.step (g':=s.gens) (d':=s.drawn) (ch:=ch) (fun b hb=>?_) (fun b o _ _ hc e _=>k b o hc e) (fun b o _ _ hc e _=>⟨o.slots,k b o hc e⟩) (fun _ _ _ _ n=>n)
  (fun b o hc e=>⟨o,k b o hc e⟩) (fun _ _ e=>e) (fun _ _ _ e=>e) (fun b ps e=>⟨#[],by rw[e];simp⟩) (fun m hm=>?_) (fun b u e=>?_) I.bare
 ·obtain⟨f0,f1,f2,f3,f4,f5⟩:=hf b hb;exact⟨f3,f1,f4,f5⟩
 ·obtain⟨o,es,ep,ho,r⟩:=hm;exact⟨o,es,ep,k _ o loc ho,r⟩
 ·refine(I.hok b u e).stay (fun c v hc q=>k c v ?_ q) (fun _ q=>q) fun _ _ q=>q
  rcases hc with z | z
  ·rw[z];exact nit b u e
  ·exact nit c _ z
end
structure ZRec (z TI TO i1 i2 t1 t2:Addr):Prop where
 nd:[z,TI,TO,i1,i2].Nodup
 o1:t1∉[z,TI,TO,i1,i2]
 o2:t2∉[z,TI,TO,i1,i2]
structure ZAt (h:Heap) (z TI TO i1 i2 t1 t2:Addr) (f0:Value) (j:Nat):Prop where
 zip:IsZip h z TI TO f0
 its:IsPair h TI (.ref i1) (.ref i2)
 out:∃a b,IsPair h TO a b
 it1:h.IsTupleIter i1 t1 j
 it2:h.IsTupleIter i2 t2 j
section
variable {prog:Program}{w:World}{A:Around}{E:Value->Shared->Prop}{s:Shared}{z TI TO i1 i2 t1 t2:Addr}{xs ys:Array Value}{j:Nat}
theorem zvd (a b c d e x:Addr)(h:[a,b,c,d,e].Nodup):a≠b/\a≠c/\a≠d/\a≠e/\b≠c/\b≠d/\b≠e/\c≠d/\c≠e/\d≠e:=by
 simp at h;obtain⟨⟨h1,h2,h3,h4⟩,⟨h5,h6,h7⟩,⟨h8,h9⟩,h10⟩:=h;exact⟨h1,h2,h3,h4,h5,h6,h7,h8,h9,h10⟩
theorem zwn {Q:Fin->Shared->Prop}(hh:A.handled=none)(R:ZRec z TI TO i1 i2 t1 t2)(Z:ZAt s.heap z TI TO i1 i2 t1 t2 .none j)(hx:s.heap.IsTuple t1 xs)(hy:s.heap.IsTuple t2 ys)
  (hQ:∀x y,xs[j]?=some x->ys[j]?=some y->∀g,ZAt g z TI TO i1 i2 t1 t2 (rawInt s.heap.objs.size) (j+1)->IsPair g s.heap.objs.size x y->g.objs.size=s.heap.objs.size+1 ->
   (∀c o,c∉[z,TO,i1,i2]->s.heap.get? c=some o->g.get? c=some o)->Q (.done (.ret (.ref s.heap.objs.size))) {s with heap:=g})
  (hE:xs[j]?=none\/ys[j]?=none->∀ g e,(∀ c o, c∉[z, TO, i1, i2]->s.heap.get? c=some o->g.get? c=some o)->(∃ o, g.get? e=some o/\o.cls=.type "StopIteration")->E (.ref e) { s with heap:=g }):wpAny (model prog w) A (Builtin.«zip.__next__» ⟨[.ref z],[]⟩) Q E s:=by
 obtain⟨n1,n2,n3,n4,n5,n6,n7,n8,n9,n10⟩:=zvd z TI TO i1 i2 0 R.nd;have a1:=R.o1;have a2:=R.o2;simp only[xbu,xgm,xkq,not_or] at a1 a2;obtain⟨p1,p2,p3,p4,p5⟩:=a1;obtain⟨q1,q2,q3,q4,q5⟩:=a2;obtain⟨hz,hI,⟨a,b,hO⟩,k1,k2⟩:=Z;refine(?_:wpAny _ _ (field (.ref z) 2 >>= _) Q E s);refine xba (xdv hz rfl (x:=.bool false) rfl (?_:wpAny _ _ (field (.ref z) 3 >>= _) _ _ _));refine xba (xdv hz rfl (x:=.ref TI) rfl (xba (xgo hI rfl (?_:wpAny _ _ (Builtin.SmallTypes.ownedTupleIsFree (.ref z) >>= _) _ _ _))));refine xba (m:=Builtin.SmallTypes.ownedTupleIsFree (.ref z)) (show wpAny _ _ (field (.ref z) 0 >>= _) _ _ _ from xba (xdv hz rfl (x:=.none) rfl (xbe ?_)));simp only[xfz];refine xba (xgu (xba (xdv hz rfl (x:=.ref TO) rfl (xba (xhz hz (by simp) fun g1 hz1 e1=>?_)))));have hz1':IsZip g1 z TI TO .ellipsis:=hz1;simp only[xlu,List.zipIdx_cons,List.forIn_nil,List.zipIdx_nil];refine xba (xba (xba (wpAny_onRaise (?_:wpAny _ _ (Builtin.SmallTypes.nextOf (.ref i1) >>= _) _ _ _))));refine xba (zhu hh (s:={s with heap:=g1}) (k1.extBut e1.extBut (xct n3)) (hx.extBut e1.extBut p1) (fun x hx1 g2 k3 e2=>xbe ?_) fun hx1 g2 ee eb he=>?_)
 ·have hO2:IsPair g2 TO a b:=e2.extBut _ _ n8 (e1.extBut _ _ (xct n2) hO);refine xba (xgo hO2 rfl (xba (wpAny_updateSeq_pair (s:={s with heap:=g2}) hO2 fun g3 hO3 e3=>xba (xiv (xbe ?_)))));have hO3':IsPair g3 TO x b:=hO3;refine xba (xba (wpAny_onRaise (?_:wpAny _ _ (Builtin.SmallTypes.nextOf (.ref i2) >>= _) _ _ _)));refine xba (zhu hh (s:={s with heap:=g3}) (((k2.extBut e1.extBut (xct n4)).extBut e2.extBut (xct n10)).extBut e3.extBut (xct n9)) (((hy.extBut e1.extBut q1).extBut e2.extBut q4).extBut e3.extBut q3) (fun y hy1 g4 k4 e4=>xbe ?_) fun hy1 g4 ee eb he=>?_)
  ·have hO4:IsPair g4 TO x b:=e4.extBut _ _ n9 hO3';refine xba (xgo hO4 rfl (xba (wpAny_updateSeq_pair (s:={s with heap:=g4}) hO4 fun g5 hO5 e5=>xba (xiv (xbe (xbe ?_))))));have hO5':IsPair g5 TO x y:=hO5;refine xba (xgo hO5' rfl (xba (wpAny_newTuple ?_)));have sz:g5.objs.size=s.heap.objs.size:=by rw[e5.1,e4.1,e3.1,e2.1,e1.1]
   have hz5:IsZip g5 z TI TO .ellipsis:=e5.extBut _ _ n2 (e4.extBut _ _ n4 (e3.extBut _ _ n2 (e2.extBut _ _ n3 hz1')));have kp:∀c o,c∉[z,TO,i1,i2]->s.heap.get? c=some o->g5.get? c=some o:=fun c o hc e=>by
    simp only[xbu,xgm,xkq,not_or] at hc;exact e5.extBut _ _ hc.2.1 (e4.extBut _ _ hc.2.2.2 (e3.extBut _ _ hc.2.1 (e2.extBut _ _ hc.2.2.1 (e1.extBut _ _ hc.1 e))))
   have m1:g5.IsTupleIter i1 t1 (j+1):=((k3.extBut e3.extBut (xct n8)).extBut e4.extBut n10).extBut e5.extBut (xct n8);have m2:g5.IsTupleIter i2 t2 (j+1):=k4.extBut e5.extBut (xct n9);have lz:z < g5.objs.size:=xbi hz5;have hz6:IsZip (g5.push { cls:=.type "tuple", data:=.seq #[x, y] }) z TI TO .ellipsis:=xbb _ hz5
   refine xba (m:=Builtin.SmallTypes.ownedTupleHandOut (.ref z) (.ref g5.objs.size)) (xba (xhz hz6 (by simp) fun g7 hz7 e7=>?_));have hz7':IsZip g7 z TI TO (rawInt g5.objs.size):=hz7;refine xhz hz7' (by simp) fun g8 hz8 e8=>xbe ?_
   have hz8':IsZip g8 z TI TO (rawInt g5.objs.size):=hz8;have up:∀c o,c≠z->g5.get? c=some o->g8.get? c=some o:=fun c o hc e=>e8.extBut _ _ hc (e7.extBut _ _ hc (xbb _ e))
   have hT:IsPair g8 g5.objs.size x y:=e8.extBut _ _ (xga lz) (e7.extBut _ _ (xga lz) (xbk _ rfl));have s8:g8.objs.size=g5.objs.size+1:=by rw[e8.1,e7.1,xgl]
   rw[sz] at hz8' hT s8;have hI5:IsPair g5 TI (.ref i1) (.ref i2):=kp _ _ (by simp[xct n1,n5,n6,n7]) hI;have fin:=hQ x y hx1 hy1 g8 ⟨hz8',up _ _ (xct n1) hI5,⟨x,y,up _ _ (xct n2) hO5'⟩,m1.at fun o e=>up _ o (xct n3) e,m2.at fun o e=>up _ o (xct n4) e⟩ hT s8 fun c o hc e=>up c o (fun q=>hc (by simp[q])) (kp c o hc e)
   show Q (.done (.ret (.ref g5.objs.size))) _;rw[sz];exact fin
  ·obtain⟨oe,he1,he2⟩:=he;have hz4:IsZip g4 z TI TO .ellipsis:=eb _ _ n4 (e3.extBut _ _ n2 (e2.extBut _ _ n3 hz1'));have nz:ee≠z:=fun q=>by rw[q,hz4] at he1;cases he1;simp at he2
   refine xhz hz4 (by simp) fun g5 _ e5=>hE (.inr hy1) g5 ee (fun c o hc e=>?_) ⟨oe,e5.extBut _ _ nz he1,he2⟩
   simp only[xbu,xgm,xkq,not_or] at hc;exact e5.extBut _ _ hc.1 (eb _ _ hc.2.2.2 (e3.extBut _ _ hc.2.1 (e2.extBut _ _ hc.2.2.1 (e1.extBut _ _ hc.1 e))))
 ·obtain⟨oe,he1,he2⟩:=he;have hz2:IsZip g2 z TI TO .ellipsis:=eb _ _ n3 hz1';have nz:ee≠z:=fun q=>by rw[q,hz2] at he1;cases he1;simp at he2
  refine xhz hz2 (by simp) fun g3 _ e3=>hE (.inl hx1) g3 ee (fun c o hc e=>?_) ⟨oe,e3.extBut _ _ nz he1,he2⟩
  simp only[xbu,xgm,xkq,not_or] at hc;exact e3.extBut _ _ hc.1 (eb _ _ hc.2.2.1 (e1.extBut _ _ hc.1 e))
end
section
variable {prog:Program}{w:World}{A:Around}{E:Value->Shared->Prop}{s:Shared}{z TI TO i1 i2 t1 t2:Addr}{xs ys:Array Value}{j:Nat}
theorem zpg {Q:Option Value->Shared->Prop}(hh:A.handled=none)(R:ZRec z TI TO i1 i2 t1 t2)(Z:ZAt s.heap z TI TO i1 i2 t1 t2 .none j)(hx:s.heap.IsTuple t1 xs)(hy:s.heap.IsTuple t2 ys)
  (hQ:∀x y,xs[j]?=some x->ys[j]?=some y->∀g,ZAt g z TI TO i1 i2 t1 t2 (rawInt s.heap.objs.size) (j+1)->IsPair g s.heap.objs.size x y->g.objs.size=s.heap.objs.size+1 ->
   (∀c o,c∉[z,TO,i1,i2]->s.heap.get? c=some o->g.get? c=some o)->Q (some (.ref s.heap.objs.size)) {s with heap:=g})
  (hE:xs[j]?=none\/ys[j]?=none->∀g,(∀c o,c∉[z,TO,i1,i2]->s.heap.get? c=some o->g.get? c=some o)->Q none {s with heap:=g}):wpAny (model prog w) A (pyNext (.ref z)) Q E s:=by
 have T:s.TypeIs (.ref z) "zip":=⟨_, Z.zip, rfl⟩
 unfold pyNext;refine xba (xhq (wpAny_callSpecial?_slot (name:=Str.ofString "__next__") T F.slot_zip_next (xem F.slot_zip_next T F.entry_zip_next (zwn hh R Z hx hy (fun x y h1 h2 g k1 k2 k3 k4=>⟨_, rfl, xbe (hQ x y h1 h2 g k1 k2 k3 k4)⟩) fun h1 g e k he=>?_) (F.args_zip_next_1 _))))
 obtain⟨o,ho,hc⟩:=he;exact xba (wpAny_isInstance (T:="StopIteration") (b:=true) ⟨o, ho, hc⟩ isSubtype_stop (xbe (hE h1 g k)))
end
def Itz (K:Fg) (a b:Addr):It :=
 ⟨fun i H=>∃xs ys x y,SqT K H a xs/\SqT K H b ys/\xs[i]?=some x/\ys[i]?=some y,
  fun i H u H'=>∃p,H p=none/\u=.ref p/\∀xs ys x y,SqT K H a xs->SqT K H b ys->xs[i]?=some x->ys[i]?=some y->H'=upd H p (.tup [x,y]),
  fun i H=>∃xs ys,SqT K H a xs/\SqT K H b ys/\(xs.length<=i\/ys.length<=i)⟩
theorem zws {P:Program}{w:World}{K:Fg}{elts:List Expr}{k:Nat}{tpos:Pos}{z TI TO i1 i2 a b:Addr}(R:ZRec z TI TO i1 i2 a b) :
  Turn P w K (.Tuple elts k tpos) (Itz K a b) [z,TI,TO,i1,i2] z (fun i h=>ZAt h z TI TO i1 i2 a b .none i) where
 mem:=by simp
 obj:=fun i h st c hc=>by
  obtain⟨u,v,hO⟩:=st.out;obtain⟨o1,e1,_,d1⟩:=st.it1;obtain⟨o2,e2,_,d2⟩:=st.it2;have hc':c=z\/c=TI\/c=TO\/c=i1\/c=i2:=by simpa using hc
  rcases hc' with rfl | rfl | rfl | rfl | rfl
  ·exact⟨_,st.zip,fun v q=>by cases(show Data.fields _=Data.cell v from q)⟩
  ·exact⟨_,st.its,fun v q=>by cases(show Data.seq _ _=Data.cell v from q)⟩
  ·exact⟨_,hO,fun v q=>by cases(show Data.seq _ _=Data.cell v from q)⟩
  ·exact⟨o1,e1,fun v q=>by rw[d1] at q;cases q⟩
  ·exact⟨o2,e2,fun v q=>by rw[d2] at q;cases q⟩
 keep:=fun i h h' st kk=>by
  obtain⟨u,v,hO⟩:=st.out;exact⟨kk z (by simp) _ st.zip,kk TI (by simp) _ st.its,⟨u,v,kk TO (by simp) _ hO⟩,st.it1.at fun o e=>kk i1 (by simp) o e,st.it2.at fun o e=>kk i2 (by simp) o e⟩
 item:=by
  intro X hP hw hK hc i aY s σ H E I hf st hg;subst hP hw hK;obtain⟨xs,ys,x,y,hq1,hq2,hx,hy⟩:=hg;obtain⟨its1,rv1,p1,hz1⟩:=I.tuple hq1;obtain⟨its2,rv2,p2,hz2⟩:=I.tuple hq2;obtain⟨u1,hu1,ru1⟩:=rv1.get hx;obtain⟨u2,hu2,ru2⟩:=rv2.get hy;refine zpg (I.ok.hd hc) R st (show s.heap.IsTuple a its1.toArray from p1) (show s.heap.IsTuple b its2.toArray from p2) (fun v1 v2 e1 e2 g Z hT hsz kp=>?_) fun e=>?_
  ·have f1:v1=u1:=by rw[xfx,hu1] at e1;exact(xby e1).symm
   have f2:v2=u2:=by rw[xfx,hu2] at e2;exact(xby e2).symm
   subst f1 f2;refine⟨_,rfl,wpAny_letOwnedTupleGo_zip Z.zip fun g2 hz' e'=>?_⟩;have low:∀c∈[z,TI,TO,i1,i2],c < s.heap.objs.size:=fun c hc'=>by
    obtain⟨uu,vv,hO⟩:=st.out;obtain⟨o1,e1,_⟩:=st.it1;obtain⟨o2,e2,_⟩:=st.it2;have hc'':c=z\/c=TI\/c=TO\/c=i1\/c=i2:=by simpa using hc'
    rcases hc'' with rfl | rfl | rfl | rfl | rfl
    ·exact xbi st.zip
    ·exact xbi st.its
    ·exact xbi hO
    ·exact xbi e1
    ·exact xbi e2
   have hzl:=low z (by simp);have I1:Inv X aY σ (upd H s.heap.objs.size (.tup [x, y])) { s with heap:=s.heap.push { cls:=.type "tuple", data:=.seq #[v1, v2] }, toks:=s.toks } :=
    I.laid (fun _ _ q=>xbb _ q) (xbf _) ⟨by simp;decide,[v1,v2],.cons ru1 (.cons ru2 .nil),⟨_,xbk _ rfl,rfl,_,rfl⟩⟩
   have hf2:∀c∈[z,TI,TO,i1,i2],FpOk X aY (upd H s.heap.objs.size (.tup [x,y])) c:=fun c hc'=>by
    obtain⟨f0,fr⟩:=hf c hc';exact⟨by rw[zn (xbv (low c hc'))];exact f0,fr⟩
   have I2:Inv X aY σ (upd H s.heap.objs.size (.tup [x,y])) {s with heap:=g2,toks:=s.toks}:=by
    refine Inv.turnedL (s:={ s with heap:=s.heap.push { cls:=.type "tuple", data:=.seq #[v1, v2] }, toks:=s.toks }) (h':=g2) (t':=s.toks) (ch:=[z, TI, TO, i1, i2]) I1 (fun c o hc' q=>?_) hf2
    have q':(s.heap.push { cls:=.type "tuple", data:=.seq #[v1, v2] }).get? c=some o:=q
    have cz:c≠z:=fun e=>hc' (by simp[e])
    rcases Heap.get?_push_cases q' with⟨e1,e2⟩ | e1
    ·rw[e1,e2];exact e'.extBut _ _ (xga hzl) hT
    ·exact e'.extBut _ _ cz (kp c o (fun m=>hc' (by simp at m ⊢;rcases m with m | m | m | m<;>simp[m])) e1)
   obtain⟨d1,d2,d3,d4,_⟩:=zvd z TI TO i1 i2 0 R.nd;obtain⟨uu,vv,hO⟩:=Z.out;refine⟨.ref s.heap.objs.size,_,I2,rfl,⟨s.heap.objs.size,I.fresh,rfl,fun as bs x' y' ha hb ex ey=>?_⟩,⟨hz',e'.extBut _ _ (xct d1) Z.its,⟨uu,vv,e'.extBut _ _ (xct d2) hO⟩,Z.it1.extBut e'.extBut (xct d3),Z.it2.extBut e'.extBut (xct d4)⟩,fun c hc'=>(hf2 c hc').1⟩;rw[I.tuple_inj ha hq1,hx] at ex;rw[I.tuple_inj hb hq2,hy] at ey;cases ex;cases ey
   rfl
  ·rcases e with e | e
   ·rw[xfx,hu1] at e;cases e
   ·rw[xfx,hu2] at e;cases e
 done:=by
  intro X hP hw hK hc i aY s σ H E I hf st hg;subst hP hw hK;obtain⟨xs,ys,hq1,hq2,hl⟩:=hg;obtain⟨its1,rv1,p1,hz1⟩:=I.tuple hq1;obtain⟨its2,rv2,p2,hz2⟩:=I.tuple hq2;have l1:=rv1.length;have l2:=rv2.length;refine zpg (I.ok.hd hc) R st (show s.heap.IsTuple a its1.toArray from p1) (show s.heap.IsTuple b its2.toArray from p2) (fun v1 v2 e1 e2 g Z hT hsz kp=>?_) fun _ g kp=>⟨rfl,I.turnedL (t':=s.toks) (ch:=[z,TI,TO,i1,i2]) (fun c o hc' e=>kp c o (fun m=>hc' (by simp at m ⊢;rcases m with m | m | m | m<;>simp[m])) e) hf⟩
  rw[xfx] at e1 e2;have g1:=(xbo.mp e1).1;have g2:=(xbo.mp e2).1;lia
 self:=fun A i s Q E st h=>wpAny_pyIter_zip st.zip h
section
variable {prog:Program}{w:World}{A:Around}{E:Value->Shared->Prop}{s:Shared}
abbrev tupIt (l:Addr):Obj:={ cls:=.type "tuple_iterator", data:=.fields #[.ref l, .int 0 0] }
abbrev two (a b:Value):Obj:={ cls:=.type "tuple", data:=.seq #[a, b] }
abbrev zipOb (a b:Addr):Obj:={ cls:=.type "zip", data:=.fields #[.none, .bool false, .bool false, .ref a, .ref b] }
abbrev lay1 (h:Heap) (l1:Addr):Heap:=h.push (tupIt l1)
abbrev lay2 (h:Heap) (l1 l2:Addr):Heap:=(lay1 h l1).push (tupIt l2)
abbrev lay3 (h:Heap) (l1 l2:Addr):Heap:=(lay2 h l1 l2).push (two (.ref h.objs.size) (.ref (lay1 h l1).objs.size))
abbrev lay4 (h:Heap) (l1 l2:Addr):Heap:=(lay3 h l1 l2).push (two .none .none)
abbrev lay5 (h:Heap) (l1 l2:Addr):Heap:=(lay4 h l1 l2).push (zipOb (lay2 h l1 l2).objs.size (lay3 h l1 l2).objs.size)
theorem zwo (l1 l2:Addr)(xs ys:Array Value) :
  Meets (Builtin.«zip.__new__» ⟨[.type "zip", .ref l1, .ref l2],[]⟩) (fun _ R s=>s.heap.IsTuple l1 xs/\s.heap.IsTuple l2 ys/\R (.ok (.ret (.ref (lay4 s.heap l1 l2).objs.size))) { s with heap:=lay5 s.heap l1 l2 }) :=
 .of_wp fun prog w A R s h=>by
  obtain⟨hp,g,d,tk,os⟩:=s;obtain⟨k1,k2,h⟩:=h;have sub:=sub_zip;have k1':Heap.IsTuple (Shared.heap ⟨hp,g,d,tk,os⟩) l1 xs:=k1;have k2':Heap.IsTuple (Shared.heap ⟨hp.push (tupIt l1),g,d,tk,os⟩) l2 ys:=k2.push _
  wp_walk using xfy k1',xfy k2'
  exact⟨_,rfl,h⟩
theorem zpz {n l1 l2:Nat}(h1:l1 < n)(h2:l2 < n):ZRec (n+4) (n+2) (n+3) n (n+1) l1 l2/\∀c∈[n+4,n+2,n+3,n,n+1],n<=c :=
 have q:∀{l:Nat},l < n->l∉[n+4,n+2,n+3,n,n+1]:=fun {l} h m=>by
  simp only[xbu,xgm,xkq] at m;lia
 ⟨⟨by simp,q h1,q h2⟩,fun c hc=>by simp at hc;lia⟩
theorem zuz {l1 l2:Addr}{xs ys:Array Value}{Q:Value->Shared->Prop}(k1:s.heap.IsTuple l1 xs)(k2:s.heap.IsTuple l2 ys)
  (h:∀g z TI TO i1 i2,ZRec z TI TO i1 i2 l1 l2->ZAt g z TI TO i1 i2 l1 l2 .none 0->(∀c∈[z,TI,TO,i1,i2],s.heap.objs.size<=c) ->
   (∀ c o, s.heap.get? c=some o->g.get? c=some o)->Q (.ref z) { s with heap:=g }):wpAny (model prog w) A (call (.type "zip") [.ref l1, .ref l2]) Q E s:=by
 have lt1:l1 < s.heap.objs.size:=by obtain⟨_,e,_⟩:=k1;exact xbi e
 have lt2:l2 < s.heap.objs.size:=by obtain⟨_,e,_⟩:=k2;exact xbi e
 refine callType_new F.called_zip (by decide) (F.typeCall_zip_2 _ _) (F.newCall_zip_2 _ _) (fun obj=>F.args_object_init_3 obj _ _) F.entry_zip_new (zwo l1 l2 xs ys) ⟨k1,k2,?_⟩;have z1:(lay1 s.heap l1).objs.size=s.heap.objs.size+1:=xgl ..
 have z2:(lay2 s.heap l1 l2).objs.size=s.heap.objs.size+2:=(xgl ..).trans (by rw[z1]);have z3:(lay3 s.heap l1 l2).objs.size=s.heap.objs.size+3:=(xgl ..).trans (by rw[z2]);have z4:(lay4 s.heap l1 l2).objs.size=s.heap.objs.size+4:=(xgl ..).trans (by rw[z3]);have g5:(lay5 s.heap l1 l2).get? (lay4 s.heap l1 l2).objs.size=some _:=xbk _ rfl;have g4:(lay5 s.heap l1 l2).get? (lay3 s.heap l1 l2).objs.size=some _:=xbb _ (xbk _ rfl);have g3:(lay5 s.heap l1 l2).get? (lay2 s.heap l1 l2).objs.size=some _:=xbb _ (xbb _ (xbk _ rfl));have g2:(lay5 s.heap l1 l2).get? (lay1 s.heap l1).objs.size=some _:=xbb _ (xbb _ (xbb _ (xbk _ rfl)));have g1:(lay5 s.heap l1 l2).get? s.heap.objs.size=some _:=xbb _ (xbb _ (xbb _ (xbb _ (xbk _ rfl))));have fin:=h (lay5 s.heap l1 l2) (lay4 s.heap l1 l2).objs.size (lay2 s.heap l1 l2).objs.size (lay3 s.heap l1 l2).objs.size s.heap.objs.size (lay1 s.heap l1).objs.size
  (by rw[z4,z3,z2,z1];exact(zpz lt1 lt2).1) ⟨g5,g3,⟨_,_,g4⟩,⟨_,g1,rfl,rfl⟩,⟨_,g2,rfl,rfl⟩⟩
  (by rw[z4,z3,z2,z1];exact(zpz lt1 lt2).2) fun c o e=>xbb _ (xbb _ (xbb _ (xbb _ (xbb _ e))))
 exact⟨⟨_,g5,rfl⟩,fin⟩
end
section
variable {X:Cx}
def iZip (K:Fg) (ta:TA):TI:=fun σ H R=>ta σ H fun vs H1=>∃a b,vs=[.ref a,.ref b]/\(∃xs,SqT K H1 a xs)/\(∃xs,SqT K H1 b xs)/\R (Itz K a b) H1
theorem zbhj {elts:List Expr}{k:Nat}{tpos p pos:Pos}{a b:Expr}{ta:TA}(hg:Gl X "zip")(hm:X.mg "zip"=none)(ha:PA X [a, b] ta)
  (hs:starEach [a,b] X.env=[(false,eval a X.env),(false,eval b X.env)]:=by rfl)(hs2:starEach [b] X.env=[(false,eval b X.env)]:=by rfl) :
  PI X (.Tuple elts k tpos) (.Call (.Name "zip" p) [a, b] [] pos) (iZip X.K ta):=by
 intro aY s σ H R I h;refine Call_ (zjt I hg hm PyProof.Rows.boot_zip (xfn (thn (ha pos aY s σ H _ I h) fun us s1 ⟨vs,H1,I1,r1,q1⟩=>?_) (by rw[hs,hs2]) (by rw[hs2];rfl)));obtain⟨a,b,e,⟨xs,hx⟩,⟨ys,hy⟩,q⟩:=q1;subst e;obtain⟨u1,u2,rfl,e1,e2⟩:=vals2 r1;cases e1;cases e2;obtain⟨its1,rv1,p1,hz1⟩:=I1.tuple hx;obtain⟨its2,rv2,p2,hz2⟩:=I1.tuple hy;refine zuz (show s1.heap.IsTuple a its1.toArray from p1) (show s1.heap.IsTuple b its2.toArray from p2) fun g z TI TO i1 i2 R Z low kp=>?_
 refine wpAny_pyIter_zip Z.zip ?_;exact⟨z,[z,TI,TO,i1,i2],_,_,H1,rfl,I1.kept (t':=s1.toks) kp,zws R,Z,fun c hc=>I1.fpOk (low c hc) (I1.hok.fresh (low c hc)),q⟩
end
end L2
namespace Dd
open PySem L2
set_option genInjectivity true in
inductive D where
 | non | bl (b:Bool) | int (i:Int) | str (x:Str) | ty (n:String) | ref (n:Nat) | tup (ds:List D) | lst (ds:List D) | scr (ds:List D) | exn (c:Str) (l:List Int)
set_option genInjectivity true in
inductive O where
 /-- a list that may change;a dict by tuples of ints;one that is only read;gone -/
 | lst (xs:List D) | dT (kvs:List (List Int×D)) | fT (kvs:List (List Int×D)) | dead
 /-- the law's table of codes -/
 | tab
abbrev Store:=List O
structure Exc where
 cls:Str
 at_:List Int
set_option genInjectivity true in
inductive Res (α:Type) where
 | ok (a:α) (st:Store) | exc (x:Exc) (st:Store) | stuck
def Res.bind {α β:Type}:Res α->(α->Store->Res β)->Res β
 | .ok a st,f=>f a st
 | .exc x st,_=>.exc x st
 | .stuck,_=>.stuck
@[simp] theorem zel {α β:Type} (a:α) (st:Store) (f:α->Store->Res β):(Res.ok a st).bind f=f a st:=rfl
@[simp] theorem zbks {α β:Type} (x:Exc) (st:Store) (f:α->Store->Res β):(Res.exc x st:Res α).bind f=.exc x st:=rfl
@[simp] theorem zbfo {α β:Type} (f:α->Store->Res β):(Res.stuck:Res α).bind f=.stuck:=rfl
theorem zc {α β:Type}{r:Res α}{f:α->Store->Res β}{b:β}{st':Store}(h:r.bind f=.ok b st'):∃a st,r=.ok a st/\f a st=.ok b st':=by
 cases r with
 | ok a st=>exact⟨a,st,rfl,h⟩
 | exc x st=>cases h
 | stuck=>cases h
abbrev DS:=List (Option D)
abbrev SE:=DS->Store->Res D
abbrev ST:=DS->Store->Res Bool
abbrev SA:=DS->Store->Res (List D)
set_option genInjectivity true in
inductive Fl where
 | nx (σ:DS) | ret (v:D) | brk (σ:DS) | ct (σ:DS)
abbrev SS:=DS->Store->Res Fl
abbrev DFn:=List D->Store->Res D
structure Loc where
 m:List (Option Addr)
 g:List Addr
def Out (ρ:Loc) (a:Addr):Prop:=some a∉ρ.m/\a∉ρ.g
def Ls (K:Fg) (ρ:Loc) (H:Hp) (a:Addr) (vs:List V):Prop:=(Rd H a (.lst vs)/\Out ρ a)\/∀H':Hp,SqL K H' a vs
def XAt (K:Fg) (ρ:Loc) (H:Hp) (c:Str) (l:List Int) (a:Addr):Prop:=∃C o,W.nsIn K mainGlobals c=some (some (.ref C))/\(H a=some (.frz o (.ext fun _=>True))/\Out ρ a)/\o.cls=.ref C/\(∃vs,o.data=.fields vs/\vs[2]?=some .none) /\
 ((l=[]/\o.dict=none)\/∃ i dx od, l=[i]/\o.dict=some dx/\H dx=some (.frz od (.xd [("at", .int i)]))/\Out ρ dx)
theorem XAt.map {K:Fg}{ρ ρ':Loc}{H H':Hp}{c:Str}{l:List Int}{a:Addr}(h:XAt K ρ H c l a)(f:∀b ob u,H b=some (.frz ob u)->Out ρ b->H' b=some (.frz ob u)/\Out ρ' b):XAt K ρ' H' c l a:=by
 obtain⟨C,o,h1,h2,h3,h4,h5⟩:=h;refine⟨C,o,h1,f _ _ _ h2.1 h2.2,h3,h4,?_⟩;rcases h5 with h5 | ⟨i,dx,od,h6,h7,h8,h9⟩
 ·exact .inl h5
 ·exact .inr ⟨i,dx,od,h6,h7,(f _ _ _ h8 h9).1,(f _ _ _ h8 h9).2⟩
mutual
inductive At (K:Fg) (ρ:Loc) (H:Hp):D->V->Prop
 | non:At K ρ H .non .non
 | bl (b:Bool):At K ρ H (.bl b) (.bl b)
 | int (i:Int):At K ρ H (.int i) (.int i)
 | str (x:Str):At K ρ H (.str x) (.str x)
 | ty (n:String):At K ρ H (.ty n) (.ty n)
 | ref {n:Nat} {v:V}:n < ρ.m.length->(∀a,ρ.m[n]?=some (some a)->v=.ref a)->At K ρ H (.ref n) v
 | tup {a:Addr} {ds:List D} {vs:List V}:H a=some (.tup vs)->Out ρ a->AtAll K ρ H ds vs->At K ρ H (.tup ds) (.ref a)
 | lst {a:Addr} {ds:List D} {vs:List V}:H a=some (.lst vs)->Out ρ a->AtAll K ρ H ds vs->At K ρ H (.lst ds) (.ref a)
 | scr {a:Addr} {ds:List D} {vs:List V}:Ls K ρ H a vs->AtAll K ρ H ds vs->At K ρ H (.scr ds) (.ref a)
 | exn {c:Str} {l:List Int} {a:Addr}:XAt K ρ H c l a->At K ρ H (.exn c l) (.ref a)
inductive AtAll (K:Fg) (ρ:Loc) (H:Hp):List D->List V->Prop
 | nil:AtAll K ρ H [] []
 | cons {d:D} {ds:List D} {v:V} {vs:List V}:At K ρ H d v->AtAll K ρ H ds vs->AtAll K ρ H (d::ds) (v::vs)
end
structure Mv (ρ:Loc) (H:Hp) (ρ':Loc) (H':Hp):Prop where
 out:∀{a:Addr} {o:HO},H a=some o->Out ρ a->H' a=some o/\Out ρ' a
 len:ρ.m.length<=ρ'.m.length
 old:∀(n:Nat) (a:Addr),n < ρ.m.length->ρ'.m[n]?=some (some a)->ρ.m[n]?=some (some a)
theorem Ls.mv {K:Fg}{ρ ρ':Loc}{H H':Hp}{a:Addr}{vs:List V}(x:Mv ρ H ρ' H')(h:Ls K ρ H a vs):Ls K ρ' H' a vs:=by
 rcases h with⟨h | ⟨o,h⟩,n⟩ | h
 ·exact .inl ⟨.inl (x.out h n).1,(x.out h n).2⟩
 ·exact .inl ⟨.inr ⟨o,(x.out h n).1⟩,(x.out h n).2⟩
 ·exact .inr h
theorem At.mv {K:Fg}{ρ ρ':Loc}{H H':Hp}(x:Mv ρ H ρ' H'){d:D}{v:V}(h:At K ρ H d v):At K ρ' H' d v :=
 At.rec (motive_1:=fun d v _=>At K ρ' H' d v) (motive_2:=fun d v _=>AtAll K ρ' H' d v) .non .bl .int .str .ty (fun h e=>.ref (xbh h x.len) fun a q=>e a (x.old _ a h q)) (fun h n _ ih=>.tup (x.out h n).1 (x.out h n).2 ih) (fun h n _ ih=>.lst (x.out h n).1 (x.out h n).2 ih) (fun h _ ih=>.scr (h.mv x) ih) (fun h=>.exn (h.map fun _ _ _ e n=>x.out e n)) .nil (fun _ _ a b=>.cons a b) h
theorem AtAll.mv {K:Fg}{ρ ρ':Loc}{H H':Hp}(x:Mv ρ H ρ' H'){d:List D}{v:List V}(h:AtAll K ρ H d v):AtAll K ρ' H' d v :=
 AtAll.rec (motive_1:=fun _ _ _=>True) (motive_2:=fun d v _=>AtAll K ρ' H' d v) trivial (fun _=>trivial) (fun _=>trivial) (fun _=>trivial) (fun _=>trivial) (fun _ _=>trivial) (fun _ _ _ _=>trivial) (fun _ _ _ _=>trivial) (fun _ _ _=>trivial) (fun _=>trivial) .nil (fun a _ _ b=>.cons (a.mv x) b) h
structure Ext (ρ:Loc) (H:Hp) (ρ':Loc) (H':Hp):Prop where
 len:ρ.m.length<=ρ'.m.length
 old:∀(n:Nat) (a:Addr),n < ρ.m.length->ρ'.m[n]?=some (some a)->ρ.m[n]?=some (some a)
 keep:∀a o,H a=some o->some a∉ρ.m->H' a=some o/\some a∉ρ'.m
 gho:ρ'.g=ρ.g
 frz:∀a ob u,H a=some (.frz ob u)->H' a=some (.frz ob u)
theorem Ext.out {ρ ρ':Loc}{H H':Hp}(x:Ext ρ H ρ' H'){a:Addr}{o:HO}(h:H a=some o)(n:Out ρ a):H' a=some o/\Out ρ' a :=
 ⟨(x.keep a o h n.1).1,(x.keep a o h n.1).2,by rw[x.gho];exact n.2⟩
theorem Ext.mv {ρ ρ':Loc}{H H':Hp}(x:Ext ρ H ρ' H'):Mv ρ H ρ' H':=⟨fun h n=>x.out h n,x.len,x.old⟩
theorem Ls.sq {K:Fg}{ρ:Loc}{H:Hp}{a:Addr}{vs:List V}(h:Ls K ρ H a vs):SqL K H a vs:=by
 rcases h with h | h
 ·exact .inl h.1
 ·exact h H
section
variable {K:Fg}
theorem Ext.refl (ρ:Loc)(H:Hp):Ext ρ H ρ H:=⟨xbf _,fun _ _ _ e=>e,fun _ _ e n=>⟨e,n⟩,rfl,fun _ _ _ e=>e⟩
theorem Ext.trans {ρ ρ1 ρ2:Loc}{H H1 H2:Hp}(a:Ext ρ H ρ1 H1)(b:Ext ρ1 H1 ρ2 H2):Ext ρ H ρ2 H2 :=
 ⟨xbc a.len b.len,fun n c h e=>a.old n c h (b.old n c (xbh h a.len) e),fun c o e n=>by
  obtain⟨e1,n1⟩:=a.keep c o e n
  exact b.keep c o e1 n1,b.gho.trans a.gho,fun c ob u e=>b.frz c ob u (a.frz c ob u e)⟩
theorem At.ext {ρ ρ':Loc}{H H':Hp}(x:Ext ρ H ρ' H'){d:D}{v:V}(h:At K ρ H d v):At K ρ' H' d v:=h.mv x.mv
theorem AtAll.ext {ρ ρ':Loc}{H H':Hp}(x:Ext ρ H ρ' H'){d:List D}{v:List V}(h:AtAll K ρ H d v):AtAll K ρ' H' d v:=h.mv x.mv
theorem AtAll.length {ρ:Loc}{H:Hp}:∀{ds:List D} {vs:List V},AtAll K ρ H ds vs->vs.length=ds.length
 | _,_,.nil=>rfl
 | _,_,.cons _ t=>by rw[xbx,xbx,AtAll.length t]
theorem AtAll.get {ρ:Loc}{H:Hp}:∀{ds:List D} {vs:List V} {i:Nat} {d:D},AtAll K ρ H ds vs->ds[i]?=some d->∃v,vs[i]?=some v/\At K ρ H d v
 | _,_,_,_,.nil,e=>by simp at e
 | _,_,0,_,.cons a _,e=>by simp at e;subst e;exact⟨_,rfl,a⟩
 | _,_,i+1,d,.cons _ t,e=>by
  obtain⟨u,h1,h2⟩:=AtAll.get (i:=i) (d:=d) t (by simpa using e);exact⟨u,by simpa using h1,h2⟩
theorem AtAll.append {ρ:Loc}{H:Hp}:∀{ds es:List D} {vs us:List V},AtAll K ρ H ds vs->AtAll K ρ H es us->AtAll K ρ H (ds++es) (vs++us)
 | _,_,_,_,.nil,b=>b
 | _,_,_,_,.cons a t,b=>.cons a (AtAll.append t b)
theorem AtAll.take {ρ:Loc}{H:Hp}:∀{ds:List D} {vs:List V} (n:Nat),AtAll K ρ H ds vs->AtAll K ρ H (ds.take n) (vs.take n)
 | _,_,0,_=>.nil
 | _,_,_+1,.nil=>.nil
 | _,_,n+1,.cons a t=>.cons a (AtAll.take n t)
theorem AtAll.drop {ρ:Loc}{H:Hp}:∀{ds:List D} {vs:List V} (n:Nat),AtAll K ρ H ds vs->AtAll K ρ H (ds.drop n) (vs.drop n)
 | _,_,0,h=>h
 | _,_,_+1,.nil=>.nil
 | _,_,n+1,.cons a t=>AtAll.drop n t
theorem AtAll.set {ρ:Loc}{H:Hp}{d:D}{v:V}(a:At K ρ H d v):∀{ds:List D} {vs:List V} (n:Nat),AtAll K ρ H ds vs->AtAll K ρ H (ds.set n d) (vs.set n v)
 | _,_,_,.nil=>.nil
 | _,_,0,.cons _ t=>.cons a t
 | _,_,n+1,.cons b t=>.cons b (AtAll.set a n t)
def KvAt (K:Fg) (ρ:Loc) (H:Hp):List (List Int×D)->List (List Key×V)->Prop:=Paired fun p q=>q.1=p.1.map Sum.inl/\At K ρ H p.2 q.2
theorem KvAt.ext {ρ ρ':Loc}{H H':Hp}(x:Ext ρ H ρ' H'){a:List (List Int×D)}{b:List (List Key×V)}(h:KvAt K ρ H a b):KvAt K ρ' H' a b:=Paired.mapP h fun p q z=>⟨z.1,z.2.ext x⟩
abbrev lamQ:Str:=(("law" : Str)++".<locals>.")++"<lambda>"
def TabOk (H:Hp) (ps:Array Value):Prop:=TriplesOk ps.toList/\∀pos cv,codeAmong pos ps.toList=some cv->∃c oc vs t,cv=.ref c/\H c=some (.frz oc (.ext fun _=>True))/\oc.data=.fields vs/\vs[1]?=some (.str lamQ t)
theorem TabOk.map {H H':Hp}{ps:Array Value}(h:TabOk H ps)(f:∀b ob u,H b=some (.frz ob u)->H' b=some (.frz ob u)):TabOk H' ps :=
 ⟨h.1,fun pos cv e=>by obtain⟨c,oc,vs,t,e1,e2,e3⟩:=h.2 pos cv e;exact⟨c,oc,vs,t,e1,f _ _ _ e2,e3⟩⟩
def OAt (K:Fg) (ρ:Loc) (H:Hp):O->Addr->Prop
 | .lst xs,a=>∃vs,H a=some (.lst vs)/\AtAll K ρ H xs vs
 | .dT kvs,a=>∃vs,H a=some (.dT vs)/\KvAt K ρ H kvs vs
 | .fT kvs,a=>∃vs ob,H a=some (.frz ob (.dT vs))/\KvAt K ρ H kvs vs
 | .dead,_=>False
 | .tab, a=>(∃ c, W.tabIn K "law"=some (c, a))/\∃ ps, H a=some (.tbl ps)/\TabOk H ps
structure Rep (K:Fg) (ρ:Loc) (st:Store) (H:Hp):Prop where
 len:ρ.m.length=st.length
 inj:∀(n m:Nat) (a:Addr),ρ.m[n]?=some (some a)->ρ.m[m]?=some (some a)->n=m
 obj:∀(n:Nat) (a:Addr) (o:O),ρ.m[n]?=some (some a)->st[n]?=some o->OAt K ρ H o a
 gh:∀a∈ρ.g,(∃vs,H a=some (.lst vs))/\some a∉ρ.m
 live:∀(n:Nat) (o:O),st[n]?=some o->o≠.dead->∃a,ρ.m[n]?=some (some a)
def AtO (K:Fg) (ρ:Loc) (H:Hp) (o:Option D) (v:Option V):Prop:=∀d,o=some d->∃u,v=some u/\At K ρ H d u
abbrev AtS (K:Fg) (ρ:Loc) (H:Hp):DS->St->Prop:=Paired (AtO K ρ H)
theorem AtS.ext {ρ ρ':Loc}{H H':Hp}(x:Ext ρ H ρ' H'){σ:DS}{τ:St}(h:AtS K ρ H σ τ):AtS K ρ' H' σ τ:=Paired.mapP h fun o v z d e=>by
 obtain⟨u,e1,a⟩:=z d e;exact⟨u,e1,a.ext x⟩
theorem AtS.get {ρ:Loc}{H:Hp}:∀{σ:DS} {τ:St} {i:Nat} {d:D},AtS K ρ H σ τ->σ[i]?=some (some d)->∃u,τ[i]?=some (some u)/\At K ρ H d u
 | _,_,_,_,.nil,e=>by simp at e
 | _,_,0,_,.cons a _,e=>by
  simp at e;subst e
  obtain⟨u,e1,h⟩:=a _ rfl;exact⟨u,by simp[e1],h⟩
 | _,_,i+1,d,.cons _ t,e=>by
  obtain⟨u,h1,h2⟩:=AtS.get (i:=i) (d:=d) t (by simpa using e);exact⟨u,by simpa using h1,h2⟩
theorem AtS.set {ρ:Loc}{H:Hp}{d:D}{v:V}(a:At K ρ H d v):∀{σ:DS} {τ:St} (i:Nat),AtS K ρ H σ τ->AtS K ρ H (σ.set i (some d)) (τ.set i (some v))
 | _,_,_,.nil=>.nil
 | _,_,0,.cons _ t=>.cons (fun d' e=>by cases e;exact⟨v,rfl,a⟩) t
 | _,_,i+1,.cons q t=>.cons q (AtS.set a i t)
end
def tD (K:Fg) (f:SE):TE:=fun τ H Q=>∃ρ σ st v st',AtS K ρ H σ τ/\Rep K ρ st H/\f σ st=.ok v st'/\∀ρ' H' u,Ext ρ H ρ' H'->Rep K ρ' st' H'->At K ρ' H' v u->Q u H'
def tDT (K:Fg) (f:ST):TT:=fun τ H Q=>∃ρ σ st v st',AtS K ρ H σ τ/\Rep K ρ st H/\f σ st=.ok v st'/\∀ρ' H',Ext ρ H ρ' H'->Rep K ρ' st' H'->Q v H'
def tDA (K:Fg) (f:SA):TA:=fun τ H Q=>∃ρ σ st v st',AtS K ρ H σ τ/\Rep K ρ st H/\f σ st=.ok v st'/\∀ρ' H' u,Ext ρ H ρ' H'->Rep K ρ' st' H'->AtAll K ρ' H' v u->Q u H'
def FlOk (K:Fg) (ρ:Loc) (H:Hp) (st':Store) (E:Ends):Fl->Prop
 | .nx σ=>∀ρ' H' τ,Ext ρ H ρ' H'->Rep K ρ' st' H'->AtS K ρ' H' σ τ->E.nx τ H'
 | .brk σ=>∀ρ' H' τ,Ext ρ H ρ' H'->Rep K ρ' st' H'->AtS K ρ' H' σ τ->E.bk τ H'
 | .ct σ=>∀ρ' H' τ,Ext ρ H ρ' H'->Rep K ρ' st' H'->AtS K ρ' H' σ τ->E.ct τ H'
 | .ret v=>∀ρ' H' u,Ext ρ H ρ' H'->Rep K ρ' st' H'->At K ρ' H' v u->E.rt u H'
theorem FlOk.ext {K:Fg}{ρ ρ1:Loc}{H H1:Hp}{st':Store}{E:Ends}{fl:Fl}(x:Ext ρ H ρ1 H1)(h:FlOk K ρ H st' E fl):FlOk K ρ1 H1 st' E fl:=by
 cases fl with
 | nx σ=>exact fun ρ' H' τ e=>h ρ' H' τ (x.trans e)
 | brk σ=>exact fun ρ' H' τ e=>h ρ' H' τ (x.trans e)
 | ct σ=>exact fun ρ' H' τ e=>h ρ' H' τ (x.trans e)
 | ret v=>exact fun ρ' H' τ e=>h ρ' H' τ (x.trans e)
def tDS (K:Fg) (f:SS):TS:=fun E τ H=>∃ρ σ st fl st',AtS K ρ H σ τ/\Rep K ρ st H/\f σ st=.ok fl st'/\FlOk K ρ H st' E fl
abbrev DE (X:Cx) (e:Expr) (f:SE):Prop:=PE X e (tD X.K f)
abbrev DT (X:Cx) (e:Expr) (f:ST):Prop:=PT X e (tDT X.K f)
abbrev DW (X:Cx) (e:Expr) (f:ST):Prop:=PW X e (tDT X.K f)
abbrev DA (X:Cx) (es:List Expr) (f:SA):Prop:=PA X es (tDA X.K f)
abbrev DSt (X:Cx) (s:Stmt) (f:SS):Prop:=PS X s (tDS X.K f)
abbrev DSs (X:Cx) (s:List Stmt) (f:SS):Prop:=PSs X s (tDS X.K f)
section
variable {X:Cx}{e:Expr}{es:List Expr}{s:Stmt}{ss:List Stmt}
theorem zfp {t t':TE}(h:PE X e t)(k:∀σ H Q,t' σ H Q->t σ H Q):PE X e t':=fun aY s σ H Q I q=>h aY s σ H Q I (k _ _ _ q)
theorem zbbc {t t':TT}(h:PT X e t)(k:∀σ H Q,t' σ H Q->t σ H Q):PT X e t':=fun aY s σ H Q I q=>h aY s σ H Q I (k _ _ _ q)
theorem pw_to {t t':TT}(h:PW X e t)(k:∀σ H Q,t' σ H Q->t σ H Q):PW X e t':=fun wh aY s σ H Q I q=>h wh aY s σ H Q I (k _ _ _ q)
theorem zblp {t t':TA}(h:PA X es t)(k:∀σ H Q,t' σ H Q->t σ H Q):PA X es t':=fun pos aY s σ H Q I q=>h pos aY s σ H Q I (k _ _ _ q)
theorem zne {t t':TS}(h:PS X s t)(k:∀E σ H,t' E σ H->t E σ H):PS X s t':=fun aY z σ H E I q=>h aY z σ H E I (k _ _ _ q)
theorem zqf {t t':TS}(h:PSs X ss t)(k:∀E σ H,t' E σ H->t E σ H):PSs X ss t':=fun aY z σ H E I q=>h aY z σ H E I (k _ _ _ q)
end
def aA (i:Nat):SE:=fun σ st=>match σ[i]? with
 | some (some d)=>.ok d st
 | _=>.stuck
def eC (d:D):SE:=fun _ st=>.ok d st
section
variable {X:Cx}
theorem zbnn {e:Expr}{i:Nat}(h:PE X e (tVar i)):DE X e (aA i):=zfp h fun τ H Q hq0=>by
 obtain⟨ρ,σ,st,v,st',a,r,e,q⟩:=hq0;unfold aA at e;split at e
 ·rename_i d hd;cases e;obtain⟨u,e1,e2⟩:=a.get hd;exact⟨u,e1,q ρ H u (.refl _ _) r e2⟩
 ·cases e
theorem zbeu {e:Expr}{v:V}{d:D}(h:PE X e (tC v))(k:∀ρ H,At X.K ρ H d v):DE X e (eC d):=zfp h fun τ H Q hq0=>by
 obtain⟨ρ,σ,st,v,st',a,r,e,q⟩:=hq0;cases e;exact q ρ H _ (.refl _ _) r (k _ _)
theorem zbnv {i j pos}:DE X (.Constant (.int i) j pos) (eC (.int i)):=zbeu zbbv fun _ _=>.int i
theorem d_bl {b j pos}:DE X (.Constant (.bool b) j pos) (eC (.bl b)):=zbeu zbmo fun _ _=>.bl b
theorem zbns {j pos}:DE X (.Constant .none j pos) (eC .non):=zbeu zbhr fun _ _=>.non
theorem zbnp {x j pos}:DE X (.Constant (.str x) j pos) (eC (.str x)):=zbeu zbhp fun _ _=>.str x
end
def aW (g:D->D->Store->Res D) (f f':SE):SE:=fun σ st=>(f σ st).bind fun x st1=>(f' σ st1).bind fun y st2=>g x y st2
def eUn (g:D->Store->Res D) (f:SE):SE:=fun σ st=>(f σ st).bind fun x st1=>g x st1
def OpD (K:Fg) (g:D->D->Store->Res D) (r:R2):Prop :=
 ∀ρ H st x y u v z st' (Q:VK),Rep K ρ st H->At K ρ H x u->At K ρ H y v->g x y st=.ok z st'->(∀ρ' H' w,Ext ρ H ρ' H'->Rep K ρ' st' H'->At K ρ' H' z w->Q w H')->r u v H Q
theorem zbfz {K:Fg}{g:D->D->Store->Res D}{r:R2}(hr:OpD K g r){f f':SE}:∀τ H Q,tD K (aW g f f') τ H Q->tOp r (tD K f) (tD K f') τ H Q:=fun τ H Q hq0=>by
 obtain⟨ρ,σ,st,v,st',a,rp,e,q⟩:=hq0;obtain⟨x,st1,e1,e⟩:=zc e;obtain⟨y,st2,e2,e⟩:=zc e;refine⟨ρ,σ,st,x,st1,a,rp,e1,fun ρ1 H1 u x1 rp1 a1=>?_⟩;refine⟨ρ1,σ,st1,y,st2,a.ext x1,rp1,e2,fun ρ2 H2 w x2 rp2 a2=>?_⟩;exact hr ρ2 H2 st2 x y u w v st' Q rp2 (a1.ext x2) a2 e fun ρ' H' z x3 rp3 a3=>q ρ' H' z (x1.trans (x2.trans x3)) rp3 a3
section
variable {X:Cx}{a b c:Expr}{f f' f'':SE}{pos:Pos}
theorem d_op {op:Operator}{r:R2}{g:D->D->Store->Res D}(ho:OpR X (binaryOp op) r)(hr:OpD X.K g r)(ha:DE X a f)(hb:DE X b f'):DE X (.BinOp a op b pos) (aW g f f'):=zfp (zbmm ho ha hb) (zbfz hr)
theorem zbnw {op:CmpOp}{r:R2}{g:D->D->Store->Res D}(ho:OpR X (compareOp op) r)(hr:OpD X.K g r)(ha:DE X a f)(hb:DE X b f')(hm:behindInMarks op b=false):DE X (.Compare a [op] [b] pos) (aW g f f'):=zfp (zbby ho ha hb hm) (zbfz hr)
def eB (f:SE):ST:=fun σ st=>(f σ st).bind fun v st1=>match v with
 | .bl b=>.ok b st1
 | _=>.stuck
theorem eB_t {K:Fg}{f:SE}:∀τ H Q,tDT K (eB f) τ H Q->tD K f τ H fun x H1=>∃c,x=.bl c/\Q c H1:=fun τ H Q hq0=>by
 obtain⟨ρ,σ,st,v,st',a,rp,e,q⟩:=hq0;obtain⟨x,st1,e1,e⟩:=zc e;refine⟨ρ,σ,st,x,st1,a,rp,e1,fun ρ1 H1 u x1 rp1 a1=>?_⟩;cases x<;>try (cases e;done)
 cases e;cases a1;exact⟨_,rfl,q _ _ x1 rp1⟩
theorem zbjg {op:CmpOp}{r:R2}{g:D->D->Store->Res D}(ho:OpR X (compareOp op) r)(hr:OpD X.K g r)(ha:DE X a f)(hb:DE X b f')(hm:behindInMarks op b=false):DT X (.Compare a [op] [b] pos) (eB (aW g f f')) :=
 zbbc (zbbd ho ha hb hm) fun τ H Q h=>zbfz hr _ _ _ (eB_t _ _ _ h)
def eChain (g g':D->D->Store->Res D) (f f' f'':SE):SE:=fun σ st=>(f σ st).bind fun x st1=>(f' σ st1).bind fun y st2=>(g x y st2).bind fun z st3=>match z with
 | .bl true=>(f'' σ st3).bind fun w st4=>g' y w st4
 | .bl false=>.ok (.bl false) st3
 | _=>.stuck
theorem zbff {K:Fg}{g g':D->D->Store->Res D}{r r':R2}(hr:OpD K g r)(hr':OpD K g' r'){f f' f'':SE}:∀τ H Q,tD K (eChain g g' f f' f'') τ H Q->tChain r r' (tD K f) (tD K f') (tD K f'') τ H Q:=fun τ H Q hq0=>by
 obtain⟨ρ,σ,st,v,st',a,rp,e,q⟩:=hq0;obtain⟨x,st1,e1,e⟩:=zc e;obtain⟨y,st2,e2,e⟩:=zc e;obtain⟨z,st3,e3,e⟩:=zc e;refine⟨ρ,σ,st,x,st1,a,rp,e1,fun ρ1 H1 u x1 rp1 a1=>?_⟩;refine⟨ρ1,σ,st1,y,st2,a.ext x1,rp1,e2,fun ρ2 H2 w x2 rp2 a2=>?_⟩;refine hr ρ2 H2 st2 x y u w z st3 _ rp2 (a1.ext x2) a2 e3 fun ρ3 H3 zz x3 rp3 a3=>?_
 have X3:=x1.trans (x2.trans x3);cases z<;>try (cases e;done)
 rename_i b;cases a3;refine⟨b,rfl,?_⟩;cases b with
 | true =>
  obtain⟨t,st4,e4,e⟩:=zc e;rw[if_pos rfl];refine⟨ρ3,σ,st3,t,st4,a.ext X3,rp3,e4,fun ρ4 H4 tt x4 rp4 a4=>?_⟩;exact hr' ρ4 H4 st4 y t w tt v st' Q rp4 (a2.ext (x3.trans x4)) a4 e fun ρ' H' zz x5 rp5 a5=>q ρ' H' zz (X3.trans (x4.trans x5)) rp5 a5
 | false =>
  cases e;rw[if_neg (by decide)];exact q ρ3 H3 _ X3 rp3 (.bl false)
end
end Dd
namespace Dd
open PySem L2
section
variable {K:Fg}{ρ:Loc}{st:Store}{H:Hp}{p a:Addr}{o:HO}{n:Nat}
theorem Ext.new (hp:H p=none)(o:HO):Ext ρ H ρ (upd H p o):=⟨xbf _,fun _ _ _ e=>e,fun b u e m=>⟨by rw[zn (zj e hp)];exact e,m⟩,rfl,fun b ob u e=>by rw[zn (zj e hp)];exact e⟩
theorem zdi {vs:List V}(h:H a=some (.lst vs)):∀ob u,H a≠some (.frz ob u):=fun ob u z=>by rw[h] at z;cases z
theorem zja {vs:List (List Key×V)}(h:H a=some (.dT vs)):∀ob u,H a≠some (.frz ob u):=fun ob u z=>by rw[h] at z;cases z
theorem Ext.wr (h:ρ.m[n]?=some (some a))(hz:∀ob u,H a≠some (.frz ob u))(o:HO):Ext ρ H ρ (upd H a o):=⟨xbf _,fun _ _ _ e=>e,fun b u e m=>⟨by
 rw[zn]
 ·exact e
 ·rintro rfl
  exact m (xch h),m⟩,rfl,fun b ob u e=>by
 rw[zn]
 ·exact e
 ·rintro rfl
  exact hz _ _ e⟩
theorem OAt.has {x:O}(h:OAt K ρ H x a):∃u,H a=some u:=by
 cases x with
 | lst xs=>obtain⟨vs,e,_⟩:=h;exact⟨_,e⟩
 | dT kvs=>obtain⟨vs,e,_⟩:=h;exact⟨_,e⟩
 | fT kvs=>obtain⟨vs,ob,e,_⟩:=h;exact⟨_,e⟩
 | dead=>exact h.elim
 | tab=>obtain⟨_,ps,e,_⟩:=h;exact⟨_,e⟩
theorem OAt.ext {ρ':Loc}{H':Hp}{x:O}(e:Ext ρ H ρ' H')(same:H' a=H a)(h:OAt K ρ H x a):OAt K ρ' H' x a:=by
 cases x with
 | lst xs=>obtain⟨vs,q,r⟩:=h;exact⟨vs,by rw[same];exact q,r.ext e⟩
 | dT kvs=>obtain⟨vs,q,r⟩:=h;exact⟨vs,by rw[same];exact q,r.ext e⟩
 | fT kvs=>obtain⟨vs,ob,q,r⟩:=h;exact⟨vs,ob,by rw[same];exact q,r.ext e⟩
 | dead=>exact h.elim
 | tab=>obtain⟨c,ps,q,r⟩:=h;exact⟨c,ps,by rw[same];exact q,r.map e.frz⟩
theorem Rep.has (r:Rep K ρ st H)(h:ρ.m[n]?=some (some a)):∃x,st[n]?=some x/\OAt K ρ H x a:=by
 have hn:n < st.length:=by rw[← r.len];exact(xbo.mp h).1
 exact⟨st[n],xbg hn,r.obj n a _ h (xbg hn)⟩
theorem Rep.new (r:Rep K ρ st H)(hp:H p=none)(o:HO):Rep K ρ st (upd H p o):=⟨r.len,r.inj,fun m b x e1 e2=>by
 have q:=r.obj m b x e1 e2;obtain⟨u,hu⟩:=q.has;exact q.ext (Ext.new hp o) (zn (zj hu hp)),fun b hb=>by
 obtain⟨⟨u,hu⟩,n⟩:=r.gh b hb
 exact⟨⟨u,by rw[zn (zj hu hp)];exact hu⟩,n⟩,r.live⟩
theorem Rep.wr (r:Rep K ρ st H)(h:ρ.m[n]?=some (some a))(hz:∀ob u,H a≠some (.frz ob u)){x:O}{o:HO}(q:OAt K ρ (upd H a o) x a):Rep K ρ (st.set n x) (upd H a o):=⟨by rw[r.len,xey],r.inj,fun m b y e1 e2=>by
 by_cases hm:m=n
 ·subst hm;have hb:b=a:=by rw[h] at e1;exact(xby (xby e1)).symm
  subst hb;have hl:m < st.length:=by rw[← r.len];exact(xbo.mp h).1
  rw[xds hl] at e2;cases e2;exact q
 ·rw[xcf (xct hm)] at e2;refine(r.obj m b y e1 e2).ext (Ext.wr h hz o) (zn fun z=>hm ?_);subst z;exact r.inj m n b e1 h,fun b hb=>by
 obtain⟨⟨u,hu⟩,n1⟩:=r.gh b hb;refine⟨⟨u,?_⟩,n1⟩;rw[zn]
 ·exact hu
 ·rintro rfl;exact n1 (xch h),fun m y e ne=>by
 by_cases hm:m=n
 ·subst hm;exact⟨a,h⟩
 ·rw[xcf (xct hm)] at e
  exact r.live m y e ne⟩
theorem Rep.alloc (r:Rep K ρ st H)(hp:H p=none){x:O}{o:HO}(q:Ext ρ H ⟨ρ.m++[some p],ρ.g⟩ (upd H p o)->OAt K ⟨ρ.m++[some p],ρ.g⟩ (upd H p o) x p):Ext ρ H ⟨ρ.m++[some p],ρ.g⟩ (upd H p o)/\Rep K ⟨ρ.m++[some p],ρ.g⟩ (st++[x]) (upd H p o):=by
 have hn:∀(m:Nat) (b:Addr),(ρ.m++[some p])[m]?=some (some b)->(m < ρ.m.length/\ρ.m[m]?=some (some b))\/(m=ρ.m.length/\b=p):=fun m b e=>by
  rcases xeh m ρ.m.length with z | z
  ·rw[xcd z] at e;exact .inl ⟨z,e⟩
  ·rw[xcr z] at e;have z2:m - ρ.m.length=0:=by
    have:=(xbo.mp e).1;simp at this;lia
   rw[z2] at e;simp at e;exact .inr ⟨by lia,e.symm⟩
 have nl:∀(m:Nat),ρ.m[m]?≠some (some p):=fun m e=>by
  obtain⟨x,_,q⟩:=r.has e;obtain⟨u,hu⟩:=q.has;rw[hp] at hu;cases hu
 have E:Ext ρ H ⟨ρ.m++[some p],ρ.g⟩ (upd H p o):=⟨by rw[xbs];lia,fun m b h e=>by
   rw[xcd h] at e;exact e,fun b u e m=>⟨by rw[zn (zj e hp)];exact e,fun z=>by
   rcases xce.mp z with z | z
   ·exact m z
   ·simp at z;subst z;rw[hp] at e;cases e⟩,rfl,fun b ob u e=>by rw[zn (zj e hp)];exact e⟩
 refine⟨E,⟨by rw[xbs,xbs,r.len];rfl,fun m k b e1 e2=>?_,fun m b y e1 e2=>?_,fun b hb=>?_,fun m y e ne=>?_⟩⟩
 ·rcases hn m b e1 with⟨h1,q1⟩ | ⟨h1,rfl⟩
  ·rcases hn k b e2 with⟨h2,q2⟩ | ⟨h2,rfl⟩
   ·exact r.inj m k b q1 q2
   ·exact absurd q1 (nl m)
  ·rcases hn k b e2 with⟨h2,q2⟩ | ⟨h2,_⟩
   ·exact absurd q2 (nl k)
   ·lia
 ·rcases hn m b e1 with⟨h1,q1⟩ | ⟨h1,rfl⟩
  ·rw[xcd (by rw[← r.len];exact h1)] at e2;have q:=r.obj m b y q1 e2;obtain⟨u,hu⟩:=q.has;exact q.ext E (zn (zj hu hp))
  ·rw[h1,r.len,xcr (xbf _)] at e2;simp at e2;subst e2;exact q E
 ·obtain⟨⟨u,hu⟩,n1⟩:=r.gh b hb;refine⟨⟨u,by rw[zn (zj hu hp)];exact hu⟩,fun z=>?_⟩;rcases xce.mp z with z | z
  ·exact n1 z
  ·simp at z;subst z;rw[hp] at hu;cases hu
 ·rcases xeh m st.length with z | z
  ·rw[xcd z] at e;obtain⟨b,hb⟩:=r.live m y e ne;exact⟨b,by rw[xcd (by rw[r.len];exact z)];exact hb⟩
  ·have z2:=(xbo.mp e).1;simp at z2;have z3:m=ρ.m.length:=by rw[r.len];lia
   exact⟨p,by rw[z3,xcr (xbf _)];simp⟩
theorem Rep.kill (r:Rep K ρ st H)(h:n < ρ.m.length):Ext ρ H ⟨ρ.m.set n none,ρ.g⟩ H/\Rep K ⟨ρ.m.set n none,ρ.g⟩ (st.set n .dead) H:=by
 have hn:∀(m:Nat) (b:Addr),(ρ.m.set n none)[m]?=some (some b)->m≠n/\ρ.m[m]?=some (some b):=fun m b e=>by
  by_cases z:m=n
  ·subst z;rw[xds h] at e;simp at e
  ·rw[xcf (xct z)] at e;exact⟨z,e⟩
 have E:Ext ρ H ⟨ρ.m.set n none,ρ.g⟩ H:=⟨by rw[xey];exact xbf _,fun m b _ e=>(hn m b e).2,fun b o e m=>⟨e,fun z=>by
  obtain⟨i,hi,e2⟩:=xea z;have:(ρ.m.set n none)[i]?=some (some b):=by rw[xbg hi,e2]
  exact m (xch (hn i b this).2)⟩,rfl,fun _ _ _ e=>e⟩
 refine⟨E,⟨by rw[xey,xey,r.len],fun m k b e1 e2=>r.inj m k b (hn m b e1).2 (hn k b e2).2,fun m b y e1 e2=>?_,fun b hb=>⟨(r.gh b hb).1,fun z=>?_⟩,fun m y e ne=>?_⟩⟩
 rotate_left
 ·obtain⟨i,hi,e2⟩:=xea z;have:(ρ.m.set n none)[i]?=some (some b):=by rw[xbg hi,e2]
  exact(r.gh b hb).2 (xch (hn i b this).2)
 ·have z:m≠n:=by
   rintro rfl;rw[xds (by rw[← r.len];exact h)] at e;cases e;exact ne rfl
  rw[xcf (xct z)] at e;obtain⟨b,hb⟩:=r.live m y e ne;exact⟨b,by rw[xcf (xct z)];exact hb⟩
 obtain⟨z,q⟩:=hn m b e1;rw[xcf (xct z)] at e2;exact(r.obj m b y q e2).ext E rfl
theorem zhe (r:Rep K ρ st H)(hp:H p=none):Out ρ p:=by
 refine⟨fun z=>?_,fun z=>?_⟩
 ·obtain⟨i,hi,e⟩:=xea z;obtain⟨x,_,q⟩:=r.has (n:=i) (a:=p) (by rw[xbg hi,e]);obtain⟨u,hu⟩:=q.has;rw[hp] at hu;cases hu
 ·obtain⟨⟨u,hu⟩,_⟩:=r.gh p z;rw[hp] at hu;cases hu
theorem At.newT (r:Rep K ρ st H)(hp:H p=none){ds:List D}{vs:List V}(h:AtAll K ρ H ds vs):At K ρ (upd H p (.tup vs)) (.tup ds) (.ref p):=.tup zm (zhe r hp) (h.ext (Ext.new hp _))
theorem At.newL (r:Rep K ρ st H)(hp:H p=none){ds:List D}{vs:List V}(h:AtAll K ρ H ds vs):At K ρ (upd H p (.lst vs)) (.lst ds) (.ref p):=.lst zm (zhe r hp) (h.ext (Ext.new hp _))
end
def eAnd (f f':SE):SE:=fun σ st=>(f σ st).bind fun v st1=>match v with
 | .bl true=>f' σ st1
 | .bl false=>.ok (.bl false) st1
 | _=>.stuck
def eOr (f f':SE):SE:=fun σ st=>(f σ st).bind fun v st1=>match v with
 | .bl true=>.ok (.bl true) st1
 | .bl false=>f' σ st1
 | _=>.stuck
def eNot (f:SE):SE:=fun σ st=>(f σ st).bind fun v st1=>match v with
 | .bl b=>.ok (.bl (!b)) st1
 | _=>.stuck
def bAnd (f f':ST):ST:=fun σ st=>(f σ st).bind fun b st1=>if b=true then f' σ st1 else .ok false st1
def bOr (f f':ST):ST:=fun σ st=>(f σ st).bind fun b st1=>if b=true then .ok true st1 else f' σ st1
def bNot (f:ST):ST:=fun σ st=>(f σ st).bind fun b st1=>.ok (!b) st1
def eIf (c:ST) (f f':SE):SE:=fun σ st=>(c σ st).bind fun b st1=>if b=true then f σ st1 else f' σ st1
section
variable {X:Cx}{a b:Expr}{rest:List Expr}{f f':SE}{t t':ST}{pos:Pos}
theorem zbnr (ha:DE X a f):DE X (.UnaryOp .Not a pos) (eNot f):=zfp (zbhq ha) fun τ H Q hq0=>by
 obtain⟨ρ,σ,st,v,st',at',rp,e,q⟩:=hq0;obtain⟨x,st1,e1,e⟩:=zc e;refine⟨ρ,σ,st,x,st1,at',rp,e1,fun ρ1 H1 u x1 rp1 a1=>?_⟩;cases x<;>try (cases e;done)
 rename_i bb;cases a1;cases e;exact⟨bb,rfl,q _ _ _ x1 rp1 (.bl _)⟩
theorem zbjb {op}(h:DT X a t)(hop:op=.And\/op=.Or):DW X (.BoolOp op [a] pos) t:=by
 rcases hop with rfl | rfl
 ·exact pw_and1 h
 ·exact pw_or1 h
theorem zbjc (ha:DT X a t)(hb:DW X (.BoolOp .And (b::rest) pos) t'):DW X (.BoolOp .And (a::b::rest) pos) (bAnd t t'):=pw_to (pw_and ha hb) fun τ H Q hq0=>by
 obtain⟨ρ,σ,st,v,st',at',rp,e,q⟩:=hq0;obtain⟨x,st1,e1,e⟩:=zc e;refine⟨ρ,σ,st,x,st1,at',rp,e1,fun ρ1 H1 x1 rp1=>?_⟩;cases x with
 | true=>exact iteT ⟨ρ1,σ,st1,v,st',at'.ext x1,rp1,e,fun ρ' H' x2=>q ρ' H' (x1.trans x2)⟩
 | false=>cases e;exact iteF (q _ _ x1 rp1)
theorem zbnj (ha:DT X a t)(hb:DW X (.BoolOp .Or (b::rest) pos) t'):DW X (.BoolOp .Or (a::b::rest) pos) (bOr t t'):=pw_to (pw_or ha hb) fun τ H Q hq0=>by
 obtain⟨ρ,σ,st,v,st',at',rp,e,q⟩:=hq0;obtain⟨x,st1,e1,e⟩:=zc e;refine⟨ρ,σ,st,x,st1,at',rp,e1,fun ρ1 H1 x1 rp1=>?_⟩;cases x with
 | false=>exact iteF ⟨ρ1,σ,st1,v,st',at'.ext x1,rp1,e,fun ρ' H' x2=>q ρ' H' (x1.trans x2)⟩
 | true=>cases e;exact iteT (q _ _ x1 rp1)
theorem zbje (ha:DT X a t):DT X (.UnaryOp .Not a pos) (bNot t):=zbbc (zbhb ha) fun τ H Q hq0=>by
 obtain⟨ρ,σ,st,v,st',at',rp,e,q⟩:=hq0;obtain⟨x,st1,e1,e⟩:=zc e;cases e;exact⟨ρ,σ,st,x,_,at',rp,e1,fun ρ1 H1 x1 rp1=>q _ _ x1 rp1⟩
end
def aC:SA:=fun _ st=>.ok [] st
def aB (f:SE) (g:SA):SA:=fun σ st=>(f σ st).bind fun x st1=>(g σ st1).bind fun xs st2=>.ok (x::xs) st2
def aV (g:SA):SE:=fun σ st=>(g σ st).bind fun xs st1=>if xs.length<=sizeLine then .ok (.tup xs) st1 else .stuck
def eLst (g:SA):SE:=fun σ st=>(g σ st).bind fun xs st1=>if xs.length<=sizeLine then .ok (.lst xs) st1 else .stuck
def eLstM (g:SA):SE:=fun σ st=>(g σ st).bind fun xs st1=>if xs.length<=sizeLine then .ok (.ref st1.length) (st1++[.lst xs]) else .stuck
section
variable {X:Cx}{e:Expr}{es:List Expr}{f:SE}{g:SA}{pos:Pos}
theorem zbjv:DA X [] aC:=zblp zxx fun τ H Q hq0=>by
 obtain⟨ρ,σ,st,v,st',a,rp,e,q⟩:=hq0;cases e;exact q _ _ _ (.refl _ _) rp .nil
theorem zbel (ha:DE X e f)(hr:DA X es g)(hs:starEach (e::es) X.env=(false,eval e X.env)::starEach es X.env:=by rfl):DA X (e::es) (aB f g):=zblp (zng ha hr hs) fun τ H Q hq0=>by
 obtain⟨ρ,σ,st,v,st',a,rp,e,q⟩:=hq0;obtain⟨x,st1,e1,e⟩:=zc e;obtain⟨y,st2,e2,e⟩:=zc e;cases e;refine⟨ρ,σ,st,x,st1,a,rp,e1,fun ρ1 H1 u x1 rp1 a1=>?_⟩;exact⟨ρ1,σ,st1,y,_,a.ext x1,rp1,e2,fun ρ2 H2 w x2 rp2 a2=>q _ _ _ (x1.trans x2) rp2 (.cons (a1.ext x2) a2)⟩
theorem zbno {x1}(h:DA X es g):DE X (.Tuple es x1 pos) (aV g):=zfp (zbho h) fun τ H Q hq0=>by
 obtain⟨ρ,σ,st,v,st',a,rp,e,q⟩:=hq0;obtain⟨x,st1,e1,e⟩:=zc e;split at e
 ·rename_i hl;cases e;refine⟨ρ,σ,st,x,_,a,rp,e1,fun ρ1 H1 u x1 rp1 a1=>⟨by rw[a1.length];exact hl,fun p hp=>?_⟩⟩;exact q ρ1 _ _ (x1.trans (Ext.new hp _)) (rp1.new hp _) (.newT rp1 hp a1)
 ·cases e
theorem zbnu (h:DA X es g):DE X (.List es pos) (eLst g):=zfp (zbbu h) fun τ H Q hq0=>by
 obtain⟨ρ,σ,st,v,st',a,rp,e,q⟩:=hq0;obtain⟨x,st1,e1,e⟩:=zc e;split at e
 ·rename_i hl;cases e;refine⟨ρ,σ,st,x,_,a,rp,e1,fun ρ1 H1 u x1 rp1 a1=>⟨by rw[a1.length];exact hl,fun p hp=>?_⟩⟩;exact q ρ1 _ _ (x1.trans (Ext.new hp _)) (rp1.new hp _) (.newL rp1 hp a1)
 ·cases e
theorem At.last {K:Fg}{ρ:Loc}{H:Hp}{p:Addr}{n:Nat}(h:n=ρ.m.length):At K ⟨ρ.m++[some p],ρ.g⟩ H (.ref n) (.ref p):=by
 subst h;refine .ref (by simp) fun a e=>?_
 simp at e;rw[e]
theorem zbjz (h:DA X es g):DE X (.List es pos) (eLstM g):=zfp (zbbu h) fun τ H Q hq0=>by
 obtain⟨ρ,σ,st,v,st',a,rp,e,q⟩:=hq0;obtain⟨x,st1,e1,e⟩:=zc e;split at e
 ·rename_i hl;cases e;refine⟨ρ,σ,st,x,_,a,rp,e1,fun ρ1 H1 u x1 rp1 a1=>⟨by rw[a1.length];exact hl,fun p hp=>?_⟩⟩;obtain⟨E,R⟩:=rp1.alloc hp (x:=.lst x) (o:=.lst u) fun E=>⟨u,zm,a1.ext E⟩
  exact q _ _ _ (x1.trans E) R (.last rp1.len.symm)
 ·cases e
end
def asL (st:Store):D->Option (List D)
 | .lst xs=>some xs
 | .ref n=>match st[n]? with
  | some (.lst xs)=>some xs
  | _=>none
 | _=>none
section
variable {K:Fg}{ρ:Loc}{st:Store}{H:Hp}{d:D}{u:V}{xs:List D}
theorem zgl (rp:Rep K ρ st H){n:Nat}{o:O}(a:At K ρ H (.ref n) u)(e:st[n]?=some o)(hd:o≠.dead):∃p,u=.ref p/\ρ.m[n]?=some (some p)/\OAt K ρ H o p:=by
 cases a with
 | ref h1 h2 =>
  obtain⟨p,hp⟩:=rp.live n o e hd;exact⟨p,h2 p hp,hp,rp.obj n p o hp e⟩
theorem zfn (rp:Rep K ρ st H)(a:At K ρ H d u)(e:asL st d=some xs):∃p vs,u=.ref p/\H p=some (.lst vs)/\AtAll K ρ H xs vs:=by
 cases d<;>try (cases e;done)
 ·rename_i n;unfold asL at e;dsimp only at e;split at e
  ·rename_i ys hys;cases e;obtain⟨p,rfl,hp,vs,q1,q2⟩:=zgl rp a hys (by intro z;cases z);exact⟨p,vs,rfl,q1,q2⟩
  ·cases e
 ·cases e;cases a with
  | lst h1 h2 h3=>exact⟨_,_,rfl,h1,h3⟩
end
def oI (C:Int->Int->Prop) [DecidableRel C] (h:Int->Int->D) (x y:D) (st:Store):Res D:=match x,y with
 | .int i,.int j=>if C i j then .ok (h i j) st else .stuck
 | _,_=>.stuck
theorem oI_D {K:Fg}{C:Int->Int->Prop}[DecidableRel C]{h:Int->Int->D}{g:Int->Int->V}(k:∀i j ρ H,At K ρ H (h i j) (g i j)):OpD K (oI C h) (rI C g):=fun ρ H st x y u v z st' Q rp a b e q=>by
 unfold oI at e;split at e
 ·cases a;cases b;split at e
  ·rename_i hc;cases e;exact⟨_,_,rfl,rfl,hc,q _ _ _ (.refl _ _) rp (k _ _ _ _)⟩
  ·cases e
 ·cases e
theorem zet {K:Fg}{h:Int->Int->D}{g:Int->Int->V}(k:∀i j ρ H,At K ρ H (h i j) (g i j)):OpD K (oI (fun _ _=>True) h) (rI0 g):=fun ρ H st x y u v z st' Q rp a b e q=>by
 obtain⟨i,j,e1,e2,_,e3⟩:=oI_D (C:=fun _ _=>True) k ρ H st x y u v z st' Q rp a b e q;exact⟨i,j,e1,e2,e3⟩
instance:DecidableRel CMul:=fun i j=>by unfold CMul;infer_instance
instance:DecidableRel CDivP:=fun i j=>by unfold CDivP;infer_instance
instance:DecidableRel CPow:=fun i j=>by unfold CPow;infer_instance
abbrev oSub:=oI (fun _ _=>True) fun i j=>.int (i - j)
abbrev oFdiv:=oI CDivP fun i j=>.int (i / j)
abbrev oMod:=oI (fun _ j=>0 < j) fun i j=>.int (i % j)
abbrev oAndI:=oI (fun _ _=>True) fun i j=>.int (Builtin.bitAnd i j)
abbrev oPow:=oI CPow fun i j=>.int (i ^ j.toNat)
abbrev oShl:=oI CPow fun i j=>.int (i * 2 ^ j.toNat)
abbrev oShr:=oI (fun _ j=>0<=j) fun i j=>.int (i / 2 ^ j.toNat)
abbrev oMulI:=oI CMul fun i j=>.int (i * j)
def aP (x y:D) (st:Store):Res D:=match x,y with
 | .int i,.int j=>.ok (.int (i+j)) st
 | .tup a,.tup b=>if a.length+b.length<=sizeLine then .ok (.tup (a++b)) st else .stuck
 | .str a,.str b=>if a.length+b.length<=sizeLine then .ok (.str (a++b)) st else .stuck
 | x,y=>match asL st x,asL st y with
  | some a,some b=>if a.length+b.length<=sizeLine then .ok (.lst (a++b)) st else .stuck
  | _,_=>.stuck
abbrev rAddA (K:Fg):R2:=fun x y H Q=>rI0 (fun i j=>.int (i+j)) x y H Q\/rCatA K x y H Q\/(∃i j,x=.str i/\y=.str j/\i.length+j.length<=sizeLine/\Q (.str (i++j)) H)\/rCat x y H Q
section
variable {X:Cx}
theorem zx:OpR X (binaryOp .Add) (rAddA X.K):=zbhz.or (zbci.or (zqn.or zbhy))
theorem zby {K:Fg}:OpD K aP (rAddA K):=fun ρ H st x y u v z st' Q rp a b e q=>by
 unfold aP at e;split at e
 ·cases a;cases b;cases e;exact .inl ⟨_,_,rfl,rfl,q _ _ _ (.refl _ _) rp (.int _)⟩
 ·rename_i ds es;split at e
  ·rename_i hl;cases e;refine .inr (.inl ?_);cases a with
   | tup h1 h2 h3 =>
    cases b with
    | tup k1 k2 k3 =>
     refine⟨_,_,_,_,rfl,rfl,SqT.of h1,SqT.of k1,by rw[h3.length,k3.length];exact hl,fun z=>?_,fun z1 z2=>?_,fun z1 z2 p hp=>?_⟩
     ·subst z;cases h3;exact q _ _ _ (.refl _ _) rp (.tup k1 k2 k3)
     ·subst z2;cases k3;rw[xeg] at q;exact q _ _ _ (.refl _ _) rp (.tup h1 h2 h3)
     ·exact q _ _ _ (Ext.new hp _) (rp.new hp _) (.newT rp hp (h3.append k3))
  ·cases e
 ·split at e
  ·rename_i hl;cases a;cases b;cases e;exact .inr (.inr (.inl ⟨_,_,rfl,rfl,hl,q _ _ _ (.refl _ _) rp (.str _)⟩))
  ·cases e
 ·split at e
  ·rename_i h1 h2;split at e
   ·rename_i hl;cases e;obtain⟨p,vs,rfl,g1,g2⟩:=zfn rp a h1;obtain⟨p',ws,rfl,k1,k2⟩:=zfn rp b h2;exact .inr (.inr (.inr ⟨_,_,_,_,rfl,rfl,g1,k1,by rw[g2.length,k2.length];exact hl,fun t ht=>q _ _ _ (Ext.new ht _) (rp.new ht _) (.newL rp ht (g2.append k2))⟩))
   ·cases e
  ·cases e
end
abbrev oLe:=oI (fun _ _=>True) fun i j=>.bl (decide (i<=j))
abbrev oGt:=oI (fun _ _=>True) fun i j=>.bl (decide (j < i))
mutual
def toData:D->Option PyData
 | .non=>some .none
 | .bl b=>some (.bool b)
 | .int i=>some (.int i)
 | .str x=>some (.str x)
 | .tup ds=>(toDatas ds).map .tuple
 | .lst ds=>(toDatas ds).map .list
 | _=>none
def toDatas:List D->Option (List PyData)
 | []=>some []
 | d::ds=>(toData d).bind fun x=>(toDatas ds).map fun xs=>x::xs
end
mutual
theorem zwe {K:Fg}{ρ:Loc}{H:Hp}:∀{d:D} {v:V} {p:PyData},At K ρ H d v->toData d=some p->DAt K H v p
 | _,_,_,.non,e=>by cases e;exact .non
 | _,_,_,.bl b,e=>by cases e;exact .bl b
 | _,_,_,.int i,e=>by cases e;exact .int i
 | _,_,_,.str x,e=>by cases e;exact .str x
 | _,_,_,.ty n,e=>by cases e
 | _,_,_,.exn _,e=>by cases e
 | _,_,_,.ref _ _,e=>by cases e
 | _,_,_,.tup h _ al,e=>by
  rw[toData] at e;obtain⟨ps,e1,rfl⟩:=xco.mp e;exact .tup (SqT.of h) (zjy al e1)
 | _,_,_,.lst h _ al,e=>by
  rw[toData] at e;obtain⟨ps,e1,rfl⟩:=xco.mp e;exact .lst (SqL.of h) (zjy al e1)
 | _,_,_,.scr _ _,e=>by cases e
theorem zjy {K:Fg}{ρ:Loc}{H:Hp}:∀{d:List D} {v:List V} {p:List PyData},AtAll K ρ H d v->toDatas d=some p->DAll K H v p
 | _,_,_,.nil,e=>by cases e;exact .nil
 | _,_,_,.cons a b,e=>by
  rw[toDatas] at e;obtain⟨x,e1,e⟩:=xef.mp e;obtain⟨xs,e2,rfl⟩:=xco.mp e;exact .cons (zwe a e1) (zjy b e2)
end
def now (st:Store) (d:D):D:=match asL st d with
 | some xs=>.lst xs
 | none=>d
def dataOf (st:Store) (d:D):Option PyData:=toData (now st d)
theorem zoc {K:Fg}{ρ:Loc}{st:Store}{H:Hp}(rp:Rep K ρ st H){d:D}{u:V}{p:PyData}(a:At K ρ H d u)(e:dataOf st d=some p):DAt K H u p:=by
 unfold dataOf now at e;split at e
 ·rename_i xs hx;obtain⟨q,vs,rfl,h1,h2⟩:=zfn rp a hx;rw[toData] at e;obtain⟨ps,e1,rfl⟩:=xco.mp e;exact .lst (SqL.of h1) (zjy h2 e1)
 ·exact zwe a e
def oEqG (neg:Bool) (x y:D) (st:Store):Res D:=match dataOf st x,dataOf st y with
 | some a,some b=>if PySem.SeqAt.shaped a=true/\PySem.SeqAt.shaped b=true then .ok (.bl (if neg then !PyData.eqv a b else PyData.eqv a b)) st else .stuck
 | _,_=>.stuck
theorem znl {K:Fg}{neg:Bool}:OpD K (oEqG neg) (rEqX K neg):=fun ρ H st x y u v z st' Q rp a b e q=>by
 unfold oEqG at e;split at e
 ·rename_i p1 p2 h1 h2;split at e
  ·rename_i hs;cases e;exact⟨_,_,zoc rp a h1,zoc rp b h2,hs.1,hs.2,q _ _ _ (.refl _ _) rp (.bl _)⟩
  ·cases e
 ·cases e
abbrev oEq:=oEqG false
abbrev oNe:=oEqG true
def oIsN (neg:Bool) (x y:D) (st:Store):Res D:=match x,y with
 | .ref _,_=>.stuck
 | .non,.non=>.ok (.bl (!neg)) st
 | _,.non=>.ok (.bl neg) st
 | _,_=>.stuck
theorem zbcm {K:Fg}:OpD K (oIsN true) (fun x y H Q=>y=.non/\Q (.bl (!decide (x=.non))) H):=fun ρ H st x y u v z st' Q rp a b e q=>by
 unfold oIsN at e;split at e<;>try (cases e;done)
 ·cases a;cases b;cases e
  exact⟨rfl,q _ _ _ (.refl _ _) rp (by simp;exact .bl _)⟩
 ·rename_i h1 h2;cases b;cases e
  refine⟨rfl,q _ _ _ (.refl _ _) rp ?_⟩;have:u≠.non:=by
   rintro rfl;cases a<;>first | exact h2 rfl | exact h1 _ rfl
  rw[xbt this];exact .bl _
def asInts:List D->Option (List Int)
 | []=>some []
 | .int i::r=>(asInts r).map (i::·)
 | _::_=>none
theorem zdy {K:Fg}{ρ:Loc}{H:Hp}:∀{ds:List D} {vs:List V} {ns:List Int},AtAll K ρ H ds vs->asInts ds=some ns->vs=ns.map V.int
 | _,_,_,.nil,e=>by cases e;rfl
 | _,_,_,.cons (d:=d) a b,e=>by
  cases d<;>try (cases e;done)
  rw[asInts] at e;obtain⟨ms,e1,rfl⟩:=xco.mp e;cases a;rw[zdy b e1]
  rfl
def oLtT (x y:D) (st:Store):Res D:=match x,y with
 | .int i,.int j=>.ok (.bl (decide (i < j))) st
 | .tup a,.tup b=>match asInts a,asInts b with
  | some ns,some ms=>.ok (.bl (HT.lexLt ns ms)) st
  | _,_=>.stuck
 | _,_=>.stuck
abbrev rLtA (K:Fg):R2:=fun x y H Q=>rI0 (fun i j=>.bl (decide (i < j))) x y H Q\/rLtT K x y H Q
theorem zqm {X:Cx}(hu:X.A.units < cLine):OpR X (compareOp .Lt) (rLtA X.K):=zbmr.or (zbhx hu)
theorem zqp {K:Fg}:OpD K oLtT (rLtA K):=fun ρ H st x y u v z st' Q rp a b e q=>by
 unfold oLtT at e;split at e
 ·cases a;cases b;cases e
  exact .inl ⟨_,_,rfl,rfl,q _ _ _ (.refl _ _) rp (.bl _)⟩
 ·split at e
  ·rename_i h1 h2;cases e;cases a with
   | tup g1 g2 g3 =>
    cases b with
    | tup k1 k2 k3 =>
     have e1:=zdy g3 h1;have e2:=zdy k3 h2;subst e1 e2;exact .inr ⟨_,_,_,_,rfl,rfl,SqT.of g1,SqT.of k1,q _ _ _ (.refl _ _) rp (.bl _)⟩
  ·cases e
 ·cases e
def seqOf (st:Store):D->Option (List D)
 | .tup xs=>some xs
 | .scr xs=>some xs
 | d=>asL st d
theorem zho {K:Fg}{ρ:Loc}{st:Store}{H:Hp}(rp:Rep K ρ st H){d:D}{u:V}{xs:List D}(a:At K ρ H d u)(e:seqOf st d=some xs) :
  ∃p vs,u=.ref p/\(SqL K H p vs\/SqT K H p vs)/\AtAll K ρ H xs vs:=by
 unfold seqOf at e;split at e
 ·cases e;cases a with
  | tup h1 h2 h3=>exact⟨_,_,rfl,.inr (SqT.of h1),h3⟩
 ·cases e;cases a with
  | scr h1 h3=>exact⟨_,_,rfl,.inl h1.sq,h3⟩
 ·obtain⟨p,vs,rfl,h1,h2⟩:=zfn rp a e;exact⟨p,vs,rfl,.inl (SqL.of h1),h2⟩
theorem AtAll.atI {K:Fg}{ρ:Loc}{H:Hp}{ds:List D}{vs:List V}{i:Int}{d:D}(h:AtAll K ρ H ds vs)(e:L2.atI ds i=some d):∃v,L2.atI vs i=some v/\At K ρ H d v:=by
 unfold L2.atI at e ⊢;rw[h.length];cases hi:ixN ds.length i with
 | none=>rw[hi] at e;cases e
 | some j =>
  rw[hi] at e;obtain⟨v,e1,e2⟩:=h.get (i:=j) e;exact⟨v,e1,e2⟩
def oIx (x y:D) (st:Store):Res D:=match seqOf st x,y with
 | some xs,.int i=>match L2.atI xs i with
  | some v=>.ok v st
  | none=>.stuck
 | _,_=>.stuck
theorem zbmw {K:Fg}:OpD K oIx (rIx K):=fun ρ H st x y u v z st' Q rp a b e q=>by
 unfold oIx at e;split at e
 ·rename_i h1;split at e
  ·rename_i w hw;cases e;cases b;obtain⟨p,vs,rfl,h2,h3⟩:=zho rp a h1;obtain⟨w',e2,a2⟩:=h3.atI hw;rcases h2 with h2 | h2
   ·exact .inl ⟨_,_,_,_,rfl,rfl,h2,e2,q _ _ _ (.refl _ _) rp a2⟩
   ·exact .inr (.inl ⟨_,_,_,_,rfl,rfl,h2,e2,q _ _ _ (.refl _ _) rp a2⟩)
  ·cases e
 ·cases e
def cutD (xs:List D) (lo hi:Option Int):List D:=(xs.drop (HT.sIx xs.length 0 lo)).take (HT.sIx xs.length xs.length hi - HT.sIx xs.length 0 lo)
theorem AtAll.cut {K:Fg}{ρ:Loc}{H:Hp}{ds:List D}{vs:List V}(h:AtAll K ρ H ds vs)(lo hi:Option Int):AtAll K ρ H (cutD ds lo hi) (cutV vs lo hi):=by
 unfold cutD cutV;rw[h.length];exact(h.drop _).take _
def pNone:DS->Store->Res (Option Int):=fun _ st=>.ok none st
def pSome (f:SE):DS->Store->Res (Option Int):=fun σ st=>(f σ st).bind fun v st1=>match v with
 | .int i=>.ok (some i) st1
 | _=>.stuck
def eSl (f:SE) (lo hi:DS->Store->Res (Option Int)):SE:=fun σ st=>(f σ st).bind fun x st1=>(lo σ st1).bind fun l st2=>(hi σ st2).bind fun h st3=>match x with
 | .tup xs=>.ok (.tup (cutD xs l h)) st3
 | x=>match asL st3 x with
  | some xs=>.ok (.lst (cutD xs l h)) st3
  | none=>.stuck
def tDO (K:Fg) (f:DS->Store->Res (Option Int)):TO:=fun τ H Q=>∃ρ σ st v st',AtS K ρ H σ τ/\Rep K ρ st H/\f σ st=.ok v st'/\∀ρ' H',Ext ρ H ρ' H'->Rep K ρ' st' H'->Q v H'
abbrev DO (X:Cx) (e:Option Expr) (f:DS->Store->Res (Option Int)):Prop:=PO X e (tDO X.K f)
section
variable {X:Cx}{a b e:Expr}{f f':SE}{pos:Pos}{lo hi:Option Expr}{l h:DS->Store->Res (Option Int)}
theorem zblm {t t':TO}{e:Option Expr}(h:PO X e t)(k:∀σ H Q,t' σ H Q->t σ H Q):PO X e t':=fun aY s σ H Q I q=>h aY s σ H Q I (k _ _ _ q)
theorem zbed:DO X none pNone:=zblm zbbm fun τ H Q hq0=>by
 obtain⟨ρ,σ,st,v,st',a,rp,e,q⟩:=hq0;cases e;exact q _ _ (.refl _ _) rp
theorem zbec (he:DE X e f):DO X (some e) (pSome f):=zblm (zbbl he) fun τ H Q hq0=>by
 obtain⟨ρ,σ,st,v,st',a,rp,e,q⟩:=hq0;obtain⟨x,st1,e1,e⟩:=zc e;refine⟨ρ,σ,st,x,st1,a,rp,e1,fun ρ1 H1 u x1 rp1 a1=>?_⟩;cases x<;>try (cases e;done)
 cases e;cases a1;exact⟨_,rfl,q _ _ x1 rp1⟩
theorem d_ix (ha:DE X a f)(hb:DE X b f')(hs:PlainIx b):DE X (.Subscript a b pos) (aW oIx f f'):=zfp (zbmn zbio ha hb hs) (zbfz zbmw)
theorem d_sl {p2:Pos}(he:DE X e f)(hl:DO X lo l)(hu:DO X hi h):DE X (.Subscript e (.Slice lo hi none p2) pos) (eSl f l h):=zfp (zxp (zbav.or zbaw) he hl hu) fun τ H Q hq0=>by
 obtain⟨ρ,σ,st,v,st',a,rp,e,q⟩:=hq0;obtain⟨x,st1,e1,e⟩:=zc e;obtain⟨y,st2,e2,e⟩:=zc e;obtain⟨z,st3,e3,e⟩:=zc e;refine⟨ρ,σ,st,x,st1,a,rp,e1,fun ρ1 H1 u x1 rp1 a1=>?_⟩;refine⟨ρ1,σ,st1,y,st2,a.ext x1,rp1,e2,fun ρ2 H2 x2 rp2=>?_⟩;refine⟨ρ2,σ,st2,z,st3,a.ext (x1.trans x2),rp2,e3,fun ρ3 H3 x3 rp3=>?_⟩;have a3:=a1.ext (x2.trans x3);have X3:=x1.trans (x2.trans x3);split at e
 ·cases e;refine .inl ?_;cases a3 with
  | tup h1 h2 h3 =>
   refine⟨_,_,rfl,SqT.of h1,fun ec=>?_,fun p hp=>?_⟩
   ·refine q _ _ _ X3 rp3 (.tup h1 h2 ?_);have:=h3.cut y z;rw[ec] at this;exact this
   ·exact q _ _ _ (X3.trans (Ext.new hp _)) (rp3.new hp _) (.newT rp3 hp (h3.cut y z))
 ·split at e
  ·rename_i xs hx;cases e;obtain⟨p,vs,rfl,g1,g2⟩:=zfn rp3 a3 hx;exact .inr ⟨_,_,rfl,SqL.of g1,fun p hp=>q _ _ _ (X3.trans (Ext.new hp _)) (rp3.new hp _) (.newL rp3 hp (g2.cut y z))⟩
  ·cases e
end
end Dd
namespace Dd
open PySem L2
def aE (g:List D->Store->Res D) (f:SA):SE:=fun σ st=>(f σ st).bind fun xs st1=>g xs st1
def CaD (K:Fg) (g:List D->Store->Res D) (r:List V->Hp->VK->Prop):Prop :=
 ∀ρ H st xs us z st' (Q:VK),Rep K ρ st H->AtAll K ρ H xs us->g xs st=.ok z st'->(∀ρ' H' w,Ext ρ H ρ' H'->Rep K ρ' st' H'->At K ρ' H' z w->Q w H')->r us H Q
theorem zbkn {K:Fg}{g:List D->Store->Res D}{r:List V->Hp->VK->Prop}(hr:CaD K g r){f:SA}:∀τ H Q,tD K (aE g f) τ H Q->tCB r (tDA K f) τ H Q:=fun τ H Q hq0=>by
 obtain⟨ρ,σ,st,v,st',a,rp,e,q⟩:=hq0;obtain⟨x,st1,e1,e⟩:=zc e;exact⟨ρ,σ,st,x,st1,a,rp,e1,fun ρ1 H1 u x1 rp1 a1=>hr ρ1 H1 st1 x u v st' Q rp1 a1 e fun ρ' H' w x2=>q ρ' H' w (x1.trans x2)⟩
section
variable {X:Cx}{x:Str}{p pos:Pos}{e:Expr}{es:List Expr}{f:SA}{id T:String}{r:List V->Hp->VK->Prop}{g:List D->Store->Res D}
theorem zbev (hc:CallR X (.builtin id) r)(hr:CaD X.K g r)(hg:Gl X x)(hm:X.mg x=none)(hv:bootBuiltins x=some (.builtin id))(ha:DA X (e::es) f)(hn:x≠"__name__":=by decide)(hdb:(x==("__debug__" : Str))=false:=by decide)
 (he:starEach (e::es) X.env=(false,eval e X.env)::starEach es X.env:=by rfl)(hpl:(backTo pos (starEach es X.env)).any (·.1)=false:=by rfl):DE X (.Call (.Name x p) (e::es) [] pos) (aE g f):=zfp (zqi hc hg hm hv ha hn hdb he hpl) (zbkn hr)
theorem zzi (hc:CallR X (.type T) r)(hr:CaD X.K g r)(hg:Gl X x)(hm:X.mg x=none)(hv:bootBuiltins x=some (.type T))(ha:DA X (e::es) f)(hn:x≠"__name__":=by decide)(hdb:(x==("__debug__" : Str))=false:=by decide)
 (he:starEach (e::es) X.env=(false,eval e X.env)::starEach es X.env:=by rfl)(hpl:(backTo pos (starEach es X.env)).any (·.1)=false:=by rfl):DE X (.Call (.Name x p) (e::es) [] pos) (aE g f):=zfp (zti hc hg hm hv ha hn hdb he hpl) (zbkn hr)
end
theorem AtAll.one {K:Fg}{ρ:Loc}{H:Hp}{d:D}{us:List V}(h:AtAll K ρ H [d] us):∃u,us=[u]/\At K ρ H d u:=by
 cases h with
 | cons a b=>cases b;exact⟨_,rfl,a⟩
theorem AtAll.two {K:Fg}{ρ:Loc}{H:Hp}{d e:D}{us:List V}(h:AtAll K ρ H [d,e] us):∃u v,us=[u,v]/\At K ρ H d u/\At K ρ H e v:=by
 cases h with
 | cons a b =>
  obtain⟨v,rfl,c⟩:=b.one;exact⟨_,_,rfl,a,c⟩
def bLen:List D->Store->Res D:=fun xs st=>match xs with
 | [x]=>match seqOf st x with
  | some ys=>.ok (.int ys.length) st
  | none=>.stuck
 | _=>.stuck
theorem zgs {K:Fg}:CaD K bLen (fun xs H Q=>∃p ys,xs=[.ref p]/\(SqL K H p ys\/SqT K H p ys)/\Q (.int ys.length) H):=fun ρ H st xs us z st' Q rp aa e q=>by
 unfold bLen at e;split at e
 ·split at e
  ·rename_i h;cases e;obtain⟨u,rfl,a⟩:=aa.one;obtain⟨p,vs,rfl,h1,h2⟩:=zho rp a h;refine⟨p,vs,rfl,h1,?_⟩;rw[h2.length];exact q _ _ _ (.refl _ _) rp (.int _)
  ·cases e
 ·cases e
def bAbs:List D->Store->Res D:=fun xs st=>match xs with
 | [.int i]=>.ok (.int (if i < 0 then -i else i)) st
 | _=>.stuck
theorem zbla {K:Fg}:CaD K bAbs (fun xs H Q=>∃i,xs=[.int i]/\Q (.int (if i < 0 then -i else i)) H):=fun ρ H st xs us z st' Q rp aa e q=>by
 unfold bAbs at e;split at e
 ·cases e;obtain⟨u,rfl,a⟩:=aa.one;cases a;exact⟨_,rfl,q _ _ _ (.refl _ _) rp (.int _)⟩
 ·cases e
def b2I (g:Int->Int->Int):List D->Store->Res D:=fun xs st=>match xs with
 | [.int i,.int j]=>.ok (.int (g i j)) st
 | _=>.stuck
theorem zbge {K:Fg}{g:Int->Int->Int}:CaD K (b2I g) (fun xs H Q=>∃i j,xs=[.int i,.int j]/\Q (.int (g i j)) H):=fun ρ H st xs us z st' Q rp aa e q=>by
 unfold b2I at e;split at e
 ·cases e;obtain⟨u,v,rfl,a,b⟩:=aa.two;cases a;cases b;exact⟨_,_,rfl,q _ _ _ (.refl _ _) rp (.int _)⟩
 ·cases e
abbrev bMin2:=b2I fun i j=>if j < i then j else i
def bSum:List D->Store->Res D:=fun xs st=>match xs with
 | [x]=>match (seqOf st x).bind asInts with
  | some ns=>.ok (.int ns.sum) st
  | none=>.stuck
 | _=>.stuck
theorem zbfr {K:Fg}:CaD K bSum (rSum K):=fun ρ H st xs us z st' Q rp aa e q=>by
 unfold bSum at e;split at e
 ·split at e
  ·rename_i ns h;cases e;obtain⟨ys,h0,h⟩:=xef.mp h;obtain⟨u,rfl,a⟩:=aa.one;obtain⟨p,vs,rfl,h1,h2⟩:=zho rp a h0;have e:=zdy h2 h;subst e;exact⟨p,ns,rfl,h1,q _ _ _ (.refl _ _) rp (.int _)⟩
  ·cases e
 ·cases e
def asBools:List D->Option (List Bool)
 | []=>some []
 | .bl i::r=>(asBools r).map (i::·)
 | _::_=>none
theorem zii {K:Fg}{ρ:Loc}{H:Hp}:∀{ds:List D} {vs:List V} {ns:List Bool},AtAll K ρ H ds vs->asBools ds=some ns->vs=ns.map V.bl
 | _,_,_,.nil,e=>by cases e;rfl
 | _,_,_,.cons (d:=d) a b,e=>by
  cases d<;>try (cases e;done)
  rw[asBools] at e;obtain⟨ms,e1,rfl⟩:=xco.mp e;cases a;rw[zii b e1]
  rfl
def bAny (al:Bool):List D->Store->Res D:=fun xs st=>match xs with
 | [x]=>match (asL st x).bind asBools with
  | some bs=>.ok (.bl (if al then bs.all id else bs.any id)) st
  | none=>.stuck
 | _=>.stuck
theorem zbfu {K:Fg}{al:Bool}:CaD K (bAny al) (rAny K al):=fun ρ H st xs us z st' Q rp aa e q=>by
 unfold bAny at e;split at e
 ·split at e
  ·rename_i ns h;cases e;obtain⟨ys,h0,h⟩:=xef.mp h;obtain⟨u,rfl,a⟩:=aa.one;obtain⟨p,vs,rfl,h1,h2⟩:=zfn rp a h0;have e:=zii h2 h;subst e;exact⟨p,ns,rfl,SqL.of h1,q _ _ _ (.refl _ _) rp (.bl _)⟩
  ·cases e
 ·cases e
def bTuple:List D->Store->Res D:=fun xs st=>match xs with
 | [.tup ys]=>.ok (.tup ys) st
 | [x]=>match asL st x with
  | some ys=>.ok (.tup ys) st
  | none=>.stuck
 | _=>.stuck
theorem zdx {K:Fg}:CaD K bTuple (fun xs H Q=>∃p ys,xs=[.ref p]/\((SqL K H p ys/\∀l,H l=none->Q (.ref l) (upd H l (.tup ys)))\/(SqT K H p ys/\Q (.ref p) H))):=fun ρ H st xs us z st' Q rp aa e q=>by
 unfold bTuple at e;split at e
 ·cases e;obtain⟨u,rfl,a⟩:=aa.one;cases a with
  | tup h1 h2 h3=>exact⟨_,_,rfl,.inr ⟨SqT.of h1,q _ _ _ (.refl _ _) rp (.tup h1 h2 h3)⟩⟩
 ·split at e
  ·rename_i h;cases e;obtain⟨u,rfl,a⟩:=aa.one;obtain⟨p,vs,rfl,h1,h2⟩:=zfn rp a h;exact⟨_,_,rfl,.inl ⟨SqL.of h1,fun l hl=>q _ _ _ (Ext.new hl _) (rp.new hl _) (.newT rp hl h2)⟩⟩
  ·cases e
 ·cases e
def bList:List D->Store->Res D:=fun xs st=>match xs with
 | [x]=>match seqOf st x with
  | some ys=>.ok (.lst ys) st
  | none=>.stuck
 | _=>.stuck
def bListM:List D->Store->Res D:=fun xs st=>match xs with
 | [x]=>match seqOf st x with
  | some ys=>.ok (.ref st.length) (st++[.lst ys])
  | none=>.stuck
 | _=>.stuck
theorem zmr {K:Fg}:CaD K bListM (fun xs H Q=>∃p ys,xs=[.ref p]/\(SqL K H p ys\/SqT K H p ys)/\∀l,H l=none->Q (.ref l) (upd H l (.lst ys))):=fun ρ H st xs us z st' Q rp aa e q=>by
 unfold bListM at e;split at e
 ·split at e
  ·rename_i ys h;cases e;obtain⟨u,rfl,a⟩:=aa.one;obtain⟨p,vs,rfl,h1,h2⟩:=zho rp a h;refine⟨_,_,rfl,h1,fun l hl=>?_⟩;obtain⟨E,R⟩:=rp.alloc hl (x:=.lst ys) (o:=.lst vs) fun E=>⟨vs,zm,h2.ext E⟩
   exact q _ _ _ E R (.last rp.len.symm)
  ·cases e
 ·cases e
abbrev aM (ns:List Int):D:=.tup (ns.map .int)
abbrev aJ (l:List (List Int)):List D:=l.map aM
def insR (a:List Int):List (List Int)->List (List Int)
 | []=>[a]
 | b::r=>if HT.lexLt b a=true then b::insR a r else a::b::r
def sortR:List (List Int)->List (List Int)
 | []=>[]
 | a::r=>insR a (sortR r)
abbrev UpR (l:List (List Int)):Prop:=l.Pairwise fun a b=>HT.lexLt b a=false
theorem zjw (a:List Int):∀l,(insR a l).Perm (a::l)
 | []=>.refl _
 | b::r=>by
  unfold insR;split
  ·exact(List.Perm.cons b (zjw a r)).trans (.swap a b r)
  ·exact .refl _
theorem zed:∀l,(sortR l).Perm l
 | []=>.refl _
 | a::r=>(zjw a _).trans (.cons a (zed r))
theorem zmh {a b c:List Int}(h1:HT.lexLt b a=false)(h2:HT.lexLt c b=false):HT.lexLt c a=false:=by
 cases h:HT.lexLt c a with
 | false=>rfl
 | true =>
  rcases Srt.znp a b with z | z | z
  ·have:=Srt.zhf h z;rw[h2] at this;cases this
  ·subst z;rw[h2] at h;cases h
  ·rw[h1] at z;cases z
theorem zvu (a:List Int):∀l,UpR l->UpR (insR a l)
 | [],_=>xjp _ _
 | b::r,h=>by
  obtain⟨h1,h2⟩:=xhx.mp h;unfold insR;split
  ·rename_i c;refine xhx.mpr ⟨fun x hx=>?_,zvu a r h2⟩;rcases xbu.mp ((zjw a r).mem_iff.mp hx) with rfl | hx
   ·exact Srt.zty c
   ·exact h1 x hx
  ·rename_i c;have c':HT.lexLt b a=false:=by simpa using c
   refine xhx.mpr ⟨fun x hx=>?_,h⟩;rcases xbu.mp hx with rfl | hx
   ·exact c'
   ·exact zmh c' (h1 x hx)
theorem zlq:∀l,UpR (sortR l)
 | []=>.nil
 | a::r=>zvu a _ (zlq r)
theorem zmy:∀{l m:List (List Int)},l.Perm m->UpR l->UpR m->l=m
 | [],m,p,_,_=>by rw[List.nil_perm.mp p]
 | a::l,[],p,_,_=>by cases List.perm_nil.mp p
 | a::l,b::m,p,h1,h2=>by
  obtain⟨p1,p2⟩:=xhx.mp h1;obtain⟨q1,q2⟩:=xhx.mp h2;have e:a=b:=by
   rcases xbu.mp (p.mem_iff.mp xcm) with z | z
   ·exact z
   ·rcases xbu.mp (p.mem_iff.mpr (xcm (a:=b) (l:=m))) with y | y
    ·exact y.symm
    ·have e1:=q1 a z;have e2:=p1 b y;rcases Srt.znp a b with w | w | w
     ·rw[e1] at w;cases w
     ·exact w
     ·rw[e2] at w;cases w
  subst e;rw[zmy (List.Perm.cons_inv p) p2 q2]
theorem zlr {l m:List (List Int)}(p:m.Perm l)(h:UpR m):m=sortR l:=zmy (p.trans (zed l).symm) h (zlq l)
theorem zls (l:List (List Int)):(sortR l).length=l.length:=(zed l).length_eq
def asRows:List D->Option (List (List Int))
 | []=>some []
 | .tup ds::r=>(asInts ds).bind fun ns=>(asRows r).map (ns::·)
 | _::_=>none
theorem zoo {K:Fg}{ρ:Loc}{H:Hp}:∀{ds:List D} {vs:List V} {l:List (List Int)},AtAll K ρ H ds vs->asRows ds=some l ->
  ∃ps:List (Addr×List Int),vs=ps.map (fun p=>V.ref p.1)/\ps.map (·.2)=l/\∀p∈ps,H p.1=some (.tup (p.2.map V.int))/\Out ρ p.1
 | _,_,_,.nil,e=>by cases e;exact⟨[],rfl,rfl,fun _ h=>nomatch h⟩
 | _,_,_,.cons (d:=d) a b,e=>by
  cases d<;>try (cases e;done)
  rw[asRows] at e;obtain⟨ns,e1,e⟩:=xef.mp e;obtain⟨l,e2,rfl⟩:=xco.mp e;obtain⟨ps,h1,h2,h3⟩:=zoo b e2;cases a with
  | tup g1 g2 g3 =>
   rename_i ad ws;have ew:=zdy g3 e1;subst ew;refine⟨(ad,ns)::ps,by rw[h1];rfl,by rw[← h2];rfl,fun p hp=>?_⟩;rcases xbu.mp hp with rfl | hp
   ·exact⟨g1,g2⟩
   ·exact h3 p hp
theorem zjv {K:Fg}{ρ:Loc}{H:Hp}:∀ns:List Int,AtAll K ρ H (ns.map .int) (ns.map V.int)
 | []=>.nil
 | n::ns=>.cons (.int n) (zjv ns)
theorem zlu {K:Fg}{ρ:Loc}{H:Hp}:∀ps:List (Addr×List Int),(∀p∈ps,H p.1=some (.tup (p.2.map V.int))/\Out ρ p.1)->AtAll K ρ H (aJ (ps.map (·.2))) (ps.map fun p=>V.ref p.1)
 | [],_=>.nil
 | p::ps,h=>.cons (.tup (h p xcm).1 (h p xcm).2 (zjv _)) (zlu ps fun q hq=>h q (xcq _ hq))
theorem znm {K:Fg}{ρ:Loc}{st:Store}{H:Hp}(r:Rep K ρ st H){p:Addr}{vs:List V}(hp:H p=some (.tup vs)):Out ρ p:=by
 refine⟨fun z=>?_,fun z=>?_⟩
 ·obtain⟨i,hi,e⟩:=xea z;obtain⟨x,_,q⟩:=r.has (n:=i) (a:=p) (by rw[xbg hi,e]);cases x with
  | lst xs=>obtain⟨_,e,_⟩:=q;rw[hp] at e;cases e
  | dT kvs=>obtain⟨_,e,_⟩:=q;rw[hp] at e;cases e
  | fT kvs=>obtain⟨_,_,e,_⟩:=q;rw[hp] at e;cases e
  | dead=>exact q
  | tab=>obtain⟨_,_,e,_⟩:=q;rw[hp] at e;cases e
 ·obtain⟨⟨u,hu⟩,_⟩:=r.gh p z;rw[hp] at hu;cases hu
def valD (kvs:List (List Int×D)) (k:List Int):Option D:=(kvs.find? fun kv=>decide (kv.1=k)).map (·.2)
def putD (kvs:List (List Int×D)) (k:List Int) (v:D):List (List Int×D) :=
 if(kvs.any fun kv=>decide (kv.1=k))=true then kvs.map (fun kv=>if kv.1=k then(kv.1,v) else kv) else kvs++[(k,v)]
def dropD (kvs:List (List Int×D)) (k:List Int):List (List Int×D):=kvs.filter fun kv=>decide (kv.1≠k)
theorem znw {a b:List Int}:a.map (Sum.inl:Int->Key)=b.map Sum.inl↔a=b:=by
 constructor
 ·intro h;exact(List.map_inj_right (f:=(Sum.inl:Int->Key)) fun x y e=>Sum.inl.inj e).mp h
 ·rintro rfl;rfl
section
variable {K:Fg}{ρ:Loc}{H:Hp}{kvs:List (List Int×D)}{vs:List (List Key×V)}
theorem KvAt.val (h:KvAt K ρ H kvs vs)(k:List Int):match valD kvs k with
  | some d=>∃v,valV vs (k.map Sum.inl)=some v/\At K ρ H d v
  | none=>valV vs (k.map Sum.inl)=none:=by
 induction h with
 | nil=>rfl
 | @cons p q ps qs h t ih =>
  obtain⟨h1,h2⟩:=h;by_cases e:p.1=k
  ·have e1:valD (p::ps) k=some p.2:=by simp[valD,xez,e]
   rw[e1];exact⟨q.2,zjj (by rw[h1,e]),h2⟩
  ·have e1:valD (p::ps) k=valD ps k:=by simp[valD,xez,e]
   have e2:valV (q::qs) (k.map Sum.inl)=valV qs (k.map Sum.inl):=zjk (by rw[h1,znw];exact e);rw[e1,e2];exact ih
theorem KvAt.keys (h:KvAt K ρ H kvs vs):vs.map (·.1)=(kvs.map (·.1)).map fun ns=>ns.map Sum.inl:=by
 induction h with
 | nil=>rfl
 | @cons p q ps qs h t ih=>rw[xbp,xbp,xbp,ih,h.1]
theorem KvAt.put (h:KvAt K ρ H kvs vs)(k:List Int){d:D}{v:V}(a:At K ρ H d v):KvAt K ρ H (putD kvs k d) (putK vs (k.map Sum.inl) v):=by
 have any:∀{kvs:List (List Int×D)} {vs:List (List Key×V)},KvAt K ρ H kvs vs->(kvs.any fun kv=>decide (kv.1=k))=(vs.any fun kv=>decide (kv.1=k.map Sum.inl)):=fun h=>by
  induction h with
  | nil=>rfl
  | @cons p q ps qs h t ih =>
   rw[xjx,xjx,ih,h.1]
   congr 1
   simp only[znw]
 unfold putD putK;rw[any h];split
 ·rename_i hh;clear hh any
  induction h with
  | nil=>exact .nil
  | @cons p q ps qs h t ih =>
   refine .cons ?_ ih;obtain⟨h1,h2⟩:=h;dsimp only;by_cases e:p.1=k
   ·rw[if_pos e,if_pos (by rw[h1,e])];exact⟨h1,a⟩
   ·rw[if_neg e,if_neg (by rw[h1,znw];exact e)];exact⟨h1,h2⟩
 ·have app:∀{kvs:List (List Int×D)} {vs:List (List Key×V)},KvAt K ρ H kvs vs->KvAt K ρ H (kvs++[(k,d)]) (vs++[(k.map Sum.inl,v)]):=fun h=>by
   induction h with
   | nil=>exact .cons ⟨rfl,a⟩ .nil
   | cons h t ih=>exact .cons h ih
  exact app h
theorem KvAt.drop (h:KvAt K ρ H kvs vs)(k:List Int):KvAt K ρ H (dropD kvs k) (dropK vs (k.map Sum.inl)):=by
 unfold dropD dropK
 induction h with
 | nil=>exact .nil
 | @cons p q ps qs h t ih =>
  by_cases e:p.1=k
  ·rw[xet (by simp[e]),xet (by simp[h.1,e])];exact ih
  ·rw[xeu (by simp[e]),xeu (by simp[h.1,znw,e])];exact .cons h ih
theorem KvAt.length (h:KvAt K ρ H kvs vs):kvs.length=vs.length:=xis h
end
def pairsOf (st:Store):D->Option (List (List Int×D))
 | .ref n=>match st[n]? with
  | some (.dT kvs)=>some kvs
  | some (.fT kvs)=>some kvs
  | _=>none
 | _=>none
theorem zly {K:Fg}{ρ:Loc}{st:Store}{H:Hp}(rp:Rep K ρ st H){d:D}{u:V}{kvs:List (List Int×D)}(a:At K ρ H d u)(e:pairsOf st d=some kvs):∃p vs,u=.ref p/\Rd H p (.dT vs)/\KvAt K ρ H kvs vs:=by
 unfold pairsOf at e;split at e
 ·split at e
  ·rename_i h;cases e;obtain⟨p,rfl,hp,vs,q1,q2⟩:=zgl rp a h (by intro z;cases z);exact⟨p,vs,rfl,.inl q1,q2⟩
  ·rename_i h;cases e;obtain⟨p,rfl,hp,vs,ob,q1,q2⟩:=zgl rp a h (by intro z;cases z);exact⟨p,vs,rfl,.inr ⟨ob,q1⟩,q2⟩
  ·cases e
 ·cases e
def keyOf:D->Option (List Int)
 | .tup ds=>asInts ds
 | _=>none
theorem zyn {K:Fg}{ρ:Loc}{H:Hp}{d:D}{u:V}{k:List Int}(a:At K ρ H d u)(e:keyOf d=some k):∃p,u=.ref p/\H p=some (.tup ((k.map (Sum.inl:Int->Key)).map kV)):=by
 unfold keyOf at e;split at e
 ·cases a with
  | tup h1 h2 h3 =>
   have:=zdy h3 e;subst this;exact⟨_,rfl,by rw[zvs];exact h1⟩
 ·cases e
theorem zrk {K:Fg}{ρ:Loc}{st:Store}{H:Hp}(rp:Rep K ρ st H){d y:D}{u w:V}{kvs:List (List Int×D)}{k:List Int}(a:At K ρ H d u)(b:At K ρ H y w)(e:pairsOf st d=some kvs)(e2:keyOf y=some k) :
  ∃p o,u=.ref p/\DGet H p w o/\match valD kvs k with
   | some z=>∃v,o=some v/\At K ρ H z v
   | none=>o=none:=by
 obtain⟨p,vs,rfl,h1,h2⟩:=zly rp a e;obtain⟨q,rfl,h3⟩:=zyn b e2;refine⟨p,valV vs (k.map Sum.inl),rfl,.inr ⟨vs,_,q,h1,rfl,h3,rfl⟩,?_⟩;have:=h2.val k;cases hv:valD kvs k with
 | none=>rw[hv] at this;exact this
 | some z=>rw[hv] at this;exact this
def oDIn (neg:Bool) (y x:D) (st:Store):Res D:=match keyOf y,pairsOf st x with
 | some k,some kvs=>.ok (.bl (if neg then !(valD kvs k).isSome else(valD kvs k).isSome)) st
 | _,_=>.stuck
def oDGet (x y:D) (st:Store):Res D:=match pairsOf st x,keyOf y with
 | some kvs,some k=>match valD kvs k with
  | some v=>.ok v st
  | none=>.stuck
 | _,_=>.stuck
def eDGet2 (f g h:SE):SE:=fun σ st=>(f σ st).bind fun x st1=>match pairsOf st1 x with
 | some _=>(g σ st1).bind fun y st2=>(h σ st2).bind fun z st3=>match pairsOf st3 x,keyOf y with
  | some kvs,some k=>.ok ((valD kvs k).getD z) st3
  | _,_=>.stuck
 | none=>.stuck
def eDPop (f g:SE):SE:=fun σ st=>(f σ st).bind fun x st1=>match pairsOf st1 x with
 | some _=>(g σ st1).bind fun y st2=>match x,keyOf y with
  | .ref n,some k=>match st2[n]? with
   | some (.dT kvs)=>match valD kvs k with
    | some v=>.ok v (st2.set n (.dT (dropD kvs k)))
    | none=>.stuck
   | _=>.stuck
  | _,_=>.stuck
 | none=>.stuck
def sDPut (f g h:SE):SS:=fun σ st=>(h σ st).bind fun v st1=>(f σ st1).bind fun x st2=>(g σ st2).bind fun y st3=>match x,keyOf y with
 | .ref n,some k=>match st3[n]? with
  | some (.dT kvs)=>if kvs.length < sizeLine then .ok (.nx σ) (st3.set n (.dT (putD kvs k v))) else .stuck
  | _=>.stuck
 | _,_=>.stuck
def eDNew:SE:=fun _ st=>.ok (.ref st.length) (st++[.dT []])
section
variable {X:Cx}{a b c o i e value f':Expr}{f g h:SE}{pos pos' apos cpos:Pos}
theorem zbdh {K:Fg}{ρ:Loc}{st:Store}{H:Hp}(rp:Rep K ρ st H){d:D}{u:V}{kvs:List (List Int×D)}(a:At K ρ H d u)(e:pairsOf st d=some kvs):∃p,u=.ref p/\IsD H p:=by
 obtain⟨p,vs,rfl,h1,_⟩:=zly rp a e;exact⟨p,rfl,.inr ⟨vs,h1⟩⟩
theorem zbkc:DE X (.Dict [] [] pos) eDNew:=zfp zxs fun τ H Q hq0 p hp=>by
 obtain⟨ρ,σ,st,v,st',a,rp,e,q⟩:=hq0;cases e;obtain⟨E,R⟩:=rp.alloc hp (x:=.dT []) (o:=.dT []) fun E=>⟨[],zm,.nil⟩
 exact q _ _ _ E R (.last rp.len.symm)
theorem zbmp (hu:X.A.units+1 < cLine)(hi:DE X i g)(ho:DE X o f):PC X .In i o (tD X.K (aW (oDIn false) g f)):=fun aY s σ H Q I hq=>by
 refine zbhv hu hi ho aY s σ H Q I ?_;obtain⟨ρ,σ',st,v,st',a,rp,e,q⟩:=hq;obtain⟨x,st1,e1,e⟩:=zc e;obtain⟨y,st2,e2,e⟩:=zc e;refine⟨ρ,σ',st,x,st1,a,rp,e1,fun ρ1 H1 u x1 rp1 a1=>?_⟩;refine⟨ρ1,σ',st1,y,st2,a.ext x1,rp1,e2,fun ρ2 H2 w x2 rp2 a2=>?_⟩;unfold oDIn at e;split at e
 ·rename_i kk vv h1 h2;cases e;obtain⟨p,oo,rfl,g1,g2⟩:=zrk rp2 a2 (a1.ext x2) h2 h1;refine⟨p,oo,rfl,g1,?_⟩;have:oo.isSome=(valD vv kk).isSome:=by
   revert g2;split
   ·rename_i hv;rintro⟨v,rfl,_⟩;rw[hv];rfl
   ·rename_i hv;rintro rfl;rw[hv];rfl
  rw[this];exact q _ _ _ (x1.trans x2) rp2 (.bl _)
 ·cases e
theorem zbnk {op:CmpOp}{t:SE}(h:PC X op a b (tD X.K t))(h1:behindInMarks op b=false:=by first | exact nobehind _ (by decide) (by decide) | rfl):DT X (.Compare a [op] [b] pos) (eB t):=zbbc (zbhc h h1) fun τ H Q hh=>eB_t _ _ _ hh
theorem zbkd (hu:X.A.units+1 < cLine)(ho:DE X o f)(hi:DE X i g)(hs:NoSl i):DE X (.Subscript o i pos) (aW oDGet f g):=zfp (zbbw hu ho hi hs) fun τ H Q hq0=>by
 obtain⟨ρ,σ,st,v,st',a,rp,e,q⟩:=hq0;obtain⟨x,st1,e1,e⟩:=zc e;obtain⟨y,st2,e2,e⟩:=zc e;refine⟨ρ,σ,st,x,st1,a,rp,e1,fun ρ1 H1 u x1 rp1 a1=>?_⟩;refine⟨ρ1,σ,st1,y,st2,a.ext x1,rp1,e2,fun ρ2 H2 w x2 rp2 a2=>?_⟩;unfold oDGet at e;split at e
 ·rename_i h1 h2;split at e
  ·rename_i z hv;cases e;obtain⟨p,oo,rfl,g1,g2⟩:=zrk rp2 (a1.ext x2) a2 h1 h2;rw[hv] at g2;obtain⟨vv,rfl,g3⟩:=g2;exact⟨p,vv,rfl,g1,q _ _ _ (x1.trans x2) rp2 g3⟩
  ·cases e
 ·cases e
theorem zbet (hu:X.A.units + 1 < cLine)(ho:DE X o f)(he:DE X e g)(hf:DE X f' h)(m:M2 X o "get" apos e f' cpos):DE X (.Call (.Attribute o "get" apos) [e, f'] [] cpos) (eDGet2 f g h):=zfp (zxt hu ho he hf m) fun τ H Q hq0=>by
 obtain⟨ρ,σ,st,v,st',a,rp,e,q⟩:=hq0;obtain⟨x,st1,e1,e⟩:=zc e;refine⟨ρ,σ,st,x,st1,a,rp,e1,fun ρ1 H1 u x1 rp1 a1=>?_⟩;split at e
 ·rename_i h0;obtain⟨p,rfl,hd⟩:=zbdh rp1 a1 h0;obtain⟨y,st2,e2,e⟩:=zc e;obtain⟨z,st3,e3,e⟩:=zc e;refine⟨p,rfl,hd,?_⟩;refine⟨ρ1,σ,st1,y,st2,a.ext x1,rp1,e2,fun ρ2 H2 w x2 rp2 a2=>?_⟩;refine⟨ρ2,σ,st2,z,st3,a.ext (x1.trans x2),rp2,e3,fun ρ3 H3 t x3 rp3 a3=>?_⟩;split at e
  ·rename_i h1 h2;cases e;obtain⟨p',oo,ep,g1,g2⟩:=zrk rp3 (a1.ext (x2.trans x3)) (a2.ext x3) h1 h2;cases ep;refine⟨oo,g1,q _ _ _ (x1.trans (x2.trans x3)) rp3 ?_⟩;revert g2;split
   ·rename_i hv;rintro⟨vv,rfl,g3⟩;rw[hv];exact g3
   ·rename_i hv;rintro rfl;rw[hv];exact a3
  ·cases e
 ·cases e
theorem zbkb (hu:X.A.units + 1 < cLine)(ho:DE X o f)(he:DE X e g)(m:M1 X o "pop" apos e cpos):DE X (.Call (.Attribute o "pop" apos) [e] [] cpos) (eDPop f g):=zfp (zxr hu ho he m) fun τ H Q hq0=>by
 obtain⟨ρ,σ,st,v,st',a,rp,e,q⟩:=hq0;obtain⟨x,st1,e1,e⟩:=zc e;refine⟨ρ,σ,st,x,st1,a,rp,e1,fun ρ1 H1 u x1 rp1 a1=>?_⟩;split at e
 ·rename_i h0;obtain⟨p,rfl,hd⟩:=zbdh rp1 a1 h0;obtain⟨y,st2,e2,e⟩:=zc e;refine⟨p,rfl,hd,?_⟩;refine⟨ρ1,σ,st1,y,st2,a.ext x1,rp1,e2,fun ρ2 H2 w x2 rp2 a2=>?_⟩;split at e
  ·rename_i n k hk _;split at e
   ·rename_i kvs hn;split at e
    ·rename_i z hv;cases e;obtain⟨p',ep,hp,vs,g1,g2⟩:=zgl rp2 (a1.ext x2) hn (by intro z;cases z);cases ep;obtain⟨b,rfl,g3⟩:=zyn a2 hk;have g4:=g2.val k;rw[hv] at g4;obtain⟨vv,g5,g6⟩:=g4;have E:Ext ρ2 H2 ρ2 (upd H2 p (.dT (dropK vs (k.map Sum.inl)))):=Ext.wr hp (zja g1) _;exact⟨vs,_,vv,b,g1,rfl,g3,g5,q _ _ _ ((x1.trans x2).trans E) (rp2.wr hp (zja g1) ⟨_,zm,(g2.drop k).ext E⟩) (g6.ext E)⟩
    ·cases e
   ·cases e
  ·cases e
 ·cases e
theorem zbdy (hu:X.A.units+1 < cLine)(ho:DE X o f)(hi:DE X i g)(hv:DE X value h)(hs:swapsWith value (some (.Subscript o i pos')) pos.line X.env=pure false) :
  DSt X (.Assign [.Subscript o i pos'] value pos) (sDPut f g h):=zne (zbbj hu ho hi hv hs) fun E τ H hq0=>by
 obtain⟨ρ,σ,st,fl,st',a,rp,e,q⟩:=hq0;obtain⟨v,st1,e1,e⟩:=zc e;obtain⟨x,st2,e2,e⟩:=zc e;obtain⟨y,st3,e3,e⟩:=zc e;refine⟨ρ,σ,st,v,st1,a,rp,e1,fun ρ1 H1 u x1 rp1 a1=>?_⟩;refine⟨ρ1,σ,st1,x,st2,a.ext x1,rp1,e2,fun ρ2 H2 w x2 rp2 a2=>?_⟩;refine⟨ρ2,σ,st2,y,st3,a.ext (x1.trans x2),rp2,e3,fun ρ3 H3 t x3 rp3 a3=>?_⟩;split at e
 ·rename_i n k hk _;split at e
  ·rename_i kvs hn;split at e
   ·rename_i hl;cases e;obtain⟨p,rfl,hp,vs,g1,g2⟩:=zgl rp3 (a2.ext x3) hn (by intro z;cases z);obtain⟨b,rfl,g3⟩:=zyn a3 hk;have E:Ext ρ3 H3 ρ3 (upd H3 p (.dT (putK vs (k.map Sum.inl) u))):=Ext.wr hp (zja g1) _;refine⟨p,_,rfl,DPut.t g1 g3 (by rw[← g2.length];exact hl),?_⟩;exact q _ _ _ ((x1.trans (x2.trans x3)).trans E) (rp3.wr hp (zja g1) ⟨_,zm,(g2.put k (a1.ext (x2.trans x3))).ext E⟩) (a.ext ((x1.trans (x2.trans x3)).trans E))
   ·cases e
  ·cases e
 ·cases e
end
def bSorted:List D->Store->Res D:=fun xs st=>match xs with
 | [x]=>match (asL st x).bind asRows with
  | some l=>if l.length<=1000000 then .ok (.lst (aJ (sortR l))) st else .stuck
  | none=>match pairsOf st x with
   | some kvs=>if kvs.length<=1000000 then .ok (.lst (aJ (sortR (kvs.map (·.1))))) st else .stuck
   | none=>.stuck
 | _=>.stuck
theorem zom {K:Fg}:CaD K bSorted (fun xs H Q=>rSortedAL K xs H Q\/rSortedDAL xs H Q):=fun ρ H st xs us z st' Q rp aa e q=>by
 unfold bSorted at e;split at e
 ·obtain⟨u,rfl,a⟩:=aa.one;split at e
  ·rename_i l hl;obtain⟨ys,h0,hl⟩:=xef.mp hl;split at e
   ·rename_i few;cases e;obtain⟨p,vs,rfl,h1,h2⟩:=zfn rp a h0;obtain⟨ps,rfl,rfl,h3⟩:=zoo h2 hl;rw[xbd] at few;refine .inl ⟨p,ps,rfl,SqL.of h1,few,fun x hx=>SqT.of (h3 x hx).1,fun t qs ht hp hs=>?_⟩;have e2:qs.map (·.2)=sortR (ps.map (·.2)):=zlr (hp.map _) hs;refine q _ _ _ (Ext.new ht _) (rp.new ht _) (.newL rp ht ?_);rw[← e2];exact zlu qs fun x hx=>h3 x (hp.mem_iff.mp hx)
   ·cases e
  ·split at e
   ·rename_i kvs hk;split at e
    ·rename_i few;cases e;obtain⟨p,vs,rfl,h1,h2⟩:=zly rp a hk;refine .inr ⟨p,vs,kvs.map (·.1),rfl,h1,h2.keys,by rw[xbd];exact few,fun t qs ht hp hs hq=>?_⟩;have e2:qs.map (·.2)=sortR (kvs.map (·.1)):=zlr hp hs;refine q _ _ _ (Ext.new ht _) (rp.new ht _) (.newL rp ht ?_);rw[← e2];exact zlu qs fun x hx=>⟨hq x hx,znm rp (hq x hx)⟩
    ·cases e
   ·cases e
 ·cases e
theorem zif {X:Cx}(hc:X.calm=true)(hu:X.A.units + 64 < cLine):CallR X (.builtin "sorted") (fun xs H Q=>rSortedAL X.K xs H Q\/rSortedDAL xs H Q):=(zld hu).or (zkb hc hu)
def eAppend (f:SE) (g:SA):SE:=fun σ st=>(f σ st).bind fun x st1=>match x,asL st1 x with
 | .ref n,some _=>(g σ st1).bind fun ys st2=>match ys,st2[n]? with
  | [y],some (.lst xs)=>if xs.length < sizeLine then .ok .non (st2.set n (.lst (xs++[y]))) else .stuck
  | _,_=>.stuck
 | _,_=>.stuck
def eExtend (f:SE) (g:SA):SE:=fun σ st=>(f σ st).bind fun x st1=>match x,asL st1 x with
 | .ref n,some _=>(g σ st1).bind fun ys st2=>match ys,st2[n]? with
  | [y],some (.lst xs)=>match asL st2 y with
   | some zs=>if xs.length+zs.length<=sizeLine then .ok .non (st2.set n (.lst (xs++zs))) else .stuck
   | none=>.stuck
  | _,_=>.stuck
 | _,_=>.stuck
def ePop (f:SE):SE:=fun σ st=>(f σ st).bind fun x st1=>match x with
 | .ref n=>match st1[n]? with
  | some (.lst xs)=>match xs[xs.length - 1]? with
   | some y=>.ok y (st1.set n (.lst xs.dropLast))
   | none=>.stuck
  | _=>.stuck
 | _=>.stuck
theorem AtAll.dropLast {K:Fg}{ρ:Loc}{H:Hp}:∀{ds:List D} {vs:List V},AtAll K ρ H ds vs->AtAll K ρ H ds.dropLast vs.dropLast
 | _,_,.nil=>.nil
 | _,_,.cons a .nil=>.nil
 | _,_,.cons a (.cons b t)=>.cons a (AtAll.dropLast (.cons b t))
section
variable {X:Cx}{o e i value:Expr}{es:List Expr}{f g h:SE}{ga:SA}{pos apos cpos:Pos}
theorem zzj (ho:DE X o f)(ha:DA X (e::es) ga)(hbase:attributeBase o "append" X.env (eval o X.env)=eval o X.env:=by rfl)
  (hfew:((backTo cpos (starEach (e::es) X.env)).all (fun x=>!x.1)&&(backToKw cpos (keywordEach [] X.env)).all (fun x=>x.1.isSome)
   && decide ((e::es).length+([]:List Keyword).length+(if([]:List Keyword).isEmpty then 0 else 1) < 30))=true:=by rfl)
  (hline:(apos.endLine==cpos.line)=true:=by rfl)(hs:starEach (e::es) X.env=(false,eval e X.env)::starEach es X.env:=by rfl)(hplain:(backTo cpos (starEach es X.env)).any (·.1)=false:=by rfl) :
  DE X (.Call (.Attribute o "append" apos) (e::es) [] cpos) (eAppend f ga):=zfp (zbbz xfk F.slot_list_append F.type_list_append znn ho ha hbase hfew hline hs hplain) fun τ H Q hq0=>by
 obtain⟨ρ,σ,st,v,st',a,rp,e,q⟩:=hq0;obtain⟨x,st1,e1,e⟩:=zc e;refine⟨ρ,σ,st,x,st1,a,rp,e1,fun ρ1 H1 u x1 rp1 a1=>?_⟩;split at e
 ·rename_i n _ hL;obtain⟨ys,st2,e2,e⟩:=zc e;obtain⟨p,vs,rfl,g1,g2⟩:=zfn rp1 a1 hL;refine⟨.inl ⟨rfl,_,SqL.of g1⟩,ρ1,σ,st1,ys,st2,a.ext x1,rp1,e2,fun ρ2 H2 ws x2 rp2 a2=>?_⟩;split at e
  ·rename_i y xs hn;split at e
   ·rename_i hl;cases e;obtain⟨w,rfl,a3⟩:=a2.one;obtain⟨p',ep,hp,vs2,k1,k2⟩:=zgl rp2 (a1.ext x2) hn (by intro z;cases z);cases ep;have E:Ext ρ2 H2 ρ2 (upd H2 p (.lst (vs2++[w]))):=Ext.wr hp (zdi k1) _;exact⟨p,vs2,w,rfl,rfl,k1,by rw[k2.length];exact hl,q _ _ _ ((x1.trans x2).trans E) (rp2.wr hp (zdi k1) ⟨_,zm,(k2.append (.cons a3 .nil)).ext E⟩) .non⟩
   ·cases e
  ·cases e
 ·cases e
theorem zze (ho:DE X o f)(ha:DA X (e::es) ga)(hbase:attributeBase o "extend" X.env (eval o X.env)=eval o X.env:=by rfl)
  (hfew:((backTo cpos (starEach (e::es) X.env)).all (fun x=>!x.1)&&(backToKw cpos (keywordEach [] X.env)).all (fun x=>x.1.isSome)
   && decide ((e::es).length+([]:List Keyword).length+(if([]:List Keyword).isEmpty then 0 else 1) < 30))=true:=by rfl)
  (hline:(apos.endLine==cpos.line)=true:=by rfl)(hs:starEach (e::es) X.env=(false,eval e X.env)::starEach es X.env:=by rfl)(hplain:(backTo cpos (starEach es X.env)).any (·.1)=false:=by rfl) :
  DE X (.Call (.Attribute o "extend" apos) (e::es) [] cpos) (eExtend f ga):=zfp (zbbz xfk F.slot_list_extend F.type_list_extend ztt ho ha hbase hfew hline hs hplain) fun τ H Q hq0=>by
 obtain⟨ρ,σ,st,v,st',a,rp,e,q⟩:=hq0;obtain⟨x,st1,e1,e⟩:=zc e;refine⟨ρ,σ,st,x,st1,a,rp,e1,fun ρ1 H1 u x1 rp1 a1=>?_⟩;split at e
 ·rename_i n _ hL;obtain⟨ys,st2,e2,e⟩:=zc e;obtain⟨p,vs,rfl,g1,g2⟩:=zfn rp1 a1 hL;refine⟨.inl ⟨rfl,_,SqL.of g1⟩,ρ1,σ,st1,ys,st2,a.ext x1,rp1,e2,fun ρ2 H2 ws x2 rp2 a2=>?_⟩;split at e
  ·rename_i y xs hn;split at e
   ·rename_i zs hz;split at e
    ·rename_i hl;cases e;obtain⟨w,rfl,a3⟩:=a2.one;obtain⟨p',ep,hp,vs2,k1,k2⟩:=zgl rp2 (a1.ext x2) hn (by intro z;cases z);cases ep;obtain⟨b,ws2,rfl,m1,m2⟩:=zfn rp2 a3 hz;have E:Ext ρ2 H2 ρ2 (upd H2 p (.lst (vs2++ws2))):=Ext.wr hp (zdi k1) _;exact⟨p,b,vs2,ws2,rfl,rfl,k1,m1,by rw[k2.length,m2.length];exact hl,q _ _ _ ((x1.trans x2).trans E) (rp2.wr hp (zdi k1) ⟨_,zm,(k2.append m2).ext E⟩) .non⟩
    ·cases e
   ·cases e
  ·cases e
 ·cases e
theorem zbnq (ho:DE X o f)(hbase:attributeBase o "pop" X.env (eval o X.env)=eval o X.env:=by rfl)(hline:(apos.endLine==cpos.line)=true:=by rfl):DE X (.Call (.Attribute o "pop" apos) [] [] cpos) (ePop f) :=
 zfp (zbht xfk F.slot_list_pop F.type_list_pop zbid ho hbase hline) fun τ H Q hq0=>by
 obtain⟨ρ,σ,st,v,st',a,rp,e,q⟩:=hq0;obtain⟨x,st1,e1,e⟩:=zc e;refine⟨ρ,σ,st,x,st1,a,rp,e1,fun ρ1 H1 u x1 rp1 a1=>?_⟩;split at e
 ·split at e
  ·rename_i n _ xs hn;split at e
   ·rename_i y hy;cases e;obtain⟨p,rfl,hp,vs2,k1,k2⟩:=zgl rp1 a1 hn (by intro z;cases z);obtain⟨w,hw,a3⟩:=k2.get hy;have E:Ext ρ1 H1 ρ1 (upd H1 p (.lst vs2.dropLast)):=Ext.wr hp (zdi k1) _;exact⟨.inl ⟨rfl,_,SqL.of k1⟩,p,vs2,w,rfl,rfl,k1,by rw[k2.length];exact hw,q _ _ _ (x1.trans E) (rp1.wr hp (zdi k1) ⟨_,zm,k2.dropLast.ext E⟩) (a3.ext E)⟩
   ·cases e
  ·cases e
 ·cases e
def eFz (f:SE):SE:=fun σ st=>(f σ st).bind fun x st1=>match x with
 | .ref n=>match st1[n]? with
  | some (.lst xs)=>.ok (.lst xs) (st1.set n .dead)
  | _=>.stuck
 | _=>.stuck
theorem d_fz (ho:DE X o f):DE X o (eFz f):=zfp ho fun τ H Q hq0=>by
 obtain⟨ρ,σ,st,v,st',a,rp,e,q⟩:=hq0;obtain⟨x,st1,e1,e⟩:=zc e;refine⟨ρ,σ,st,x,st1,a,rp,e1,fun ρ1 H1 u x1 rp1 a1=>?_⟩;split at e
 ·rename_i n;split at e
  ·rename_i xs hn;cases e;obtain⟨p,rfl,hp,vs2,k1,k2⟩:=zgl rp1 a1 hn (by intro z;cases z);have hlen:=(xbo.mp hp).1;obtain⟨E,R⟩:=rp1.kill hlen;refine q _ _ _ (x1.trans E) R (.lst k1 ⟨fun z=>?_,fun z=>(rp1.gh p z).2 (xch hp)⟩ (k2.ext E));obtain⟨i,hi,e2⟩:=xea z;have e3:(ρ1.m.set n none)[i]?=some (some p):=by rw[xbg hi,e2]
   by_cases hin:i=n
   ·subst hin;rw[xds hlen] at e3;simp at e3
   ·rw[xcf (xct hin)] at e3;exact hin (rp1.inj i n p e3 hp)
  ·cases e
 ·cases e
end
def sNx:SS:=fun σ st=>.ok (.nx σ) st
def sBrk:SS:=fun σ st=>.ok (.brk σ) st
def sCt:SS:=fun σ st=>.ok (.ct σ) st
def sRet (f:SE):SS:=fun σ st=>(f σ st).bind fun v st1=>.ok (.ret v) st1
def sRetN:SS:=fun _ st=>.ok (.ret .non) st
def sDrop (f:SE):SS:=fun σ st=>(f σ st).bind fun _ st1=>.ok (.nx σ) st1
def aF (i:Nat) (f:SE):SS:=fun σ st=>(f σ st).bind fun v st1=>.ok (.nx (σ.set i (some v))) st1
def aD (s t:SS):SS:=fun σ st=>match s σ st with
 | .ok (.nx σ1) st1=>t σ1 st1
 | r=>r
def sIf (c:ST) (s t:SS):SS:=fun σ st=>(c σ st).bind fun b st1=>if b=true then s σ st1 else t σ st1
def sAug (i:Nat) (g:D->D->Store->Res D) (f:SE):SS:=fun σ st=>match σ[i]? with
 | some (some x)=>(f σ st).bind fun y st1=>(g x y st1).bind fun z st2=>.ok (.nx (σ.set i (some z))) st2
 | _=>.stuck
def sSetIx (f g h:SE):SS:=fun σ st=>(h σ st).bind fun v st1=>(f σ st1).bind fun x st2=>(g σ st2).bind fun y st3=>match x,y with
 | .ref n,.int k=>match st3[n]? with
  | some (.lst xs)=>match ixN xs.length k with
   | some j=>.ok (.nx σ) (st3.set n (.lst (xs.set j v)))
   | none=>.stuck
  | _=>.stuck
 | _,_=>.stuck
section
variable {X:Cx}{e c o i value:Expr}{sm:Stmt}{rest:List Stmt}{f g h:SE}{s t:SS}{b:ST}{pos pos':Pos}
theorem zbjm:DSs X [] sNx:=zqf zbbf fun E τ H hq0=>by
 obtain⟨ρ,σ,st,fl,st',a,rp,e,q⟩:=hq0;cases e;exact q _ _ _ (.refl _ _) rp a
theorem zbjk (he:DE X e f):DSt X (.Return (some e) pos) (sRet f):=zne (zbhf he) fun E τ H hq0=>by
 obtain⟨ρ,σ,st,fl,st',a,rp,e,q⟩:=hq0;obtain⟨x,st1,e1,e⟩:=zc e;cases e;exact⟨ρ,σ,st,x,_,a,rp,e1,fun ρ1 H1 u x1 rp1 a1=>q _ _ _ x1 rp1 a1⟩
theorem zbdx (he:DE X e f)(hs:swapsWith e none pos.line X.env=pure false:=by rfl):DSt X (.Expr e pos) (sDrop f):=zne (zvn he hs) fun E τ H hq0=>by
 obtain⟨ρ,σ,st,fl,st',a,rp,e,q⟩:=hq0;obtain⟨x,st1,e1,e⟩:=zc e;cases e;exact⟨ρ,σ,st,x,_,a,rp,e1,fun ρ1 H1 u x1 rp1 a1=>q _ _ _ x1 rp1 (a.ext x1)⟩
theorem zbme {K:Fg}{i:Nat}{f:SE}:∀E τ H,tDS K (aF i f) E τ H->tAsg (tD K f) (gName i) E τ H:=fun E τ H hq0=>by
 obtain⟨ρ,σ,st,fl,st',a,rp,e,q⟩:=hq0;obtain⟨x,st1,e1,e⟩:=zc e;cases e;exact⟨ρ,σ,st,x,_,a,rp,e1,fun ρ1 H1 u x1 rp1 a1=>q _ _ _ x1 rp1 ((a.ext x1).set a1 i)⟩
theorem zbjj {i:Nat}{x:Str}(hN:X.N.Nodup)(hi:X.N[i]?=some x)(hx:L2.Loc X.env.scope x)(he:DE X e f)(hs:swapsWith e (some (.Name x pos')) pos.line X.env=pure false:=by rfl)(hf:X.fn x=true\/X.env.scope.names.lookup x=some .local:=by first | exact .inl rfl | exact .inr rfl | assumption) :
 DSt X (.Assign [.Name x pos'] e pos) (aF i f):=zne (zbhe hN hi hx he hs hf) zbme
theorem zbjl (h1:DSt X sm s):DSs X [sm] s:=zqg h1
theorem zbdz (h1:DSt X sm s)(h2:DSs X rest t):DSs X (sm::rest) (aD s t):=zqf (zlw h1 h2) fun E τ H hq0=>by
 obtain⟨ρ,σ,st,fl,st',a,rp,e,q⟩:=hq0;unfold aD at e;split at e
 ·rename_i σ1 st1 e1;exact⟨ρ,σ,st,_,st1,a,rp,e1,fun ρ1 H1 τ1 x1 rp1 a1=>⟨ρ1,σ1,st1,fl,st',a1,rp1,e,q.ext x1⟩⟩
 ·rename_i hne;refine⟨ρ,σ,st,fl,st',a,rp,e,?_⟩;cases fl with
  | nx σ'=>exact absurd e (hne σ' st')
  | brk σ'=>exact q
  | ct σ'=>exact q
  | ret v=>exact q
theorem zbnl {a' b':List Stmt}(hc:DT X c b)(ha:DSs X a' s)(hb:DSs X b' t):DSt X (.If c a' b' pos) (sIf b s t):=zne (zbll hc ha hb) fun E τ H hq0=>by
 obtain⟨ρ,σ,st,fl,st',a,rp,e,q⟩:=hq0;obtain⟨x,st1,e1,e⟩:=zc e;refine⟨ρ,σ,st,x,st1,a,rp,e1,fun ρ1 H1 x1 rp1=>?_⟩;cases x with
 | true=>exact iteT ⟨ρ1,σ,st1,fl,st',a.ext x1,rp1,e,q.ext x1⟩
 | false=>exact iteF ⟨ρ1,σ,st1,fl,st',a.ext x1,rp1,e,q.ext x1⟩
def IpD (K:Fg) (g:D->D->Store->Res D) (r:TIp):Prop :=
 ∀ρ H st x y u v z st' (Q:VK),Rep K ρ st H->At K ρ H x u->At K ρ H y v->g x y st=.ok z st'->(∀ρ' H' w,Ext ρ H ρ' H'->Rep K ρ' st' H'->At K ρ' H' z w->Q w H')->r u v H Q
theorem zbjo {i:Nat}{x:Str}{op:Operator}{ti:TIp}{g:D->D->Store->Res D}(hN:X.N.Nodup)(hi:X.N[i]?=some x)(hx:L2.Loc X.env.scope x)(he:DE X e f)(ho:PIp X op ti)(hr:IpD X.K g ti)(hf:X.fn x=true\/X.env.scope.names.lookup x=some .local:=by first | exact .inl rfl | exact .inr rfl | assumption) :
  DSt X (.AugAssign (.Name x pos') op e pos) (sAug i g f):=zne (zbhg hN hi hx he ho hf) fun E τ H hq0=>by
 obtain⟨ρ,σ,st,fl,st',a,rp,e,q⟩:=hq0;unfold sAug at e;split at e
 ·rename_i d hd;obtain⟨y,st1,e1,e⟩:=zc e;obtain⟨z,st2,e2,e⟩:=zc e;cases e;obtain⟨u,hu,a0⟩:=a.get hd;refine⟨u,hu,ρ,σ,st,y,st1,a,rp,e1,fun ρ1 H1 w x1 rp1 a1=>?_⟩;exact hr ρ1 H1 st1 d y u w z st' _ rp1 (a0.ext x1) a1 e2 fun ρ2 H2 zz x2 rp2 a2=>q _ _ _ (x1.trans x2) rp2 ((a.ext (x1.trans x2)).set a2 i)
 ·cases e
theorem ip_D {K:Fg}{p:Int->Int->Int}:IpD K (oI (fun _ _=>True) fun i j=>.int (p i j)) (ipI p):=fun ρ H st x y u v z st' Q rp a b e q=>by
 unfold oI at e;split at e
 ·cases a;cases b;rw[if_pos True.intro] at e;cases e;exact⟨_,_,rfl,rfl,q _ _ _ (.refl _ _) rp (.int _)⟩
 ·cases e
theorem zyz (he:DE X value h)(ho:DE X o f)(hi:DE X i g)(ha:∀v,assign (.Subscript o i pos') X.env v=(do
   let ov ← holding [v] (eval o X.env)
   let iv ← holding [v,ov] (eval i X.env)
   standAt pos'
   holding [v,ov,iv] (setItem ov iv v)
   release [v,ov,iv] []):=by intro _;rfl)
  (hs:swapsWithSole [.Subscript o i pos'] value pos.line X.env=pure false:=by rfl)(hw:swappedStores [.Subscript o i pos'] value X.env=pure none:=by rfl)
  (h1:(assignEach [.Subscript o i pos'] X.env).map (·.2)=[assign (.Subscript o i pos') X.env]:=by rfl):DSt X (.Assign [.Subscript o i pos'] value pos) (sSetIx f g h) :=
 zne (zbhh he (zbhm ho hi zwv ha) hs hw h1) fun E τ H hq0=>by
 obtain⟨ρ,σ,st,fl,st',a,rp,e,q⟩:=hq0;obtain⟨v,st1,e1,e⟩:=zc e;obtain⟨x,st2,e2,e⟩:=zc e;obtain⟨y,st3,e3,e⟩:=zc e;refine⟨ρ,σ,st,v,st1,a,rp,e1,fun ρ1 H1 u x1 rp1 a1=>?_⟩;refine⟨ρ1,σ,st1,x,st2,a.ext x1,rp1,e2,fun ρ2 H2 w x2 rp2 a2=>?_⟩;refine⟨ρ2,σ,st2,y,st3,a.ext (x1.trans x2),rp2,e3,fun ρ3 H3 t x3 rp3 a3=>?_⟩;split at e
 ·rename_i n k _;split at e
  ·rename_i xs hn;split at e
   ·rename_i j hj;cases e;cases a3;obtain⟨p,rfl,hp,vs,g1,g2⟩:=zgl rp3 (a2.ext x3) hn (by intro z;cases z);have E:Ext ρ3 H3 ρ3 (upd H3 p (.lst (vs.set j u))):=Ext.wr hp (zdi g1) _;refine⟨p,vs,k,j,rfl,rfl,g1,by rw[g2.length];exact hj,?_⟩;exact q _ _ _ ((x1.trans (x2.trans x3)).trans E) (rp3.wr hp (zdi g1) ⟨_,zm,(g2.set (a1.ext (x2.trans x3)) j).ext E⟩) (a.ext ((x1.trans (x2.trans x3)).trans E))
   ·cases e
  ·cases e
 ·cases e
end
abbrev SG:=D->DS->Option DS
def gN (i:Nat):SG:=fun d σ=>some (σ.set i (some d))
def gsNil:List D->DS->Option DS:=fun ds σ=>match ds with
 | []=>some σ
 | _=>none
def gsCons (t:SG) (u:List D->DS->Option DS):List D->DS->Option DS:=fun ds σ=>match ds with
 | d::r=>(t d σ).bind fun σ1=>u r σ1
 | _=>none
def gT (n:Nat) (u:List D->DS->Option DS):SG:=fun d σ=>match d with
 | .tup ds=>if ds.length=n then u ds σ else none
 | _=>none
def gD (K:Fg) (b:SG):TG:=fun v τ H Q=>∃ρ σ d σ',AtS K ρ H σ τ/\At K ρ H d v/\b d σ=some σ'/\∀τ',AtS K ρ H σ' τ'->Q τ' H
def gDs (K:Fg) (b:List D->DS->Option DS):TGs:=fun vs τ H Q=>∃ρ σ ds σ',AtS K ρ H σ τ/\AtAll K ρ H ds vs/\b ds σ=some σ'/\∀τ',AtS K ρ H σ' τ'->Q τ' H
abbrev DG (X:Cx) (tg:Expr) (b:SG):Prop:=PG X tg (gD X.K b)
abbrev DGs (X:Cx) (ts:List Expr) (b:List D->DS->Option DS):Prop:=PGs X ts (gDs X.K b)
section
variable {X:Cx}{pos:Pos}{e:Expr}{es:List Expr}{t:SG}{u:List D->DS->Option DS}
theorem zbln {g g':TG}(h:PG X e g)(k:∀v τ H Q,g' v τ H Q->g v τ H Q):PG X e g':=fun aY s σ H v u Q I r q=>h aY s σ H v u Q I r (k _ _ _ _ q)
theorem zbbr {g g':TGs}(h:PGs X es g)(k:∀v τ H Q,g' v τ H Q->g v τ H Q):PGs X es g':=fun aY s σ H v u Q I r q=>h aY s σ H v u Q I r (k _ _ _ _ q)
theorem zbei {i:Nat}{x:Str}(hN:X.N.Nodup)(hi:X.N[i]?=some x)(hx:L2.Loc X.env.scope x)(hf:X.fn x=true\/X.env.scope.names.lookup x=some .local:=by first | exact .inl rfl | exact .inr rfl | assumption):DG X (.Name x pos) (gN i) :=
 zbln (zbbt hN hi hx hf) fun v τ H Q hq0=>by
 obtain⟨ρ,σ,d,σ',a,b,e,q⟩:=hq0;cases e;exact q _ (a.set b i)
theorem zbeh:DGs X [] gsNil:=zbbr zbbs fun v τ H Q hq0=>by
 obtain⟨ρ,σ,d,σ',a,b,e,q⟩:=hq0;unfold gsNil at e;split at e
 ·cases e;cases b;exact⟨rfl,q _ a⟩
 ·cases e
theorem zzc (h1:DG X e t)(h2:DGs X es u)(hs:(assignEach (e::es) X.env).map (·.2)=assign e X.env::(assignEach es X.env).map (·.2):=by rfl):DGs X (e::es) (gsCons t u) :=
 zbbr (zxo h1 h2 hs) fun v τ H Q hq0=>by
 obtain⟨ρ,σ,d,σ',a,b,e,q⟩:=hq0;unfold gsCons at e;split at e
 ·obtain⟨σ1,e1,e2⟩:=xef.mp e;cases b with
  | cons b1 b2=>exact⟨_,_,rfl,ρ,σ,_,σ1,a,b1,e1,fun τ1 a1=>⟨ρ,σ1,_,σ',a1,b2,e2,q⟩⟩
 ·cases e
theorem zbju {k:Nat}{n:Nat}(hc:X.calm=true)(h:DGs X es u)(hn:(assignEach es X.env).length=n:=by rfl)(hst:(assignEach es X.env).findIdx? (·.1)=none:=by rfl):DG X (.Tuple es k pos) (gT n u) :=
 zbln (zbhl hc h hn hst) fun v τ H Q hq0=>by
 obtain⟨ρ,σ,d,σ',a,b,e,q⟩:=hq0;unfold gT at e;split at e
 ·split at e
  ·rename_i hl;cases b with
   | tup h1 h2 h3=>exact⟨_,_,rfl,SqT.of h1,by rw[h3.length];exact hl,ρ,σ,_,σ',a,h3,e,q⟩
  ·cases e
 ·cases e
end
structure ExtG (ρ:Loc) (H:Hp) (ρ':Loc) (H':Hp):Prop where
 len:ρ.m.length<=ρ'.m.length
 old:∀(n:Nat) (a:Addr),n < ρ.m.length->ρ'.m[n]?=some (some a)->ρ.m[n]?=some (some a)
 keep:∀a o,H a=some o->some a∉ρ.m->H' a=some o/\some a∉ρ'.m
 gho:∀a∈ρ'.g,a∈ρ.g\/H a=none
 frz:∀a ob u,H a=some (.frz ob u)->H' a=some (.frz ob u)
theorem Ext.toG {ρ ρ':Loc}{H H':Hp}(x:Ext ρ H ρ' H'):ExtG ρ H ρ' H':=⟨x.len,x.old,x.keep,fun a h=>.inl (by rw[← x.gho];exact h),x.frz⟩
theorem ExtG.then {ρ ρ1 ρ2:Loc}{H H1 H2:Hp}(a:ExtG ρ H ρ1 H1)(b:Ext ρ1 H1 ρ2 H2):ExtG ρ H ρ2 H2 :=
 ⟨xbc a.len b.len,fun n c h e=>a.old n c h (b.old n c (xbh h a.len) e),fun c o e n=>by
  obtain⟨e1,n1⟩:=a.keep c o e n
  exact b.keep c o e1 n1,fun c h=>a.gho c (by rw[← b.gho];exact h),fun c ob u e=>b.frz c ob u (a.frz c ob u e)⟩
theorem ExtG.out {ρ ρ':Loc}{H H':Hp}(x:ExtG ρ H ρ' H'){a:Addr}{o:HO}(h:H a=some o)(n:Out ρ a):H' a=some o/\Out ρ' a :=
 ⟨(x.keep a o h n.1).1,(x.keep a o h n.1).2,fun z=>by
  rcases x.gho a z with q | q
  ·exact n.2 q
  ·rw[h] at q;cases q⟩
theorem ExtG.mv {ρ ρ':Loc}{H H':Hp}(x:ExtG ρ H ρ' H'):Mv ρ H ρ' H':=⟨fun h n=>x.out h n,x.len,x.old⟩
theorem At.extG {K:Fg}{ρ ρ':Loc}{H H':Hp}(x:ExtG ρ H ρ' H'){d:D}{v:V}(h:At K ρ H d v):At K ρ' H' d v:=h.mv x.mv
theorem Ls.extG {K:Fg}{ρ ρ':Loc}{H H':Hp}{a:Addr}{vs:List V}(x:ExtG ρ H ρ' H')(h:Ls K ρ H a vs):Ls K ρ' H' a vs:=h.mv x.mv
structure ItOk (K:Fg) (ρ:Loc) (H:Hp) (J:It) (xs:List D):Prop where
 item:∀ρ2 H2,ExtG ρ H ρ2 H2->∀(i:Nat) (x:D),xs[i]?=some x->J.go i H2/\∀y H3,J.yld i H2 y H3->Ext ρ2 H2 ρ2 H3/\∀st,Rep K ρ2 st H2->Rep K ρ2 st H3/\At K ρ2 H3 x y
 done:∀ρ2 H2,ExtG ρ H ρ2 H2->∀i:Nat,xs.length<=i->J.stop i H2
def iD (K:Fg) (f:SA):TI:=fun τ H R=>∃ρ σ st xs st',AtS K ρ H σ τ/\Rep K ρ st H/\f σ st=.ok xs st'/\∀ρ' H' J,Ext ρ H ρ' H'->Rep K ρ' st' H'->ItOk K ρ' H' J xs->R J H'
abbrev DI (X:Cx) (tg iter:Expr) (f:SA):Prop:=PI X tg iter (iD X.K f)
def seqV:D->Option (List D)
 | .tup xs=>some xs
 | .lst xs=>some xs
 | .scr xs=>some xs
 | _=>none
def aH (f:SE):SA:=fun σ st=>(f σ st).bind fun x st1=>match seqV x with
 | some xs=>.ok xs st1
 | none=>.stuck
def rng (lo:Int) (n:Nat):List D:=(List.range n).map fun(i:Nat)=>D.int (lo+i)
def iR1 (g:SA):SA:=fun σ st=>(g σ st).bind fun xs st1=>match xs with
 | [.int j]=>if -(2 ^ 62)<=j/\j < 2 ^ 62 then .ok (rng 0 j.toNat) st1 else .stuck
 | _=>.stuck
def iR2 (g:SA):SA:=fun σ st=>(g σ st).bind fun xs st1=>match xs with
 | [.int i,.int j]=>if -(2 ^ 62)<=i/\i < 2 ^ 62/\-(2 ^ 62)<=j/\j < 2 ^ 62 then .ok (rng i (j - i).toNat) st1 else .stuck
 | _=>.stuck
theorem zix {lo:Int}{n i:Nat}{x:D}(h:(rng lo n)[i]?=some x):i < n/\x=.int (lo+i):=by
 unfold rng at h;rw[xcc] at h;rcases xeh i n with z | z
 ·rw[List.getElem?_range z] at h;exact⟨z,(xby h).symm⟩
 ·rw[xer (by rw[xic];exact z)] at h;cases h
theorem zbdg {K:Fg}{ρ:Loc}{H:Hp}{lo:Int}{n:Nat}:ItOk K ρ H (Itr lo n) (rng lo n) where
 item:=fun ρ2 H2 x i d e=>by
  obtain⟨h1,rfl⟩:=zix e;refine⟨h1,fun y H3 hy=>?_⟩;obtain⟨rfl,rfl⟩:=hy;exact⟨.refl _ _,fun _ r=>⟨r,.int _⟩⟩
 done:=fun ρ2 H2 x i h=>by
  unfold rng at h;rw[xbd,xic] at h;exact h
section
variable {X:Cx}{tg l a b:Expr}{f:SE}{g:SA}{p pos:Pos}
theorem zxm {t t':TI}(h:PI X tg l t)(k:∀τ H R,t' τ H R->t τ H R):PI X tg l t':=fun aY s σ H R I q=>h aY s σ H R I (k _ _ _ q)
theorem zbml {t t':TI}(h:PI X tg l t)(h':PI X tg l t'):PI X tg l (fun τ H R=>t τ H R\/t' τ H R):=fun aY s σ H R I q=>by
 rcases q with q | q
 ·exact h aY s σ H R I q
 ·exact h' aY s σ H R I q
theorem zwm {K:Fg}{ρ:Loc}{H:Hp}{p:Addr}{xs:List D}{vs:List V}(hs:∀ρ2 H2,ExtG ρ H ρ2 H2->SqL K H2 p vs)(al:AtAll K ρ H xs vs):ItOk K ρ H (Itl K p) xs where
 item:=fun ρ2 H2 x i d e=>by
  obtain⟨v,hv,a⟩:=al.get e;refine⟨⟨vs,v,hs _ _ x,hv⟩,fun y H3 hy=>?_⟩;obtain⟨rfl,h2⟩:=hy;have:=h2 vs (hs _ _ x);rw[hv] at this;cases this;exact⟨.refl _ _,fun _ r=>⟨r,a.extG x⟩⟩
 done:=fun ρ2 H2 x i h=>⟨vs,hs _ _ x,by rw[al.length];exact h⟩
theorem zblc {K:Fg}{ρ:Loc}{H:Hp}{p:Addr}{xs:List D}{vs:List V}(hs:∀ρ2 H2,ExtG ρ H ρ2 H2->SqT K H2 p vs)(al:AtAll K ρ H xs vs):ItOk K ρ H (Itt K p) xs where
 item:=fun ρ2 H2 x i d e=>by
  obtain⟨v,hv,a⟩:=al.get e;refine⟨⟨vs,v,hs _ _ x,hv⟩,fun y H3 hy=>?_⟩;obtain⟨rfl,h2⟩:=hy;have:=h2 vs (hs _ _ x);rw[hv] at this;cases this;exact⟨.refl _ _,fun _ r=>⟨r,a.extG x⟩⟩
 done:=fun ρ2 H2 x i h=>⟨vs,hs _ _ x,by rw[al.length];exact h⟩
theorem zbjt (hl:DE X l f):DI X tg l (aH f):=zxm (zbml (zbbp hl) (zbhk hl)) fun τ H R hq0=>by
 obtain⟨ρ,σ,st,xs,st',a,rp,e,q⟩:=hq0;obtain⟨x,st1,e1,e⟩:=zc e;cases x with
 | tup ys =>
  cases e;refine .inr ⟨ρ,σ,st,_,_,a,rp,e1,fun ρ1 H1 u x1 rp1 a1=>?_⟩;cases a1 with
  | tup h1 h2 h3=>exact⟨_,rfl,⟨_,SqT.of h1⟩,q _ _ _ x1 rp1 (zblc (fun ρ2 H2 x2=>SqT.of (x2.out h1 h2).1) h3)⟩
 | lst ys =>
  cases e;refine .inl ⟨ρ,σ,st,_,_,a,rp,e1,fun ρ1 H1 u x1 rp1 a1=>?_⟩;cases a1 with
  | lst h1 h2 h3=>exact⟨_,rfl,⟨_,SqL.of h1⟩,q _ _ _ x1 rp1 (zwm (fun ρ2 H2 x2=>SqL.of (x2.out h1 h2).1) h3)⟩
 | scr ys =>
  cases e;refine .inl ⟨ρ,σ,st,_,_,a,rp,e1,fun ρ1 H1 u x1 rp1 a1=>?_⟩;cases a1 with
  | scr h1 h3=>exact⟨_,rfl,⟨_,h1.sq⟩,q _ _ _ x1 rp1 (zwm (fun ρ2 H2 x2=>(h1.extG x2).sq) h3)⟩
 | _=>cases e
theorem zum (hg:Gl X "range")(hm:X.mg "range"=none)(ha:DA X [a] g)(hs:starEach [a] X.env=[(false, eval a X.env)]:=by rfl):DI X tg (.Call (.Name "range" p) [a] [] pos) (iR1 g) :=
 zxm (ztg hg hm ha hs) fun τ H R hq0=>by
 obtain⟨ρ,σ,st,xs,st',a,rp,e,q⟩:=hq0;obtain⟨x,st1,e1,e⟩:=zc e;split at e
 ·split at e
  ·rename_i hj;cases e;refine⟨ρ,σ,st,_,_,a,rp,e1,fun ρ1 H1 u x1 rp1 a1=>?_⟩;obtain⟨w,rfl,a2⟩:=a1.one;cases a2;exact⟨_,rfl,hj.1,hj.2,q _ _ _ x1 rp1 zbdg⟩
  ·cases e
 ·cases e
theorem zul (hg:Gl X "range")(hm:X.mg "range"=none)(ha:DA X [a, b] g)(hs:starEach [a, b] X.env=[(false, eval a X.env),(false, eval b X.env)]:=by rfl)(hs2:starEach [b] X.env=[(false, eval b X.env)]:=by rfl):DI X tg (.Call (.Name "range" p) [a, b] [] pos) (iR2 g) :=
 zxm (ztf hg hm ha hs hs2) fun τ H R hq0=>by
 obtain⟨ρ,σ,st,xs,st',a,rp,e,q⟩:=hq0;obtain⟨x,st1,e1,e⟩:=zc e;split at e
 ·split at e
  ·rename_i hj;cases e;refine⟨ρ,σ,st,_,_,a,rp,e1,fun ρ1 H1 u x1 rp1 a1=>?_⟩;obtain⟨w,w2,rfl,a2,a3⟩:=a1.two;cases a2;cases a3;exact⟨_,_,rfl,hj,q _ _ _ x1 rp1 zbdg⟩
  ·cases e
 ·cases e
end
def iDict (f:SE):SA:=fun σ st=>(f σ st).bind fun x st1=>match x with
 | .ref n=>match st1[n]? with
  | some (.dT kvs)=>.ok (aJ (kvs.map (·.1))) (st1.set n (.fT kvs))
  | _=>.stuck
 | _=>.stuck
section
variable {X:Cx}{tg l:Expr}{f:SE}
theorem zbeg (hl:DE X l f):DI X tg l (iDict f):=zxm (zbbq hl) fun τ H R hq0=>by
 obtain⟨ρ,σ,st,xs,st',a,rp,e,q⟩:=hq0;obtain⟨x,st1,e1,e⟩:=zc e;refine⟨ρ,σ,st,x,st1,a,rp,e1,fun ρ1 H1 u x1 rp1 a1=>?_⟩;split at e
 ·rename_i n;split at e
  ·rename_i kvs hn;cases e;obtain⟨p,rfl,hp,vs,g1,g2⟩:=zgl rp1 a1 hn (by intro z;cases z);refine⟨p,vs,kvs.map (·.1),rfl,g1,g2.keys,fun ob ps h1 h2=>?_⟩;have E:Ext ρ1 H1 ρ1 (upd H1 p (.frz ob (.dT vs))):=Ext.wr hp (zja g1) _;have R:Rep X.K ρ1 (st1.set n (.fT kvs)) (upd H1 p (.frz ob (.dT vs))):=rp1.wr hp (zja g1) ⟨vs,ob,zm,g2.ext E⟩;refine q _ _ _ (x1.trans E) R ⟨fun ρ2 H2 x2 i d e=>?_,fun ρ2 H2 x2 i h=>?_⟩
   ·have e2:(ps.map (·.2))[i]?=(kvs.map (·.1))[i]?:=by rw[h1]
    unfold aJ at e;rw[xcc,← e2,xcc] at e;cases hi:ps[i]? with
    | none=>rw[hi] at e;cases e
    | some x =>
     rw[hi] at e;cases e;refine⟨⟨(xbo.mp hi).1,x2.frz _ _ _ zm⟩,fun y H3 hy=>?_⟩;obtain⟨rfl,x',hx',rfl⟩:=hy;rw[hi] at hx';cases hx';have ht:=h2 x (xch hi);have a3:At X.K ρ1 H1 (aM x.2) (.ref x.1):=.tup ht (znm rp1 ht) (zjv _);exact⟨.refl _ _,fun _ r=>⟨r,(a3.ext E).extG x2⟩⟩
   ·have e2:=congrArg List.length h1;rw[xbd] at e2;unfold aJ at h;rw[xbd,← e2] at h;exact⟨h,x2.frz _ _ _ zm⟩
  ·cases e
 ·cases e
end
def forF (bd:SG) (body:SS):List D->SS
 | [],σ,st=>.ok (.nx σ) st
 | x::xs,σ,st=>match bd x σ with
  | none=>.stuck
  | some σ1=>match body σ1 st with
   | .ok (.nx σ2) st2=>forF bd body xs σ2 st2
   | .ok (.ct σ2) st2=>forF bd body xs σ2 st2
   | .ok (.brk σ2) st2=>.ok (.nx σ2) st2
   | r=>r
def sFor (it:SA) (bd:SG) (body:SS):SS:=fun σ st=>(it σ st).bind fun xs st1=>forF bd body xs σ st1
def whileF (c:ST) (body:SS):Nat->SS
 | 0,_,_=>.stuck
 | n+1,σ,st=>(c σ st).bind fun b st1=>if b=true then(match body σ st1 with
  | .ok (.nx σ2) st2=>whileF c body n σ2 st2
  | .ok (.ct σ2) st2=>whileF c body n σ2 st2
  | .ok (.brk σ2) st2=>.ok (.nx σ2) st2
  | r=>r) else .ok (.nx σ) st1
def wCap:Nat:=1000000
def sWhile (c:ST) (body:SS):SS:=whileF c body wCap
theorem zrh {α:Type}{xs:List α}{i:Nat}(h:i < xs.length):∃x,xs[i]?=some x/\xs.drop i=x::xs.drop (i+1):=⟨xs[i],xbg h,xfa h⟩
section
variable {X:Cx}{tg iter c:Expr}{body:List Stmt}{it:SA}{bd:SG}{b:SS}{t:ST}{pos:Pos}
theorem zbjn (hp:PassesOwn (model X.prog X.w) X.A X.env X.xe)(hc:X.calm=true)(hi:DI X tg iter it)(hg:DG X tg bd)(hb:DSs X body b)(hs:∀x,foldedSetIterable iter X.env x=pure x:=by intro _;rfl) :
  DSt X (.For tg iter body [] pos) (sFor it bd b):=zne (zbbi hp hc hi hg hb hs) fun E τ H hq0=>by
 obtain⟨ρ,σ,st,fl,st',a,rp,e,q⟩:=hq0;obtain⟨xs,st1,e1,e⟩:=zc e;refine⟨ρ,σ,st,xs,st1,a,rp,e1,fun ρ1 H1 J x1 rp1 ok=>?_⟩;have q1:=q.ext x1;refine⟨fun i m τ' H'=>i+m=xs.length/\∃ρ2 σ2 st2,Ext ρ1 H1 ρ2 H'/\AtS X.K ρ2 H' σ2 τ'/\Rep X.K ρ2 st2 H'/\forF bd b (xs.drop i) σ2 st2=.ok fl st',⟨xs.length,by lia,ρ1,σ,st1,.refl _ _,a.ext x1,rp1,e⟩,?_⟩;rintro i m τ' H' ⟨him,ρ2,σ2,st2,x2,a2,rp2,e2⟩;rcases xeh i xs.length with hlt | hge
 ·obtain⟨x,hx,hd⟩:=zrh hlt;rw[hd] at e2;obtain⟨go,yl⟩:=ok.item ρ2 H' x2.toG i x hx;refine .inr ⟨go,fun τ3 H3=>∃ρ3 σ3 st3,Ext ρ1 H1 ρ3 H3/\AtS X.K ρ3 H3 σ3 τ3/\Rep X.K ρ3 st3 H3/\forF bd b (xs.drop (i+1)) σ3 st3=.ok fl st',fun τ3 H3 ⟨ρ3,σ3,st3,n1,n2,n3,n4⟩=>⟨m - 1,by lia,by lia,ρ3,σ3,st3,n1,n2,n3,n4⟩,fun y H3 hy=>?_⟩;obtain⟨y1,y4⟩:=yl y H3 hy;obtain⟨y2,y3⟩:=y4 _ rp2;unfold forF at e2;cases hbd:bd x σ2 with
  | none=>rw[hbd] at e2;cases e2
  | some σ1 =>
   rw[hbd] at e2;dsimp only at e2;have X3:=x2.trans y1;refine⟨ρ2,σ2,x,σ1,a2.ext y1,y3,hbd,fun τ4 a4=>?_⟩;cases hr:b σ1 st2 with
   | stuck=>rw[hr] at e2;cases e2
   | exc z w=>rw[hr] at e2;cases e2
   | ok fb st3 =>
    rw[hr] at e2;refine⟨ρ2,σ1,st2,fb,st3,a4,y2,hr,?_⟩;cases fb with
    | nx σ3=>exact fun ρ' H'' τ5 x5 rp5 a5=>⟨ρ',σ3,st3,X3.trans x5,a5,rp5,e2⟩
    | ct σ3=>exact fun ρ' H'' τ5 x5 rp5 a5=>⟨ρ',σ3,st3,X3.trans x5,a5,rp5,e2⟩
    | brk σ3 =>
     dsimp only at e2;cases e2;exact fun ρ' H'' τ5 x5 rp5 a5=>q1 _ _ _ (X3.trans x5) rp5 a5
    | ret v =>
     dsimp only at e2;cases e2;exact fun ρ' H'' u x5 rp5 a5=>q1 _ _ _ (X3.trans x5) rp5 a5
 ·rw[xgr hge] at e2;unfold forF at e2;cases e2;exact .inl ⟨ok.done ρ2 H' x2.toG i hge,q1 _ _ _ x2 rp2 a2⟩
theorem zyy (hp:PassesOwn (model X.prog X.w) X.A X.env X.xe)(hc:DT X c t)(hb:DSs X body b):DSt X (.While c body [] pos) (sWhile t b):=zne (zxg hp hc hb) fun E τ H hq0=>by
 obtain⟨ρ,σ,st,fl,st',a,rp,e,q⟩:=hq0;unfold sWhile at e;generalize wCap=n at e;refine⟨fun m τ' H'=>∃ρ2 σ2 st2,Ext ρ H ρ2 H'/\AtS X.K ρ2 H' σ2 τ'/\Rep X.K ρ2 st2 H'/\whileF t b m σ2 st2=.ok fl st',⟨n,ρ,σ,st,.refl _ _,a,rp,e⟩,?_⟩;rintro m τ' H' ⟨ρ2,σ2,st2,x2,a2,rp2,e2⟩;cases m with
 | zero=>unfold whileF at e2;cases e2
 | succ m =>
  unfold whileF at e2;obtain⟨x,st3,e3,e4⟩:=zc e2;refine⟨ρ2,σ2,st2,x,st3,a2,rp2,e3,fun ρ3 H3 x3 rp3=>?_⟩;have X3:=x2.trans x3;cases x with
  | false =>
   rw[if_neg (by decide)] at e4;cases e4;exact iteF (q _ _ _ X3 rp3 (a2.ext x3))
  | true =>
   rw[if_pos rfl] at e4;refine iteT ⟨fun τ4 H4=>∃ρ4 σ4 st4,Ext ρ H ρ4 H4/\AtS X.K ρ4 H4 σ4 τ4/\Rep X.K ρ4 st4 H4/\whileF t b m σ4 st4=.ok fl st',fun τ4 H4 hh=>⟨m,xjz m,hh⟩,?_⟩;cases hr:b σ2 st3 with
   | stuck=>rw[hr] at e4;cases e4
   | exc z w=>rw[hr] at e4;cases e4
   | ok fb st5 =>
    rw[hr] at e4;refine⟨ρ3,σ2,st3,fb,st5,a2.ext x3,rp3,hr,?_⟩;cases fb with
    | nx σ3=>exact fun ρ' H'' τ5 x5 rp5 a5=>⟨ρ',σ3,st5,X3.trans x5,a5,rp5,e4⟩
    | ct σ3=>exact fun ρ' H'' τ5 x5 rp5 a5=>⟨ρ',σ3,st5,X3.trans x5,a5,rp5,e4⟩
    | brk σ3 =>
     dsimp only at e4;cases e4;exact fun ρ' H'' τ5 x5 rp5 a5=>q _ _ _ (X3.trans x5) rp5 a5
    | ret v =>
     dsimp only at e4;cases e4;exact fun ρ' H'' u x5 rp5 a5=>q _ _ _ (X3.trans x5) rp5 a5
end
def compF (bd:SG) (c:ST) (f:SE):List D->DS->Store->Res (List D)
 | [],_,st=>.ok [] st
 | x::xs,σ,st=>match bd x σ with
  | none=>.stuck
  | some σ1=>(c σ1 st).bind fun b st1=>if b=true then(f σ1 st1).bind fun y st2=>(compF bd c f xs σ1 st2).bind fun ys st3=>.ok (y::ys) st3 else compF bd c f xs σ1 st1
def aX (k:Nat) (is:List Nat) (σ:DS):DS:=List.replicate k none++is.map fun i=>(σ[i]?).getD none
def aG (it:SA) (k:Nat) (is:List Nat) (bd:SG) (c:ST) (f:SE):SE:=fun σ st=>(it σ st).bind fun xs st1=>if xs.length<=sizeLine then(compF bd c f xs (aX k is σ) st1).bind fun ys st2=>.ok (.lst ys) st2 else .stuck
def aI:ST:=fun _ st=>.ok true st
theorem AtS.start {K:Fg}{ρ:Loc}{H:Hp}{σ:DS}{τ:St}(h:AtS K ρ H σ τ)(k:Nat)(is:List Nat):AtS K ρ H (aX k is σ) (startC k is τ):=by
 have app:∀{a c:DS} {b d:St},AtS K ρ H a b->AtS K ρ H c d->AtS K ρ H (a++c) (b++d):=fun h1 h2=>by
  induction h1 with
  | nil=>exact h2
  | cons r t ih=>exact .cons r ih
 refine app ?_ ?_
 ·induction k with
  | zero=>exact .nil
  | succ k ih=>exact .cons (fun d e=>nomatch e) ih
 ·induction is with
  | nil=>exact .nil
  | cons i is ih =>
   refine .cons (fun d e=>?_) ih;have e:(σ[i]?).getD none=some d:=e;have e':σ[i]?=some (some d):=by
    cases q:σ[i]? with
    | none=>rw[q] at e;cases e
    | some o=>rw[q] at e;exact congrArg some e
   obtain⟨u,hu,a⟩:=h.get e';exact⟨u,by show(τ[i]?).getD none=some u;rw[hu];rfl,a⟩
def Loc.with (ρ:Loc) (p:Addr):Loc:=⟨ρ.m,p::ρ.g⟩
theorem zbah {ρ:Loc}{H:Hp}{p:Addr}{o:HO}(hp:H p=none):Mv ρ H (ρ.with p) (upd H p o):=⟨fun e n=>⟨by rw[zn (zj e hp)];exact e,n.1,fun z=>by
 rcases xbu.mp z with z | z
 ·exact zj e hp z
 ·exact n.2 z⟩,xbf _,fun _ _ _ e=>e⟩
theorem At.with {K:Fg}{ρ:Loc}{H:Hp}{p:Addr}{o:HO}(hp:H p=none){d:D}{v:V}(h:At K ρ H d v):At K (ρ.with p) (upd H p o) d v:=h.mv (zbah hp)
theorem zvw {ρ ρ':Loc}{H:Hp}{p:Addr}{o:HO}(hm:ρ'.m=ρ.m)(hg:p∈ρ.g)(hs:∀a,a∈ρ'.g->a∈ρ.g):Mv ρ H ρ' (upd H p o):=⟨fun e n=>⟨by rw[zn (by rintro rfl;exact n.2 hg)];exact e,by rw[hm];exact n.1,fun z=>n.2 (hs _ z)⟩,by rw[hm];exact xbf _,fun _ _ _ e=>by rw[hm] at e;exact e⟩
theorem At.grow {K:Fg}{ρ ρ':Loc}{H:Hp}{p:Addr}{o:HO}(hm:ρ'.m=ρ.m)(hg:p∈ρ.g)(hs:∀a,a∈ρ'.g->a∈ρ.g){d:D}{v:V}(h:At K ρ H d v):At K ρ' (upd H p o) d v:=h.mv (zvw hm hg hs)
theorem AtAll.grow {K:Fg}{ρ ρ':Loc}{H:Hp}{p:Addr}{o:HO}(hm:ρ'.m=ρ.m)(hg:p∈ρ.g)(hs:∀a,a∈ρ'.g->a∈ρ.g){d:List D}{v:List V}(h:AtAll K ρ H d v):AtAll K ρ' (upd H p o) d v:=h.mv (zvw hm hg hs)
theorem OAt.map {K:Fg}{ρ ρ':Loc}{H H':Hp}{a:Addr}{x:O}(k:∀d v,At K ρ H d v->At K ρ' H' d v)(fz:∀b ob u,H b=some (.frz ob u)->H' b=some (.frz ob u))(same:H' a=H a)(h:OAt K ρ H x a):OAt K ρ' H' x a:=by
 have ka:∀{d:List D} {v:List V},AtAll K ρ H d v->AtAll K ρ' H' d v:=fun {d v} h=>by
  induction d generalizing v with
  | nil=>cases h;exact .nil
  | cons x xs ih=>cases h with | cons a b=>exact .cons (k _ _ a) (ih b)
 cases x with
 | lst xs=>obtain⟨vs,q,r⟩:=h;exact⟨vs,by rw[same];exact q,ka r⟩
 | dT kvs=>obtain⟨vs,q,r⟩:=h;exact⟨vs,by rw[same];exact q,Paired.mapP r fun p q z=>⟨z.1,k _ _ z.2⟩⟩
 | fT kvs=>obtain⟨vs,ob,q,r⟩:=h;exact⟨vs,ob,by rw[same];exact q,Paired.mapP r fun p q z=>⟨z.1,k _ _ z.2⟩⟩
 | dead=>exact h.elim
 | tab=>obtain⟨c,ps,q,r⟩:=h;exact⟨c,ps,by rw[same];exact q,r.map fz⟩
theorem Rep.with {K:Fg}{ρ:Loc}{st:Store}{H:Hp}{p:Addr}(r:Rep K ρ st H)(hp:H p=none)(vs:List V):Rep K (ρ.with p) st (upd H p (.lst vs)) :=
 ⟨r.len,r.inj,fun m b y e1 e2=>by
  have q:=r.obj m b y e1 e2;obtain⟨u,hu⟩:=q.has;exact q.map (fun d v h=>h.with hp) (fun b ob u e=>by rw[zn (zj e hp)];exact e) (zn (zj hu hp)),fun a ha=>by
  rcases xbu.mp ha with rfl | ha
  ·exact⟨⟨vs,zm⟩,(zhe r hp).1⟩
  ·obtain⟨⟨ws,h1⟩,h2⟩:=r.gh a ha
   exact⟨⟨ws,by rw[zn (zj h1 hp)];exact h1⟩,h2⟩,r.live⟩
theorem Rep.grow {K:Fg}{ρ ρ':Loc}{st:Store}{H:Hp}{p:Addr}(r:Rep K ρ st H)(hm:ρ'.m=ρ.m)(hg:p∈ρ.g)(hs:∀a,a∈ρ'.g->a∈ρ.g)(vs:List V):Rep K ρ' st (upd H p (.lst vs)) :=
 ⟨by rw[hm];exact r.len,by rw[hm];exact r.inj,fun m b y e1 e2=>by
  rw[hm] at e1;refine(r.obj m b y e1 e2).map (fun d v h=>h.grow hm hg hs) (fun b ob u e=>by rw[zn (by rintro rfl;obtain⟨⟨_,z⟩,_⟩:=r.gh _ hg;rw[e] at z;cases z)];exact e) (zn ?_);rintro rfl;exact(r.gh b hg).2 (xch e1),fun a ha=>by
  obtain⟨⟨ws,h1⟩,h2⟩:=r.gh a (hs a ha);refine⟨?_,by rw[hm];exact h2⟩;by_cases e:a=p
  ·subst e;exact⟨vs,zm⟩
  ·exact⟨ws,by rw[zn e];exact h1⟩,by rw[hm];exact r.live⟩
theorem AtS.map {K:Fg}{ρ ρ':Loc}{H H':Hp}{σ:DS}{τ:St}(k:∀d v,At K ρ H d v->At K ρ' H' d v)(h:AtS K ρ H σ τ):AtS K ρ' H' σ τ:=Paired.mapP h fun o v z d e=>by
 obtain⟨u,e1,a⟩:=z d e;exact⟨u,e1,k _ _ a⟩
section
variable {X:Cx}{tg iter elt:Expr}{ifs:List Expr}{it:SA}{bd:SG}{c:ST}{f:SE}{N:List Str}{k:Nat}{is:List Nat}{scope:Scope}{pos:Pos}
inductive CI (K:Fg) (bd:SG) (c:ST) (f:SE) (xs ys:List D) (st2:Store) (ρ1:Loc) (H1:Hp) (p:Addr) (i:Nat) (τ:St) (H':Hp):Prop where
 | mk {ρ2:Loc} {σ2:DS} {st3:Store} {acc:List D} {accV:List V} {zs:List D} (x2:ExtG ρ1 H1 ρ2 H') (hg:ρ2.g=p::ρ1.g) (hpp:H' p=some (.lst accV)) (hal:AtAll K ρ2 H' acc accV) (hli:acc.length<=i) (a2:AtS K ρ2 H' σ2 τ) (rp2:Rep K ρ2 st3 H') (e3:compF bd c f (xs.drop i) σ2 st3=.ok zs st2) (hac:acc++zs=ys):CI K bd c f xs ys st2 ρ1 H1 p i τ H'
theorem zbkj {K:Fg}{τ:St}{H:Hp}{Q:V->Hp->Prop}{ρ:Loc}{σ:DS}{st st1 st2:Store}{xs ys:List D}(a:AtS K ρ H σ τ)(rp:Rep K ρ st H)(e1:it σ st=.ok xs st1)(hlen:xs.length<=sizeLine)(e2:compF bd c f xs (aX k is σ) st1=.ok ys st2)
 (fin:∀ρ1 H1 p ρ2 H' accV,Ext ρ H ρ1 H1->Rep K ρ1 st1 H1->H1 p=none->ExtG ρ1 H1 ρ2 H'->ρ2.g=p::ρ1.g->H' p=some (.lst accV)->AtAll K ρ2 H' ys accV->Rep K ρ2 st2 H'->Q (.ref p) H'):tComp (iD K it) k is (gD K bd) (tDT K c) (tD K f) τ H Q:=by
 refine⟨ρ,σ,st,xs,st1,a,rp,e1,fun ρ1 H1 J x1 rp1 ok p hp=>?_⟩
 refine⟨fun i m τ' H'=>i+m=xs.length/\CI K bd c f xs ys st2 ρ1 H1 p i τ' H',
  ⟨xs.length,by lia,.mk ?_ rfl zm .nil (xed _) (((a.ext x1).start k is).map fun d v h=>h.with hp) (rp1.with hp []) e2 rfl⟩,?_⟩
 ·have E:Ext ρ1 H1 ρ1 (upd H1 p (.lst [])):=Ext.new hp _
  exact⟨E.len,E.old,E.keep,fun a h=>by
   rcases xbu.mp h with rfl | h
   ·exact .inr hp
   ·exact .inl h,E.frz⟩
 rintro i m τ' H' ⟨him,@⟨ρ2,σ2,st3,acc,accV,zs,x2,hg,hpp,hal,hli,a2,rp2,e3,hac⟩⟩;have hpg:p∈ρ2.g:=by rw[hg];exact xcm
 rcases xeh i xs.length with hlt | hge
 ·obtain⟨x,hx,hd⟩:=zrh hlt;rw[hd] at e3;obtain⟨go,yl⟩:=ok.item ρ2 H' x2 i x hx
  refine .inr ⟨go,CI K bd c f xs ys st2 ρ1 H1 p (i+1),
   fun τ4 H4 hh=>⟨m - 1,by lia,by lia,hh⟩,fun y H3 hy=>?_⟩
  obtain⟨y1,y4⟩:=yl y H3 hy;obtain⟨y2,y3⟩:=y4 _ rp2;unfold compF at e3;cases hbd:bd x σ2 with
  | none=>rw[hbd] at e3;cases e3
  | some σ1 =>
   rw[hbd] at e3;dsimp only at e3;obtain⟨bb,st4,e4,e5⟩:=zc e3;refine⟨ρ2,σ2,x,σ1,a2.ext y1,y3,hbd,fun τ4 a4=>?_⟩;have hpm:some p∉ρ2.m:=(rp2.gh p hpg).2;have hpp3:=(y1.keep p _ hpp hpm).1;refine⟨ρ2,σ1,st3,bb,st4,a4,y2,e4,fun ρ5 H5 x5 rp5=>?_⟩;have hpp5:=(x5.keep p _ hpp3 hpm).1;have hal5:=(hal.ext y1).ext x5;have g5:ρ5.g=p::ρ1.g:=x5.gho.trans hg;cases bb with
   | false =>
    rw[if_neg (by decide)] at e5;exact iteF (.mk ((x2.then y1).then x5) g5 hpp5 hal5 (xge hli) (a4.ext x5) rp5 e5 hac)
   | true =>
    rw[if_pos rfl] at e5;obtain⟨w,st6,e6,e7⟩:=zc e5;obtain⟨zs',st7,e8,e9⟩:=zc e7;cases e9;refine iteT ⟨ρ5,σ1,st4,w,st6,a4.ext x5,rp5,e6,fun ρ6 H6 u x6 rp6 a6=>?_⟩;have hpm5:some p∉ρ5.m:=(x5.keep p _ hpp3 hpm).2;have hpp6:=(x6.keep p _ hpp5 hpm5).1;have g6:ρ6.g=p::ρ1.g:=x6.gho.trans g5;have hp6:p∈ρ6.g:=by rw[g6];exact xcm
    have hl6:accV.length<=i:=by rw[hal.length];exact hli
    refine⟨accV,hpp6,xcs hl6 (xbh hlt hlen),.mk (acc:=acc++[w]) (accV:=accV++[u]) ?_ g6 zm ?_ (by rw[xbs];exact xev hli) ?_ (rp6.grow rfl hp6 (fun _ h=>h) _) e8 (by rw[← hac,xbr];rfl)⟩
    ·have G:=((x2.then y1).then x5).then x6;refine⟨G.len,G.old,fun b o e n=>?_,G.gho,fun b ob uu e=>?_⟩
     ·rw[zn (zj e hp)];exact G.keep b o e n
     ·rw[zn (zj e hp)];exact G.frz b ob uu e
    ·exact((hal5.ext x6).append (.cons a6 .nil)).grow rfl hp6 (fun _ h=>h)
    ·exact(a4.ext (x5.trans x6)).map fun d v h=>h.grow rfl hp6 (fun _ h=>h)
 ·rw[xgr hge] at e3;unfold compF at e3;cases e3;rw[xeg] at hac;subst hac;exact .inl ⟨ok.done _ _ x2 i hge,fin _ _ _ _ _ _ x1 rp1 hp x2 hg hpp hal rp2⟩
theorem zbfc {K:Fg}:∀τ H Q,tD K (aG it k is bd c f) τ H Q->tComp (iD K it) k is (gD K bd) (tDT K c) (tD K f) τ H Q:=fun τ H Q hq0=>by
 obtain⟨ρ,σ,st,v,st',a,rp,e,q⟩:=hq0;obtain⟨xs,st1,e1,e⟩:=zc e;split at e
 ·rename_i hlen;obtain⟨ys,st2,e2,e⟩:=zc e;cases e;refine zbkj a rp e1 hlen e2 fun ρ1 H1 p ρ2 H' accV x1 rp1 hp x2 hg hpp hal rp2=>?_
  have hpg:p∈ρ2.g:=by rw[hg];exact xcm
  have hpm:some p∉ρ2.m:=(rp2.gh p hpg).2;have self:upd H' p (.lst accV)=H':=zwr hpp;have sub:∀a,a∈(⟨ρ2.m,ρ1.g⟩:Loc).g->a∈ρ2.g:=fun b hb=>by rw[hg];exact xcq _ hb
  have E:Ext ρ1 H1 ⟨ρ2.m,ρ1.g⟩ H':=⟨x2.len,x2.old,x2.keep,rfl,x2.frz⟩
  have R:=rp2.grow (ρ':=⟨ρ2.m,ρ1.g⟩) rfl hpg sub accV;have L:=AtAll.grow (ρ:=ρ2) (ρ':=⟨ρ2.m,ρ1.g⟩) (o:=.lst accV) rfl hpg sub hal;rw[self] at R L;refine q _ _ _ (x1.trans E) R (.lst hpp ⟨hpm,fun z=>?_⟩ L);obtain⟨⟨ws,h1⟩,_⟩:=rp1.gh p z;rw[hp] at h1;cases h1
 ·cases e
theorem zbkf (hcalm:X.calm=true)(hi:DI X tg iter it)(hg:∀cl C fp s H,DG (cxC X N scope cl C fp s H) tg bd)(hc:∀cl C fp s H,PIf (cxC X N scope cl C fp s H) ifs (tDT X.K c))(he:∀cl C fp s H,DE (cxC X N scope cl C fp s H) elt f)
 (S:CompScope X N k is scope)(hs:∀x,foldedSetIterable iter X.env x=pure x:=by intro _;rfl):DE X (.ListComp elt [⟨tg,iter,ifs,0⟩] scope pos) (aG it k is bd c f):=zfp (zbbx hcalm hi hg hc he S hs) zbfc
theorem zbdw {i:Nat}{x:Str}{pos' spos:Pos}(hcalm:X.calm=true)(hN:X.N.Nodup)(hxi:X.N[i]?=some x)(hx:L2.Loc X.env.scope x)(hi:DI X tg iter it)(hg:∀cl C fp s H,DG (cxC X N scope cl C fp s H) tg bd)
  (hc:∀cl C fp s H,PIf (cxC X N scope cl C fp s H) ifs (tDT X.K c))(he:∀cl C fp s H,DE (cxC X N scope cl C fp s H) elt f)(S:CompScope X N k is scope)
  (hsw:swapsWith (.ListComp elt [⟨tg,iter,ifs,0⟩] scope pos) (some (.Name x pos')) spos.line X.env=pure true:=by rfl)
  (hf:X.fn x=true\/X.env.scope.names.lookup x=some .local:=by first | exact .inl rfl | exact .inr rfl | assumption)
  (hs:∀x,foldedSetIterable iter X.env x=pure x:=by intro _;rfl):DSt X (.Assign [.Name x pos'] (.ListComp elt [⟨tg,iter,ifs,0⟩] scope pos) spos) (aF i (aG it k is bd c f)) :=
 zne (zbbh hcalm hN hxi hx hi hg hc he S hsw hf hs) fun E τ H h=>by
  obtain⟨ρ,σ,st,fl,st',a,rp,e,q⟩:=h;obtain⟨v,st1,e1,e⟩:=zc e;cases e;exact zbfc τ H _ ⟨ρ,σ,st,v,_,a,rp,e1,fun ρ' H' u x r t=>q _ _ _ x r ((a.ext x).set t i)⟩
theorem zbef {X:Cx}:PIf X [] (tDT X.K aI):=fun aY s σ H Q I hq0=>by
 obtain⟨ρ,σ',st,v,st',a,rp,e,q⟩:=hq0;cases e;exact zbbo aY s σ H Q I (q _ _ (.refl _ _) rp)
theorem zbee {X:Cx}{c:Expr}{t:ST}(h:DT X c t):PIf X [c] (tDT X.K t):=zbbn h
end
end Dd
namespace Dd
open PySem L2 PyProof.Rows
def spD (K:Fg) (np:Nat) (F:DFn):Sp:=fun vs H Q _=>∃ρ ds st v st',AtAll K ρ H ds vs/\Rep K ρ st H/\F ds st=.ok v st'/\vs.length=np/\∀ρ' H' u,Ext ρ H ρ' H'->Rep K ρ' st' H'->At K ρ' H' v u->Q u H'
def CalD (P:Program) (w:World) (K:Fg) (mg:Str->Option Value) (base:Heap) (x:Str) (k:Nat) (ps:List Str) (F:DFn):Prop:=Callee P w K mg base x k ps (spD K ps.length F)
def fnD (n np:Nat) (body:SS):DFn:=fun ds st=>if ds.length=np then(match body (ds.map some++List.replicate (n - np) none) st with
 | .ok (.ret v) st'=>.ok v st'
 | .ok (.nx _) st'=>.ok .non st'
 | .exc x st'=>.exc x st'
 | _=>.stuck) else .stuck
section
variable {X:Cx}{x:Str}{k:Nat}{ps:List Str}{F:DFn}{p pos:Pos}{e:Expr}{es:List Expr}{g:SA}
theorem zbkm {K:Fg}{np:Nat}{f:SA}(hn:∀ds st v st',F ds st=.ok v st'->ds.length=np):∀τ H Q,tD K (aE F f) τ H Q->tCall (spD K np F) [] E0 (tDA K f) τ H Q:=fun τ H Q hq0=>by
 obtain⟨ρ,σ,st,v,st',a,rp,e,q⟩:=hq0;obtain⟨x,st1,e1,e⟩:=zc e;refine⟨ρ,σ,st,x,st1,a,rp,e1,fun ρ1 H1 u x1 rp1 a1=>?_⟩;show spD K np F (u++[]) H1 Q E0;rw[xeg];exact⟨ρ1,x,st1,v,st',a1,rp1,e,by rw[a1.length];exact hn _ _ _ _ e,fun ρ' H' w x2=>q ρ' H' w (x1.trans x2)⟩
theorem zbkg (c:CalD X.prog X.w X.K X.mg X.base x k ps F)(hn:∀ ds st v st', F ds st=.ok v st'->ds.length=ps.length)(hr:Room k X.A)(hg:Gl X x)(ha:DA X (e::es) g)(hdb:(x==("__debug__" : Str))=false:=by decide)
 (he:starEach (e::es) X.env=(false,eval e X.env)::starEach es X.env:=by rfl)(hpl:(backTo pos (starEach es X.env)).any (·.1)=false:=by rfl) :
 DE X (.Call (.Name x p) (e::es) [] pos) (aE F g):=zfp (zxu c hr hg ha hdb he hpl) (zbkm hn)
theorem zba {n np:Nat}{b:SS}{ds:List D}{st st':Store}{v:D}(h:fnD n np b ds st=.ok v st'):ds.length=np:=by
 unfold fnD at h;split at h
 ·assumption
 ·cases h
end
theorem AtAll.some {K:Fg}{ρ:Loc}{H:Hp}:∀{ds:List D} {vs:List V},AtAll K ρ H ds vs->AtS K ρ H (ds.map Option.some) (vs.map Option.some)
 | _,_,.nil=>.nil
 | _,_,.cons a b=>.cons (fun d e=>by cases e;exact⟨_,rfl,a⟩) (AtAll.some b)
theorem AtS.append {K:Fg}{ρ:Loc}{H:Hp}:∀{a c:DS} {b d:L2.St},AtS K ρ H a b->AtS K ρ H c d->AtS K ρ H (a++c) (b++d)
 | _,_,_,_,.nil,h=>h
 | _,_,_,_,.cons r t,h=>.cons r (AtS.append t h)
theorem AtS.nones {K:Fg}{ρ:Loc}{H:Hp}:∀n,AtS K ρ H (List.replicate n none) (List.replicate n none)
 | 0=>.nil
 | n+1=>.cons (fun d e=>nomatch e) (AtS.nones n)
theorem zbfn {K:Fg}{N:List Str}{np:Nat}{b:SS}{vs:List V}{H:Hp}{Q:VK}{E:XK}(h:spD K np (fnD N.length np b) vs H Q E):tDS K b {nx:=fun _ H'=>Q .non H',rt:=Q} (L2.start N vs) H:=by
 obtain⟨ρ,ds,st,v,st',a,rp,e,hl,q⟩:=h;have hd:ds.length=np:=by rw[← a.length];exact hl
 unfold fnD at e;rw[if_pos hd] at e;have as:AtS K ρ H (ds.map Option.some++List.replicate (N.length - np) none) (L2.start N vs):=by
  unfold L2.start;rw[hl];exact a.some.append (.nones _)
 refine⟨ρ,ds.map Option.some++List.replicate (N.length - np) none,st,?_⟩;cases hr:b (ds.map Option.some++List.replicate (N.length - np) none) st with
 | stuck=>rw[hr] at e;cases e
 | exc z w=>rw[hr] at e;cases e
 | ok fl st1 =>
  rw[hr] at e;cases fl with
  | ret w =>
   dsimp only at e;cases e;exact⟨.ret v,st',as,rp,rfl,fun ρ' H' u x r t=>q ρ' H' u x r t⟩
  | nx σ =>
   dsimp only at e;cases e;exact⟨.nx σ,st',as,rp,rfl,fun ρ' H' τ x r t=>q ρ' H' .non x r .non⟩
  | brk σ=>cases e
  | ct σ=>cases e
theorem zbfk {P:Program}{w:World}{K:Fg}{mg:Str->Option Value}{base h:Heap}{x:Str}{st:Stmt}{N ps:List Str}{k:Nat}{b:SS}(T:TopF K x st)(X:K.In h)(G:h.Ns mainGlobals mg)(S:FnScope N ps (defScope st))
  (bd:∀(kV doc pm:Value) (an:Option Addr) (cdv ct:Value) (us:List Value),us.length=ps.length->bindArgs (W.fnOf x x (defArgs st) (defBody st) (defScope st) .none kV doc pm an cdv ct) ⟨us,[]⟩=pure (ps.zip us))
  (hbody:∀(f:Addr) (cdv:Value) (A:Around) (outer:List Env) (s:Shared) (H:Hp) (E:XK),Room k (A.deeper (envOfC x (defScope st) s.heap.objs.size f cdv)) ->
   DSs (cxOf CX0 P w K mg base N x (defScope st) f cdv A outer s H E).nox (defBody st) b):CalD P w K mg base x (k+1) ps (fnD N.length ps.length b) :=
 zuy T X G S bd (fun vs H Q E hh=>by obtain⟨ρ,ds,st,v,st',a,rp,e,hl,q⟩:=hh;exact hl) fun f cdv A outer s H vs Q E hr hh=>⟨_,hbody f cdv A outer s H E hr,zbfn hh⟩
end Dd
namespace Dd
open PySem L2
def oNeg:D->Store->Res D:=fun x st=>match x with
 | .int i=>.ok (.int (-i)) st
 | _=>.stuck
def tru (st:Store):D->Option Bool
 | .non=>some false
 | .bl b=>some b
 | .int i=>some (i != 0)
 | .tup xs=>some !xs.isEmpty
 | d=>(asL st d).map fun xs=>!xs.isEmpty
def eTru (f:SE):ST:=fun σ st=>(f σ st).bind fun v st1=>match tru st1 v with
 | some b=>.ok b st1
 | none=>.stuck
theorem zks {K:Fg}{ρ:Loc}{H:Hp}{ds:List D}{vs:List V}(h:AtAll K ρ H ds vs):ds.isEmpty=vs.isEmpty:=by
 cases h<;>rfl
theorem zbgl {K:Fg}{ρ:Loc}{st:Store}{H:Hp}(rp:Rep K ρ st H){d:D}{u:V}{b:Bool}(a:At K ρ H d u)(e:tru st d=some b):TruV K u H b:=by
 unfold tru at e;split at e
 ·cases a;cases e;exact rfl
 ·cases a;cases e;exact rfl
 ·cases a;cases e;exact rfl
 ·cases e;cases a with
  | tup h1 h2 h3=>exact .inr (.inl ⟨_,SqT.of h1,by rw[zks h3]⟩)
 ·obtain⟨xs,h0,rfl⟩:=xco.mp e;obtain⟨p,vs,rfl,h1,h2⟩:=zfn rp a h0;exact .inl ⟨_,SqL.of h1,by rw[zks h2]⟩
section
variable {X:Cx}{a b c e:Expr}{f f' f'':SE}{pos:Pos}{sm:Stmt}
theorem zbnt (h:DE X a f):DE X (.UnaryOp .USub a pos) (eUn oNeg f):=zfp (zblo zbao h) fun τ H Q hq0=>by
 obtain⟨ρ,σ,st,v,st',at',rp,e,q⟩:=hq0;obtain⟨x,st1,e1,e⟩:=zc e;refine⟨ρ,σ,st,x,st1,at',rp,e1,fun ρ1 H1 u x1 rp1 a1=>?_⟩;cases x<;>try (cases e;done)
 cases e;cases a1;exact⟨_,rfl,q _ _ _ x1 rp1 (.int _)⟩
theorem zyx {op op':CmpOp}{r r':R2}{g g':D->D->Store->Res D}(ho:OpR X (compareOp op) r)(ho':OpR X (compareOp op') r')(hr:OpD X.K g r)(hr':OpD X.K g' r')(ha:DE X a f)(hb:DE X b f')(hc:DE X c f'')
 (hm:lastMarks [op,op'] [b,c]=false:=by with_unfolding_all rfl):DT X (.Compare a [op,op'] [b,c] pos) (eB (eChain g g' f f' f'')):=zbbc (zxf ho ho' ha hb hc hm) fun τ H Q h=>zbff hr hr' _ _ _ (eB_t _ _ _ h)
theorem zbjd (h:DE X a f)(he:∀whole,isTrue a X.env whole=(do let v ← whole;standAt a.pos;holding [v] (truthy v)):=by intro _;rfl):DT X a (eTru f):=zbbc (zxe h he) fun τ H Q hq0=>by
 obtain⟨ρ,σ,st,v,st',at',rp,e,q⟩:=hq0;obtain⟨x,st1,e1,e⟩:=zc e;refine⟨ρ,σ,st,x,st1,at',rp,e1,fun ρ1 H1 u x1 rp1 a1=>?_⟩;split at e
 ·rename_i bb hb;cases e;exact⟨_,zbgl rp1 a1 hb,q _ _ x1 rp1⟩
 ·cases e
end
end Dd
namespace Dd
open PySem PySem.Spec PyProof.Rows L2
def numF:Int->List D->List D
 | _,[]=>[]
 | n,x::xs=>.tup [.int n,x]::numF (n+1) xs
def iEnum (f:SE):SA:=fun σ st=>(f σ st).bind fun x st1=>match x with
 | .tup xs=>.ok (numF 1 xs) st1
 | _=>.stuck
theorem zmg:∀{xs:List D} {n:Int} {i:Nat} {d:D},(numF n xs)[i]?=some d->∃x,xs[i]?=some x/\d=.tup [.int (n+i),x]
 | [],_,_,_,h=>by simp[numF] at h
 | x::xs,n,0,d,h=>by
  simp[numF] at h;exact⟨x,rfl,by rw[← h];simp⟩
 | x::xs,n,i+1,d,h=>by
  simp only[numF,xgj] at h;obtain⟨y,h1,h2⟩:=zmg h;exact⟨y,by simpa using h1,by rw[h2];congr 3;push_cast;lia⟩
theorem zgp:∀{xs:List D} {n:Int},(numF n xs).length=xs.length
 | [],_=>rfl
 | _::xs,n=>by simp[numF,zgp (xs:=xs)]
section
variable {X:Cx}{l:Expr}{f:SE}{elts:List Expr}{k j:Nat}{tpos p pos kpos cpos:Pos}
theorem zza (hg:Gl X "enumerate")(hm:X.mg "enumerate"=none)(hl:DE X l f)(he:starEach [l] X.env=[(false, eval l X.env)]:=by rfl) :
  DI X (.Tuple elts k tpos) (.Call (.Name "enumerate" p) [l] [⟨some "start", .Constant (.int 1) j cpos, kpos⟩] pos) (iEnum f):=zxm (zxn hg hm hl he) fun τ H R hq0=>by
 obtain⟨ρ,σ,st,xs,st',a,rp,e,q⟩:=hq0;obtain⟨x,st1,e1,e⟩:=zc e;refine⟨ρ,σ,st,x,st1,a,rp,e1,fun ρ1 H1 u x1 rp1 a1=>?_⟩;split at e
 ·rename_i ys;cases e;cases a1 with
  | tup h1 h2 h3 =>
   refine⟨_,rfl,⟨_,SqT.of h1⟩,q _ _ _ x1 rp1 ⟨fun ρ2 H2 x2 i d e=>?_,fun ρ2 H2 x2 i h=>?_⟩⟩
   ·obtain⟨z,hz,rfl⟩:=zmg e;obtain⟨v,hv,av⟩:=h3.get hz;refine⟨⟨_,v,SqT.of (x2.out h1 h2).1,hv⟩,fun y H3 hy=>?_⟩;obtain⟨p,hp,rfl,hH⟩:=hy;rw[hH _ _ (SqT.of (x2.out h1 h2).1) hv];refine⟨Ext.new hp _,fun st rp2=>⟨rp2.new hp _,?_⟩⟩;have e3:(1:Int)+(i:Int)=((i+1:Nat):Int):=by push_cast;lia
    rw[e3];exact At.newT rp2 hp (.cons (.int _) (.cons (av.extG x2) .nil))
   ·rw[zgp] at h;exact⟨_,SqT.of (x2.out h1 h2).1,by rw[h3.length];exact h⟩
 ·cases e
end
end Dd
namespace Dd
open PySem L2
def bInt:List D->Store->Res D:=fun xs st=>match xs with
 | [.int i]=>.ok (.int i) st
 | [.bl k]=>.ok (.int (if k then 1 else 0)) st
 | _=>.stuck
theorem zbft {K:Fg}:CaD K bInt (fun xs H Q=>(∃i,xs=[.int i]/\Q (.int i) H)\/∃k,xs=[.bl k]/\Q (.int (if k then 1 else 0)) H):=fun ρ H st xs us z st' Q rp aa e q=>by
 unfold bInt at e;split at e
 ·cases e;obtain⟨u,rfl,a⟩:=aa.one;cases a;exact .inl ⟨_,rfl,q _ _ _ (.refl _ _) rp (.int _)⟩
 ·cases e;obtain⟨u,rfl,a⟩:=aa.one;cases a;exact .inr ⟨_,rfl,q _ _ _ (.refl _ _) rp (.int _)⟩
 ·cases e
def eCompM (it:SA) (k:Nat) (is:List Nat) (bd:SG) (c:ST) (f:SE):SE:=fun σ st=>(it σ st).bind fun xs st1=>if xs.length<=sizeLine then(compF bd c f xs (aX k is σ) st1).bind fun ys st2=>.ok (.ref st2.length) (st2++[.lst ys]) else .stuck
section
variable {X:Cx}{tg iter elt:Expr}{ifs:List Expr}{it:SA}{bd:SG}{c:ST}{f:SE}{N:List Str}{k:Nat}{is:List Nat}{scope:Scope}{pos:Pos}
end
def plainE:Expr->Bool
 | .Starred _ _=>false
 | _=>true
theorem zpq {e:Expr}{es:List Expr}{env:Env}(h:plainE e=true):starEach (e::es) env=(false,eval e env)::starEach es env:=by
 cases e<;>first | rfl | cases h
theorem zzd {X:Cx}{e:Expr}{es:List Expr}{f:SE}{g:SA}(ha:DE X e f)(hr:DA X es g)(hp:plainE e=true:=by rfl):DA X (e::es) (aB f g):=zbel ha hr (zpq hp)
def bBest (gt:Bool):List D->Store->Res D:=fun xs st=>match xs with
 | [x]=>match (seqOf st x).bind asInts with
  | some (n::ns)=>.ok (.int (bestI gt n ns)) st
  | _=>.stuck
 | _=>.stuck
def pairsF:List D->List D->List D
 | x::xs,y::ys=>.tup [x,y]::pairsF xs ys
 | _,_=>[]
def iZipT (g:SA):SA:=fun σ st=>(g σ st).bind fun xs st1=>match xs with
 | [.tup a,.tup b]=>.ok (pairsF a b) st1
 | _=>.stuck
theorem zkj:∀{xs ys:List D} {i:Nat} {d:D},(pairsF xs ys)[i]?=some d->∃x y,xs[i]?=some x/\ys[i]?=some y/\d=.tup [x,y]
 | [],_,_,_,h=>by simp[pairsF] at h
 | _::_,[],_,_,h=>by simp[pairsF] at h
 | x::xs,y::ys,0,d,h=>by
  simp[pairsF] at h;exact⟨x,y,rfl,rfl,h.symm⟩
 | x::xs,y::ys,i+1,d,h=>by
  simp only[pairsF,xgj] at h;obtain⟨x',y',h1,h2,h3⟩:=zkj h;exact⟨x',y',by simpa using h1,by simpa using h2,h3⟩
theorem zgx:∀{xs ys:List D},(pairsF xs ys).length=min xs.length ys.length
 | [],_=>by simp[pairsF]
 | _::_,[]=>by simp[pairsF]
 | _::xs,_::ys=>by simp[pairsF,zgx (xs:=xs) (ys:=ys)]
section
variable {X:Cx}{a b:Expr}{g:SA}{elts:List Expr}{k:Nat}{tpos p pos:Pos}
theorem zbjs (hg:Gl X "zip")(hm:X.mg "zip"=none)(ha:DA X [a, b] g)(hs:starEach [a, b] X.env=[(false, eval a X.env),(false, eval b X.env)]:=by rfl)(hs2:starEach [b] X.env=[(false, eval b X.env)]:=by rfl) :
  DI X (.Tuple elts k tpos) (.Call (.Name "zip" p) [a, b] [] pos) (iZipT g):=zxm (zbhj hg hm ha hs hs2) fun τ H R hq0=>by
 obtain⟨ρ,σ,st,xs,st',a,rp,e,q⟩:=hq0;obtain⟨x,st1,e1,e⟩:=zc e;refine⟨ρ,σ,st,x,st1,a,rp,e1,fun ρ1 H1 u x1 rp1 a1=>?_⟩;split at e
 ·rename_i as bs;cases e;obtain⟨u1,u2,rfl,b1,b2⟩:=a1.two;cases b1 with
  | tup h1 h2 h3 =>
   cases b2 with
   | tup k1 k2 k3 =>
    refine⟨_,_,rfl,⟨_,SqT.of h1⟩,⟨_,SqT.of k1⟩,q _ _ _ x1 rp1 ⟨fun ρ2 H2 x2 i d e=>?_,fun ρ2 H2 x2 i h=>?_⟩⟩
    ·obtain⟨x',y',ex,ey,rfl⟩:=zkj e;obtain⟨v1,hv1,av1⟩:=h3.get ex;obtain⟨v2,hv2,av2⟩:=k3.get ey;refine⟨⟨_,_,v1,v2,SqT.of (x2.out h1 h2).1,SqT.of (x2.out k1 k2).1,hv1,hv2⟩,fun y H3 hy=>?_⟩;obtain⟨p,hp,rfl,hH⟩:=hy;rw[hH _ _ _ _ (SqT.of (x2.out h1 h2).1) (SqT.of (x2.out k1 k2).1) hv1 hv2];exact⟨Ext.new hp _,fun st rp2=>⟨rp2.new hp _,At.newT rp2 hp (.cons (av1.extG x2) (.cons (av2.extG x2) .nil))⟩⟩
    ·rw[zgx] at h;exact⟨_,_,SqT.of (x2.out h1 h2).1,SqT.of (x2.out k1 k2).1,by rw[h3.length,k3.length];lia⟩
 ·cases e
end
def sSetG (bd:SG) (f:SE):SS:=fun σ st=>(f σ st).bind fun v st1=>match bd v σ with
 | some σ1=>.ok (.nx σ1) st1
 | none=>.stuck
end Dd
namespace Dd
open PySem L2 PyProof.Rows
structure JE (X:Cx) (e:Expr) (f:SE):Prop where out:DE X e f
structure JT (X:Cx) (e:Expr) (f:ST):Prop where out:DT X e f
structure JW (X:Cx) (e:Expr) (f:ST):Prop where out:DW X e f
structure JA (X:Cx) (e:List Expr) (f:SA):Prop where out:DA X e f
structure JS (X:Cx) (s:Stmt) (f:SS):Prop where out:DSt X s f
structure JB (X:Cx) (s:List Stmt) (f:SS):Prop where out:DSs X s f
structure JO (X:Cx) (e:Option Expr) (f:DS->Store->Res (Option Int)):Prop where out:DO X e f
structure JG (X:Cx) (e:Expr) (b:SG):Prop where out:DG X e b
structure JGs (X:Cx) (e:List Expr) (b:List D->DS->Option DS):Prop where out:DGs X e b
structure JI (X:Cx) (tg iter:Expr) (f:SA):Prop where out:DI X tg iter f
structure JIf (X:Cx) (ifs:List Expr) (c:ST):Prop where out:PIf X ifs (tDT X.K c)
structure JC (X:Cx) (op:CmpOp) (a b:Expr) (f:SE):Prop where out:PC X op a b (tD X.K f)
theorem JW.pt {X:Cx}{e:Expr}{t:ST}(h:JW X e t):JT X e t:=⟨PW.pt h.out⟩
section
variable {X:Cx}
theorem zb {e:Expr}{i:Nat}(h:PE X e (tVar i)):JE X e (aA i):=⟨zbnn h⟩
theorem zbke {e:Expr}{v:V}{d:D}(h:PE X e (tC v))(k:∀ρ H,At X.K ρ H d v):JE X e (eC d):=⟨zbeu h k⟩
theorem zg {i j pos}:JE X (.Constant (.int i) j pos) (eC (.int i)):=⟨zbnv⟩
theorem zwh {b j pos}:JE X (.Constant (.bool b) j pos) (eC (.bl b)):=⟨d_bl⟩
theorem zbeq {j pos}:JE X (.Constant .none j pos) (eC .non):=⟨zbns⟩
theorem zid {x j pos}:JE X (.Constant (.str x) j pos) (eC (.str x)):=⟨zbnp⟩
end
section
variable {X:Cx}{a b c:Expr}{f f' f'':SE}{pos:Pos}
theorem zbe {op:Operator}{r:R2}{g:D->D->Store->Res D}(ho:OpR X (binaryOp op) r)(hr:OpD X.K g r)(ha:JE X a f)(hb:JE X b f'):JE X (.BinOp a op b pos) (aW g f f'):=⟨d_op ho hr ha.out hb.out⟩
theorem zzg {op:CmpOp}{r:R2}{g:D->D->Store->Res D}(ho:OpR X (compareOp op) r)(hr:OpD X.K g r)(ha:JE X a f)(hb:JE X b f')(hm:behindInMarks op b=false):JE X (.Compare a [op] [b] pos) (aW g f f'):=⟨zbnw ho hr ha.out hb.out hm⟩
theorem zbw {op:CmpOp}{r:R2}{g:D->D->Store->Res D}(ho:OpR X (compareOp op) r)(hr:OpD X.K g r)(ha:JE X a f)(hb:JE X b f')(hm:behindInMarks op b=false):JT X (.Compare a [op] [b] pos) (eB (aW g f f')):=⟨zbjg ho hr ha.out hb.out hm⟩
end
section
variable {X:Cx}{a b:Expr}{rest:List Expr}{f f':SE}{t t':ST}{pos:Pos}
theorem zbjy (ha:JE X a f):JE X (.UnaryOp .Not a pos) (eNot f):=⟨zbnr ha.out⟩
theorem zkw {op}(h:JT X a t)(hop:op=.And\/op=.Or):JW X (.BoolOp op [a] pos) t:=⟨zbjb h.out hop⟩
theorem zkx (ha:JT X a t)(hb:JW X (.BoolOp .And (b::rest) pos) t'):JW X (.BoolOp .And (a::b::rest) pos) (bAnd t t'):=⟨zbjc ha.out hb.out⟩
theorem zbja (ha:JT X a t)(hb:JW X (.BoolOp .Or (b::rest) pos) t'):JW X (.BoolOp .Or (a::b::rest) pos) (bOr t t'):=⟨zbnj ha.out hb.out⟩
theorem zbdv (ha:JT X a t):JT X (.UnaryOp .Not a pos) (bNot t):=⟨zbje ha.out⟩
end
section
variable {X:Cx}{e:Expr}{es:List Expr}{f:SE}{g:SA}{pos:Pos}
theorem zd :JA X [] aC:=⟨zbjv⟩
theorem zdb {x1}(h:JA X es g):JE X (.Tuple es x1 pos) (aV g):=⟨zbno h.out⟩
theorem zka (h:JA X es g):JE X (.List es pos) (eLst g):=⟨zbnu h.out⟩
theorem zfy (h:JA X es g):JE X (.List es pos) (eLstM g):=⟨zbjz h.out⟩
end
section
variable {X:Cx}{a b e:Expr}{f f':SE}{pos:Pos}{lo hi:Option Expr}{l h:DS->Store->Res (Option Int)}
theorem zml :JO X none pNone:=⟨zbed⟩
theorem zmk (he:JE X e f):JO X (some e) (pSome f):=⟨zbec he.out⟩
theorem zil (ha:JE X a f)(hb:JE X b f')(hs:PlainIx b):JE X (.Subscript a b pos) (aW oIx f f'):=⟨d_ix ha.out hb.out hs⟩
theorem zbjw {p2:Pos}(he:JE X e f)(hl:JO X lo l)(hu:JO X hi h):JE X (.Subscript e (.Slice lo hi none p2) pos) (eSl f l h):=⟨d_sl he.out hl.out hu.out⟩
end
section
variable {X:Cx}{x:Str}{p pos:Pos}{e:Expr}{es:List Expr}{f:SA}{id T:String}{r:List V->Hp->VK->Prop}{g:List D->Store->Res D}
theorem zy (hc:CallR X (.builtin id) r)(hr:CaD X.K g r)(hg:Gl X x)(hm:X.mg x=none)(hv:bootBuiltins x=some (.builtin id))(ha:JA X (e::es) f)(hn:x≠"__name__":=by decide)(hdb:(x==("__debug__" : Str))=false:=by decide)(he:starEach (e::es) X.env=(false, eval e X.env)::starEach es X.env:=by rfl)(hpl:(backTo pos (starEach es X.env)).any (·.1)=false:=by rfl):JE X (.Call (.Name x p) (e::es) [] pos) (aE g f):=⟨zbev hc hr hg hm hv ha.out hn hdb he hpl⟩
theorem zbn (hc:CallR X (.type T) r)(hr:CaD X.K g r)(hg:Gl X x)(hm:X.mg x=none)(hv:bootBuiltins x=some (.type T))(ha:JA X (e::es) f)(hn:x≠"__name__":=by decide)(hdb:(x==("__debug__" : Str))=false:=by decide)(he:starEach (e::es) X.env=(false, eval e X.env)::starEach es X.env:=by rfl)(hpl:(backTo pos (starEach es X.env)).any (·.1)=false:=by rfl):JE X (.Call (.Name x p) (e::es) [] pos) (aE g f):=⟨zzi hc hr hg hm hv ha.out hn hdb he hpl⟩
end
section
variable {X:Cx}{a b c o i e value f':Expr}{f g h:SE}{pos pos' apos cpos:Pos}
theorem zwg :JE X (.Dict [] [] pos) eDNew:=⟨zbkc⟩
theorem zbhu (hu:X.A.units+1 < cLine)(hi:JE X i g)(ho:JE X o f):JC X .In i o (aW (oDIn false) g f):=⟨zbmp hu hi.out ho.out⟩
theorem zbjf {op:CmpOp}{t:SE}(h:JC X op a b t)(h1:behindInMarks op b=false:=by first | exact nobehind _ (by decide) (by decide) | rfl):JT X (.Compare a [op] [b] pos) (eB t):=⟨zbnk h.out h1⟩
theorem zbes (hu:X.A.units+1 < cLine)(ho:JE X o f)(hi:JE X i g)(hs:NoSl i):JE X (.Subscript o i pos) (aW oDGet f g):=⟨zbkd hu ho.out hi.out hs⟩
theorem zzf (hu:X.A.units + 1 < cLine)(ho:JE X o f)(he:JE X e g)(hf:JE X f' h)(m:M2 X o "get" apos e f' cpos):JE X (.Call (.Attribute o "get" apos) [e, f'] [] cpos) (eDGet2 f g h):=⟨zbet hu ho.out he.out hf.out m⟩
theorem zber (hu:X.A.units + 1 < cLine)(ho:JE X o f)(he:JE X e g)(m:M1 X o "pop" apos e cpos):JE X (.Call (.Attribute o "pop" apos) [e] [] cpos) (eDPop f g):=⟨zbkb hu ho.out he.out m⟩
theorem zrg (hu:X.A.units+1 < cLine)(ho:JE X o f)(hi:JE X i g)(hv:JE X value h)(hs:swapsWith value (some (.Subscript o i pos')) pos.line X.env=pure false):JS X (.Assign [.Subscript o i pos'] value pos) (sDPut f g h):=⟨zbdy hu ho.out hi.out hv.out hs⟩
end
section
variable {X:Cx}{o e i value:Expr}{es:List Expr}{f g h:SE}{ga:SA}{pos apos cpos:Pos}
theorem zch (ho:JE X o f)(ha:JA X (e::es) ga)(hbase:attributeBase o "append" X.env (eval o X.env)=eval o X.env:=by rfl)(hfew:((backTo cpos (starEach (e::es) X.env)).all (fun x=>!x.1)&&(backToKw cpos (keywordEach [] X.env)).all (fun x=>x.1.isSome)
 && decide ((e::es).length + ([]:List Keyword).length + (if([]:List Keyword).isEmpty then 0 else 1) < 30))=true:=by rfl) (hline:(apos.endLine==cpos.line)=true:=by rfl) (hs:starEach (e::es) X.env=(false, eval e X.env)::starEach es X.env:=by rfl) (hplain:(backTo cpos (starEach es X.env)).any (·.1)=false:=by rfl):JE X (.Call (.Attribute o "append" apos) (e::es) [] cpos) (eAppend f ga):=⟨zzj ho.out ha.out hbase hfew hline hs hplain⟩
theorem zut (ho:JE X o f)(ha:JA X (e::es) ga)(hbase:attributeBase o "extend" X.env (eval o X.env)=eval o X.env:=by rfl)(hfew:((backTo cpos (starEach (e::es) X.env)).all (fun x=>!x.1)&&(backToKw cpos (keywordEach [] X.env)).all (fun x=>x.1.isSome)
 && decide ((e::es).length + ([]:List Keyword).length + (if([]:List Keyword).isEmpty then 0 else 1) < 30))=true:=by rfl) (hline:(apos.endLine==cpos.line)=true:=by rfl) (hs:starEach (e::es) X.env=(false, eval e X.env)::starEach es X.env:=by rfl) (hplain:(backTo cpos (starEach es X.env)).any (·.1)=false:=by rfl):JE X (.Call (.Attribute o "extend" apos) (e::es) [] cpos) (eExtend f ga):=⟨zze ho.out ha.out hbase hfew hline hs hplain⟩
theorem zbep (ho:JE X o f)(hbase:attributeBase o "pop" X.env (eval o X.env)=eval o X.env:=by rfl)(hline:(apos.endLine==cpos.line)=true:=by rfl):JE X (.Call (.Attribute o "pop" apos) [] [] cpos) (ePop f):=⟨zbnq ho.out hbase hline⟩
theorem zwf (ho:JE X o f):JE X o (eFz f):=⟨d_fz ho.out⟩
end
section
variable {X:Cx}{e c o i value:Expr}{sm:Stmt}{rest:List Stmt}{f g h:SE}{s t:SS}{b:ST}{pos pos':Pos}
theorem zcu :JB X [] sNx:=⟨zbjm⟩
theorem zbi (he:JE X e f):JS X (.Return (some e) pos) (sRet f):=⟨zbjk he.out⟩
theorem zbz (he:JE X e f)(hs:swapsWith e none pos.line X.env=pure false:=by rfl):JS X (.Expr e pos) (sDrop f):=⟨zbdx he.out hs⟩
theorem zl {i:Nat}{x:Str}(hN:X.N.Nodup)(hi:X.N[i]?=some x)(hx:L2.Loc X.env.scope x)(he:JE X e f)(hs:swapsWith e (some (.Name x pos')) pos.line X.env=pure false:=by rfl)(hf:X.fn x=true\/X.env.scope.names.lookup x=some .local:=by first | exact .inl rfl | exact .inr rfl | assumption):JS X (.Assign [.Name x pos'] e pos) (aF i f):=⟨zbjj hN hi hx he.out hs hf⟩
theorem zh (h1:JS X sm s):JB X [sm] s:=⟨zbjl h1.out⟩
theorem ze (h1:JS X sm s)(h2:JB X rest t):JB X (sm::rest) (aD s t):=⟨zbdz h1.out h2.out⟩
theorem zfk {a' b':List Stmt}(hc:JT X c b)(ha:JB X a' s)(hb:JB X b' t):JS X (.If c a' b' pos) (sIf b s t):=⟨zbnl hc.out ha.out hb.out⟩
theorem zbea {i:Nat}{x:Str}{op:Operator}{ti:TIp}{g:D->D->Store->Res D}(hN:X.N.Nodup)(hi:X.N[i]?=some x)(hx:L2.Loc X.env.scope x)(he:JE X e f)(ho:PIp X op ti)(hr:IpD X.K g ti)(hf:X.fn x=true\/X.env.scope.names.lookup x=some .local:=by first | exact .inl rfl | exact .inr rfl | assumption):JS X (.AugAssign (.Name x pos') op e pos) (sAug i g f):=⟨zbjo hN hi hx he.out ho hr hf⟩
theorem zob (he:JE X value h)(ho:JE X o f)(hi:JE X i g)(ha:∀v,assign (.Subscript o i pos') X.env v=(do
 let ov ← holding [v] (eval o X.env)
 let iv ← holding [v,ov] (eval i X.env)
 standAt pos'
 holding [v,ov,iv] (setItem ov iv v)
 release [v,ov,iv] []):=by intro _;rfl) (hs:swapsWithSole [.Subscript o i pos'] value pos.line X.env=pure false:=by rfl) (hw:swappedStores [.Subscript o i pos'] value X.env=pure none:=by rfl) (h1:(assignEach [.Subscript o i pos'] X.env).map (·.2)=[assign (.Subscript o i pos') X.env]:=by rfl):JS X (.Assign [.Subscript o i pos'] value pos) (sSetIx f g h):=⟨zyz he.out ho.out hi.out ha hs hw h1⟩
end
section
variable {X:Cx}{pos:Pos}{e:Expr}{es:List Expr}{t:SG}{u:List D->DS->Option DS}
theorem zf {i:Nat}{x:Str}(hN:X.N.Nodup)(hi:X.N[i]?=some x)(hx:L2.Loc X.env.scope x)(hf:X.fn x=true\/X.env.scope.names.lookup x=some .local:=by first | exact .inl rfl | exact .inr rfl | assumption):JG X (.Name x pos) (gN i):=⟨zbei hN hi hx hf⟩
theorem zcv :JGs X [] gsNil:=⟨zbeh⟩
theorem zr (h1:JG X e t)(h2:JGs X es u)(hs:(assignEach (e::es) X.env).map (·.2)=assign e X.env::(assignEach es X.env).map (·.2):=by rfl):JGs X (e::es) (gsCons t u):=⟨zzc h1.out h2.out hs⟩
theorem zek {k:Nat}{n:Nat}(hc:X.calm=true)(h:JGs X es u)(hn:(assignEach es X.env).length=n:=by rfl)(hst:(assignEach es X.env).findIdx? (·.1)=none:=by rfl):JG X (.Tuple es k pos) (gT n u):=⟨zbju hc h.out hn hst⟩
end
section
variable {X:Cx}{tg l a b:Expr}{f:SE}{g:SA}{p pos:Pos}
theorem zbo (hl:JE X l f):JI X tg l (aH f):=⟨zbjt hl.out⟩
theorem zci (hg:Gl X "range")(hm:X.mg "range"=none)(ha:JA X [a] g)(hs:starEach [a] X.env=[(false, eval a X.env)]:=by rfl):JI X tg (.Call (.Name "range" p) [a] [] pos) (iR1 g):=⟨zum hg hm ha.out hs⟩
theorem zic (hg:Gl X "range")(hm:X.mg "range"=none)(ha:JA X [a, b] g)(hs:starEach [a, b] X.env=[(false, eval a X.env),(false, eval b X.env)]:=by rfl)(hs2:starEach [b] X.env=[(false, eval b X.env)]:=by rfl):JI X tg (.Call (.Name "range" p) [a, b] [] pos) (iR2 g):=⟨zul hg hm ha.out hs hs2⟩
end
section
variable {X:Cx}{tg l:Expr}{f:SE}
theorem zzb (hl:JE X l f):JI X tg l (iDict f):=⟨zbeg hl.out⟩
end
section
variable {X:Cx}{tg iter c:Expr}{body:List Stmt}{it:SA}{bd:SG}{b:SS}{t:ST}{pos:Pos}
theorem zbx (hp:PassesOwn (model X.prog X.w) X.A X.env X.xe)(hc:X.calm=true)(hi:JI X tg iter it)(hg:JG X tg bd)(hb:JB X body b)(hs:∀x,foldedSetIterable iter X.env x=pure x:=by intro _;rfl):JS X (.For tg iter body [] pos) (sFor it bd b):=⟨zbjn hp hc hi.out hg.out hb.out hs⟩
theorem zhh (hp:PassesOwn (model X.prog X.w) X.A X.env X.xe)(hc:JT X c t)(hb:JB X body b):JS X (.While c body [] pos) (sWhile t b):=⟨zyy hp hc.out hb.out⟩
end
section
variable {X:Cx}{tg iter elt:Expr}{ifs:List Expr}{it:SA}{bd:SG}{c:ST}{f:SE}{N:List Str}{k:Nat}{is:List Nat}{scope:Scope}{pos:Pos}
theorem zdn (hcalm:X.calm=true)(hi:JI X tg iter it)(hg:∀cl C fp s H,JG (cxC X N scope cl C fp s H) tg bd)(hc:∀cl C fp s H,JIf (cxC X N scope cl C fp s H) ifs c)(he:∀cl C fp s H,JE (cxC X N scope cl C fp s H) elt f)(S:CompScope X N k is scope)(hs:∀x,foldedSetIterable iter X.env x=pure x:=by intro _;rfl):JE X (.ListComp elt [⟨tg,iter,ifs,0⟩] scope pos) (aG it k is bd c f):=⟨zbkf hcalm hi.out (fun cl C fp s H=>(hg cl C fp s H).out) (fun cl C fp s H=>(hc cl C fp s H).out) (fun cl C fp s H=>(he cl C fp s H).out) S hs⟩
theorem zrf {i:Nat}{x:Str}{pos' spos:Pos}(hcalm:X.calm=true)(hN:X.N.Nodup)(hxi:X.N[i]?=some x)(hx:L2.Loc X.env.scope x)(hi:JI X tg iter it)(hg:∀cl C fp s H,JG (cxC X N scope cl C fp s H) tg bd)(hc:∀cl C fp s H,JIf (cxC X N scope cl C fp s H) ifs c)(he:∀cl C fp s H,JE (cxC X N scope cl C fp s H) elt f)(S:CompScope X N k is scope)(hsw:swapsWith (.ListComp elt [⟨tg,iter,ifs,0⟩] scope pos) (some (.Name x pos')) spos.line X.env=pure true:=by rfl)(hf:X.fn x=true\/X.env.scope.names.lookup x=some .local:=by first | exact .inl rfl | exact .inr rfl | assumption)(hs:∀x,foldedSetIterable iter X.env x=pure x:=by intro _;rfl):JS X (.Assign [.Name x pos'] (.ListComp elt [⟨tg,iter,ifs,0⟩] scope pos) spos) (aF i (aG it k is bd c f)):=⟨zbdw hcalm hN hxi hx hi.out (fun cl C fp s H=>(hg cl C fp s H).out) (fun cl C fp s H=>(hc cl C fp s H).out) (fun cl C fp s H=>(he cl C fp s H).out) S hsw hf hs⟩
theorem zcm {X:Cx}:JIf X [] aI:=⟨zbef⟩
theorem zmm {X:Cx}{c:Expr}{t:ST}(h:JT X c t):JIf X [c] t:=⟨zbee h.out⟩
end
section
variable {X:Cx}{x:Str}{k:Nat}{ps:List Str}{F:DFn}{p pos:Pos}{e:Expr}{es:List Expr}{g:SA}
theorem zbd (c:CalD X.prog X.w X.K X.mg X.base x k ps F)(hn:∀ ds st v st', F ds st=.ok v st'->ds.length=ps.length)(hr:Room k X.A)(hg:Gl X x)(ha:JA X (e::es) g)(hdb:(x==("__debug__" : Str))=false:=by decide)(he:starEach (e::es) X.env=(false, eval e X.env)::starEach es X.env:=by rfl)(hpl:(backTo pos (starEach es X.env)).any (·.1)=false:=by rfl):JE X (.Call (.Name x p) (e::es) [] pos) (aE F g):=⟨zbkg c hn hr hg ha.out hdb he hpl⟩
end
section
theorem zbl {P:Program}{w:World}{K:Fg}{mg:Str->Option Value}{base h:Heap}{x:Str}{st:Stmt}{N ps:List Str}{k:Nat}{b:SS}(T:TopF K x st)(X:K.In h)(G:h.Ns mainGlobals mg)(S:FnScope N ps (defScope st))(bd:∀(kV doc pm:Value) (an:Option Addr) (cdv ct:Value) (us:List Value),us.length=ps.length->bindArgs (W.fnOf x x (defArgs st) (defBody st) (defScope st) .none kV doc pm an cdv ct) ⟨us,[]⟩=pure (ps.zip us))(hbody:∀(f:Addr) (cdv:Value) (A:Around) (outer:List Env) (s:Shared) (H:Hp) (E:XK),Room k (A.deeper (envOfC x (defScope st) s.heap.objs.size f cdv)) ->
 JB (cxOf CX0 P w K mg base N x (defScope st) f cdv A outer s H E).nox (defBody st) b):CalD P w K mg base x (k+1) ps (fnD N.length ps.length b):=zbfk T X G S bd (fun f cdv A outer s H E rr=>(hbody f cdv A outer s H E rr).out)
end
section
end
section
variable {X:Cx}{a b c e:Expr}{f f' f'':SE}{pos:Pos}{sm:Stmt}
theorem zpe (h:JE X a f):JE X (.UnaryOp .USub a pos) (eUn oNeg f):=⟨zbnt h.out⟩
theorem zuj {op op':CmpOp}{r r':R2}{g g':D->D->Store->Res D}(ho:OpR X (compareOp op) r)(ho':OpR X (compareOp op') r')(hr:OpD X.K g r)(hr':OpD X.K g' r')(ha:JE X a f)(hb:JE X b f')(hc:JE X c f'')(hm:lastMarks [op,op'] [b,c]=false:=by with_unfolding_all rfl):JT X (.Compare a [op,op'] [b,c] pos) (eB (eChain g g' f f' f'')):=⟨zyx ho ho' hr hr' ha.out hb.out hc.out hm⟩
theorem zky (h:JE X a f)(he:∀whole,isTrue a X.env whole=(do let v ← whole;standAt a.pos;holding [v] (truthy v)):=by intro _;rfl):JT X a (eTru f):=⟨zbjd h.out he⟩
end
section
variable {X:Cx}{l:Expr}{f:SE}{elts:List Expr}{k j:Nat}{tpos p pos kpos cpos:Pos}
theorem zun (hg:Gl X "enumerate")(hm:X.mg "enumerate"=none)(hl:JE X l f)(he:starEach [l] X.env=[(false, eval l X.env)]:=by rfl):JI X (.Tuple elts k tpos) (.Call (.Name "enumerate" p) [l] [⟨some "start", .Constant (.int 1) j cpos, kpos⟩] pos) (iEnum f):=⟨zza hg hm hl.out he⟩
end
section
variable {X:Cx}{tg iter elt:Expr}{ifs:List Expr}{it:SA}{bd:SG}{c:ST}{f:SE}{N:List Str}{k:Nat}{is:List Nat}{scope:Scope}{pos:Pos}
end
section
theorem za {X:Cx}{e:Expr}{es:List Expr}{f:SE}{g:SA}(ha:JE X e f)(hr:JA X es g)(hp:plainE e=true:=by rfl):JA X (e::es) (aB f g):=⟨zzd ha.out hr.out hp⟩
end
section
variable {X:Cx}{a b:Expr}{g:SA}{elts:List Expr}{k:Nat}{tpos p pos:Pos}
theorem zwd (hg:Gl X "zip")(hm:X.mg "zip"=none)(ha:JA X [a, b] g)(hs:starEach [a, b] X.env=[(false, eval a X.env),(false, eval b X.env)]:=by rfl)(hs2:starEach [b] X.env=[(false, eval b X.env)]:=by rfl):JI X (.Tuple elts k tpos) (.Call (.Name "zip" p) [a, b] [] pos) (iZipT g):=⟨zbjs hg hm ha.out hs hs2⟩
end
section
end
end Dd
namespace L2
open PySem PySem.Spec PyProof.Rows
section
variable {prog:Program}{w:World}{A:Around}{R:Result->Shared->Prop}{I:Addr}{fp wr:List Addr}{n:Nat}{P:Nat->Value->Prop}{St:Nat->Heap->Prop}
def Kept (P:Nat->Value->Prop) (bt:Nat->Nat->Bool):Nat->Array Value->Prop
 | 0,xs=>xs=#[]
 | j+1,xs=>∃v,xs=#[v,v]/\P (argBest bt j) v
theorem ztx (W:Walks prog w A.in1 I fp wr n P St)(bt:Nat->Nat->Bool)(hcmp:CmpOf prog w A.in1 .Gt P bt)(S:Addr)(hSf:S∉fp)(d:Value) :
  ∀(k j:Nat) (s:Shared) (xs:Array Value) (c:Nat),j+k=n->St j s.heap->Kept P bt j xs ->
  s.heap.get? S=some { cls:=.type "list", dict:=none, data:=.seq xs c, slots:=#[] } ->
  (∀v h' tk,(n=0/\v=d\/0 < n/\P (argBest bt (n - 1)) v)->(∀b o,b∉wr->b≠S->s.heap.get? b=some o->h'.get? b=some o)->R (.ok (.ret v)) {s with heap:=h',toks:=tk}) ->
  codeAny (model prog w) A (.builtin "max.loop" ⟨[.ref I, .none, .ref S],[(Str.ofString "default", d)]⟩) R s:=by
 have nm:(toString "max"++toString ".loop" : String)="max.loop":=by decide
 have out:S∉wr:=fun h=>hSf (W.sub _ h)
 intro k
 induction k with
 | zero =>
  intro j s xs c hj hst hk hS fin;have hj:j=n:=by lia
  subst hj;refine xkn F.entry_max_loop ?_;rw[Around.under_plainId xhg _];refine xba (xgo hS rfl (xba (wpAny_tryCatch (W.done s _ _ hst fun h' tk keep=>?_))));cases j with
  | zero =>
   subst hk;exact xba (xgu (xbe (fin d _ _ (.inl ⟨rfl,rfl⟩) fun b o h1 _ e=>keep b o h1 e)))
  | succ j =>
   obtain⟨v,rfl,hv⟩:=hk;refine xba (wpAny_updateSeq (keep S _ out hS) rfl (xba (xiv (xbe ?_))));exact fin v _ _ (.inr ⟨Nat.succ_pos _,hv⟩) fun b o h1 h2 e=>(xcp _ _ (xct h2)).trans (keep b o h1 e)
 | succ k ih =>
  intro j s xs c hj hst hk hS fin;refine xkn F.entry_max_loop ?_;rw[Around.under_plainId xhg _];refine xba (xgo hS rfl (xba (wpAny_tryCatch (W.item j s _ _ (by lia) hst fun v h' tk hP hst' keep=>?_))));have hS':=keep S _ out hS;have go:∀(ys:Array Value) (c':Nat) (h2:Heap), Kept P bt (j + 1) ys->h2.get? S=some { cls:=.type "list", dict:=none, data:=.seq ys c', slots:=#[] }->(∀ b, b≠S->h2.get? b=h'.get? b) ->
    codeAny (model prog w) A (.builtin "max.loop" ⟨[.ref I, .none, .ref S],[(Str.ofString "default", d)]⟩) R { s with heap:=h2, toks:=tk }:=fun ys c' h2 hk2 e2 same =>
   ih (j+1) {s with heap:=h2,toks:=tk} ys c' (by lia) (W.frame _ _ _ hst' fun b hb o e=>(same b fun z=>hSf (by rw[← z];exact hb)).trans e) hk2 e2
    fun v' h3 tk3 q keep3=>fin v' h3 tk3 q fun b o b1 b2 e=>keep3 b o b1 b2 ((same b b2).trans (keep b o b1 e))
  cases j with
  | zero =>
   subst hk;refine xba (xbe (xba (wpAny_updateSeq hS' rfl ?_)));rw[nm];exact xbe ⟨xld xhg _,go #[v,v] _ _ ⟨v,rfl,hP⟩ (xep _ hS' rfl) fun b hb=>xcp _ _ (xct hb)⟩
  | succ j =>
   obtain⟨vb,rfl,hv⟩:=hk;refine xba (xbe (xba (wpAny_tryCatch (xdm (xba (hcmp (j+1) (argBest bt j) v vb _ _ _ hP hv (xba (xdm (xex (xba (xiv (xbe ?_))))))))))));cases hb:bt (j+1) (argBest bt j) with
   | true =>
    rw[if_pos rfl];refine xba (wpAny_updateSeq hS' rfl (xba (xiv ?_)));rw[nm];exact xbe ⟨xld xhg _,go #[v,v] _ _ ⟨v,rfl,by rw[argBest,hb,if_pos rfl];exact hP⟩ (xep _ hS' rfl) fun b hb=>xcp _ _ (xct hb)⟩
   | false =>
    rw[if_neg (by decide)];refine xba (xiv ?_);rw[nm];exact xbe ⟨xld xhg _,go #[vb,vb] _ _ ⟨vb,rfl,by rw[argBest,hb,if_neg (by decide)];exact hv⟩ hS' fun b _=>rfl⟩
end
theorem zzn (a d:Value):checkBuiltinCall "max" ⟨[a],[(Str.ofString "default", d)]⟩=pure ():=by kernel_rfl
theorem zvc (d:Value):Builtin.Builtins.bindParams "max" ["key", "default"] 0 ⟨[],[(Str.ofString "default", d)]⟩=pure [none, some d]:=rfl
section
variable {prog:Program}{w:World}{A:Around}{E:Value->Shared->Prop}{s:Shared}
theorem ztw {x d:Value}{Q:Value->Shared->Prop}
  (h:wpAny (model prog w) A.in1 (pyIter x) (fun it s₂=>∃I fp wr n P St bt,it=.ref I/\Walks prog w A.in1 I fp wr n P St/\St 0 s₂.heap/\(∀b∈fp,b < s₂.heap.objs.size)/\CmpOf prog w A.in1 .Gt P bt /\
   ∀v h' tk,(n=0/\v=d\/0 < n/\P (argBest bt (n - 1)) v)->(∀b o,b∉wr->s₂.heap.get? b=some o->h'.get? b=some o)->Q v {s₂ with heap:=h',toks:=tk}) E s) :
  wpAny (model prog w) A (call (.builtin "max") [x] [(Str.ofString "default", d)]) Q E s:=by
 have nm:(toString "max"++toString ".loop" : String)="max.loop":=by decide
 refine xip (xiq F.plain_max F.entry_max ?_);rw[zzn];refine xbe ?_;refine xba (wpAny_of_eq (zvc d) (xba (xbe (xba (xdh h (fun it s₂ h₂=>?_) fun _ _ e=>e)))));obtain⟨I,fp,wr,n,P,St,bt,rfl,W,hst,low,hcmp,fin⟩:=h₂;refine xba (xdb ?_);rw[nm];refine xbe ⟨xld xhg _,ztx W bt hcmp s₂.heap.objs.size (fun z=>xfg _ (low _ z)) d n 0 _ #[] _ (by lia) (W.frame _ _ _ hst fun b _ o e=>xbb _ e) rfl (xbk _ rfl) fun v h' tk q keep=>?_⟩;exact fin v h' tk q fun b o hb e=>keep b o hb (xbv (xbi e)) (xbb _ e)
end
def topI (d:Int):List Int->Int
 | []=>d
 | n::ns=>bestI true n ns
def rMaxD (K:Fg) (d:Int):List V->Hp->VK->Prop:=fun xs H Q=>∃(a:Addr) (ns:List Int),xs=[.ref a]/\(SqL K H a (ns.map V.int)\/SqT K H a (ns.map V.int))/\Q (.int (topI d ns)) H
section
variable {X:Cx}{p pos cpos kpos:Pos}{l:Expr}{t:TA}{d:Int}{j:Nat}
end
section
open PySem.AutoSeq1
end
end L2
namespace Dd
open PySem L2
def bMaxD (d:Int):List D->Store->Res D:=fun xs st=>match xs with
 | [x]=>match (seqOf st x).bind asInts with
  | some ns=>.ok (.int (topI d ns)) st
  | none=>.stuck
 | _=>.stuck
theorem zbfs {K:Fg}{d:Int}:CaD K (bMaxD d) (rMaxD K d):=fun ρ H st xs us z st' Q rp aa e q=>by
 unfold bMaxD at e;split at e
 ·split at e
  ·rename_i ns h;cases e;obtain⟨ys,h0,h⟩:=xef.mp h;obtain⟨u,rfl,a⟩:=aa.one;obtain⟨p,vs,rfl,h1,h2⟩:=zho rp a h0;have e:=zdy h2 h;subst e;exact⟨p,ns,rfl,h1,q _ _ _ (.refl _ _) rp (.int _)⟩
  ·cases e
 ·cases e
section
variable {X:Cx}{p pos cpos kpos:Pos}{l:Expr}{f:SA}{d:Int}{j:Nat}
end
section
variable {X:Cx}{o e:Expr}{es:List Expr}{f:SE}{ga:SA}{apos cpos:Pos}
end
end Dd
namespace L2
open PySem PySem.Spec PyProof.Rows
section
variable {X:Cx}{p pos cpos kpos upos:Pos}{l:Expr}{t:TA}{d:Int}{j:Nat}
theorem zxq (hc:X.calm=true)(hg:Gl X "max")(hm:X.mg "max"=none)(ha:PA X [l] t)
  (he:backTo pos (starEach [l] X.env)=(false,eval l X.env)::backTo pos (starEach [] X.env):=by rfl)(hpl:(backTo pos (starEach [l] X.env)).any (·.1)=false:=by rfl) :
  PE X (.Call (.Name "max" p) [l] [⟨some "default", .UnaryOp .USub (.Constant (.int d) j cpos) upos, kpos⟩] pos) (tCB (rMaxD X.K (-d)) t):=by
 intro aY s σ H Q I h;refine xfe (zjt I hg hm PyProof.Rows.boot_max ?_);refine callWith_kw (thn (ha pos aY s σ H _ I h) fun us s1 hq0=>?_) he hpl;obtain⟨vs,H1,I1,r1,q1⟩:=hq0;obtain⟨a,ns,rfl,hs,q⟩:=q1;obtain⟨u,rfl,ru⟩:=vals1 r1;cases ru;refine kws_cons (thn (zblo (X:=X) (pos:=upos) zbao (zbbv (i:=d) (j:=j) (pos:=cpos)) aY s1 σ H1 (fun v H'=>v=.int (-d)/\H'=H1) I1 ⟨d,rfl,rfl,rfl⟩) fun dv s2 ⟨x,H2,I2,r2,q2⟩=>kws_nil ?_);obtain⟨rfl,rfl⟩:=q2;obtain⟨tk0,rfl⟩:∃tk,dv=.int (-d) tk:=r2
 refine ztw (zsk hc I2 hs fun I' fp wr P St s2 W st low val keep=>?_);refine⟨I',fp,wr,_,P,St,_,rfl,W,st,low,CmpOf.ints_gt (fun i=>ns.getD i 0) val,fun v h' tk hP hk=>?_⟩;cases ns with
 | nil =>
  rcases hP with⟨_,rfl⟩ | ⟨z,_⟩
  ·exact⟨.int (-d),H2,keep h' tk hk,⟨_,rfl⟩,q⟩
  ·exact absurd z (by simp)
 | cons n ns =>
  rcases hP with⟨z,_⟩ | ⟨_,hP⟩
  ·exact absurd z (by simp)
  ·obtain⟨t,rfl⟩:=val _ _ hP;rw[zrx (by simp)];exact⟨.int (bestI true n ns),H2,keep h' tk hk,⟨_,rfl⟩,q⟩
end
end L2
namespace Dd
open PySem L2 PyProof.Rows
section
variable {X:Cx}{p pos cpos kpos upos:Pos}{l:Expr}{f:SA}{d:Int}{j:Nat}
theorem zrn (hc:X.calm=true)(hg:Gl X "max")(hm:X.mg "max"=none)(ha:JA X [l] f)
 (he:backTo pos (starEach [l] X.env)=(false,eval l X.env)::backTo pos (starEach [] X.env):=by rfl)(hpl:(backTo pos (starEach [l] X.env)).any (·.1)=false:=by rfl) :
 JE X (.Call (.Name "max" p) [l] [⟨some "default", .UnaryOp .USub (.Constant (.int d) j cpos) upos, kpos⟩] pos) (aE (bMaxD (-d)) f):=⟨zfp (zxq hc hg hm ha.out he hpl) (zbkn zbfs)⟩
end
end Dd
namespace L2
open PySem PySem.Spec PyProof.Rows
section
variable {X:Cx}
end
theorem zko:fillsNumberSlot (.type "tuple") "mul"=pure false :=
 PySem.fillsNumberSlot_seq (id:="tuple.__mul__") (r:=some (.builtin "tuple.__rmul__")) xin.lookup (by decide +kernel) F.slot_tuple_rmul.lookup (by decide +kernel)
theorem zbba:seqRepeat? (.type "tuple")=pure (some (.builtin "tuple.__mul__")):=by
 unfold seqRepeat?;rw[PySem.seqSlot_of (T:="tuple") (name:="__mul__") (id:="tuple.__mul__") xin.lookup (by decide +kernel), PySem.seqSlot_of (T:="tuple") (name:="__rmul__") (id:="tuple.__rmul__") F.slot_tuple_rmul.lookup (by decide +kernel)]
 rfl
theorem zwz (a:Int)(t:Tok)(l:Addr)(items:Array Value)(n:Nat)(dd:Option Addr)(sl:Array (Option Value)) :
  Meets (Builtin.«int.__rmul__» ⟨[.int a t, .ref l],[]⟩) (fun _ R s=>s.heap.get? l=some { cls:=.type "tuple", dict:=dd, data:=.seq items n, slots:=sl }/\R (.ok (.ret Value.notImplemented)) s) :=
 .of_wp fun prog w A R s h=>by
  obtain⟨hp,g,d,tk,os⟩:=s;obtain⟨hl,h⟩:=h
  wp_walk
  exact⟨_,rfl,h⟩
theorem nb {b:Bool}(h:b=false):decide (b=true)=false:=by rw[h];rfl
section
open PySem.AutoSeq1
variable (l:Addr)(items:Array Value)(n:Nat)(dd:Option Addr)(sl:Array (Option Value))(x:Int)(u:Tok)
theorem ztq (lo:-1000000<=x)(hx:x<=0)(ne:items.isEmpty=false) :
  Meets (Builtin.«tuple.__mul__» ⟨[.ref l, .int x u],[]⟩) (fun _ R s=>s.heap.get? l=some { cls:=.type "tuple", dict:=dd, data:=.seq items n, slots:=sl }/\R (.ok (.ret (.ref s.heap.objs.size))) { s with heap:=s.heap.push { cls:=.type "tuple", data:=.seq #[] } }) :=
 .of_wp fun prog w A R s h=>by
  obtain⟨hp,g,d,tk,os⟩:=s;obtain⟨hl,h⟩:=h
  wp_walk
  try
   refine xfo ?c1 ?_
   case c1=>exact nb (by rw[xgd];exact⟨xbt (by lia),xbt (by lia)⟩)
   wp_walk
  try
   refine xfo ?c1 ?_
   case c1=>exact nb (by rw[xgd];exact⟨ne,beq_false_of_ne (by lia)⟩)
   wp_walk
  try
   refine wpAny_ite_true ?c1 ?_
   case c1=>exact yb (by rw[xlw];exact .inl (xcv hx))
   wp_walk
  exact⟨_,rfl,h⟩
theorem zyd (hx:x=1) :
  Meets (Builtin.«tuple.__mul__» ⟨[.ref l, .int x u],[]⟩) (fun _ R s=>s.heap.get? l=some { cls:=.type "tuple", dict:=dd, data:=.seq items n, slots:=sl }/\R (.ok (.ret (.ref l))) s) :=
 .of_wp fun prog w A R s h=>by
  obtain⟨hp,g,d,tk,os⟩:=s;obtain⟨hl,h⟩:=h
  wp_walk
  try
   refine xfo ?c1 ?_
   case c1=>exact nb (by rw[xgd];exact⟨xbt (by lia),xbt (by lia)⟩)
   wp_walk
  try
   refine wpAny_ite_true ?c1 ?_
   case c1=>exact yb (by rw[xlw];exact .inr (by rw[hx];rfl))
   wp_walk
  exact⟨_,rfl,h⟩
theorem ztr (hx:2<=x)(hi:x<=1000000)(ne:items.isEmpty=false)(hz:((items.size:Nat):Int) * x<=1000000)(c4:Builtin.Tuple.tupleTooMany (((items.size:Nat):Int) * x)=false)
  (hsz:(List.foldl (fun x1 x2=>x1++x2) #[] (List.replicate x.toNat items)).size<=sizeLine) :
  Meets (Builtin.«tuple.__mul__» ⟨[.ref l, .int x u],[]⟩) (fun _ R s=>s.heap.get? l=some { cls:=.type "tuple", dict:=dd, data:=.seq items n, slots:=sl }/\R (.ok (.ret (.ref s.heap.objs.size))) { s with heap:=s.heap.push { cls:=.type "tuple", data:=.seq (List.foldl (fun x1 x2=>x1++x2) #[] (List.replicate x.toNat items)) } }) :=
 .of_wp fun prog w A R s h=>by
  obtain⟨hp,g,d,tk,os⟩:=s;obtain⟨hl,h⟩:=h
  wp_walk
  try
   refine xfo ?c1 ?_
   case c1=>exact nb (by rw[xgd];exact⟨xbt (by lia),xbt (by lia)⟩)
   wp_walk
  try
   refine xfo ?c1 ?_
   case c1=>exact nb (by rw[xgd];exact⟨ne,beq_false_of_ne (by lia)⟩)
   wp_walk
  try
   refine xfo ?c1 ?_
   case c1=>exact nb (by rw[xgd];exact⟨xbt (by lia),ne⟩)
   wp_walk
  try
   refine xfo ?c1 ?_
   case c1=>exact xbt (by lia)
   wp_walk
  try
   refine xfo ?c1 ?_
   case c1=>exact nb c4
   wp_walk
  try (refine xfo (xbt (Nat.not_lt.mpr hsz)) ?_;wp_walk)
  exact⟨_,rfl,h⟩
end
def timesL {α:Type} (xs:List α) (n:Int):List α:=(List.replicate n.toNat xs).flatten
theorem zku {α:Type}(xs:List α):∀(n:Nat) (acc:List α),(List.foldl (fun(x1 x2:Array α)=>x1++x2) acc.toArray (List.replicate n xs.toArray))=(acc++(List.replicate n xs).flatten).toArray
 | 0,acc=>by simp
 | n+1,acc=>by
  rw[xeo,xkl,xeo,xgf,← xbr,← zku xs n (acc++xs)]
  congr 1
  simp
theorem Vals.times {xs:List V}{us:List Value}(r:Vals xs us):∀n:Nat,Vals (List.replicate n xs).flatten (List.replicate n us).flatten
 | 0=>.nil
 | n+1=>by
  rw[xeo,xgf,xeo,xgf];exact r.append (Vals.times r n)
def rMulT (K:Fg):R2:=fun x y H Q=>∃t xs n,x=.ref t/\y=.int n/\SqT K H t xs/\xs≠[]/\-1000000<=n/\n<=1000000/\(xs.length:Int) * n<=1000000/\(n=1->Q (.ref t) H)/\(n≠1->∀p,H p=none->Q (.ref p) (upd H p (.tup (timesL xs n))))
theorem zjl {α:Type}(xs:List α):∀n:Nat,(List.replicate n xs).flatten.length=n * xs.length
 | 0=>by simp
 | n+1=>by rw[xeo,xgf,xbs,zjl xs n,Nat.succ_mul];lia
theorem znh {X:Cx}:OpR X (binaryOp .Mult) (rMulT X.K):=by
 intro aY s σ H x y v u Q I r1 r2 h;obtain⟨t,xs,n,rfl,rfl,ht,ne,lo,hi,hz,q1,q2⟩:=h;cases r1;obtain⟨tk,rfl⟩:=r2;obtain⟨its,r,⟨o,e,ty,m,dt⟩,z⟩:=I.tuple ht;obtain⟨cls,dd,data,sl⟩:=o;dsimp only at ty dt;subst ty dt;have len:=r.length;have ne':its.toArray.isEmpty=false:=by
  cases its with
  | nil=>cases r;exact absurd rfl ne
  | cons a l=>rfl
 have road:∀{Q':Value->Shared->Prop}, wpAny (model X.prog X.w) X.A (call (.builtin "tuple.__mul__") [.ref t, .int n tk]) Q' X.xe s->wpAny (model X.prog X.w) X.A (binaryOp .Mult (.ref t) (.int n tk)) Q' X.xe s:=fun {Q'} hq =>
  wpAny_binaryOp_repeat_ref (T:="tuple") (U:="int") (by decide) ⟨_, e, rfl⟩ (fun s'=>typeIs_int s' n tk) zko F.fills_int_mul F.slot_int_rmul zbba F.slot_int_index.lookup
   (xgs F.slot_int_rmul (typeIs_int s n tk) F.entry_int_rmul (F.args_int_rmul_2 _ _) (zwz n tk t its.toArray m dd sl) ⟨e,rfl,⟨_,e,rfl⟩,hq⟩)
 refine road ?_;by_cases c:n=1
 ·exact xgs xin ⟨_,e,rfl⟩ xlg (xkx _ _) (zyd t its.toArray m dd sl n tk c) ⟨e,.ref t,H,I,rfl,q1 c⟩
 have done:∀ ts:List Value, Vals (timesL xs n) ts->(timesL xs n).length<=sizeLine->EP X aY σ Q (.ref s.heap.objs.size) { s with heap:=s.heap.push { cls:=.type "tuple", data:=.seq ts.toArray } }:=fun ts rt hl =>
  ⟨.ref s.heap.objs.size,_,I.laid (t':=s.toks) (o:=.tup (timesL xs n)) (fun b ob hb=>xbb _ hb) (xbf _) ⟨hl,ts,rt,IsTup.new s.heap _⟩,rfl,q2 c _ (I.hok.fresh (xbf _))⟩
 have lenT:(timesL xs n).length=n.toNat * xs.length:=zjl xs n.toNat;by_cases c2:n<=0
 ·refine xgs xin ⟨_,e,rfl⟩ xlg (xkx _ _) (ztq t its.toArray m dd sl n tk lo c2 ne') ⟨e,?_⟩;have e0:timesL xs n=[]:=by unfold timesL;rw[show n.toNat=0 by lia];rfl
  exact done [] (by rw[e0];exact .nil) (by rw[e0];exact xed _)
 ·have hz2:n.toNat * xs.length<=1000000:=by
   have:((n.toNat * xs.length:Nat):Int)=(xs.length:Int) * n:=by rw[Int.natCast_mul,Int.toNat_of_nonneg (by lia),Int.mul_comm]
   lia
  have hsl:n.toNat * xs.length<=sizeLine:=by rw[xiu];lia
  have ef:List.foldl (fun(x1 x2:Array Value)=>x1++x2) #[] (List.replicate n.toNat its.toArray)=((List.replicate n.toNat its).flatten).toArray:=by
   have:=zku its n.toNat []
   simpa using this
  have zi:((its.toArray.size:Nat):Int) * n<=1000000:=by rw[xbn,← len];exact hz
  refine xgs xin ⟨_,e,rfl⟩ xlg (xkx _ _) (ztr t its.toArray m dd sl n tk (by lia) hi ne' zi (xbt (by rw[xiu];lia)) (by rw[ef,xbn,zjl,← len];exact hsl)) ⟨e,?_⟩;rw[ef];exact done _ (r.times n.toNat) (by rw[lenT];exact hsl)
end L2
namespace Dd
open PySem L2 PyProof.Rows
abbrev oOrI:=oI (fun _ _=>True) fun i j=>.int (Builtin.bitOr i j)
def oMulT (x y:D) (st:Store):Res D:=match x,y with
 | .tup xs,.int n=>if xs≠[]/\-1000000<=n/\n<=1000000/\(xs.length:Int) * n<=1000000 then .ok (.tup (timesL xs n)) st else .stuck
 | _,_=>.stuck
theorem AtAll.times {K:Fg}{ρ:Loc}{H:Hp}{ds:List D}{vs:List V}(h:AtAll K ρ H ds vs):∀n:Nat,AtAll K ρ H (List.replicate n ds).flatten (List.replicate n vs).flatten
 | 0=>.nil
 | n+1=>by
  rw[xeo,xgf,xeo,xgf];exact h.append (AtAll.times h n)
theorem znk {K:Fg}:OpD K oMulT (rMulT K):=fun ρ H st x y u v z st' Q rp a b e q=>by
 unfold oMulT at e;split at e
 ·rename_i xs n;split at e
  ·rename_i hs;cases e;cases b;cases a with
   | tup h1 h2 h3 =>
    have hl:=h3.length;refine⟨_,_,n,rfl,rfl,SqT.of h1,fun z=>?_,hs.2.1,hs.2.2.1,by rw[hl];exact hs.2.2.2,fun z=>?_,fun z p hp=>?_⟩
    ·subst z;cases h3;exact hs.1 rfl
    ·subst z;refine q _ _ _ (.refl _ _) rp ?_;have e1:timesL xs 1=xs:=by simp[timesL]
     rw[e1];exact .tup h1 h2 h3
    ·exact q _ _ _ (Ext.new hp _) (rp.new hp _) (.newT rp hp (h3.times n.toNat))
  ·cases e
 ·cases e
end Dd
namespace L2
open PySem PySem.Spec PyProof.Rows PySem.W
section
variable {P:Program}{w:World}{B:Around}{sg:Shared}
end
end L2
namespace Dd
open PySem L2 PyProof.Rows
end Dd
namespace L2
open PySem PySem.Spec PyProof.Rows
end L2
namespace Dd
open PySem L2 PyProof.Rows
section
variable {X:Cx}{o e:Expr}{es:List Expr}{f:SE}{ga:SA}{apos cpos:Pos}
end
end Dd
namespace Dd
variable {α:Type}{motive:List α->Prop}
@[elab_as_elim] theorem len0 (us:List α) (hl:us.length=0) (h:motive []):motive us:=by rw[List.eq_nil_of_length_eq_zero hl];exact h
@[elab_as_elim] theorem lenS {n:Nat} (us:List α) (hl:us.length=n+1) (h:∀a us,us.length=n->motive (a::us)):motive us:=by
 cases us with
 | nil=>cases hl
 | cons a us=>exact h a us (Nat.succ.inj hl)
@[elab_as_elim] theorem len1 (us:List α) (hl:us.length=1) (h:∀a,motive [a]):motive us:=lenS us hl fun a us hl=>len0 us hl (h a)
@[elab_as_elim] theorem len2 (us:List α) (hl:us.length=2) (h:∀a b,motive [a,b]):motive us:=lenS us hl fun a us hl=>len1 us hl (h a)
@[elab_as_elim] theorem len3 (us:List α) (hl:us.length=3) (h:∀a b c,motive [a,b,c]):motive us:=lenS us hl fun a us hl=>len2 us hl (h a)
@[elab_as_elim] theorem len4 (us:List α) (hl:us.length=4) (h:∀a b c d,motive [a,b,c,d]):motive us:=lenS us hl fun a us hl=>len3 us hl (h a)
end Dd
namespace Dd
open PySem L2
end Dd
namespace L2
open PySem PySem.Spec PyProof.Rows
end L2
namespace Dd
open PySem L2 PyProof.Rows
end Dd
namespace L2
open PySem PySem.Spec PyProof.Rows
def ItrD (hi:Int) (n:Nat):It where
 go:=fun i _=>i < n
 yld:=fun i H x H'=>H'=H/\x=.int (hi - i)
 stop:=fun i _=>n<=i
theorem znc (a b:Int):Builtin.Range.rangeSize a b (-1)=((a - b).toNat:Int):=by
 unfold Builtin.Range.rangeSize;rw[if_neg (by decide)];simp only[xlz,xkk];split<;>lia
theorem zpr {a b:Int}(ha:-(2 ^ 60)<=a)(ha':a < 2 ^ 60)(hb:-(2 ^ 60)<=b)(hb':b < 2 ^ 60):Builtin.Range.small a b (-1)=true:=by
 unfold Builtin.Range.small;rw[znc];simp only[Builtin.Range.rangeFitsLong,xek,xlw,xll,xfj];refine⟨by lia,Or.inr ?_⟩;rw[if_neg (by decide),xek,decide_eq_true_iff,decide_eq_true_iff];lia
theorem zsr {P:Program}{w:World}{K:Fg}{tg:Expr}(it:Addr)(hi:Int)(n:Nat):Turn P w K tg (ItrD hi n) [it] it (fun i h=>IsRangeIter h it (hi+(i:Nat) * (-1)) ((n:Int) - (i:Nat)) (-1)) where
 mem:=xbl.mpr rfl
 obj:=fun i h st b hb=>by
  cases xbl.mp hb;exact⟨_,st,fun v z=>by cases(show Data.fields _=Data.cell v from z)⟩
 keep:=fun i h h' st k=>k it (xbl.mpr rfl) _ st
 item:=by
  intro X hP hw hK hc i aY s σ H E I hf st hg;subst hP hw hK;obtain⟨f0,f1,f2,f3,f4,f5⟩:=hf it (xbl.mpr rfl);refine(Walks.range (prog:=X.prog) (w:=X.w) (I.ok.hd hc) it hi (-1) n).item i s _ _ hg st fun v h' tk hv st' kk=>?_
  obtain⟨t,rfl⟩:=hv;have J:Inv X aY σ H {s with heap:=h',toks:=tk}:=I.turned (fun b o hb e=>kk b o (by simpa using hb) e) f0 f1 f3 f4 f5;exact⟨_, rfl, zbdl (s:={ s with heap:=h', toks:=tk }) (n:="range_iterator") st' rfl rfl (by decide) ⟨.int (hi - i), H, J,⟨t, by rw[Int.mul_neg, Int.mul_one]; rfl⟩,⟨rfl, rfl⟩, st', fun b hb=>(hf b hb).1⟩⟩
 done:=by
  intro X hP hw hK hc i aY s σ H E I hf st hg;subst hP hw hK;obtain⟨f0,f1,f2,f3,f4,f5⟩:=hf it (xbl.mpr rfl);have hg:n<=i:=hg;exact wpAny_pyNext_range_end (I.ok.hd hc) st (by lia) fun h' eb=>⟨rfl,I.turned (t':=s.toks) (fun b o hb e=>eb b o hb e) f0 f1 f3 f4 f5⟩
 self:=fun _ _ _ _ _ st h=>wpAny_pyIter_rangeiter st h
def iRngD (ta:TA):TI:=fun σ H R=>ta σ H fun vs H1=>∃i j:Int,vs=[.int i,.int j,.int (-1)]/\(-(2 ^ 60)<=i/\i < 2 ^ 60/\-(2 ^ 60)<=j/\j < 2 ^ 60)/\R (ItrD i (i - j).toNat) H1
section
variable {X:Cx}{tg:Expr}
theorem zbeb {aY:List (Addr×Obj)}{σ:St}{H:Hp}{s:Shared}{R:It->Hp->Prop}{E:Value->Shared->Prop}{a b:Int}{t u v:Tok}{tk:Nat}(I:Inv X aY σ H s)(h:-(2 ^ 60)<=a/\a < 2 ^ 60/\-(2 ^ 60)<=b/\b < 2 ^ 60)
  (q:R (ItrD a (a - b).toNat) H):wpAny (model X.prog X.w) X.A (pyIter (.ref s.heap.objs.size)) (PIE X aY σ tg R) E { s with heap:=s.heap.push { cls:=.type "range", data:=.fields #[.int a t, .int b u, .int (-1) v] }, toks:=tk }:=by
 refine wpAny_pyIter_range (IsRange.new ..) (zpr h.1 h.2.1 h.2.2.1 h.2.2.2) ?_;have J:Inv X aY σ H { s with heap:=s.heap.push { cls:=.type "range", data:=.fields #[.int a t, .int b u, .int (-1) v] }, toks:=tk }:=I.kept fun b o e=>xbb _ e
 refine⟨_,[_],_,_,H,rfl,J.kept (t':=tk) fun b o e=>xbb _ e,zsr _ a (a - b).toNat,?_,fun c hc=>?_,q⟩
 ·show IsRangeIter _ _ (a+((0:Nat):Int) * (-1)) ((((a - b).toNat:Nat):Int) - ((0:Nat):Int)) (-1);rw[show a+((0:Nat):Int) * (-1)=a by simp,show(((a - b).toNat:Nat):Int) - ((0:Nat):Int)=Builtin.Range.rangeSize a b (-1) by rw[znc];lia];exact xbk _ rfl
 ·cases xbl.mp hc;exact J.fpOk (xbf _) (J.hok.fresh (xbf _))
theorem zte {a b c:Expr}{ta:TA}{p pos:Pos}(hg:Gl X "range")(hm:X.mg "range"=none)(ha:PA X [a, b, c] ta)(hs:starEach [a, b, c] X.env=[(false, eval a X.env),(false, eval b X.env),(false, eval c X.env)]:=by rfl)(hs2:starEach [b, c] X.env=[(false, eval b X.env),(false, eval c X.env)]:=by rfl) :
  PI X tg (.Call (.Name "range" p) [a, b, c] [] pos) (iRngD ta):=by
 intro aY s σ H R I h;refine Call_ (zjt I hg hm boot_range (xfn (thn (ha pos aY s σ H _ I h) fun us s1 hq=>?_) (by rw[hs,hs2]) (by rw[hs2];rfl)));obtain⟨vs,H1,I1,r1,i,j,e,hb,q⟩:=hq;subst e;cases r1 with
 | cons r1 rr =>
  cases rr with
  | cons r2 rr =>
   cases rr with
   | cons r3 rr =>
    cases rr;obtain⟨t,rfl⟩:=r1;obtain⟨t',rfl⟩:=r2;obtain⟨t'',rfl⟩:=r3;refine call_range_3 (by decide) (zbeb I1 hb q) (Or.inl (PyProof.noPylong_small ?_))
    decide
end
end L2
namespace Dd
open PySem L2
def rngD (hi:Int) (n:Nat):List D:=(List.range n).map fun(i:Nat)=>D.int (hi - i)
def iRD (g:SA):SA:=fun σ st=>(g σ st).bind fun xs st1=>match xs with
 | [.int i,.int j,.int k]=>if k=-1/\-(2 ^ 60)<=i/\i < 2 ^ 60/\-(2 ^ 60)<=j/\j < 2 ^ 60 then .ok (rngD i (i - j).toNat) st1 else .stuck
 | _=>.stuck
theorem zpw {hi:Int}{n i:Nat}{x:D}(h:(rngD hi n)[i]?=some x):i < n/\x=.int (hi - i):=by
 unfold rngD at h;rw[xcc] at h;rcases xeh i n with z | z
 ·rw[List.getElem?_range z] at h;exact⟨z,(xby h).symm⟩
 ·rw[xer (by rw[xic];exact z)] at h;cases h
theorem zbdf {K:Fg}{ρ:Loc}{H:Hp}{hi:Int}{n:Nat}:ItOk K ρ H (ItrD hi n) (rngD hi n) where
 item:=fun ρ2 H2 x i d e=>by
  obtain⟨h1,rfl⟩:=zpw e;refine⟨h1,fun y H3 hy=>?_⟩;obtain⟨rfl,rfl⟩:=hy;exact⟨.refl _ _,fun _ r=>⟨r,.int _⟩⟩
 done:=fun ρ2 H2 x i h=>by
  unfold rngD at h;rw[xbd,xic] at h;exact h
section
variable {X:Cx}{tg a b c:Expr}{g:SA}{p pos:Pos}
theorem zrj (hg:Gl X "range")(hm:X.mg "range"=none)(ha:JA X [a, b, c] g)(hs:starEach [a, b, c] X.env=[(false, eval a X.env),(false, eval b X.env),(false, eval c X.env)]:=by rfl)(hs2:starEach [b, c] X.env=[(false, eval b X.env),(false, eval c X.env)]:=by rfl):JI X tg (.Call (.Name "range" p) [a, b, c] [] pos) (iRD g) :=
 ⟨zxm (zte hg hm ha.out hs hs2) fun τ H R hq=>by
 obtain⟨ρ,σ,st,xs,st',a,rp,e,q⟩:=hq;obtain⟨x,st1,e1,e⟩:=zc e;split at e
 ·split at e
  ·rename_i hj;cases e;obtain⟨rfl,hj⟩:=hj;refine⟨ρ,σ,st,_,_,a,rp,e1,fun ρ1 H1 u x1 rp1 a1=>?_⟩;cases a1 with
   | cons b1 r1 =>
    obtain⟨w,w2,rfl,b2,b3⟩:=r1.two;cases b1;cases b2;cases b3;exact⟨_,_,rfl,hj,q _ _ _ x1 rp1 zbdf⟩
  ·cases e
 ·cases e⟩
end
end Dd
namespace Dd
open PySem L2 PyProof.Rows
def ePopZ (f:SE) (g:SA):SE:=fun σ st=>(f σ st).bind fun x st1=>match x with
 | .ref n=>match st1[n]? with
  | some (.lst _)=>(g σ st1).bind fun ys st2=>match ys,st2[n]? with
   | [.int 0],some (.lst (y::zs))=>.ok y (st2.set n (.lst zs))
   | _,_=>.stuck
  | _=>.stuck
 | _=>.stuck
section
variable {X:Cx}{o e:Expr}{es:List Expr}{f:SE}{ga:SA}{apos cpos:Pos}
theorem zbeo (ho:JE X o f)(ha:JA X (e::es) ga)(hbase:attributeBase o "pop" X.env (eval o X.env)=eval o X.env:=by rfl)
  (hfew:((backTo cpos (starEach (e::es) X.env)).all (fun x=>!x.1)&&(backToKw cpos (keywordEach [] X.env)).all (fun x=>x.1.isSome)
   && decide ((e::es).length+([]:List Keyword).length+(if([]:List Keyword).isEmpty then 0 else 1) < 30))=true:=by rfl)
  (hline:(apos.endLine==cpos.line)=true:=by rfl)(hs:starEach (e::es) X.env=(false,eval e X.env)::starEach es X.env:=by rfl)(hplain:(backTo cpos (starEach es X.env)).any (·.1)=false:=by rfl) :
  JE X (.Call (.Attribute o "pop" apos) (e::es) [] cpos) (ePopZ f ga):=⟨zfp (zbbz xfk F.slot_list_pop F.type_list_pop zye ho.out ha.out hbase hfew hline hs hplain) fun τ H Q hq=>by
 obtain⟨ρ,σ,st,v,st',a,rp,e,q⟩:=hq;obtain⟨x,st1,e1,e⟩:=zc e;refine⟨ρ,σ,st,x,st1,a,rp,e1,fun ρ1 H1 u x1 rp1 a1=>?_⟩;split at e
 ·split at e
  ·rename_i n _ xs hn;obtain⟨ys,st2,e2,e⟩:=zc e;obtain⟨p,rfl,hp,vs2,k1,k2⟩:=zgl rp1 a1 hn (by intro z;cases z);refine⟨.inl ⟨rfl,_,SqL.of k1⟩,ρ1,σ,st1,ys,st2,a.ext x1,rp1,e2,fun ρ2 H2 ws x2 rp2 a2=>?_⟩;split at e
   ·rename_i y zs hn2;cases e;obtain⟨w,rfl,a3⟩:=a2.one;cases a3;obtain⟨p',ep,hp',vs3,m1,m2⟩:=zgl rp2 (a1.ext x2) hn2 (by intro z;cases z);cases ep;cases m2 with
    | cons b1 b2 =>
     rename_i w ws;have E:Ext ρ2 H2 ρ2 (upd H2 p (.lst ws)):=Ext.wr hp' (zdi m1) _;exact⟨p,_,0,0,w,rfl,rfl,m1,by decide,by decide,by simp[seqIndex?],rfl,q _ _ _ ((x1.trans x2).trans E) (rp2.wr hp' (zdi m1) ⟨_,zm,b2.ext E⟩) (b1.ext E)⟩
   ·cases e
  ·cases e
 ·cases e⟩
end
end Dd
namespace L2
open PySem PySem.Spec PyProof.Rows
theorem zgy {α β:Type}{f:α->Option β}{g:α->β}:∀{l:List α},(∀x∈l,f x=some (g x))->l.filterMap f=l.map g
 | [],_=>rfl
 | x::l,h=>by
  rw[xiw,h x xcm,xbp,zgy fun y hy=>h y (xcq _ hy)]
theorem znf (items:Array Value):slicePick items none none (some (-1))=items.toList.reverse.toArray:=by
 have e:sliceRange (sliceBounds none none (some (-1)) items.size).1 (sliceBounds none none (some (-1)) items.size).2.1 (sliceBounds none none (some (-1)) items.size).2.2=(List.range items.size).map fun k=>items.size - 1 - k:=by
  unfold sliceRange sliceBounds;simp only[Option.getD_some,show ¬ ((-1:Int) > 0) by decide,xes];have ec:(if(items.size:Int) - 1 > -1 then((items.size:Int) - 1 - -1 - -1 - 1) / - -1 else 0).toNat=items.size:=by
   rw[xlz,xkk];split<;>lia
  rw[ec];refine xgk fun k hk=>?_
  have:=xck.mp hk;lia
 unfold slicePick;rw[e,xku]
 congr 1
 cases hz:items.size with
 | zero =>
  have:items.toList=[]:=List.length_eq_zero_iff.mp (by rw[xca];exact hz);rw[this]
  rfl
 | succ n =>
  have hlt:∀k,items.size - 1 - k < items.size:=fun k=>by lia
  rw[zgy (g:=fun k=>items[items.size - 1 - k]'(hlt k)) fun k _=>by
   show items[n+1 - 1 - k]?=_;rw[← hz]
   exact getElem?_pos items _ (hlt k)]
  refine xlo (by simp[hz]) fun i h1 h2=>?_
  rw[xlp,List.getElem_range,List.getElem_reverse];simp
variable {X:Cx}{e es:Expr}{te ts:TE}{pos p2:Pos}
def tBack (K:Fg) (te ts:TE):TE:=fun σ H Q=>te σ H fun x H1=>ts σ H1 fun y H2=>∃a xs,x=.ref a/\y=.int (-1)/\SqL K H2 a xs/\∀p,H2 p=none->Q (.ref p) (upd H2 p (.lst xs.reverse))
theorem zln:∀{xs:List V} {us:List Value},Vals xs us->Vals xs.reverse us.reverse
 | [],_,h=>by cases h;exact .nil
 | x::xs,_,h=>by
  cases h with
  | cons a b=>rw[xgg,xgg];exact(zln b).append (.cons a .nil)
theorem zbcb (he:PE X e te)(hs:PE X es ts):PE X (.Subscript e (.Slice none none (some es) p2) pos) (tBack X.K te ts):=by
 intro aY s σ H Q I h;refine Subscript_ (thn (he aY s σ H _ I h) fun v s1 hq=>?_);obtain⟨x,H1,I1,r1,q1⟩:=hq;refine wpAny_Slice ?_;rw[xlc,evalPart_some];refine xbe (xbe (thn (hs aY s1 σ H1 _ I1 q1) fun vs s3 hq=>?_));obtain⟨y,H3,I3,r3,a,xs,rfl,rfl,hx,q⟩:=hq;obtain⟨tk,rfl⟩:=r3;cases r1;have I4:Inv X aY σ H3 { s3 with heap:=s3.heap.push { cls:=.type "slice", data:=.fields #[.none, .none, .int (-1) tk] } }:=I3.kept (t':=s3.toks) fun b ob q=>xbb _ q
 obtain⟨its,r,ht,hz⟩:=I4.list hx;have hlen:=r.length;refine tail_any (ops:=[.ref a,.ref s3.heap.objs.size]) ht.isList.typeIs xlk.lookup ?_ (by with_unfolding_all rfl);refine wpAny_getItem_list_slice ht.isList (xkv ..) .none .none (.int (-1) tk) (by simp) ?_ (by rw[xbn]<;>lia);rw[znf];refine⟨.ref _,_,I4.laid (t':=s3.toks) (o:=.lst xs.reverse) (fun b ob q=>xbb _ q) (xbf _) ?_,rfl,q _ (I4.hok.fresh (xbf _))⟩;exact⟨by rw[xko];exact hz,_,0,zln r,xbk _ rfl⟩
end L2
namespace Dd
open PySem L2
theorem AtAll.rev {K:Fg}{ρ:Loc}{H:Hp}:∀{ds:List D} {us:List V},AtAll K ρ H ds us->AtAll K ρ H ds.reverse us.reverse
 | [],_,h=>by cases h;exact .nil
 | d::ds,_,h=>by
  cases h with
  | cons a b=>rw[xgg,xgg];exact(AtAll.rev b).append (.cons a .nil)
section
variable {X:Cx}{e es:Expr}{f g:SE}{pos p2:Pos}
end
end Dd
namespace L2
open PySem PySem.Spec PyProof.Rows
section
variable {prog:Program}{w:World}{A:Around}{E:Value->Shared->Prop}{s:Shared}
theorem zms {sl:Addr}{tk:Tok}{n:Nat}{Q:Int×Int×Nat->Shared->Prop}(hs:s.heap.IsSliceOf sl .none .none (.int (-1) tk))(h:Q ((n:Int) - 1,-1,n) s):wpAny (model prog w) A (Builtin.Slice.sliceApplied (.ref sl) (pure (n:Int))) Q E s:=by
 obtain⟨os,hos,hcs,hds⟩:=id hs;unfold Builtin.Slice.sliceApplied Builtin.Slice.sliceFields;refine xba (xba (xdv hos hds (x:=.none) rfl (xba (xdv hos hds (x:=.none) rfl (xba (xdv hos hds (x:=.int (-1) tk) rfl (xbe ?_)))))));refine xba (HT.zee (.int (-1) tk) ?_);show wpAny _ _ (if((-1:Int)==0)=true then _ else _) _ _ s;rw[if_neg (by decide)];refine xba (HT.zee .none (xba (HT.zee .none (xba (xbe ?_)))));show wpAny _ _ (match Builtin.Slice.sliceAdjust none none (-1) (n:Int) with | (lo,hi)=>pure (lo,(-1:Int),Builtin.Slice.slicePlaces lo hi (-1))) _ _ s;have e1:Builtin.Slice.sliceAdjust none none (-1) (n:Int)=((n:Int) - 1,-1):=by
  unfold Builtin.Slice.sliceAdjust;simp
 have e2:Builtin.Slice.slicePlaces ((n:Int) - 1) (-1) (-1)=n:=by
  unfold Builtin.Slice.slicePlaces;simp only[show ¬ ((-1:Int) > 0) by decide,xes,xlz,xkk];split<;>lia
 rw[e1];show wpAny _ _ (pure ((n:Int) - 1,(-1:Int),Builtin.Slice.slicePlaces ((n:Int) - 1) (-1) (-1))) _ _ s;rw[e2];exact xbe h
theorem zwy (xs:Array Value):((List.range xs.size).filterMap fun(m:Nat)=>xs[((xs.size:Int) - 1+(m:Int) * (-1)).toNat]?).toArray=xs.toList.reverse.toArray:=by
 rw[← znf];unfold slicePick;have e:sliceRange (sliceBounds none none (some (-1)) xs.size).1 (sliceBounds none none (some (-1)) xs.size).2.1 (sliceBounds none none (some (-1)) xs.size).2.2=(List.range xs.size).map fun k:Nat=>((xs.size:Int) - 1+(k:Int) * (-1)).toNat:=by
  unfold sliceRange sliceBounds;simp only[Option.getD_some,show ¬ ((-1:Int) > 0) by decide,xes];have ec:(if(xs.size:Int) - 1 > -1 then((xs.size:Int) - 1 - -1 - -1 - 1) / - -1 else 0).toNat=xs.size:=by
   rw[xlz,xkk];split<;>lia
  rw[ec];refine xgk fun k hk=>?_
  lia
 rw[e,xku]
 rfl
theorem zgq {t sl:Addr}{items:Array Value}{tk:Tok}{Q:Value->Shared->Prop}(ht:IsTup s.heap t items)(hs:s.heap.IsSliceOf sl .none .none (.int (-1) tk))
  (h:Q (.ref s.heap.objs.size) { s with heap:=s.heap.push { cls:=.type "tuple", data:=.seq items.toList.reverse.toArray } })
  (hsz:items.size<=sizeLine):wpAny (model prog w) A (getItem (.ref t) (.ref sl)) Q E s:=by
 have htake:sizeOk (.seq items.toList.reverse.toArray):=by
  show items.toList.reverse.toArray.size<=sizeLine;rw[xbn,xko,xca];exact hsz
 obtain⟨os,hos,hcs,hds⟩:=id hs;have hTs:s.TypeIs (.ref sl) "slice":=⟨os, hos, hcs⟩
 unfold getItem
 try with_reducible refine xdm ?_
 first | refine xba (xbe ?_) | skip
 refine xba (xlj ht.typeIs (by decide) ?_)
 refine xba (wpAny_callSpecial?_slot (name:=Str.ofString "__getitem__") ht.typeIs xee
  (xem xee ht.typeIs PyProof.Rows.entry_tuple_getitem ?_ (PyProof.Rows.args_tuple_getitem _ _)))
 show wpAny _ _ (Builtin.Tuple.tupleItemsOf (.ref t) >>= _) _ _ s;refine xba (PyProof.Rows.tupleItemsOf_ ht ?_);refine xba (wpAny_typeOf hTs ?_);rw[if_pos (by decide)];refine xba (zms hs ?_);have hno:¬ ((((items.size:Int) - 1)==0&&(-1:Int)==1&&items.size==items.size)=true):=by
  intro q;rw[xek,xek] at q;exact absurd (eq_of_beq q.1.2) (by decide)
 show wpAny _ _ (if(((items.size:Int) - 1)==0&&(-1:Int)==1&&items.size==items.size)=true then _ else _) _ _ s;rw[if_neg hno,zwy]
 first
  | exact xba (m:=Builtin.Tuple.tupleExact _) (xdb (xbe ⟨_,rfl,xbe h⟩) htake)
  | exact xba (m:=Builtin.Tuple.tupleExact _) (xdb (xba (xbe (xbe ⟨_,rfl,xbe h⟩))) htake)
  | exact xba (xba (m:=Builtin.Tuple.tupleExact _) (xdb (xbe (xbe ⟨_,rfl,xbe h⟩)) htake))
  | exact xba (xba (m:=Builtin.Tuple.tupleExact _) (xdb (xbe ⟨_,rfl,xbe h⟩) htake))
end
variable {X:Cx}{e es:Expr}{te ts:TE}{pos p2:Pos}
def tBackT (K:Fg) (te ts:TE):TE:=fun σ H Q=>te σ H fun x H1=>ts σ H1 fun y H2=>∃a xs,x=.ref a/\y=.int (-1)/\SqT K H2 a xs/\∀p,H2 p=none->Q (.ref p) (upd H2 p (.tup xs.reverse))
theorem zxv (he:PE X e te)(hs:PE X es ts):PE X (.Subscript e (.Slice none none (some es) p2) pos) (tBackT X.K te ts):=by
 intro aY s σ H Q I h;refine Subscript_ (thn (he aY s σ H _ I h) fun v s1 hq=>?_);obtain⟨x,H1,I1,r1,q1⟩:=hq;refine wpAny_Slice ?_;rw[xlc,evalPart_some];refine xbe (xbe (thn (hs aY s1 σ H1 _ I1 q1) fun vs s3 hq=>?_));obtain⟨y,H3,I3,r3,a,xs,rfl,rfl,hx,q⟩:=hq;obtain⟨tk,rfl⟩:=r3;cases r1;have I4:Inv X aY σ H3 { s3 with heap:=s3.heap.push { cls:=.type "slice", data:=.fields #[.none, .none, .int (-1) tk] } }:=I3.kept (t':=s3.toks) fun b ob q=>xbb _ q
 obtain⟨its,r,ht,hz⟩:=I4.tuple hx;have hlen:=r.length;refine tail_any (ops:=[.ref a,.ref s3.heap.objs.size]) ht.typeIs xee.lookup ?_ (by with_unfolding_all rfl);refine zgq ht (xkv ..) ?_ (by rw[xbn]<;>lia);refine⟨.ref _,_,I4.laid (t':=s3.toks) (o:=.tup xs.reverse) (fun b ob q=>xbb _ q) (xbf _) ?_,rfl,q _ (I4.hok.fresh (xbf _))⟩;exact⟨by rw[xko];exact hz,_,zln r,⟨_,xbk _ rfl,rfl,_,rfl⟩⟩
theorem zth {e:Expr}{t t':TE}(h:PE X e t)(h':PE X e t'):PE X e (fun σ H Q=>t σ H Q\/t' σ H Q):=fun aY s σ H Q I q=>by
 rcases q with q | q
 ·exact h aY s σ H Q I q
 ·exact h' aY s σ H Q I q
end L2
namespace Dd
open PySem L2
def eBack (f g:SE):SE:=fun σ st=>(f σ st).bind fun x st1=>(g σ st1).bind fun y st2=>match y with
 | .int (-1)=>match x with
  | .tup xs=>.ok (.tup xs.reverse) st2
  | x=>match asL st2 x with
   | some xs=>.ok (.lst xs.reverse) st2
   | none=>.stuck
 | _=>.stuck
section
variable {X:Cx}{e es:Expr}{f g:SE}{pos p2:Pos}
theorem zbew (he:JE X e f)(hs:JE X es g):JE X (.Subscript e (.Slice none none (some es) p2) pos) (eBack f g):=⟨zfp (zth (zbcb he.out hs.out) (zxv he.out hs.out)) fun τ H Q hq=>by
 obtain⟨ρ,σ,st,v,st',a,rp,e,q⟩:=hq;obtain⟨x,st1,e1,e⟩:=zc e;obtain⟨y,st2,e2,e⟩:=zc e;split at e
 ·split at e
  ·cases e;refine .inr ⟨ρ,σ,st,_,st1,a,rp,e1,fun ρ1 H1 u x1 rp1 a1=>?_⟩;refine⟨ρ1,σ,st1,_,_,a.ext x1,rp1,e2,fun ρ2 H2 w x2 rp2 a2=>?_⟩;cases a2;cases a1.ext x2 with
   | tup h1 h2 h3=>exact⟨_,_,rfl,rfl,SqT.of h1,fun p hp=>q _ _ _ ((x1.trans x2).trans (Ext.new hp _)) (rp2.new hp _) (.newT rp2 hp h3.rev)⟩
  ·split at e
   ·rename_i xs hx;cases e;refine .inl ⟨ρ,σ,st,x,st1,a,rp,e1,fun ρ1 H1 u x1 rp1 a1=>?_⟩;refine⟨ρ1,σ,st1,_,_,a.ext x1,rp1,e2,fun ρ2 H2 w x2 rp2 a2=>?_⟩;cases a2;obtain⟨p,vs,rfl,g1,g2⟩:=zfn rp2 (a1.ext x2) hx;exact⟨_,_,rfl,rfl,SqL.of g1,fun p hp=>q _ _ _ ((x1.trans x2).trans (Ext.new hp _)) (rp2.new hp _) (.newL rp2 hp g2.rev)⟩
   ·cases e
 ·cases e⟩
end
end Dd
namespace L2
open PySem PySem.Spec PyProof.Rows
end L2
namespace Dd
open PySem L2
end Dd
namespace L2
open PySem PySem.Spec PyProof.Rows
def tRaise (X:Cx) (aY:List (Addr×Obj)) (C:Addr) (ta:TA):TS:=fun _ σ H=>ta σ H fun vs H1=>vs.length<=sizeLine /\
 ∀(s:Shared) (us:List Value) (h':Heap) (e:Addr),Inv X aY σ H1 s->Vals vs us->Heap.MadeExcOf s.heap h' e (.ref C) us->X.xe (.ref e) {s with heap:=h'}
section
variable {X:Cx}{x:Str}{C:Addr}{bmB bmN:List Value}{newId nid initId inN B Bn:String}{e:Expr}{es:List Expr}{ta:TA}{np cpos pos:Pos}
theorem zxh (O:OwnCls x C bmB newId X.mg X.base)(Fn:ExcBaseFacts Bn newId inN bmN)(hBn:bmB.contains (.type Bn)=true)(FB:ExcBaseFacts B nid initId bmB)(hc:X.calm=true)(hg:Gl X x)(ha:PA X (e::es) ta)
  (hd:(x==("__debug__" : Str))=false:=by decide)(he:starEach (e::es) X.env=(false, eval e X.env)::starEach es X.env:=by rfl)(hpl:(backTo cpos (starEach es X.env)).any (·.1)=false:=by rfl)
  {aY:List (Addr×Obj)}{s:Shared}{σ:St}{H:Hp}{D:Ends}(I:Inv X aY σ H s)(h:tRaise X aY C ta D σ H) :
  wpAny (model X.prog X.w) X.A (exec (.Raise (some (.Call (.Name x np) (e::es) [] cpos)) none pos) X.env) (SP X aY D) X.xe s:=by
 obtain⟨tl,N,nm,q,bs,hdct,sn,sub,ab,col,dd,k0,k1,k2,k3,k5,mN,hC,hN,hni,T⟩:=O.obj;refine wpAny_Raise_call_subU (C:=C) (nm:=nm) (q:=q) (N:=N) (bs:=bs) (bm:=tl) (hdct:=hdct) (sn:=sn) (sub:=sub) (ab:=ab) (col:=col) (dd:=dd) (k0:=k0) (k1:=k1) (k2:=k2) (k3:=k3) (k5:=k5)
  Fn hBn FB (mN:=mN) (T.hasType FB.hasBase) (I.ok.hd hc) (by rw[he];show(false||(backTo cpos (starEach es X.env)).any (·.1))=false;rw[hpl];rfl) hni (zkq I hg O.bound ⟨rfl,?_⟩ hd)
 have h2:=ha cpos aY s σ H _ I h;rw[he] at h2 ⊢;refine xij (xdh h2 (fun us s2 hq=>?_) fun _ _ y=>y);obtain⟨vs,H1,I1,rv,hz,q⟩:=hq;exact⟨rfl,by rw[← rv.length];exact hz,I1.bk _ _ hC,hN.keeps I1.bk,T.keeps I1.bk,fun h' e hm=>q s2 us h' e I1 rv hm⟩
end
def Rec (h:Heap) (e:Addr) (cls:Value) (dx:Option Addr) (tb:Value):Prop:=∃oe vs,h.get? e=some oe/\oe.cls=cls/\oe.dict=dx/\oe.data=.fields vs/\vs[1]?=some tb/\vs[2]?=some .none
def RecT (h:Heap) (T:Addr) (x:Value):Prop:=∃o ts,h.get? T=some o/\o.data=.fields ts/\ts[3]?=some x
structure Mv (ch fs:List Addr) (h h':Heap):Prop where
 keep:∀b o,b∉ch->b∉fs->h.get? b=some o->h'.get? b=some o
 slot:∀b o,b∉ch->b∈fs->h.get? b=some o->∃sl,h'.get? b=some {o with slots:=sl}
theorem Mv.trans {ch fs:List Addr}{h h1 h2:Heap}(a:Mv ch fs h h1)(b:Mv ch fs h1 h2):Mv ch fs h h2 :=
 ⟨fun c o x y e=>b.keep c o x y (a.keep c o x y e),fun c o x y e=>let ⟨_,e1⟩:=a.slot c o x y e;let ⟨sl,e2⟩:=b.slot c _ x y e1;⟨sl,e2⟩⟩
theorem Mv.mono {ch ch' fs:List Addr}{h h':Heap}(a:Mv ch fs h h')(k:∀b∈ch,b∈ch'):Mv ch' fs h h' :=
 ⟨fun b o x y e=>a.keep b o (fun z=>x (k b z)) y e,fun b o x y e=>a.slot b o (fun z=>x (k b z)) y e⟩
theorem Mv.set {fs:List Addr}{h:Heap}{a:Addr}{f:Obj->Obj}:Mv [a] fs h (h.update a f) :=
 ⟨fun b o x _ e=>by rw[xcp _ _ (by rintro rfl;exact x (xbl.mpr rfl))];exact e,
  fun b o x _ e=>⟨o.slots,by rw[xcp _ _ (by rintro rfl;exact x (xbl.mpr rfl))];exact e⟩⟩
theorem zpy {h:Heap}{e:Addr}{o:Obj}{vs:Array Value}{i:Nat}{x:Value}(he:h.get? e=some o)(hd:o.data=.fields vs) :
 (h.update e (Obj.mapFields (·.setIfInBounds i x))).get? e=some (o.mapFields (·.setIfInBounds i x)):=xep _ he (xke (xfu hd _))
theorem zqw (o:Obj)(f:Array Value->Array Value):(o.mapFields f).cls=o.cls/\(o.mapFields f).dict=o.dict:=by
 obtain⟨a,b,c,d⟩:=o;cases c<;>exact⟨rfl,rfl⟩
section
variable {M:Model}{A:Around}{E:Value->Shared->Prop}{s:Shared}
theorem zhy {e T:Addr}{cls x:Value}{dx:Option Addr}{fs:List Addr}{Q:Unit->Shared->Prop}(r:Rec s.heap e cls dx (.ref T))(t:RecT s.heap T x)(hne:T≠e)
  (h:∀h',Mv [T] fs s.heap h'->Rec h' e cls dx (.ref T)->RecT h' T .none->Q () {s with heap:=h'}):wpAny M A (setFlight (.ref e) none) Q E s:=by
 obtain⟨oe,vs,e1,e2,e3,e4,e5,e6⟩:=r;obtain⟨o,ts,t1,t2,t3⟩:=t;have sz:=(xfp.mp t3).1;unfold setFlight;refine xba (xdv e1 e4 e5 ?_);rw[if_pos (by simp)];refine xgn t1 t2 sz (h _ .set ⟨oe,vs,?_,e2,e3,e4,e5,e6⟩ ⟨_,_,zpy t1 t2,xfu t2 _,?_⟩)
 ·rw[xcp _ _ hne];exact e1
 ·simp[sz]
theorem zqr {base:Heap}{env:Env}{outer:List Env}{L e:Addr}{oe:Obj}{vs:Array Value}{head:Value}{nx:Bool}{Q:Unit->Shared->Prop}(hfr:A.frames=some (env::outer))(hl:s.heap.FunFrames base (env::outer))(hf:env.frame=some L)
  (he:s.heap.get? e=some oe)(hd:oe.data=.fields vs)(hz:1 < vs.size)(h2:vs[2]?=some .none)
  (h:∀h',Mv [e] (frs (env::outer)) s.heap h'->Rec h' e oe.cls oe.dict (.ref s.heap.objs.size)->RecT h' s.heap.objs.size (rawInt L)->Q () {s with heap:=h'}) :
  wpAny M A (do setField (.ref e) 1 (← EntryCells.newEntry head (← frameOf env) .none (rawInt L) .none (← entryPlaceOf L nx))) Q E s:=by
 have ne:e∉frs (env::outer):=fun hm=>by
  obtain⟨_,o,ho,hn⟩:=hl.mem hm;rw[he] at ho;cases ho;exact hn vs hd
 refine xba (wpAny_frameOf_fun hfr hl hf fun h1 q1=>xba (wpAny_entryPlaceOf fun pl hp=>?_));unfold EntryCells.newEntry newFields;refine xba (xdb ?_ (by exact hp.sizeOk5 _ _ _ _ _));have e1:h1.get? e=some oe:=(q1.2.1 e ne).trans he;have sz:h1.objs.size=s.heap.objs.size:=q1.1;have e2:=fun ob:Obj=>xbb (h:=h1) ob e1
 refine xgn (e2 _) hd hz (h _ ⟨fun b o x y q=>?_,fun b o x y q=>?_⟩ ⟨_,_,zpy (e2 _) hd,(zqw _ _).1,(zqw _ _).2,xfu hd _,by rw[sz];simp[hz],by rw[xkh (by decide)];exact h2⟩ ?_)
 ·rw[xcp _ _ (by rintro rfl;exact x (xbl.mpr rfl))];exact xbb _ ((q1.2.1 b y).trans q)
 ·obtain⟨sl,z⟩:=q1.2.2 b o q;refine⟨sl,?_⟩;rw[xcp _ _ (by rintro rfl;exact x (xbl.mpr rfl))];exact xbb _ z
 ·have ne2:e≠h1.objs.size:=xbv (xbi e1);rw[← sz];refine⟨_,_,(xcp _ _ ne2).trans (xbk h1 rfl),rfl,?_⟩
  ·first
    | (simp;done)
    | (rcases hp with rfl | ⟨_,_,_,_,_,_,_,rfl⟩<;>simp)
theorem zqs {base:Heap}{env:Env}{outer:List Env}{L e:Addr}{cls:Value}{dx:Option Addr}{Q:Unit->Shared->Prop}(hfr:A.frames=some (env::outer))(hl:s.heap.FunFrames base (env::outer))(hf:env.frame=some L)
  (r:Rec s.heap e cls dx .none)(h:∀h',Mv [e] (frs (env::outer)) s.heap h'->Rec h' e cls dx (.ref s.heap.objs.size)->RecT h' s.heap.objs.size (rawInt L)->Q () {s with heap:=h'}) :
  wpAny M A (noteFrame (.ref e) env) Q E s:=by
 obtain⟨oe,vs,e1,e2,e3,e4,e5,e6⟩:=r;subst e2 e3;unfold noteFrame;simp only[hf];refine xba (xdv e1 e4 e5 ?_);rw[if_neg (by decide)];exact zqr hfr hl hf e1 e4 (xfp.mp e5).1 e6 h
theorem zto {base:Heap}{env:Env}{outer:List Env}{L e T:Addr}{cls:Value}{dx:Option Addr}{Q:Unit->Shared->Prop}(hfr:A.frames=some (env::outer))(hl:s.heap.FunFrames base (env::outer))(hf:env.frame=some L)
  (r:Rec s.heap e cls dx (.ref T))(t:RecT s.heap T .none)(hne:T≠e)
  (h:∀h' T',s.heap.get? T'=none->(∃o,h'.get? T=some o)->Mv [e,T] (frs (env::outer)) s.heap h'->Rec h' e cls dx (.ref T')->RecT h' T' (rawInt L)->Q () {s with heap:=h'}) :
  wpAny M A (noteFrame (.ref e) env) Q E s:=by
 obtain⟨oe,vs,e1,e2,e3,e4,e5,e6⟩:=r;obtain⟨o,ts,t1,t2,t3⟩:=t;subst e2 e3;unfold noteFrame;simp only[hf];refine xba (xdv e1 e4 e5 ?_);rw[if_pos (by simp)];refine xba (xdv t1 t2 t3 ?_);rw[if_neg (by simp[rawInt])];refine xba (xgn t1 t2 (xfp.mp t3).1 ?_);have mv:Mv [e,T] (frs (env::outer)) s.heap (s.heap.update T (Obj.mapFields (·.setIfInBounds 3 .none))):=Mv.set.mono fun b z=>by
  rw[xbl] at z;subst z;exact xcq _ xcm
 have e1':(s.heap.update T (Obj.mapFields (·.setIfInBounds 3 .none))).get? e=some oe:=by rw[xcp _ _ hne];exact e1
 have nf:T∉frs (env::outer):=fun hm=>by
  obtain⟨_,ob,hb,hn⟩:=hl.mem hm;rw[t1] at hb;cases hb;exact hn ts t2
 have sz:(s.heap.update T (Obj.mapFields (·.setIfInBounds 3 Value.none))).objs.size=s.heap.objs.size:=by simp[Heap.update]
 refine zqr (s:={s with heap:=_}) (base:=base) hfr (hl.of_keeps fun b ob hb hn=>?_) hf e1' e4 (xfp.mp e5).1 e6 fun h' m1 r1 t1'=>h h' s.heap.objs.size (Heap.get?_none_of_le (xbf _)) ⟨_,m1.keep T _ (fun z=>hne (xbl.mp z)) nf (zpy t1 t2)⟩ (mv.trans (m1.mono fun b z=>?_)) (by rw[← sz];exact r1) (by rw[← sz];exact t1')
 ·refine⟨ob,?_,rfl⟩;rw[xcp _ _ (by rintro rfl;rw[t1] at hb;cases hb;exact hn _ t2)];exact hb
 ·rw[xbl] at z;subst z;exact xcm
end
def HX:HO:=.ext fun _=>True
def trk2 (H:Hp) (ea T:Addr):Hp:=upd (upd H T HX) ea HX
structure Flies (H:Hp) (h:Heap) (ea T:Addr) (cls:Value) (dx:Option Addr):Prop where
 r:Rec h ea cls dx (.ref T)
 t:RecT h T .none
 ne:T≠ea
 fe:H ea=none
 ft:H T=none
theorem zcr {H:Hp}{ea T b:Addr}:trk2 H ea T b=some HX/\(b=ea\/b=T)\/(b≠ea/\b≠T/\trk2 H ea T b=H b):=by
 unfold trk2;by_cases h1:b=ea
 ·exact .inl ⟨by rw[h1,zm],.inl h1⟩
 ·by_cases h2:b=T
  ·exact .inl ⟨by rw[zn h1,h2,zm],.inr h2⟩
  ·exact .inr ⟨h1,h2,by rw[zn h1,zn h2]⟩
theorem zyq {P:Program}{w:World}{H:Hp}{h:Heap}{a:Addr}(e:∃o,h.get? a=some o):ObjOk P w H h a HX:=⟨trivial,e,fun _ _ _ _=>trivial⟩
theorem ObjOk.here {P:Program}{w:World}{H:Hp}{h:Heap}{a:Addr}{o:HO}(x:ObjOk P w H h a o):∃ob,h.get? a=some ob:=by
 cases o with
 | lst xs=>obtain⟨_,_,_,_,e⟩:=x;exact⟨_,e⟩
 | tup xs=>obtain⟨_,_,_,p⟩:=x;obtain⟨_,e,_⟩:=p;exact⟨_,e⟩
 | dK kvs=>obtain⟨_,_,_,_,_,_,_,e,_⟩:=x;exact⟨_,e⟩
 | dT kvs=>obtain⟨_,_,_,_,_,_,_,e,_⟩:=x;exact⟨_,e⟩
 | set S n=>obtain⟨_,_,_,_,e,_⟩:=x;exact⟨_,e⟩
 | ins C dx fs=>exact⟨_,x.2.2.2.1⟩
 | own y=>exact x
 | xd fs=>obtain⟨_,⟨_,_,_,e,_⟩,_⟩:=x;exact⟨_,e⟩
 | rng lo hi=>obtain⟨_,_,_,e⟩:=x;exact⟨_,e⟩
 | frz ob u=>exact⟨_,x.1⟩
 | tbl ps=>exact⟨_,x⟩
 | met f y=>exact⟨_,x⟩
 | ext φ=>exact x.2.1
theorem Inv.flew {X:Cx}{aY:List (Addr×Obj)}{τ:St}{H H0:Hp}{s:Shared}{h':Heap}{ea T:Addr}(I:Inv X aY τ H0 s)(sub:∀b,H0 b=H b\/(H0 b=some HX/\H b=none))
  (new:∀b,b=ea\/b=T->s.heap.get? b=none\/H0 b=some HX)(keep:∀b o,H0 b≠some HX->b∉frs X.stack->s.heap.get? b=some o->h'.get? b=some o)
  (slot:∀b o,H0 b≠some HX->b∈frs X.stack->s.heap.get? b=some o->∃sl,h'.get? b=some {o with slots:=sl})(there:∀b o,s.heap.get? b=some o->∃o',h'.get? b=some o')
  (xe:∃o,h'.get? ea=some o)(xt:∃o,h'.get? T=some o):Inv X aY τ (trk2 H ea T) {s with heap:=h'}:=by
 have same:∀b o,H0 b=some o->o≠HX->trk2 H ea T b=some o:=fun b o e n=>by
  obtain⟨ob,hb⟩:∃ob,s.heap.get? b=some ob:=by
   have:=I.hok.lt e;exact(I.hok b o e).here
  rcases zcr (H:=H) (ea:=ea) (T:=T) (b:=b) with⟨_,z⟩ | ⟨_,_,z⟩
  ·rcases new b z with y | y
   ·rw[hb] at y;cases y
   ·rw[e] at y;exact absurd (xby y) n
  ·rw[z];rcases sub b with y | ⟨y,_⟩
   ·rw[← y];exact e
   ·rw[e] at y;exact absurd (xby y) n
 refine I.call (g':=s.gens) (t':=s.toks) (d':=s.drawn) (ch:=[]) ⟨fun b o e n hb _=>keep b o (by rw[n];intro z;cases z) hb e,fun b o e n hb _=>slot b o (by rw[n];intro z;cases z) hb e,fun b o e n _=>?_,fun b o e _=>there b o e,fun b xs e=>same b _ e (by intro z;cases z),fun b o u e=>same b _ e (by intro z;cases z),fun b ps e=>⟨#[],by rw[xhw];exact same b _ e (by intro z;cases z)⟩⟩ (fun b o e=>?_) I.bare (fun _ z=>nomatch z)
 ·rcases zcr (H:=H) (ea:=ea) (T:=T) (b:=b) with⟨_,z⟩ | ⟨_,_,z⟩
  ·rcases new b z with y | y
   ·rw[e] at y;cases y
   ·rw[n] at y;cases y
  ·rw[z];rcases sub b with y | ⟨y,_⟩
   ·rw[← y];exact n
   ·rw[n] at y;cases y
 ·rcases zcr (H:=H) (ea:=ea) (T:=T) (b:=b) with⟨z,y⟩ | ⟨_,_,z⟩
  ·rw[z] at e;cases e
   rcases y with rfl | rfl
   ·exact zyq xe
   ·exact zyq xt
  ·rw[z] at e;have e0:H0 b=some o:=by
    rcases sub b with y | ⟨_,y⟩
    ·rw[y];exact e
    ·rw[e] at y;cases y
   by_cases hn:o=HX
   ·subst hn;obtain⟨ob,hb⟩:=(I.hok b _ e0).here;exact zyq (there b ob hb)
   ·have nx:∀c,c=b\/H0 c=some (.own b)->H0 c≠some HX/\c∉frs X.stack:=fun c hc=>by
     rcases hc with rfl | hc
     ·exact⟨by rw[e0];exact fun z=>hn (xby z),fun z=>by rw[I.stkFree c z] at e0;cases e0⟩
     ·exact⟨by rw[hc];exact fun z=>(nomatch z),fun z=>by rw[I.stkFree c z] at hc;cases hc⟩
    exact(I.hok b o e0).stay (fun c u hc q=>keep c u (nx c hc).1 (nx c hc).2 q) (fun c hc=>same c _ hc (by intro z;cases z)) (fun c xs hc=>same c _ hc (by intro z;cases z))
theorem zrc {X:Cx}{aY:List (Addr×Obj)}{τ:St}{H:Hp}{ea T:Addr}{cls:Value}{dx:Option Addr}{s:Shared}{M:Model}{E':Value->Shared->Prop}(st:X.stack=X.env::X.outer)(fr:X.env.frame=some X.env.locals)(F:Flies H s.heap ea T cls dx)(I:Inv X aY τ (trk2 H ea T) s) :
  wpAny M X.A (noteFrame (.ref ea) X.env) (fun _ s2=>∀(A':Around) (E:Value->Shared->Prop),wpAny M A' (setFlight (.ref ea) none) (fun _ s3=>∃T1,Flies H s3.heap ea T1 cls dx/\Inv X aY τ (trk2 H ea T1) s3) E s2) E' s:=by
 have hs:=I.stack;rw[st] at hs;have nx:∀b,trk2 H ea T b≠some HX->b∉[ea,T]:=fun b h z=>by
  simp only[xbu,xgm,xkq] at z;rcases zcr (H:=H) (ea:=ea) (T:=T) (b:=b) with⟨y,_⟩ | ⟨y1,y2,_⟩
  ·exact h y
  ·rcases z with z | z
   ·exact y1 z
   ·exact y2 z
 refine zto (base:=X.base) (I.ok.frames.trans (by rw[st])) hs fr F.r F.t F.ne fun h1 T1 nT oT m1 r1 t1 A' E=>?_
 rw[← st] at m1;have ne1:T1≠ea:=by
  rintro rfl;obtain⟨_,_,q,_⟩:=F.r;rw[nT] at q;cases q
 refine zhy (fs:=frs X.stack) r1 t1 ne1 fun h2 m2 r2 t2=>?_
 have nT1:∀b o,s.heap.get? b=some o->b∉[T1]:=fun b o q z=>by
  rw[xbl] at z;subst z;rw[nT] at q;cases q
 have I2:=I.flew (h':=h2) (H:=H) (ea:=ea) (T:=T1) (fun b=>by
   rcases zcr (H:=H) (ea:=ea) (T:=T) (b:=b) with⟨y,z⟩ | ⟨_,_,y⟩
   ·exact .inr ⟨y,by rcases z with rfl | rfl<;>first | exact F.fe | exact F.ft⟩
   ·exact .inl y) (fun b hb=>by
   rcases hb with rfl | rfl
   ·exact .inr (by unfold trk2;rw[zm])
   ·exact .inl nT) (fun b o hb hf q=>m2.keep b o (nT1 b o q) hf (m1.keep b o (nx b hb) hf q)) (fun b o hb hf q=>by
   obtain⟨sl,q1⟩:=m1.slot b o (nx b hb) hf q;obtain⟨sl2,q2⟩:=m2.slot b _ (nT1 b o q) hf q1;exact⟨sl2,q2⟩) (fun b o q=>by
   have q1:∃o',h1.get? b=some o':=by
    by_cases hb:b∈[ea,T]
    ·simp only[xbu,xgm,xkq] at hb;rcases hb with rfl | rfl
     ·obtain⟨_,_,y,_⟩:=r1;exact⟨_,y⟩
     ·exact oT
    ·by_cases hf:b∈frs X.stack
     ·obtain⟨sl,q1⟩:=m1.slot b o hb hf q;exact⟨_,q1⟩
     ·exact⟨_,m1.keep b o hb hf q⟩
   obtain⟨o1,q1⟩:=q1;by_cases hf:b∈frs X.stack
   ·obtain⟨sl,q2⟩:=m2.slot b _ (nT1 b o q) hf q1;exact⟨_,q2⟩
   ·exact⟨_,m2.keep b _ (nT1 b o q) hf q1⟩) (by obtain⟨_,_,y,_⟩:=r2;exact⟨_,y⟩) (by obtain⟨_,_,y,_⟩:=t2;exact⟨_,y⟩)
 have fT1:H T1=none:=by
  cases q:H T1 with
  | none=>rfl
  | some o =>
   have q':trk2 H ea T T1=some o:=by
    rcases zcr (H:=H) (ea:=ea) (T:=T) (b:=T1) with⟨_,z⟩ | ⟨_,_,y⟩
    ·rcases z with z | z
     ·exact absurd z ne1
     ·rw[z,F.ft] at q;cases q
    ·rw[y];exact q
   obtain⟨ob,hb⟩:=(I.hok T1 o q').here;rw[nT] at hb;cases hb
 exact⟨T1,⟨r2,t2,ne1,F.fe,fT1⟩,I2⟩
theorem zbdn {X:Cx}{aY:List (Addr×Obj)}{τ:St}{H:Hp}{ea T:Addr}{cls:Value}{dx:Option Addr}{s:Shared}{M:Model}{A:Around}{E':Value->Shared->Prop}{Q:Unit->Shared->Prop}(F:Flies H s.heap ea T cls dx)(I:Inv X aY τ (trk2 H ea T) s)
  (h:∀s3,Flies H s3.heap ea T cls dx->Inv X aY τ (trk2 H ea T) s3->Q () s3):wpAny M A (setFlight (.ref ea) none) Q E' s:=by
 refine zhy (fs:=frs X.stack) F.r F.t F.ne fun h2 m2 r2 t2=>?_
 have hT:trk2 H ea T T=some HX:=by unfold trk2;rw[zn F.ne,zm]
 have nT:∀b,trk2 H ea T b≠some HX->b∉[T]:=fun b h z=>by
  rw[xbl] at z;subst z;exact h hT
 refine h _ ⟨r2,t2,F.ne,F.fe,F.ft⟩ (I.flew (h':=h2) (H:=H) (ea:=ea) (T:=T) (fun b=>?_) (fun b hb=>.inr ?_) (fun b o hb hf q=>m2.keep b o (nT b hb) hf q) (fun b o hb hf q=>m2.slot b o (nT b hb) hf q) (fun b o q=>?_) (by obtain⟨_,_,y,_⟩:=r2;exact⟨_,y⟩) (by obtain⟨_,_,y,_⟩:=t2;exact⟨_,y⟩))
 ·rcases zcr (H:=H) (ea:=ea) (T:=T) (b:=b) with⟨y,z⟩ | ⟨_,_,y⟩
  ·exact .inr ⟨y,by rcases z with rfl | rfl<;>first | exact F.fe | exact F.ft⟩
  ·exact .inl y
 ·rcases hb with rfl | rfl
  ·unfold trk2;rw[zm]
  ·exact hT
 ·by_cases hb:b∈[T]
  ·rw[xbl] at hb;subst hb
   obtain⟨_,_,y,_⟩:=t2;exact⟨_,y⟩
  ·by_cases hf:b∈frs X.stack
   ·obtain⟨sl,q2⟩:=m2.slot b _ hb hf q;exact⟨_,q2⟩
   ·exact⟨_,m2.keep b _ hb hf q⟩
def CX1 (P:Program) (w:World):CXT:=fun outer H s E e s'=>∃ea T C dx H',e=.ref ea/\s'.os=s.os/\AllBare s'.gens/\Un (frs outer) [] H (trk2 H' ea T) s.heap s'.heap/\HOk P w (trk2 H' ea T) s'.heap/\Flies H' s'.heap ea T (.ref C) dx/\E (.ref C) dx H'
def Wish (X:Cx) (R:St->Value->Option Addr->Hp->Prop):Prop:=∀(aY:List (Addr×Obj)) (τ:St) (H:Hp) (ea T C:Addr) (dx:Option Addr) (s:Shared),Flies H s.heap ea T (.ref C) dx->Inv X aY τ (trk2 H ea T) s->R τ (.ref C) dx H->X.xe (.ref ea) s
def WishR (X:Cx) (R:St->Value->Option Addr->Hp->Prop):Prop:=∀(aY:List (Addr×Obj)) (τ:St) (H:Hp) (ea C:Addr) (dx:Option Addr) (s0 s:Shared),Inv X aY τ H s0->(∀b o,s0.heap.get? b=some o->s.heap.get? b=some o)->s={s0 with heap:=s.heap,toks:=s.toks}->s0.heap.get? ea=none->Rec s.heap ea (.ref C) dx .none->R τ (.ref C) dx H->X.xe (.ref ea) s
section
variable {P:Program}{w:World}{K:Fg}{mg:Str->Option Value}{base:Heap}{N:List Str}{qual:Str}{scope:Scope}{f:Addr}{cd:Value}{A:Around}{outer:List Env}{s₀:Shared}{H₀:Hp}{E:XK}
theorem zwp:WishR (cxOf (CX1 P w) P w K mg base N qual scope f cd A outer s₀ H₀ E) (fun _ c dx H=>E c dx H):=by
 intro aY τ H ea C dx s0 s I kp es ne r hE;have hs:s.heap.FunFrames base (cxOf (CX1 P w) P w K mg base N qual scope f cd A outer s₀ H₀ E).stack:=I.stack.of_keeps fun b o q _=>⟨o,kp b o q,rfl⟩
 show wpAny _ _ (leaving _ _) _ _ s;unfold leaving;refine xba (zqs (base:=base) I.ok.frames hs rfl r fun h1 m1 r1 t1=>?_);have oe:∃o,s.heap.get? ea=some o:=by obtain⟨_,_,q,_⟩:=r;exact⟨_,q⟩
 have ne1:s.heap.objs.size≠ea:=by
  obtain⟨_,q⟩:=oe;exact xct (xbv (xbi q))
 have nT:s0.heap.get? s.heap.objs.size=none:=by
  cases q:s0.heap.get? s.heap.objs.size with
  | none=>rfl
  | some o=>exact absurd (xbi (kp _ _ q)) (xfg _)
 refine zhy (fs:=frs (cxOf (CX1 P w) P w K mg base N qual scope f cd A outer s₀ H₀ E).stack) r1 t1 ne1 fun h2 m2 r2 t2=>?_
 have ne0:∀b o,s0.heap.get? b=some o->b∉[ea]/\b∉[s.heap.objs.size]:=fun b o q=>by
  refine⟨fun z=>?_,fun z=>?_⟩
  ·rw[xbl] at z;subst z;rw[ne] at q;cases q
  ·rw[xbl] at z;subst z;rw[nT] at q;cases q
 have I2:=I.flew (h':=h2) (H:=H) (ea:=ea) (T:=s.heap.objs.size) (fun b=>.inl rfl) (fun b hb=>by
   rcases hb with rfl | rfl
   ·exact .inl ne
   ·exact .inl nT) (fun b o _ hf q=>m2.keep b o (ne0 b o q).2 hf (m1.keep b o (ne0 b o q).1 hf (kp b o q))) (fun b o _ hf q=>by
   obtain⟨sl,q1⟩:=m1.slot b o (ne0 b o q).1 hf (kp b o q);obtain⟨sl2,q2⟩:=m2.slot b _ (ne0 b o q).2 hf q1;exact⟨sl2,q2⟩) (fun b o q=>by
   by_cases hf:b∈frs (cxOf (CX1 P w) P w K mg base N qual scope f cd A outer s₀ H₀ E).stack
   ·obtain⟨sl,q1⟩:=m1.slot b o (ne0 b o q).1 hf (kp b o q);obtain⟨sl2,q2⟩:=m2.slot b _ (ne0 b o q).2 hf q1;exact⟨_,q2⟩
   ·exact⟨_,m2.keep b o (ne0 b o q).2 hf (m1.keep b o (ne0 b o q).1 hf (kp b o q))⟩) (by obtain⟨_,_,y,_⟩:=r2;exact⟨_,y⟩) (by obtain⟨_,_,y,_⟩:=t2;exact⟨_,y⟩)
 have nH:∀b,s0.heap.get? b=none->H b=none:=fun b hb=>by
  cases q:H b with
  | none=>rfl
  | some o=>obtain⟨ob,z⟩:=(I.hok b o q).here;rw[hb] at z;cases z
 refine⟨ea,s.heap.objs.size,C,dx,H,rfl,?_,?_,I2.base,I2.hok,⟨r2,t2,ne1,nH _ ne,nH _ nT⟩,hE⟩
 ·show s.os=_;rw[es];exact I2.os
 ·show AllBare s.gens;rw[es];exact I2.bare
end
def bmV:List Value:=[.type "ValueError", .type "Exception", .type "BaseException", .type "object"]
def ErrCls (K:Fg) (x:Str) (C:Addr):Prop:=W.nsIn K mainGlobals x=some (some (.ref C))/\W.excIn K C bmV "ValueError.__new__"=true
theorem zbdr {K:Fg}{h:Heap}{mg:Str->Option Value}{x:Str}{C:Addr}(X:K.In h)(G:h.Ns mainGlobals mg)(e:ErrCls K x C):OwnCls x C bmV "ValueError.__new__" mg h:=by
 obtain⟨e1,q⟩:=e;refine⟨xdf X G e1,?_⟩;unfold W.excIn at q;cases hl:K.lookup C with
 | none=>rw[hl] at q;cases q
 | some o =>
  rw[hl] at q;split at q
  ·next _ dd cd sl ho =>
   obtain rfl:=xby ho;split at q
   ·next _ _ C' bm k0 k1 k2 k3 n k5 hm hs =>
    simp only[xek,xfj,Bool.not_eq_true'] at q;obtain⟨⟨⟨⟨⟨c1,c2⟩,c3⟩,c4⟩,c5⟩,c6⟩:=q;obtain⟨nm,bs,mro,ns,qn,hd,sn,sub,ab,col,del⟩:=cd;dsimp only at hm c3 c5 c6;obtain⟨l⟩:=sl;dsimp only at hs;subst c1 c2 c3 hm hs;exact⟨_,_,_,_,_,_,_,_,_,_,_,_,_,_,_,_,_,X _ _ hl,.of_isNs (W.isNs_of_in X c5),W.nsMap_none_of_in X c5 c6,W.tail_of_in X c4⟩
   ·cases q
  ·cases q
section
variable {X:Cx}
end
abbrev Cx.tryc (X:Cx) (E:Value->Shared->Prop) (pn:List (Addr×Obj)):Cx:={X with xe:=E,pn:=X.pn++pn}
abbrev Cx.caught (X:Cx) (e:Value):Cx:={X with A:=X.A.mark (some e),calm:=false,xe:=fun _ _=>False}
section
variable {X:Cx}{aY pins':List (Addr×Obj)}{σ:St}{H:Hp}{s:Shared}{E:Value->Shared->Prop}{e:Value}
theorem Cx.Ok.tryc (ok:X.Ok):(X.tryc E aY).Ok:=⟨ok.mod,ok.kind,ok.glob,ok.blt,ok.above,ok.inj,ok.has,ok.cab,ok.hd,ok.frames,ok.stk,ok.exf,ok.bs,ok.bsz,ok.noex,ok.exfs,ok.funs,ok.frf⟩
theorem Cx.Ok.untryc (ok:(X.tryc E aY).Ok):X.Ok:=⟨ok.mod,ok.kind,ok.glob,ok.blt,ok.above,ok.inj,ok.has,ok.cab,ok.hd,ok.frames,ok.stk,ok.exf,ok.bs,ok.bsz,ok.noex,ok.exfs,ok.funs,ok.frf⟩
theorem Cx.Ok.caught (ok:X.Ok):(X.caught e).Ok:=⟨ok.mod,ok.kind,ok.glob,ok.blt,ok.above,ok.inj,ok.has,ok.cab,(fun z=>Bool.noConfusion (show false=true from z)),ok.frames,ok.stk,ok.exf,ok.bs,ok.bsz,ok.noex,ok.exfs,ok.funs,ok.frf⟩
theorem Inv.tryc (I:Inv X aY σ H s):Inv (X.tryc E aY) [] σ H s:=⟨I.ok.tryc,I.os,I.bare,I.base,I.loc,I.cell,I.free,I.freeC,fun p hp=>I.pin p (by rw[xeg] at hp;exact hp),I.hok,I.len,I.hnd⟩
theorem Inv.untryc (I:Inv (X.tryc E aY) pins' σ H s):Inv X aY σ H s:=⟨I.ok.untryc,I.os,I.bare,I.base,I.loc,I.cell,I.free,I.freeC,fun p hp=>I.pin p (xhb _ hp),I.hok,I.len,I.hnd⟩
theorem Inv.caught (I:Inv X aY σ H s)(he:Hnd (X.A.mark (some e)) H):Inv (X.caught e) aY σ H s:=⟨I.ok.caught,I.os,I.bare,I.base,I.loc,I.cell,I.free,I.freeC,I.pin,I.hok,I.len,he⟩
theorem Inv.uncaught (ok:X.Ok)(hc:X.calm=true)(I:Inv (X.caught e) aY σ H s):Inv X aY σ H s:=⟨ok,I.os,I.bare,I.base,I.loc,I.cell,I.free,I.freeC,I.pin,I.hok,I.len,Hnd.none (ok.hd hc)⟩
theorem SP.untryc {D:Ends}{f:Flow}(h:SP (X.tryc E aY) pins' D f s):SP X aY D f s:=by
 cases f with
 | next=>obtain⟨σ',H',I,q⟩:=h;exact⟨σ',H',I.untryc,q⟩
 | brk=>obtain⟨σ',H',I,q⟩:=h;exact⟨σ',H',I.untryc,q⟩
 | cont=>obtain⟨σ',H',I,q⟩:=h;exact⟨σ',H',I.untryc,q⟩
 | ret u=>obtain⟨v,σ',H',I,r,q⟩:=h;exact⟨v,σ',H',I.untryc,r,q⟩
theorem Inv.forget {h':Heap}{m:Str->Option Value}{t':Nat}(I:Inv X aY σ H s)(hn:h'.Ns X.env.locals m)(hs:Heap.SameBut X.env.locals s.heap h'):Inv X aY (σ.map fun _=>none) H {s with heap:=h',toks:=t'}:=by
 have kp:∀b o,b≠X.env.locals->s.heap.get? b=some o->h'.get? b=some o:=fun b o n q=>by rw[hs.2 b n];exact q
 have nL:∀b o,X.s₀.heap.get? b=some o->b≠X.env.locals:=fun b o q=>xbv (xbh (xbi q) I.ok.above)
 have nH:∀b u,H b=some u->b≠X.env.locals:=fun b u q z=>by rw[z,I.free] at q;cases q
 refine⟨I.ok,I.os,I.bare,⟨fun b o q n f x=>kp b o (nL b o q) (I.base.keep b o q n f x),fun b o q n f x=>?_,I.base.free,fun b o q x=>?_,I.base.tups,I.base.frzs,I.base.tbls⟩,⟨m,hn,fun i x v _ q _=>?_⟩,fun x c q=>?_,I.free,I.freeC,fun p hp=>?_,fun b u q=>?_,by rw[xbd];exact I.len,I.hnd⟩
 ·obtain⟨sl,z⟩:=I.base.slot b o q n f x;exact⟨sl,kp b _ (nL b o q) z⟩
 ·obtain⟨o',z⟩:=I.base.there b o q x;exact⟨o',kp b _ (nL b o q) z⟩
 ·rw[xcc] at q;cases z:σ[i]?<;>rw[z] at q<;>cases q
 ·obtain⟨v,o,ho,hd⟩:=I.cell x c q;exact⟨v,o,kp c o (I.cne x c q) ho,hd⟩
 ·obtain⟨a,b,c,d⟩:=I.pin p hp;exact⟨kp _ _ c a,b,c,d⟩
 ·exact(I.hok b u q).stay (fun c v hc z=>kp c v (by rcases hc with rfl | hc;exact nH _ _ q;exact nH _ _ hc) z) (fun _ z=>z) fun _ _ z=>z
end
def RH (K:Fg) (B:Addr) (i:Nat) (ts:TS) (rt:VK):St->Value->Option Addr->Hp->Prop:=fun τ cls dx H=>W.exmOne K cls (.ref B)=some true /\
 ∀ea T o,H ea=none->H T=none->T≠ea->o.cls=cls->o.dict=dx->(∃vs,o.data=.fields vs/\vs[2]?=some .none)->ts {nx:=fun _ _=>False,rt:=rt} (τ.set i (some (.ref ea))) (upd (upd H T HX) ea (.frz o HX))
section
variable {X:Cx}{body:List Stmt}{x n:Str}{B:Addr}{i:Nat}{b0:Stmt}{suite:List Stmt}{xp hp pos:Pos}{tb:(St->Value->Option Addr->Hp->Prop)->TS}{ts:TS}
theorem zbhd (hc:X.calm=true)(st:X.stack=X.env::X.outer)(fr:X.env.frame=some X.env.locals)(hN:X.N.Nodup)(hi:X.N[i]?=some n)(hn:X.env.kindOf n=some .local)(hg:Gl X x)(hB:W.nsIn X.K mainGlobals x=some (some (.ref B)))
  (hb:∀(R:St->Value->Option Addr->Hp->Prop) (E:Value->Shared->Prop) (pn:List (Addr×Obj)), Wish (X.tryc E pn) R->PSs (X.tryc E pn) body (tb R))(hs:∀ e, PSs (X.caught e) (b0::suite) ts)(hd:(x==("__debug__" : Str))=false:=by decide) :
  PS X (.Try body [.ExceptHandler (some (.Name x xp)) (some n) (b0::suite) hp] [] [] pos) (fun D σ H=>tb (RH X.K B i ts D.rt) D σ H):=by
 intro aY s σ H D I h;have ok:=I.ok;refine wpAny_Try_except ?_;refine xdh (hb _ (fun e s1=>wpAny (model X.prog X.w) X.A (noteFrame e X.env) (fun _ s2=>wpAny (model X.prog X.w) X.A (setFlight e none) (fun _ s3=>wpAny (model X.prog X.w) X.A (handleBy e X.env [.ExceptHandler (some (.Name x xp)) (some n) (b0::suite) hp]) (SP X aY D) X.xe s3) X.xe s2) X.xe s1) aY ?_ [] s σ H D I.tryc h) (fun f s1 q=>?_) fun _ _ q=>q
 rotate_left
 ·cases f with
  | next=>obtain⟨σ',H',I',q'⟩:=q;exact xjd ⟨σ',H',I'.untryc,q'⟩
  | brk=>exact SP.untryc q
  | cont=>exact SP.untryc q
  | ret u=>exact SP.untryc q
 intro pins' τ H' ea T C dx s' F I' hR;obtain⟨hm,hR⟩:=hR;refine thn (zrc st fr F I'.untryc) fun _ s2 h2=>thn (h2 X.A X.xe) fun _ s3 hq0=>?_
 obtain⟨T1,F1,I3⟩:=hq0;refine wpAny_handleBy_cons (codeAny_handlers_test ?_) (by intro z;cases z);refine xit I3.ok.kind hg (Calls.loadGlobal_global (by rw[I3.ok.glob];exact I3.mod.glob.keeps I3.bk) (xdf I3.mod.kin I3.mod.glob hB) ?_) hd;obtain⟨h3,g3,d3,t3,os3⟩:=s3;obtain⟨oe,vs,r1,r2,r3,r4,r5,r6⟩:=id F1.r;refine(W.exm_one (M:=model X.prog X.w) I3.kIn (r2 ▸ (W.Looks.ld r1).andThen .now) hm).at ?_;rw[if_pos rfl];refine codeAny_handlers_suite_as ?_;refine zbdn F1 I3 fun s4 F4 I4=>?_
 obtain⟨o,ws,q1,q2,q3,q4,q5,q6⟩:=id F4.r;have I5:Inv X aY τ (upd (upd H' T1 HX) ea (.frz o HX)) s4:=by
  have z:=I4.write (h':=s4.heap) (t':=s4.toks) (x:=ea) (e:=ea) (o:=.frz o HX) (by unfold trk2;rw[zm];trivial) (.inl rfl) (fun _ _ _ q=>q) ⟨_,q1⟩ ⟨q1,zyq ⟨_,q1⟩⟩;unfold trk2 at z;rw[zban] at z;exact z
 refine zjn (v:=.ref ea) I5 hN hi (.inl hn) rfl (fun s5 I6=>?_) (.inr hn);refine xdh (hs (.ref ea) aY s5 _ _ _ (I6.caught fun v z=>⟨ea,o,(xby z).symm,zm,ws,q4,q6⟩) (hR ea T1 o F4.fe F4.ft F4.ne q2 q3 ⟨_,q4,q6⟩)) (fun f s6 q=>?_) fun _ _ z=>z.elim
 cases f with
 | next=>obtain⟨_,_,_,z⟩:=q;exact z.elim
 | brk=>obtain⟨_,_,_,z⟩:=q;exact z.elim
 | cont=>obtain⟨_,_,_,z⟩:=q;exact z.elim
 | ret u =>
  obtain⟨v,σ',H6,I7,rv,q⟩:=q;obtain⟨m,hm6,_⟩:=id I7.loc;refine wpAny_nameGoes hn hm6 (by rw[ok.kind];rfl) fun h7 m7 n7 s7=>?_
  exact⟨v,_,H6,(I7.uncaught ok hc).forget n7 s7,rv,q⟩
end
section
variable {prog:Program}{w:World}{A:Around}{E:Value->Shared->Prop}
end
section
variable {X:Cx}{pos:Pos}
end
theorem zbfj {CX:CXT}{P:Program}{w:World}{K:Fg}{mg:Str->Option Value}{base:Heap}{k:Nat}{f:Addr}{name qual:Str}{params:Arguments}{body:List Stmt}{scope:Scope}{dV kV doc pm cdv ct oc:Value}{an od:Option Addr}
  {osl:Array (Option Value)}{N ps:List Str}(lk:K.lookup f=some ⟨oc,od,.func (W.fnOf name qual params body scope dV kV doc pm an cdv ct),osl⟩)(hcd:W.codeIn K cdv qual=true)(S:FnScope N ps scope)
  {A:Around}{outer:List Env}{s:Shared}{H:Hp}{args:Args}{us:List Value}{vs:List V}{Q:VK}{E:XK}(hr:Room (k+1) A)(e0:Env0 P w K mg base A outer s H)(hb:BindsTo s (W.fnOf name qual params body scope dV kV doc pm an cdv ct) args (ps.zip us))(r:Vals vs us)(hl:vs.length=ps.length)
  {t:TS}(ht:PSs (cxOf CX P w K mg base N qual scope f cdv A outer s H E) body t)(hq:t {nx:=fun _ H'=>Q .non H',rt:=Q} (start N vs) H):codeAny (model P w) A (.call (.ref f) args) (CR CX outer P w H s Q E) s:=by
 have KX:K.In s.heap:=e0.mod.kin.keeps fun b o e=>(e0.bs b o e).1
 have lim:s.heap.NoLimit:=e0.mod.nolimit.keeps fun b o e=>(e0.bs b o e).1
 refine codeAny_call_function hr.depth (KX _ _ lk) rfl S.co S.gen rfl (W.codeRec_of KX hcd) (hb _ _ _ _ (wpAny_newFunctionEnv_cells S.kind (fun y hy=>?_) fun env he s1 x=>?_))
 ·rcases S.par y.1 (xki (a:=y.1) (b:=y.2) hy).1 with q | q
  ·exact .inl q
  ·exact .inr ⟨q,xju _ _ _ (.inl q)⟩
 subst he;refine⟨lim.keeps x.toInCall.keep,codeAny_func ?_⟩;have I:Inv (cxOf CX P w K mg base N qual scope f cdv A outer s H E) [] (start N vs) H s1:=znv S hr.hd e0 hl r x;refine xdh (ht [] s1 (start N vs) H _ I hq) (fun fl s' hs=>?_) fun e s' hs=>hs
 cases fl with
 | ret u=>obtain⟨v,σ',H',J,rv,q⟩:=hs;exact⟨v,H',J.os,J.bare,J.base,J.hok,rv,q⟩
 | next=>obtain⟨σ',H',J,q⟩:=hs;exact⟨.non,H',J.os,J.bare,J.base,J.hok,rfl,q⟩
 | brk=>obtain⟨_,_,_,q⟩:=hs;exact False.elim q
 | cont=>obtain⟨_,_,_,q⟩:=hs;exact False.elim q
def cxL (P:Program) (w:World) (K:Fg) (mg:Str->Option Value) (base:Heap) (N:List Str) (qual:Str) (scope:Scope) (f:Addr) (cd:Value) (cl:List (Str×Addr)) (A:Around) (outer:List Env) (s:Shared) (H:Hp) (E:XK):Cx where
 prog:=P
 w:=w
 K:=K
 mg:=mg
 base:=base
 A:=A.deeper (W.envX qual scope s.heap.objs.size f cd cl)
 N:=N
 s₀:=s
 H₀:=H
 env:=W.envX qual scope s.heap.objs.size f cd cl
 outer:=outer
 stack:=W.envX qual scope s.heap.objs.size f cd cl::outer
 ex:=[]
 calm:=true
 fn:=fun _=>false
 pn:=[]
 xe:=fun e s'=>wpAny (model P w) (A.deeper (W.envX qual scope s.heap.objs.size f cd cl)) (leaving (W.envX qual scope s.heap.objs.size f cd cl) e) (fun _ s''=>CX1 P w outer H s E e s'') (fun e' s''=>CX1 P w outer H s E e' s'') s'
structure LamScope (scope:Scope):Prop where
 kind:scope.kind=.function
 co:scope.isCoroutine=false
 gen:scope.isGenerator=false
 nocell:∀y∈scope.names,y.2≠.cell
structure KeptL (scope:Scope) (N:List Str) (cl:List (Str×Addr)) (τ:St) (s:Shared) (H:Hp):Prop where
 inj:∀x y c,cl.lookup x=some c->cl.lookup y=some c->x=y
 has:∀x,(x,NameKind.free)∈scope.names->∃c,cl.lookup x=some c
 cell:∀x c,cl.lookup x=some c->(∃v,s.heap.IsCell c v)/\H c=none
 val:∀(i:Nat) (x:Str) (v:V),N[i]?=some x->τ[i]?=some (some v)->scope.names.lookup x=some .free/\∃c u,cl.lookup x=some c/\s.heap.IsCell c (some u)/\RelV v u
 len:τ.length=N.length
section
variable {P:Program}{w:World}{K:Fg}{mg:Str->Option Value}{base:Heap}{N:List Str}{name qual:Str}{params:Arguments}{body:Expr}{scope:Scope}{f:Addr}{cd pm ct:Value}{cl:List (Str×Addr)}{A:Around}{outer:List Env}{s:Shared}{H:Hp}{E:XK}{τ:St}
theorem zbdj {h1:Heap}{tk:Nat}(S:LamScope scope)(hd:A.handled=none)(e0:Env0 P w K mg base A outer s H)(kp:KeptL scope N cl τ s H)(ns:h1.Ns s.heap.objs.size fun _=>none)(hk:∀b o,s.heap.get? b=some o->h1.get? b=some o) :
  Inv (cxL P w K mg base N qual scope f cd cl A outer s H E) [] τ H {s with heap:=h1,toks:=tk}:=by
 have noA:∀b:Addr,b∉(cxL P w K mg base N qual scope f cd cl A outer s H E).ex:=fun b z=>absurd (show b∈([]:List Addr) from z) (by simp)
 have ck:∀{c:Addr} {v:Option Value},s.heap.IsCell c v->h1.IsCell c v:=fun⟨o,a,b⟩=>⟨o,hk _ _ a,b⟩
 refine⟨⟨e0.mod,S.kind,rfl,rfl,xbf _,kp.inj,fun y hy=>?_,fun y c z=>(nomatch z),fun _=>hd,Around.frames_deeper e0.frames,.inr ⟨rfl,rfl⟩,fun b z=>absurd z (noA b),e0.bs,e0.bsz,fun b _ _=>noA b,fun b z=>absurd z (noA b),e0.funs,e0.frf⟩,
  rfl,e0.bare,Un.kept hk,⟨_,ns,fun i y v a b _=>?_⟩,fun y c a=>?_,e0.hok.fresh (xbf _),fun y c a=>(kp.cell y c a).2,fun p hp=>absurd (show p∈([]:List (Addr×Obj)) from hp) (by simp),e0.hok.kept hk,kp.len,Hnd.none hd⟩
 ·have hy:scope.names.lookup y=some .cell\/scope.names.lookup y=some .free:=hy;rcases hy with q | q
  ·exact absurd rfl (S.nocell _ (xen q))
  ·exact kp.has y (xen q)
 ·obtain⟨q,c,u,e1,e2,rv⟩:=kp.val i y v a b;exact⟨u,rv,.inr ⟨.inr q,c,e1,ck e2⟩⟩
 ·obtain⟨v,e⟩:=(kp.cell y c a).1;exact⟨v,ck e⟩
theorem zyl {k:Nat}{o:Obj}{te:TE}{Q:VK}(S:LamScope scope)(hr:Room (k+1) A)(e0:Env0 P w K mg base A outer s H)(kp:KeptL scope N cl τ s H)(ho:s.heap.get? f=some o)(hd:o.data=.func (W.kla_fn name qual params body scope cl pm cd ct))(hcd:s.heap.CodeRec cd qual)
  (hb:bindArgs (W.kla_fn name qual params body scope cl pm cd ct) ⟨[],[]⟩=pure [])(he:PE (cxL P w K mg base N qual scope f cd cl A outer s H E) body te)(hq:te τ H Q):codeAny (model P w) A (.call (.ref f) ⟨[],[]⟩) (CR (CX1 P w) outer P w H s Q E) s:=by
 have lim:s.heap.NoLimit:=e0.mod.nolimit.keeps fun b o e=>(e0.bs b o e).1
 refine W.kla_callFunE hr.depth ho hd S.co S.gen rfl hcd ?_;rw[hb];refine xbe (wpAny_newFunctionEnv S.nocell (fun y hy=>absurd (show y∈([]:List (Str×Value)) from hy) (by simp)) (fun h1 hns hsb=>?_) S.kind);have hk:∀b o,s.heap.get? b=some o->h1.get? b=some o:=fun b o e=>hsb.extBut b o (xbv (xbi e)) (xbb _ e)
 refine⟨lim.keeps hk,W.kla_codeExpr ?_⟩;have I:Inv (cxL P w K mg base N qual scope f cd cl A outer s H E) [] τ H {s with heap:=h1,toks:=s.toks+([]:List (Str×Value)).length}:=zbdj S hr.hd e0 kp hns hk;refine xdh (he [] _ τ H Q I hq) (fun u s' hs=>?_) fun e s' hs=>hs
 obtain⟨v,H',J,rv,q⟩:=hs;exact⟨v,H',J.os,J.bare,J.base,J.hok,rv,q⟩
theorem zpj:Wish (cxL P w K mg base N qual scope f cd cl A outer s H E) (fun _ c dx H=>E c dx H):=by
 intro aY τ H ea T C dx s F I hE;show wpAny _ _ (leaving _ _) _ _ s;unfold leaving;refine xba (thn (zrc rfl rfl F I) fun _ s2 h2=>thn (h2 _ _) fun _ s3 hq0=>?_);obtain⟨T1,F1,I2⟩:=hq0;exact⟨ea,T1,C,dx,H,rfl,I2.os,I2.bare,I2.base,I2.hok,F1,hE⟩
end
theorem zhm:∀{l:List Value} {a b:Nat} {v:Value},TriplesOk l->TriplesOk (l++[rawInt a,rawInt b,v])
 | [],_,_,_,_=>trivial
 | .int _ _::.int _ _::_::r,_,_,_,h=>zhm (l:=r) h
theorem zlh {pos':Pos}{cv v:Value}{a b:Nat}:∀{l:List Value},TriplesOk l->codeAmong pos' (l++[rawInt a,rawInt b,v])=some cv->codeAmong pos' l=some cv\/cv=v
 | [],_,e=>by
  unfold codeAmong at e;simp only[xfb,rawInt] at e;split at e
  ·exact .inr (xby e).symm
  ·exact absurd e (by simp[codeAmong])
 | .int i t::.int j u::x::r,h,e=>by
  simp only[xhh,codeAmong] at e ⊢;split at e
  ·rename_i q;rw[if_pos q];exact .inl e
  ·rename_i q;rw[if_neg q];exact zlh (l:=r) h e
def BmOk (mg:Str->Option Value) (base:Heap):Prop:=∃ bm ob, mg "__builtins__"=some (.ref bm)/\bm≠builtinsNs/\base.get? bm=some ob/\ob.cls=.type "module"/\ob.dict=some builtinsNs/\ob.data=.plain
section
variable {X:Cx}{aY:List (Addr×Obj)}{τ:St}{H:Hp}{s:Shared}{c T:Addr}{ps:Array Value}{params:Arguments}{body:Expr}{scope:Scope}{cl:List (Str×Addr)}{pos:Pos}{Q:Value->Shared->Prop}
abbrev lamO (mg:Str->Option Value) (params:Arguments) (body:Expr) (scope:Scope) (cl:List (Str×Addr)) (c':Addr) (ctv:Value):Obj:={ cls:=.type "function", data:=.func (W.kla_fn "<lambda>" Dd.lamQ params body scope cl ((mg "__name__").getD .none) (.ref c') ctv) }
structure Grew (T:Addr) (H H':Hp):Prop where
 tab:∃ps,H' T=some (.tbl ps)/\Dd.TabOk H' ps
 old:∀a o,H a=some o->a≠T->H' a=some o
 new:∀a,a≠T->H a=none->H' a≠none->∃o,H' a=some (.frz o HX)
theorem zyk (I:Inv X aY τ H s)(C:W.CodeHd X.base c T)(B:BmOk X.mg X.base)(hcode:X.env.code=.ref c)(hT:H T=some (.tbl ps))(ok:Dd.TabOk H ps)(hqu:X.env.qual++"<lambda>"=Dd.lamQ)(hcl:closureFor scope X.env=pure cl)(hdef:defaultsOf params X.env=([],[]))
  (k:∀f c' ctv s' H',Inv X aY τ H' s'->Grew T H H'->H' f=some (.frz (lamO X.mg params body scope cl c' ctv) HX)->H f=none->(∃oc vs t,H' c'=some (.frz oc HX)/\oc.data=.fields vs/\vs[1]?=some (.str Dd.lamQ t))->Q (.ref f) s') :
  wpAny (model X.prog X.w) X.A (eval (.Lambda params body scope pos) X.env) Q X.xe s:=by
 refine W.kla_eval hdef ?_;rw[hqu];have hg:s.heap.Ns mainGlobals X.mg:=I.mod.glob.keeps I.bk;have tb:s.heap.get? T=some (W.tabObj ps):=I.hok T _ hT;have neT:∀b o,X.base.get? b=some o->b≠T:=fun b o e z=>by
  have:=(I.bs b o e).2;rw[z,hT] at this;cases this
 have hgT:mainGlobals≠T:=by
  obtain⟨o,_,_,e,_⟩:=I.mod.glob;exact neT _ o e
 have CH:W.CodeHd s.heap c T:=C.keeps I.bk;have hb:s.heap.BuiltinsAt X.mg T:=by
  obtain⟨bm,ob,b1,b2,b3,b4,b5,b6⟩:=B;refine⟨bm,ob,b1,b2,fun z=>?_,neT _ _ b3,I.bk _ _ b3,b4,b5,b6⟩;obtain⟨o,es,ep,e,hd,_⟩:=I.mod.glob;rw[z,e] at b3;cases b3;rw[hd] at b6;cases b6
 have ltT:T < s.heap.objs.size:=xbi tb;cases hf:codeAmong pos ps.toList with
 | some cv =>
  obtain⟨c',oc,vs,t,rfl,h1,h2,h3⟩:=ok.2 pos cv hf;refine W.kla_makeFunctionHit (mg:=X.mg) hcl I.ok.glob hg hcode CH tb ok.1 hf hb fun ctv h' tk hk hsz=>?_
  have hk2:∀(ob:Obj) b o,s.heap.get? b=some o->(h'.push ob).get? b=some o:=fun ob b o e=>xbb _ (hk b o e)
  have nf:H h'.objs.size=none:=I.hok.fresh hsz;have gf:(h'.push (lamO X.mg params body scope cl c' ctv)).get? h'.objs.size=some (lamO X.mg params body scope cl c' ctv):=xbk _ rfl;refine k h'.objs.size c' ctv _ (upd H h'.objs.size (.frz (lamO X.mg params body scope cl c' ctv) HX)) (I.un (t':=tk) (Un.laid (hk2 _) hsz nf) (I.hok.laid (hk2 _) hsz ⟨gf,zyq ⟨_,gf⟩⟩)) ⟨⟨ps,?_,ok.map fun b ob u e=>?_⟩,fun a o e _=>?_,fun a _ n1 n2=>?_⟩ zm nf ⟨oc,vs,t,?_,h2,h3⟩
  ·rw[zn (zj hT nf)];exact hT
  ·rw[zn (zj e nf)];exact e
  ·rw[zn (zj e nf)];exact e
  ·by_cases z:a=h'.objs.size
   ·subst z;exact⟨_,zm⟩
   ·rw[zn z] at n2;exact absurd n1 n2
  ·rw[zn (zj h1 nf)];exact h1
 | none =>
  refine W.kla_makeFunction (mg:=X.mg) hcl I.ok.glob hg hcode CH tb ok.1 hf hgT hb fun c' ctv h' tk hx hge hlt hrec htb=>?_
  obtain⟨c2,oc,vs,t,ec,hoc,hd,hv⟩:=hrec;cases ec;have nc:H c'=none:=I.hok.fresh hge;have hsz:s.heap.objs.size<=h'.objs.size:=xbc hge (xbw hlt);have nf:H h'.objs.size=none:=I.hok.fresh hsz;have cT:c'≠T:=fun z=>by rw[z,hT] at nc;cases nc
  have fT:h'.objs.size≠T:=fun z=>by rw[z,hT] at nf;cases nf
  have fc:h'.objs.size≠c':=xga hlt;generalize hH:upd (upd (upd H T (.tbl (ps++#[rawInt pos.line,rawInt pos.col,.ref c']))) c' (.frz oc HX)) h'.objs.size (.frz (lamO X.mg params body scope cl c' ctv) HX)=H';have gf:(h'.push (lamO X.mg params body scope cl c' ctv)).get? h'.objs.size=some (lamO X.mg params body scope cl c' ctv):=xbk _ rfl;have hk2:∀b o,b≠T->s.heap.get? b=some o->(h'.push (lamO X.mg params body scope cl c' ctv)).get? b=some o:=fun b o n e=>xbb _ (hx b o n e)
  have old:∀b o,H b=some o->b≠T->H' b=some o:=fun b o e n=>by
   rw[← hH,zn (zj e nf),zn (zj e nc),zn n];exact e
  have hT':H' T=some (.tbl (ps++#[rawInt pos.line,rawInt pos.col,.ref c'])):=by rw[← hH,zn fT.symm,zn cT.symm,zm]
  have hc':H' c'=some (.frz oc HX):=by rw[← hH,zn fc.symm,zm]
  have hf':H' h'.objs.size=some (.frz (lamO X.mg params body scope cl c' ctv) HX):=by rw[← hH,zm]
  have nT:∀b,H b=none->b≠T:=fun b n z=>by rw[z,hT] at n;cases n
  have oT:∀{b:Addr} {o:HO},H b=some o->(∀qs,o≠.tbl qs)->b≠T:=fun {b o} e n z=>by rw[z,hT] at e;cases e;exact n _ rfl
  have els:∀b,b≠T->b≠c'->b≠h'.objs.size->H' b=H b:=fun b a1 a2 a3=>by rw[← hH,zn a3,zn a2,zn a1]
  have nw:Inv X aY τ H' {s with heap:=h'.push (lamO X.mg params body scope cl c' ctv),toks:=tk}:=by
   refine I.step (g':=s.gens) (d':=s.drawn) (ch:=[]) (fun _ z=>nomatch z) (fun b o _ _ _ e n=>hk2 b o (nT b n) e) (fun b o _ _ _ e n=>⟨o.slots,hk2 b o (nT b n) e⟩) (fun b o _ e n=>?_) (fun b o _ e=>?_) (fun b xs e=>old b _ e (oT e nofun)) (fun b o u e=>old b _ e (oT e nofun)) (fun b qs e=>?_) (fun m hm=>?_) (fun b o e=>?_) I.bare
   ·rw[els b (nT b n) (xbv (xbh (xbi e) hge)) (xbv (xbh (xbi e) hsz))];exact n
   ·by_cases z:b=T
    ·subst z;exact⟨_,xbb _ htb⟩
    ·exact⟨o,hk2 b o z e⟩
   ·by_cases z:b=T
    ·subst z;rw[hT] at e;cases e;exact⟨_,hT'⟩
    ·exact⟨#[],by rw[xhw];exact old b _ e z⟩
   ·obtain⟨o,es,ep,e,r⟩:=hm;exact⟨o,es,ep,hk2 _ o (nT _ I.free) e,r⟩
   ·by_cases z1:b=c'
    ·subst z1;rw[hc'] at e;cases e
     exact⟨xbb _ hoc,zyq ⟨_,xbb _ hoc⟩⟩
    ·by_cases z2:b=T
     ·subst z2;rw[hT'] at e;cases e
      exact(xbb _ htb:(h'.push _).get? b=_)
     ·by_cases z3:b=h'.objs.size
      ·subst z3;rw[hf'] at e;cases e
       exact⟨gf,zyq ⟨_,gf⟩⟩
      ·rw[els b z2 z1 z3] at e
       exact(I.hok b o e).stay (fun a u ha q=>hk2 a u (by
        rcases ha with rfl | ha
        ·exact z2
        ·exact oT ha nofun) q) (fun a ha=>old a _ ha (oT ha nofun)) fun a xs ha=>old a _ ha (oT ha nofun)
  refine k h'.objs.size c' ctv _ H' nw ⟨⟨_,hT',?_,fun pos' cv e=>?_⟩,old,fun a n1 n2 n3=>?_⟩ hf' nf ⟨oc,vs,t,hc',hd,hv⟩
  ·rw[xde];exact zhm ok.1
  ·rw[xde] at e;rcases zlh ok.1 e with q | q
   ·obtain⟨c2,oc2,vs2,t2,e1,e2,e3⟩:=ok.2 pos' cv q;exact⟨c2,oc2,vs2,t2,e1,old _ _ e2 (oT e2 nofun),e3⟩
   ·exact⟨c',oc,vs,t,q,hc',hd,hv⟩
  ·by_cases z:a=c'
   ·subst z;exact⟨oc,hc'⟩
   ·by_cases z3:a=h'.objs.size
    ·subst z3;exact⟨_,hf'⟩
    ·rw[els a n1 z z3] at n3;exact absurd n2 n3
def tLam (X:Cx) (T:Addr) (params:Arguments) (body:Expr) (scope:Scope):TE:=fun _ H Q=>∃ps,H T=some (.tbl ps)/\Dd.TabOk H ps/\∀f c' ctv cl H',(∀x c,cl.lookup x=some c->X.env.cells.lookup x=some c)->(∀x,(x,NameKind.free)∈scope.names->∃c,cl.lookup x=some c)->Grew T H H'->H' f=some (.frz (lamO X.mg params body scope cl c' ctv) HX)->H f=none->(∃oc vs t,H' c'=some (.frz oc HX)/\oc.data=.fields vs/\vs[1]?=some (.str Dd.lamQ t))->Q (.ref f) H'
theorem zbhs {N:List Str}{is:List Nat}(S:CompScope X N 0 is scope)(C:W.CodeHd X.base c T)(B:BmOk X.mg X.base)(hcode:X.env.code=.ref c)(hqu:X.env.qual++"<lambda>"=Dd.lamQ)(hdef:defaultsOf params X.env=([],[])):PE X (.Lambda params body scope pos) (tLam X T params body scope):=by
 intro aY s σ H Q I ⟨ps,hT,ok,h⟩;obtain⟨cl,e,c1,c2⟩:=zfl S I;exact zyk I C B hcode hT ok hqu e hdef fun f c' ctv s' H' I' g h1 h2 h3=>⟨.ref f,H',I',rfl,h f c' ctv cl H' c1 c2 g h1 h2 h3⟩
end
structure ErrLook (K:Fg) (C:Addr):Prop where
 ga:W.findIn K (.ref C) "__getattribute__"=some (some (.builtin "BaseException.__getattribute__"))
 gt:W.findIn K (.ref C) "__getattr__"=some none
 mb:W.mroIn K C (.type "BaseException")=some true
 cls:(W.clsIn K C).isSome=true
 fi:W.findIn K (.ref C) "__class__"=some (some (.builtin "object.__class__"))
 sp:W.specialIn K (.builtin "object.__class__") "__get__"=some (some (.builtin "getset_descriptor.__get__"))
 tk:W.takesIn K (.builtin "object.__class__")=some true
 mr:W.mroIn K C (.type "object")=some true
theorem zys {K:Fg}{C:Addr}{od:Option Obj}(L:ErrLook K C):W.findObj K C od "__class__"=some (.bind (.builtin "getset_descriptor.__get__") (.builtin "object.__class__")):=by
 obtain⟨cd,hc⟩:=xje.mp L.cls;unfold W.findObj;rw[hc,xlr,L.fi,xlr];simp[L.sp,L.tk]
theorem zbip {K:Fg}{C:Addr}(h:(W.clsIn K C).isSome=true):∃o cd,K.lookup C=some o/\o.data=.cls cd:=by
 obtain⟨cd,hc⟩:=xje.mp h;unfold W.clsIn at hc;split at hc
 ·next ho=>cases hc;exact⟨_,_,ho,rfl⟩
 ·cases hc
theorem zzp {K:Fg}{M:Model}{A:Around}{E:Value->Shared->Prop}{s:Shared}{x D:Addr}{ox:Obj}{odo:Option Obj}{nameV:Value}{Q:Unit->Shared->Prop}(X:K.In s.heap)(I:W.InstAt s.heap x ox D odo)(hmb:W.mroIn K D (.type "BaseException")=some true)
  (h:Q () s):wpAny M A (checkBuiltinCall "BaseException.__getattribute__" ⟨[.ref x, nameV],[]⟩) Q E s:=by
 have hk:builtinKind "BaseException.__getattribute__"=some .slot:=by decide +kernel
 have hsplit:splitId "BaseException.__getattribute__"=some ("BaseException", "__getattribute__"):=by decide +kernel
 have L0:=I.type (M:=M);have L4:=W.looks_mroIn (M:=M) X hmb;have ha:=F.args_bexc_ga (.ref x) nameV;simp only[checkBuiltinCall,hk,hsplit];refine xba ?_;unfold isInstance;refine xba (L0.at (L4.at ?_))
 repeat (first | assumption | wp_step)
theorem zuf {K:Fg}{prog:Program}{w:World}{A:Around}{E:Value->Shared->Prop}{s:Shared}{x D:Addr}{ox:Obj}{odo:Option Obj}{Q:Option Value->Shared->Prop}(X:K.In s.heap)(I:W.InstAt s.heap x ox D odo)
  (L:ErrLook K D)(h:Q (some (.ref D)) { s with toks:=s.toks + 1 }):wpAny (model prog w) A (getAttr? (.ref x) "__class__") Q E s:=by
 obtain⟨hh,g,d,t,os⟩:=s;have L0:=I.type (M:=model prog w);have L1:=W.looks_findIn (M:=model prog w) X L.ga;have L2:=W.looks_findIn (M:=model prog w) X L.gt;have L3:=W.looks_find (M:=model prog w) X I (zys L);have hx2:(Value.builtin "BaseException.__getattribute__"==Value.builtin "object.__getattribute__")=false:=by decide +kernel
 unfold getAttr? getAttrBy? getAttrBy;refine xba (wpAny_mkText (xba (xhq (xdm (xba (L0.at (xba (L1.at ?_))))))));dsimp only;rw[hx2,Bool.and_false,if_neg (by decide)];unfold getAttrByItsOwn;refine xba (show wpAny _ _ (typeLookup (.ref D) "__getattr__") _ _ _ from L2.at ?_)
 refine xba (xhq (xdm ?_));show wpAny _ _ (boundAndCalled _ _ _) _ _ _;unfold boundAndCalled;rw[xla.ga.bind];refine xba (xbe ?_);refine xip (xiq xla.ga.plain F.entry_bexc_ga (zzp (s:=⟨hh,g,d,t+1,os⟩) X I L.mb ?_));unfold Builtin.«object.__getattribute__»;refine xba (xbe (xba (xbe (xba (L0.at (xba (L3.at ?_)))))));dsimp only;show wpAny _ _ (holding [Value.builtin "object.__class__"] (call (Value.builtin "getset_descriptor.__get__") [Value.builtin "object.__class__", Value.ref x, Value.ref D]) >>= ret) _ _ _
 refine xba (xdm (xip (W.class_get (s:=⟨hh,g,d,t+1,os⟩) X I L.mr ?_)));refine xbe ?_;exact W.handed_on rfl (xbe h)
theorem zym {K:Fg}{a C:Addr}{o:Obj}(L:ErrLook K C)(hd:o.dict=none)(hn:∃vs,o.data=.fields vs)(hc:o.cls=.ref C):W.KitX K (.ref a) (.ref C) (fun h=>h.get? a=some o):=by
 have inst:∀{h:Heap},h.get? a=some o->W.InstAt h a o C none:=fun e=>⟨e,hc,by obtain⟨vs,q⟩:=hn;unfold W.notCls;rw[q],by rw[hd];trivial⟩
 obtain⟨oc,cd,l1,l2⟩:=zbip L.cls;refine⟨fun M h _ e=>(inst e).type,fun M h X _=>?_,fun h tp dd its n sl X htp=>?_,fun {prog w A E Q s} X e k=>?_⟩
 ·intro A' Q' E' s' k q;unfold isType loadHead;refine xba (wpAny_loadPart (k _ _ (X _ _ l1)) (xbe ?_));rw[l2];exact q
 ·refine Bool.eq_false_iff.mpr fun q=>?_
  have e:C=tp:=Value.ref.inj (xfj.mp q);subst e;have z:=(X _ _ l1).symm.trans htp;cases z;cases l2
 ·exact zuf X (inst e) L k
section
variable {X:Cx}
def rIsb (K:Fg) (xs:List V) (H:Hp) (Q:VK):Prop:=∃a o C c cv b,xs=[.ref a,c]/\RelV c cv/\(∀u,RelV c u->u=cv)/\H a=some (.frz o HX)/\o.cls=.ref C/\ErrLook K C/\o.dict=none/\(∃vs,o.data=.fields vs)/\W.kitOne K (.ref C) cv=some b/\Q (.bl b) H
theorem zzr:CallR X (.builtin "isinstance") (rIsb X.K):=by
 intro aY s σ H xs us Q I r h;obtain⟨a,o,C,c,cv,b,rfl,_,un,h1,h2,lk,h3,h4,e,q⟩:=h;obtain⟨u,w',rfl,ru,rw'⟩:=vals2 r;obtain rfl:=un _ rw';cases(show u=Value.ref a from ru);exact W.kia_one (zym lk h3 h4 h2) I.kIn (I.hok a _ h1).1 e (by intro z;cases z) fun tk=>⟨.bl b,H,I.tok tk,rfl,q⟩
end
theorem zkv:entryFor table "proto.unchain"=some Builtin.«proto.unchain»:=entryFor_of_fast (by kernel_rfl)
theorem ztp {prog:Program}{w:World}{A:Around}{E:Value->Shared->Prop}{s:Shared}{it l ea:Addr}{i:Nat}{items:Array Value}{oe:Obj}{vs:Array Value}{Q:Option Value->Shared->Prop}(hh:A.handled=some (.ref ea))(he:s.heap.get? ea=some oe)(hv:oe.data=.fields vs)(h2:vs[2]?=some .none)(ne:ea≠it)
  (hit:s.heap.IsListIter it l i)(hl:s.heap.IsList l items)(hx:items[i]?=none)(hQ:∀h',Heap.ExtBut it s.heap h'->Q none {s with heap:=h'}):wpAny (model prog w) A (pyNext (.ref it)) Q E s:=by
 obtain⟨o,ho,hc,hd⟩:=id hit;obtain⟨ol,hol,_,nl,hdl⟩:=hl;unfold pyNext;refine xba (xhq (wpAny_callSpecial?_slot (name:=Str.ofString "__next__") hit.typeIs slot_listiter_next (xem slot_listiter_next hit.typeIs entry_listiter_next ?_ (args_listiter_next _))))
 refine xba (m:=field (.ref it) 0) (xdv ho hd (x:=.ref l) rfl ?_);rw[if_neg (fun z:(Value.ref l==Value.none)=true=>Bool.noConfusion z)];refine xba (m:=field (.ref it) 1) (xdv ho hd (x:=.int i 0) rfl ?_);refine xba (m:=seqItems? (.ref l)) (xgo hol hdl ?_);simp only[xec,hx];refine xba (xgu (xba (xgn ho hd (by simp) (xba (m:=newExc (.type "StopIteration") []) ?_))))
 simp only[newExc,newTuple];refine xba (xdb (xba (m:=firstArgMember _ _) (wpAny_of_eq (a:=Value.none) (by first | rfl | (simp only[firstArgMember];rfl)) (xdb ?_ (by size_fits)))) (by size_fits));simp only[raiseNew];refine xba (wpAny_handled ?_);rw[show A.in1.handled=some (.ref ea) from hh];dsimp only;have hz:∀ob:Obj,((s.heap.update it (Obj.mapFields fun x=>x.setIfInBounds 0 Value.none)).push ob).objs.size=s.heap.objs.size+1:=fun ob=>by simp[Heap.push,Heap.update]
 have lt:=xbi he;have keep:∀(ob ob2:Obj) b o,b≠it->s.heap.get? b=some o->(((s.heap.update it (Obj.mapFields fun x=>x.setIfInBounds 0 Value.none)).push ob).push ob2).get? b=some o:=fun ob ob2 b o n e=>xbb _ (xbb _ (by rw[xcp _ _ n.symm];exact e))
 have nN:∀ob:Obj,ea≠((s.heap.update it (Obj.mapFields fun x=>x.setIfInBounds 0 Value.none)).push ob).objs.size:=fun ob=>by rw[hz];exact xbv (xha lt)
 have nq:∀n:Addr,ea≠n->(Value.ref ea != Value.ref n)=true:=fun n h=>bne_iff_ne.mpr fun z=>h (Value.ref.inj z)
 rw[if_pos (nq _ (nN _))];refine xba (xdm (wpAny_runValue (xkn zkv ?_)));refine xba (m:=field (.ref ea) 2) (xdv (keep _ _ ea oe ne he) hv h2 ?_);rw[if_pos (show(Value.none==Value.none)=true from rfl)];refine xba (xbe (xbe ?_));unfold updateField;refine xba (xba (wpAny_load (xbk _ rfl) ?_));dsimp only;rw[if_pos (by rw[Array.size_append];exact xbh (show 2 < 6 by decide) (xbz 6 _))];refine wpAny_update (xbk _ rfl) ?_;refine wpAny_throw (xba (wpAny_isInstance (T:="StopIteration") (b:=true) ⟨_, xep _ (xbk _ rfl) rfl, rfl⟩ isSubtype_stop ?_))
 refine xbe (hQ _ fun b o' n e=>?_);rw[xcp _ _ (xga (by rw[hz];exact xha (xbi e)))];exact keep _ _ b o' n e
theorem walksH {prog:Program}{w:World}{A:Around}{ea:Addr}{oe:Obj}{vs:Array Value}(hh:A.handled=some (.ref ea))(hv:oe.data=.fields vs)(h2:vs[2]?=some .none)(I ax:Addr)(hne:ax≠I)(hne2:ea≠I)(items:Array Value) :
  Walks prog w A I [I,ax,ea] [I] items.size (fun i v=>items[i]?=some v) (fun i h=>(h.IsListIter I ax i/\h.IsList ax items)/\h.get? ea=some oe):=by
 refine⟨fun b hb=>by simp at hb;simp[hb],fun _ _ _ st hk=>⟨⟨st.1.1.at fun o e=>hk I (by simp) o e,st.1.2.at fun o e=>hk ax (by simp) o e⟩,hk ea (by simp) _ st.2⟩,fun i s Q E hi st hQ=>?_,fun s Q E st hQ=>?_,fun _ _ _ _ st hQ=>wpAny_pyIter_listiter st.1.1 hQ⟩
 ·refine wpAny_pyNext_list_item st.1.1 st.1.2 (x:=items[i]) (by simp[hi]) fun h' hit' hs'=>hQ _ h' s.toks (by simp[hi]) ⟨⟨hit',st.1.2.extBut hs'.extBut hne⟩,hs'.extBut _ _ hne2 st.2⟩ fun b o hb e=>hs'.extBut b o (fun h=>hb (by simp[h])) e
 ·exact ztp hh st.2 hv h2 hne2 st.1.1 st.1.2 (by simp) fun h' he'=>hQ h' s.toks fun b o hb e=>he' b o (fun h=>hb (by simp[h])) e
section
variable {X:Cx}
theorem zva:CallR X (.builtin "any") (rAny X.K false):=by
 intro aY s σ H xs us Q I r h;obtain⟨l,bs,rfl,hl,q⟩:=h;obtain⟨u,rfl,ru⟩:=vals1 r;cases ru;obtain⟨its,rv,pl,hz⟩:=I.list hl;have e:=zhl rv;subst e;have hlt:l < s.heap.objs.size:=by obtain⟨o,n,e,_⟩:=pl;exact xbi e
 have e2:(bs.map Value.bool).toArray.size=bs.length:=by simp
 have fin:∀(h':Heap) tk,(∀b o,s.heap.get? b=some o->h'.get? b=some o)->EP X aY σ Q (.bool ((List.range (bs.map Value.bool).toArray.size).any fun i=>bs.getD i false)) {s with heap:=h',toks:=tk}:=fun h' tk hk=>by
  refine⟨.bl _,H,I.kept (t':=tk) hk,rfl,?_⟩;rw[e2,zta];exact q
 have nw:∀(ob:Obj) (h':Heap),(∀b o,b∉[s.heap.objs.size]->(s.heap.push ob).get? b=some o->h'.get? b=some o)->∀b o,s.heap.get? b=some o->h'.get? b=some o:=fun ob h' hk b o e=>hk b o (fun z=>by
  have z':b=s.heap.objs.size:=by simpa using z
  have z2:=xbi e;rw[z'] at z2
  exact absurd z2 (xfg _)) (xbb _ e)
 refine call_any_walk (xid pl.isList ?_);cases hh:X.A.handled with
 | none=>exact⟨s.heap.objs.size,_,[s.heap.objs.size],_,_,_,_,rfl,Walks.list (A:=X.A.in1) hh _ l (xbv hlt) (bs.map Value.bool).toArray,⟨⟨_,xbk _ rfl,rfl,rfl⟩,pl.isList.push _⟩,zgh bs,fun h' tk hk=>fin h' tk (nw _ h' hk)⟩
 | some v =>
  obtain⟨ea,o,rfl,hf,vs,hd,h2⟩:=I.hnd v hh;have he:s.heap.get? ea=some o:=(I.hok ea _ hf).1;exact⟨s.heap.objs.size,_,[s.heap.objs.size],_,_,_,_,rfl,walksH (A:=X.A.in1) hh hd h2 _ l (xbv hlt) (xbv (xbi he)) (bs.map Value.bool).toArray,⟨⟨⟨_,xbk _ rfl,rfl,rfl⟩,pl.isList.push _⟩,xbb _ he⟩,zgh bs,fun h' tk hk=>fin h' tk (nw _ h' hk)⟩
end
end L2
namespace L2
open PySem
namespace St
end St
namespace St
/- the leaps meet all places -/
end St
namespace St
/- laid anew -/
end St
namespace St
end St
end L2
namespace L2
open PySem PySem.W PyProof.Rows PySem.Spec
namespace St
section
variable {P:Program}{w:World}{B:Around}{E:Value->Shared->Prop}{s:Shared}{a:Addr}
end
end St
namespace St
section
variable {P:Program}{w:World}{B:Around}{R:Result->Shared->Prop}{it:Addr}{fp wr:List Addr}{G:Array GenState->Array GenState->Prop}{N:Nat}{It:Nat->Value->Prop}{St:Nat->Shared->Prop}
end
section
variable {P:Program}{w:World}{B:Around}{E:Value->Shared->Prop}{s:Shared}
end
end St
namespace St
section
variable {P:Program}{w:World}{B:Around}{E:Value->Shared->Prop}{s:Shared}{a it:Addr}{es:Array (Int×Value)}{ep:Nat}{t:SetTable}{ks:List Nat}
end
end St
end L2
namespace L2
open PySem PySem.Spec PyProof.Rows PySem.W
end L2
namespace Dd
open PySem L2 PyProof.Rows
section
variable {X:Cx}{x y:Str}{p p2 pos pos2:Pos}{e:Expr}{f:SA}{g:List D->Store->Res D}
end
end Dd
namespace L2
open PySem PySem.Spec PyProof.Rows PySem.W
end L2
namespace Dd
open PySem L2 PyProof.Rows
section
variable {X:Cx}{p p2 pos pos2 cpos apos:Pos}{e o:Expr}{f:SA}{g:SE}
end
abbrev RXT:=L2.St->Value->Option Addr->Hp->Prop
def XIs (K:Fg) (ρ:Loc) (H:Hp) (x:Exc) (C:Addr) (dx:Option Addr):Prop:=W.nsIn K mainGlobals x.cls=some (some (.ref C)) /\
 ((x.at_=[]/\dx=none)\/∃ i d od, x.at_=[i]/\dx=some d/\H d=some (.frz od (.xd [("at", .int i)]))/\Out ρ d)
def XOk (K:Fg) (ρ:Loc) (H:Hp) (st':Store) (x:Exc) (R:XK):Prop:=∀ρ' H' C dx,Ext ρ H ρ' H'->Rep K ρ' st' H'->XIs K ρ' H' x C dx->R (.ref C) dx H'
theorem XOk.ext {K:Fg}{ρ ρ1:Loc}{H H1:Hp}{st':Store}{x:Exc}{R:XK}(e:Ext ρ H ρ1 H1)(h:XOk K ρ H st' x R):XOk K ρ1 H1 st' x R:=fun ρ' H' C dx a=>h ρ' H' C dx (e.trans a)
def tX (K:Fg) (R:RXT) (f:SE):TE:=fun τ H Q=>∃ρ σ st,AtS K ρ H σ τ/\Rep K ρ st H/\((∃v st',f σ st=.ok v st'/\∀ρ' H' u,Ext ρ H ρ' H'->Rep K ρ' st' H'->At K ρ' H' v u->Q u H')\/∃x st',f σ st=.exc x st'/\XOk K ρ H st' x (R τ))
def tXS (K:Fg) (R:RXT) (f:SS):TS:=fun E τ H=>∃ρ σ st,AtS K ρ H σ τ/\Rep K ρ st H/\((∃fl st',f σ st=.ok fl st'/\FlOk K ρ H st' E fl)\/∃x st',f σ st=.exc x st'/\XOk K ρ H st' x (R τ))
structure JX (X:Cx) (R:RXT) (e:Expr) (f:SE):Prop where out:PE X e (tX X.K R f)
structure JXS (X:Cx) (R:RXT) (s:Stmt) (f:SS):Prop where out:PS X s (tXS X.K R f)
structure JXB (X:Cx) (R:RXT) (s:List Stmt) (f:SS):Prop where out:PSs X s (tXS X.K R f)
def noX {α:Type} (f:DS->Store->Res α):DS->Store->Res α:=fun σ st=>match f σ st with
 | .exc _ _=>.stuck
 | r=>r
theorem zow {α:Type}{f:DS->Store->Res α}{σ:DS}{st st':Store}{v:α}(h:noX f σ st=.ok v st'):f σ st=.ok v st':=by
 unfold noX at h;split at h
 ·cases h
 ·exact h
theorem zqu {α:Type}{f:DS->Store->Res α}{σ:DS}{st st':Store}{x:Exc}(h:noX f σ st=.exc x st'):False:=by
 unfold noX at h;split at h
 ·cases h
 ·rename_i hn;exact hn x st' h
theorem zga {α β:Type}{f:DS->Store->Res α}{g:α->Store->Res β}{σ:DS}{st st':Store}{x:Exc}(h:(noX f σ st).bind g=.exc x st'):∃v st1,f σ st=.ok v st1/\g v st1=.exc x st':=by
 cases e:noX f σ st with
 | ok v st1=>rw[e] at h;exact⟨v,st1,zow e,h⟩
 | exc y w=>exact(zqu e).elim
 | stuck=>rw[e] at h;cases h
def CalX (P:Program) (w:World) (K:Fg) (mg:Str->Option Value) (base:Heap) (x:Str) (k:Nat) (ps:List Str) (F:DFn):Prop :=
 ∃f fd,FnOk P w K mg base (CX1 P w) k f fd ps (fun vs H Q E=>∃ρ ds st,AtAll K ρ H ds vs/\Rep K ρ st H/\vs.length=ps.length/\((∃v st',F ds st=.ok v st'/\∀ρ' H' u,Ext ρ H ρ' H'->Rep K ρ' st' H'->At K ρ' H' v u->Q u H')\/∃x st',F ds st=.exc x st'/\XOk K ρ H st' x E))/\Binds K fd ps []/\W.keepIn K (.ref f)=true/\mg x=some (.ref f)
section
variable {X:Cx}{R:RXT}{e:Expr}{es:List Expr}{f:SE}{g:SA}{sm:Stmt}{rest body:List Stmt}{s t:SS}{pos p:Pos}{x:Str}{k:Nat}{ps:List Str}{F:DFn}
theorem zbjh (h:JS X sm s):JXS X R sm (noX s):=⟨zne h.out fun E τ H hq0=>by
 obtain⟨ρ,σ,st,a,rp,q⟩:=hq0;rcases q with⟨v,st',e1,q⟩ | ⟨x,st',e1,_⟩
 ·exact⟨ρ,σ,st,v,st',a,rp,zow e1,q⟩
 ·exact(zqu e1).elim⟩
theorem zre (h:JB X body s):JXB X R body (noX s):=⟨zqf h.out fun E τ H hq0=>by
 obtain⟨ρ,σ,st,a,rp,q⟩:=hq0;rcases q with⟨v,st',e1,q⟩ | ⟨x,st',e1,_⟩
 ·exact⟨ρ,σ,st,v,st',a,rp,zow e1,q⟩
 ·exact(zqu e1).elim⟩
theorem zwa (c:CalX X.prog X.w X.K X.mg X.base x k ps F)(hw:Wish X R)(hn:∀ ds st, ds.length≠ps.length->F ds st=.stuck)(hr:Room k X.A)(hg:Gl X x)(ha:JA X (e::es) g)(hdb:(x==("__debug__" : Str))=false:=by decide)
  (he:starEach (e::es) X.env=(false,eval e X.env)::starEach es X.env:=by rfl)(hpl:(backTo pos (starEach es X.env)).any (·.1)=false:=by rfl):JX X R (.Call (.Name x p) (e::es) [] pos) (aE F (noX g)):=by
 obtain⟨fa,fd,G,b,kp,m⟩:=c;refine⟨fun aY s τ H Q I ⟨ρ,σ,st,a,rp,h⟩=>?_⟩;obtain⟨ds,st1,e1,h1⟩:∃ds st1,g σ st=.ok ds st1/\((∃v st',F ds st1=.ok v st'/\∀ρ' H' u,Ext ρ H ρ' H'->Rep X.K ρ' st' H'->At X.K ρ' H' v u->Q u H')\/∃x st',F ds st1=.exc x st'/\XOk X.K ρ H st' x (R τ)):=by
  rcases h with⟨v,st',e1,q⟩ | ⟨x,st',e1,q⟩
  ·obtain⟨ds,st1,e2,e3⟩:=zc e1;exact⟨ds,st1,zow e2,.inl ⟨v,st',e3,q⟩⟩
  ·obtain⟨ds,st1,e2,e3⟩:=zga e1;exact⟨ds,st1,e2,.inr ⟨x,st',e3,q⟩⟩
 refine xfe (zkq I hg m ?_ hdb);refine xks (h₀:=X.base) I.ok.mod.kin kp (thn (ha.out pos aY s τ H (fun vs H1=>∃ρ1,Ext ρ H ρ1 H1/\Rep X.K ρ1 st1 H1/\AtAll X.K ρ1 H1 ds vs) I ⟨ρ,σ,st,ds,st1,a,rp,e1,fun ρ1 H1 u x1 rp1 a1=>⟨ρ1,x1,rp1,a1⟩⟩) fun us s1 ⟨vs,H1,I1,r,ρ1,x1,rp1,a1⟩=>⟨I1.kIn,?_⟩) he hpl;have hlen:vs.length=ps.length:=by
  rw[a1.length];by_cases hl:ds.length=ps.length
  ·exact hl
  ·rcases h1 with⟨v,st',e3,_⟩ | ⟨x,st',e3,_⟩<;>(rw[hn ds st1 hl] at e3;cases e3)
 have r2:Vals vs (us++[]):=by rw[xeg];exact r
 refine xip (xhi (G.run X.A X.stack s1 H1 ⟨us,[]⟩ (us++[]) vs Q (R τ) hr I1.env0 (b s1 us I1.kIn (by rw[xeg,← r.length];exact hlen)) r2 ⟨ρ1,ds,st1,a1,rp1,hlen,?_⟩) fun r s' hq=>?_)
 ·rcases h1 with⟨v,st',e3,q⟩ | ⟨x,st',e3,q⟩
  ·exact .inl ⟨v,st',e3,fun ρ' H' u x2=>q ρ' H' u (x1.trans x2)⟩
  ·exact .inr ⟨x,st',e3,q.ext x1⟩
 ·cases r with
  | error er =>
   obtain⟨ea,T,C,dx,H',rfl,os,bare,un,hok,Fl,hR⟩:=hq;exact hw aY τ H' ea T C dx s' Fl (I1.call' (ch:=[]) os un hok bare (fun _ z=>nomatch z)) hR
  | ok fl =>
   cases fl with
   | ret u=>exact I1.after hq
   | next=>exact False.elim hq
   | brk=>exact False.elim hq
   | cont=>exact False.elim hq
theorem zwb (h1:JXS X R sm s):JXB X R [sm] s:=⟨zqg h1.out⟩
def Cst (R:RXT):Prop:=∀τ τ',R τ=R τ'
theorem zmj (hR:Cst R)(h1:JXS X R sm s)(h2:JXB X R rest t):JXB X R (sm::rest) (aD s t):=⟨zqf (zlw h1.out h2.out) fun E τ H hq0=>by
 obtain⟨ρ,σ,st,a,rp,q⟩:=hq0;refine⟨ρ,σ,st,a,rp,?_⟩;cases e0:s σ st with
 | stuck=>rcases q with⟨fl,st',e1,q⟩ | ⟨x,st',e1,q⟩<;>(unfold aD at e1;rw[e0] at e1;cases e1)
 | exc y w =>
  rcases q with⟨fl,st',e1,q⟩ | ⟨x,st',e1,q⟩
  ·unfold aD at e1;rw[e0] at e1;cases e1
  ·unfold aD at e1;rw[e0] at e1;cases e1;exact .inr ⟨_,_,rfl,q⟩
 | ok fl st1 =>
  refine .inl ⟨fl,st1,rfl,?_⟩;cases fl with
  | nx σ1 =>
   refine fun ρ1 H1 τ1 x1 rp1 a1=>⟨ρ1,σ1,st1,a1,rp1,?_⟩
   rcases q with⟨fl,st',e1,q⟩ | ⟨x,st',e1,q⟩
   ·unfold aD at e1;rw[e0] at e1;exact .inl ⟨fl,st',e1,q.ext x1⟩
   ·unfold aD at e1;rw[e0] at e1;exact .inr ⟨x,st',e1,by rw[hR τ1 τ];exact q.ext x1⟩
  | brk σ1=>rcases q with⟨fl,st',e1,q⟩ | ⟨x,st',e1,q⟩<;>(unfold aD at e1;rw[e0] at e1;cases e1);exact q
  | ct σ1=>rcases q with⟨fl,st',e1,q⟩ | ⟨x,st',e1,q⟩<;>(unfold aD at e1;rw[e0] at e1;cases e1);exact q
  | ret v=>rcases q with⟨fl,st',e1,q⟩ | ⟨x,st',e1,q⟩<;>(unfold aD at e1;rw[e0] at e1;cases e1);exact q⟩
theorem zbji {c:Expr}{b:ST}{a' b':List Stmt}(hc:JT X c b)(ha:JXB X R a' s)(hb:JXB X R b' t):JXS X R (.If c a' b' pos) (sIf (noX b) s t):=⟨zne (zbll hc.out ha.out hb.out) fun E τ H hq0=>by
 obtain⟨ρ,σ,st,a,rp,q⟩:=hq0;obtain⟨v,st1,e1,q⟩:∃v st1,b σ st=.ok v st1/\((∃fl st',(if v=true then s σ st1 else t σ st1)=.ok fl st'/\FlOk X.K ρ H st' E fl)\/∃x st',(if v=true then s σ st1 else t σ st1)=.exc x st'/\XOk X.K ρ H st' x (R τ)):=by
  rcases q with⟨fl,st',e1,q⟩ | ⟨x,st',e1,q⟩
  ·obtain⟨v,st1,e2,e3⟩:=zc e1;exact⟨v,st1,zow e2,.inl ⟨fl,st',e3,q⟩⟩
  ·obtain⟨v,st1,e2,e3⟩:=zga e1;exact⟨v,st1,e2,.inr ⟨x,st',e3,q⟩⟩
 refine⟨ρ,σ,st,v,st1,a,rp,e1,fun ρ1 H1 x1 rp1=>?_⟩;have q2:((∃fl st',(if v=true then s σ st1 else t σ st1)=.ok fl st'/\FlOk X.K ρ1 H1 st' E fl)\/∃x st',(if v=true then s σ st1 else t σ st1)=.exc x st'/\XOk X.K ρ1 H1 st' x (R τ)):=by
  rcases q with⟨fl,st',e2,q⟩ | ⟨x,st',e2,q⟩
  ·exact .inl ⟨fl,st',e2,q.ext x1⟩
  ·exact .inr ⟨x,st',e2,q.ext x1⟩
 cases v with
 | true=>exact iteT ⟨ρ1,σ,st1,a.ext x1,rp1,q2⟩
 | false=>exact iteF ⟨ρ1,σ,st1,a.ext x1,rp1,q2⟩⟩
def EndX (K:Fg) (ρ:Loc) (H:Hp) (E:Ends) (R:XK) (r:Res Fl):Prop:=(∃fl st',r=.ok fl st'/\FlOk K ρ H st' E fl)\/∃x st',r=.exc x st'/\XOk K ρ H st' x R
theorem EndX.ext {K:Fg}{ρ ρ1:Loc}{H H1:Hp}{E:Ends}{R:XK}{r:Res Fl}(e:Ext ρ H ρ1 H1)(h:EndX K ρ H E R r):EndX K ρ1 H1 E R r:=by
 rcases h with⟨fl,st',h,q⟩ | ⟨x,st',h,q⟩
 ·exact .inl ⟨fl,st',h,q.ext e⟩
 ·exact .inr ⟨x,st',h,q.ext e⟩
theorem EndX.stuck {K:Fg}{ρ:Loc}{H:Hp}{E:Ends}{R:XK}(h:EndX K ρ H E R .stuck):False:=by
 rcases h with⟨_,_,h,_⟩ | ⟨_,_,h,_⟩<;>cases h
theorem EndX.okE {K:Fg}{ρ:Loc}{H:Hp}{E:Ends}{R:XK}{fl:Fl}{st:Store}(h:EndX K ρ H E R (.ok fl st)):FlOk K ρ H st E fl:=by
 rcases h with⟨_,_,h,q⟩ | ⟨_,_,h,_⟩
 ·cases h;exact q
 ·cases h
theorem EndX.excE {K:Fg}{ρ:Loc}{H:Hp}{E:Ends}{R:XK}{x:Exc}{st:Store}(h:EndX K ρ H E R (.exc x st)):XOk K ρ H st x R:=by
 rcases h with⟨_,_,h,_⟩ | ⟨_,_,h,q⟩
 ·cases h
 ·cases h;exact q
theorem zwc {tg iter:Expr}{it:SA}{bd:SG}{b:SS}(hR:Cst R)(hp:PassesOwn (model X.prog X.w) X.A X.env X.xe)(hc:X.calm=true)(hi:JI X tg iter it)(hg:JG X tg bd)(hb:JXB X R body b)(hs:∀x,foldedSetIterable iter X.env x=pure x:=by intro _;rfl) :
  JXS X R (.For tg iter body [] pos) (sFor (noX it) bd b):=⟨zne (zbbi hp hc hi.out hg.out hb.out hs) fun E τ H hq0=>by
 obtain⟨ρ,σ,st,a,rp,q⟩:=hq0;obtain⟨xs,st1,e1,q⟩:∃xs st1,it σ st=.ok xs st1/\EndX X.K ρ H E (R τ) (forF bd b xs σ st1):=by
  rcases q with⟨fl,st',e1,q⟩ | ⟨x,st',e1,q⟩
  ·obtain⟨v,st1,e2,e3⟩:=zc e1;exact⟨v,st1,zow e2,.inl ⟨fl,st',e3,q⟩⟩
  ·obtain⟨v,st1,e2,e3⟩:=zga e1;exact⟨v,st1,e2,.inr ⟨x,st',e3,q⟩⟩
 refine⟨ρ,σ,st,xs,st1,a,rp,e1,fun ρ1 H1 J x1 rp1 ok=>?_⟩;have q1:=q.ext x1;refine⟨fun i m τ' H'=>i+m=xs.length/\∃ρ2 σ2 st2,Ext ρ1 H1 ρ2 H'/\AtS X.K ρ2 H' σ2 τ'/\Rep X.K ρ2 st2 H'/\EndX X.K ρ1 H1 E (R τ) (forF bd b (xs.drop i) σ2 st2),⟨xs.length,by lia,ρ1,σ,st1,.refl _ _,a.ext x1,rp1,q1⟩,?_⟩;rintro i m τ' H' ⟨him,ρ2,σ2,st2,x2,a2,rp2,e2⟩;rcases xeh i xs.length with hlt | hge
 ·obtain⟨x,hx,hd⟩:=zrh hlt;rw[hd] at e2;obtain⟨go,yl⟩:=ok.item ρ2 H' x2.toG i x hx;refine .inr ⟨go,fun τ3 H3=>∃ρ3 σ3 st3,Ext ρ1 H1 ρ3 H3/\AtS X.K ρ3 H3 σ3 τ3/\Rep X.K ρ3 st3 H3/\EndX X.K ρ1 H1 E (R τ) (forF bd b (xs.drop (i+1)) σ3 st3),fun τ3 H3 ⟨ρ3,σ3,st3,n1,n2,n3,n4⟩=>⟨m - 1,by lia,by lia,ρ3,σ3,st3,n1,n2,n3,n4⟩,fun y H3 hy=>?_⟩;obtain⟨y1,y4⟩:=yl y H3 hy;obtain⟨y2,y3⟩:=y4 _ rp2;unfold forF at e2;cases hbd:bd x σ2 with
  | none=>rw[hbd] at e2;exact e2.stuck.elim
  | some σ1 =>
   rw[hbd] at e2;dsimp only at e2;have X3:=x2.trans y1;refine⟨ρ2,σ2,x,σ1,a2.ext y1,y3,hbd,fun τ4 a4=>⟨ρ2,σ1,st2,a4,y2,?_⟩⟩;cases hr:b σ1 st2 with
   | stuck=>rw[hr] at e2;exact e2.stuck.elim
   | exc z w =>
    rw[hr] at e2;exact .inr ⟨z,w,rfl,by rw[hR τ4 τ];exact e2.excE.ext X3⟩
   | ok fb st3 =>
    rw[hr] at e2;refine .inl ⟨fb,st3,rfl,?_⟩;cases fb with
    | nx σ3=>exact fun ρ' H'' τ5 x5 rp5 a5=>⟨ρ',σ3,st3,X3.trans x5,a5,rp5,e2⟩
    | ct σ3=>exact fun ρ' H'' τ5 x5 rp5 a5=>⟨ρ',σ3,st3,X3.trans x5,a5,rp5,e2⟩
    | brk σ3=>exact fun ρ' H'' τ5 x5 rp5 a5=>e2.okE _ _ _ (X3.trans x5) rp5 a5
    | ret v=>exact fun ρ' H'' u x5 rp5 a5=>e2.okE _ _ _ (X3.trans x5) rp5 a5
 ·rw[xgr hge] at e2;unfold forF at e2
  exact .inl ⟨ok.done ρ2 H' x2.toG i hge,e2.okE _ _ _ x2 rp2 a2⟩⟩
def sRaise (c:Str) (g:SA):SS:=fun σ st=>(g σ st).bind fun xs st1=>if xs.length<=sizeLine then .exc ⟨c,[]⟩ st1 else .stuck
theorem zuk {C:Addr}{np cpos:Pos}(hw:WishR X R)(hx:ErrCls X.K x C)(hc:X.calm=true)(hg:Gl X x)(ha:JA X (e::es) g)(hd:(x==("__debug__" : Str))=false:=by decide)(he:starEach (e::es) X.env=(false, eval e X.env)::starEach es X.env:=by rfl)
  (hpl:(backTo cpos (starEach es X.env)).any (·.1)=false:=by rfl):JXS X R (.Raise (some (.Call (.Name x np) (e::es) [] cpos)) none pos) (sRaise x (noX g)):=by
 refine⟨fun aY s τ H E I ⟨ρ,σ,st,a,rp,q⟩=>?_⟩;obtain⟨xs,st1,e1,hl,q⟩:∃xs st1,g σ st=.ok xs st1/\xs.length<=sizeLine/\XOk X.K ρ H st1 ⟨x,[]⟩ (R τ):=by
  rcases q with⟨fl,st',e1,q⟩ | ⟨y,st',e1,q⟩
  ·obtain⟨v,st1,e2,e3⟩:=zc e1;split at e3<;>cases e3
  ·obtain⟨v,st1,e2,e3⟩:=zga e1;split at e3
   ·cases e3;exact⟨v,_,e2,by assumption,q⟩
   ·cases e3
 refine zxh (zbdr I.mod.kin I.mod.glob hx) F.excBase_ValueError (by decide) F.excBase_ValueError hc hg ha.out hd he hpl I ⟨ρ,σ,st,xs,st1,a,rp,e1,fun ρ1 H1 u x1 rp1 a1=>⟨by rw[a1.length];exact hl,fun s1 us h' ee I1 rv hm=>?_⟩⟩;obtain⟨t,h1,h2,h3⟩:=hm.there;exact hw aY τ H1 ee C none s1 _ I1 hm.keeps rfl hm.new ⟨_,_,h1,rfl,rfl,rfl,rfl,rfl⟩ (q ρ1 H1 C none x1 rp1 ⟨hx.1,.inl ⟨rfl,rfl⟩⟩)
def sTry (i:Nat) (cs:List Str) (b u:SS):SS:=fun σ st=>match b σ st with
 | .exc x st1=>if x.cls∈cs then(match u (σ.set i (some (.exn x.cls x.at_))) st1 with
  | .ok (.ret v) st2=>.ok (.ret v) st2
  | _=>.stuck) else .stuck
 | r=>r
theorem zbaq {K:Fg}{B:Addr}{i:Nat}{cs:List Str}{u:SS}{E:Ends}{ρ:Loc}{σ:DS}{τ:L2.St}{H:Hp}{st1 st':Store}{y:Exc}{fl:Fl}(hcs:∀c∈cs,∀C,W.nsIn K mainGlobals c=some (some (.ref C))->W.exmOne K (.ref C) (.ref B)=some true)(a:AtS K ρ H σ τ)
  (e:(if y.cls∈cs then(match u (σ.set i (some (.exn y.cls y.at_))) st1 with
  | .ok (.ret v) st2=>Res.ok (Fl.ret v) st2
  | _=>.stuck) else .stuck)=.ok fl st') (q:FlOk K ρ H st' E fl):XOk K ρ H st1 y (RH K B i (tDS K u) E.rt τ):=by
 split at e
 ·next hmem =>
  refine fun ρ1 H1 C dx x1 rp1 xi=>⟨hcs _ hmem C xi.1,fun ea T o h1 h2 h3 h4 h5 h6=>?_⟩
  have hT:upd H1 T HX ea=none:=by rw[zn h3.symm];exact h1
  have x2:=x1.trans ((Ext.new h2 HX).trans (Ext.new hT (.frz o HX)));have rp2:=(rp1.new h2 HX).new hT (.frz o HX);have oe:Out ρ1 ea:=zhe (rp1.new h2 HX) hT;refine⟨ρ1,σ.set i (some (.exn y.cls y.at_)),st1,?_⟩;cases e3:u (σ.set i (some (.exn y.cls y.at_))) st1 with
  | stuck=>rw[e3] at e;cases e
  | exc _ _=>rw[e3] at e;cases e
  | ok fl2 st2 =>
   rw[e3] at e;cases fl2 with
   | ret v =>
    cases e;refine⟨.ret v,_,(a.ext x2).set (.exn ⟨C,o,xi.1,⟨zm,oe⟩,h4,h6,?_⟩) i,rp2,rfl,fun ρ' H' w x3=>q ρ' H' w (x2.trans x3)⟩;rcases xi.2 with⟨z1,z2⟩ | ⟨j,d,od,z1,z2,z3,z4⟩
    ·exact .inl ⟨z1,by rw[h5,z2]⟩
    ·refine .inr ⟨j,d,od,z1,by rw[h5,z2],?_,z4⟩;rw[zn (zj (by rw[zn (zj z3 h2)];exact z3) hT),zn (zj z3 h2)];exact z3
   | nx _=>cases e
   | brk _=>cases e
   | ct _=>cases e
 ·cases e
end
section
variable {P:Program}{w:World}{K:Fg}{mg:Str->Option Value}{base h:Heap}{x:Str}{st:Stmt}{N ps:List Str}{k:Nat}{b:SS}
theorem zbfh (T:TopF K x st)(X:K.In h)(G:h.Ns mainGlobals mg)(S:FnScope N ps (defScope st))
  (bd:∀(kV doc pm:Value) (an:Option Addr) (cdv ct:Value) (us:List Value),us.length=ps.length->bindArgs (W.fnOf x x (defArgs st) (defBody st) (defScope st) .none kV doc pm an cdv ct) ⟨us,[]⟩=pure (ps.zip us))
  (hbody:∀(f:Addr) (cdv:Value) (A:Around) (outer:List Env) (s:Shared) (H:Hp) (E:XK),Room k (A.deeper (envOfC x (defScope st) s.heap.objs.size f cdv)) ->
   JXB (cxOf (CX1 P w) P w K mg base N x (defScope st) f cdv A outer s H E) (fun _ c dx H=>E c dx H) (defBody st) b):CalX P w K mg base x (k+1) ps (fnD N.length ps.length b):=by
 obtain⟨f,fd,a,F⟩:=T;refine⟨f,fd,?_,F.binds bd,F.kp,xdf X G a⟩;obtain⟨oc,od,kV,doc,pm,an,cdv,ct,osl,rfl,lk,hcd⟩:=F.ex;refine zbiu lk hcd S (fun vs H Q E h=>by obtain⟨_,_,_,_,_,hl,_⟩:=h;exact hl) fun A outer s H vs Q E hr hsp=>⟨_,(hbody f cdv A outer s H E hr).out,?_⟩
 obtain⟨ρ,ds,st1,al,rp,hl,q⟩:=hsp;have hd:ds.length=ps.length:=by rw[← al.length];exact hl
 have as:AtS K ρ H (ds.map Option.some++List.replicate (N.length - ps.length) none) (L2.start N vs):=by
  unfold L2.start;rw[hl];exact al.some.append (.nones _)
 unfold fnD at q;rw[if_pos hd] at q;refine⟨ρ,_,st1,as,rp,?_⟩;cases hr:b (ds.map Option.some++List.replicate (N.length - ps.length) none) st1 with
 | stuck=>rw[hr] at q;rcases q with⟨_,_,z,_⟩ | ⟨_,_,z,_⟩<;>cases z
 | exc y w1 =>
  rw[hr] at q;rcases q with⟨_,_,z,_⟩ | ⟨_,_,z,q⟩
  ·cases z
  ·cases z;exact .inr ⟨_,_,rfl,q⟩
 | ok fl st2 =>
  rw[hr] at q;refine .inl ⟨fl,st2,rfl,?_⟩;cases fl with
  | ret w1=>rcases q with⟨_,_,z,q⟩ | ⟨_,_,z,_⟩<;>cases z;exact fun ρ' H' u x r t=>q ρ' H' u x r t
  | nx σ=>rcases q with⟨_,_,z,q⟩ | ⟨_,_,z,_⟩<;>cases z;exact fun ρ' H' τ x r t=>q ρ' H' .non x r .non
  | brk σ=>rcases q with⟨_,_,z,_⟩ | ⟨_,_,z,_⟩<;>cases z
  | ct σ=>rcases q with⟨_,_,z,_⟩ | ⟨_,_,z,_⟩<;>cases z
theorem znx {n np:Nat}{b:SS}(ds:List D)(st:Store)(h:ds.length≠np):fnD n np b ds st=.stuck:=by unfold fnD;rw[if_neg h]
end
theorem zbki {K:Fg}{P:Addr->Prop}:∀c∈([]:List Str),∀C,W.nsIn K mainGlobals c=some (some (.ref C))->P C:=fun _ h=>nomatch h
theorem zbfb {K:Fg}{P:Addr->Prop}{c:Str}{cs:List Str}{C0:Addr}(h:W.nsIn K mainGlobals c=some (some (.ref C0)))(p:P C0)(r:∀c∈cs,∀C,W.nsIn K mainGlobals c=some (some (.ref C))->P C) :
  ∀c'∈c::cs,∀C,W.nsIn K mainGlobals c'=some (some (.ref C))->P C:=fun c' hc C e=>by
 rcases xbu.mp hc with rfl | hc
 ·rw[h] at e;cases e;exact p
 ·exact r c' hc C e
theorem zzh {X:Cx}{x:Str}{k:Nat}{ps:List Str}{F:DFn}{p pos:Pos}{e:Expr}{es:List Expr}{g:SA}(c:CalX X.prog X.w X.K X.mg X.base x k ps F)(hn:∀ ds st v st', F ds st=.ok v st'->ds.length=ps.length)(hr:Room k X.A)(hg:Gl X x)(ha:JA X (e::es) g)(hdb:(x==("__debug__" : Str))=false:=by decide)
  (he:starEach (e::es) X.env=(false,eval e X.env)::starEach es X.env:=by rfl)(hpl:(backTo pos (starEach es X.env)).any (·.1)=false:=by rfl):JE X (.Call (.Name x p) (e::es) [] pos) (aE F g):=by
 obtain⟨f,fd,G,b,kp,m⟩:=c;refine⟨zfp (zvo G hr hg m kp b .nil (E:=E0) (fun _ _ _ _ _ _ _ ⟨_,_,_,_,_,_,_,_,_,_,_,z⟩=>z.elim) ha.out hdb he hpl) fun τ H Q ⟨ρ,σ,st,v,st',a,rp,e,q⟩=>?_⟩;obtain⟨ds,st1,e1,e⟩:=zc e;refine⟨ρ,σ,st,ds,st1,a,rp,e1,fun ρ1 H1 u x1 rp1 a1=>?_⟩;show ∃_,_
 rw[xeg];exact⟨ρ1,ds,st1,a1,rp1,by rw[a1.length];exact hn _ _ _ _ e,.inl ⟨v,st',e,fun ρ' H' w x2=>q ρ' H' w (x1.trans x2)⟩⟩
structure Thk (X:Cx) (f:Addr) (τL:L2.St) (g:SE):Prop where
 there:∀aY τ H s,Inv X aY τ H s->W.FnAt f s.heap
 run:∀aY τ H s (E:XK) (Q:VK),Inv X aY τ H s->tX X.K (fun _ c dx H=>E c dx H) g τL H Q->codeAny (model X.prog X.w) X.A (.call (.ref f) ⟨[],[]⟩) (CR (CX1 X.prog X.w) X.stack X.prog X.w H s Q E) s
def tThk (K:Fg) (R:RXT) (f:Addr) (σL:DS) (τL:L2.St) (g:SE):TE:=fun τ H Q=>τ[0]?=some (some (.ref f))/\∃ρ σ st,AtS K ρ H σ τ/\AtS K ρ H σL τL/\Rep K ρ st H/\((∃v st',g σL st=.ok v st'/\∀ρ' H' u,Ext ρ H ρ' H'->Rep K ρ' st' H'->At K ρ' H' v u->Q u H')\/∃x st',g σL st=.exc x st'/\XOk K ρ H st' x (R τ))
def tRef (K:Fg) (f:Addr) (σL:DS) (τL:L2.St) (b:SS):TS:=fun E τ H=>τ[0]?=some (some (.ref f))/\∃ρ σ st fl st',AtS K ρ H σ τ/\AtS K ρ H σL τL/\Rep K ρ st H/\b σ st=.ok fl st'/\FlOk K ρ H st' E fl
section
variable {X:Cx}{R:RXT}{f:Addr}{σL:DS}{τL:L2.St}{g:SE}{x n y:Str}{p pos pos2 xp hp:Pos}{B:Addr}{i:Nat}{cs:List Str}{b0:Stmt}{suite rest:List Stmt}{u t:SS}
theorem zbha (hw:Wish X R)(T:Thk X f τL g)(hv:PE X (.Name x p) (tVar 0)):PE X (.Call (.Name x p) [] [] pos) (tThk X.K R f σL τL g):=by
 intro aY s τ H Q I ⟨h0,ρ,σ,st,a,aL,rp,h⟩;refine xfe (xdh (hv aY s τ H (fun v H'=>v=.ref f/\H'=H) I ⟨_,h0,rfl,rfl⟩) (fun w s1 h1=>?_) fun _ _ z=>z);obtain⟨v,H1,I1,rv,rfl,rfl⟩:=h1;obtain rfl:w=Value.ref f:=rv;refine W.callWith_F0 (T.there aY τ H1 s1 I1) ?_;refine xip (xhi (T.run aY τ H1 s1 (R τ) Q I1 ⟨ρ,σL,st,aL,rp,h⟩) fun r s' hq=>?_);cases r with
 | error er =>
  obtain⟨ea,T1,C,dx,H',rfl,os,bare,un,hok,Fl,hR⟩:=hq;exact hw aY τ H' ea T1 C dx s' Fl (I1.call' (ch:=[]) os un hok bare (fun _ z=>nomatch z)) hR
 | ok fl =>
  cases fl with
  | ret u=>exact I1.after hq
  | next=>exact False.elim hq
  | brk=>exact False.elim hq
  | cont=>exact False.elim hq
theorem zbbg (hc:X.calm=true)(st0:X.stack=X.env::X.outer)(fr:X.env.frame=some X.env.locals)(hN:X.N.Nodup)(hi:X.N[i]?=some n)(hn:X.env.kindOf n=some .local)(hg:Gl X y)(hB:W.nsIn X.K mainGlobals y=some (some (.ref B)))
  (hcs:∀c∈cs,∀C,W.nsIn X.K mainGlobals c=some (some (.ref C))->W.exmOne X.K (.ref C) (.ref B)=some true)(T:∀E pn,Thk (X.tryc E pn) f τL g)(hv:∀E pn,PE (X.tryc E pn) (.Name x p) (tVar 0))
  (hs:∀ e, JB (X.caught e) (b0::suite) u)(hd:(y==("__debug__" : Str))=false:=by decide)(hsw:swapsWith (.Call (.Name x p) [] [] pos) none pos2.line X.env=pure false:=by rfl){tp:Pos} :
  PS X (.Try [.Expr (.Call (.Name x p) [] [] pos) pos2] [.ExceptHandler (some (.Name y xp)) (some n) (b0::suite) hp] [] [] tp) (tRef X.K f σL τL (sTry i cs (sDrop fun _=>g σL) u)) :=
 zne (zbhd hc st0 fr hN hi hn hg hB (tb:=fun R E τ H=>tThk X.K R f σL τL g τ H fun _ H'=>E.nx τ H') (ts:=tDS X.K u) (fun R E pn hw=>zqg (zvn (zbha hw (T E pn) (hv E pn)) hsw)) (fun e=>(hs e).out) hd) fun E τ H hq0=>by
  obtain⟨h0,ρ,σ,st,fl,st',a,aL,rp,e,q⟩:=hq0;refine⟨h0,ρ,σ,st,a,aL,rp,?_⟩;unfold sTry sDrop at e;rw[show((fun _=>g σL:SE) σ st)=g σL st from rfl] at e;cases e0:g σL st with
  | stuck=>rw[e0] at e;cases e
  | ok v st1=>rw[e0] at e;cases e;exact .inl ⟨v,_,rfl,fun ρ1 H1 w x1 rp1 _=>q _ _ _ x1 rp1 (a.ext x1)⟩
  | exc z st1=>rw[e0] at e;exact .inr ⟨z,st1,rfl,zbaq hcs a e q⟩
theorem zbbe {tr:Stmt}{s:SS}(h1:PS X tr (tRef X.K f σL τL s))(h2:JB X rest t):PSs X (tr::rest) (tRef X.K f σL τL (aD s t)):=zqf (zlw h1 h2.out) fun E τ H hq0=>by
 obtain⟨h0,ρ,σ,st,fl,st',a,aL,rp,e,q⟩:=hq0;refine⟨h0,ρ,σ,st,?_⟩;unfold aD at e;split at e
 ·rename_i σ1 st1 e1;exact⟨_,st1,a,aL,rp,e1,fun ρ1 H1 τ1 x1 rp1 a1=>⟨ρ1,σ1,st1,fl,st',a1,rp1,e,q.ext x1⟩⟩
 ·rename_i hne;refine⟨fl,st',a,aL,rp,e,?_⟩;cases fl with
  | nx σ'=>exact absurd e (hne σ' st')
  | brk σ'=>exact q
  | ct σ'=>exact q
  | ret w=>exact q
end
def eRefd (F:(Store->Res D)->DFn) (is:List Nat) (lam:SE):SE:=fun σ st=>match (st[0]?:Option O) with
 | some O.tab=>F (lam (aX 0 is σ)) [.ref st.length] (st++[.dead])
 | _=>.stuck
theorem Rep.more {K:Fg}{ρ:Loc}{st:Store}{H:Hp}(r:Rep K ρ st H):Ext ρ H ⟨ρ.m++[none],ρ.g⟩ H/\Rep K ⟨ρ.m++[none],ρ.g⟩ (st++[.dead]) H:=by
 have sub:∀{n:Nat} {a:Addr},(ρ.m++[none])[n]?=some (some a)->ρ.m[n]?=some (some a):=fun {n a} e=>by
  rcases xeh n ρ.m.length with h | h
  ·rwa [xcd h] at e
  ·rw[xcr h] at e;cases z:n - ρ.m.length with
   | zero=>rw[z] at e;cases e
   | succ k=>rw[z] at e;cases e
 have E:Ext ρ H ⟨ρ.m++[none],ρ.g⟩ H:=⟨by simp,fun n a _ e=>sub e,fun a o e m=>⟨e,fun z=>by
  rcases xce.mp z with z | z
  ·exact m z
  ·cases xbl.mp z⟩,rfl,fun _ _ _ e=>e⟩
 refine⟨E,by simp[r.len],fun n m a e1 e2=>r.inj n m a (sub e1) (sub e2),fun n a o e1 e2=>?_,fun a ha=>?_,fun n o e1 e2=>?_⟩
 ·have hn:n < st.length:=by rw[← r.len];exact(xbo.mp (sub e1)).1
  rw[xcd hn] at e2;exact(r.obj n a o (sub e1) e2).ext E rfl
 ·obtain⟨h1,h2⟩:=r.gh a ha
  exact⟨h1,fun z=>by
   rcases xce.mp z with z | z
   ·exact h2 z
   ·cases xbl.mp z⟩
 ·rcases xeh n st.length with h | h
  ·rw[xcd h] at e1;obtain⟨a,q⟩:=r.live n o e1 e2;exact⟨a,by rw[xcd (by rw[r.len];exact h)];exact q⟩
  ·rw[xcr h] at e1;cases z:n - st.length with
   | zero=>rw[z] at e1;cases e1;exact absurd rfl e2
   | succ k=>rw[z] at e1;cases e1
theorem Rep.grew {K:Fg}{ρ:Loc}{st:Store}{H H':Hp}{c T:Addr}(r:Rep K ρ st H)(ht:W.tabIn K "law"=some (c, T))(h0:ρ.m[0]?=some (some T))(h1:st[0]?=some .tab)(hT:∃ ps, H T=some (.tbl ps))(g:Grew T H H'):Ext ρ H ρ H'/\Rep K ρ st H':=by
 obtain⟨ps,hT⟩:=hT;have E:Ext ρ H ρ H':=⟨xbf _,fun _ _ _ e=>e,fun a o e m=>⟨g.old a o e (by rintro rfl;exact m (xch h0)),m⟩,rfl,fun a ob u e=>g.old a _ e (by rintro rfl;rw[hT] at e;cases e)⟩
 refine⟨E,r.len,r.inj,fun n a o e1 e2=>?_,fun a ha=>?_,r.live⟩
 ·by_cases z:a=T
  ·subst z;obtain rfl:=r.inj n 0 a e1 h0;rw[h1] at e2;cases e2
   exact⟨⟨c,ht⟩,g.tab⟩
  ·have q:=r.obj n a o e1 e2;obtain⟨w,hw⟩:=q.has;exact q.ext E (by rw[hw];exact g.old a w hw z)
 ·obtain⟨⟨vs,e⟩,m⟩:=r.gh a ha;exact⟨⟨vs,g.old a _ e (by rintro rfl;rw[hT] at e;cases e)⟩,m⟩
section
variable {X:Cx}{y:Str}{p pos lp:Pos}{params:Arguments}{body:Expr}{scope stS:Scope}{N NL:List Str}{is:List Nat}{c T fr:Addr}{fdR:FuncData}{stR:Stmt}{x:Str}{k:Nat}{lam:SE}{b:(Store->Res D)->SS}
theorem zbgn {X':Cx}{aY:List (Addr×Obj)}{τ:L2.St}{H:Hp}{s:Shared}{f c':Addr}{ctv:Value}{cl:List (Str×Addr)}(I:Inv X aY τ H s)(S:CompScope X NL 0 is scope)(SL:LamScope scope)(c1:∀x c,cl.lookup x=some c->X.env.cells.lookup x=some c)(c2:∀x,(x,NameKind.free)∈scope.names->∃c,cl.lookup x=some c)(hf:H f=some (.frz (lamO X.mg params body scope cl c' ctv) HX))(hc:∃oc vs t,H c'=some (.frz oc HX)/\oc.data=.fields vs/\vs[1]?=some (.str lamQ t))
  (e1:X'.s₀=s)(e2:X'.H₀=H)(e3:X'.prog=X.prog)(e4:X'.w=X.w)(e5:X'.K=X.K)(e6:X'.mg=X.mg)(e7:X'.base=X.base)(e8:X'.ex=[])(hr:Room (k + 1) X'.A)(hb:∀ pm cd ct, bindArgs (W.kla_fn "<lambda>" lamQ params body scope cl pm cd ct) ⟨[],[]⟩=pure [])
  (hlam:∀f cd cl A outer s H E,Room k (A.deeper (W.envX lamQ scope s.heap.objs.size f cd cl))->JX (cxL X.prog X.w X.K X.mg X.base NL lamQ scope f cd cl A outer s H E) (fun _ c dx H=>E c dx H) body lam):Thk X' f (startC 0 is τ) lam:=by
 have get:∀{aY τ' H' s'},Inv X' aY τ' H' s'->∀{a o},H a=some (.frz o HX)->s'.heap.get? a=some o:=fun J a o e=>by
  have e':X'.H₀ a=some (.frz o HX):=by rw[e2];exact e
  exact(J.hok a _ (J.base.frzs a o HX e')).1
 refine⟨fun pins' τ' H' s' J=>?_,fun pins' τ' H' s' E Q J hq=>?_⟩
 ·exact⟨_,_,_,_,get J hf⟩
 obtain⟨oc,vs,t,h1,h2,h3⟩:=hc;have kp:KeptL scope NL cl (startC 0 is τ) s' H':=by
  have cel:∀{c v},s.heap.IsCell c v->H c=none->s'.heap.IsCell c v/\H' c=none:=fun {c v} hq0 n=>by
   obtain⟨o,a,d⟩:=hq0;obtain⟨sl,z⟩:=J.base.any (b:=c) (ob:=o) (by rw[e1];exact a) (by rw[e2];exact n) (by rw[e8];simp);exact⟨⟨_,z,d⟩,J.base.free c o (by rw[e1];exact a) (by rw[e2];exact n) (by rw[e8];simp)⟩
  refine⟨fun x y c h1 h2=>I.ok.inj x y c (c1 x c h1) (c1 y c h2),c2,fun x c h=>?_,fun i x v a b=>?_,?_⟩
  ·obtain⟨v,z⟩:=I.cell x c (c1 x c h);have w:=cel z (I.freeC x c (c1 x c h));exact⟨⟨v,w.1⟩,w.2⟩
  ·have b':(is.map fun i=>(τ[i]?).getD none)[i]?=some (some v):=b;rw[xcc] at b';cases ej:is[i]? with
   | none=>rw[ej] at b';cases b'
   | some j =>
    rw[ej] at b';have b2:(τ[j]?).getD none=some v:=xby b';obtain⟨z,y1,y2,y3⟩:=S.own i j ej;rw[xdx,a] at y1;cases y1;have b3:τ[j]?=some (some v):=by
     cases q:τ[j]? with
     | none=>rw[q] at b2;cases b2
     | some o=>rw[q] at b2;exact congrArg some b2
    have kd:=S.frees _ (zdl y3) rfl;obtain⟨m,_,hl⟩:=I.loc;obtain⟨u,r,lk⟩:=hl j x v y2 b3 (.inr kd);refine⟨y3,?_⟩;rcases lk with⟨q,_⟩ | ⟨_,c,e5',cc⟩
    ·rcases kd with w | w<;>(rw[w] at q;cases q)
    ·obtain⟨c'',e6'⟩:=c2 x (zdl y3);have z:=c1 x c'' e6';rw[e5'] at z;cases z;exact⟨c,u,e6',(cel cc (I.freeC x c e5')).1,r⟩
  ·show(is.map fun i=>(τ[i]?).getD none).length=NL.length;rw[xbd,S.len,xdx]
 have hcr:s'.heap.CodeRec (.ref c') lamQ:=⟨c',oc,vs,t,rfl,get J h1,h2,h3⟩
 have e0:=J.env0;rw[e3,e4,e5,e6,e7] at e0;rw[e3,e4];rw[e5] at hq;exact zyl SL hr e0 kp (get J hf) rfl hcr (hb _ _ _) (hlam f (.ref c') cl X'.A X'.stack s' H' E (hr.deeper _)).out hq
theorem zbem (C:W.CodeHd X.base c T)(ht:W.tabIn X.K "law"=some (c, T))(Bm:BmOk X.mg X.base)(hcode:X.env.code=.ref c)(hqu:X.env.qual++"<lambda>"=lamQ)(hg:Gl X y)(hm:X.mg y=some (.ref fr))(F:Fun X.K y y stR fr fdR)(SF:FnScope N [x] (defScope stR))
  (bd:∀(kV doc pm:Value) (an:Option Addr) (cdv ct:Value) (us:List Value),us.length=[x].length->bindArgs (W.fnOf y y (defArgs stR) (defBody stR) (defScope stR) .none kV doc pm an cdv ct) ⟨us,[]⟩=pure ([x].zip us))
  (hr:Room (k + 2) X.A)(hdef:defaultsOf params X.env=([],[]))(S:CompScope X NL 0 is scope)(SL:LamScope scope)(hb:∀ cl pm cd ct, bindArgs (W.kla_fn "<lambda>" lamQ params body scope cl pm cd ct) ⟨[],[]⟩=pure [])
  (hbody:∀(cdv:Value) (A:Around) (outer:List Env) (s:Shared) (H:Hp) (E:XK) (f:Addr) (σL:DS) (τL:L2.St) (g:SE),Room (k+1) (A.deeper (envOfC y (defScope stR) s.heap.objs.size fr cdv)) ->
   (∀E' pn,Thk ((cxOf CX0 X.prog X.w X.K X.mg X.base N y (defScope stR) fr cdv A outer s H E).nox.tryc E' pn) f τL g)->PSs (cxOf CX0 X.prog X.w X.K X.mg X.base N y (defScope stR) fr cdv A outer s H E).nox (defBody stR) (tRef X.K f σL τL (b (g σL))))
  (hlam:∀f cd cl A outer s H E,Room k (A.deeper (W.envX lamQ scope s.heap.objs.size f cd cl))->JX (cxL X.prog X.w X.K X.mg X.base NL lamQ scope f cd cl A outer s H E) (fun _ c dx H=>E c dx H) body lam)
  (hdb:(y==("__debug__" : Str))=false:=by decide)(he:starEach [.Lambda params body scope lp] X.env=(false, eval (.Lambda params body scope lp) X.env)::starEach [] X.env:=by rfl)(hpl:(backTo pos (starEach [] X.env)).any (·.1)=false:=by rfl) :
  JE X (.Call (.Name y p) [.Lambda params body scope lp] [] pos) (eRefd (fun g=>fnD N.length 1 (b g)) is lam):=by
 refine⟨fun aY s τ H Q I ⟨ρ,σ,st,v,st',a,rp,e,q⟩=>?_⟩;unfold eRefd at e;split at e
 case h_2=>cases e
 case h_1 h0 =>
 obtain⟨T',m0⟩:=rp.live 0 .tab h0 (by intro z;cases z);obtain⟨⟨c2,ht2⟩,ps,hT,ok⟩:=rp.obj 0 T' .tab m0 h0;rw[ht] at ht2;cases ht2;refine xfe (zkq I hg hm ?_ hdb)
 refine xks (h₀:=X.base) I.ok.mod.kin F.kp (thn ((zng (zbhs S C Bm hcode hqu hdef) zxx he:PA X [.Lambda params body scope lp] _) pos aY s τ H (fun vs H1=>∃f c' ctv cl,vs=[.ref f]/\(∀x c,cl.lookup x=some c->X.env.cells.lookup x=some c)/\(∀x,(x,NameKind.free)∈scope.names->∃c,cl.lookup x=some c)/\Grew T H H1/\H1 f=some (.frz (lamO X.mg params body scope cl c' ctv) HX)/\∃oc vs t,H1 c'=some (.frz oc HX)/\oc.data=.fields vs/\vs[1]?=some (.str lamQ t)) I
  ⟨ps,hT,ok,fun f c' ctv cl H' c1 c2 gr h1 _ h3=>⟨f,c',ctv,cl,rfl,c1,c2,gr,h1,h3⟩⟩) fun us s1 ⟨vs,H1,I1,r,f,c',ctv,cl,hvs,c1,c2,gr,hf,hc⟩=>⟨I1.kIn,?_⟩) he hpl
 subst hvs;obtain⟨x1,rp1⟩:=rp.grew ht m0 h0 ⟨ps,hT⟩ gr;obtain⟨x2,rp2⟩:=rp1.more;obtain⟨oc,od,kV,doc,pm,an,cdv,ct,osl,rfl,lk,hcd⟩:=F.ex;have aL:AtS X.K ⟨ρ.m++[none],ρ.g⟩ H1 (aX 0 is σ) (startC 0 is τ):=((a.ext x1).ext x2).start 0 is;have thk:∀E' pn,Thk ((cxOf CX0 X.prog X.w X.K X.mg X.base N y (defScope stR) fr cdv X.A X.stack s1 H1 E0).nox.tryc E' pn) f (startC 0 is τ) lam:=fun E' pn=>zbgn (k:=k) I1 S SL c1 c2 hf hc rfl rfl rfl rfl rfl rfl rfl rfl (hr.deeper _) (hb cl) hlam
 have bod:=hbody cdv X.A X.stack s1 H1 E0 f (aX 0 is σ) (startC 0 is τ) lam (hr.deeper _) thk;have hl:us.length=1:=by have:=r.length;simpa using this.symm
 replace e:fnD N.length 1 (b (lam (aX 0 is σ))) [D.ref st.length] (st++[.dead])=.ok v st':=e;unfold fnD at e;rw[if_pos (show[D.ref st.length].length=1 from rfl)] at e;have as:AtS X.K ⟨ρ.m++[none],ρ.g⟩ H1 ([D.ref st.length].map Option.some++List.replicate (N.length - 1) none) (L2.start N [.ref f]):=by
  unfold L2.start;refine AtS.append (AtAll.some (.cons (.ref ?_ fun a z=>?_) .nil)) (.nones _)
  ·rw[← rp.len];simp
  ·rw[← rp.len,xcr (xbf _),xjg] at z;cases z
 refine xip (xhi (zbfj (k:=k+1) (E:=E0) (Q:=Q) lk hcd SF hr I1.env0 (.of_eq (bd kV doc pm an cdv ct us hl)) r rfl bod.nox ?_) fun r s' hq=>?_)
 ·refine⟨by unfold L2.start;rfl,⟨ρ.m++[none],ρ.g⟩,[D.ref st.length].map Option.some++List.replicate (N.length - 1) none,st++[.dead],?_⟩;cases hres:b (lam (aX 0 is σ)) ([D.ref st.length].map Option.some++List.replicate (N.length - 1) none) (st++[.dead]) with
  | stuck=>rw[hres] at e;cases e
  | exc z w=>rw[hres] at e;cases e
  | ok fl st1 =>
   rw[hres] at e;have xx:=x1.trans x2;cases fl with
   | ret w=>dsimp only at e;cases e;exact⟨.ret v,_,as,aL,rp2,rfl,fun ρ' H' u x r t=>q ρ' H' u (xx.trans x) r t⟩
   | nx σ2=>dsimp only at e;cases e;exact⟨.nx σ2,_,as,aL,rp2,rfl,fun ρ' H' τ x r t=>q ρ' H' .non (xx.trans x) r .non⟩
   | brk σ=>cases e
   | ct σ=>cases e
 ·cases r with
  | error er=>exact False.elim hq
  | ok fl =>
   cases fl with
   | ret u=>exact I1.after hq
   | next=>exact False.elim hq
   | brk=>exact False.elim hq
   | cont=>exact False.elim hq
end
end Dd
namespace L2
open PySem PySem.Spec PyProof.Rows
def isT:Value->Bool
 | .bool b=>b==true
 | _=>false
theorem zpk:∀{bs:List Bool} {us:List Value},Vals (bs.map V.bl) us->us=bs.map Value.bool
 | [],_,.nil=>rfl
 | b::bs,_,.cons r t=>by rw[zpk t];cases(show _=Value.bool b from r);rfl
theorem znu:∀bs:List Bool,(bs.map Value.bool).countP isT=bs.count true
 | []=>rfl
 | b::bs=>by rw[xbp,List.countP_cons,List.count_cons,znu bs];rfl
theorem eqT {A:Around}{s:Shared}{bs:List Bool}:∀y,y∈(bs.map Value.bool).toArray->SeqAt.EqAt A s y (.bool true) (isT y):=fun y hy=>by
 obtain⟨b,_,rfl⟩:=xdt.mp (by simpa using hy:y∈bs.map Value.bool);exact SeqAt.EqAt.bool_bool b true
def rCountB (K:Fg):V->List V->Hp->VK->Prop:=fun x vs H Q=>∃(l:Addr) (bs:List Bool),x=.ref l/\vs=[.bl true]/\SqL K H l (bs.map V.bl)/\Q (.int (bs.count true:Nat)) H
theorem ztu {X:Cx}:MtM X "list.count" (rCountB X.K):=by
 intro aY s σ H x vs v us Q I rx rv h;obtain⟨l,bs,rfl,rfl,hl,q⟩:=h;cases rx;obtain⟨u,rfl,ru⟩:=rv.one;cases(show u=Value.bool true from ru);obtain⟨its,r,pl,_⟩:=I.list hl;obtain rfl:=zpk r;obtain⟨⟨cls,dd,data,sl⟩,ho,hc,n,hd⟩:=id pl.isList;simp only at hc hd;subst hc hd;refine xgs F.slot_list_count ⟨_,ho,rfl⟩ F.entry_list_count (F.args_list_count_2 _ _) (SeqAt.list_countAt l (bs.map Value.bool).toArray n dd sl (.bool true) isT) ⟨ho,eqT,?_⟩;rw[show(bs.map Value.bool).toArray.toList=bs.map Value.bool from rfl,znu];exact⟨.int _,H,I.tok _,⟨_,rfl⟩,q⟩
def rIndexB (K:Fg):V->List V->Hp->VK->Prop:=fun x vs H Q=>∃(l:Addr) (bs:List Bool),x=.ref l/\vs=[.bl true]/\SqL K H l (bs.map V.bl)/\true∈bs/\bs.length<=1000/\Q (.int (bs.idxOf true:Nat)) H
theorem zts {X:Cx}:MtM X "list.index" (rIndexB X.K):=by
 intro aY s σ H x vs v us Q I rx rv h;obtain⟨l,bs,rfl,rfl,hl,hm,hz,q⟩:=h;cases rx;obtain⟨u,rfl,ru⟩:=rv.one;cases(show u=Value.bool true from ru);obtain⟨its,r,pl,_⟩:=I.list hl;obtain rfl:=zpk r;obtain⟨⟨cls,dd,data,sl⟩,ho,hc,n,hd⟩:=id pl.isList;simp only at hc hd;subst hc hd;have hj:bs.idxOf true < bs.length:=List.idxOf_lt_length_iff.mpr hm;refine xgs F.slot_list_index ⟨_,ho,rfl⟩ F.entry_list_index (F.args_list_index_2 _ _) (SeqAt.list_indexAt l (bs.map Value.bool).toArray n dd sl (.bool true) isT (bs.idxOf true) (by simpa using hj) (by lia) ?_ ?_) ⟨ho,eqT,⟨.int _,H,I.tok _,⟨_,rfl⟩,q⟩⟩
 ·have e:bs[bs.idxOf true]=true:=List.getElem_idxOf hj;simp[isT,e]
 ·intro j hjs hlt;have e:=List.not_of_lt_findIdx (p:=(·==true)) (xs:=bs) (i:=j) hlt;simp[isT]
  simpa using e
end L2
namespace Dd
open PySem L2 PyProof.Rows
def eWithB (k:List Bool->Res D->Res D) (c:List Bool->Nat) (f:SE) (g:SA):SE:=fun σ st=>(f σ st).bind fun x st1=>match asL st1 x with
 | some _=>(g σ st1).bind fun ys st2=>match ys,(asL st2 x).bind asBools with
  | [.bl true],some bs=>k bs (.ok (.int (c bs:Nat)) st2)
  | _,_=>.stuck
 | _=>.stuck
abbrev eCountB:SE->SA->SE:=eWithB (fun _ r=>r) (fun bs=>bs.count true)
abbrev eIndexB:SE->SA->SE:=eWithB (fun bs r=>if true∈bs/\bs.length<=1000 then r else .stuck) (fun bs=>bs.idxOf true)
section
variable {X:Cx}{o e:Expr}{es:List Expr}{f:SE}{ga:SA}{apos cpos:Pos}
theorem zvg {K:Fg}{k:List Bool->Res D->Res D}{c:List Bool->Nat}{r:V->List V->Hp->VK->Prop}(hk:∀bs st v st',k bs (.ok (.int (c bs:Nat)) st)=.ok v st'->v=.int (c bs:Nat)/\st'=st/\∀p H (Q:VK),SqL K H p (bs.map V.bl)->Q (.int (c bs:Nat)) H->r (.ref p) [.bl true] H Q) :
  ∀ τ H Q, tD K (eWithB k c f ga) τ H Q->tBM K "list" r (tD K f) (tDA K ga) τ H Q:=fun τ H Q hq0=>by
 obtain⟨ρ,σ,st,v,st',a,rp,e,q⟩:=hq0;obtain⟨x,st1,e1,e⟩:=zc e;refine⟨ρ,σ,st,x,st1,a,rp,e1,fun ρ1 H1 u x1 rp1 a1=>?_⟩;split at e
 ·rename_i hL;obtain⟨ys,st2,e2,e⟩:=zc e;obtain⟨p,vs,rfl,g1,g2⟩:=zfn rp1 a1 hL;refine⟨.inl ⟨rfl,_,SqL.of g1⟩,ρ1,σ,st1,ys,st2,a.ext x1,rp1,e2,fun ρ2 H2 ws x2 rp2 a2=>?_⟩;split at e
  ·rename_i bs hn;obtain⟨rfl,rfl,hr⟩:=hk _ _ _ _ e;obtain⟨zs,h0,hn⟩:=xef.mp hn;obtain⟨w,rfl,a3⟩:=a2.one;cases a3;obtain⟨p',vs2,ep,k1,k2⟩:=zfn rp2 (a1.ext x2) h0;cases ep;have e:=zii k2 hn;subst e;exact hr p H2 _ (SqL.of k1) (q _ _ _ (x1.trans x2) rp2 (.int _))
  ·cases e
 ·cases e
theorem zuu (ho:JE X o f)(ha:JA X (e::es) ga)(hbase:attributeBase o "count" X.env (eval o X.env)=eval o X.env:=by rfl)
 (hfew:((backTo cpos (starEach (e::es) X.env)).all (fun x=>!x.1)&&(backToKw cpos (keywordEach [] X.env)).all (fun x=>x.1.isSome)
  && decide ((e::es).length+([]:List Keyword).length+(if([]:List Keyword).isEmpty then 0 else 1) < 30))=true:=by rfl)
 (hline:(apos.endLine==cpos.line)=true:=by rfl)(hs:starEach (e::es) X.env=(false,eval e X.env)::starEach es X.env:=by rfl)(hplain:(backTo cpos (starEach es X.env)).any (·.1)=false:=by rfl) :
 JE X (.Call (.Attribute o "count" apos) (e::es) [] cpos) (eCountB f ga):=⟨zfp (zbbz xfk F.slot_list_count F.type_list_count ztu ho.out ha.out hbase hfew hline hs hplain) (zvg fun bs st v st' h=>by cases h; exact⟨rfl, rfl, fun p H Q hs q=>⟨p, bs, rfl, rfl, hs, q⟩⟩)⟩
theorem zur (ho:JE X o f)(ha:JA X (e::es) ga)(hbase:attributeBase o "index" X.env (eval o X.env)=eval o X.env:=by rfl)
  (hfew:((backTo cpos (starEach (e::es) X.env)).all (fun x=>!x.1)&&(backToKw cpos (keywordEach [] X.env)).all (fun x=>x.1.isSome)
   && decide ((e::es).length+([]:List Keyword).length+(if([]:List Keyword).isEmpty then 0 else 1) < 30))=true:=by rfl)
  (hline:(apos.endLine==cpos.line)=true:=by rfl)(hs:starEach (e::es) X.env=(false,eval e X.env)::starEach es X.env:=by rfl)(hplain:(backTo cpos (starEach es X.env)).any (·.1)=false:=by rfl) :
  JE X (.Call (.Attribute o "index" apos) (e::es) [] cpos) (eIndexB f ga):=⟨zfp (zbbz xfk F.slot_list_index F.type_list_index zts ho.out ha.out hbase hfew hline hs hplain) (zvg fun bs st v st' h=>by
 split at h
 ·next z=>cases h;exact⟨rfl,rfl,fun p H Q hs q=>⟨p,bs,rfl,rfl,hs,z.1,z.2,q⟩⟩
 ·cases h)⟩
end
def eIsB (i:Nat) (tbl:List (Str×Bool)):SE:=fun σ st=>match σ[i]? with
 | some (some (.exn c []))=>match tbl.lookup c with
  | some b=>.ok (.bl b) st
  | none=>.stuck
 | _=>.stuck
theorem zfz {X:Cx}{n d:Str}{i:Nat}{tbl:List (Str×Bool)}{dv:V}{cv:Value}{p p1 p2 pos:Pos}(hg:Gl X "isinstance")(hm:X.mg "isinstance"=none)(hv:PE X (.Name n p1) (tVar i))(hd:PE X (.Name d p2) (tC dv))(r:RelV dv cv)(un:∀ u, RelV dv u->u=cv)
  (hk:∀ q∈tbl, ∀ C, W.nsIn X.K mainGlobals q.1=some (some (.ref C))->ErrLook X.K C/\W.kitOne X.K (.ref C) cv=some q.2):JE X (.Call (.Name "isinstance" p) [.Name n p1, .Name d p2] [] pos) (eIsB i tbl) :=
 ⟨zfp (zqi zzr hg hm zle (zng hv (zng hd zxx))) fun τ H Q hq0=>by
  obtain⟨ρ,σ,st,v,st',a,rp,e,q⟩:=hq0;unfold eIsB at e;split at e
  ·next c hi =>
   split at e
   ·next b hb =>
    cases e;obtain⟨u,h1,h2⟩:=a.get hi;cases h2 with
    | exn h2 =>
     obtain⟨C,o,h3,h4,h5,h6,h7⟩:=h2;obtain⟨lk,e1⟩:=hk (c,b) (xen hb) C h3;have hd0:o.dict=none:=by
      rcases h7 with⟨_,z⟩ | ⟨_,_,_,z,_⟩
      ·exact z
      ·cases z
     exact⟨_,h1,_,o,C,dv,cv,b,rfl,r,un,h4.1,h5,lk,hd0,(let ⟨vs,q,_⟩:=h6;⟨vs,q⟩),e1,q _ _ _ (.refl _ _) rp (.bl b)⟩
   ·cases e
  ·cases e⟩
end Dd
namespace L2
open PySem PySem.Spec PyProof.Rows
theorem zua {P:Program}{w:World}{K:Fg}{mg mb:Str->Option Value}{k:Nat}{fa a T c:Addr}{fd:FuncData}{x:Str}{sp:Sp}{s₁:Shared}{vs:List Value}{ns:List Int}
  (KX:K.In s₁.heap)(hns:s₁.heap.Ns mainGlobals mg)(hb:s₁.heap.Ns builtinsNs mb)(hbb:∀ x:Str, x≠"__name__"->mb x=bootBuiltins x)(hlim:s₁.heap.NoLimit)(hg:s₁.gens=#[])
  (ha:s₁.heap.get? a=some { cls:=.type "list", data:=.seq vs.toArray })(hi:IntsAre vs ns)(hl:ns.length<=sizeLine)(hr:Room k callerA)(CT:W.CodeHd s₁.heap c T)(hT:s₁.heap.get? T=some (W.tabObj #[]))(hKT:K.lookup T=none)(hbm:BmOk mg s₁.heap)
  (F:∀base:Heap,K.In base->base.Ns mainGlobals mg->W.CodeHd base c T->BmOk mg base->FnOk P w K mg base CX0 k fa fd [x] sp)(hbind:∀(s:Shared) (u:Value),BindsTo s fd ⟨[u],[]⟩ [(x,u)])
  (hsp:∀H:Hp,H T=some (.tbl #[])->SqL K H a (ns.map V.int)->sp [.ref a] H (fun v _=>v=.bl true) fun _ _ _=>False) :
  codeAny (model P w) callerA (.call (.ref fa) ⟨[.ref a],[]⟩) (fun r s'=>r=.ok (.ret (.bool true))/\OldK s₁.heap s'.heap/\s'.os=s₁.os/\AllBare s'.gens) s₁:=by
 have rv:=zmw hi;have lenV:=hi.length;have aT:a≠T:=by rintro rfl;rw[ha] at hT;cases hT
 have core:∀H:Hp,H T=some (.tbl #[])->SqL K H a (ns.map V.int)->HOk P w H s₁.heap->(∀b,H b≠none->b=T\/(b=a/\K.lookup a=none/\∃o xs,H a=some (.frz o (.lst xs)))) ->
   codeAny (model P w) callerA (.call (.ref fa) ⟨[.ref a],[]⟩) (fun r s'=>r=.ok (.ret (.bool true))/\OldK s₁.heap s'.heap/\s'.os=s₁.os/\AllBare s'.gens) s₁:=by
  intro H hHT hS hok hA;have none_of:∀{b:Addr} {o:Obj},s₁.heap.get? b=some o->(∀z,o.data≠.fields z)->(∀z n,o.data≠.seq z n)->H b=none:=fun {b o} e n1 n2=>by
   cases q:H b with
   | none=>rfl
   | some u =>
    rcases hA b (by rw[q];simp) with rfl | ⟨rfl,_⟩
    ·rw[hT] at e;cases e;exact absurd rfl (n1 _)
    ·rw[ha] at e;cases e;exact absurd rfl (n2 _ _)
  have base_of:∀{b:Addr} {o:Obj},s₁.heap.get? b=some o->H b=none->(hidT s₁.heap H).get? b=some o:=fun e n=>zyr e n
  have nsK:∀{b:Addr} {m:Str->Option Value},s₁.heap.Ns b m->(hidT s₁.heap H).Ns b m:=fun {b m} ⟨o,es,ep,e,d,r⟩=>⟨o,es,ep,base_of e (none_of e (by intro z q;rw[d] at q;cases q) (by intro z n q;rw[d] at q;cases q)),d,r⟩
  have hKb:K.In (hidT s₁.heap H):=fun b o e=>base_of (KX b o e) (by
   cases q:H b with
   | none=>rfl
   | some u =>
    rcases hA b (by rw[q];simp) with rfl | ⟨rfl,n,_⟩
    ·rw[hKT] at e;cases e
    ·rw[n] at e;cases e)
  have hM:Mod K mg (hidT s₁.heap H):=⟨hKb,nsK hns,⟨mb,nsK hb,hbb⟩,let ⟨mc,h1,h2⟩:=hlim;⟨mc,nsK h1,h2⟩⟩
  have e0:Env0 P w K mg (hidT s₁.heap H) callerA [] s₁ H:=⟨rfl,hM,fun b o e=>zbck e,xdk (zud _ _),trivial,fun b hb=>absurd (show b∈([]:List Addr) from hb) (by simp),hok,.of_eq hg⟩
  have CT':W.CodeHd (hidT s₁.heap H) c T:=by
   obtain⟨o,vs',file,tf,flags,tg,inF,text,tt,e1,r1,r2,r3,r4,r5,r6,r7,r8,hne⟩:=CT;refine⟨o,vs',file,tf,flags,tg,inF,text,tt,base_of e1 ?_,r1,r2,r3,r4,r5,r6,r7,r8,hne⟩;cases q:H c with
   | none=>rfl
   | some u =>
    rcases hA c (by rw[q];simp) with z | ⟨z,_⟩
    ·exact absurd z hne
    ·rw[z,ha] at e1;cases e1;cases r2
  have bm':BmOk mg (hidT s₁.heap H):=by
   obtain⟨bm,ob,b1,b2,b3,b4,b5,b6⟩:=hbm;exact⟨bm,ob,b1,b2,base_of b3 (none_of b3 (by intro z q;rw[b6] at q;cases q) (by intro z n q;rw[b6] at q;cases q)),b4,b5,b6⟩
  refine xhi ((F _ hKb (nsK hns) CT' bm').run callerA [] s₁ H ⟨[.ref a],[]⟩ [.ref a] [.ref a] _ _ hr e0 (hbind s₁ (.ref a)) (.cons rfl .nil) (hsp H hHT hS)) fun r s' h=>?_
  cases r with
  | error e=>exact False.elim h
  | ok fl =>
   cases fl with
   | next=>exact False.elim h
   | brk=>exact False.elim h
   | cont=>exact False.elim h
   | ret u =>
    obtain⟨v,H',os,bare,un,hok',r',q⟩:=h;have q':v=.bl true:=q;subst q';obtain rfl:u=Value.bool true:=r';have key:∀b o,s₁.heap.get? b=some o->b≠T->s'.heap.get? b=some o:=fun b o e n=>by
     cases q:H b with
     | none=>exact un.keep b o e q (by intro z;exact absurd (show b∈([]:List Addr) from z) (by simp)) (by simp)
     | some u =>
      rcases hA b (by rw[q];simp) with z | ⟨rfl,_,ob,xs,z⟩
      ·exact absurd z n
      ·have z2:=un.frzs b ob _ z;obtain⟨e1,_⟩:=hok b _ z;obtain⟨e2,_⟩:=hok' b _ z2;rw[e] at e1;cases e1
       exact e2
    obtain⟨more,z⟩:=un.tbls T #[] hHT;have gT:s'.heap.get? T=some {cls:=.none,data:=.fields (#[]++more)}:=hok' T _ z;refine⟨rfl,⟨fun b o e=>?_,fun b o e=>?_⟩,os,bare⟩
    ·by_cases n:b=T
     ·subst n;rw[hT] at e;cases e
      exact .inr (.inl ⟨(CT.tab hT).isCodeTable,rfl,#[],more,rfl,gT⟩)
     ·exact .inl (key b o e n)
    ·by_cases n:b=T
     ·subst n;exact⟨_,gT⟩
     ·exact⟨o,key b o e n⟩
 have okT:∀H:Hp,ObjOk P w H s₁.heap T (.tbl #[]):=fun H=>hT
 cases hk:K.lookup a with
 | some o =>
  have e:=KX a o hk;rw[ha] at e;cases e;refine core (fun b=>if b=T then some (.tbl #[]) else none) (if_pos rfl) (.inr ⟨_,vs.toArray,_,hk,rfl,rfl,rfl,by rw[xbn,lenV];exact hl,by simpa using rv⟩) (fun b u z=>?_) (fun b z=>?_)
  ·by_cases hb:b=T
   ·have z':=(if_pos hb).symm.trans z;cases z';subst hb;exact okT _
   ·have z':=(if_neg hb).symm.trans z;cases z'
  ·by_cases hb:b=T
   ·exact .inl hb
   ·exact absurd (if_neg hb) z
 | none =>
  have hTn:(fun b=>if b=T then some (.tbl #[]) else if b=a then some (.frz { cls:=.type "list", data:=.seq vs.toArray } (.lst (ns.map V.int))) else none:Hp) a=some (.frz { cls:=.type "list", data:=.seq vs.toArray } (.lst (ns.map V.int))):=by
   show(if a=T then _ else if a=a then _ else _)=_;rw[if_neg aT,if_pos rfl]
  refine core (fun b=>if b=T then some (.tbl #[]) else if b=a then some (.frz { cls:=.type "list", data:=.seq vs.toArray } (.lst (ns.map V.int))) else none) (if_pos rfl) (.inl (.inr ⟨{ cls:=.type "list", data:=.seq vs.toArray }, hTn⟩)) (fun b u z=>?_) (fun b z=>?_)
  ·by_cases hb:b=T
   ·have z':=(if_pos hb).symm.trans z;cases z';subst hb;exact okT _
   ·have z1:=(if_neg hb).symm.trans z;by_cases hb2:b=a
    ·have z':=(if_pos hb2).symm.trans z1;cases z';subst hb2;exact⟨ha,by rw[xbd];exact hl,vs,_,rv,ha⟩
    ·have z':=(if_neg hb2).symm.trans z1;cases z'
  ·by_cases hb:b=T
   ·exact .inl hb
   ·by_cases hb2:b=a
    ·exact .inr ⟨hb2,hk,_,_,hTn⟩
    ·exact absurd ((if_neg hb).trans (if_neg hb2)) z
structure LawTab (K:Fg) (ts:List Addr) (c T:Addr):Prop where
 tin:W.tabIn K "law"=some (c, T)
 hd:W.codeHdIn K c T=true
 mem:T∈ts
 out:K.lookup T=none
theorem ztz {K:Fg}{ts:List Addr}{f c T:Addr}{oc oc2:Value}{od od2:Option Addr}{fd:FuncData}{sl sl2:Array (Option Value)}{vs:Array Value}(a:W.nsIn K mainGlobals "law"=some (some (.ref f)))(l:K.lookup f=some ⟨oc, od, .func fd, sl⟩)(hc:fd.code=.ref c)(lc:K.lookup c=some ⟨oc2, od2, .fields vs, sl2⟩)(hv:vs[11]?=some (.ref T))
  (hd:W.codeHdIn K c T=true)(mem:T∈ts)(out:K.lookup T=none):LawTab K ts c T/\fd.code=.ref c:=by
 refine⟨⟨?_,hd,mem,out⟩,hc⟩;unfold W.tabIn;rw[a];dsimp only;rw[l];dsimp only;rw[hc];dsimp only;rw[lc];dsimp only;rw[hv]
theorem zwq {l:W.OpenLaw}{n k:Nat}{q:Program}{loose:List Str}{XP:(Str->Option Value)->Heap->Prop}{YP:World->Heap->Prop}{d:DefRec}{K:Params->Fg}{ts:List Addr}{sp:Fg->Addr->Sp}{x:Str}
  (hn:l.most=some n)(hn2:n<=sizeLine)(hdf:d.params.defaults=[])(hr:Room k callerA)
  (hY:∀(w:World) (h:Heap),YP w h->(K w.params).In h)(hts:∀(w:World) (h:Heap),YP w h->∀P∈ts,h.get? P=some (W.tabObj #[]))
  (F:∀(w:World) (mg:Str->Option Value) (fa:Addr) (h:Heap),(K w.params).In h->h.Ns mainGlobals mg->mg d.name=some (.ref fa) ->
   ∃(c T:Addr) (fd:FuncData),LawTab (K w.params) ts c T/\(∀(s:Shared) (u:Value),BindsTo s fd ⟨[u],[]⟩ [(x,u)]) /\
    ∀base:Heap,(K w.params).In base->base.Ns mainGlobals mg->W.CodeHd base c T->BmOk mg base->FnOk l.prog w (K w.params) mg base CX0 k fa fd [x] (sp (K w.params) T))
  (hsp:∀(K:Fg) (c T:Addr) (H:Hp) (a:Addr) (ns:List Int), W.tabIn K "law"=some (c, T)->ns.length<=n->H T=some (.tbl #[])->SqL K H a (ns.map V.int)->sp K T [.ref a] H (fun v _=>v=.bl true) fun _ _ _=>False) :
  W.WalkO q loose XP YP l.row.toRowW d [] (fun f vs=>PySem.call f vs):=by
 refine Att.attach_call hn hdf fun w s₀ s₁ mg mb fa o pm cd doc a vs ns G Y ho hd hcd hmg hobj hints hlen hg=>?_
 have KX:=hY w _ Y;obtain⟨c,T,fd,LT,hb,hF⟩:=F w mg fa _ KX G.T.g hmg;exact zua KX G.T.g G.T.b G.T.builtins G.T.nolimit hg hobj hints (xbc hlen hn2) hr (W.codeHd_of_K KX LT.hd) (hts w _ Y T LT.mem) LT.out G.T.bmain hF hb (fun H hT hS=>hsp _ c T H a ns LT.tin hlen hT hS)
end L2
namespace Dd
open PySem L2 PyProof.Rows
def spLawT (K:Fg) (T:Addr):Sp:=fun vs H Q _=>∃(a:Addr) (ns:List Int), vs=[.ref a]/\SqL K H a (ns.map V.int)/\ns.length<=63/\H T=some (.tbl #[])/\(∃ c, W.tabIn K "law"=some (c, T))/\∀ H', Q (.bl true) H'
theorem zbdc {P:Program}{w:World}{K:Fg}{mg:Str->Option Value}{base:Heap}{st:Stmt}{N ps:List Str}{k:Nat}{b:SS}{f T:Addr}{fd:FuncData}(F:Fun K "law" "law" st f fd)(S:FnScope N ps (defScope st))(hp:ps.length=1)
  (hbody:∀(cdv:Value) (A:Around) (outer:List Env) (s:Shared) (H:Hp) (E:XK), fd.code=cdv->Room k (A.deeper (envOfC "law" (defScope st) s.heap.objs.size f cdv)) ->
   JB (cxOf CX0 P w K mg base N "law" (defScope st) f cdv A outer s H E).nox (defBody st) b)
  (holds:∀ns:List Int,ns.length<=63->∃st',fnD N.length 1 b [.scr (ns.map .int)] [.tab]=.ok (.bl true) st'):FnOk P w K mg base CX0 (k+1) f fd ps (spLawT K T):=by
 obtain⟨oc,od,kV,doc,pm,an,cdv,ct,osl,rfl,lk,hcd⟩:=F.ex;refine zbiu lk hcd S (fun vs H Q E hh=>?_) fun A outer s H vs Q E hr hh=>⟨_,(hbody cdv A outer s H E rfl hr).out.nox,?_⟩
 ·obtain⟨a,ns,rfl,_⟩:=hh;exact hp.symm
 ·obtain⟨a,ns,rfl,hS,hl,hT,⟨c,ht⟩,q⟩:=hh;obtain⟨st',e⟩:=holds ns hl;refine zbfn (np:=1) (E:=E) ⟨⟨[some T],[]⟩,[.scr (ns.map .int)],[.tab],_,st',.cons (.scr ?_ (zjv ns)) .nil,⟨rfl,fun n m a e1 e2=>?_,fun n a o e1 e2=>?_,fun a h=>(by cases h),fun n o e1 _=>?_⟩,e,rfl,fun ρ' H' u x r t=>?_⟩
  ·rcases hS with h | h
   ·refine .inl ⟨h,?_,by simp⟩;intro z;have z':a=T:=xby (xbl.mp z);subst z';rcases h with h | ⟨o,h⟩<;>(rw[hT] at h;cases h)
   ·exact .inr fun H'=>.inr h
  ·cases n with
   | zero=>cases m with
    | zero=>rfl
    | succ m=>cases e2
   | succ n=>cases e1
  ·cases n with
   | zero =>
    cases e1;cases e2
    exact⟨⟨c,ht⟩,#[],hT,trivial,fun pos cv z=>by cases z⟩
   | succ n=>cases e1
  ·cases n with
   | zero=>exact⟨T,rfl⟩
   | succ n=>cases e1
  ·cases t;exact q H'
structure JR (X:Cx) (f:Addr) (σL:DS) (τL:L2.St) (s:Stmt) (b:SS):Prop where out:PS X s (tRef X.K f σL τL b)
structure JRB (X:Cx) (f:Addr) (σL:DS) (τL:L2.St) (s:List Stmt) (b:SS):Prop where out:PSs X s (tRef X.K f σL τL b)
section
variable {X:Cx}{R:RXT}{f:Addr}{σL:DS}{τL:L2.St}{g:SE}{x n y:Str}{p pos pos2 xp hp:Pos}{B:Addr}{i:Nat}{cs:List Str}{b0:Stmt}{suite rest:List Stmt}{u t:SS}
theorem zbjp {tp:Pos}{G:Store->Res D}(hc:X.calm=true)(st0:X.stack=X.env::X.outer)(fr:X.env.frame=some X.env.locals)(hN:X.N.Nodup)(hi:X.N[i]?=some n)(hn:X.env.kindOf n=some .local)(hg:Gl X y)(hB:W.nsIn X.K mainGlobals y=some (some (.ref B)))
 (hcs:∀c∈cs,∀C,W.nsIn X.K mainGlobals c=some (some (.ref C))->W.exmOne X.K (.ref C) (.ref B)=some true)(T:∀E pn,Thk (X.tryc E pn) f τL g)(hG:g σL=G)(hv:∀E pn,PE (X.tryc E pn) (.Name x p) (tVar 0))
 (hs:∀ e, JB (X.caught e) (b0::suite) u)(hd:(y==("__debug__" : Str))=false:=by decide)(hsw:swapsWith (.Call (.Name x p) [] [] pos) none pos2.line X.env=pure false:=by rfl) :
 JR X f σL τL (.Try [.Expr (.Call (.Name x p) [] [] pos) pos2] [.ExceptHandler (some (.Name y xp)) (some n) (b0::suite) hp] [] [] tp) (sTry i cs (sDrop fun _=>G) u):=⟨by subst hG;exact zbbg hc st0 fr hN hi hn hg hB hcs T hv hs hd hsw⟩
theorem zbjq {tr:Stmt}{s:SS}(h1:JR X f σL τL tr s)(h2:JB X rest t):JRB X f σL τL (tr::rest) (aD s t):=⟨zbbe h1.out h2⟩
end
def CalT (P:Program) (w:World) (K:Fg) (mg:Str->Option Value) (base:Heap) (y:Str) (k:Nat) (F:(Store->Res D)->DFn):Prop :=
 ∃(fr:Addr) (fdR:FuncData) (stR:Stmt) (N:List Str) (x:Str) (b:(Store->Res D)->SS),(F=fun g=>fnD N.length 1 (b g))/\mg y=some (.ref fr)/\Fun K y y stR fr fdR/\FnScope N [x] (defScope stR) /\
  (∀(kV doc pm:Value) (an:Option Addr) (cdv ct:Value) (us:List Value),us.length=[x].length->bindArgs (W.fnOf y y (defArgs stR) (defBody stR) (defScope stR) .none kV doc pm an cdv ct) ⟨us,[]⟩=pure ([x].zip us)) /\
  ∀(cdv:Value) (A:Around) (outer:List Env) (s:Shared) (H:Hp) (E:XK) (f:Addr) (σL:DS) (τL:L2.St) (g:SE),Room (k+1) (A.deeper (envOfC y (defScope stR) s.heap.objs.size fr cdv)) ->
   (∀E' pn,Thk ((cxOf CX0 P w K mg base N y (defScope stR) fr cdv A outer s H E).nox.tryc E' pn) f τL g)->PSs (cxOf CX0 P w K mg base N y (defScope stR) fr cdv A outer s H E).nox (defBody stR) (tRef K f σL τL (b (g σL)))
theorem zbfi {P:Program}{w:World}{K:Fg}{mg:Str->Option Value}{base h:Heap}{y x:Str}{st:Stmt}{N:List Str}{k:Nat}{b:(Store->Res D)->SS}(T:TopF K y st)(X:K.In h)(G:h.Ns mainGlobals mg)(S:FnScope N [x] (defScope st))
  (bd:∀(kV doc pm:Value) (an:Option Addr) (cdv ct:Value) (us:List Value),us.length=[x].length->bindArgs (W.fnOf y y (defArgs st) (defBody st) (defScope st) .none kV doc pm an cdv ct) ⟨us,[]⟩=pure ([x].zip us))
  (hbody:∀(fr:Addr) (cdv:Value) (A:Around) (outer:List Env) (s:Shared) (H:Hp) (E:XK) (f:Addr) (σL:DS) (τL:L2.St) (g:SE) (G:Store->Res D),g σL=G->Room (k+1) (A.deeper (envOfC y (defScope st) s.heap.objs.size fr cdv)) ->
   (∀E' pn,Thk ((cxOf CX0 P w K mg base N y (defScope st) fr cdv A outer s H E).nox.tryc E' pn) f τL g)->JRB (cxOf CX0 P w K mg base N y (defScope st) fr cdv A outer s H E).nox f σL τL (defBody st) (b G)):CalT P w K mg base y k (fun g=>fnD N.length 1 (b g)):=by
 obtain⟨f,fd,a,F⟩:=T;exact⟨f,fd,st,N,x,b,rfl,xdf X G a,F,S,bd,fun cdv A outer s H E f' σL τL g hr t=>(hbody f cdv A outer s H E f' σL τL g _ rfl hr t).out⟩
theorem zben {X:Cx}{y:Str}{p pos lp:Pos}{params:Arguments}{body:Expr}{scope:Scope}{NL:List Str}{is:List Nat}{c T:Addr}{k:Nat}{lam:SE}{F:(Store->Res D)->DFn}(cal:CalT X.prog X.w X.K X.mg X.base y k F)(C:W.CodeHd X.base c T)(ht:W.tabIn X.K "law"=some (c, T))(Bm:BmOk X.mg X.base)(hcode:X.env.code=.ref c)(hqu:X.env.qual++"<lambda>"=lamQ)(hg:Gl X y)
  (hr:Room (k + 2) X.A)(hdef:defaultsOf params X.env=([],[]))(S:CompScope X NL 0 is scope)(SL:LamScope scope)(hb:∀ cl pm cd ct, bindArgs (W.kla_fn "<lambda>" lamQ params body scope cl pm cd ct) ⟨[],[]⟩=pure [])
  (hlam:∀f cd cl A outer s H E,Room k (A.deeper (W.envX lamQ scope s.heap.objs.size f cd cl))->JX (cxL X.prog X.w X.K X.mg X.base NL lamQ scope f cd cl A outer s H E) (fun _ c dx H=>E c dx H) body lam)
  (hdb:(y==("__debug__" : Str))=false:=by decide)(he:starEach [.Lambda params body scope lp] X.env=(false, eval (.Lambda params body scope lp) X.env)::starEach [] X.env:=by rfl)(hpl:(backTo pos (starEach [] X.env)).any (·.1)=false:=by rfl) :
  JE X (.Call (.Name y p) [.Lambda params body scope lp] [] pos) (eRefd F is lam):=by
 obtain⟨fr,fdR,stR,N,x,b,rfl,hm,FF,SF,bd,hbody⟩:=cal;exact zbem C ht Bm hcode hqu hg hm FF SF bd hr hdef S SL hb hbody hlam hdb he hpl
section
variable {K:Fg}{cv:Value}
theorem zfq:∀q∈([]:List (Str×Bool)),∀C,W.nsIn K mainGlobals q.1=some (some (.ref C))->ErrLook K C/\W.kitOne K (.ref C) cv=some q.2:=fun _ h=>nomatch h
theorem zdc {c:Str}{b:Bool}{r:List (Str×Bool)}{C0:Addr}(n:W.nsIn K mainGlobals c=some (some (.ref C0)))(l:ErrLook K C0)(i:W.kitOne K (.ref C0) cv=some b)(t:∀q∈r,∀C,W.nsIn K mainGlobals q.1=some (some (.ref C))->ErrLook K C/\W.kitOne K (.ref C) cv=some q.2) :
  ∀q∈(c,b)::r,∀C,W.nsIn K mainGlobals q.1=some (some (.ref C))->ErrLook K C/\W.kitOne K (.ref C) cv=some q.2:=fun q hq C e=>by
 rcases xbu.mp hq with rfl | hq
 ·have z:=n.symm.trans e;cases z;exact⟨l,i⟩
 ·exact t q hq C e
end
section
variable {X:Cx}{pos:Pos}{es:List Expr}{u:List D->DS->Option DS}
end
end Dd
namespace L2
open PySem PySem.Spec PyProof.Rows
section
variable {prog:Program}{w:World}{A:Around}{R:Result->Shared->Prop}{I:Addr}{fp wr:List Addr}{n:Nat}{P:Nat->Value->Prop}{St:Nat->Heap->Prop}
end
section
variable {prog:Program}{w:World}{A:Around}{E:Value->Shared->Prop}{s:Shared}
end
section
variable {X:Cx}{p pos cpos kpos:Pos}{l:Expr}{t:TA}{d:Int}{j:Nat}
end
section
variable {X:Cx}
end
end L2
namespace Dd
open PySem L2 PyProof.Rows
section
variable {X:Cx}{p pos cpos kpos:Pos}{l:Expr}{f:SA}{j:Nat}
end
end Dd
namespace Dd
open PySem L2
def zeu:DFn:=fnD 5 2 (aD (aF 2 (eC (.int 0)))
 (aD (sIf (eB (aW oLtT (aA 1) (aE bLen (aB (aA 0) aC)))) (aF 2 (aE bAbs (aB (aW oIx (aA 0) (aA 1)) aC))) sNx)
 (aD (aF 3 (aW aP (aW oMulI (eC (.int 7919)) (aA 1)) (eC (.int 17))))
 (aD (sFor (iR1 (aB (aE bMin2 (aB (aE bLen (aB (aA 0) aC)) (aB (eC (.int 60)) aC))) aC)) (gN 4) (aF 3 (aW oMod (aW aP (aW aP (aW oMulI (aA 3) (eC (.int 48271))) (aW oMod (aW oIx (aA 0) (aA 4)) (eC (.int 2147483647)))) (aA 4)) (eC (.int 2147483629)))))
 (aD (sIf (eB (aW oLtT (aA 2) (aW oPow (eC (.int 10)) (eC (.int 18))))) (aF 2 (eC (.int 0))) sNx)
 (sRet (eLstM (aB (aA 2) (aB (aA 3) aC)))))))))
def zbq:DFn:=fnD 5 2 (aD (sIf (eB (aW oGt (aW oIx (aA 0) (eC (.int 0))) (eC (.int 0)))) (aD (aF 2 (aW oMod (aW oIx (aA 0) (eC (.int 0))) (aA 1)))
 (aD (sSetIx (aA 0) (eC (.int 0)) (aW oFdiv (aW oIx (aA 0) (eC (.int 0))) (aA 1)))
 (sRet (aA 2)))) sNx)
 (aD (aF 3 (eC (.int 0)))
 (aD (aF 4 (eC (.int 1)))
 (aD (sWhile (eB (aW oLtT (aA 4) (aA 1))) (aD (sSetIx (aA 0) (eC (.int 1)) (aW oMod (aW aP (aW oMulI (aW oIx (aA 0) (eC (.int 1))) (eC (.int 48271))) (eC (.int 7919))) (eC (.int 2147483647))))
 (aD (aF 3 (aW aP (aW oMulI (aA 3) (eC (.int 1073741789))) (aW oMod (aW oMulI (aW oFdiv (aW oIx (aA 0) (eC (.int 1))) (eC (.int 8))) (eC (.int 69621))) (eC (.int 1073741789)))))
 (aF 4 (aW oMulI (aA 4) (eC (.int 1073741789)))))))
 (sRet (aW oMod (aA 3) (aA 1)))))))
def zpf:DFn:=fnD 2 2 (sIf (eB (aW (oDIn false) (aA 1) (aA 0))) (sDrop (eDPop (aA 0) (aA 1))) (sDPut (aA 0) (aA 1) (eC (.bl true))))
def zfo:SS:=(sDPut (aA 1) (aA 2) (eNot (eDGet2 (aA 1) (aA 2) (eC (.bl false)))))
def zbr:DFn:=fnD 3 1 (aD (aF 1 eDNew)
 (aD (sFor (aH (aA 0)) (gN 2) zfo)
 (sRet (aE bTuple (aB (aE bSorted (aB (aG (iDict (aA 1)) 1 [1] (gN 0) (eTru (aW oDGet (aA 1) (aA 0))) (aA 0)) aC)) aC)))))
def zfe:SS:=(aD (aF 5 (aE zbq (aB (aA 0) (aB (aW aP (aW oFdiv (aA 3) (aW oSub (aW oShl (eC (.int 2)) (aA 4)) (eC (.int 1)))) (eC (.int 1))) aC))))
 (aD (aF 3 (aW oSub (aA 3) (aW oMulI (aA 5) (aW oSub (aW oShl (eC (.int 2)) (aA 4)) (eC (.int 1))))))
 (sDrop (eAppend (aA 2) (aB (aA 5) aC)))))
def zfd:SS:=(sDrop (ePopZ (aA 2) (aB (eC (.int 0)) aC)))
def zca:DFn:=fnD 6 2 (aD (aF 2 (eLstM aC))
 (aD (aF 3 (aA 1))
 (aD (sFor (iRD (aB (eC (.int 3)) (aB (eUn oNeg (eC (.int 1))) (aB (eUn oNeg (eC (.int 1))) aC)))) (gN 4) zfe)
 (aD (sWhile (bAnd (eB (aW oGt (aE bLen (aB (aA 2) aC)) (eC (.int 0)))) (eB (aW oEq (aW oIx (aA 2) (eC (.int 0))) (eC (.int 0))))) zfd)
 (sRet (aE bTuple (aB (eBack (aA 2) (eUn oNeg (eC (.int 1)))) aC)))))))
def zbf:DFn:=fnD 3 3 (sRet (aE zbr (aB (aG (iR1 (aB (aE zbq (aB (aA 0) (aB (aW aP (aA 1) (eC (.int 1))) aC))) aC)) 1 [0,2] (gN 0) aI (aE zca (aB (aA 1) (aB (aA 2) aC)))) aC)))
def zbb:SS:=(sDrop (ePop (aA 1)))
def zbk:DFn:=fnD 2 1 (aD (aF 1 (aE bListM (aB (aA 0) aC)))
 (aD (sWhile (bAnd (eTru (aA 1)) (eB (aW oEq (aW oIx (aA 1) (eUn oNeg (eC (.int 1)))) (eC (.int 0))))) zbb)
 (sRet (aE bTuple (aB (aA 1) aC)))))
def zgb:SS:=(aD (sAug 1 (oI (fun _ _=>True) fun i j=>.int (i+j)) (aW oMulI (aA 2) (aA 3)))
 (aF 2 (aW aP (aW oMulI (eC (.int 2)) (aA 2)) (eC (.int 1)))))
def zcq:DFn:=fnD 4 1 (aD (aF 1 (eC (.int 0)))
 (aD (aF 2 (eC (.int 1)))
 (aD (sFor (aH (aA 0)) (gN 3) zgb)
 (sRet (aA 1)))))
def zp:DFn:=fnD 1 1 (sRet (aE bSum (aB (aG (iR1 (aB (aE bLen (aB (aA 0) aC)) aC)) 1 [0] (gN 0) aI (aW oMulI (aW oIx (aA 1) (aA 0)) (aW oSub (aW oShl (eC (.int 2)) (aA 0)) (eC (.int 1))))) aC)))
def zdg:DFn:=fnD 3 3 (sRet (aW aP (aW aP (eSl (aA 0) pNone (pSome (aA 1))) (aV (aB (aW aP (aW oIx (aA 0) (aA 1)) (aA 2)) aC))) (eSl (aA 0) (pSome (aW aP (aA 1) (eC (.int 1)))) pNone)))
def zcn:SS:=(sIf (eB (aW oEq (aW oAndI (aW oIx (aA 5) (aA 3)) (aA 8)) (eC (.int 0)))) (sDrop (eAppend (aA 4) (aB (aV (aB (aE zdg (aB (aA 5) (aB (aA 3) (aB (aA 8) aC)))) (aB (aE zdg (aB (aA 6) (aB (aW oSub (aA 2) (eC (.int 1))) (aB (eUn oNeg (aA 8)) aC)))) (aB (aW oSub (aA 7) (aW oShl (aA 8) (aA 2))) aC)))) aC))) sNx)
def zea:SS:=(sFor (iR1 (aB (aW aP (aE bMin2 (aB (aW oIx (aA 6) (aW oSub (aA 2) (eC (.int 1)))) (aB (aW oShr (aA 7) (aA 2)) aC))) (eC (.int 1))) aC)) (gN 8) zcn)
def zce:DFn:=fnD 9 3 (aD (aF 3 (aW oSub (aW aP (aA 1) (aA 2)) (eC (.int 1))))
 (aD (aF 4 (eLstM aC))
 (aD (sFor (aH (aA 0)) (gT 3 (gsCons (gN 5) (gsCons (gN 6) (gsCons (gN 7) gsNil)))) zea)
 (sRet (eFz (aA 4))))))
def zep:SS:=(aF 4 (aE zce (aB (aA 4) (aB (aA 1) (aB (aA 5) aC)))))
def zeo:SS:=(sIf (eB (aW oEq (aW oAndI (aW oIx (aA 7) (aW oSub (aA 1) (eC (.int 1)))) (aA 9)) (eC (.int 0)))) (sDrop (eAppend (aA 6) (aB (aV (aB (aE zdg (aB (aA 7) (aB (aW oSub (aA 1) (eC (.int 1))) (aB (aA 9) aC)))) (aB (aA 8) aC))) aC))) sNx)
def zck:DFn:=fnD 10 4 (aD (aF 4 (aG (aH (aA 0)) 2 [2] (gT 2 (gsCons (gN 0) (gsCons (gN 1) gsNil))) aI (aV (aB (aA 0) (aB (aA 1) (aB (aA 2) aC))))))
 (aD (sFor (iR2 (aB (eC (.int 1)) (aB (aW aP (aA 3) (eC (.int 1))) aC))) (gN 5) zep)
 (aD (aF 6 (eLstM aC))
 (aD (sFor (aH (aA 4)) (gT 3 (gsCons (gN 7) (gsCons (gN 8) (gsCons (gN 9) gsNil)))) zeo)
 (sRet (eFz (aA 6)))))))
def zez:SS:=(aD (aF 4 (aW aP (aA 3) (aW oMulT (aV (aB (eC (.int 0)) aC)) (aW oSub (aE bLen (aB (aA 2) aC)) (aE bLen (aB (aA 3) aC))))))
 (sIf (eTru (aE (bAny true) (aB (aG (iZipT (aB (aA 2) (aB (aA 4) aC))) 2 [] (gT 2 (gsCons (gN 0) (gsCons (gN 1) gsNil))) aI (aW oEq (aW oAndI (aA 0) (aA 1)) (eC (.int 0)))) aC))) (sDrop (eAppend (aA 1) (aB (aE bTuple (aB (aG (iZipT (aB (aA 2) (aB (aA 4) aC))) 2 [] (gT 2 (gsCons (gN 0) (gsCons (gN 1) gsNil))) aI (aW aP (aA 0) (aA 1))) aC)) aC))) sNx))
def zcw:DFn:=fnD 5 1 (aD (aF 1 (eLstM aC))
 (aD (sFor (aH (aA 0)) (gT 2 (gsCons (gN 2) (gsCons (gN 3) gsNil))) zez)
 (sRet (eFz (aA 1)))))
def zdf:SS:=(aF 2 (aE zck (aB (aA 2) (aB (aA 3) (aB (aA 4) (aB (aE bLen (aB (aA 1) aC)) aC))))))
def zbp:DFn:=fnD 5 2 (aD (aF 2 (eLst (aB (aV (aB (aW oMulT (aV (aB (eC (.int 0)) aC)) (aW aP (aE bLen (aB (aA 0) aC)) (aE bLen (aB (aA 1) aC)))) (aB (aA 1) aC))) aC)))
 (aD (sFor (iEnum (aA 0)) (gT 2 (gsCons (gN 3) (gsCons (gN 4) gsNil))) zdf)
 (sRet (aG (aH (aE zcw (aB (aA 2) aC))) 1 [] (gN 0) aI (aE zbk (aB (aA 0) aC))))))
def zli:SS:=(sDrop (aE zpf (aB (aA 2) (aB (aA 5) aC))))
def zha:SS:=(aD (sIf (eB (aW oGt (aW oAndI (aA 4) (aA 5)) (eC (.int 0)))) (sRet (eC .non)) sNx)
 (aF 4 (aW oOrI (aA 4) (aA 5))))
def zgz:SS:=(aD (aF 3 (aG (iR1 (aB (eC (.int 5)) aC)) 1 [0,2] (gN 0) (eB (eChain oLe oLtT (eC (.int 0)) (aW oSub (aA 2) (aA 0)) (eC (.int 5)))) (aW oIx (aW oIx (aA 1) (aA 0)) (aW oSub (aA 2) (aA 0)))))
 (aD (aF 4 (eC (.int 0)))
 (aD (sFor (aH (aA 3)) (gN 5) zha)
 (sDrop (eAppend (aA 1) (aB (aE bSum (aB (aA 3) aC)) aC))))))
def zeq:DFn:=fnD 6 1 (aD (aF 1 (eLstM aC))
 (aD (sFor (iR2 (aB (eC (.int 1)) (aB (eC (.int 9)) aC))) (gN 2) zgz)
 (aD (sWhile (bAnd (eB (aW oGt (aE bLen (aB (aA 1) aC)) (eC (.int 0)))) (eB (aW oEq (aW oIx (aA 1) (eUn oNeg (eC (.int 1)))) (eC (.int 0))))) zbb)
 (sRet (aE bTuple (aB (aA 1) aC))))))
def zgf:SS:=(sDrop (eAppend (aA 4) (aB (aV (aB (aW oSub (aA 5) (aW oShl (aA 7) (aA 3))) (aB (aW aP (aA 6) (aV (aB (aA 7) aC))) aC))) aC)))
def zge:SS:=(sFor (iR1 (aB (aW aP (aE bMin2 (aB (aW oIx (aA 1) (aW oSub (aA 3) (eC (.int 1)))) (aB (aW oShr (aA 5) (aA 3)) aC))) (eC (.int 1))) aC)) (gN 7) zgf)
def zgd:SS:=(aD (aF 4 (eLstM aC))
 (aD (sFor (aH (aA 2)) (gT 2 (gsCons (gN 5) (gsCons (gN 6) gsNil))) zge)
 (aF 2 (eFz (aA 4)))))
def zdo:DFn:=fnD 8 2 (aD (aF 2 (eLst (aB (aV (aB (aA 0) (aB (aV aC) aC))) aC)))
 (aD (sFor (iR2 (aB (eC (.int 1)) (aB (eC (.int 5)) aC))) (gN 3) zgd)
 (sRet (aG (aH (aA 2)) 2 [] (gT 2 (gsCons (gN 0) (gsCons (gN 1) gsNil))) aI (aW aP (aV (aB (aA 0) aC)) (aA 1))))))
def zfc:SS:=(aD (aF 8 (aE bTuple (aB (aG (iR1 (aB (eC (.int 4)) aC)) 1 [6,7] (gN 0) aI (aW oSub (aW oIx (aA 1) (aA 0)) (aW oIx (aA 2) (aW aP (aA 0) (eC (.int 1)))))) aC)))
 (sDrop (eAppend (aA 4) (aB (aV (aB (aW aP (aA 5) (aV (aB (aA 7) aC))) (aB (aA 8) aC))) aC))))
def zfb:SS:=(sFor (aH (aE zdo (aB (aA 3) (aB (aA 6) aC)))) (gN 7) zfc)
def zfa:SS:=(aD (aF 4 (eLstM aC))
 (aD (sFor (aH (aA 2)) (gT 2 (gsCons (gN 5) (gsCons (gN 6) gsNil))) zfb)
 (aF 2 (eFz (aA 4)))))
def zcz:DFn:=fnD 9 2 (aD (aF 2 (eLst (aB (aV (aB (aV aC) (aB (aW aP (aE bTuple (aB (aA 1) aC)) (aW oMulT (aV (aB (eC (.int 0)) aC)) (aW oSub (eC (.int 4)) (aE bLen (aB (aA 1) aC))))) aC))) aC)))
 (aD (sFor (aH (aW aP (aE bTuple (aB (aA 0) aC)) (aW oMulT (aV (aB (eC (.int 0)) aC)) (aW oSub (eC (.int 4)) (aE bLen (aB (aA 0) aC)))))) (gN 3) zfa)
 (sRet (aG (aH (aA 2)) 2 [] (gT 2 (gsCons (gN 0) (gsCons (gN 1) gsNil))) aI (aW aP (aV (aB (aW aP (aV (aB (eC (.int 0)) aC)) (aA 1)) aC)) (aA 0))))))
def zcx:SS:=(sDrop (eExtend (aA 2) (aB (aG (aH (aG (aH (aE zcz (aB (aA 3) (aB (aA 4) aC)))) 1 [] (gN 0) aI (aE zeq (aB (aA 0) aC)))) 1 [] (gN 0) (eB (aW (oIsN true) (aA 0) (eC .non))) (aA 0)) aC)))
def zgc:SS:=(sFor (aH (aA 1)) (gN 4) zcx)
def zcy:DFn:=fnD 5 2 (aD (aF 2 (eLstM aC))
 (aD (sFor (aH (aA 0)) (gN 3) zgc)
 (sRet (aE zbr (aB (eFz (aA 2)) aC)))))
def zik:SS:=(aD (sIf (noX (eB (aW oGt (aW aP (aE zcq (aB (aA 3) aC)) (aE zcq (aB (aA 4) aC))) (eC (.int 16))))) (sRaise "TooMany" (noX (aB (eC (.str "counts are multiplied where they raise by at most sixteen together")) aC))) (noX sNx))
 (noX (sFor (aH (aE zbp (aB (aA 3) (aB (aA 4) aC)))) (gN 5) zli)))
def zij:SS:=(sFor (noX (aH (aA 1))) (gN 4) zik)
def zen:DFn:=fnD 6 2 (aD (noX (aF 2 eDNew))
 (aD (sFor (noX (aH (aA 0))) (gN 3) zij)
 (noX (sRet (aE bTuple (aB (aE bSorted (aB (aA 2) aC)) aC))))))
def zbj:(Store->Res D)->SS:=fun g=>(aD (sTry 3 ["TooMany"] (sDrop fun _=>g) (aD (sIf (bNot (eTru (eIsB 3 [("TooMany", true)]))) (sRet (eC (.str "another"))) sNx)
 (aD (aF 1 (eLst (aB (eIsB 3 [("TooMany", false)]) (aB (eIsB 3 [("TooMany", false)]) (aB (eIsB 3 [("TooMany", true)]) (aB (eIsB 3 [("TooMany", false)]) aC))))))
 (aD (aF 2 (eLst (aB (eIsB 3 [("TooMany", false)]) (aB (eIsB 3 [("TooMany", false)]) (aB (eIsB 3 [("TooMany", false)]) (aB (eIsB 3 [("TooMany", false)]) aC))))))
 (aD (aF 2 (aW aP (aA 2) (eLst (aB (eIsB 3 [("TooMany", false)]) (aB (eIsB 3 [("TooMany", false)]) (aB (eIsB 3 [("TooMany", false)]) aC))))))
 (aD (aF 2 (aW aP (aA 2) (eLst (aB (eIsB 3 [("TooMany", false)]) (aB (eIsB 3 [("TooMany", false)]) aC)))))
 (aD (sIf (bOr (eTru (aE (bAny false) (aB (aA 2) aC))) (eB (aW oNe (eCountB (aA 1) (aB (eC (.bl true)) aC)) (eC (.int 1))))) (sRet (eC (.str "another"))) sNx)
 (sRet (aW oIx (eLst (aB (eC (.str "exchange")) (aB (eC (.str "row")) (aB (eC (.str "many")) (aB (eC (.str "part")) aC))))) (eIndexB (aA 1) (aB (eC (.bl true)) aC)))))))))))
 (sRet (eC (.str ""))))
def zbh:(Store->Res D)->DFn:=fun g=>fnD 4 1 (zbj g)
def zsg:SS:=(aD (aF 2 (aE zeu (aB (aA 0) (aB (aA 1) aC))))
 (aD (aF 3 (aE zbq (aB (aA 2) (aB (eC (.int 17)) aC))))
 (aD (aF 4 (aE bListM (aB (aE zbf (aB (aA 2) (aB (eC (.int 4)) (aB (aA 3) aC)))) aC)))
 (aD (aF 5 (aE bListM (aB (aE zbf (aB (aA 2) (aB (eC (.int 2)) (aB (aW oSub (eC (.int 16)) (aA 3)) aC)))) aC)))
 (aD (aF 6 (aE zbq (aB (aA 2) (aB (eC (.int 4)) aC))))
 (aD (sIf (eB (aW oEq (aA 6) (eC (.int 0)))) (aD (sDrop (eAppend (aA 4) (aB (aV (aB (aW oSub (aW aP (aA 3) (eC (.int 1))) (aE bInt (aB (aW oEq (aA 3) (eC (.int 16))) aC))) aC)) aC)))
 (sDrop (eAppend (aA 5) (aB (eSl (aV (aB (aW oSub (eC (.int 16)) (aA 3)) aC)) pNone (pSome (aW oSub (eC (.int 16)) (aA 3)))) aC)))) sNx)
 (aD (sIf (eB (aW oEq (aA 6) (eC (.int 1)))) (sDrop (eAppend (aA 5) (aB (aE zca (aB (aA 2) (aB (eC (.int 16)) aC))) aC))) sNx)
 (aD (aF 4 (aE zbr (aB (eFz (aA 4)) aC)))
 (aD (aF 5 (aE zbr (aB (eFz (aA 5)) aC)))
 (aD (aF 7 (aE (bMaxD (-40)) (aB (aG (aH (aA 4)) 1 [] (gN 0) aI (aE zp (aB (aA 0) aC))) aC)))
 (aD (aF 7 (aW aP (aA 7) (aE (bMaxD (-40)) (aB (aG (aH (aA 5)) 1 [] (gN 0) aI (aE zp (aB (aA 0) aC))) aC))))
 (aD (aF 8 (aW oIx (eLst (aB (eC (.str "")) (aB (eC (.str "many")) aC))) (aE bInt (aB (aW oGt (aA 7) (eC (.int 16))) aC))))
 (aD (sIf (eB (aW oNe (eRefd zbh [4,5] (aE zen (noX (aB (aA 0) (aB (aA 1) aC))))) (aA 8))) (sRet (eC (.bl false))) sNx)
 (aD (sIf (eB (aW oNe (eRefd zbh [5,4] (aE zen (noX (aB (aA 0) (aB (aA 1) aC))))) (aA 8))) (sRet (eC (.bl false))) sNx)
 (sIf (bAnd (eB (aW oEq (aA 8) (eC (.str "")))) (bAnd (eB (aW oLtT (aA 1) (eC (.int 4)))) (eB (aW oNe (aE zen (aB (aA 4) (aB (aA 5) aC))) (aE zcy (aB (aA 4) (aB (aA 5) aC))))))) (sRet (eC (.bl false))) sNx)))))))))))))))
def zbld:DFn:=fnD 9 1 (aD (sFor (iR1 (aB (aW aP (aE bMin2 (aB (aE bLen (aB (aA 0) aC)) (aB (eC (.int 16)) aC))) (eC (.int 3))) aC)) (gN 1) zsg)
 (sRet (eC (.bl true))))
def RngOk (j:Int):Prop:=-(2 ^ 62)<=j/\j < 2 ^ 62
instance (j:Int):Decidable (RngOk j):=by unfold RngOk;infer_instance
theorem rngOk {j:Int}(h1:-1000000000000<=j)(h2:j<=1000000000000):RngOk j:=⟨by lia,by lia⟩
section
variable {σ:DS}{st:Store}
@[simp] theorem eC_v {d:D}:eC d σ st=.ok d st:=rfl
@[simp] theorem zbiw {i:Nat}:aA i σ st=(match σ[i]? with
 | some (some d)=>.ok d st
 | _=>.stuck):=rfl
@[simp] theorem zbng {g:D->D->Store->Res D} {f f':SE}:aW g f f' σ st=(f σ st).bind fun x st1=>(f' σ st1).bind fun y st2=>g x y st2:=rfl
@[simp] theorem zbod {g:D->Store->Res D} {f:SE}:eUn g f σ st=(f σ st).bind fun x st1=>g x st1:=rfl
@[simp] theorem zvz {g:List D->Store->Res D} {f:SA}:aE g f σ st=(f σ st).bind fun xs st1=>g xs st1:=rfl
@[simp] theorem zblb:aC σ st=.ok [] st:=rfl
@[simp] theorem zsf {f:SE} {g:SA}:aB f g σ st=(f σ st).bind fun x st1=>(g σ st1).bind fun xs st2=>.ok (x::xs) st2:=rfl
@[simp] theorem eB_v {f:SE}:eB f σ st=(f σ st).bind fun v st1=>(match v with
 | .bl b=>.ok b st1
 | _=>.stuck):=rfl
@[simp] theorem zbds {f:SE}:eTru f σ st=(f σ st).bind fun v st1=>(match tru st1 v with
 | some b=>.ok b st1
 | none=>.stuck):=rfl
@[simp] theorem zbiz {f f':SE}:eAnd f f' σ st=(f σ st).bind fun v st1=>(match v with
 | .bl true=>f' σ st1
 | .bl false=>.ok (.bl false) st1
 | _=>.stuck):=rfl
@[simp] theorem zbnf {f f':SE}:eOr f f' σ st=(f σ st).bind fun v st1=>(match v with
 | .bl true=>.ok (.bl true) st1
 | .bl false=>f' σ st1
 | _=>.stuck):=rfl
@[simp] theorem zbdt {f:SE}:eNot f σ st=(f σ st).bind fun v st1=>(match v with
 | .bl b=>.ok (.bl (!b)) st1
 | _=>.stuck):=rfl
@[simp] theorem zbkz {f f':ST}:bAnd f f' σ st=(f σ st).bind fun b st1=>if b=true then f' σ st1 else .ok false st1:=rfl
@[simp] theorem zbnz {f f':ST}:bOr f f' σ st=(f σ st).bind fun b st1=>if b=true then .ok true st1 else f' σ st1:=rfl
@[simp] theorem zboa {f:ST}:bNot f σ st=(f σ st).bind fun b st1=>.ok (!b) st1:=rfl
@[simp] theorem zbny:aI σ st=.ok true st:=rfl
@[simp] theorem zbnh {c:ST} {f f':SE}:eIf c f f' σ st=(c σ st).bind fun b st1=>if b=true then f σ st1 else f' σ st1:=rfl
@[simp] theorem zbix {g:SA}:aV g σ st=(g σ st).bind fun xs st1=>if xs.length<=sizeLine then .ok (.tup xs) st1 else .stuck:=rfl
@[simp] theorem zbiy {g:SA}:eLst g σ st=(g σ st).bind fun xs st1=>if xs.length<=sizeLine then .ok (.lst xs) st1 else .stuck:=rfl
@[simp] theorem zbdu {g:SA}:eLstM g σ st=(g σ st).bind fun xs st1=>if xs.length<=sizeLine then .ok (.ref st1.length) (st1++[.lst xs]) else .stuck:=rfl
@[simp] theorem zyv {g g':D->D->Store->Res D} {f f' f'':SE}:eChain g g' f f' f'' σ st=(f σ st).bind fun x st1=>(f' σ st1).bind fun y st2=>(g x y st2).bind fun z st3=>(match z with
 | .bl true=>(f'' σ st3).bind fun w st4=>g' y w st4
 | .bl false=>.ok (.bl false) st3
 | _=>.stuck):=rfl
@[simp] theorem zbly:eDNew σ st=.ok (.ref st.length) (st++[.dT []]):=rfl
@[simp] theorem zboc:sNx σ st=.ok (.nx σ) st:=rfl
@[simp] theorem zbmi:sBrk σ st=.ok (.brk σ) st:=rfl
@[simp] theorem zbgv {f:SE}:sRet f σ st=(f σ st).bind fun v st1=>.ok (.ret v) st1:=rfl
@[simp] theorem zbli:sRetN σ st=.ok (.ret .non) st:=rfl
@[simp] theorem zblj {f:SE}:sDrop f σ st=(f σ st).bind fun _ st1=>.ok (.nx σ) st1:=rfl
@[simp] theorem zbmf {i:Nat} {f:SE}:aF i f σ st=(f σ st).bind fun v st1=>.ok (.nx (σ.set i (some v))) st1:=rfl
@[simp] theorem zbgu {s t:SS}:aD s t σ st=(match s σ st with
 | .ok (.nx σ1) st1=>t σ1 st1
 | r=>r):=rfl
@[simp] theorem zbmg {c:ST} {s t:SS}:sIf c s t σ st=(c σ st).bind fun b st1=>if b=true then s σ st1 else t σ st1:=rfl
@[simp] theorem zbgx {i:Nat} {g:D->D->Store->Res D} {f:SE}:sAug i g f σ st=(match σ[i]? with
 | some (some x)=>(f σ st).bind fun y st1=>(g x y st1).bind fun z st2=>.ok (.nx (σ.set i (some z))) st2
 | _=>.stuck):=rfl
@[simp] theorem zbmh {it:SA} {bd:SG} {body:SS}:sFor it bd body σ st=(it σ st).bind fun xs st1=>forF bd body xs σ st1:=rfl
@[simp] theorem zbir {f:SE}:aH f σ st=(f σ st).bind fun x st1=>(match seqV x with
 | some xs=>.ok xs st1
 | none=>.stuck):=rfl
@[simp] theorem zbnb {g:SA}:iR1 g σ st=(g σ st).bind fun xs st1=>(match xs with
 | [.int j]=>if RngOk j then .ok (rng 0 j.toNat) st1 else .stuck
 | _=>.stuck):=rfl
@[simp] theorem zbna {g:SA}:iR2 g σ st=(g σ st).bind fun xs st1=>(match xs with
  | [.int i, .int j]=>if RngOk i/\RngOk j then .ok (rng i (j - i).toNat) st1 else .stuck
  | _=>.stuck):=by
  show(g σ st).bind _=_
  congr 1
  funext xs st1
  split
  · unfold RngOk
    simp only[and_assoc]
  · rename_i h
    first
      | rfl
      | (split
         · rename_i i j
           exact absurd rfl (h i j)
         · rfl)
@[simp] theorem zbls {f:SE}:iDict f σ st=(f σ st).bind fun x st1=>(match x with
 | .ref n=>(match st1[n]? with
  | some (.dT kvs)=>.ok (aJ (kvs.map (·.1))) (st1.set n (.fT kvs))
  | _=>.stuck)
 | _=>.stuck):=rfl
@[simp] theorem zvy {it:SA} {k:Nat} {is:List Nat} {bd:SG} {c:ST} {f:SE}:aG it k is bd c f σ st=(it σ st).bind fun xs st1=>if xs.length<=sizeLine then(compF bd c f xs (aX k is σ) st1).bind fun ys st2=>.ok (.lst ys) st2 else .stuck:=rfl
@[simp] theorem zbni {f:SE}:eFz f σ st=(f σ st).bind fun x st1=>(match x with
 | .ref n=>(match st1[n]? with
  | some (.lst xs)=>.ok (.lst xs) (st1.set n .dead)
  | _=>.stuck)
 | _=>.stuck):=rfl
@[simp] theorem zblq:pNone σ st=.ok none st:=rfl
@[simp] theorem zbcd {f:SE}:pSome f σ st=(f σ st).bind fun v st1=>(match v with
 | .int i=>.ok (some i) st1
 | _=>.stuck):=rfl
@[simp] theorem zbne {f:SE} {lo hi:DS->Store->Res (Option Int)}:eSl f lo hi σ st=(f σ st).bind fun x st1=>(lo σ st1).bind fun l st2=>(hi σ st2).bind fun h st3=>(match x with
 | .tup xs=>.ok (.tup (cutD xs l h)) st3
 | x=>match asL st3 x with
  | some xs=>.ok (.lst (cutD xs l h)) st3
  | none=>.stuck):=rfl
@[simp] theorem zui {f:SE} {g:SA}:eAppend f g σ st=(f σ st).bind fun x st1=>(match x,asL st1 x with
 | .ref n,some _=>(g σ st1).bind fun ys st2=>(match ys,st2[n]? with
  | [y],some (.lst xs)=>if xs.length < sizeLine then .ok .non (st2.set n (.lst (xs++[y]))) else .stuck
  | _,_=>.stuck)
 | _,_=>.stuck):=rfl
@[simp] theorem zuh {f:SE} {g:SA}:eExtend f g σ st=(f σ st).bind fun x st1=>(match x,asL st1 x with
 | .ref n,some _=>(g σ st1).bind fun ys st2=>(match ys,st2[n]? with
  | [y],some (.lst xs)=>(match asL st2 y with
   | some zs=>if xs.length+zs.length<=sizeLine then .ok .non (st2.set n (.lst (xs++zs))) else .stuck
   | none=>.stuck)
  | _,_=>.stuck)
 | _,_=>.stuck):=rfl
@[simp] theorem zwx {f g h:SE}:sSetIx f g h σ st=(h σ st).bind fun v st1=>(f σ st1).bind fun x st2=>(g σ st2).bind fun y st3=>(match x,y with
 | .ref n,.int k=>(match st3[n]? with
  | some (.lst xs)=>(match ixN xs.length k with
   | some j=>.ok (.nx σ) (st3.set n (.lst (xs.set j v)))
   | none=>.stuck)
  | _=>.stuck)
 | _,_=>.stuck):=rfl
@[simp] theorem zyu {f g h:SE}:eDGet2 f g h σ st=(f σ st).bind fun x st1=>(match pairsOf st1 x with
 | some _=>(g σ st1).bind fun y st2=>(h σ st2).bind fun z st3=>(match pairsOf st3 x,keyOf y with
  | some kvs,some k=>.ok ((valD kvs k).getD z) st3
  | _,_=>.stuck)
 | none=>.stuck):=rfl
@[simp] theorem zblx {f g:SE}:eDPop f g σ st=(f σ st).bind fun x st1=>(match pairsOf st1 x with
 | some _=>(g σ st1).bind fun y st2=>(match x,keyOf y with
  | .ref n,some k=>(match st2[n]? with
   | some (.dT kvs)=>(match valD kvs k with
    | some v=>.ok v (st2.set n (.dT (dropD kvs k)))
    | none=>.stuck)
   | _=>.stuck)
  | _,_=>.stuck)
 | none=>.stuck):=rfl
@[simp] theorem zbaz {f g h:SE}:sDPut f g h σ st=(h σ st).bind fun v st1=>(f σ st1).bind fun x st2=>(g σ st2).bind fun y st3=>(match x,keyOf y with
 | .ref n,some k=>(match st3[n]? with
  | some (.dT kvs)=>if kvs.length < sizeLine then .ok (.nx σ) (st3.set n (.dT (putD kvs k v))) else .stuck
  | _=>.stuck)
 | _,_=>.stuck):=rfl
theorem zblw {n np:Nat}{b:SS}{ds:List D}:fnD n np b ds st=if ds.length=np then(match b (ds.map some++List.replicate (n - np) none) st with
 | .ok (.ret v) st'=>.ok v st'
 | .ok (.nx _) st'=>.ok .non st'
 | .exc x st'=>.exc x st'
 | _=>.stuck) else .stuck:=rfl
end
section
variable {st:Store}{i j:Int}
@[simp] theorem oI_v {C:Int->Int->Prop} [DecidableRel C] {h:Int->Int->D}:oI C h (.int i) (.int j) st=if C i j then .ok (h i j) st else .stuck:=rfl
@[simp] theorem zbmy:aP (.int i) (.int j) st=.ok (.int (i+j)) st:=rfl
@[simp] theorem zbib {a b:List D}:aP (.tup a) (.tup b) st=if a.length+b.length<=sizeLine then .ok (.tup (a++b)) st else .stuck:=rfl
@[simp] theorem zbmv:oLtT (.int i) (.int j) st=.ok (.bl (decide (i < j))) st:=rfl
@[simp] theorem zbmt:oNeg (.int i) st=.ok (.int (-i)) st:=rfl
@[simp] theorem zem (ns:List Int):asInts (ns.map .int)=some ns:=by
 induction ns with
 | nil=>rfl
 | cons n ns ih=>rw[xbp,asInts,ih];rfl
@[simp] theorem zbfv (l:List (List Int)):asRows (aJ l)=some l:=by
 induction l with
 | nil=>rfl
 | cons n ns ih =>
  unfold aJ at ih ⊢;rw[xbp,asRows,zem,ih];rfl
@[simp] theorem zfw (ns:List Int):keyOf (aM ns)=some ns:=zem ns
theorem zjz:dataOf st (.int i)=some (.int i):=rfl
@[simp] theorem zbmx:oEq (.int i) (.int j) st=.ok (.bl (decide (i=j))) st:=by
 show oEqG false (.int i) (.int j) st=_;unfold oEqG;rw[zjz,zjz];dsimp only;rw[if_pos ⟨rfl,rfl⟩];show Res.ok (D.bl (i==j)) st=_;rw[show(i==j)=decide (i=j) from by rw[xgb];simp]
@[simp] theorem zbmu:oNe (.int i) (.int j) st=.ok (.bl (!decide (i=j))) st:=by
 show oEqG true (.int i) (.int j) st=_;unfold oEqG;rw[zjz,zjz];dsimp only;rw[if_pos ⟨rfl,rfl⟩];show Res.ok (D.bl (!(i==j))) st=_;rw[show(i==j)=decide (i=j) from by rw[xgb];simp]
theorem zup (ns:List Int):toDatas (ns.map .int)=some (dI ns):=by
 induction ns with
 | nil=>rfl
 | cons n ns ih=>rw[xbp,toDatas,ih];rfl
theorem zuo (l:List (List Int)):toDatas (aJ l)=some (l.map dRow):=by
 induction l with
 | nil=>rfl
 | cons n ns ih =>
  unfold aJ at ih ⊢;rw[xbp,toDatas,ih,toData,zup];rfl
abbrev aK (l:List (List Int)):D:=.tup (aJ l)
theorem zrl (l:List (List Int)):dataOf st (aK l)=some (.tuple (l.map dRow)):=by
 show(toDatas (aJ l)).map PyData.tuple=_;rw[zuo];rfl
theorem zbcn {neg:Bool}(a b:List (List Int)):oEqG neg (aK a) (aK b) st=.ok (.bl (if neg then !decide (a=b) else decide (a=b))) st:=by
 unfold oEqG;rw[zrl,zrl];dsimp only;rw[if_pos ⟨zie a,zie b⟩];have e:PyData.eqv (.tuple (a.map dRow)) (.tuple (b.map dRow))=decide (a=b):=zoe a b;rw[e]
theorem small (n:Nat)(h:n<=1000000):n<=sizeLine:=by rw[xiu];lia
theorem smallT (n:Nat)(h:n<=1000000):n < sizeLine:=by rw[xiu];lia
end
theorem zvx {bd:SG}{body:SS}(I:Nat->DS->Store->Prop):∀(xs:List D) (k:Nat) (σ:DS) (st:Store),I k σ st ->
  (∀i x σ st,xs[i]?=some x->I (k+i) σ st->∃σ1 σ2 st2,bd x σ=some σ1/\body σ1 st=.ok (.nx σ2) st2/\I (k+i+1) σ2 st2)->∃σ' st',forF bd body xs σ st=.ok (.nx σ') st'/\I (k+xs.length) σ' st'
 | [],k,σ,st,h,_=>⟨σ,st,rfl,h⟩
 | x::xs,k,σ,st,h,s=>by
  obtain⟨σ1,σ2,st2,e1,e2,h2⟩:=s 0 x σ st rfl h;obtain⟨σ',st',e3,h3⟩:=zvx I xs (k+1) σ2 st2 h2 fun i y σ st hy hi=>by
   have:=s (i+1) y σ st (by simpa using hy) (by rw[show k+(i+1)=k+1+i by lia];exact hi);rw[show k+(i+1)+1=k+1+i+1 by lia] at this;exact this
  refine⟨σ',st',?_,by rw[xbx,show k+(xs.length+1)=k+1+xs.length by lia];exact h3⟩;unfold forF;rw[e1];dsimp only;rw[e2];exact e3
theorem zbdm {bd:SG}{body:SS}(I:Nat->DS->Store->Prop){xs:List D}{σ:DS}{st:Store}(h0:I 0 σ st)
  (s:∀i x σ st,xs[i]?=some x->I i σ st->∃σ1 σ2 st2,bd x σ=some σ1/\body σ1 st=.ok (.nx σ2) st2/\I (i+1) σ2 st2):∃σ' st',forF bd body xs σ st=.ok (.nx σ') st'/\I xs.length σ' st':=by
 have:=zvx I xs 0 σ st h0 fun i x σ st hx hi=>by
  rw[xdx] at hi ⊢;exact s i x σ st hx hi
 rw[xdx] at this;exact this
theorem zbgz {lo:Int}{n i:Nat}{x:D}(h:(rng lo n)[i]?=some x):i < n/\x=.int (lo+i):=zix h
theorem zdk (lo:Int)(n:Nat):(rng lo n).length=n:=by simp[rng]
theorem zmn {bd:SG}{c:ST}{f:SE}(I:Nat->List D->DS->Store->Prop):∀(xs:List D) (k:Nat) (acc:List D) (σ:DS) (st:Store),I k acc σ st ->
  (∀i x acc σ st,xs[i]?=some x->I (k+i) acc σ st->∃σ1 b st1,bd x σ=some σ1/\c σ1 st=.ok b st1/\((b=false/\I (k+i+1) acc σ1 st1)\/(b=true/\∃y st2,f σ1 st1=.ok y st2/\I (k+i+1) (acc++[y]) σ1 st2))) ->
  ∃ys σ' st',compF bd c f xs σ st=.ok ys st'/\I (k+xs.length) (acc++ys) σ' st'
 | [],k,acc,σ,st,h,_=>⟨[],σ,st,rfl,by rw[xeg];exact h⟩
 | x::xs,k,acc,σ,st,h,s=>by
  have s':∀i y acc σ st,xs[i]?=some y->I (k+1+i) acc σ st->∃σ1 b st1,bd y σ=some σ1/\c σ1 st=.ok b st1/\((b=false/\I (k+1+i+1) acc σ1 st1)\/(b=true/\∃z st2,f σ1 st1=.ok z st2/\I (k+1+i+1) (acc++[z]) σ1 st2)):=fun i y acc σ st hy hi=>by
   have:=s (i+1) y acc σ st (by simpa using hy) (by rw[show k+(i+1)=k+1+i by lia];exact hi);rw[show k+(i+1)+1=k+1+i+1 by lia] at this;exact this
  obtain⟨σ1,b,st1,e1,e2,h2⟩:=s 0 x acc σ st rfl h;rcases h2 with⟨rfl,h2⟩ | ⟨rfl,y,st2,e3,h2⟩
  ·obtain⟨ys,σ',st',e4,h3⟩:=zmn I xs (k+1) acc σ1 st1 h2 s';refine⟨ys,σ',st',?_,by rw[xbx,show k+(xs.length+1)=k+1+xs.length by lia];exact h3⟩;unfold compF;rw[e1];dsimp only;rw[e2];exact e4
  ·obtain⟨ys,σ',st',e4,h3⟩:=zmn I xs (k+1) (acc++[y]) σ1 st2 h2 s';refine⟨y::ys,σ',st',?_,by rw[xbx,show k+(xs.length+1)=k+1+xs.length by lia];rw[xbr] at h3;exact h3⟩;unfold compF;rw[e1];dsimp only;rw[e2];dsimp only[zel];rw[if_pos rfl,e3];dsimp only[zel];rw[e4]
   rfl
theorem zbfd {bd:SG}{c:ST}{f:SE}(I:Nat->List D->DS->Store->Prop){xs:List D}{σ:DS}{st:Store}(h0:I 0 [] σ st)
  (s:∀i x acc σ st,xs[i]?=some x->I i acc σ st->∃σ1 b st1,bd x σ=some σ1/\c σ1 st=.ok b st1/\((b=false/\I (i+1) acc σ1 st1)\/(b=true/\∃y st2,f σ1 st1=.ok y st2/\I (i+1) (acc++[y]) σ1 st2))) :
  ∃ys σ' st',compF bd c f xs σ st=.ok ys st'/\I xs.length ys σ' st':=by
 have:=zmn I xs 0 [] σ st h0 fun i x acc σ st hx hi=>by
  rw[xdx] at hi ⊢;exact s i x acc σ st hx hi
 rw[xdx] at this
 simpa using this
theorem zsj {c:ST}{body:SS}(I:Nat->DS->Store->Prop)(post:DS->Store->Prop){σ:DS}{st:Store}{k:Nat}(h0:I k σ st)(hm:k < wCap)
  (s:∀j σ st,I j σ st->∃b st1,c σ st=.ok b st1/\((b=false/\post σ st1)\/(b=true/\∃i σ2 st2,body σ st1=.ok (.nx σ2) st2/\I i σ2 st2/\i < j))):∃σ' st',sWhile c body σ st=.ok (.nx σ') st'/\post σ' st':=by
 have main:∀n j σ st,I j σ st->j < n->∃σ' st',whileF c body n σ st=.ok (.nx σ') st'/\post σ' st':=by
  intro n
  induction n with
  | zero=>intro j σ st _ h;lia
  | succ n ih =>
   intro j σ st hI hlt;obtain⟨b,st1,e1,h⟩:=s j σ st hI;unfold whileF;rw[e1];dsimp only[zel];rcases h with⟨rfl,h⟩ | ⟨rfl,i,σ2,st2,e2,h2,h3⟩
   ·exact⟨σ,st1,by rw[if_neg (by decide)],h⟩
   ·obtain⟨σ',st',e3,h4⟩:=ih i σ2 st2 h2 (by lia);refine⟨σ',st',?_,h4⟩;rw[if_pos rfl,e2];exact e3
 exact main wCap k σ st h0 hm
section
variable {st:Store}{n:Nat}{xs:List D}{i:Int}
@[simp] theorem zbfw:seqOf st (.tup xs)=some xs:=rfl
@[simp] theorem zbfx:seqOf st (.scr xs)=some xs:=rfl
@[simp] theorem zbfy:seqOf st (.lst xs)=some xs:=rfl
@[simp] theorem zbgr:seqV (.tup xs)=some xs:=rfl
@[simp] theorem zbgt:seqV (.lst xs)=some xs:=rfl
@[simp] theorem zbgs:seqV (.scr xs)=some xs:=rfl
@[simp] theorem zbma:asL st (.lst xs)=some xs:=rfl
theorem zih (h:st[n]?=some (.lst xs)):asL st (.ref n)=some xs:=by
 unfold asL;dsimp only;rw[h]
theorem zdq (h:st[n]?=some (.lst xs)):seqOf st (.ref n)=some xs:=zih h
theorem zir {x:D}{d:D}(h:seqOf st x=some xs)(h2:L2.atI xs i=some d):oIx x (.int i) st=.ok d st:=by
 unfold oIx;rw[h];dsimp only;rw[h2]
theorem zwk {x:D}(h:seqOf st x=some xs):bLen [x] st=.ok (.int xs.length) st:=by
 unfold bLen;dsimp only;rw[h]
@[simp] theorem zbkw:bLen [.tup xs] st=.ok (.int xs.length) st:=rfl
@[simp] theorem zbky:bLen [.lst xs] st=.ok (.int xs.length) st:=rfl
@[simp] theorem zbkx:bLen [.scr xs] st=.ok (.int xs.length) st:=rfl
@[simp] theorem zbob:bAbs [.int i] st=.ok (.int (if i < 0 then -i else i)) st:=rfl
@[simp] theorem zboe {g:Int->Int->Int} {j:Int}:b2I g [.int i,.int j] st=.ok (.int (g i j)) st:=rfl
@[simp] theorem zbkv {ns:List Int}:bSum [aM ns] st=.ok (.int ns.sum) st:=by
 unfold bSum;simp
@[simp] theorem zbfq:bTuple [.tup xs] st=.ok (.tup xs) st:=rfl
@[simp] theorem zrz:bTuple [.lst xs] st=.ok (.tup xs) st:=rfl
theorem zlf (h:st[n]?=some (.lst xs)):bTuple [.ref n] st=.ok (.tup xs) st:=by
 unfold bTuple;dsimp only;rw[zih h]
theorem zmp {l:List (List Int)}(h:l.length<=1000000):bSorted [.lst (aJ l)] st=.ok (.lst (aJ (sortR l))) st:=by
 unfold bSorted;simp[h]
theorem zmq {kvs:List (List Int×D)}(h:st[n]?=some (.dT kvs))(hl:kvs.length<=1000000):bSorted [.ref n] st=.ok (.lst (aJ (sortR (kvs.map (·.1))))) st:=by
 unfold bSorted asL pairsOf;simp[h,hl]
theorem zsa {j:Nat}{d:D}(h:xs[j]?=some d):L2.atI xs (j:Int)=some d:=zon h
theorem zkh {o:O}(h:n < st.length):(st.set n o)[n]?=some o:=xds h
theorem zbc {o:O}(h:st[n]?=some o):n < st.length:=(xbo.mp h).1
theorem zbgq {o:O}(h:st[n]?=some o):st.set n o=st:=by
 apply xlf;intro i;by_cases e:i=n
 ·subst e;rw[xds (zbc h),h]
 ·rw[xcf (xct e)]
end
theorem zrb {n np:Nat}{b:SS}{ds:List D}{st st':Store}{v:D}(h:ds.length=np)(e:b (ds.map some++List.replicate (n - np) none) st=.ok (.ret v) st'):fnD n np b ds st=.ok v st':=by
 rw[zblw,if_pos h,e]
theorem zblv {n np:Nat}{b:SS}{ds:List D}{st st':Store}{σ:DS}(h:ds.length=np)(e:b (ds.map some++List.replicate (n - np) none) st=.ok (.nx σ) st'):fnD n np b ds st=.ok .non st':=by
 rw[zblw,if_pos h,e]
abbrev bagO (c x:Int):O:=.lst [.int c,.int x]
def BagAt (st:Store) (n:Nat):Prop:=∃c x:Int,st[n]?=some (bagO c x)/\0<=c/\0<=x
structure Drew (st st':Store) (n:Nat):Prop where
 len:st.length<=st'.length
 keep:∀ i, i < st.length->i≠n->st'[i]?=st[i]?
 bag:BagAt st' n
theorem Drew.trans {st st1 st2:Store}{n:Nat}(a:Drew st st1 n)(b:Drew st1 st2 n):Drew st st2 n :=
 ⟨xbc a.len b.len,fun i h1 h2=>(b.keep i (xbh h1 a.len) h2).trans (a.keep i h1 h2),b.bag⟩
theorem Drew.set {st:Store}{n:Nat}{c x:Int}(h:BagAt st n)(hc:0<=c)(hx:0<=x):Drew st (st.set n (bagO c x)) n:=by
 obtain⟨_,_,e,_⟩:=h;exact⟨by rw[xey];exact xbf _,fun i _ h2=>xcf (xct h2),c,x,zkh (zbc e),hc,hx⟩
theorem Drew.more {st:Store}{n:Nat}(h:BagAt st n)(g:Store):Drew st (st++g) n:=by
 obtain⟨c,x,e,h1,h2⟩:=h;exact⟨by rw[xbs];lia,fun i h _=>xcd h,c,x,by rw[xcd (zbc e)];exact e,h1,h2⟩
theorem zbas {st:Store}{n:Nat}{m:Int}(hb:BagAt st n)(h1:1<=m)(h2:m < 2 ^ 1000) :
  ∃r st',zbq [.ref n,.int m] st=.ok (.int r) st'/\0<=r/\r < m/\Drew st st' n/\st'.length=st.length:=by
 obtain⟨c,x,hn,hc,hx⟩:=id hb;have s0:∀{c x:Int} {st:Store},st[n]?=some (bagO c x)->oIx (.ref n) (.int 0) st=.ok (.int c) st:=fun h=>zir (zdq h) rfl
 have s1:∀{c x:Int} {st:Store},st[n]?=some (bagO c x)->oIx (.ref n) (.int 1) st=.ok (.int x) st:=fun h=>zir (zdq h) rfl
 by_cases h0:0 < c
 ·have d1:CDivP c m:=⟨by lia,h2⟩
  have e0:ixN 2 0=some 0:=rfl;refine⟨c % m,st.set n (bagO (c / m) x),zrb rfl ?_,xjc _ (by lia),Int.emod_lt_of_pos _ (by lia),Drew.set hb (Int.ediv_nonneg hc (by lia)) hx,xey⟩;simp[s0 hn,h0,hn,e0,show(0:Int) < m by lia,d1]
 ·have hlen:=zbc hn
  have W:=zsj (c:=eB (aW oLtT (aA 4) (aA 1))) (body:=aD (sSetIx (aA 0) (eC (.int 1)) (aW oMod (aW aP (aW oMulI (aW oIx (aA 0) (eC (.int 1))) (eC (.int 48271))) (eC (.int 7919))) (eC (.int 2147483647))))
   (aD (aF 3 (aW aP (aW oMulI (aA 3) (eC (.int 1073741789))) (aW oMod (aW oMulI (aW oFdiv (aW oIx (aA 0) (eC (.int 1))) (eC (.int 8))) (eC (.int 69621))) (eC (.int 1073741789)))))
   (aF 4 (aW oMulI (aA 4) (eC (.int 1073741789)))))) (k:=1000) (σ:=[some (.ref n),some (.int m),none,some (.int 0),some (.int 1)]) (st:=st)
   (fun j σ s=>∃c' x' nn rr:Int,σ=[some (.ref n),some (.int m),none,some (.int nn),some (.int rr)]/\s=st.set n (bagO c' x')/\0<=c'/\0<=x'/\0<=nn/\j<=1000/\2 ^ (1000 - j)<=rr)
   (fun σ s=>∃c' x' nn:Int,(∃rr,σ=[some (.ref n),some (.int m),none,some (.int nn),some (.int rr)])/\s=st.set n (bagO c' x')/\0<=c'/\0<=x'/\0<=nn)
   ⟨c,x,0,1,rfl,(zbgq hn).symm,hc,hx,by lia,by lia,by decide⟩ (by decide) (by
    rintro j σ s ⟨c',x',nn,rr,rfl,rfl,a1,a2,a3,a4,a5⟩;have g1:(st.set n (bagO c' x'))[n]?=some (bagO c' x'):=zkh hlen;by_cases hlt:rr < m
    ·have hj:1<=j:=by
      rcases xky j with z | z
      ·subst z;have a5':(2:Int) ^ 1000<=rr:=a5;lia
      ·exact z
     have e1:ixN 2 1=some 1:=rfl;have m1:CMul x' 48271:=.inr ⟨by decide,by decide⟩;have m2:CMul nn 1073741789:=.inr ⟨by decide,by decide⟩;have m3:CMul rr 1073741789:=.inr ⟨by decide,by decide⟩;have g2:∀y:Int,(st.set n (bagO c' y))[n]?=some (bagO c' y):=fun y=>zkh hlen
     have m4:∀y:Int,CMul y 69621:=fun y=>.inr ⟨by decide,by decide⟩
     have d8:∀y:Int,CDivP y 8:=fun y=>⟨by decide,by decide +kernel⟩
     refine⟨true,st.set n (bagO c' x'),by simp[hlt],.inr ⟨rfl,j - 1,_,st.set n (bagO c' ((x' * 48271+7919) % 2147483647)),?_,⟨c',(x' * 48271+7919) % 2147483647,nn * 1073741789+(x' * 48271+7919) % 2147483647 / 8 * 69621 % 1073741789,rr * 1073741789,rfl,rfl,a1,?_,?_,by lia,?_⟩,by lia⟩⟩
     ·simp[s1 g1,g1,e1,m1,m2,m3,m4,d8,s1 (g2 _)]
     ·exact xjc _ (by lia)
     ·have a1:0<=nn * 1073741789:=Int.mul_nonneg a3 (by lia);have a2:=xjc ((x' * 48271+7919) % 2147483647 / 8 * 69621) (show(1073741789:Int)≠0 by lia);lia
     ·have e:(2:Int) ^ (1000 - (j - 1))=2 ^ (1000 - j) * 2:=by
       rw[← Int.pow_succ];congr 1;lia
      rw[e];have hp:(0:Int)<=2 ^ (1000 - j):=Int.pow_nonneg (by decide);lia
    ·exact⟨false,_,by simp[hlt],.inl ⟨rfl,c',x',nn,⟨rr,rfl⟩,rfl,a1,a2,a3⟩⟩)
  obtain⟨σ',st',e,c',x',nn,hσ,hst,k1,k2,k3⟩:=W;obtain⟨rr,rfl⟩:=hσ;subst hst;refine⟨nn % m,st.set n (bagO c' x'),zrb rfl ?_,xjc _ (by lia),Int.emod_lt_of_pos _ (by lia),Drew.set hb k1 k2,xey⟩;simp[s0 hn,h0,e,show(0:Int) < m by lia]
theorem zlg {ns:List Int}{j:Nat}(h:j < ns.length):L2.atI (ns.map D.int) (j:Int)=some (.int ns[j]):=zon (by rw[xcc,xbg h];rfl)
theorem zbku {st:Store}{ns:List Int}{i:Nat}(hl:ns.length<=63)(hi:i<=100000):∃c x:Int,0<=c/\0<=x/\zeu [.scr (ns.map .int),.int i] st=.ok (.ref st.length) (st++[bagO c x]):=by
 have cell:∃c:Int,0<=c/\sIf (eB (aW oLtT (aA 1) (aE bLen (aB (aA 0) aC)))) (aF 2 (aE bAbs (aB (aW oIx (aA 0) (aA 1)) aC))) sNx [some (.scr (ns.map .int)),some (.int i),some (.int 0),none,none] st
   = .ok (.nx [some (.scr (ns.map .int)),some (.int i),some (.int c),none,none]) st:=by
  by_cases h:i < ns.length
  ·have e:oIx (.scr (ns.map .int)) (.int i) st=.ok (.int ns[i]) st:=zir rfl (zlg h);refine⟨if ns[i] < 0 then -ns[i] else ns[i],by split<;>lia,?_⟩;simp[h,e]
  ·exact⟨0,by lia,by simp[h]⟩
 obtain⟨c,hc,ec⟩:=cell;have hmin:(if(60:Int) < (ns.length:Int) then(60:Int) else ns.length).toNat<=ns.length:=by split<;>lia
 have W:=zbdm (bd:=gN 4) (body:=aF 3 (aW oMod (aW aP (aW aP (aW oMulI (aA 3) (eC (.int 48271))) (aW oMod (aW oIx (aA 0) (aA 4)) (eC (.int 2147483647)))) (aA 4)) (eC (.int 2147483629))))
  (xs:=rng 0 (if(60:Int) < (ns.length:Int) then(60:Int) else ns.length).toNat) (σ:=[some (.scr (ns.map .int)),some (.int i),some (.int c),some (.int (7919 * i+17)),none]) (st:=st)
  (fun j σ s=>s=st/\∃(mix:Int) (v:Option D),σ=[some (.scr (ns.map .int)),some (.int i),some (.int c),some (.int mix),v]/\0<=mix) ⟨rfl,_,none,rfl,by lia⟩ (by
   rintro j x σ s hx ⟨rfl,mix,v,rfl,hm⟩;obtain⟨hj,rfl⟩:=zbgz hx;have hj2:j < ns.length:=by lia
   have e:oIx (.scr (ns.map .int)) (.int (0+j)) s=.ok (.int ns[j]) s:=zir rfl (by rw[xkm];exact zlg hj2);rw[xkm] at e;have m1:CMul mix 48271:=.inr ⟨by decide,by decide⟩;refine⟨_,[some (.scr (ns.map .int)),some (.int i),some (.int c),some (.int ((mix * 48271+ns[j] % 2147483647+j) % 2147483629)),some (.int (0+j))],s,rfl,?_,rfl,_,_,rfl,xjc _ (by lia)⟩
   simp[e,m1])
 obtain⟨σ',st',e,rfl,mix,v,rfl,hm⟩:=W;have m0:CMul 7919 (i:Int):=.inl ⟨by decide,by decide⟩;have p0:CPow 10 18:=⟨by decide,by decide,by decide⟩
 have hr:RngOk (if(60:Int) < (ns.length:Int) then(60:Int) else ns.length):=by
  split<;>exact rngOk (by lia) (by lia)
 by_cases hlt:c < 1000000000000000000
 ·refine⟨0,mix,by lia,hm,zrb rfl ?_⟩;have hs:=small 2 (by lia);simp at ec;simp[ec,m0,hr,e,p0,hlt,hs]
 ·refine⟨c,mix,hc,hm,zrb rfl ?_⟩;have hs:=small 2 (by lia);simp at ec;simp[ec,m0,hr,e,p0,hlt,hs]
theorem seqN {s t:SS}{σ σ1:DS}{st st1:Store}{r:Res Fl}(h:s σ st=.ok (.nx σ1) st1)(k:t σ1 st1=r):aD s t σ st=r:=by
 rw[zbgu,h];exact k
def aS (ks:List (List Int)) (k:List Int):List (List Int):=if k∈ks then ks.filter (fun x=>decide (x≠k)) else ks++[k]
def aQ (l:List (List Int)):List (List Int):=l.foldl aS []
theorem zhg {ks:List (List Int)}{k x:List Int}:x∈aS ks k↔(x∈ks/\x≠k)\/(x=k/\k∉ks):=by
 unfold aS;split
 ·rename_i h;simp[xiy,h]
 ·rename_i h;simp only[xce,xbl];constructor
  ·rintro(z | rfl)
   ·exact .inl ⟨z,fun e=>h (e ▸ z)⟩
   ·exact .inr ⟨rfl,h⟩
  ·rintro(⟨z,_⟩ | ⟨z,_⟩)
   ·exact .inl z
   ·exact .inr z
theorem zpc {ks:List (List Int)}{k:List Int}(h:ks.Nodup):(aS ks k).Nodup:=by
 unfold aS;split
 ·exact h.filter _
 ·rename_i hk;rw[List.nodup_append];exact⟨h,by simp,fun a ha b hb=>by simp at hb;subst hb;exact fun e=>hk (e ▸ ha)⟩
theorem zmi (ks:List (List Int))(k:List Int):(aS ks k).length<=ks.length+1:=by
 unfold aS;split
 ·exact xge (xkf _ _)
 ·simp
theorem zni:∀(l ks:List (List Int)),ks.Nodup->(l.foldl aS ks).Nodup/\(l.foldl aS ks).length<=ks.length+l.length/\∀x,x∈l.foldl aS ks↔(l.count x+if x∈ks then 1 else 0) % 2=1
 | [],ks,h=>⟨h,by simp,fun x=>by by_cases e:x∈ks<;>simp[e]⟩
 | a::l,ks,h=>by
  obtain⟨h1,h2,h3⟩:=zni l (aS ks a) (zpc h);refine⟨h1,?_,fun x=>?_⟩
  ·have:=zmi ks a;rw[xkl,xbx];lia
  ·rw[xkl,h3 x,List.count_cons];by_cases e:x=a
   ·subst e;by_cases k:x∈ks
    ·have q:x∉aS ks x:=by rw[zhg];simp[k]
     simp only[q,k,xfz,xes,xhj]<;>lia
    ·have q:x∈aS ks x:=by rw[zhg];simp[k]
     simp only[q,k,xfz,xes,xhj]<;>lia
   ·have e':(a==x)=false:=by simpa using fun z:a=x=>e z.symm
    by_cases k:x∈ks
    ·have q:x∈aS ks a:=by rw[zhg];simp[k,e]
     simp[q,k,e']
    ·have q:x∉aS ks a:=by rw[zhg];simp[k,e]
     simp[q,k,e']
theorem zkn (l:List (List Int)):(aQ l).Nodup:=(zni l [] xjm).1
theorem zes (l:List (List Int)):(aQ l).length<=l.length:=by have:=(zni l [] xjm).2.1;simpa [aQ] using this
theorem zme {l:List (List Int)}{x:List Int}:x∈aQ l↔l.count x % 2=1:=by have:=(zni l [] xjm).2.2 x;simpa [aQ] using this
theorem ziz {a b:List (List Int)}(h1:a.Nodup)(h2:b.Nodup)(h:∀x,x∈a↔x∈b):a.Perm b:=(List.perm_ext_iff_of_nodup h1 h2).mpr h
theorem zor {a b:List (List Int)}(h:a.Perm b):sortR a=sortR b:=zlr ((zed a).trans h) (zlq a)
def aR (l:List (List Int)):List (List Int):=sortR (aQ l)
theorem zbcl {l m:List (List Int)}(h1:m.Nodup)(h:∀x,x∈m↔l.count x % 2=1):sortR m=aR l:=zor (ziz h1 (zkn l) fun x=>by rw[h,zme])
theorem zya {l:List (List Int)}{x:List Int}:x∈aR l↔l.count x % 2=1:=by unfold aR;rw[(zed _).mem_iff,zme]
theorem zmd {l:List (List Int)}{x:List Int}(h:x∈aR l):x∈l:=by
 rw[zya] at h;rcases xky (l.count x) with z | z
 ·rw[z] at h;cases h
 ·exact List.count_pos_iff.mp z
theorem zgo (l:List (List Int)):(aR l).length<=l.length:=by unfold aR;rw[zls];exact zes l
abbrev aU (ks:List (List Int)):List (List Int×D):=ks.map fun k=>(k,.bl true)
theorem zmx {ks:List (List Int)}{k:List Int}:valD (aU ks) k=if k∈ks then some (.bl true) else none:=by
 induction ks with
 | nil=>rfl
 | cons a ks ih =>
  unfold valD aU at ih ⊢;rw[xbp,xez];by_cases e:a=k
  ·simp[e]
  ·simp only[xbt e];rw[ih];simp[xbu,show ¬ k=a from fun z=>e z.symm]
theorem zri {ks:List (List Int)}{k:List Int}:dropD (aU ks) k=aU (ks.filter fun x=>decide (x≠k)):=by
 unfold dropD aU;rw[List.filter_map]
 rfl
theorem ztc {ks:List (List Int)}{k:List Int}(h:k∉ks):putD (aU ks) k (.bl true)=aU (ks++[k]):=by
 unfold putD;rw[if_neg]
 ·simp[aU]
 ·simp only[List.any_map,xln,not_exists,not_and];intro x hx e;have:x=k:=by simpa using e
  exact h (this ▸ hx)
theorem zlx {st:Store}{n:Nat}{kvs:List (List Int×D)}(h:st[n]?=some (.dT kvs)):pairsOf st (.ref n)=some kvs:=by
 unfold pairsOf;dsimp only;rw[h]
theorem zxw {st:Store}{n:Nat}{kvs:List (List Int×D)}(h:st[n]?=some (.fT kvs)):pairsOf st (.ref n)=some kvs:=by
 unfold pairsOf;dsimp only;rw[h]
theorem zbco {st:Store}{n:Nat}{kvs:List (List Int×D)}{k:List Int}(h:pairsOf st (.ref n)=some kvs):oDIn false (aM k) (.ref n) st=.ok (.bl (valD kvs k).isSome) st:=by
 unfold oDIn;rw[zfw,h]
 rfl
theorem zyb {st:Store}{n:Nat}{kvs:List (List Int×D)}{k:List Int}{v:D}(h:pairsOf st (.ref n)=some kvs)(hv:valD kvs k=some v):oDGet (.ref n) (aM k) st=.ok v st:=by
 unfold oDGet;rw[zfw,h];dsimp only;rw[hv]
theorem zbdp {st:Store}{n:Nat}{ks:List (List Int)}{k:List Int}(h:st[n]?=some (.dT (aU ks)))(hl:ks.length<=1000000):zpf [.ref n,aM k] st=.ok .non (st.set n (.dT (aU (aS ks k)))):=by
 have e1:=zbco (k:=k) (zlx h);rw[zmx] at e1;by_cases hk:k∈ks
 ·refine zblv (σ:=[some (.ref n),some (aM k)]) rfl ?_;rw[if_pos hk] at e1;have e2:valD (aU ks) k=some (.bl true):=by rw[zmx,if_pos hk]
  have e3:aS ks k=ks.filter fun x=>decide (x≠k):=by unfold aS;rw[if_pos hk]
  rw[e3,← zri];have e4:=zlx h;have e5:=zfw k;simp only[aM,aU] at *
  simp[e1,e4,e5,h,e2]
 ·refine zblv (σ:=[some (.ref n),some (aM k)]) rfl ?_;rw[if_neg hk] at e1;have e3:aS ks k=ks++[k]:=by unfold aS;rw[if_neg hk]
  rw[e3,← ztc hk];have e5:=zfw k;have e6:(aU ks).length < sizeLine:=by rw[xbd];exact smallT _ hl
  simp only[aM,aU] at *
  simp[e1,e5,h,e6];rw[xbd] at e6;exact e6
theorem zer {l:List (List Int)}{i:Nat}{x:D}(h:(aJ l)[i]?=some x):∃k,l[i]?=some k/\x=aM k:=by
 unfold aJ at h;rw[xcc] at h;cases e:l[i]? with
 | none=>rw[e] at h;cases h
 | some k=>rw[e] at h;exact⟨k,rfl,(xby h).symm⟩
theorem zt (l:List (List Int)):(aJ l).length=l.length:=xbd _
theorem zbm {α:Type}{l:List α}{i:Nat}{k:α}(h:l[i]?=some k):l.take (i+1)=l.take i++[k]:=by
 obtain⟨hi,e⟩:=xbo.mp h;rw[xhf hi,e]
theorem zbez (xs:List D)(k:Nat):cutD xs none (some (k:Int))=xs.take k:=by
 unfold cutD;rw[HT.zpu,HT.zvl,List.drop_zero,Nat.sub_zero];rcases Nat.le_total k xs.length with h | h
 ·rw[xej h]
 ·rw[xik h,xda,xgq h]
theorem zzl (xs:List D)(k:Nat):cutD xs (some (k:Int)) none=xs.drop k:=by
 unfold cutD;rw[HT.zpu,HT.zvl];rcases Nat.le_total k xs.length with h | h
 ·rw[xej h,xgq (by rw[xhe];exact xbf _)]
 ·rw[xik h,xls,List.drop_of_length_le h];simp
theorem zop {st:Store}{n:Nat}{ks:List (List Int)}(h:st[n]?=some (.dT (aU ks)))(hl:ks.length<=1000000):bSorted [.ref n] st=.ok (.lst (aJ (sortR ks))) st:=by
 rw[zmq h (by rw[xbd];exact hl),xcw]
 congr 2
 exact congrArg (fun l=>aJ (sortR l)) (List.map_id ks)
end Dd
namespace K07
open PySem L2
end K07
namespace K23
open PySem L2 K07
end K23
namespace Dd
open PySem L2 K07 K23
def slowAt (r:List Int) (p:Nat):Prop:=∃a b:Int,r[p]?=some a/\r[p+1]?=some b/\a < 2 * b
instance (r:List Int) (p:Nat):Decidable (slowAt r p) :=
 match h1:r[p]?,h2:r[p+1]? with
 | some a,some b=>if h:a < 2 * b then .isTrue ⟨a,b,h1,h2,h⟩ else .isFalse fun⟨x,y,e1,e2,e3⟩=>by rw[h1] at e1;rw[h2] at e2;cases e1;cases e2;exact h e3
 | none,_=>.isFalse fun⟨x,y,e1,_⟩=>by rw[h1] at e1;cases e1
 | some _,none=>.isFalse fun⟨x,y,_,e2,_⟩=>by rw[h2] at e2;cases e2
structure CntG (f:Nat->D) (kvs:List (List Int×D)) (l:List (List Int)):Prop where
 nd:(kvs.map (·.1)).Nodup
 mem:∀k,k∈kvs.map (·.1)↔k∈l
 val:∀p∈kvs,p.2=f (l.count p.1)
 len:kvs.length<=l.length
theorem CntG.nil (f:Nat->D):CntG f [] []:=⟨xjm,fun k=>by simp,fun p h=>(by cases h),by simp⟩
theorem CntG.at {f:Nat->D}{kvs:List (List Int×D)}{l:List (List Int)}(h:CntG f kvs l)(k:List Int):valD kvs k=if k∈l then some (f (l.count k)) else none:=by
 have gen:∀kvs:List (List Int×D),(∀p∈kvs,p.2=f (l.count p.1))->valD kvs k=if k∈kvs.map (·.1) then some (f (l.count k)) else none:=by
  intro kvs
  induction kvs with
  | nil=>intro _;rfl
  | cons a kvs ih =>
   intro hv;have ih:=ih fun p hp=>hv p (xcq _ hp)
   unfold valD at ih ⊢;rw[xez];by_cases e:a.1=k
   ·have:=hv a xcm;simp only[e,xhd,Option.map_some,xbp,xbu,true_or,xfz];rw[this,e]
   ·simp only[xbt e];rw[ih];simp only[xbp,xbu,show ¬ k=a.1 from fun z=>e z.symm,false_or]
 rw[gen kvs h.val];simp only[h.mem]
theorem CntG.put {f:Nat->D}{kvs:List (List Int×D)}{l:List (List Int)}(h:CntG f kvs l)(k:List Int):CntG f (putD kvs k (f (l.count k+1))) (l++[k]):=by
 have any:(kvs.any fun kv=>decide (kv.1=k))=decide (k∈l):=by
  rw[xgb,xll,← h.mem,xln,xdt];constructor
  ·rintro⟨x,hx,e⟩;exact⟨x,hx,by simpa using e⟩
  ·rintro⟨p,hp,e⟩;exact⟨p,hp,by simpa using e⟩
 unfold putD;rw[any];by_cases hk:k∈l
 ·rw[if_pos (by simpa using hk)];have keys:(kvs.map fun kv=>if kv.1=k then(kv.1,f (l.count k+1)) else kv).map (·.1)=kvs.map (·.1):=by
   rw[xcw]
   congr 1
   funext p
   dsimp only[Function.comp];split<;>rfl
  refine⟨by rw[keys];exact h.nd,fun x=>?_,fun p hp=>?_,?_⟩
  ·rw[keys,h.mem,xce,xbl];exact⟨.inl,fun z=>z.elim id fun e=>e ▸ hk⟩
  ·obtain⟨q,hq,rfl⟩:=xdt.mp hp;have:=h.val q hq;by_cases e:q.1=k
   ·rw[if_pos e];dsimp only;rw[e,xjt];simp
   ·rw[if_neg e,this,xjt];have:List.count q.1 [k]=0:=by rw[xjj];simpa using e
    rw[this];rfl
  ·rw[xbd,xbs];have:=h.len;lia
 ·rw[if_neg (by simpa using hk)];refine⟨?_,fun x=>?_,fun p hp=>?_,?_⟩
  ·rw[xdr,List.nodup_append];refine⟨h.nd,by simp,fun a ha b hb=>?_⟩;simp at hb;subst hb;exact fun e=>hk ((h.mem _).mp (e ▸ ha))
  ·rw[xdr,xce,h.mem,xce];simp
  ·rcases xce.mp hp with hp | hp
   ·have e1:=h.val p hp;have e2:p.1≠k:=fun e=>hk ((h.mem _).mp (e ▸ xdt.mpr ⟨p,hp,rfl⟩))
    rw[e1,xjt];have:List.count p.1 [k]=0:=by rw[xjj];simpa using e2
    rw[this];rfl
   ·simp at hp;subst hp;rw[xjt,xjj.mpr hk];simp
  ·rw[xbs,xbs];have:=h.len;simp;exact this
def oddB (n:Nat):D:=.bl (decide (n % 2=1))
theorem ztn (n:Nat):oddB (n+1)=.bl (!decide (n % 2=1)):=by
 unfold oddB
 congr 1
 by_cases h:n % 2=1
 ·rw[xcv h,xbt (by lia)];rfl
 ·rw[xbt h,xcv (by lia)];rfl
theorem zpa {st:Store}{x:D}{l:List (List Int)}(hx:seqV x=some (aJ l))(hl:l.length<=1000000)(ho:(aQ l).length<=1000000):∃g,zbr [x] st=.ok (aK (aR l)) (st++g):=by
 have W:=zbdm (bd:=gN 2) (body:=zfo) (xs:=aJ l) (σ:=[some x,some (.ref st.length),none]) (st:=st++[.dT []])
  (fun i σ s=>∃(v:Option D) (kvs:List (List Int×D)),σ=[some x,some (.ref st.length),v]/\s=st++[.dT kvs]/\CntG oddB kvs (l.take i)) ⟨none,[],rfl,rfl,CntG.nil _⟩ (by
   rintro i y σ s hy ⟨v,kvs,rfl,rfl,hc⟩;obtain⟨k,hk,rfl⟩:=zer hy;have hc':=hc.put k;have hn:(st++[O.dT kvs])[st.length]?=some (.dT kvs):=by simp
   have e2:(valD kvs k).getD (.bl false)=.bl (decide ((l.take i).count k % 2=1)):=by
    rw[hc.at];split
    ·rfl
    ·rename_i z;rw[xjj.mpr z];rfl
   have e3:=zfw k;have e4:=zlx hn;have e5:kvs.length < sizeLine:=by
    have h1:=hc.len;have h2:(l.take i).length<=l.length:=by rw[xdw];exact xfr _ _
    exact smallT _ (by lia)
   refine⟨[some x,some (.ref st.length),some (aM k)],[some x,some (.ref st.length),some (aM k)],st++[.dT (putD kvs k (oddB ((l.take i).count k+1)))],rfl,?_,some (aM k),_,rfl,rfl,by rw[zbm hk];exact hc'⟩;rw[ztn];unfold zfo;simp only[aM] at *
   simp only[zbaz,zbdt,zyu,zbiw,eC_v,xgj,List.getElem?_cons_zero,zel,e4,e3,e2,hn,e5,xfz]
   simp)
 obtain⟨σ',st',e,v,kvs,rfl,rfl,hc⟩:=W;rw[zt,xda] at hc;have V:=zbfd (bd:=gN 0) (c:=eTru (aW oDGet (aA 1) (aA 0))) (f:=aA 0) (xs:=aJ (kvs.map (·.1))) (σ:=[none,some (.ref st.length)]) (st:=st++[.fT kvs])
  (fun i acc σ s=>s=st++[.fT kvs]/\(∃w:Option D,σ=[w,some (.ref st.length)])/\acc=aJ (((kvs.map (·.1)).take i).filter fun k=>decide (l.count k % 2=1))) ⟨rfl,⟨none,rfl⟩,rfl⟩ (by
   rintro i y acc σ s hy ⟨rfl,⟨w,rfl⟩,rfl⟩;obtain⟨k,hk,rfl⟩:=zer hy;have hn:(st++[O.fT kvs])[st.length]?=some (.fT kvs):=by simp
   have hkl:k∈l:=(hc.mem k).mp (xch hk);have e2:valD kvs k=some (oddB (l.count k)):=by rw[hc.at,if_pos hkl]
   have e3:oDGet (.ref st.length) (aM k) (st++[O.fT kvs])=.ok (oddB (l.count k)) _:=zyb (zxw hn) e2;refine⟨[some (aM k),some (.ref st.length)],decide (l.count k % 2=1),st++[.fT kvs],rfl,?_,?_⟩
   ·rw[zbds];show((oDGet (.ref st.length) (aM k) (st++[O.fT kvs])).bind _)=_;rw[e3]
    rfl
   ·by_cases ho:l.count k % 2=1
    ·refine .inr ⟨xcv ho,aM k,_,rfl,rfl,⟨_,rfl⟩,?_⟩;rw[zbm hk,xjk];simp[ho,aJ]
    ·refine .inl ⟨xbt ho,rfl,⟨_,rfl⟩,?_⟩;rw[zbm hk,xjk]
     simp[ho,aJ])
 obtain⟨ys,σ2,st2,e2,rfl,⟨w,rfl⟩,rfl⟩:=V;rw[zt,xda] at e2;refine⟨[.fT kvs],zrb rfl ?_⟩;have nd:((kvs.map (·.1)).filter fun k=>decide (l.count k % 2=1)).Nodup:=hc.nd.filter _;have mm:∀k,k∈((kvs.map (·.1)).filter fun k=>decide (l.count k % 2=1))↔l.count k % 2=1:=fun k=>by
  rw[xiy,hc.mem,xll];refine⟨fun h=>h.2,fun h=>⟨?_,h⟩⟩;rcases xky (l.count k) with z | z
  ·rw[z] at h;cases h
  ·exact List.count_pos_iff.mp z
 have e5:sortR ((kvs.map (·.1)).filter fun k=>decide (l.count k % 2=1))=aR l:=zbcl nd mm;have few:((kvs.map (·.1)).filter fun k=>decide (l.count k % 2=1)).length<=1000000:=by
  have p:=ziz nd (zkn l) fun k=>by rw[mm,zme]
  rw[p.length_eq];exact ho
 have e6:=zmp (st:=st++[.fT kvs]) few;rw[e5] at e6;have hlen:(aJ (kvs.map (·.1))).length<=sizeLine:=by
  rw[zt,xbd];exact small _ (by have:=hc.len;lia)
 refine seqN (σ1:=[some x,some (.ref st.length),none]) (st1:=st++[.dT []]) (by simp) ?_;refine seqN (σ1:=[some x,some (.ref st.length),v]) (st1:=st++[.dT kvs]) (by simp[hx,e]) ?_;have e7:aG (iDict (aA 1)) 1 [1] (gN 0) (eTru (aW oDGet (aA 1) (aA 0))) (aA 0) [some x,some (.ref st.length),v] (st++[.dT kvs])=.ok (.lst (aJ ((kvs.map (·.1)).filter fun k=>decide (l.count k % 2=1)))) (st++[.fT kvs]):=by
  rw[zvy];have e8:iDict (aA 1) [some x,some (.ref st.length),v] (st++[.dT kvs])=.ok (aJ (kvs.map (·.1))) (st++[.fT kvs]):=by
   simp
  rw[e8,zel,if_pos hlen];show(compF _ _ _ _ [none,some (.ref st.length)] _).bind _=_;rw[e2]
  rfl
 rw[zbgv,zvz,zsf,zvz,zsf,e7];simp only[zel,zblb,e6,zrz]
theorem rngN {j:Int}(h1:-10000<=j)(h2:j<=10000):RngOk j:=rngOk (by lia) (by lia)
theorem Drew.over {st s:Store}{n k:Nat}{o:O}(d:Drew st s n)(hn:n < st.length)(hk:st.length<=k):Drew st (s.set k o) n:=by
 obtain⟨c,x,eb,c0,x0⟩:=d.bag;exact⟨by rw[xey];exact d.len,fun i h1 h2=>by rw[xcf (by lia)];exact d.keep i h1 h2,c,x,by rw[xcf (by lia)];exact eb,c0,x0⟩
theorem zsb (xs:List D)(y:D):L2.atI (xs++[y]) (-1)=some y:=by
 unfold L2.atI ixN;rw[xbs];have e:((-1:Int)+((xs.length+[y].length:Nat):Int)).toNat=xs.length:=by simp;lia
 rw[if_neg (by lia),if_pos (by simp;lia),e];simp
end Dd
namespace Dd
open PySem L2
def WP {α:Type} (r:Res α) (Q:α->Store->Prop):Prop:=match r with
 | .ok a st=>Q a st
 | _=>False
theorem WP.get {α:Type}{r:Res α}{Q:α->Store->Prop}(h:WP r Q):∃a st,r=.ok a st/\Q a st:=by
 cases r with
 | ok a st=>exact⟨a,st,rfl,h⟩
 | exc x st=>exact h.elim
 | stuck=>exact h.elim
theorem WP.of {α:Type}{r:Res α}{Q:α->Store->Prop}{a:α}{st:Store}(e:r=.ok a st)(h:Q a st):WP r Q:=by rw[e];exact h
theorem WP.mono {α:Type}{r:Res α}{Q Q':α->Store->Prop}(h:WP r Q)(k:∀a st,Q a st->Q' a st):WP r Q':=by
 obtain⟨a,st,rfl,q⟩:=h.get;exact k a st q
theorem zk {α β:Type}{r:Res α}{f:α->Store->Res β}{Q:β->Store->Prop}:WP (r.bind f) Q=WP r (fun a st=>WP (f a st) Q):=by
 cases r<;>rfl
def seqK (t:SS) (Q:Fl->Store->Prop):Fl->Store->Prop:=fun fl st=>match fl with
 | .nx σ=>WP (t σ st) Q
 | fl=>Q fl st
theorem zpi {s t:SS}{σ:DS}{st:Store}{Q:Fl->Store->Prop}:WP (aD s t σ st) Q=WP (s σ st) (seqK t Q):=by
 unfold aD;cases s σ st with
 | ok fl st1=>cases fl<;>rfl
 | exc x st=>rfl
 | stuck=>rfl
theorem zsh {α:Type}{c:Prop}[Decidable c]{a b:Res α}{Q:α->Store->Prop}:WP (if c then a else b) Q=if c then WP a Q else WP b Q:=by
 split<;>rfl
theorem zlk {α:Type}{c:Prop}[Decidable c]{a:Res α}{Q:α->Store->Prop}:WP (if c then a else .stuck) Q=(c/\WP a Q):=by
 by_cases h:c
 ·rw[if_pos h];simp[h]
 ·rw[if_neg h];simp[h,WP]
def retK (Q:D->Store->Prop):Fl->Store->Prop:=fun fl st=>match fl with
 | .ret v=>Q v st
 | .nx _=>Q .non st
 | _=>False
theorem zll {n np:Nat}{b:SS}{ds:List D}{st:Store}{Q:D->Store->Prop}(h:ds.length=np)(k:WP (b (ds.map some++List.replicate (n - np) none) st) (retK Q)):WP (fnD n np b ds st) Q:=by
 obtain⟨fl,st',e,q⟩:=k.get;unfold fnD;rw[if_pos h,e];cases fl<;>first | exact q | exact q.elim
def bK (Q:Bool->Store->Prop):D->Store->Prop:=fun v st=>match v with
 | .bl b=>Q b st
 | _=>False
def gK (bd:SG) (Q:Fl->Store->Prop) (σ:DS):D->Store->Prop:=fun v st=>match bd v σ with
 | some σ1=>Q (.nx σ1) st
 | none=>False
theorem W:(∀{α:Type} {a:α} {st:Store} {Q:α->Store->Prop},WP (.ok a st) Q=Q a st)
 /\ (∀{s t:SS} {σ:DS} {st:Store} {Q:Fl->Store->Prop},WP (aD s t σ st) Q=WP (s σ st) (seqK t Q))
 /\ (∀{t:SS} {σ:DS} {st:Store} {Q:Fl->Store->Prop},seqK t Q (.nx σ) st=WP (t σ st) Q)
 /\ (∀{t:SS} {v:D} {st:Store} {Q:Fl->Store->Prop},seqK t Q (.ret v) st=Q (.ret v) st)
 /\ (∀{t:SS} {σ:DS} {st:Store} {Q:Fl->Store->Prop},seqK t Q (.brk σ) st=Q (.brk σ) st)
 /\ (∀{t:SS} {σ:DS} {st:Store} {Q:Fl->Store->Prop},seqK t Q (.ct σ) st=Q (.ct σ) st)
 /\ (∀{v:D} {st:Store} {Q:D->Store->Prop},retK Q (.ret v) st=Q v st)
 /\ (∀{σ:DS} {st:Store} {Q:D->Store->Prop},retK Q (.nx σ) st=Q .non st)
 /\ (∀{b:Bool} {st:Store} {Q:Bool->Store->Prop},bK Q (.bl b) st=Q b st)
 /\ (∀{d:D} {σ:DS} {st:Store} {Q:D->Store->Prop},WP (eC d σ st) Q=Q d st)
 /\ (∀{g:D->D->Store->Res D} {f f':SE} {σ:DS} {st:Store} {Q:D->Store->Prop},WP (aW g f f' σ st) Q=WP (f σ st) (fun x st1=>WP (f' σ st1) (fun y st2=>WP (g x y st2) Q)))
 /\ (∀{g:D->Store->Res D} {f:SE} {σ:DS} {st:Store} {Q:D->Store->Prop},WP (eUn g f σ st) Q=WP (f σ st) (fun x st1=>WP (g x st1) Q))
 /\ (∀{g:List D->Store->Res D} {f:SA} {σ:DS} {st:Store} {Q:D->Store->Prop},WP (aE g f σ st) Q=WP (f σ st) (fun x st1=>WP (g x st1) Q))
 /\ (∀{σ:DS} {st:Store} {Q:List D->Store->Prop},WP (aC σ st) Q=Q [] st)
 /\ (∀{f:SE} {g:SA} {σ:DS} {st:Store} {Q:List D->Store->Prop},WP (aB f g σ st) Q=WP (f σ st) (fun x st1=>WP (g σ st1) (fun xs st2=>Q (x::xs) st2)))
 /\ (∀{f:SE} {σ:DS} {st:Store} {Q:Bool->Store->Prop},WP (eB f σ st) Q=WP (f σ st) (bK Q))
 /\ (∀{f f':ST} {σ:DS} {st:Store} {Q:Bool->Store->Prop},WP (bAnd f f' σ st) Q=WP (f σ st) (fun b st1=>if b=true then WP (f' σ st1) Q else Q false st1))
 /\ (∀{f f':ST} {σ:DS} {st:Store} {Q:Bool->Store->Prop},WP (bOr f f' σ st) Q=WP (f σ st) (fun b st1=>if b=true then Q true st1 else WP (f' σ st1) Q))
 /\ (∀{f:ST} {σ:DS} {st:Store} {Q:Bool->Store->Prop},WP (bNot f σ st) Q=WP (f σ st) (fun b st1=>Q (!b) st1))
 /\ (∀{σ:DS} {st:Store} {Q:Bool->Store->Prop},WP (aI σ st) Q=Q true st)
 /\ (∀{f f':SE} {σ:DS} {st:Store} {Q:D->Store->Prop},WP (eAnd f f' σ st) Q=WP (f σ st) (bK fun b st1=>if b=true then WP (f' σ st1) Q else Q (.bl false) st1))
 /\ (∀{f f':SE} {σ:DS} {st:Store} {Q:D->Store->Prop},WP (eOr f f' σ st) Q=WP (f σ st) (bK fun b st1=>if b=true then Q (.bl true) st1 else WP (f' σ st1) Q))
 /\ (∀{f:SE} {σ:DS} {st:Store} {Q:D->Store->Prop},WP (eNot f σ st) Q=WP (f σ st) (bK fun b st1=>Q (.bl (!b)) st1))
 /\ (∀{c:ST} {f f':SE} {σ:DS} {st:Store} {Q:D->Store->Prop},WP (eIf c f f' σ st) Q=WP (c σ st) (fun b st1=>if b=true then WP (f σ st1) Q else WP (f' σ st1) Q))
 /\ (∀{g:SA} {σ:DS} {st:Store} {Q:D->Store->Prop},WP (aV g σ st) Q=WP (g σ st) (fun xs st1=>xs.length<=sizeLine/\Q (.tup xs) st1))
 /\ (∀{g:SA} {σ:DS} {st:Store} {Q:D->Store->Prop},WP (eLst g σ st) Q=WP (g σ st) (fun xs st1=>xs.length<=sizeLine/\Q (.lst xs) st1))
 /\ (∀{g:SA} {σ:DS} {st:Store} {Q:D->Store->Prop},WP (eLstM g σ st) Q=WP (g σ st) (fun xs st1=>xs.length<=sizeLine/\Q (.ref st1.length) (st1++[.lst xs])))
 /\ (∀{σ:DS} {st:Store} {Q:D->Store->Prop},WP (eDNew σ st) Q=Q (.ref st.length) (st++[.dT []]))
 /\ (∀{σ:DS} {st:Store} {Q:Fl->Store->Prop},WP (sNx σ st) Q=Q (.nx σ) st)
 /\ (∀{σ:DS} {st:Store} {Q:Fl->Store->Prop},WP (sBrk σ st) Q=Q (.brk σ) st)
 /\ (∀{σ:DS} {st:Store} {Q:Fl->Store->Prop},WP (sCt σ st) Q=Q (.ct σ) st)
 /\ (∀{σ:DS} {st:Store} {Q:Fl->Store->Prop},WP (sRetN σ st) Q=Q (.ret .non) st)
 /\ (∀{f:SE} {σ:DS} {st:Store} {Q:Fl->Store->Prop},WP (sRet f σ st) Q=WP (f σ st) (fun v st1=>Q (.ret v) st1))
 /\ (∀{f:SE} {σ:DS} {st:Store} {Q:Fl->Store->Prop},WP (sDrop f σ st) Q=WP (f σ st) (fun _ st1=>Q (.nx σ) st1))
 /\ (∀{i:Nat} {f:SE} {σ:DS} {st:Store} {Q:Fl->Store->Prop},WP (aF i f σ st) Q=WP (f σ st) (fun v st1=>Q (.nx (σ.set i (some v))) st1))
 /\ (∀{bd:SG} {f:SE} {σ:DS} {st:Store} {Q:Fl->Store->Prop},WP (sSetG bd f σ st) Q=WP (f σ st) (gK bd Q σ))
 /\ (∀{c:ST} {s t:SS} {σ:DS} {st:Store} {Q:Fl->Store->Prop},WP (sIf c s t σ st) Q=WP (c σ st) (fun b st1=>if b=true then WP (s σ st1) Q else WP (t σ st1) Q))
 /\ (∀{it:SA} {bd:SG} {body:SS} {σ:DS} {st:Store} {Q:Fl->Store->Prop},WP (sFor it bd body σ st) Q=WP (it σ st) (fun xs st1=>WP (forF bd body xs σ st1) Q))
 /\ (∀{it:SA} {k:Nat} {is:List Nat} {bd:SG} {c:ST} {f:SE} {σ:DS} {st:Store} {Q:D->Store->Prop},WP (aG it k is bd c f σ st) Q=WP (it σ st) (fun xs st1=>xs.length<=sizeLine/\WP (compF bd c f xs (aX k is σ) st1) (fun ys st2=>Q (.lst ys) st2)))
 /\ (∀{it:SA} {k:Nat} {is:List Nat} {bd:SG} {c:ST} {f:SE} {σ:DS} {st:Store} {Q:D->Store->Prop},WP (eCompM it k is bd c f σ st) Q=WP (it σ st) (fun xs st1=>xs.length<=sizeLine/\WP (compF bd c f xs (aX k is σ) st1) (fun ys st2=>Q (.ref st2.length) (st2++[.lst ys]))))
 /\ (∀{C:Int->Int->Prop} [DecidableRel C] {h:Int->Int->D} {i j:Int} {st:Store} {Q:D->Store->Prop},WP (oI C h (.int i) (.int j) st) Q=(C i j/\Q (h i j) st))
 /\ (∀{i j:Int} {st:Store} {Q:D->Store->Prop},WP (aP (.int i) (.int j) st) Q=Q (.int (i+j)) st)
 /\ (∀{a b:List D} {st:Store} {Q:D->Store->Prop},WP (aP (.tup a) (.tup b) st) Q=(a.length+b.length<=sizeLine/\Q (.tup (a++b)) st))
 /\ (∀{i j:Int} {st:Store} {Q:D->Store->Prop},WP (oLtT (.int i) (.int j) st) Q=Q (.bl (decide (i < j))) st)
 /\ (∀{i j:Int} {st:Store} {Q:D->Store->Prop},WP (oEqG false (.int i) (.int j) st) Q=Q (.bl (decide (i=j))) st)
 /\ (∀{i j:Int} {st:Store} {Q:D->Store->Prop},WP (oEqG true (.int i) (.int j) st) Q=Q (.bl (!decide (i=j))) st)
 /\ (∀{i:Int} {st:Store} {Q:D->Store->Prop},WP (oNeg (.int i) st) Q=Q (.int (-i)) st)
 /\ (∀{i j:Int} {g:Int->Int->Int} {st:Store} {Q:D->Store->Prop},WP (b2I g [.int i,.int j] st) Q=Q (.int (g i j)) st)
 /\ (∀{i:Int} {st:Store} {Q:D->Store->Prop},WP (bAbs [.int i] st) Q=Q (.int (if i < 0 then -i else i)) st)
 /\ (∀{b:Bool} {st:Store} {Q:D->Store->Prop},WP (bInt [.bl b] st) Q=Q (.int (if b=true then 1 else 0)) st)
 /\ (∀{xs:List D} {st:Store} {Q:D->Store->Prop},WP (bLen [.tup xs] st) Q=Q (.int xs.length) st)
 /\ (∀{xs:List D} {st:Store} {Q:D->Store->Prop},WP (bLen [.lst xs] st) Q=Q (.int xs.length) st)
 /\ (∀{xs:List D} {st:Store} {Q:D->Store->Prop},WP (bLen [.scr xs] st) Q=Q (.int xs.length) st)
 /\ (∀{xs:List D} {st:Store} {Q:D->Store->Prop},WP (bTuple [.tup xs] st) Q=Q (.tup xs) st)
 /\ (∀{xs:List D} {st:Store} {Q:D->Store->Prop},WP (bTuple [.lst xs] st) Q=Q (.tup xs) st)
 /\ (∀{xs:List D} {st:Store} {Q:D->Store->Prop},WP (bList [.tup xs] st) Q=Q (.lst xs) st)
 /\ (∀{xs:List D} {st:Store} {Q:D->Store->Prop},WP (bList [.lst xs] st) Q=Q (.lst xs) st)
 /\ (∀{d:D} {σ:DS} {st:Store} {Q:D->Store->Prop},WP (aA 0 (some d::σ) st) Q=Q d st)
 /\ (∀{i:Nat} {σ:DS} {st:Store} {Q:D->Store->Prop} {o:Option D},WP (aA (i+1) (o::σ) st) Q=WP (aA i σ st) Q)
 /\ (∀{f:SE} {σ:DS} {st:Store} {Q:List D->Store->Prop},WP (aH f σ st) Q=WP (f σ st) (fun x st1=>∃xs,seqV x=some xs/\Q xs st1))
 /\ (∀{f:SE} {σ:DS} {st:Store} {Q:Bool->Store->Prop},WP (eTru f σ st) Q=WP (f σ st) (fun x st1=>∃b,tru st1 x=some b/\Q b st1))
 /\ (∀{g:SA} {σ:DS} {st:Store} {Q:List D->Store->Prop},WP (iR1 g σ st) Q=WP (g σ st) (fun xs st1=>∃j,xs=[.int j]/\RngOk j/\Q (rng 0 j.toNat) st1))
 /\ (∀{g:SA} {σ:DS} {st:Store} {Q:List D->Store->Prop},WP (iR2 g σ st) Q=WP (g σ st) (fun xs st1=>∃i j,xs=[.int i,.int j]/\RngOk i/\RngOk j/\Q (rng i (j - i).toNat) st1)):=by
 have g2:∀{α:Type} {c:Prop} [Decidable c] {a:α} {st:Store} {Q:α->Store->Prop},WP (if c then .ok a st else .stuck) Q=(c/\Q a st):=fun {α c _ a st Q}=>zlk
 refine⟨rfl,zpi,rfl,rfl,rfl,rfl,rfl,rfl,rfl,rfl,?_⟩;refine⟨?_,?_⟩
 ·intros;rw[zbng,zk];congr;funext x st1;rw[zk]
 refine⟨zk,zk,rfl,?_⟩;refine⟨?_,?_⟩
 ·intros;rw[zsf,zk];congr;funext x st1;rw[zk];rfl
 refine⟨?_,?_⟩
 ·intros;rw[eB_v,zk];congr;funext x st1;cases x<;>rfl
 refine⟨?_,?_⟩
 ·intros;rw[zbkz,zk];congr;funext x st1;rw[zsh];rfl
 refine⟨?_,?_⟩
 ·intros;rw[zbnz,zk];congr;funext x st1;rw[zsh];rfl
 refine⟨zk,rfl,?_⟩;refine⟨?_,?_⟩
 ·intros;rw[zbiz,zk];congr;funext x st1;cases x<;>try rfl
  rename_i b;cases b<;>rfl
 refine⟨?_,?_⟩
 ·intros;rw[zbnf,zk];congr;funext x st1;cases x<;>try rfl
  rename_i b;cases b<;>rfl
 refine⟨?_,?_⟩
 ·intros;rw[zbdt,zk];congr;funext x st1;cases x<;>rfl
 refine⟨?_,?_⟩
 ·intros;rw[zbnh,zk];congr;funext x st1;rw[zsh]
 refine⟨?_,?_⟩
 ·intros;rw[zbix,zk];congr;funext x st1;rw[g2]
 refine⟨?_,?_⟩
 ·intros;rw[zbiy,zk];congr;funext x st1;rw[g2]
 refine⟨?_,?_⟩
 ·intros;rw[zbdu,zk];congr;funext x st1;rw[g2]
 refine⟨rfl,rfl,rfl,rfl,rfl,zk,zk,zk,?_⟩;refine⟨?_,?_⟩
 ·intro bd f σ st Q;unfold sSetG;rw[zk];congr;funext x st1;unfold gK;cases bd x σ<;>rfl
 refine⟨?_,?_⟩
 ·intros;rw[zbmg,zk];congr;funext x st1;rw[zsh]
 refine⟨zk,?_⟩;refine⟨?_,?_⟩
 ·intros;rw[zvy,zk];congr;funext x st1;rw[zlk,zk];rfl
 refine⟨?_,?_⟩
 ·intros;unfold eCompM;rw[zk];congr;funext x st1;rw[zlk,zk];rfl
 refine⟨?_,?_⟩
 ·intros;rw[oI_v,g2]
 refine⟨rfl,?_⟩;refine⟨?_,?_⟩
 ·intros;rw[zbib,g2]
 refine⟨rfl,?_⟩;refine⟨?_,?_⟩
 ·intros;rw[show ∀i j st,oEqG false (.int i) (.int j) st=_ from fun i j st=>zbmx];rfl
 refine⟨?_,?_⟩
 ·intros;rw[show ∀i j st,oEqG true (.int i) (.int j) st=_ from fun i j st=>zbmu];rfl
 refine⟨rfl,rfl,rfl,rfl,rfl,rfl,rfl,rfl,rfl,rfl,rfl,fun {d σ st Q}=>rfl,fun {i σ st Q o}=>rfl,?_⟩;refine⟨?_,?_⟩
 ·intros;rw[zbir,zk];congr;funext x st1
  cases h:seqV x with
  | none=>simp[WP]
  | some xs=>simp[WP]
 refine⟨?_,?_⟩
 ·intros;rw[zbds,zk];congr;funext x st1
  cases h:tru st1 x with
  | none=>simp[WP]
  | some xs=>simp[WP]
 refine⟨?_,?_⟩
 ·intros;rw[zbnb,zk];congr;funext x st1
  split
  ·rw[g2];simp[RngOk]
  ·rename_i hne;have:∀j,x≠[D.int j]:=fun j h=>hne j h
   simp[WP,this]
 ·intros;rw[zbna,zk];congr;funext x st1
  split
  ·rw[g2];simp only[RngOk,List.cons.injEq,D.int.injEq,and_true];apply propext;constructor
   ·rintro⟨h,q⟩;exact⟨_,_,⟨rfl,rfl⟩,h.1,h.2,q⟩
   ·rintro⟨i',j',⟨rfl,rfl⟩,h1,h2,q⟩;exact⟨⟨h1,h2⟩,q⟩
  ·rename_i hne;have:∀i j,x≠[D.int i,D.int j]:=fun i j h=>hne i j h
   simp[WP,this]
def loopK (I:DS->Store->Prop) (Q:Fl->Store->Prop):Fl->Store->Prop:=fun fl st=>match fl with
 | .nx σ=>I σ st
 | .ct σ=>I σ st
 | .brk σ=>Q (.nx σ) st
 | .ret v=>Q (.ret v) st
theorem zit {bd:SG}{body:SS}{Q:Fl->Store->Prop}(I:Nat->DS->Store->Prop):∀(xs:List D) (k:Nat) (σ:DS) (st:Store),I k σ st ->
  (∀i x σ st,xs[i]?=some x->I (k+i) σ st->∃σ1,bd x σ=some σ1/\WP (body σ1 st) (loopK (I (k+i+1)) Q))->(∀σ st,I (k+xs.length) σ st->Q (.nx σ) st)->WP (forF bd body xs σ st) Q
 | [],k,σ,st,h,_,q=>q σ st h
 | x::xs,k,σ,st,h,s,q=>by
  obtain⟨σ1,e1,w⟩:=s 0 x σ st rfl h;obtain⟨fl,st2,e2,w⟩:=w.get;unfold forF;rw[e1];dsimp only;rw[e2]
  have go:∀σ2,I (k+0+1) σ2 st2->WP (forF bd body xs σ2 st2) Q:=fun σ2 h2=>zit I xs (k+1) σ2 st2 h2 (fun i y σ st hy hi=>by
   have:=s (i+1) y σ st (by simpa using hy) (by rw[show k+(i+1)=k+1+i by lia];exact hi);rw[show k+(i+1)+1=k+1+i+1 by lia] at this
   exact this) (fun σ st h=>q σ st (by rw[xbx,show k+(xs.length+1)=k+1+xs.length by lia];exact h))
  cases fl with
  | nx σ2=>exact go σ2 w
  | ct σ2=>exact go σ2 w
  | brk σ2=>exact w
  | ret v=>exact w
theorem zhj {bd:SG}{body:SS}{Q:Fl->Store->Prop}(I:Nat->DS->Store->Prop){xs:List D}{σ:DS}{st:Store}(h0:I 0 σ st)
  (s:∀i x σ st,xs[i]?=some x->I i σ st->∃σ1,bd x σ=some σ1/\WP (body σ1 st) (loopK (I (i+1)) Q))(q:∀σ st,I xs.length σ st->Q (.nx σ) st):WP (forF bd body xs σ st) Q :=
 zit I xs 0 σ st h0 (fun i x σ st hx hi=>by rw[xdx] at hi ⊢;exact s i x σ st hx hi) fun σ st h=>q σ st (by rw[xdx] at h;exact h)
theorem L:(∀{I:DS->Store->Prop} {Q:Fl->Store->Prop} {σ:DS} {st:Store},loopK I Q (.nx σ) st=I σ st)
 /\ (∀{I:DS->Store->Prop} {Q:Fl->Store->Prop} {σ:DS} {st:Store},loopK I Q (.ct σ) st=I σ st)
 /\ (∀{I:DS->Store->Prop} {Q:Fl->Store->Prop} {σ:DS} {st:Store},loopK I Q (.brk σ) st=Q (.nx σ) st)
 /\ (∀{I:DS->Store->Prop} {Q:Fl->Store->Prop} {v:D} {st:Store},loopK I Q (.ret v) st=Q (.ret v) st):=⟨rfl,rfl,rfl,rfl⟩
theorem zff {bd:SG}{c:ST}{f:SE}(I:Nat->List D->DS->Store->Prop):∀(xs:List D) (k:Nat) (acc:List D) (σ:DS) (st:Store) (Q:List D->Store->Prop),I k acc σ st ->
  (∀i x acc σ st,xs[i]?=some x->I (k+i) acc σ st->∃σ1,bd x σ=some σ1/\WP (c σ1 st) (fun b st1=>if b=true then WP (f σ1 st1) (fun y st2=>I (k+i+1) (acc++[y]) σ1 st2) else I (k+i+1) acc σ1 st1)) ->
  (∀ys σ st,I (k+xs.length) (acc++ys) σ st->Q ys st)->WP (compF bd c f xs σ st) Q
 | [],k,acc,σ,st,Q,h,_,q=>q [] σ st (by rw[xeg];exact h)
 | x::xs,k,acc,σ,st,Q,h,s,q=>by
  obtain⟨σ1,e1,w⟩:=s 0 x acc σ st rfl h;obtain⟨b,st1,e2,w⟩:=w.get;have s':∀i y acc σ st,xs[i]?=some y->I (k+1+i) acc σ st->∃σ1,bd y σ=some σ1/\WP (c σ1 st) (fun b st1=>if b=true then WP (f σ1 st1) (fun y st2=>I (k+1+i+1) (acc++[y]) σ1 st2) else I (k+1+i+1) acc σ1 st1):=fun i y acc σ st hy hi=>by
   have:=s (i+1) y acc σ st (by simpa using hy) (by rw[show k+(i+1)=k+1+i by lia];exact hi);rw[show k+(i+1)+1=k+1+i+1 by lia] at this;exact this
  have ln:∀(zs:List D) σ st,I (k+1+xs.length) zs σ st->I (k+(x::xs).length) zs σ st:=fun zs σ st h=>by rw[xbx,show k+(xs.length+1)=k+1+xs.length by lia];exact h
  unfold compF;rw[e1];dsimp only;rw[e2];dsimp only[zel];cases b with
  | false =>
   rw[if_neg (by decide)] at w ⊢;exact zff I xs (k+1) acc σ1 st1 Q w s' fun ys σ st h=>q ys σ st (ln _ _ _ h)
  | true =>
   rw[if_pos rfl] at w ⊢;obtain⟨y,st2,e3,w⟩:=w.get;rw[e3];dsimp only[zel];rw[zk];exact zff I xs (k+1) (acc++[y]) σ1 st2 _ w s' fun ys σ st h=>q (y::ys) σ st (ln _ _ _ (by rw[xbr] at h;exact h))
theorem zkc {bd:SG}{c:ST}{f:SE}{Q:List D->Store->Prop}(I:Nat->List D->DS->Store->Prop){xs:List D}{σ:DS}{st:Store}(h0:I 0 [] σ st)
  (s:∀i x acc σ st,xs[i]?=some x->I i acc σ st->∃σ1,bd x σ=some σ1/\WP (c σ1 st) (fun b st1=>if b=true then WP (f σ1 st1) (fun y st2=>I (i+1) (acc++[y]) σ1 st2) else I (i+1) acc σ1 st1))
  (q:∀ys σ st,I xs.length ys σ st->Q ys st):WP (compF bd c f xs σ st) Q :=
 zff I xs 0 [] σ st Q h0 (fun i x acc σ st hx hi=>by rw[xdx] at hi ⊢;exact s i x acc σ st hx hi) fun ys σ st h=>q ys σ st (by rw[xdx] at h;simpa using h)
theorem zji {bd:SG}{c:ST}{f:SE}{α:Type}(S:DS->Prop)(P:α->Bool)(G:α->D)(E:α->D){as:List α}{σ:DS}{st:Store}{Q:List D->Store->Prop}(h0:S σ)
  (s:∀x∈as,∀σ,S σ->∃σ1,bd (E x) σ=some σ1/\S σ1/\WP (c σ1 st) (fun b st1=>st1=st/\b=P x)/\(P x=true->WP (f σ1 st) (fun y st1=>st1=st/\y=G x)))
  (q:Q ((as.filter P).map G) st):WP (compF bd c f (as.map E) σ st) Q:=by
 refine zkc (fun i acc σ s'=>S σ/\s'=st/\acc=((as.take i).filter P).map G) ⟨h0,rfl,rfl⟩ (fun i x acc σ s' hx hI=>?_) fun ys σ s' hI=>?_
 ·obtain⟨hS,rfl,rfl⟩:=hI;rw[xcc] at hx;obtain⟨z,hz,rfl⟩:=xco.mp hx;obtain⟨σ1,e1,hS1,w1,w2⟩:=s z (xch hz) σ hS;refine⟨σ1,e1,w1.mono fun b st1 hb=>?_⟩;obtain⟨rfl,rfl⟩:=hb;cases hP:P z with
  | false =>
   rw[if_neg (by decide)];refine⟨hS1,rfl,?_⟩;rw[zbm hz,xjk,xet (by rw[hP];decide)];simp
  | true =>
   rw[if_pos rfl];refine(w2 hP).mono fun y st2 hy=>?_
   obtain⟨rfl,rfl⟩:=hy;refine⟨hS1,rfl,?_⟩;rw[zbm hz,xjk,xeu hP,xdr];simp
 ·obtain⟨_,rfl,rfl⟩:=hI;rw[xbd,xda];exact q
theorem V:(∀{α:Type} {a b:α} {l:List α},(a::l).set 0 b=b::l)
 /\ (∀{α:Type} {a b:α} {l:List α} {i:Nat},(a::l).set (i+1) b=a::l.set i b)
 /\ (∀{σ:DS} {k:Nat} {is:List Nat},aX k is σ=List.replicate k none++is.map fun i=>(σ[i]?).getD none)
 /\ (∀{α:Type} {a:α} {k:Nat},List.replicate (k+1) a=a::List.replicate k a)
 /\ (∀{α:Type} {a:α},List.replicate 0 a=[])
 /\ (∀{α β:Type} {f:α->β} {a:α} {l:List α},(a::l).map f=f a::l.map f)
 /\ (∀{α β:Type} {f:α->β},([]:List α).map f=[])
 /\ (∀{α:Type} {a:α} {l m:List α},(a::l)++m=a::(l++m))
 /\ (∀{α:Type} {l:List α},[]++l=l)
 /\ (∀{α:Type} {a:α} {l:List α},(a::l)[0]?=some a)
 /\ (∀{α:Type} {a:α} {l:List α} {i:Nat},(a::l)[i+1]?=l[i]?)
 /\ (∀{α:Type} {a:α} {d:α},(some a).getD d=a)
 /\ (∀{i:Nat} {d:D} {σ:DS},gN i d σ=some (σ.set i (some d)))
 /\ (∀{p:Prop} [Decidable p],(decide p=true)=p)
 /\ (∀{p:Prop} [Decidable p],((!decide p)=true)=¬ p)
 /\ (∀{b:Bool},((!b)=true)=(b=false))
 /\ (∀{a b:Prop},(if True then a else b)=a)
 /\ (∀{a b:Prop},(if False then a else b)=b)
 /\ (∀{a b:Prop},(if true=true then a else b)=a)
 /\ (∀{a b:Prop},(if false=true then a else b)=b)
 /\ (∀{α:Type} {a b:α},(if True then a else b)=a)
 /\ (∀{α:Type} {a b:α},(if False then a else b)=b)
 /\ ((true=false)=False)/\((false=true)=False)/\((true=true)=True)/\((false=false)=True)/\((¬ True)=False)/\((¬ False)=True):=by
 refine⟨rfl,rfl,rfl,rfl,rfl,rfl,rfl,rfl,rfl,rfl,?_,rfl,rfl,?_,?_,?_,rfl,rfl,rfl,rfl,rfl,rfl,by simp,by simp,by simp,by simp,by simp,by simp⟩
 ·intros;rfl
 ·intro p _;simp
 ·intro p _;simp
 ·intro b;simp
theorem M:(∀{f:SE} {σ:DS} {st:Store} {Q:Option Int->Store->Prop},WP (pSome f σ st) Q=WP (f σ st) (fun v st1=>∃i,v=.int i/\Q (some i) st1))
 /\ (∀{σ:DS} {st:Store} {Q:Option Int->Store->Prop},WP (pNone σ st) Q=Q none st)
 /\ (∀{f:SE} {lo hi:DS->Store->Res (Option Int)} {σ:DS} {st:Store} {Q:D->Store->Prop},WP (eSl f lo hi σ st) Q=WP (f σ st) (fun x st1=>WP (lo σ st1) (fun l st2=>WP (hi σ st2) (fun h st3=>(∃xs,x=.tup xs/\Q (.tup (cutD xs l h)) st3)\/(∃xs,asL st3 x=some xs/\Q (.lst (cutD xs l h)) st3)))))
 /\ (∀{f:SE} {σ:DS} {st:Store} {Q:D->Store->Prop},WP (eFz f σ st) Q=WP (f σ st) (fun x st1=>∃n xs,x=.ref n/\st1[n]?=some (.lst xs)/\Q (.lst xs) (st1.set n .dead)))
 /\ (∀{f g h:SE} {σ:DS} {st:Store} {Q:Fl->Store->Prop},WP (sSetIx f g h σ st) Q=WP (h σ st) (fun v st1=>WP (f σ st1) (fun x st2=>WP (g σ st2) (fun y st3=>∃n k xs j,x=.ref n/\y=.int k/\st3[n]?=some (.lst xs)/\ixN xs.length k=some j/\Q (.nx σ) (st3.set n (.lst (xs.set j v)))))))
 /\ (∀{f:SE} {g:SA} {σ:DS} {st:Store} {Q:D->Store->Prop},WP (eAppend f g σ st) Q=WP (f σ st) (fun x st1=>∃n xs0,x=.ref n/\st1[n]?=some (.lst xs0)/\WP (g σ st1) (fun ys st2=>∃y xs,ys=[y]/\st2[n]?=some (.lst xs)/\xs.length < sizeLine/\Q .non (st2.set n (.lst (xs++[y]))))))
 /\ (∀{x:D} {st:Store} {Q:D->Store->Prop},WP (bSum [x] st) Q=∃ns,(seqOf st x).bind asInts=some ns/\Q (.int ns.sum) st)
 /\ (∀{x:D} {al:Bool} {st:Store} {Q:D->Store->Prop},WP (bAny al [x] st) Q=∃bs,(asL st x).bind asBools=some bs/\Q (.bl (if al then bs.all id else bs.any id)) st)
 /\ (∀{x:D} {gt:Bool} {st:Store} {Q:D->Store->Prop},WP (bBest gt [x] st) Q=∃n ns,(seqOf st x).bind asInts=some (n::ns)/\Q (.int (bestI gt n ns)) st)
 /\ (∀{g:SA} {σ:DS} {st:Store} {Q:List D->Store->Prop},WP (iZipT g σ st) Q=WP (g σ st) (fun xs st1=>∃a b,xs=[.tup a,.tup b]/\Q (pairsF a b) st1))
 /\ (∀{i:Nat} {g:D->D->Store->Res D} {f:SE} {σ:DS} {st:Store} {Q:Fl->Store->Prop},WP (sAug i g f σ st) Q=∃x,σ[i]?=some (some x)/\WP (f σ st) (fun y st1=>WP (g x y st1) (fun z st2=>Q (.nx (σ.set i (some z))) st2))):=by
 refine⟨?_,rfl,?_,?_,?_,?_,?_,?_,?_,?_,?_⟩
 ·intros;rw[zbcd,zk];congr;funext x st1
  cases x<;>simp[WP]
 ·intros;rw[zbne,zk];congr;funext x st1;rw[zk];congr;funext l st2;rw[zk];congr;funext h st3
  apply propext;split
  ·constructor
   ·intro q;exact .inl ⟨_,rfl,q⟩
   ·rintro(⟨xs,e,q⟩ | ⟨xs,e,q⟩)
    ·cases e;exact q
    ·cases e
  ·rename_i hne;constructor
   ·intro q;split at q
    ·rename_i xs e;exact .inr ⟨xs,e,q⟩
    ·exact q.elim
   ·rintro(⟨xs,e,q⟩ | ⟨xs,e,q⟩)
    ·exact absurd e (hne xs)
    ·rw[e];exact q
 ·intros;rw[zbni,zk];congr;funext x st1
  apply propext;constructor
  ·intro q;split at q
   ·split at q
    ·rename_i xs e;exact⟨_,xs,rfl,e,q⟩
    ·exact q.elim
   ·exact q.elim
  ·rintro⟨n,xs,rfl,e,q⟩;dsimp only;rw[e];exact q
 ·intros;rw[zwx,zk];congr;funext v st1;rw[zk];congr;funext x st2;rw[zk];congr;funext y st3
  apply propext;constructor
  ·intro q;split at q
   ·split at q
    ·split at q
     ·exact⟨_,_,_,_,rfl,rfl,by assumption,by assumption,q⟩
     ·exact q.elim
    ·exact q.elim
   ·exact q.elim
  ·rintro⟨n,k,xs,j,rfl,rfl,e1,e2,q⟩;dsimp only;rw[e1];dsimp only;rw[e2];exact q
 ·intros;rw[zui,zk];congr;funext x st1
  apply propext;constructor
  ·intro q;split at q
   ·rename_i n xs0 e;rw[zk] at q;have e':st1[n]?=some (.lst xs0):=by
     unfold asL at e;dsimp only at e;split at e
     ·cases e;assumption
     ·cases e
    refine⟨n,xs0,rfl,e',q.mono fun ys st2 h=>?_⟩;split at h
    ·split at h
     ·exact⟨_,_,rfl,by assumption,by assumption,h⟩
     ·exact h.elim
    ·exact h.elim
   ·exact q.elim
  ·rintro⟨n,xs0,rfl,e,q⟩;rw[zih e];dsimp only;rw[zk];refine q.mono fun ys st2 h=>?_
   obtain⟨y,xs,rfl,e2,hl,h⟩:=h;rw[e2];dsimp only;rw[if_pos hl];exact h
 ·intro x st Q;unfold bSum;dsimp only;cases h:(seqOf st x).bind asInts with
  | none=>simp[WP]
  | some ns=>simp[WP]
 ·intro x al st Q;unfold bAny;dsimp only;cases h:(asL st x).bind asBools with
  | none=>simp[WP]
  | some ns=>simp[WP]
 ·intro x gt st Q;unfold bBest;dsimp only;cases h:(seqOf st x).bind asInts with
  | none=>simp[WP]
  | some ns =>
   cases ns with
   | nil=>simp[WP]
   | cons n ns =>
    apply propext;constructor
    ·intro q;exact⟨_,_,rfl,q⟩
    ·rintro⟨a,b,e,q⟩;cases e;exact q
 ·intro g σ st Q;unfold iZipT;rw[zk];congr;funext x st1
  apply propext;constructor
  ·intro q;split at q
   ·exact⟨_,_,rfl,q⟩
   ·exact q.elim
  ·rintro⟨a,b,rfl,q⟩;exact q
 ·intro i g f σ st Q;rw[zbgx];apply propext;constructor
  ·intro q;split at q
   ·rename_i x e;rw[zk] at q;exact⟨x,e,q.mono fun y st1 h=>by rw[zk] at h;exact h⟩
   ·exact q.elim
  ·rintro⟨x,e,q⟩;rw[e];dsimp only;rw[zk];exact q.mono fun y st1 h=>by rw[zk];exact h
theorem N:(∀{xs:List D} {P:List D->Prop},(∃ys,D.tup xs=D.tup ys/\P ys)=P xs)
 /\ (∀{i:Int} {P:Int->Prop},(∃j,D.int i=D.int j/\P j)=P i)
 /\ (∀{xs:List D} {st:Store} {P:List D->Prop},(∃ys,asL st (.tup xs)=some ys/\P ys)=False)
 /\ (∀{xs:List D} {st:Store} {P:List D->Prop},(∃ys,asL st (.lst xs)=some ys/\P ys)=P xs)
 /\ (∀{xs:List D} {P:List D->Prop},(∃ys,seqV (.tup xs)=some ys/\P ys)=P xs)
 /\ (∀{xs:List D} {P:List D->Prop},(∃ys,seqV (.lst xs)=some ys/\P ys)=P xs)
 /\ (∀{b:Bool} {st:Store} {P:Bool->Prop},(∃c,tru st (.bl b)=some c/\P c)=P b)
 /\ (∀{i:Int} {P:Int->Prop},(∃j,[D.int i]=[D.int j]/\P j)=P i)
 /\ (∀{i j:Int} {P:Int->Int->Prop},(∃k l,[D.int i,D.int j]=[D.int k,D.int l]/\P k l)=P i j)
 /\ (∀{x:D} {P:D->Prop},(∃y,[x]=[y]/\P y)=P x)
 /\ (∀{a b:List D} {P:List D->List D->Prop},(∃c d,[D.tup a,D.tup b]=[.tup c,.tup d]/\P c d)=P a b)
 /\ (∀{p:Prop},(p\/False)=p)/\(∀{p:Prop},(True/\p)=p):=by
 refine⟨?_,?_,?_,?_,?_,?_,?_,?_,?_,?_,?_,by simp,by simp⟩
 ·intros;apply propext;exact⟨fun⟨_,e,p⟩=>by cases e;exact p,fun p=>⟨_,rfl,p⟩⟩
 ·intros;apply propext;exact⟨fun⟨_,e,p⟩=>by cases e;exact p,fun p=>⟨_,rfl,p⟩⟩
 ·intros;apply propext;exact⟨fun⟨_,e,p⟩=>(by cases e),fun p=>p.elim⟩
 ·intros;apply propext;exact⟨fun⟨_,e,p⟩=>by cases e;exact p,fun p=>⟨_,rfl,p⟩⟩
 ·intros;apply propext;exact⟨fun⟨_,e,p⟩=>by cases e;exact p,fun p=>⟨_,rfl,p⟩⟩
 ·intros;apply propext;exact⟨fun⟨_,e,p⟩=>by cases e;exact p,fun p=>⟨_,rfl,p⟩⟩
 ·intros;apply propext;exact⟨fun⟨_,e,p⟩=>by cases e;exact p,fun p=>⟨_,rfl,p⟩⟩
 ·intros;apply propext;exact⟨fun⟨_,e,p⟩=>by cases e;exact p,fun p=>⟨_,rfl,p⟩⟩
 ·intros;apply propext;exact⟨fun⟨_,_,e,p⟩=>by cases e;exact p,fun p=>⟨_,_,rfl,p⟩⟩
 ·intros;apply propext;exact⟨fun⟨_,e,p⟩=>by cases e;exact p,fun p=>⟨_,rfl,p⟩⟩
 ·intros;apply propext;exact⟨fun⟨_,_,e,p⟩=>by cases e;exact p,fun p=>⟨_,_,rfl,p⟩⟩
section
variable {st:Store}{n:Nat}{Q:D->Store->Prop}
theorem zna {m:Int}(hb:BagAt st n)(h1:1<=m)(h2:m<=1000000)(k:∀r st',0<=r->r < m->Drew st st' n->Q (.int r) st'):WP (zbq [.ref n,.int m] st) Q:=by
 obtain⟨r,st',e,a1,a2,a3,_⟩:=zbas hb h1 (Int.lt_of_le_of_lt h2 (by decide +kernel));exact WP.of e (k r st' a1 a2 a3)
theorem zbil {x:D}{xs:List D}{i:Int}{d:D}(h:seqOf st x=some xs)(h2:L2.atI xs i=some d)(q:Q d st):WP (oIx x (.int i) st) Q:=WP.of (zir h h2) q
theorem zbkt {ns:List Int}{i:Nat}(hl:ns.length<=63)(hi:i<=100000)(k:∀g,BagAt (st++g) st.length->Q (.ref st.length) (st++g)):WP (zeu [.scr (ns.map .int),.int i] st) Q:=by
 obtain⟨c,x,hc,hx,e⟩:=zbku (st:=st) hl hi;exact WP.of e (k _ ⟨c,x,by simp,hc,hx⟩)
end
def WX {α:Type} (r:Res α) (Q:α->Store->Prop) (E:Exc->Store->Prop):Prop:=match r with
 | .ok a st=>Q a st
 | .exc x st=>E x st
 | .stuck=>False
theorem WX.wp {α:Type}{r:Res α}{Q:α->Store->Prop}(h:WX r Q fun _ _=>False):WP r Q:=by
 cases r<;>exact h
theorem WX.mono {α:Type}{r:Res α}{Q Q':α->Store->Prop}{E E':Exc->Store->Prop}(h:WX r Q E)(k:∀a st,Q a st->Q' a st)(k':∀a st,E a st->E' a st):WX r Q' E':=by
 cases r with
 | ok a st=>exact k _ _ h
 | exc x st=>exact k' _ _ h
 | stuck=>exact h
theorem zbgh {α:Type}{f:DS->Store->Res α}{σ:DS}{st:Store}{Q:α->Store->Prop}:WP (noX f σ st) Q=WP (f σ st) Q:=by
 unfold noX;cases f σ st<;>rfl
theorem zbag {α:Type}{f:DS->Store->Res α}{σ:DS}{st:Store}{Q:α->Store->Prop}{E:Exc->Store->Prop}:WX (noX f σ st) Q E=WP (f σ st) Q:=by
 unfold noX;cases f σ st<;>rfl
theorem zmt {α β:Type}{f:DS->Store->Res α}{σ:DS}{st:Store}{g:α->Store->Res β}{Q:β->Store->Prop}{E:Exc->Store->Prop}:WX ((noX f σ st).bind g) Q E=WP (f σ st) (fun a st1=>WX (g a st1) Q E):=by
 unfold noX;cases f σ st<;>rfl
def seqX (t:SS) (Q:Fl->Store->Prop) (E:Exc->Store->Prop):Fl->Store->Prop:=fun fl st=>match fl with
 | .nx σ=>WX (t σ st) Q E
 | fl=>Q fl st
theorem VX:(∀{α:Type} {f:DS->Store->Res α} {σ:DS} {st:Store} {Q:α->Store->Prop},WP (noX f σ st) Q=WP (f σ st) Q)
 /\ (∀{f:SE} {σ:DS} {st:Store} {Q:D->Store->Prop} {E:Exc->Store->Prop},WX (noX f σ st) Q E=WP (f σ st) Q)
 /\ (∀{f:SS} {σ:DS} {st:Store} {Q:Fl->Store->Prop} {E:Exc->Store->Prop},WX (noX f σ st) Q E=WP (f σ st) Q)
 /\ (∀{s t:SS} {σ:DS} {st:Store} {Q:Fl->Store->Prop} {E:Exc->Store->Prop},WX (aD s t σ st) Q E=WX (s σ st) (seqX t Q E) E)
 /\ (∀{t:SS} {σ:DS} {st:Store} {Q:Fl->Store->Prop} {E:Exc->Store->Prop},seqX t Q E (.nx σ) st=WX (t σ st) Q E)
 /\ (∀{t:SS} {v:D} {st:Store} {Q:Fl->Store->Prop} {E:Exc->Store->Prop},seqX t Q E (.ret v) st=Q (.ret v) st)
 /\ (∀{c:ST} {s t:SS} {σ:DS} {st:Store} {Q:Fl->Store->Prop} {E:Exc->Store->Prop},WX (sIf (noX c) s t σ st) Q E=WP (c σ st) (fun b st1=>if b=true then WX (s σ st1) Q E else WX (t σ st1) Q E))
 /\ (∀{c:Str} {g:SA} {σ:DS} {st:Store} {Q:Fl->Store->Prop} {E:Exc->Store->Prop},WX (sRaise c (noX g) σ st) Q E=WP (g σ st) (fun xs st1=>xs.length<=sizeLine/\E ⟨c,[]⟩ st1))
 /\ (∀{F:DFn} {g:SA} {σ:DS} {st:Store} {Q:D->Store->Prop} {E:Exc->Store->Prop},WX (aE F (noX g) σ st) Q E=WP (g σ st) (fun xs st1=>WX (F xs st1) Q E))
 /\ (∀{f:SE} {σ:DS} {st:Store} {Q:Fl->Store->Prop} {E:Exc->Store->Prop},WX (sRet f σ st) Q E=WX (f σ st) (fun v st1=>Q (.ret v) st1) E)
 /\ (∀{f:SE} {σ:DS} {st:Store} {Q:Fl->Store->Prop} {E:Exc->Store->Prop},WX (sDrop f σ st) Q E=WX (f σ st) (fun v st1=>Q (.nx σ) st1) E)
 /\ (∀{i:Nat} {f:SE} {σ:DS} {st:Store} {Q:Fl->Store->Prop} {E:Exc->Store->Prop},WX (aF i f σ st) Q E=WX (f σ st) (fun v st1=>Q (.nx (σ.set i (some v))) st1) E)
 /\ (∀{it:SA} {bd:SG} {b:SS} {σ:DS} {st:Store} {Q:Fl->Store->Prop} {E:Exc->Store->Prop},WX (sFor (noX it) bd b σ st) Q E=WP (it σ st) (fun xs st1=>WX (forF bd b xs σ st1) Q E))
 /\ (∀{i:Nat} {cs:List Str} {b u:SS} {σ:DS} {st:Store} {Q:Fl->Store->Prop},WP (sTry i cs b u σ st) Q=WX (b σ st) Q (fun x st1=>x.cls∈cs/\WP (u (σ.set i (some (.exn x.cls x.at_))) st1) (fun fl st2=>match fl with | .ret v=>Q (.ret v) st2 | _=>False))):=by
 refine⟨zbgh,zbag,zbag,?_,rfl,rfl,?_,?_,?_,?_,?_,?_,?_,?_⟩
 ·intro s t σ st Q E;unfold aD;cases s σ st with
  | ok fl st1=>cases fl<;>rfl
  | exc x st=>rfl
  | stuck=>rfl
 ·intro c s t σ st Q E;show WX ((noX c σ st).bind _) Q E=_;rw[zmt]
  congr;funext b st1
  split<;>rfl
 ·intro c g σ st Q E;show WX ((noX g σ st).bind _) Q E=_;rw[zmt]
  congr;funext xs st1
  by_cases h:xs.length<=sizeLine
  ·rw[if_pos h];simp[WX,h]
  ·rw[if_neg h];simp[WX,h]
 ·intro F g σ st Q E;exact zmt
 ·intro f σ st Q E;unfold sRet;cases f σ st<;>rfl
 ·intro f σ st Q E;unfold sDrop;cases f σ st<;>rfl
 ·intro i f σ st Q E;unfold aF;cases f σ st<;>rfl
 ·intro it bd b σ st Q E;exact zmt
 ·intro i cs b u σ st Q;unfold sTry;cases b σ st with
  | ok fl st1=>rfl
  | stuck=>rfl
  | exc x st1 =>
   show WP (if x.cls∈cs then _ else _) Q=(x.cls∈cs/\_)
   by_cases h:x.cls∈cs
   ·rw[if_pos h];simp only[h,true_and];cases u (σ.set i (some (.exn x.cls x.at_))) st1 with
    | ok fl st2=>cases fl<;>rfl
    | exc _ _=>rfl
    | stuck=>rfl
   ·rw[if_neg h];simp[WP,h]
theorem zbmb {n np:Nat}{b:SS}{ds:List D}{st:Store}{Q:D->Store->Prop}{E:Exc->Store->Prop}(h:ds.length=np)(k:WX (b (ds.map some++List.replicate (n - np) none) st) (retK Q) E):WX (fnD n np b ds st) Q E:=by
 unfold fnD;rw[if_pos h];revert k;cases b (ds.map some++List.replicate (n - np) none) st with
 | ok fl st'=>cases fl<;>first | exact fun q=>q | exact fun q=>q.elim
 | exc x st'=>exact fun q=>q
 | stuck=>exact fun q=>q
theorem zbgf {bd:SG}{b:SS}{E:Exc->Store->Prop}{Q:Fl->Store->Prop}(I:List D->DS->Store->Prop)(turn:∀x xs σ st,I (x::xs) σ st->∃σ1,bd x σ=some σ1/\WX (b σ1 st) (fun fl st1=>match fl with | .nx σ2=>I xs σ2 st1 | .ct σ2=>I xs σ2 st1 | .brk σ2=>Q (.nx σ2) st1 | .ret v=>Q (.ret v) st1) E)
  (done:∀σ st,I [] σ st->Q (.nx σ) st):∀xs σ st,I xs σ st->WX (forF bd b xs σ st) Q E:=by
 intro xs
 induction xs with
 | nil=>exact fun σ st h=>done σ st h
 | cons x xs ih =>
  intro σ st h;obtain⟨σ1,e,w⟩:=turn x xs σ st h;unfold forF;rw[e];dsimp only;revert w;cases b σ1 st with
  | stuck=>exact fun w=>w
  | exc y st1=>exact fun w=>w
  | ok fl st1 =>
   cases fl with
   | nx σ2=>exact fun w=>ih σ2 st1 w
   | ct σ2=>exact fun w=>ih σ2 st1 w
   | brk σ2=>exact fun w=>w
   | ret v=>exact fun w=>w
theorem BagAt.lt {st:Store}{n:Nat}(h:BagAt st n):n < st.length:=by obtain⟨c,x,e,_⟩:=h;exact zbc e
theorem zdv {α:Type}(l:List α):(l.filter fun _=>true)=l:=List.filter_eq_self.mpr (by simp)
theorem zjh {α:Type}(P:α->Bool):∀as:List α,asBools (as.map fun x=>.bl (P x))=some (as.map P)
 | []=>rfl
 | x::as=>by rw[xbp,asBools,zjh P as];rfl
section
variable {st:Store}{n:Nat}{Q:D->Store->Prop}
theorem znj {x:D}{l:List (List Int)}(hx:seqV x=some (aJ l))(hl:l.length<=1000000)(k:∀g,Q (aK (aR l)) (st++g)):WP (zbr [x] st) Q:=by
 have h1:=zes l;obtain⟨g,e⟩:=zpa (st:=st) hx (by lia) (by lia);exact WP.of e (k g)
end
section
variable {k:Nat}{d:D}{st:Store}
end
section
variable {k:Nat}{d:D}{st:Store}{Q:D->Store->Prop}
end
section
variable {k:Nat}{d:D}{st:Store}{Q:D->Store->Prop}
end
section
variable {k:Nat}{d:D}{st:Store}
end
section
variable {st:Store}{Q:D->Store->Prop}
end
section
variable {st:Store}{k:Nat}{d:D}{m:Int}{Q:D->Store->Prop}
end
theorem zcb {s t:SS}{σ:DS}{st:Store}{Q R:Fl->Store->Prop}(h:WP (s σ st) R)(k:∀fl s',R fl s'->seqK t Q fl s'):WP (aD s t σ st) Q:=by
 rw[zpi];exact h.mono k
section
variable {st:Store}{n:Nat}{Q:D->Store->Prop}
end
section
variable {st:Store}{n:Nat}{Q:D->Store->Prop}
theorem zbdo {ks:List (List Int)}{k:List Int}(h:st[n]?=some (.dT (aU ks)))(hl:ks.length<=1000000)(q:Q .non (st.set n (.dT (aU (aS ks k))))):WP (zpf [.ref n,aM k] st) Q:=WP.of (zbdp h hl) q
theorem zsv {ks:List (List Int)}(h:st[n]?=some (.dT (aU ks)))(hl:ks.length<=1000000)(q:Q (.lst (aJ (sortR ks))) st):WP (bSorted [.ref n] st) Q:=WP.of (zop h hl) q
end
section
variable {st:Store}{n:Nat}{Q:D->Store->Prop}
end
end Dd
namespace K03
end K03
namespace K13
open PySem PyProof.Rows
end K13
namespace Dd
open PySem L2 K13
theorem zlj {c:ST}{body:SS}{Q:Fl->Store->Prop}(I:Nat->DS->Store->Prop){k:Nat}{σ:DS}{st:Store}(h0:I k σ st)(hm:k < 1000000)
  (s:∀j σ st,I j σ st->WP (c σ st) (fun b st1=>if b=true then WP (body σ st1) (loopK (fun σ2 st2=>∃i,i < j/\I i σ2 st2) Q) else Q (.nx σ) st1)):WP (sWhile c body σ st) Q:=by
 have main:∀n j σ st,I j σ st->j < n->WP (whileF c body n σ st) Q:=by
  intro n
  induction n with
  | zero=>intro j σ st _ h;lia
  | succ n ih =>
   intro j σ st hI hlt;obtain⟨b,st1,e1,w⟩:=(s j σ st hI).get;unfold whileF;rw[e1];dsimp only[zel];cases b with
   | false=>exact w
   | true =>
    rw[if_pos rfl] at w ⊢;obtain⟨fl,st2,e2,w⟩:=w.get;rw[e2];cases fl with
    | nx σ2=>obtain⟨i,hi,h⟩:=w;exact ih i σ2 st2 h (by lia)
    | ct σ2=>obtain⟨i,hi,h⟩:=w;exact ih i σ2 st2 h (by lia)
    | brk σ2=>exact w
    | ret v=>exact w
 exact main wCap k σ st h0 hm
section
variable {st:Store}{n:Nat}{Q:D->Store->Prop}
end
end Dd
namespace Dd
open PySem L2
abbrev RowI:=List Int
def wtI:Int->RowI->Int
 | _,[]=>0
 | w,x::r=>w * x+wtI (2 * w+1) r
section
variable {st:Store}{Q:D->Store->Prop}
theorem znd {r:RowI}(hr:r.length<=4)(q:Q (.int (wtI 1 r)) st):WP (zcq [aM r] st) Q:=by
 refine zll rfl ?_;simp only[W,V];refine⟨r.map .int,rfl,?_⟩;refine zhj (fun i σ s=>∃(t w:Int) (v:Option D),σ=[some (aM r),some (.int t),some (.int w),v]/\s=st/\t+wtI w (r.drop i)=wtI 1 r/\0<=w/\w+1<=((2 ^ (i+1):Nat):Int)) ⟨0,1,_,rfl,rfl,by simp,by lia,by decide⟩ ?_ ?_
 ·rintro i x σ s hx ⟨t,w,v,rfl,rfl,h1,h2,h3⟩;obtain⟨y,hy,rfl⟩:∃y,r[i]?=some y/\x=.int y:=by
   rw[xcc] at hx;obtain⟨y,hy,rfl⟩:=xco.mp hx;exact⟨y,hy,rfl⟩
  have hi:i < r.length:=by
   rcases xeh i r.length with h | h
   ·exact h
   ·rw[xer h] at hy;cases hy
  have hw:w<=32:=by
   have:2 ^ (i+1)<=2 ^ 5:=Nat.pow_le_pow_right (by decide) (by lia);lia
  have e:r.drop i=y::r.drop (i+1):=by
   rw[xfa hi];rw[xbg hi] at hy;cases hy
   rfl
  rw[e,wtI] at h1;refine⟨_,rfl,?_⟩;unfold zgb;simp only[W,V,M,L];refine⟨.int t,rfl,.inl ⟨by lia,by lia⟩,WP.of (show oI (fun _ _=>True) (fun i j=>D.int (i+j)) (.int t) (.int (w * y)) s=.ok (.int (t+w * y)) s from rfl) ⟨.inl ⟨by lia,by lia⟩,t+w * y,2 * w+1,_,rfl,rfl,by rw[← h1];lia,by lia,?_⟩⟩;rw[Nat.pow_succ];lia
 ·rintro σ s ⟨t,w,v,rfl,rfl,h1,h2,h3⟩;rw[xbd,xls] at h1;simp only[W,V];rw[show t=wtI 1 r by rw[← h1];simp[wtI]];exact q
theorem zbgg {r:RowI}(hr:r.length<=4):((List.range r.length).map fun i:Nat=>r.getD i 0 * (2 * 2 ^ i - 1)).sum=wtI 1 r:=by
 match r,hr with
 | [],_=>rfl
 | [a],_=>simp[wtI]
 | [a,b],_=>simp[wtI,xiz];lia
 | [a,b,c],_=>simp[wtI,xiz];lia
 | [a,b,c,d],_=>simp[wtI,xiz];lia
theorem zxc {r:RowI}{d:D}(hd:d=aM r)(hr:r.length<=4)(q:Q (.int (wtI 1 r)) st):WP (zp [d] st) Q:=by
 refine zll rfl ?_;simp only[W,V];rw[hd];simp only[W,V,M,Dd.N];rw[xbd];refine⟨rngN (by lia) (by lia),by rw[zdk];exact small _ (by lia),?_⟩;rw[xec];unfold rng;refine zji (as:=List.range r.length) (fun σ=>∃v,σ=[v,some (aM r)]) (fun _=>true) (fun i:Nat=>.int (r.getD i 0 * (2 * 2 ^ i - 1))) (fun i=>.int (0+(i:Int))) ⟨_,rfl⟩ ?_ ?_
 ·rintro i hi σ ⟨v,rfl⟩;have hi:i < r.length:=xck.mp hi;refine⟨_,rfl,⟨_,rfl⟩,by simp only[W,xir],fun _=>?_⟩;simp only[W,V];rw[xkm];refine zbil (xs:=r.map .int) (d:=.int (r.getD i 0)) rfl (zsa (by rw[xcc,xbg hi];simp[xbq,hi])) ?_;refine⟨⟨by lia,by lia,by decide⟩,trivial,?_⟩;rw[xec];simp only[W];have h4:i=0\/i=1\/i=2\/i=3:=by lia
  rcases h4 with rfl | rfl | rfl | rfl<;>exact⟨.inr ⟨by decide,by decide⟩,trivial,trivial⟩
 ·rw[zdv]
  try simp only[M]
  refine⟨(List.range r.length).map fun i:Nat=>r.getD i 0 * (2 * 2 ^ i - 1),?_,?_⟩
  ·have:=zem ((List.range r.length).map fun i:Nat=>r.getD i 0 * (2 * 2 ^ i - 1));rw[xcw] at this;exact this
  ·rw[zbgg hr];exact q
end
section
variable {st:Store}{k:Nat}{d:D}{Q:D->Store->Prop}
end
section
variable {st:Store}{n:Nat}{Q:D->Store->Prop}
theorem zbbk {p:Nat}{σ:DS}{s:Store}{x:D}{ys:List D}{i:Nat}(hi:σ[i]?=some (some (.ref p)))(h:s[p]?=some (.lst (x::ys))):ePopZ (aA i) (aB (eC (.int 0)) aC) σ s=.ok x (s.set p (.lst ys)):=by
 have e1:aA i σ s=.ok (.ref p) s:=by unfold aA;rw[hi]
 unfold ePopZ;rw[e1]
 show(match s[p]? with
  | some (.lst _)=>Res.bind (aB (eC (.int 0)) aC σ s) _
  | _=>.stuck)=_
 rw[h]
 show(match [D.int 0],s[p]? with
  | [.int 0],some (.lst (y::zs))=>Res.ok y (s.set p (.lst zs))
  | _,_=>.stuck)=_
 rw[h]
 rfl
end
end Dd
namespace K37
end K37
namespace Dd
open PySem L2 K13
section
variable {st:Store}{n:Nat}{Q:D->Store->Prop}
theorem zco (o o':O)(g:Store):(st++o::g).set st.length o'=st++o'::g:=by simp
theorem zbv (o:O)(g:Store):(st++o::g)[st.length]?=some o:=by simp
end
section
variable {st:Store}{n:Nat}{Q:D->Store->Prop}
end
end Dd
namespace K13
end K13
namespace Dd
open PySem L2 K13
theorem zsi {f:SE}{g:SA}{σ:DS}{st:Store}{Q:D->Store->Prop}:WP (eExtend f g σ st) Q=WP (f σ st) (fun x st1=>∃n xs0,x=.ref n/\st1[n]?=some (.lst xs0)/\WP (g σ st1) (fun ys st2=>∃y xs zs,ys=[y]/\st2[n]?=some (.lst xs)/\asL st2 y=some zs/\xs.length+zs.length<=sizeLine/\Q .non (st2.set n (.lst (xs++zs))))):=by
 rw[zuh,zk]
 congr
 funext x st1
 apply propext;constructor
 ·intro q;split at q
  ·rename_i n xs0 e;rw[zk] at q;have e':st1[n]?=some (.lst xs0):=by
    unfold asL at e;dsimp only at e;split at e
    ·cases e;assumption
    ·cases e
   refine⟨n,xs0,rfl,e',q.mono fun ys st2 h=>?_⟩;split at h
   ·split at h
    ·split at h
     ·exact⟨_,_,_,rfl,by assumption,by assumption,by assumption,h⟩
     ·exact h.elim
    ·exact h.elim
   ·exact h.elim
  ·exact q.elim
 ·rintro⟨n,xs0,rfl,e,q⟩;rw[zih e];dsimp only;rw[zk];refine q.mono fun ys st2 h=>?_
  obtain⟨y,xs,zs,rfl,e2,e3,hl,h⟩:=h;rw[e2];dsimp only;rw[e3];dsimp only;rw[if_pos hl];exact h
section
variable {st:Store}{n:Nat}{Q:D->Store->Prop}
end
end Dd
namespace Dd
open PySem L2
section
variable {st:Store}{n:Nat}{Q:D->Store->Prop}
theorem _root_.List.set_getElem_self' {α:Type}{s:List α}{m:Nat}{x:α}(h:s[m]?=some x):s.set m x=s:=by
 obtain⟨hm,rfl⟩:=xbo.mp h;exact List.set_getElem_self hm
end
end Dd
namespace K39
end K39
namespace Dd
open PySem L2
namespace Tab
abbrev RN:=List Nat
def nz (r:RN):RN:=r.foldr (fun x l=>match l with
 | []=>bif Nat.beq x 0 then[] else[x]
 | y::l=>x::y::l) []
def gt (l:RN) (p:Nat):Nat:=l.getD p 0
def put (l:RN) (p:Nat) (v:Nat):RN:=l.take p++v::l.drop (p+1)
def lo (a b:Nat):Nat:=bif Nat.ble a b then a else b
abbrev T3:=RN×RN×Nat
def plOne (a j:Nat) (p:T3) (x:Nat):List T3:=bif Nat.beq (Nat.land (gt p.1 a) x) 0 then[(put p.1 a (gt p.1 a+x),put p.2.1 (j - 1) (gt p.2.1 (j - 1) - x),p.2.2 - x * 2 ^ j)] else[]
def plAll (i j:Nat) (p:T3):List T3:=(List.range (lo (gt p.2.1 (j - 1)) (p.2.2 / 2 ^ j)+1)).flatMap (plOne (i+j - 1) j p)
def plW (i:Nat) (num:Nat) (ps:List (RN×RN)):Nat->List T3
 | 0=>ps.map fun p=>(p.1,p.2,num)
 | k+1=>(plW i num ps k).flatMap (plAll i (k+1))
def enOne (i:Nat) (p:T3):List (RN×RN):=bif Nat.beq (Nat.land (gt p.1 (i - 1)) p.2.2) 0 then[(put p.1 (i - 1) (gt p.1 (i - 1)+p.2.2),p.2.1)] else[]
def liF (i:Nat) (num:Nat) (w:Nat) (ps:List (RN×RN)):List (RN×RN):=(plW i num ps w).flatMap (enOne i)
def mbW (r s:RN):Nat->List (RN×RN)
 | 0=>[(List.replicate (r.length+s.length) 0,s)]
 | k+1=>liF (k+1) (gt r k) s.length (mbW r s k)
def topOf (p:RN×RN):RN:=p.2++List.replicate (p.1.length - p.2.length) 0
def topOne (p:RN×RN):List RN:=bif (p.1.zip (topOf p)).all fun q=>Nat.beq (Nat.land q.1 q.2) 0 then[(p.1.zip (topOf p)).map fun q=>q.1+q.2] else[]
def aO (r s:RN):List RN:=((mbW r s r.length).flatMap topOne).map nz
/- the law's side -/
def lnStep (left:RN) (j:Nat) (w:Nat×RN):List (Nat×RN):=(List.range (lo (gt left (j - 1)) (w.1 / 2 ^ j)+1)).map fun x=>(w.1 - x * 2 ^ j,w.2++[x])
def lnW (num:Nat) (left:RN):Nat->List (Nat×RN)
 | 0=>[(num,[])]
 | k+1=>(lnW num left k).flatMap (lnStep left (k+1))
def linesL (num:Nat) (left:RN):List RN:=(lnW num left 4).map fun w=>w.1::w.2
def over (left line:RN):RN:=(List.range 4).map fun j=>gt left j - gt line (j+1)
def tbStep (num:Nat) (w:List RN×RN):List (List RN×RN):=(linesL num w.2).map fun line=>(w.1++[line],over w.2 line)
def tbW (r s:RN):Nat->List (List RN×RN)
 | 0=>[([],s)]
 | k+1=>(tbW r s k).flatMap (tbStep (gt r k))
def pad (r:RN):RN:=r++List.replicate (4 - r.length) 0
def tablesL (r s:RN):List (List RN):=(tbW (pad r) (pad s) 4).map fun w=>(0::w.2)::w.1
def cel (tab:List RN) (t i:Nat):Nat:=gt (tab.getD i []) (t - i)
def ixs (t:Nat):List Nat:=(List.range 5).filter fun i=>Nat.ble i t&&Nat.blt (t - i) 5
def nums (tab:List RN) (t:Nat):RN:=(ixs t).map (cel tab t)
def free:Nat->RN->Bool
 | _,[]=>true
 | b,x::l=>bif Nat.beq (Nat.land b x) 0 then free (Nat.lor b x) l else false
def madeL (tab:List RN):Option RN:=bif (List.range 8).all fun k=>free 0 (nums tab (k+1)) then some (nz ((List.range 8).map fun k=>(nums tab (k+1)).sum)) else none
def foundL (r s:RN):List RN:=(tablesL r s).filterMap madeL
/- what is looked at -/
def smI (x:Nat):Bool:=Nat.ble x 16
def gM (n c:Nat) (ps:List (RN×RN)):Bool:=Nat.ble ps.length 100&&ps.all fun p=>Nat.beq p.1.length n&&Nat.beq p.2.length c&&p.2.all smI
def gT (n c:Nat) (ps:List T3):Bool:=Nat.ble ps.length 100&&ps.all fun p=>Nat.beq p.1.length n&&Nat.beq p.2.1.length c&&p.2.1.all smI&&smI p.2.2
def chkP (r s:RN):Bool:=((List.range (r.length+1)).all fun k=>gM (r.length+s.length) s.length (mbW r s k))&&((List.range r.length).all fun k=>(List.range (s.length+1)).all fun j=>gT (r.length+s.length) s.length (plW (k+1) (gt r k) (mbW r s k) j))
def gL (left:RN) (j:Nat) (ws:List (Nat×RN)):Bool:=Nat.ble ws.length 100&&ws.all fun w=>smI w.1&&Nat.beq w.2.length j&&(w.2.zip left).all fun q=>Nat.ble q.1 q.2
def gB (k:Nat) (ws:List (List RN×RN)):Bool:=Nat.ble ws.length 100&&ws.all fun w=>Nat.beq w.1.length k&&Nat.beq w.2.length 4&&w.2.all smI&&w.1.all fun l=>Nat.beq l.length 5
def chkL (r s:RN):Bool:=((List.range 5).all fun k=>gB k (tbW r s k))&&((List.range 4).all fun k=>(tbW r s k).all fun w=>(List.range 5).all fun j=>gL w.2 j (lnW (gt r k) w.2 j))
def chk (r s:RN):Bool:=chkP r s&&chkL (pad r) (pad s)&&decide (aO r s=foundL r s)
def wtN:Nat->RN->Nat
 | _,[]=>0
 | w,x::r=>w * x+wtN (2 * w+1) r
def cts:List RN:=(List.range 17).flatMap fun a=>(List.range 6).flatMap fun b=>(List.range 3).flatMap fun c=>(List.range 2).flatMap fun d=>bif Nat.ble (a+3 * b+7 * c+15 * d) 16 then[nz [a,b,c,d]] else[]
def chkOne (r:RN):Bool:=cts.all fun s=>bif Nat.ble (wtN 1 r+wtN 1 s) 16 then chk r s else true
def chkAll:Bool:=cts.all chkOne
end Tab
namespace Tab
theorem zev {α:Type}{bd:SG}{body:SS}{st:Store}{Q:Fl->Store->Prop}(E:α->D)(f:α->List D)(S:DS->Prop)(B:Nat){as:List α}{acc:List D}{σ:DS}{g:Store}(h0:S σ)(hB:(acc++as.flatMap f).length<=B)
  (t:∀a∈as,∀σ acc g,S σ->(acc++f a).length<=B->∃σ1,bd (E a) σ=some σ1/\∀R:Fl->Store->Prop,(∀σ' g',S σ'->R (.nx σ') (st++(.lst (acc++f a)::g')))->WP (body σ1 (st++(.lst acc::g))) R)
  (q:∀σ' g',S σ'->Q (.nx σ') (st++(.lst (acc++as.flatMap f)::g'))):WP (forF bd body (as.map E) σ (st++(.lst acc::g))) Q:=by
 refine zhj (fun i σ s=>∃g,S σ/\s=st++(.lst (acc++(as.take i).flatMap f)::g)) ⟨g,h0,by simp⟩ ?_ ?_
 ·rintro i x σ s hx ⟨g,hS,rfl⟩;rw[xcc] at hx;obtain⟨z,hz,rfl⟩:=xco.mp hx;have e:(as.take (i+1)).flatMap f=(as.take i).flatMap f++f z:=by rw[zbm hz,xix];simp
  have hl:((as.take (i+1)).flatMap f).length<=(as.flatMap f).length:=by
   conv=>rhs;rw[← xfv (i+1) as,xix,xbs]
   lia
  rw[e] at hl;rw[xbs] at hB hl;obtain⟨σ1,e1,w⟩:=t z (xch hz) σ (acc++(as.take i).flatMap f) g hS (by simp only[xbs];lia);refine⟨σ1,e1,w _ fun σ' g' h'=>?_⟩;simp only[L];exact⟨g',h',by rw[e,xbr]⟩
 ·rintro σ s ⟨g,hS,rfl⟩;rw[xbd,xda];exact q _ _ hS
abbrev nI (n:Nat):D:=.int (n:Int)
abbrev rz (l:RN):D:=.tup (l.map nI)
def t3D (p:T3):D:=.tup [rz p.1,rz p.2.1,nI p.2.2]
def p2D (p:RN×RN):D:=.tup [rz p.1,rz p.2]
theorem ixz {l:RN}{p:Nat}(h:p < l.length)(s:Store):oIx (rz l) (.int p) s=.ok (nI (gt l p)) s :=
 zir rfl (zon (j:=p) (xs:=l.map nI) (by rw[xcc,xbg h];unfold gt;rw[xbq,xbg h];rfl))
section
variable {st:Store}{Q:D->Store->Prop}
theorem zzo {l:RN}{p v:Nat}{b:Int}(h:p < l.length)(hl:l.length<=100)(hv:(gt l p:Int)+b=v)(q:Q (rz (put l p v)) st):WP (zdg [rz l,.int p,.int b] st) Q:=by
 refine zll rfl ?_;simp only[W,V,M,Dd.N];refine WP.of (ixz h st) ?_;simp only[W,V,M,Dd.N];rw[zbez,show((p:Int)+1)=((p+1:Nat):Int) by push_cast;rfl,zzl,hv,← List.map_take,← List.map_drop];refine⟨by show 1<=sizeLine;decide,small _ (by simp;lia),small _ (by simp;lia),?_⟩;have e:(l.take p).map nI++[D.int (v:Int)]++(l.drop (p+1)).map nI=(put l p v).map nI:=by unfold put;simp
 rw[e];exact q
end
theorem zbgb (a b:Nat):(if(b:Int) < (a:Int) then(b:Int) else(a:Int))=(lo a b:Nat):=by
 unfold lo;cases c:Nat.ble a b with
 | true=>have:=xcy c;rw[if_neg (by lia)];rfl
 | false =>
  have:¬ a<=b:=fun z=>by rw[xih z] at c;cases c
  rw[if_pos (by lia)];rfl
theorem zyg (a b:Nat):lo a b<=a:=by have:=zbgb a b;split at this<;>lia
theorem zbig (a b:Nat):lo a b<=b:=by have:=zbgb a b;split at this<;>lia
theorem zry (a b:Nat):(Builtin.bitAnd (a:Int) (b:Int)=0)=(Nat.beq (Nat.land a b) 0=true):=by
 apply propext;rw[show Builtin.bitAnd (a:Int) (b:Int)=((Nat.land a b:Nat):Int) from rfl,Nat.beq_eq];lia
theorem zsy (n:Nat):rng 0 n=(List.range n).map nI:=by
 unfold rng;exact xgk fun i _=>by rw[xkm]
end Tab
namespace Tab
section
variable {st:Store}
theorem zbmk {v0 v1:Option D}{a j x:Nat}{p:T3}{acc:List D}{g:Store}{R:Fl->Store->Prop}(ha:a < p.1.length)(h1:p.1.length<=100)(hj:1<=j)(hj2:j<=4)(hc:j - 1 < p.2.1.length)(h2:p.2.1.length<=100)
  (hx1:x<=gt p.2.1 (j - 1))(hx2:x * 2 ^ j<=p.2.2)(hx3:x<=1000)(hB:(acc++(plOne a j p x).map t3D).length<=1000)
  (q:R (.nx [v0,v1,some (nI j),some (nI a),some (.ref st.length),some (rz p.1),some (rz p.2.1),some (nI p.2.2),some (nI x)]) (st++(.lst (acc++(plOne a j p x).map t3D)::g))) :
  WP (zcn [v0,v1,some (nI j),some (nI a),some (.ref st.length),some (rz p.1),some (rz p.2.1),some (nI p.2.2),some (nI x)] (st++(.lst acc::g))) R:=by
 unfold zcn;simp only[W,V];refine WP.of (ixz ha _) ?_;simp only[W,V,zry,Dd.N];unfold plOne at q hB;cases c:Nat.beq (Nat.land (gt p.1 a) x) 0 with
 | false =>
  rw[c] at q;rw[if_neg (by decide)]
  simpa using q
 | true =>
  rw[c] at q hB;rw[if_pos rfl];simp only[W,V,M];have hac:acc.length<=999:=by simpa using hB
  refine⟨_,_,rfl,zbv _ _,zzo ha h1 (v:=gt p.1 a+x) (by push_cast;rfl) ?_⟩;have ej:((j:Int) - 1)=((j - 1:Nat):Int):=by lia
  rw[ej];refine⟨trivial,zzo hc h2 (v:=gt p.2.1 (j - 1) - x) (by lia) ?_⟩;refine⟨⟨by lia,by lia,by rw[Int.natAbs_natCast];exact xcs hx3 (by decide)⟩,trivial,by show 3<=sizeLine;decide,_,_,rfl,zbv _ _,smallT _ (by lia),?_⟩;rw[zco];have e2:(p.2.2:Int) - (x:Int) * 2 ^ (j:Int).toNat=((p.2.2 - x * 2 ^ j:Nat):Int):=by
   rw[xec,Int.ofNat_sub hx2]
   push_cast
   rfl
  rw[e2];exact q
theorem zbcx {l:RN}{p b:Nat}(h:∀x∈l,x<=b):gt l p<=b:=by
 unfold gt;rw[xbq];cases e:l[p]? with
 | none=>exact xed _
 | some x=>exact h x (xch e)
theorem znr {x a b j:Nat}(h:x∈List.range (lo a (b / 2 ^ j)+1)):x<=a/\x * 2 ^ j<=b:=by
 have h:=xck.mp h;have h1:=zyg a (b / 2 ^ j);have h2:=zbig a (b / 2 ^ j);exact⟨by lia,xbc (Nat.mul_le_mul_right _ (by lia:x<=b / 2 ^ j)) (Nat.div_mul_le_self _ _)⟩
theorem zbax (a j:Nat):(a:Int) / 2 ^ (j:Int).toNat=((a / 2 ^ j:Nat):Int):=by
 rw[xec]
 push_cast
 rfl
structure Ok3 (n c:Nat) (p:T3):Prop where
 l1:p.1.length=n
 l2:p.2.1.length=c
 sm:∀x∈p.2.1,x<=16
 le:p.2.2<=16
theorem zxk {n c i j:Nat}{ps:List T3}{Q:D->Store->Prop}(hi:1<=i)(hj:1<=j)(hj4:j<=4)(ha:i+j - 1 < n)(hc:j - 1 < c)(hn:n<=8)(hc4:c<=4)(gp:∀p∈ps,Ok3 n c p)(hB:(ps.flatMap (plAll i j)).length<=100)
  (k:∀g,Q (.lst ((ps.flatMap (plAll i j)).map t3D)) (st++g)):WP (zce [.lst (ps.map t3D),nI i,nI j] st) Q:=by
 refine zll rfl ?_;have es:((i:Int)+(j:Int) - 1)=((i+j - 1:Nat):Int):=by lia
 have ej:((j:Int) - 1)=((j - 1:Nat):Int):=by lia
 simp only[W,V,Dd.N,es];refine⟨by decide,?_⟩;refine zev t3D (fun p=>(plAll i j p).map t3D) (fun σ=>∃v5 v6 v7 v8:Option D,σ=[some (.lst (ps.map t3D)),some (nI i),some (nI j),some (nI (i+j - 1)),some (.ref st.length),v5,v6,v7,v8]) 1000 ⟨_,_,_,_,rfl⟩ (by rw[xfb,← xdz,xbd];lia) ?_ ?_
 ·rintro p hp σ acc g ⟨v5,v6,v7,v8,rfl⟩ hB1;obtain⟨o1,o2,o3,o4⟩:=gp p hp;refine⟨_,rfl,fun R kk=>?_⟩;unfold zea;simp only[W,V,Dd.N,ej];refine WP.of (ixz (by lia) _) ?_;simp only[W,V,Dd.N,zbax,zbgb];have hlo:=zyg (gt p.2.1 (j - 1)) (p.2.2 / 2 ^ j);have hg:=zbcx (p:=j - 1) o3;refine⟨by lia,rngN (by lia) (by lia),?_⟩;rw[show((lo (gt p.2.1 (j - 1)) (p.2.2 / 2 ^ j):Nat)+1:Int).toNat=lo (gt p.2.1 (j - 1)) (p.2.2 / 2 ^ j)+1 by lia,zsy];unfold plAll at hB1 kk;rw[xdz] at hB1 kk;refine zev nI (fun x=>(plOne (i+j - 1) j p x).map t3D) (fun σ=>∃v8:Option D,σ=[some (.lst (ps.map t3D)),some (nI i),some (nI j),some (nI (i+j - 1)),some (.ref st.length),some (rz p.1),some (rz p.2.1),some (nI p.2.2),v8]) 1000 ⟨_,rfl⟩ hB1 ?_ ?_
  ·rintro x hx σ acc g ⟨v8,rfl⟩ hB2;obtain⟨x1,x2⟩:=znr hx;refine⟨_,rfl,fun R kk=>?_⟩;exact zbmk (by lia) (by lia) hj hj4 (by lia) (by lia) x1 x2 (by lia) hB2 (kk _ _ ⟨_,rfl⟩)
  ·rintro σ g ⟨v8,rfl⟩;exact kk _ _ ⟨_,_,_,_,rfl⟩
 ·rintro σ g ⟨v5,v6,v7,v8,rfl⟩;simp only[W,V,M];refine⟨_,_,rfl,zbv _ _,?_⟩;rw[zco,← xdz];exact k _
theorem zbdb {n c i num w:Nat}{ps:List (RN×RN)}{Q:D->Store->Prop}(hi:1<=i)(ha:i+c<=n)(hw:w=c)(hn:n<=8)(hc4:c<=4)(hl:ps.length<=100)(gp:∀j,j<=c->(plW i num ps j).length<=100/\∀p∈plW i num ps j,Ok3 n c p)(hB:(liF i num c ps).length<=100)
  (k:∀g,Q (.lst ((liF i num c ps).map p2D)) (st++g)):WP (zck [.lst (ps.map p2D),nI i,nI num,nI w] st) Q:=by
 subst hw;refine zll rfl ?_;have ei:((i:Int) - 1)=((i - 1:Nat):Int):=by lia
 simp only[W,V,Dd.N];refine⟨by rw[xbd];exact small _ (by lia),?_⟩;refine zji (as:=ps) (fun σ=>∃a b,σ=[a,b,some (nI num)]) (fun _=>true) (fun p=>t3D (p.1,p.2,num)) p2D ⟨_,_,rfl⟩ ?_ ?_
 ·rintro p hp σ ⟨a,b,rfl⟩;refine⟨_,rfl,⟨_,_,rfl⟩,by simp only[W,xir],fun _=>?_⟩;simp only[W,V];exact⟨by show 3<=sizeLine;decide,trivial,rfl⟩
 rw[zdv];have e0:ps.map (fun p=>t3D (p.1,p.2,num))=(plW i num ps 0).map t3D:=by show _=(ps.map _).map _;rw[xcw];rfl
 rw[e0];refine⟨rngN (by lia) (by lia),rngN (by lia) (by lia),?_⟩;refine zhj (fun j σ s=>(∃v5:Option D,σ=[some (.lst (ps.map p2D)),some (nI i),some (nI num),some (nI w),some (.lst ((plW i num ps j).map t3D)),v5,none,none,none,none])/\∃g,s=st++g) ⟨⟨_,rfl⟩,[],by simp⟩ ?_ ?_
 ·rintro j x σ s hx ⟨⟨v5,rfl⟩,g,rfl⟩;obtain⟨hj,rfl⟩:=zix hx;refine⟨_,rfl,?_⟩;unfold zep;simp only[W,V,L];rw[show((1:Int)+(j:Int))=((j+1:Nat):Int) by lia];have hj:j < w:=by lia
  have g1:=gp j (by lia);have g2:=gp (j+1) (by lia);refine zxk (n:=n) (c:=w) hi (by lia) (by lia) (by lia) (by lia) hn hc4 g1.2 g2.1 fun g'=>?_
  exact⟨⟨_,rfl⟩,g++g',by rw[xbr]⟩
 ·rintro σ s ⟨⟨v5,rfl⟩,g,rfl⟩;rw[zdk,show((w:Int)+1 - 1).toNat=w by lia];simp only[W,V,Dd.N];refine⟨by decide,?_⟩;refine zev t3D (fun p=>(enOne i p).map p2D) (fun σ=>∃v7 v8 v9:Option D,σ=[some (.lst (ps.map p2D)),some (nI i),some (nI num),some (nI w),some (.lst ((plW i num ps w).map t3D)),v5,some (.ref (st++g).length),v7,v8,v9]) 1000 ⟨_,_,_,rfl⟩ (by rw[xfb,← xdz,xbd];unfold liF at hB;lia) ?_ ?_
  ·rintro p hp σ acc g1 ⟨v7,v8,v9,rfl⟩ hB1;obtain⟨o1,o2,o3,o4⟩:=(gp w (xbf _)).2 p hp;refine⟨_,rfl,fun R kk=>?_⟩;unfold zeo;simp only[W,V,Dd.N,ei];refine WP.of (ixz (by lia) _) ?_;simp only[W,V,Dd.N,zry];unfold enOne at kk hB1;cases c:Nat.beq (Nat.land (gt p.1 (i - 1)) p.2.2) 0 with
   | false =>
    rw[c] at kk;rw[if_neg (by decide)];have:=kk [some (.lst (ps.map p2D)),some (nI i),some (nI num),some (nI w),some (.lst ((plW i num ps w).map t3D)),v5,some (.ref (st++g).length),some (rz p.1),some (rz p.2.1),some (nI p.2.2)] g1 ⟨_,_,_,rfl⟩
    simpa using this
   | true =>
    rw[c] at kk hB1;rw[if_pos rfl];have hac:acc.length<=999:=by simpa using hB1
    simp only[W,V,M,ei];refine⟨_,_,rfl,zbv _ _,trivial,zzo (by lia) (by lia) (v:=gt p.1 (i - 1)+p.2.2) (by push_cast;rfl) ?_⟩;refine⟨by show 2<=sizeLine;decide,_,_,rfl,zbv _ _,smallT _ (by lia),?_⟩;rw[zco];exact kk _ _ ⟨_,_,_,rfl⟩
  ·rintro σ g1 ⟨v7,v8,v9,rfl⟩;simp only[W,V,M];refine⟨_,_,rfl,zbv _ _,?_⟩;rw[zco,← xdz,xbr];exact k _
end
end Tab
namespace Tab
section
variable {st:Store}
theorem zhd {m:Nat}{s:Store}(h2:m<=1000):oMulT (.tup [.int 0]) (.int m) s=.ok (rz (List.replicate m 0)) s:=by
 unfold oMulT;dsimp only;rw[if_pos ⟨by simp,by lia,by lia,by simp;lia⟩];unfold timesL
 congr 2
 rw[xec]
 induction m with
 | zero=>rfl
 | succ k ih=>rw[xeo,xgf,ih (by lia),xeo];rfl
theorem zqj:∀(a b:RN),pairsF (a.map nI) (b.map nI)=(a.zip b).map fun q=>D.tup [nI q.1,nI q.2]
 | [],_=>by simp[pairsF]
 | _::_,[]=>by simp[pairsF]
 | x::a,y::b=>by
  rw[xbp,xbp,pairsF,zqj a b,xkt,xbp]
theorem zbgm {n c:Nat}{ps:List (RN×RN)}{Q:D->Store->Prop}(hn:n<=8)(hcn:c<=n)(hl:ps.length<=100)(gp:∀p∈ps,p.1.length=n/\p.2.length=c)
  (k:∀g,Q (.lst ((ps.flatMap topOne).map rz)) (st++g)):WP (zcw [.lst (ps.map p2D)] st) Q:=by
 refine zll rfl ?_;simp only[W,V,Dd.N];refine⟨by decide,?_⟩;have hB:(ps.flatMap fun p=>(topOne p).map rz).length<=1000:=by
  have:∀qs:List (RN×RN),(qs.flatMap fun p=>(topOne p).map rz).length<=qs.length:=fun qs=>by
   induction qs with
   | nil=>simp
   | cons a qs ih =>
    rw[xlh,xbs,xbx];have:((topOne a).map rz).length<=1:=by
     unfold topOne;cases((a.1.zip (topOf a)).all fun q=>Nat.beq (Nat.land q.1 q.2) 0)<;>simp
    lia
  have:=this ps;lia
 refine zev p2D (fun p=>(topOne p).map rz) (fun σ=>∃v2 v3 v4:Option D,σ=[some (.lst (ps.map p2D)),some (.ref st.length),v2,v3,v4]) 1000 ⟨_,_,_,rfl⟩ (by rw[xfb];exact hB) ?_ ?_
 ·rintro p hp σ acc g ⟨v2,v3,v4,rfl⟩ hB1;obtain⟨o1,o2⟩:=gp p hp;refine⟨_,rfl,fun R kk=>?_⟩;unfold zez;simp only[W,V,Dd.N];refine⟨by show 1<=sizeLine;decide,?_⟩;rw[show(((p.1.map nI).length:Nat):Int) - (((p.2.map nI).length:Nat):Int)=((p.1.length - p.2.length:Nat):Int) by rw[xbd,xbd];lia];refine WP.of (zhd (by lia)) ?_;simp only[W,V,Dd.N];rw[← xdr,show p.2++List.replicate (p.1.length - p.2.length) 0=topOf p from rfl];have hz:(p.1.zip (topOf p)).length<=8:=by rw[xlx];lia
  refine⟨small _ (by simp;lia),?_⟩;simp only[W,V,M,Dd.N,zqj];refine⟨by rw[xbd];exact small _ (by lia),?_⟩;refine zji (as:=p.1.zip (topOf p)) (fun σ=>∃a b,σ=[a,b]) (fun _=>true) (fun q=>.bl (Nat.beq (Nat.land q.1 q.2) 0)) (fun q=>D.tup [nI q.1,nI q.2]) ⟨_,_,rfl⟩ ?_ ?_
  ·rintro q hq σ ⟨a,b,rfl⟩;refine⟨_,rfl,⟨_,_,rfl⟩,by simp only[W,xir],fun _=>?_⟩;simp only[W,V,Dd.N,zry]
   congr 1
   cases Nat.beq (Nat.land q.1 q.2) 0<;>rfl
  rw[zdv];refine⟨_,(by exact zjh _ _),?_⟩;have ea:((p.1.zip (topOf p)).map fun q=>Nat.beq (Nat.land q.1 q.2) 0).all id=(p.1.zip (topOf p)).all fun q=>Nat.beq (Nat.land q.1 q.2) 0:=by
   rw[List.all_map];rfl
  simp only[xfz,ea];unfold topOne at kk hB1;cases c:(p.1.zip (topOf p)).all fun q=>Nat.beq (Nat.land q.1 q.2) 0 with
  | false =>
   rw[c] at kk;simp only[W,V];have:=kk [some (.lst (ps.map p2D)),some (.ref st.length),some (rz p.1),some (rz p.2),some (rz (topOf p))] g ⟨_,_,_,rfl⟩
   simpa using this
  | true =>
   rw[c] at kk hB1;have hac:acc.length<=999:=by simpa using hB1
   simp only[W,V,M,Dd.N,zqj];refine⟨_,_,rfl,zbv _ _,by rw[xbd];exact small _ (by lia),?_⟩;refine zji (as:=p.1.zip (topOf p)) (fun σ=>∃a b,σ=[a,b]) (fun _=>true) (fun q=>nI (q.1+q.2)) (fun q=>D.tup [nI q.1,nI q.2]) ⟨_,_,rfl⟩ ?_ ?_
   ·rintro q hq σ ⟨a,b,rfl⟩;refine⟨_,rfl,⟨_,_,rfl⟩,by simp only[W,xir],fun _=>?_⟩;simp only[W,V,Dd.N]
    push_cast
    rfl
   rw[zdv];refine⟨_,_,rfl,zbv _ _,smallT _ (by lia),?_⟩;rw[zco];have:=kk [some (.lst (ps.map p2D)),some (.ref st.length),some (rz p.1),some (rz p.2),some (rz (topOf p))] g ⟨_,_,_,rfl⟩;have t:List.map rz (bif true then[(p.1.zip (topOf p)).map fun q=>q.1+q.2] else[])=[D.tup ((p.1.zip (topOf p)).map fun q=>nI (q.1+q.2))]:=by
    show[rz _]=_;unfold rz;rw[xcw]
    rfl
   rw[t] at this;exact this
 ·rintro σ g ⟨v2,v3,v4,rfl⟩;simp only[W,V,M];refine⟨_,_,rfl,zbv _ _,?_⟩;rw[zco,← xdz];exact k _
theorem zmf (l:RN):nz (l++[0])=nz l:=by
 unfold nz;rw[List.foldr_append]
 rfl
theorem zqq {l:RN}{x:Nat}(h:x≠0):nz (l++[x])=l++[x]:=by
 have hb:Nat.beq x 0=false:=by
  cases e:Nat.beq x 0 with
  | true=>exact absurd (xdn e) h
  | false=>rfl
 induction l with
 | nil=>unfold nz;simp only[xfb,List.foldr_cons,List.foldr_nil,hb,cond_false]
 | cons y l ih =>
  unfold nz at ih ⊢;rw[xhh,List.foldr_cons,ih];cases l<;>rfl
theorem zje (r:RN):r=[]\/∃l x,r=l++[x]:=by
 rcases List.eq_nil_or_concat r with h | ⟨l,x,h⟩
 ·exact .inl h
 ·exact .inr ⟨l,x,by simpa using h⟩
theorem zbic {l:RN}{x:Nat}{s:Store}{v:Option D}{n:Nat}(hn:s[n]?=some (.lst ((l++[x]).map nI))):ePop (aA 1) [v,some (.ref n)] s=.ok (nI x) (s.set n (.lst (l.map nI))):=by
 have hl:((l++[x]).map nI)=l.map nI++[nI x]:=by simp
 show(match s[n]? with
  | some (.lst xs)=>match xs[xs.length - 1]? with
   | some y=>Res.ok y (s.set n (.lst xs.dropLast))
   | none=>.stuck
  | _=>.stuck)=_
 rw[hn,hl];simp
theorem zbmz {r:RN}{Q:D->Store->Prop}(hr:r.length<=1000)(k:∀g,Q (rz (nz r)) (st++g)):WP (zbk [rz r] st) Q:=by
 refine zll rfl ?_;refine zcb (R:=fun fl s=>fl=.nx [some (rz r),some (.ref st.length)]/\s=st++[.lst (r.map nI)]) ?_ ?_
 ·simp only[W,V];exact WP.of (show bListM [rz r] st=.ok (.ref st.length) (st++[.lst (r.map nI)]) from rfl) ⟨rfl,rfl⟩
 rintro fl s ⟨rfl,rfl⟩;show WP _ _;refine zcb (R:=fun fl s=>fl=.nx [some (rz r),some (.ref st.length)]/\s=st++[.lst ((nz r).map nI)]) ?_ ?_
 ·refine zlj (fun m σ s=>∃xs:RN,m=xs.length/\σ=[some (rz r),some (.ref st.length)]/\s=st++[.lst (xs.map nI)]/\nz xs=nz r) (k:=r.length) ⟨r,rfl,rfl,rfl,rfl⟩ (by lia) ?_;rintro j σ s ⟨xs,rfl,rfl,rfl,hx⟩;have hn:(st++[O.lst (xs.map nI)])[st.length]?=some (.lst (xs.map nI)):=by simp
  rcases zje xs with rfl | ⟨l,x,rfl⟩
  ·simp only[W,V];refine⟨false,?_,?_⟩
   ·show(asL (st++[O.lst []]) (.ref st.length)).map (fun xs=>!xs.isEmpty)=some false;rw[zih (xs:=[]) (by simp)]
    rfl
   ·simp only[W,V];rw[← hx];exact⟨trivial,rfl⟩
  ·have hl:((l++[x]).map nI)=l.map nI++[nI x]:=by simp
   simp only[W,V];refine⟨true,?_,?_⟩
   ·show(asL (st++[O.lst ((l++[x]).map nI)]) (.ref st.length)).map (fun xs=>!xs.isEmpty)=some true;rw[zih hn,hl];simp
   ·simp only[W,V];refine WP.of (zir (zdq hn) (by rw[hl];exact zsb _ _)) ?_;simp only[W,V];by_cases c:(x:Int)=0
    ·rw[if_pos c];have c0:x=0:=by lia
     subst c0;unfold zbb;simp only[W];refine WP.of (zbic hn) ?_;simp only[L];exact⟨l.length,by simp,l,rfl,trivial,by rw[zco],by rw[← hx,zmf]⟩
    ·rw[if_neg c];rw[← hx,zqq (by lia)];exact⟨trivial,rfl⟩
 rintro fl s ⟨rfl,rfl⟩;show WP _ _;simp only[W,V];refine WP.of (zlf (xs:=(nz r).map nI) (by simp)) ?_;exact k _
end
end Tab
end Dd
namespace Dd
open PySem L2 K07 K23
end Dd
namespace Dd
open PySem L2
namespace Tab
def aN (l:RN):RowI:=l.map fun(n:Nat)=>(n:Int)
def unc (r:RowI):RN:=r.map Int.toNat
theorem zec (l:RN):unc (aN l)=l:=by
 unfold unc aN;rw[xcw]
 induction l with
 | nil=>rfl
 | cons a l ih=>rw[xbp,ih];simp
theorem ziw (l:RN):rz l=aM (aN l):=by
 unfold rz aM aN;rw[xcw]
 rfl
theorem zpv (l:List RN):l.map rz=aJ (l.map aN):=by
 unfold aJ;rw[xcw];exact xgk fun x _=>ziw x
theorem zmu:∀(l:RN) (w:Nat),wtI (w:Int) (aN l)=(wtN w l:Nat)
 | [],_=>rfl
 | x::l,w=>by
  have:=zmu l (2 * w+1);unfold aN at this ⊢;rw[xbp,wtI,wtN,show(2 * (w:Int)+1)=((2 * w+1:Nat):Int) by push_cast;rfl,this]
  push_cast
  rfl
theorem zo {a b:Bool}(h:(a&&b)=true):a=true/\b=true:=by simpa using h
structure GM (n c:Nat) (ps:List (RN×RN)):Prop where
 len:ps.length<=100
 l1:∀p∈ps,p.1.length=n/\p.2.length=c
theorem zblt {n c:Nat}{ps:List (RN×RN)}(h:gM n c ps=true):GM n c ps:=by
 obtain⟨h1,h2⟩:=zo h;refine⟨xcy h1,fun p hp=>?_⟩;have:=xcg.mp h2 p hp;obtain⟨h3,h4⟩:=zo this;obtain⟨h5,h6⟩:=zo h3;exact⟨xdn h5,xdn h6⟩
theorem zbnc {n c:Nat}{ps:List T3}(h:gT n c ps=true):ps.length<=100/\∀p∈ps,Ok3 n c p:=by
 obtain⟨h1,h2⟩:=zo h;refine⟨xcy h1,fun p hp=>?_⟩;have:=xcg.mp h2 p hp;obtain⟨h3,h4⟩:=zo this;obtain⟨h5,h6⟩:=zo h3;obtain⟨h7,h8⟩:=zo h5;exact⟨xdn h7,xdn h8,fun x hx=>xcy (xcg.mp h6 x hx),xcy h4⟩
theorem zvh (ps:List (RN×RN)):(ps.flatMap topOne).length<=ps.length:=by
 induction ps with
 | nil=>simp
 | cons a qs ih =>
  rw[xlh,xbs,xbx];have:(topOne a).length<=1:=by
   unfold topOne;cases((a.1.zip (topOf a)).all fun q=>Nat.beq (Nat.land q.1 q.2) 0)<;>simp
  lia
theorem zno {r s:RN}(ck:chkP r s=true):(aO r s).length<=100:=by
 obtain⟨c1,c2⟩:=zo ck;have hM:=zblt (xcg.mp c1 r.length (xck.mpr (by lia)));unfold aO;rw[xbd];have:=zvh (mbW r s r.length);have:=hM.len;lia
section
variable {st:Store}
theorem zbda {r s:RN}{Q:D->Store->Prop}(hr:r.length<=4)(hs:s.length<=4)(ck:chkP r s=true)(k:∀g,Q (.lst ((aO r s).map rz)) (st++g)):WP (zbp [rz r,rz s] st) Q:=by
 obtain⟨c1,c2⟩:=zo ck;have hM:∀k,k<=r.length->GM (r.length+s.length) s.length (mbW r s k):=fun k hk=>zblt (xcg.mp c1 k (xck.mpr (by lia)))
 have hT:∀k,k < r.length->∀j,j<=s.length->(plW (k+1) (gt r k) (mbW r s k) j).length<=100/\∀p∈plW (k+1) (gt r k) (mbW r s k) j,Ok3 (r.length+s.length) s.length p:=fun k hk j hj=>zbnc (xcg.mp (xcg.mp c2 k (xck.mpr hk)) j (xck.mpr (by lia)))
 refine zll rfl ?_;simp only[W,V,Dd.N];refine⟨by show 1<=sizeLine;decide,?_⟩;rw[show((((r.map nI).length:Nat):Int)+(((s.map nI).length:Nat):Int))=((r.length+s.length:Nat):Int) by rw[xbd,xbd];push_cast;rfl];refine WP.of (zhd (by lia)) ?_;refine⟨by show 2<=sizeLine;decide,by show 1<=sizeLine;decide,?_⟩;refine WP.of (show iEnum (aA 0) [some (rz r),some (rz s),some (.lst [D.tup [rz (List.replicate (r.length+s.length) 0),rz s]]),none,none] st=.ok (numF 1 (r.map nI)) st from rfl) ?_;refine zhj (fun i σ t=>(∃v3 v4:Option D,σ=[some (rz r),some (rz s),some (.lst ((mbW r s i).map p2D)),v3,v4])/\∃g,t=st++g) ⟨⟨_,_,rfl⟩,[],by simp⟩ ?_ ?_
 ·rintro i x σ t hx ⟨⟨v3,v4,rfl⟩,g,rfl⟩;obtain⟨y,hy,rfl⟩:=zmg hx;rw[xcc] at hy;obtain⟨n,hn,rfl⟩:=xco.mp hy;have hi:i < r.length:=by
   rcases xeh i r.length with h | h
   ·exact h
   ·rw[xer h] at hn;cases hn
  have en:n=gt r i:=by unfold gt;rw[xbq,hn];rfl
  subst en;refine⟨_,rfl,?_⟩;unfold zdf;simp only[W,V,L];rw[show(1:Int)+(i:Int)=((i+1:Nat):Int) by lia,show(((s.map nI).length:Nat):Int)=((s.length:Nat):Int) by rw[xbd]];refine zbdb (n:=r.length+s.length) (c:=s.length) (by lia) (by lia) rfl (by lia) hs (hM i (by lia)).len (hT i hi) (hM (i+1) (by lia)).len fun g'=>?_
  exact⟨⟨_,_,rfl⟩,g++g',by rw[xbr]⟩
 ·rintro σ t ⟨⟨v3,v4,rfl⟩,g,rfl⟩;rw[zgp,xbd];simp only[W,V];have hL:=hM r.length (xbf _);refine zbgm (n:=r.length+s.length) (c:=s.length) (by lia) (by lia) hL.len hL.l1 fun g1=>?_
  simp only[W,V,Dd.N];have h3:=zvh (mbW r s r.length);have h4:=hL.len;refine⟨by rw[xbd];exact small _ (by lia),?_⟩;have hrow:∀l∈(mbW r s r.length).flatMap topOne,l.length<=8:=fun l hl=>by
   obtain⟨p,hp,hl⟩:=xio.mp hl;have:=hL.l1 p hp;unfold topOne at hl;cases c:((p.1.zip (topOf p)).all fun q=>Nat.beq (Nat.land q.1 q.2) 0) with
   | false=>rw[c] at hl;simp at hl
   | true =>
    rw[c] at hl;rw[xbl.mp hl,xbd,xlx];lia
  refine zkc (fun j acc σ t=>(∃v,σ=[v])/\acc=((((mbW r s r.length).flatMap topOne).take j).map nz).map rz/\∃g,t=st++g) ⟨⟨_,rfl⟩,rfl,g++g1,by rw[xbr]⟩ ?_ ?_
  ·rintro j x acc σ t hx ⟨⟨v,rfl⟩,rfl,g2,rfl⟩;rw[xcc] at hx;obtain⟨l,hl,rfl⟩:=xco.mp hx;refine⟨_,rfl,?_⟩;simp only[W,V];refine zbmz (by have:=hrow l (xch hl);lia) fun g3=>?_
   exact⟨⟨_,rfl⟩,by rw[zbm hl,xdr,xdr];rfl,g2++g3,by rw[xbr]⟩
  ·rintro ys σ t ⟨⟨v,rfl⟩,rfl,g2,rfl⟩;rw[xbd,xda];exact k _
def mk (r s:RowI):List RowI:=(aO (unc r) (unc s)).map aN
structure Pr (r s:RowI) (rn sn:RN):Prop where
 er:r=aN rn
 es:s=aN sn
 lr:rn.length<=4
 ls:sn.length<=4
 wt:wtN 1 rn+wtN 1 sn<=16
 ck:chk rn sn=true
theorem zhz {α β:Type}{f:α->List β}{c:Nat}:∀{l:List α},(∀x∈l,(f x).length<=c)->(l.flatMap f).length<=c * l.length
 | [],_=>by simp
 | a::l,h=>by
  have h1:=h a (by simp);have h2:=zhz (l:=l) fun x hx=>h x (xcq _ hx)
  rw[xlh,xbs,xbx,Nat.mul_succ];lia
theorem ztm (A:List RowI)(x:RowI):aQ (A++[x])=aS (aQ A) x:=by
 unfold aQ;rw[List.foldl_append]
 rfl
end
end Tab
namespace Tab
def prN (w:Nat×RN):D:=.tup [nI w.1,rz w.2]
def tbD (w:List RN×RN):D:=.tup [.tup (w.1.map rz),rz w.2]
def tabD (t:List RN):D:=.tup (t.map rz)
structure OkL (left:RN) (j:Nat) (w:Nat×RN):Prop where
 sm:w.1<=16
 len:w.2.length=j
 le:∀q∈w.2.zip left,q.1<=q.2
theorem zbnd {left:RN}{j:Nat}{ws:List (Nat×RN)}(h:gL left j ws=true):ws.length<=100/\∀w∈ws,OkL left j w:=by
 obtain⟨h1,h2⟩:=zo h;refine⟨xcy h1,fun p hp=>?_⟩;have:=xcg.mp h2 p hp;obtain⟨h3,h4⟩:=zo this;obtain⟨h5,h6⟩:=zo h3;exact⟨xcy h5,xdn h6,fun q hq=>xcy (xcg.mp h4 q hq)⟩
structure OkB (k:Nat) (w:List RN×RN):Prop where
 l1:w.1.length=k
 l2:w.2.length=4
 sm:∀x∈w.2,x<=16
 rows:∀l∈w.1,l.length=5
theorem zblu {k:Nat}{ws:List (List RN×RN)}(h:gB k ws=true):ws.length<=100/\∀w∈ws,OkB k w:=by
 obtain⟨h1,h2⟩:=zo h;refine⟨xcy h1,fun p hp=>?_⟩;have:=xcg.mp h2 p hp;obtain⟨h3,h4⟩:=zo this;obtain⟨h5,h6⟩:=zo h3;obtain⟨h7,h8⟩:=zo h5;exact⟨xdn h7,xdn h8,fun x hx=>xcy (xcg.mp h6 x hx),fun l hl=>xdn (xcg.mp h4 l hl)⟩
section
variable {st:Store}
theorem zyi {num:Nat}{left:RN}{Q:D->Store->Prop}(h4:left.length=4)(hsm:∀x∈left,x<=16)(hg:∀j,j<=4->(lnW num left j).length<=100/\∀w∈lnW num left j,OkL left j w)
  (k:∀g,Q (.lst ((linesL num left).map rz)) (st++g)):WP (zdo [nI num,rz left] st) Q:=by
 refine zll rfl ?_;simp only[W,V,Dd.N];refine⟨by show 0<=sizeLine;decide,by show 2<=sizeLine;decide,by show 1<=sizeLine;decide,rngN (by lia) (by lia),rngN (by lia) (by lia),?_⟩;refine zhj (fun j σ s=>(∃v3 v4 v5 v6 v7:Option D,σ=[some (nI num),some (rz left),some (.lst ((lnW num left j).map prN)),v3,v4,v5,v6,v7])/\∃g,s=st++g) ⟨⟨_,_,_,_,_,rfl⟩,[],by simp⟩ ?_ ?_
 ·rintro j x σ s hx ⟨⟨v3,v4,v5,v6,v7,rfl⟩,g,rfl⟩;obtain⟨hj,rfl⟩:=zix hx;have hj:j < 4:=hj;have g1:=hg j (by lia);have g2:=hg (j+1) (by lia);have ej:((1:Int)+(j:Int))=((j+1:Nat):Int):=by lia
  have ej1:(((j+1:Nat):Int) - 1)=((j:Nat):Int):=by lia
  refine⟨_,rfl,?_⟩;rw[ej];unfold zgd;simp only[W,V,Dd.N];refine⟨by decide,?_⟩
  refine zev prN (fun w=>(lnStep left (j+1) w).map prN) (fun σ=>∃v5 v6 v7:Option D,σ=[some (nI num),some (rz left),some (.lst ((lnW num left j).map prN)),some (nI (j+1)),some (.ref (st++g).length),v5,v6,v7]) 1000 ⟨_,_,_,rfl⟩ (by
   rw[xfb,← xdz,xbd];have:((lnW num left j).flatMap (lnStep left (j+1))).length<=100:=g2.1
   lia) ?_ ?_
  ·rintro w hw σ acc g3 ⟨v5,v6,v7,rfl⟩ hB1;have ow:=g1.2 w hw;refine⟨_,rfl,fun R kk=>?_⟩;unfold zge;simp only[W,V,Dd.N,ej1];refine WP.of (ixz (by lia) _) ?_;simp only[W,V,Dd.N,zbax,zbgb];have hlo:=zyg (gt left j) (w.1 / 2 ^ (j+1));have hgt:=zbcx (p:=j) hsm;refine⟨by lia,rngN (by lia) (by lia),?_⟩;rw[show((lo (gt left j) (w.1 / 2 ^ (j+1)):Nat)+1:Int).toNat=lo (gt left j) (w.1 / 2 ^ (j+1))+1 by lia,zsy];have e9:(lnStep left (j+1) w).map prN=(List.range (lo (gt left j) (w.1 / 2 ^ (j+1))+1)).flatMap fun x=>[prN (w.1 - x * 2 ^ (j+1),w.2++[x])]:=by
    unfold lnStep;rw[xcw,← List.map_eq_flatMap]
    rfl
   rw[e9] at hB1 kk;refine zev nI (fun x=>[prN (w.1 - x * 2 ^ (j+1),w.2++[x])]) (fun σ=>∃v7:Option D,σ=[some (nI num),some (rz left),some (.lst ((lnW num left j).map prN)),some (nI (j+1)),some (.ref (st++g).length),some (nI w.1),some (rz w.2),v7]) 1000 ⟨_,rfl⟩ hB1 ?_ ?_
   ·rintro x hx σ acc g4 ⟨v7,rfl⟩ hB2;obtain⟨x1,x2⟩:=znr hx;have hac:acc.length<=999:=by simpa using hB2
    refine⟨_,rfl,fun R kk=>?_⟩;unfold zgf;simp only[W,V,M];refine⟨_,_,rfl,zbv _ _,⟨by lia,by lia,by rw[Int.natAbs_natCast];exact xcs (show x<=16 by lia) (by decide)⟩,trivial,by show 1<=sizeLine;decide,small _ (by rw[xbd,ow.len];show j+1<=_;lia),by show 2<=sizeLine;decide,_,_,rfl,zbv _ _,smallT _ (by lia),?_⟩;rw[zco];have e2:(w.1:Int) - (x:Int) * 2 ^ ((j+1:Nat):Int).toNat=((w.1 - x * 2 ^ (j+1):Nat):Int):=by
     rw[xec,Int.ofNat_sub x2]
     push_cast
     rfl
    rw[e2];have:=kk [some (nI num),some (rz left),some (.lst ((lnW num left j).map prN)),some (nI (j+1)),some (.ref (st++g).length),some (nI w.1),some (rz w.2),some (nI x)] g4 ⟨_,rfl⟩;unfold prN at this;rw[show rz (w.2++[x])=D.tup (w.2.map nI++[nI x]) by unfold rz;rw[xdr];rfl] at this;exact this
   ·rintro σ g4 ⟨v7,rfl⟩;exact kk _ _ ⟨_,_,_,rfl⟩
  ·rintro σ g3 ⟨v5,v6,v7,rfl⟩;simp only[W,V,M,L];refine⟨_,_,rfl,zbv _ _,?_⟩;rw[zco,← xdz,xbr];exact⟨⟨_,_,_,_,_,rfl⟩,_,rfl⟩
 ·rintro σ s ⟨⟨v3,v4,v5,v6,v7,rfl⟩,g,rfl⟩;have g4:=hg 4 (by lia);rw[show(rng 1 ((5:Int) - 1).toNat).length=4 from rfl];simp only[W,V,Dd.N];refine⟨by rw[xbd];exact small _ (by lia),?_⟩;refine zji (as:=lnW num left 4) (fun σ=>∃a b,σ=[a,b]) (fun _=>true) (fun w=>rz (w.1::w.2)) prN ⟨_,_,rfl⟩ ?_ ?_
  ·rintro w hw σ ⟨a,b,rfl⟩;have ow:=(g4.2 w hw).len;refine⟨_,rfl,⟨_,_,rfl⟩,by simp only[W,xir],fun _=>?_⟩;simp only[W,V,Dd.N];exact⟨by show 1<=sizeLine;decide,small _ (by rw[xbd,ow];show 1+4<=_;lia),rfl⟩
  rw[zdv];have e:(lnW num left 4).map (fun w=>rz (w.1::w.2))=(linesL num left).map rz:=by unfold linesL;rw[xcw];rfl
  rw[e];exact k g
end
end Tab
namespace Tab
theorem zyj {num:Nat}{left line:RN}(hg:∀w∈lnW num left 4,OkL left 4 w)(h:line∈linesL num left)(h4:left.length=4):line.length=5/\∀j,j < 4->gt line (j+1)<=gt left j:=by
 unfold linesL at h;obtain⟨w,hw,rfl⟩:=xdt.mp h;have ow:=hg w hw;refine⟨by rw[xbx,ow.len],fun j hj=>?_⟩;have h1:j < w.2.length:=by rw[ow.len];exact hj
 have h2:j < left.length:=by lia
 have e1:gt (w.1::w.2) (j+1)=w.2[j]:=by unfold gt;rw[xbq,xgj,xbg h1];rfl
 have e2:gt left j=left[j]:=by unfold gt;rw[xbq,xbg h2];rfl
 rw[e1,e2];have hz:j < (w.2.zip left).length:=by rw[xlx];lia
 have:=ow.le _ (xdy hz);rw[List.getElem_zip] at this;exact this
theorem zvf {i:Nat}{f:SE}{σ:DS}{st:Store}{Q:Fl->Store->Prop}:WP (aF i f σ st) Q=WP (f σ st) (fun v st1=>Q (.nx (σ.set i (some v))) st1):=zk
section
variable {st:Store}
theorem zbce {left line:RN}{S0 S1 S2 S3 S4 S5 S8:Option D}{Q:D->Store->Prop}(h4:left.length=4)(h5:line.length=5)(hle:∀j,j < 4->gt line (j+1)<=gt left j)(q:Q (rz (over left line)) st) :
  WP (aE bTuple (aB (aG (iR1 (aB (eC (.int 4)) aC)) 1 [6,7] (gN 0) aI (aW oSub (aW oIx (aA 1) (aA 0)) (aW oIx (aA 2) (aW aP (aA 0) (eC (.int 1)))))) aC) [S0,S1,S2,S3,S4,S5,some (rz left),some (rz line),S8] st) Q:=by
 simp only[W,V,Dd.N];refine⟨rngN (by lia) (by lia),by rw[zdk];decide,?_⟩;rw[show((4:Int).toNat)=4 from rfl,zsy];refine zji (as:=List.range 4) (fun σ=>∃a,σ=[a,some (rz left),some (rz line)]) (fun _=>true) (fun j=>nI (gt left j - gt line (j+1))) nI ⟨_,rfl⟩ ?_ ?_
 ·rintro j hj σ ⟨a,rfl⟩;have hj:j < 4:=xck.mp hj;have:=hle j hj;refine⟨_,rfl,⟨_,rfl⟩,by simp only[W,xir],fun _=>?_⟩;simp only[W,V,Dd.N];refine WP.of (ixz (by lia) _) ?_;rw[show((j:Int)+1)=((j+1:Nat):Int) by push_cast;rfl];refine WP.of (ixz (by lia) _) ?_;simp only[W,V,Dd.N];show D.int _=D.int _
  congr 1
  lia
 rw[zdv];have e:(List.range 4).map (fun j=>nI (gt left j - gt line (j+1)))=(over left line).map nI:=by unfold over;rw[xcw];rfl
 rw[e];exact q
theorem zvp {r:RN}(h:r.length<=4):(pad r).length=4:=by unfold pad;simp;lia
theorem zsu {r s:RN}{Q:D->Store->Prop}(hr:r.length<=4)(hs:s.length<=4)(ck:chkL (pad r) (pad s)=true)(k:∀g,Q (.lst ((tablesL r s).map tabD)) (st++g)):WP (zcz [rz r,rz s] st) Q:=by
 obtain⟨c1,c2⟩:=zo ck;have hB:∀k,k<=4->(tbW (pad r) (pad s) k).length<=100/\∀w∈tbW (pad r) (pad s) k,OkB k w:=fun k hk=>zblu (xcg.mp c1 k (xck.mpr (by lia)))
 have hL:∀k,k < 4->∀w∈tbW (pad r) (pad s) k,∀j,j<=4->(lnW (gt (pad r) k) w.2 j).length<=100/\∀u∈lnW (gt (pad r) k) w.2 j,OkL w.2 j u:=fun k hk w hw j hj=>zbnd (xcg.mp (xcg.mp (xcg.mp c2 k (xck.mpr hk)) w hw) j (xck.mpr (by lia)))
 refine zll rfl ?_;simp only[W,V,Dd.N];have e1:∀l:RN,l.length<=4->(4:Int) - (((l.map nI).length:Nat):Int)=((4 - l.length:Nat):Int):=fun l hl=>by rw[xbd];lia
 have e2:∀l:RN,(l.map nI)++(List.replicate (4 - l.length) 0).map nI=(pad l).map nI:=fun l=>by unfold pad;rw[xdr]
 refine⟨by show 0<=sizeLine;decide,by show 1<=sizeLine;decide,?_⟩;rw[e1 s hs];refine WP.of (zhd (by lia)) ?_;simp only[W,V,Dd.N,e2];refine⟨small _ (by simp;lia),by show 2<=sizeLine;decide,by show 1<=sizeLine;decide,by show 1<=sizeLine;decide,?_⟩;rw[e1 r hr];refine WP.of (zhd (by lia)) ?_;simp only[W,V,Dd.N,e2];refine⟨small _ (by simp;lia),?_⟩;refine zhj (fun i σ t=>(∃v3 v4 v5 v6 v7 v8:Option D,σ=[some (rz r),some (rz s),some (.lst ((tbW (pad r) (pad s) i).map tbD)),v3,v4,v5,v6,v7,v8])/\∃g,t=st++g) ⟨⟨_,_,_,_,_,_,rfl⟩,[],by simp⟩ ?_ ?_
 ·rintro i x σ t hx ⟨⟨v3,v4,v5,v6,v7,v8,rfl⟩,g,rfl⟩;rw[xcc] at hx;obtain⟨num,hn,rfl⟩:=xco.mp hx;have hi:i < 4:=by
   rcases xeh i 4 with h | h
   ·exact h
   ·rw[xer (by rw[zvp hr];exact h)] at hn;cases hn
  have en:num=gt (pad r) i:=by unfold gt;rw[xbq,hn];rfl
  subst en;have b1:=hB i (by lia);have b2:=hB (i+1) (by lia);refine⟨_,rfl,?_⟩;unfold zfa;simp only[W,V,Dd.N];refine⟨by decide,?_⟩
  refine zev tbD (fun w=>(tbStep (gt (pad r) i) w).map tbD) (fun σ=>∃v5 v6 v7 v8:Option D,σ=[some (rz r),some (rz s),some (.lst ((tbW (pad r) (pad s) i).map tbD)),some (nI (gt (pad r) i)),some (.ref (st++g).length),v5,v6,v7,v8]) 1000 ⟨_,_,_,_,rfl⟩ (by
   rw[xfb,← xdz,xbd];have:((tbW (pad r) (pad s) i).flatMap (tbStep (gt (pad r) i))).length<=100:=b2.1
   lia) ?_ ?_
  ·rintro w hw σ acc g3 ⟨v5,v6,v7,v8,rfl⟩ hB1;have ow:=b1.2 w hw;have hl:=hL i hi w hw;refine⟨_,rfl,fun R kk=>?_⟩;unfold zfb;simp only[W,V,Dd.N];refine zyi ow.l2 ow.sm hl fun g4=>?_
   simp only[W,V,Dd.N];rw[xbr,xhh];have e9:(tbStep (gt (pad r) i) w).map tbD=(linesL (gt (pad r) i) w.2).flatMap fun line=>[tbD (w.1++[line],over w.2 line)]:=by
    unfold tbStep;rw[xcw,← List.map_eq_flatMap]
    rfl
   rw[e9] at hB1 kk;refine zev rz (fun line=>[tbD (w.1++[line],over w.2 line)]) (fun σ=>∃v7 v8:Option D,σ=[some (rz r),some (rz s),some (.lst ((tbW (pad r) (pad s) i).map tbD)),some (nI (gt (pad r) i)),some (.ref (st++g).length),some (.tup (w.1.map rz)),some (rz w.2),v7,v8]) 1000 ⟨_,_,rfl⟩ hB1 ?_ ?_
   ·rintro line hline σ acc g5 ⟨v7,v8,rfl⟩ hB2;obtain⟨l5,lle⟩:=zyj (hl 4 (by lia)).2 hline ow.l2;have hac:acc.length<=999:=by simpa using hB2
    refine⟨_,rfl,fun R kk=>?_⟩;unfold zfc;simp only[zpi];rw[zvf];refine zbce ow.l2 l5 lle ?_;simp only[W,V,M];refine⟨_,_,rfl,zbv _ _,by show 1<=sizeLine;decide,small _ (by rw[xbd,ow.l1];show i+1<=_;lia),by show 2<=sizeLine;decide,_,_,rfl,zbv _ _,smallT _ (by lia),?_⟩;rw[zco];have:=kk [some (rz r),some (rz s),some (.lst ((tbW (pad r) (pad s) i).map tbD)),some (nI (gt (pad r) i)),some (.ref (st++g).length),some (.tup (w.1.map rz)),some (rz w.2),some (rz line),some (rz (over w.2 line))] g5 ⟨_,_,rfl⟩;unfold tbD at this;rw[xdr] at this;exact this
   ·rintro σ g4 ⟨v7,v8,rfl⟩;exact kk _ _ ⟨_,_,_,_,rfl⟩
  ·rintro σ g3 ⟨v5,v6,v7,v8,rfl⟩;simp only[W,V,M,L];refine⟨_,_,rfl,zbv _ _,?_⟩;rw[zco,← xdz,xbr];exact⟨⟨_,_,_,_,_,_,rfl⟩,_,rfl⟩
 ·rintro σ t ⟨⟨v3,v4,v5,v6,v7,v8,rfl⟩,g,rfl⟩;have b4:=hB 4 (by lia);have e0:nI 0=D.int 0:=rfl;have e:(tbW (pad r) (pad s) 4).map (fun w=>D.tup (D.tup (D.int 0::w.2.map nI)::w.1.map rz))=(tablesL r s).map tabD:=by
   unfold tablesL;rw[xcw];refine xgk fun w _=>?_
   show _=tabD ((0::w.2)::w.1);unfold tabD;rw[xbp];show _=D.tup (D.tup ((0::w.2).map nI)::w.1.map rz);rw[xbp,e0]
  rw[xbd,zvp hr];generalize tbW (pad r) (pad s) 4=tb at b4 e ⊢;simp only[W,V,Dd.N];refine⟨by rw[xbd];exact small _ (by lia),?_⟩;refine zji (as:=tb) (fun σ=>∃a b,σ=[a,b]) (fun _=>true) (fun w=>D.tup (D.tup (D.int 0::w.2.map nI)::w.1.map rz)) tbD ⟨_,_,rfl⟩ ?_ ?_
  ·rintro w hw σ ⟨a,b,rfl⟩;have ow:=b4.2 w hw;refine⟨_,rfl,⟨_,_,rfl⟩,by simp only[W,xir],fun _=>?_⟩;simp only[W,V,Dd.N];have q1:[D.int 0].length+(w.2.map nI).length<=1000000:=by rw[xbd,ow.l2,xkc];lia
   have q2:[D.tup (D.int 0::w.2.map nI)].length+(w.1.map rz).length<=1000000:=by rw[xbd,ow.l1,xkc];lia
   refine⟨by show 1<=sizeLine;decide,small _ q1,by show 1<=sizeLine;decide,small _ q2,?_⟩
   trivial
  rw[zdv,e];exact k g
end
end Tab
namespace Tab
def optD:Option RN->D
 | none=>.non
 | some r=>rz r
theorem bnot2 (x:Int):Builtin.bitNot (Builtin.bitNot x)=x:=by unfold Builtin.bitNot;lia
theorem zrw (a:Nat):¬ 0<=Builtin.bitNot (a:Int):=by unfold Builtin.bitNot;lia
theorem zbkr (a b:Nat):Builtin.bitOr (a:Int) (b:Int)=((Nat.lor a b:Nat):Int):=by
 unfold Builtin.bitOr Builtin.bitAnd;rw[xbt (zrw a),xbt (zrw b)];dsimp only;rw[bnot2,bnot2,bnot2]
 rfl
theorem zbfp (a b:Nat):(0 < Builtin.bitAnd (a:Int) (b:Int))=(Nat.beq (Nat.land a b) 0=false):=by
 apply propext;rw[show Builtin.bitAnd (a:Int) (b:Int)=((Nat.land a b:Nat):Int) from rfl];cases c:Nat.beq (Nat.land a b) 0 with
 | true=>have:=xdn c;rw[this];simp
 | false =>
  have:Nat.land a b≠0:=fun z=>by rw[z] at c;cases c
  simp only[iff_true];lia
theorem zwt (l:RN):(aN l).sum=(l.sum:Nat):=by
 induction l with
 | nil=>rfl
 | cons a l ih =>
  unfold aN at ih ⊢;rw[xbp,List.sum_cons,List.sum_cons,ih]
  push_cast
  rfl
theorem zbcs (l:RN):l.map nI=(aN l).map D.int:=by unfold aN;rw[xcw];rfl
theorem zzq {t i:Nat}{T:Option D}{s:Store}:eChain oLe oLtT (eC (.int 0)) (aW oSub (aA 2) (aA 0)) (eC (.int 5)) [some (nI i),T,some (nI t)] s=.ok (.bl (Nat.ble i t&&Nat.blt (t - i) 5)) s:=by
 rw[zyv];rw[show eC (.int 0) [some (nI i),T,some (nI t)] s=.ok (.int 0) s from rfl,zel,show aW oSub (aA 2) (aA 0) [some (nI i),T,some (nI t)] s=.ok (.int ((t:Int) - i)) s from rfl,zel];by_cases h:(0:Int)<=(t:Int) - i
 ·rw[show oLe (.int 0) (.int ((t:Int) - i)) s=.ok (.bl (decide ((0:Int)<=(t:Int) - i))) s from rfl,xcv h];show Res.ok (D.bl (decide ((t:Int) - i < 5))) s=_
  congr 2
  rw[xih (by lia:i<=t),Bool.true_and];cases c:Nat.blt (t - i) 5 with
  | true=>have:=Nat.blt_eq.mp c;exact xcv (by lia)
  | false =>
   refine xbt fun z=>?_
   have:Nat.blt (t - i) 5=true:=Nat.blt_eq.mpr (by lia);rw[this] at c;cases c
 ·rw[show oLe (.int 0) (.int ((t:Int) - i)) s=.ok (.bl (decide ((0:Int)<=(t:Int) - i))) s from rfl,xbt h];have:Nat.ble i t=false:=by
   cases c:Nat.ble i t with
   | true=>have:=xcy c;lia
   | false=>rfl
  rw[this]
  rfl
section
variable {st:Store}
theorem zbcr {tab:List RN}{t:Nat}{S1 S3 S4 S5:Option D}{Q:D->Store->Prop}(h5:tab.length=5)(hr:∀l∈tab,l.length=5)(q:Q (.lst ((nums tab t).map nI)) st) :
  WP (aG (iR1 (aB (eC (.int 5)) aC)) 1 [0,2] (gN 0) (eB (eChain oLe oLtT (eC (.int 0)) (aW oSub (aA 2) (aA 0)) (eC (.int 5)))) (aW oIx (aW oIx (aA 1) (aA 0)) (aW oSub (aA 2) (aA 0))) [some (tabD tab),S1,some (nI t),S3,S4,S5] st) Q:=by
 simp only[W,V,Dd.N];refine⟨rngN (by lia) (by lia),by rw[zdk];decide,?_⟩;rw[show((5:Int).toNat)=5 from rfl,zsy];refine zji (as:=List.range 5) (fun σ=>∃a,σ=[a,some (tabD tab),some (nI t)]) (fun i=>Nat.ble i t&&Nat.blt (t - i) 5) (fun i=>nI (cel tab t i)) nI ⟨_,rfl⟩ ?_ ?_
 ·rintro i hi σ ⟨a,rfl⟩;have hi:i < 5:=xck.mp hi;refine⟨_,rfl,⟨_,rfl⟩,?_,fun hP=>?_⟩
  ·simp only[W,V];refine WP.of zzq ?_;simp only[W,V,xir]
  ·obtain⟨p1,p2⟩:=zo hP;have p1:=xcy p1;have p2:=Nat.blt_eq.mp p2;have hlt:i < tab.length:=by lia
   have hrow:(tab.getD i []).length=5:=by
    rw[xbq,xbg hlt];exact hr _ (xdy hlt)
   have ix:∀s:Store,oIx (tabD tab) (.int i) s=.ok (rz (tab.getD i [])) s:=fun s =>
    zir rfl (zon (j:=i) (xs:=tab.map rz) (by rw[xcc,xbq,xbg hlt];rfl))
   simp only[W,V];refine WP.of (ix _) ?_;simp only[W,V,Dd.N];rw[show((t:Int) - (i:Int))=((t - i:Nat):Int) by lia];refine WP.of (ixz (by lia) _) ⟨rfl,rfl⟩
 have e:((List.range 5).filter fun i=>Nat.ble i t&&Nat.blt (t - i) 5).map (fun i=>nI (cel tab t i))=(nums tab t).map nI:=by unfold nums ixs;rw[xcw];rfl
 rw[e];exact q
theorem zbcp {l:RN}{x:Nat}{s:Store}{v:Option D}{σ:DS}{n:Nat}(hn:s[n]?=some (.lst ((l++[x]).map nI))):ePop (aA 1) (v::some (.ref n)::σ) s=.ok (nI x) (s.set n (.lst (l.map nI))):=by
 have hl:((l++[x]).map nI)=l.map nI++[nI x]:=by simp
 show(match s[n]? with
  | some (.lst xs)=>match xs[xs.length - 1]? with
   | some y=>Res.ok y (s.set n (.lst xs.dropLast))
   | none=>.stuck
  | _=>.stuck)=_
 rw[hn,hl];simp
theorem zwu {r:RN}{v0 v2 v3 v4 v5:Option D}{Q:Fl->Store->Prop}(hr:r.length<=1000)(q:Q (.nx [v0,some (.ref st.length),v2,v3,v4,v5]) (st++[.lst ((nz r).map nI)])) :
  WP (sWhile (bAnd (eB (aW oGt (aE bLen (aB (aA 1) aC)) (eC (.int 0)))) (eB (aW oEq (aW oIx (aA 1) (eUn oNeg (eC (.int 1)))) (eC (.int 0))))) zbb [v0,some (.ref st.length),v2,v3,v4,v5] (st++[.lst (r.map nI)])) Q:=by
 refine zlj (fun m σ s=>∃xs:RN,m=xs.length/\σ=[v0,some (.ref st.length),v2,v3,v4,v5]/\s=st++[.lst (xs.map nI)]/\nz xs=nz r) (k:=r.length) ⟨r,rfl,rfl,rfl,rfl⟩ (by lia) ?_;rintro j σ s ⟨xs,rfl,rfl,rfl,hx⟩;have hn:(st++[O.lst (xs.map nI)])[st.length]?=some (.lst (xs.map nI)):=by simp
 simp only[W,V];refine WP.of (zwk (zdq hn)) ?_;simp only[W,V];rcases zje xs with rfl | ⟨l,x,rfl⟩
 ·rw[if_neg (by simp)];refine⟨trivial,?_⟩;rw[← hx] at q;exact q
 ·have hl:((l++[x]).map nI)=l.map nI++[nI x]:=by simp
  rw[if_pos (by simp<;>lia)];refine⟨trivial,WP.of (zir (zdq hn) (by rw[hl];exact zsb _ _)) ?_⟩;simp only[W,V];by_cases c:(x:Int)=0
  ·rw[if_pos c];have c0:x=0:=by lia
   subst c0;unfold zbb;simp only[W];refine WP.of (zbcp hn) ?_;simp only[L];exact⟨l.length,by simp,l,rfl,trivial,by rw[zco],by rw[← hx,zmf]⟩
  ·rw[if_neg c];rw[← hx,zqq (by lia)] at q;exact q
theorem zoz {tab:List RN}{Q:D->Store->Prop}(h5:tab.length=5)(hr:∀l∈tab,l.length=5)(k:∀g,Q (optD (madeL tab)) (st++g)):WP (zeq [tabD tab] st) Q:=by
 refine zll rfl ?_;simp only[W,V,Dd.N];refine⟨by decide,rngN (by lia) (by lia),rngN (by lia) (by lia),?_⟩;refine zhj (fun i σ s=>(∃v2 v3 v4 v5:Option D,σ=[some (tabD tab),some (.ref st.length),v2,v3,v4,v5])/\s=st++(.lst (((List.range i).map fun k=>(nums tab (k+1)).sum).map nI)::[])/\∀k,k < i->free 0 (nums tab (k+1))=true) ⟨⟨_,_,_,_,rfl⟩,rfl,fun k hk=>absurd hk (by lia)⟩ ?_ ?_
 ·rintro i x σ s hx ⟨⟨v2,v3,v4,v5,rfl⟩,rfl,hf⟩;obtain⟨hi,rfl⟩:=zix hx;have hi:i < 8:=hi;refine⟨_,rfl,?_⟩;rw[show((1:Int)+(i:Int))=((i+1:Nat):Int) by lia];unfold zgz;simp only[zpi];rw[zvf];refine zbcr h5 hr ?_;simp only[W,V,Dd.N];have hnl:(nums tab (i+1)).length<=5:=by
   unfold nums ixs;rw[xbd];exact xbc (xkf _ _) (by simp)
  refine zhj (fun z σ s=>(∃(b:Nat) (v5:Option D),σ=[some (tabD tab),some (.ref st.length),some (nI (i+1)),some (.lst ((nums tab (i+1)).map nI)),some (nI b),v5]/\free b ((nums tab (i+1)).drop z)=free 0 (nums tab (i+1)))/\s=st++(.lst (((List.range i).map fun k=>(nums tab (k+1)).sum).map nI)::[])) ⟨⟨0,_,rfl,rfl⟩,rfl⟩ ?_ ?_
  ·rintro z y σ s hy ⟨⟨b,v5,rfl,hb⟩,rfl⟩;rw[xcc] at hy;obtain⟨n,hn,rfl⟩:=xco.mp hy;have hz:z < (nums tab (i+1)).length:=by
    rcases xeh z (nums tab (i+1)).length with h | h
    ·exact h
    ·rw[xer h] at hn;cases hn
   have ed:(nums tab (i+1)).drop z=n::(nums tab (i+1)).drop (z+1):=by
    rw[xfa hz];rw[xbg hz] at hn;cases hn
    rfl
   rw[ed,free] at hb;refine⟨_,rfl,?_⟩;unfold zha;simp only[W,V,Dd.N,zbfp,zbkr];cases c:Nat.beq (Nat.land b n) 0 with
   | false =>
    rw[c] at hb;rw[if_pos rfl];simp only[W,V,L];have e:madeL tab=none:=by
     unfold madeL;cases ca:(List.range 8).all fun k=>free 0 (nums tab (k+1)) with
     | false=>rfl
     | true =>
      have:=xcg.mp ca i (xck.mpr hi);rw[← hb] at this;cases this
    have:=k [.lst (((List.range i).map fun k=>(nums tab (k+1)).sum).map nI)];rw[e] at this;exact this
   | true =>
    rw[c] at hb;rw[if_neg (by decide)];simp only[W,V,L,Dd.N];exact⟨⟨_,_,rfl,hb⟩,trivial⟩
  ·rintro σ s ⟨⟨b,v5,rfl,hb⟩,rfl⟩;rw[xbd,xls] at hb;simp only[W,V,M,L];refine⟨_,_,rfl,zbv _ _,aN (nums tab (i+1)),?_,_,_,rfl,zbv _ _,smallT _ (by simp;lia),⟨_,_,_,_,rfl⟩,?_,fun k hk=>?_⟩
   ·show asInts ((nums tab (i+1)).map nI)=_;rw[zbcs];exact zem _
   ·rw[zco,zwt,xiz,xdr,xdr]
    rfl
   ·rcases xeh k i with h | h
    ·exact hf k h
    ·have:k=i:=by lia
     subst this;exact hb.symm
 ·rintro σ s ⟨⟨v2,v3,v4,v5,rfl⟩,rfl,hf⟩;rw[show(rng 1 ((9:Int) - 1).toNat).length=8 from rfl] at hf ⊢;have e:madeL tab=some (nz ((List.range 8).map fun k=>(nums tab (k+1)).sum)):=by
   unfold madeL;rw[xcg.mpr fun k hk=>hf k (xck.mp hk)]
   rfl
  rw[e] at k;show WP _ _;rw[zpi];refine zwu (by simp) ?_;simp only[W,V];refine WP.of (zlf (xs:=(nz ((List.range 8).map fun k=>(nums tab (k+1)).sum)).map nI) (by simp)) ?_;exact k _
end
end Tab
namespace Tab
theorem ck0:List.all [[],[0,0,0,1],[0,0,1],[0,0,2],[0,1],[0,1,1]] chkOne=true:=by decide +kernel
theorem ck1:List.all [[0,2],[0,2,1],[0,3],[0,3,1],[0,4],[0,5]] chkOne=true:=by decide +kernel
theorem ck2:List.all [[1],[1,0,0,1],[1,0,1],[1,0,2],[1,1],[1,1,1]] chkOne=true:=by decide +kernel
theorem ck3:List.all [[1,2],[1,2,1],[1,3],[1,4],[1,5],[2]] chkOne=true:=by decide +kernel
theorem ck4:List.all [[2,0,1],[2,0,2],[2,1],[2,1,1],[2,2],[2,2,1]] chkOne=true:=by decide +kernel
theorem ck5:List.all [[2,3],[2,4],[3],[3,0,1],[3,1],[3,1,1]] chkOne=true:=by decide +kernel
theorem ck6:List.all [[3,2],[3,2,1],[3,3],[3,4],[4],[4,0,1]] chkOne=true:=by decide +kernel
theorem ck7:List.all [[4,1],[4,1,1],[4,2],[4,3],[4,4],[5]] chkOne=true:=by decide +kernel
theorem ck8:List.all [[5,0,1],[5,1],[5,1,1],[5,2],[5,3],[6]] chkOne=true:=by decide +kernel
theorem ck9:List.all [[6,0,1],[6,1],[6,1,1],[6,2],[6,3],[7]] chkOne=true:=by decide +kernel
theorem ck10:List.all [[7,0,1],[7,1],[7,2],[7,3],[8],[8,0,1]] chkOne=true:=by decide +kernel
theorem ck11:List.all [[8,1],[8,2],[9],[9,0,1],[9,1],[9,2]] chkOne=true:=by decide +kernel
theorem ck12:List.all [[10],[10,1],[10,2],[11],[11,1],[12]] chkOne=true:=by decide +kernel
theorem ck13:List.all [[12,1],[13],[13,1],[14],[15],[16]] chkOne=true:=by decide +kernel
theorem zbkh:cts=[[],[0,0,0,1],[0,0,1],[0,0,2],[0,1],[0,1,1]]++([[0,2],[0,2,1],[0,3],[0,3,1],[0,4],[0,5]]++([[1],[1,0,0,1],[1,0,1],[1,0,2],[1,1],[1,1,1]]++([[1,2],[1,2,1],[1,3],[1,4],[1,5],[2]]++([[2,0,1],[2,0,2],[2,1],[2,1,1],[2,2],[2,2,1]]++([[2,3],[2,4],[3],[3,0,1],[3,1],[3,1,1]]++([[3,2],[3,2,1],[3,3],[3,4],[4],[4,0,1]]++([[4,1],[4,1,1],[4,2],[4,3],[4,4],[5]]++([[5,0,1],[5,1],[5,1,1],[5,2],[5,3],[6]]++([[6,0,1],[6,1],[6,1,1],[6,2],[6,3],[7]]++([[7,0,1],[7,1],[7,2],[7,3],[8],[8,0,1]]++([[8,1],[8,2],[9],[9,0,1],[9,1],[9,2]]++([[10],[10,1],[10,2],[11],[11,1],[12]]++([[12,1],[13],[13,1],[14],[15],[16]]))))))))))))):=by decide +kernel
theorem zux:chkAll=true:=by
 unfold chkAll;rw[zbkh];simp only[List.all_append,ck0,ck1,ck2,ck3,ck4,ck5,ck6,ck7,ck8,ck9,ck10,ck11,ck12,ck13,Bool.and_self]
theorem zbkl {r s:RN}(hr:r∈cts)(hs:s∈cts)(h:wtN 1 r+wtN 1 s<=16):chk r s=true:=by
 have h1:=xcg.mp zux r hr;have h2:=xcg.mp h1 s hs;rw[xih h] at h2;exact h2
theorem zrp {r:RN}(hr:r∈cts):r.length<=4:=by
 have:cts.all (fun r=>Nat.ble r.length 4)=true:=by decide +kernel
 exact xcy (xcg.mp this r hr)
end Tab
namespace Tab
theorem zbgo {r s:RN}(ck:chkL (pad r) (pad s)=true):(tablesL r s).length<=100/\∀t∈tablesL r s,t.length=5/\∀l∈t,l.length=5:=by
 have hB:=zblu (xcg.mp (zo ck).1 4 (xck.mpr (by lia)));unfold tablesL;refine⟨by rw[xbd];exact hB.1,fun t ht=>?_⟩;obtain⟨w,hw,rfl⟩:=xdt.mp ht;have ow:=hB.2 w hw;refine⟨by rw[xbx,ow.l1],fun l hl=>?_⟩;rcases xbu.mp hl with rfl | hl
 ·rw[xbx,ow.l2]
 ·exact ow.rows l hl
theorem zue (ts:List (List RN)):(ts.filter fun t=>(madeL t).isSome).map (fun t=>optD (madeL t))=(ts.filterMap madeL).map rz:=by
 induction ts with
 | nil=>rfl
 | cons a ts ih =>
  cases e:madeL a with
  | none=>rw[xet (by rw[e];decide),List.filterMap_cons_none e,ih]
  | some r =>
   rw[xeu (by rw[e];rfl),List.filterMap_cons_some e,xbp,ih,xbp,e]
   rfl
section
variable {st:Store}
theorem zbcc {r t:RowI}{rn sn:RN}{S0 S1:Option D}{acc:List D}{g:Store}{R:Fl->Store->Prop}(p:Pr r t rn sn)(hB:(acc++aJ (mk r t)).length<=200000)
  (q:∀g',R (.nx [S0,S1,some (.ref st.length),some (aM r),some (aM t)]) (st++(.lst (acc++aJ (mk r t))::g'))) :
  WP (zcx [S0,S1,some (.ref st.length),some (aM r),some (aM t)] (st++(.lst acc::g))) R:=by
 obtain⟨c1,c2⟩:=zo p.ck;have cL:=(zo c1).2;have emk:aJ (mk r t)=(foundL rn sn).map rz:=by
  unfold mk;rw[p.er,p.es,zec,zec,xgh c2,zpv]
 obtain⟨tl,tr⟩:=zbgo cL;rw[emk] at hB q;have e1:aM r=rz rn:=by rw[p.er,ziw]
 have e2:aM t=rz sn:=by rw[p.es,ziw]
 rw[e1,e2] at q ⊢;unfold zcx;simp only[W,V,zsi,Dd.N];refine⟨_,_,rfl,zbv _ _,zsu p.lr p.ls cL fun g1=>?_⟩;rw[xbr,xhh];generalize htabs:tablesL rn sn=tabs at tl tr;have ef:foundL rn sn=tabs.filterMap madeL:=by unfold foundL;rw[htabs]
 rw[ef] at hB q;simp only[W,V,Dd.N];refine⟨by rw[xbd];exact small _ (by lia),?_⟩;refine zkc (fun j ys σ s=>(∃v,σ=[v])/\ys=(tabs.take j).map (fun t=>optD (madeL t))/\∃g,s=st++(.lst acc::g)) ⟨⟨_,rfl⟩,rfl,_,rfl⟩ ?_ ?_
 ·rintro j x ys σ s hx ⟨⟨v,rfl⟩,rfl,g2,rfl⟩;rw[xcc] at hx;obtain⟨tb,htb,rfl⟩:=xco.mp hx;obtain⟨t1,t2⟩:=tr tb (xch htb);refine⟨_,rfl,?_⟩;simp only[W,V];refine zoz t1 t2 fun g3=>?_
  rw[xbr,xhh];exact⟨⟨_,rfl⟩,by rw[zbm htb,xdr];rfl,_,rfl⟩
 ·rintro ys σ s ⟨⟨v,rfl⟩,rfl,g2,rfl⟩;have ht:List.take (tabs.map tabD).length tabs=tabs:=by rw[xbd,xda]
  rw[ht];refine⟨by rw[xbd];exact small _ (by lia),?_⟩;refine zji (as:=tabs) (fun σ=>∃a,σ=[a]) (fun t=>(madeL t).isSome) (fun t=>optD (madeL t)) (fun t=>optD (madeL t)) ⟨_,rfl⟩ ?_ ?_
  ·rintro tb htb σ ⟨a,rfl⟩;refine⟨_,rfl,⟨_,rfl⟩,?_,fun _=>by simp only[W,V,xir]⟩;simp only[W,V];cases e:madeL tb with
   | none=>exact WP.of (show oIsN true (optD none) .non _=.ok (.bl false) _ from rfl) ⟨rfl,rfl⟩
   | some r=>exact WP.of (show oIsN true (optD (some r)) .non _=.ok (.bl true) _ from rfl) ⟨rfl,rfl⟩
  rw[zue];refine⟨_,_,_,rfl,zbv _ _,rfl,small _ ?_,?_⟩
  ·rw[xbs] at hB;lia
  ·rw[zco];exact q _
theorem zlo {one other:List RowI}{Q:D->Store->Prop}(h1:one.length<=40)(h2:other.length<=40)(hm:∀r∈one,∀s∈other,∃rn sn,Pr r s rn sn)(k:∀g,Q (aK (aR (one.flatMap fun r=>other.flatMap (mk r)))) (st++g)):WP (zcy [aK one,aK other] st) Q:=by
 have ml:∀r∈one,∀s∈other,(mk r s).length<=100:=fun r hr s hs=>by
  obtain⟨rn,sn,p⟩:=hm r hr s hs;unfold mk;rw[xbd,p.er,p.es,zec,zec];exact zno (zo (zo p.ck).1).1
 have m2:∀r∈one,(other.flatMap (mk r)).length<=4000:=fun r hr=>by
  have:=zhz (l:=other) (f:=mk r) (c:=100) fun s hs=>ml r hr s hs
  lia
 have m3:(one.flatMap fun r=>other.flatMap (mk r)).length<=160000:=by
  have:=zhz (l:=one) (f:=fun r=>other.flatMap (mk r)) (c:=4000) fun r hr=>m2 r hr
  lia
 have er:∀r,aJ (other.flatMap (mk r))=other.flatMap fun s=>aJ (mk r s):=fun r=>xdz ..
 have er2:aJ (one.flatMap fun r=>other.flatMap (mk r))=one.flatMap fun r=>aJ (other.flatMap (mk r)):=xdz ..
 refine zll rfl ?_;simp only[W,V,Dd.N];refine⟨by decide,?_⟩;refine zev aM (fun r=>aJ (other.flatMap (mk r))) (fun σ=>∃v3 v4:Option D,σ=[some (aK one),some (aK other),some (.ref st.length),v3,v4]) 200000 ⟨_,_,rfl⟩ (by rw[xfb,← er2,zt];lia) ?_ ?_
 ·rintro r hr σ acc g ⟨v3,v4,rfl⟩ hB1;refine⟨_,rfl,fun R kk=>?_⟩;unfold zgc;simp only[W,V,Dd.N];rw[er] at hB1 kk;refine zev aM (fun s=>aJ (mk r s)) (fun σ=>∃v4:Option D,σ=[some (aK one),some (aK other),some (.ref st.length),some (aM r),v4]) 200000 ⟨_,rfl⟩ hB1 ?_ ?_
  ·rintro s hs σ acc g ⟨v4,rfl⟩ hB2;obtain⟨rn,sn,p⟩:=hm r hr s hs;exact⟨_,rfl,fun R kk=>zbcc p hB2 fun g'=>kk _ _ ⟨_,rfl⟩⟩
  ·rintro σ g ⟨v4,rfl⟩;exact kk _ _ ⟨_,_,rfl⟩
 ·rintro σ g ⟨v3,v4,rfl⟩;simp only[W,V,M];refine⟨_,_,rfl,zbv _ _,?_⟩;rw[zco,← er2];refine znj rfl (by lia) fun g2=>?_
  rw[xbr];exact k _
end
end Tab
namespace Tab
theorem zbcq (x:Nat)(l:RN):nz (x::l)=(match nz l with
 | []=>bif Nat.beq x 0 then[] else[x]
 | y::l=>x::y::l):=rfl
theorem zble:∀(l:RN) (w:Nat),wtN w (nz l)=wtN w l
 | [],_=>rfl
 | x::l,w=>by
  have ih:=zble l (2 * w+1);rw[zbcq];cases e:nz l with
  | nil =>
   rw[e] at ih;dsimp only;cases c:Nat.beq x 0 with
   | true =>
    have:=xdn c;subst this;rw[wtN,← ih];simp[wtN]
   | false =>
    show w * x+wtN (2 * w+1) []=w * x+wtN (2 * w+1) l;rw[ih]
  | cons y l' =>
   rw[e] at ih;dsimp only;rw[wtN,ih,wtN]
theorem zbcy {a b c d:Nat}(h:a+3 * b+7 * c+15 * d<=16):nz [a,b,c,d]∈cts:=by
 unfold cts;refine xio.mpr ⟨a,xck.mpr (by lia),xio.mpr ⟨b,xck.mpr (by lia),xio.mpr ⟨c,xck.mpr (by lia),xio.mpr ⟨d,xck.mpr (by lia),?_⟩⟩⟩⟩;rw[xih h];exact xbl.mpr rfl
def dv (i:Nat):Nat:=[15,7,3,1].getD i 0
def wN (r:RN):Nat:=15 * gt r 0+7 * gt r 1+3 * gt r 2+gt r 3
theorem zbam {r:RN}{y i:Nat}(h:r.length=i)(hi:i < 4):wN (r++[y])=wN r+y * dv i:=by
 subst h;rcases r with _ | ⟨d,_ | ⟨c,_ | ⟨b,_ | ⟨a,t⟩⟩⟩⟩
 ·show 15 * y+7 * 0+3 * 0+0=15 * 0+7 * 0+3 * 0+0+y * 15;lia
 ·show 15 * d+7 * y+3 * 0+0=15 * d+7 * 0+3 * 0+0+y * 7;lia
 ·show 15 * d+7 * c+3 * y+0=15 * d+7 * c+3 * 0+0+y * 3;lia
 ·show 15 * d+7 * c+3 * b+y=15 * d+7 * c+3 * b+0+y * 1;lia
 ·rw[xbx,xbx,xbx,xbx] at hi;lia
def Cm (m:Int) (r:RowI):Prop:=∃rn∈cts,r=aN rn/\(wtN 1 rn:Int)<=m
section
variable {st:Store}{n:Nat}{Q:D->Store->Prop}
theorem zlb {m:Int}(hb:BagAt st n)(h0:0<=m)(h1:m<=16)(k:∀r st',Cm m r->Drew st st' n->Q (aM r) st'):WP (zca [.ref n,.int m] st) Q:=by
 have hkn:st.length≠n:=xga hb.lt;refine zll rfl ?_;refine zcb (R:=fun fl s=>fl=.nx [some (.ref n),some (.int m),some (.ref st.length),none,none,none]/\s=st++[.lst []]) ?_ ?_
 ·simp only[W,V];exact⟨small _ (by simp),trivial,trivial⟩
 rintro fl s ⟨rfl,rfl⟩;show WP _ _;refine zcb (R:=fun fl s=>fl=.nx [some (.ref n),some (.int m),some (.ref st.length),some (.int m),none,none]/\s=st++[.lst []]) ?_ ?_
 ·simp only[W,V,xir]
 rintro fl s ⟨rfl,rfl⟩;show WP _ _;refine zcb (R:=fun fl s=>∃(r:RN) (v u w:Option D),fl=.nx [some (.ref n),some (.int m),some (.ref st.length),v,u,w]/\r.length=4/\(wN r:Int)<=m/\Drew st s n/\s[st.length]?=some (.lst (r.map nI))) ?_ ?_
 ·simp only[W,V];refine WP.of (show iRD (aB (eC (.int 3)) (aB (eUn oNeg (eC (.int 1))) (aB (eUn oNeg (eC (.int 1))) aC))) [some (.ref n),some (.int m),some (.ref st.length),some (.int m),none,none] (st++[.lst []])=.ok (rngD 3 4) (st++[.lst []]) from rfl) ?_;refine zhj (fun i σ s=>∃(r:RN) (left:Int) (u w:Option D),σ=[some (.ref n),some (.int m),some (.ref st.length),some (.int left),u,w]/\r.length=i/\0<=left/\left<=16/\(wN r:Int)+left<=m/\Drew st s n/\s[st.length]?=some (.lst (r.map nI))) ⟨[],m,_,_,rfl,rfl,h0,h1,by show((15 * 0+7 * 0+3 * 0+0:Nat):Int)+m<=m;lia,.more hb _,by simp⟩ ?_ ?_
  ·rintro i x σ s hx ⟨r,left,u,w,rfl,a1,a3,a4,a7,a5,a6⟩;obtain⟨hi,rfl⟩:=zpw hx;refine⟨_,rfl,?_⟩;unfold zfe;have edv:(2:Int) * 2 ^ ((3:Int) - (i:Int)).toNat - 1=(dv i:Nat):=by
    have h4:i=0\/i=1\/i=2\/i=3:=by lia
    rcases h4 with rfl | rfl | rfl | rfl<;>rfl
   have d12:1<=dv i/\dv i<=15:=by
    have h4:i=0\/i=1\/i=2\/i=3:=by lia
    rcases h4 with rfl | rfl | rfl | rfl<;>decide
   have hws:=fun y=>zbam (y:=y) a1 (by lia)
   have d1:(1:Int)<=(dv i:Nat):=by lia
   have d2:((dv i:Nat):Int)<=15:=by lia
   have cp:CPow 2 ((3:Int) - (i:Int)):=⟨by lia,by lia,by decide⟩
   simp only[W,V,M,Dd.N,edv];have edi:∃dd:Int,((dv i:Nat):Int)=dd:=⟨_,rfl⟩
   obtain⟨dd,edd⟩:=edi;rw[edd] at d1 d2 ⊢;have hq0:0<=left / dd:=Int.ediv_nonneg a3 (by lia);have hq1:left / dd * dd<=left:=Int.ediv_mul_le left (by lia);have hq2:left / dd<=16:=by
    have:left / dd * 1<=left / dd * dd:=Int.mul_le_mul_of_nonneg_left d1 hq0;lia
   refine⟨cp,⟨by lia,Int.lt_of_le_of_lt d2 (by decide +kernel)⟩,?_⟩;refine zna a5.bag (by lia) (by lia) fun y s1 y0 y1 dr=>⟨cp,?_⟩
   have hyd:0<=y * dd/\y * dd<=left:=by
    have h1:y * dd<=left / dd * dd:=Int.mul_le_mul_of_nonneg_right (by lia) (by lia);exact⟨Int.mul_nonneg y0 (by lia),by lia⟩
   obtain⟨yn,rfl⟩:=xjq y0;have hw:(wN (r++[yn]):Int)=(wN r:Int)+(yn:Int) * dd:=by
    rw[hws yn,← edd]
    push_cast
    rfl
   simp only[W,V,L];have s6:s1[st.length]?=some (.lst (r.map nI)):=(dr.keep _ (zbc a6) hkn).trans a6;refine⟨.inr ⟨by lia,by lia⟩,trivial,_,_,rfl,s6,_,_,rfl,s6,by rw[xbd];exact smallT _ (by lia),r++[yn],left - (yn:Int) * dd,_,_,rfl,by simp[a1],by lia,by lia,by lia,(a5.trans dr).over hb.lt (xbf _),?_⟩;rw[zkh (zbc s6),xdr]
   rfl
  ·rintro σ s ⟨r,left,u,w,rfl,a1,a3,a4,a7,a5,a6⟩;have a1:r.length=4:=a1;exact⟨r,_,_,_,rfl,a1,by lia,a5,a6⟩
 rintro fl s ⟨r0,v,u,w,rfl,hr,hwt,hd,hs⟩;show WP _ _;refine zcb (R:=fun fl s=>∃(r:RN) (v u w:Option D),fl=.nx [some (.ref n),some (.int m),some (.ref st.length),v,u,w]/\r.reverse=nz r0.reverse/\Drew st s n/\s[st.length]?=some (.lst (r.map nI))) ?_ ?_
 ·refine zlj (fun j σ s=>∃(r:RN) (v u w:Option D),j=r.length/\σ=[some (.ref n),some (.int m),some (.ref st.length),v,u,w]/\nz r.reverse=nz r0.reverse/\Drew st s n/\s[st.length]?=some (.lst (r.map nI))) (k:=r0.length) ⟨r0,v,u,w,rfl,rfl,rfl,hd,hs⟩ (by lia) ?_;rintro j σ s ⟨r,v,u,w,rfl,rfl,hr,hd,hs⟩;simp only[W,V];refine WP.of (zwk (zdq hs)) ?_;simp only[W,V];cases r with
  | nil =>
   rw[if_neg (by simp)];exact⟨trivial,[],_,_,_,rfl,hr,hd,hs⟩
  | cons x r =>
   rw[if_pos (by simp)];refine⟨trivial,WP.of (zir (zdq hs) (zsa (j:=0) (d:=nI x) (by simp))) ?_⟩;simp only[W,V];by_cases c:(x:Int)=0
   ·rw[if_pos c];have c0:x=0:=by lia
    subst c0;unfold zfd;simp only[W];refine WP.of (zbbk rfl hs) ?_;simp only[L];rw[xgg,zmf] at hr;exact⟨r.length,by simp,r,_,_,_,rfl,rfl,hr,hd.over hb.lt (xbf _),zkh (zbc hs)⟩
   ·rw[if_neg c];rw[xgg,zqq (by lia)] at hr;exact⟨x::r,_,_,_,rfl,by rw[xgg];exact hr,hd,hs⟩
 rintro fl s ⟨r,v,u,w,rfl,h9,hd,hs⟩;show WP _ _;have eb:eBack (aA 2) (eUn oNeg (eC (.int 1))) [some (.ref n),some (.int m),some (.ref st.length),v,u,w] s=.ok (.lst (r.reverse.map nI)) s:=by
  show(match asL s (.ref st.length) with
   | some xs=>Res.ok (D.lst xs.reverse) s
   | none=>.stuck)=_
  rw[zih hs,List.map_reverse]
 simp only[W];refine WP.of eb ?_;simp only[W,V];have e4:∃a b c d,r0=[d,c,b,a]:=by
  rcases r0 with _ | ⟨d,_ | ⟨c,_ | ⟨b,_ | ⟨a,_ | ⟨z,t⟩⟩⟩⟩⟩
  ·cases hr
  ·cases hr
  ·cases hr
  ·cases hr
  ·exact⟨a,b,c,d,rfl⟩
  ·simp at hr
 obtain⟨a,b,c,d,rfl⟩:=e4;have e5:r.reverse=nz [a,b,c,d]:=h9;have hw4:((15 * d+7 * c+3 * b+a:Nat):Int)<=m:=hwt;rw[e5,← rz,ziw];refine k _ _ ⟨nz [a,b,c,d],zbcy (by lia),rfl,?_⟩ hd;rw[zble];show((1 * a+(3 * b+(7 * c+(15 * d+0))):Nat):Int)<=m;lia
end
end Tab
namespace Tab
end Tab
end Dd
namespace K40
end K40
namespace Dd
open PySem L2
theorem zve {bd:SG}{b:SS}{E:Exc->Store->Prop}{Q:Fl->Store->Prop}(I:Nat->DS->Store->Prop){xs:List D}{σ:DS}{st:Store}(h0:I 0 σ st)
  (turn:∀i x σ st,xs[i]?=some x->I i σ st->∃σ1,bd x σ=some σ1/\WX (b σ1 st) (loopK (I (i+1)) Q) E)(done:∀σ st,I xs.length σ st->Q (.nx σ) st):WX (forF bd b xs σ st) Q E:=by
 refine zbgf (fun ys σ st=>∃i,ys=xs.drop i/\i<=xs.length/\I i σ st) (fun x ys σ st ⟨i,e,hi,h⟩=>?_) (fun σ st ⟨i,e,hi,h⟩=>?_) xs σ st ⟨0,rfl,xed _,h0⟩
 ·have hx:xs[i]?=some x:=by
   have z:(xs.drop i)[0]?=some x:=by rw[← e];rfl
   rwa [xfd,xjh] at z
  have hy:ys=xs.drop (i+1):=by
   have z:=congrArg (List.drop 1) e;rw[xkp] at z;exact z
  have hl:i+1<=xs.length:=(xbo.mp hx).1;obtain⟨σ1,e1,w⟩:=turn i x σ st hx h;refine⟨σ1,e1,w.mono (fun fl s q=>?_) fun _ _ q=>q⟩;cases fl with
  | nx σ2=>exact⟨i+1,hy,hl,q⟩
  | ct σ2=>exact⟨i+1,hy,hl,q⟩
  | brk σ2=>exact q
  | ret v=>exact q
 ·have hl:xs.length<=i:=List.drop_eq_nil_iff.mp e.symm;obtain rfl:i=xs.length:=xdp hi hl;exact done σ st h
namespace Tab
theorem zbhi {r s:RowI}(h1:Cm 16 r)(h2:Cm 16 s)(h:wtI 1 r+wtI 1 s<=16):∃rn sn,Pr r s rn sn:=by
 obtain⟨rn,a1,a2,a3⟩:=h1;obtain⟨sn,b1,b2,b3⟩:=h2;have er:wtI 1 r=(wtN 1 rn:Nat):=by rw[a2];exact zmu rn 1
 have es:wtI 1 s=(wtN 1 sn:Nat):=by rw[b2];exact zmu sn 1
 have hw:wtN 1 rn+wtN 1 sn<=16:=by lia
 exact⟨rn,sn,a2,b2,zrp a1,zrp b1,hw,zbkl a1 b1 hw⟩
theorem zzm {m:Int}{r:RowI}(h:Cm m r):r.length<=4:=by
 obtain⟨rn,a1,a2,a3⟩:=h;rw[a2];unfold aN;rw[xbd];exact zrp a1
section
variable {st:Store}
theorem zmz {one other:List RowI}{Q:D->Store->Prop}{E:Exc->Store->Prop}(h1:one.length<=40)(h2:other.length<=40)(c1:∀r∈one,Cm 16 r)(c2:∀s∈other,Cm 16 s)
  (k:(∀r∈one,∀s∈other,wtI 1 r+wtI 1 s<=16)->∀g,Q (aK (aR (one.flatMap fun r=>other.flatMap (mk r)))) (st++g))
  (kx:(∃ r∈one, ∃ s∈other, 16 < wtI 1 r + wtI 1 s)->∀ g, E ⟨"TooMany",[]⟩ (st++g)):WX (zen [aK one, aK other] st) Q E:=by
 have ml:∀r∈one,∀s∈other,wtI 1 r+wtI 1 s<=16->(mk r s).length<=100:=fun r hr s hs hw=>by
  obtain⟨rn,sn,p⟩:=zbhi (c1 r hr) (c2 s hs) hw;unfold mk;rw[xbd,p.er,p.es,zec,zec];exact zno (zo (zo p.ck).1).1
 have m2:∀r∈one,∀j,(∀s∈other.take j,wtI 1 r+wtI 1 s<=16)->((other.take j).flatMap (mk r)).length<=4000:=fun r hr j hj=>by
  have:=zhz (l:=other.take j) (f:=mk r) (c:=100) fun s hs=>ml r hr s (xhc hs) (hj s hs)
  have h3:(other.take j).length<=other.length:=by rw[xdw];exact xfr _ _
  lia
 have m3:∀i,(∀r∈one.take i,∀s∈other,wtI 1 r+wtI 1 s<=16)->((one.take i).flatMap fun r=>other.flatMap (mk r)).length<=160000:=fun i hi=>by
  have:=zhz (l:=one.take i) (f:=fun r=>other.flatMap (mk r)) (c:=4000) fun r hr=>by
   have:=m2 r (xhc hr) other.length (fun s hs=>hi r hr s (xhc hs))
   rwa [xda] at this
  have h3:(one.take i).length<=one.length:=by rw[xdw];exact xfr _ _
  lia
 refine zbmb rfl ?_;simp only[VX,W,V,Dd.N];refine zve (fun i σ s=>(∃v3 v4 v5:Option D,σ=[some (aK one),some (aK other),some (.ref st.length),v3,v4,v5])/\(∀r∈one.take i,∀s∈other,wtI 1 r+wtI 1 s<=16)/\∃g,s=st++(.dT (aU (aQ ((one.take i).flatMap fun r=>other.flatMap (mk r))))::g)) ⟨⟨_,_,_,rfl⟩,by simp,[],rfl⟩ ?_ ?_
 ·rintro i y σ s hy ⟨⟨v3,v4,v5,rfl⟩,hi,g,rfl⟩;obtain⟨r,hrr,rfl⟩:=zer hy;have hr:=xch hrr;refine⟨_,rfl,?_⟩;unfold zij;simp only[VX,W,V,Dd.N];refine zve (fun j σ s=>(∃v4 v5:Option D,σ=[some (aK one),some (aK other),some (.ref st.length),some (aM r),v4,v5])/\(∀s∈other.take j,wtI 1 r+wtI 1 s<=16)/\∃g,s=st++(.dT (aU (aQ (((one.take i).flatMap fun r=>other.flatMap (mk r))++(other.take j).flatMap (mk r))))::g)) ⟨⟨_,_,rfl⟩,by simp,g,by simp⟩ ?_ ?_
  ·rintro j y σ s hy ⟨⟨v4,v5,rfl⟩,hj,g,rfl⟩;obtain⟨t,htt,rfl⟩:=zer hy;have ht:=xch htt;refine⟨_,rfl,?_⟩;unfold zik;simp only[VX,W,V];refine znd (zzm (c1 r hr)) ?_;refine znd (zzm (c2 t ht)) ?_;simp only[VX,W,V,Dd.N];by_cases hw0:16 < wtI 1 r+wtI 1 t
   ·rw[if_pos hw0];exact⟨by decide,kx ⟨r,hr,t,ht,hw0⟩ _⟩
   rw[if_neg hw0];have hw1:wtI 1 r+wtI 1 t<=16:=by lia
   obtain⟨rn,sn,p⟩:=zbhi (c1 r hr) (c2 t ht) hw1;have lr:=p.lr;have ls:=p.ls;have emk:mk r t=(aO rn sn).map aN:=by unfold mk;rw[p.er,p.es,zec,zec]
   have e1:aM r=rz rn:=by rw[p.er,ziw]
   have e2:aM t=rz sn:=by rw[p.es,ziw]
   rw[e1,e2]
   try simp only[VX,W,V,Dd.N]
   refine zbda lr ls (zo (zo p.ck).1).1 fun g1=>?_
   simp only[W,V,Dd.N];rw[zpv,← emk,xbr,xhh];generalize g++g1=g3;have b1:=m3 i hi;have b2:=m2 r hr j hj;have b3:=ml r hr t ht hw1;refine zhj (fun z σ s=>(∃v5:Option D,σ=[some (aK one),some (aK other),some (.ref st.length),some (rz rn),some (rz sn),v5])/\s=st++(.dT (aU (aQ (((one.take i).flatMap fun r=>other.flatMap (mk r))++(other.take j).flatMap (mk r)++(mk r t).take z)))::g3)) ⟨⟨_,rfl⟩,by simp⟩ ?_ ?_
   ·rintro z y σ s hy ⟨⟨v5,rfl⟩,rfl⟩;obtain⟨b,hb,rfl⟩:=zer hy;refine⟨_,rfl,?_⟩;unfold zli;simp only[W,V,L];have b4:=zes (((one.take i).flatMap fun r=>other.flatMap (mk r))++(other.take j).flatMap (mk r)++(mk r t).take z);have b5:((mk r t).take z).length<=(mk r t).length:=by rw[xdw];exact xfr _ _
    rw[xbs,xbs] at b4;refine zbdo (zbv _ _) (by lia) ⟨⟨_,rfl⟩,?_⟩;rw[zco,zbm hb,← xbr,ztm]
   ·rintro σ s ⟨⟨v5,rfl⟩,rfl⟩;simp only[L];rw[← e1,← e2];refine⟨⟨_,_,rfl⟩,?_,g3,?_⟩
    ·rw[zbm htt];intro s hs;rcases xce.mp hs with h | h
     ·exact hj s h
     ·rw[xbl.mp h];exact hw1
    ·rw[zt,xda,zbm htt,xix,List.flatMap_singleton,xbr]
  ·rintro σ s ⟨⟨v4,v5,rfl⟩,hj,g,rfl⟩;simp only[L];rw[zt,xda] at hj;refine⟨⟨_,_,_,rfl⟩,?_,g,?_⟩
   ·rw[zbm hrr];intro r' hr';rcases xce.mp hr' with h | h
    ·exact hi r' h
    ·rw[xbl.mp h];exact hj
   ·rw[zt,xda,zbm hrr,xix,List.flatMap_singleton]
 ·rintro σ s ⟨⟨v3,v4,v5,rfl⟩,hi,g,rfl⟩;rw[zt,xda] at hi;rw[zt,xda];have b1:=m3 one.length (by rw[xda];exact hi);rw[xda] at b1;simp only[VX,W,V];have b2:=zes (one.flatMap fun r=>other.flatMap (mk r));refine zsv (zbv _ _) (by lia) ?_;simp only[VX,W,V];exact k hi _
end
end Tab
theorem zxa {st:Store}{n:Nat}{Q:D->Store->Prop}{g:Store->Res D}(h:WX (g st) (fun _ s=>Q (.str "") s) (fun x s=>x=⟨"TooMany",[]⟩/\Q (.str "many") s)):WP (zbh g [.ref n] st) Q:=by
 unfold zbh;cases e:g st with
 | stuck=>rw[e] at h;exact h.elim
 | ok v s1 =>
  rw[e] at h;have z:fnD 4 1 (zbj g) [.ref n] st=.ok (.str "") s1:=by
   unfold fnD zbj aD sTry sDrop;simp only[e]
   rfl
  exact WP.of z h
 | exc x s1 =>
  rw[e] at h;obtain⟨rfl,h⟩:=h;have z:fnD 4 1 (zbj g) [.ref n] st=.ok (.str "many") s1:=by
   unfold fnD zbj aD sTry sDrop;simp only[e]
   rfl
  exact WP.of z h
theorem zpx {st:Store}{Q:D->Store->Prop}{F:(Store->Res D)->DFn}{is:List Nat}{lam:SE}{σ:DS}(h0:st[0]?=some .tab)(q:WP (F (lam (aX 0 is σ)) [.ref st.length] (st++[.dead])) Q):WP (eRefd F is lam σ st) Q:=by
 unfold eRefd;rw[h0];exact q
theorem zbga {neg:Bool}{a b:Str}{r:Bool}{st:Store}(ha:PySem.SeqAt.shaped (.str a)=true)(hb:PySem.SeqAt.shaped (.str b)=true)(h:(a==b)=r):oEqG neg (.str a) (.str b) st=.ok (.bl (if neg then !r else r)) st:=by
 have e:∀x:Str,dataOf st (.str x)=some (.str x):=fun _=>rfl
 unfold oEqG;rw[e,e];dsimp only;rw[if_pos ⟨ha,hb⟩];show Res.ok (D.bl (if neg then !(a==b) else(a==b))) st=_;rw[h]
theorem zdp {st:Store}(h:st[0]?=some .tab)(g:Store):(st++g)[0]?=some .tab:=by rw[xcd (zbc h)];exact h
theorem zjm {st s:Store}{n:Nat}(h:st[0]?=some .tab)(hn:BagAt st n)(d:Drew st s n):s[0]?=some .tab:=by
 refine(d.keep 0 (zbc h) fun e=>?_).trans h;subst e;obtain⟨c,x,e,_⟩:=hn;rw[h] at e;cases e
theorem zbcz {st:Store}{d:Int}{ns:List Int}:bMaxD d [.lst (ns.map .int)] st=.ok (.int (topI d ns)) st:=by
 show(match (some (ns.map D.int)).bind asInts with
  | some ns=>Res.ok (D.int (topI d ns)) st
  | none=>Res.stuck)=_
 rw[xlr,zem]
namespace Tab
theorem Cm.mono {m m':Int}{r:RowI}(h:Cm m r)(hm:m<=m'):Cm m' r:=by
 obtain⟨rn,a1,a2,a3⟩:=h;exact⟨rn,a1,a2,by lia⟩
theorem zbfe {x:Int}(h1:1<=x)(h2:x<=16):Cm 16 [x]:=by
 have all:∀k∈List.range 17,1<=k->[k]∈cts:=by decide +kernel
 obtain⟨k,rfl⟩:=xjq (show 0<=x by lia);refine⟨[k],all k (xck.mpr (by lia)) (by lia),rfl,?_⟩;show((1 * k+0:Nat):Int)<=16;lia
theorem zbkk:Cm 16 []:=⟨[],by decide +kernel,rfl,by decide⟩
theorem zbnx {r:RowI}(h:Cm 16 r):wtI 1 r<=16:=by
 obtain⟨rn,a1,a2,a3⟩:=h;have er:wtI 1 r=(wtN 1 rn:Nat):=by rw[a2];exact zmu rn 1
 lia
theorem zbar {l:List RowI}(h:∀r∈l,Cm 16 r):topI (-40) (l.map (wtI 1))<=16:=by
 cases l with
 | nil=>show(-40:Int)<=16;lia
 | cons r l =>
  have:=(zig (l.map (wtI 1)) (wtI 1 r)).1;obtain⟨z,hz,e⟩:=xdt.mp (show bestI true (wtI 1 r) (l.map (wtI 1))∈(r::l).map (wtI 1) from this);show bestI true (wtI 1 r) (l.map (wtI 1))<=16;rw[← e];exact zbnx (h z hz)
theorem zvi {one other:List RowI}(c1:∀r∈one,Cm 16 r)(c2:∀r∈other,Cm 16 r):16 < topI (-40) (one.map (wtI 1))+topI (-40) (other.map (wtI 1))↔∃r∈one,∃s∈other,16 < wtI 1 r+wtI 1 s:=by
 have t1:=zbar c1;have t2:=zbar c2;cases one with
 | nil=>exact⟨fun h=>absurd h (by have e:topI (-40) (([]:List RowI).map (wtI 1))=-40:=rfl;lia),fun⟨r,hr,_⟩=>nomatch hr⟩
 | cons a l =>
  cases other with
  | nil=>exact⟨fun h=>absurd h (by have e:topI (-40) (([]:List RowI).map (wtI 1))=-40:=rfl;lia),fun⟨_,_,r,hr,_⟩=>nomatch hr⟩
  | cons b l' =>
   have x:=zig (l.map (wtI 1)) (wtI 1 a);have y:=zig (l'.map (wtI 1)) (wtI 1 b);show 16 < bestI true (wtI 1 a) (l.map (wtI 1))+bestI true (wtI 1 b) (l'.map (wtI 1))↔_;constructor
   ·intro h;obtain⟨r,hr,e1⟩:=xdt.mp (show bestI true (wtI 1 a) (l.map (wtI 1))∈(a::l).map (wtI 1) from x.1);obtain⟨s,hs,e2⟩:=xdt.mp (show bestI true (wtI 1 b) (l'.map (wtI 1))∈(b::l').map (wtI 1) from y.1);exact⟨r,hr,s,hs,by lia⟩
   ·rintro⟨r,hr,s,hs,h⟩;have h1:=x.2 (wtI 1 r) (xdt.mpr ⟨r,hr,rfl⟩:wtI 1 r∈(a::l).map (wtI 1));have h2:=y.2 (wtI 1 s) (xdt.mpr ⟨s,hs,rfl⟩:wtI 1 s∈(b::l').map (wtI 1));lia
section
variable {st:Store}{n:Nat}{Q:D->Store->Prop}
theorem zew {c m:Int}(hb:BagAt st n)(c0:0<=c)(c1:c<=20)(h0:0<=m)(h1:m<=16)(k:∀l st',(l.length:Int)<=c->(∀r∈l,Cm m r)->Drew st st' n->Q (aK l) st'):WP (zbf [.ref n,.int c,.int m] st) Q:=by
 refine zll rfl ?_;simp only[W,V];refine zna hb (by lia) (by lia) fun c2 st1 a1 a2 d1=>?_
 try simp only[W,V,Dd.N]
 refine⟨rngN (by lia) (by lia),by rw[zdk];exact small _ (by lia),?_⟩;refine zkc (fun j acc σ s=>∃(l:List RowI) (v:Option D),acc=aJ l/\l.length=j/\(∀r∈l,Cm m r)/\σ=[v,some (.ref n),some (.int m)]/\Drew st s n) ⟨[],none,rfl,rfl,by simp,rfl,d1⟩ ?_ ?_
 ·rintro j x acc σ s hx ⟨l,v,rfl,b1,b2,rfl,b3⟩;refine⟨_,rfl,?_⟩;simp only[W,V];refine zlb b3.bag h0 h1 fun r s2 hr d2=>⟨l++[r],_,by simp[aJ],by simp[b1],?_,rfl,b3.trans d2⟩
  intro z hz;rcases xce.mp hz with hz | hz
  ·exact b2 z hz
  ·rw[xbl.mp hz];exact hr
 ·rintro ys σ s ⟨l,v,rfl,b1,b2,rfl,b3⟩;rw[zdk] at b1;refine znj (l:=l) rfl (by lia) fun g=>k _ _ (by have:=zgo l;lia) (fun r hr=>b2 r (zmd hr)) (b3.trans (.more b3.bag g))
theorem rsA {st:Store}{r:RowI}{d:D}{Q:D->Store->Prop}(h:r.length<=4)(e:d=aM r)(q:Q (.int (wtI 1 r)) st):WP (zp [d] st) Q:=by
 have z:=@zxc st Q r d;have z1:=z e;have z2:=z1 h;exact z2 q
theorem zbmj {st:Store}{r:RowI}(h:r.length<=4):∀d,d=aM r->WP (zp [d] st) (fun v s'=>v=.int (wtI 1 r)/\s'=st):=fun d e=>by
 have z:=@rsA st r d (fun v s'=>v=.int (wtI 1 r)/\s'=st) h e ⟨rfl,rfl⟩;exact z
theorem zvj {f:SE}{σ:DS}{l:List RowI}(hv:f σ st=.ok (aK l) st)(hl:l.length<=100)(hc:∀r∈l,Cm 16 r)(q:Q (.int (topI (-40) (l.map (wtI 1)))) st) :
  WP (aE (bMaxD (-40)) (aB (aG (aH f) 1 [] (gN 0) aI (aE zp (aB (aA 0) aC))) aC) σ st) Q:=by
 simp only[W];refine WP.of hv ?_;simp only[W,V,Dd.N];refine⟨by rw[zt];exact small _ (by lia),?_⟩;refine zkc (fun j acc σ s=>(∃v:Option D,σ=[v])/\acc=((l.take j).map (wtI 1)).map .int/\s=st) ⟨⟨_,rfl⟩,rfl,rfl⟩ ?_ ?_
 ·rintro j x acc σ s hx ⟨⟨v,rfl⟩,rfl,rfl⟩;obtain⟨r,hr,rfl⟩:=zer hx;refine⟨_,rfl,?_⟩;simp only[W,V];have hlen:=zzm (hc r (xch hr));have e9:((l.take (j+1)).map (wtI 1)).map D.int=((l.take j).map (wtI 1)).map D.int++[D.int (wtI 1 r)]:=by rw[zbm hr,xdr,xdr];rfl
  clear hc;generalize ed:aM r=d;obtain⟨v9,s9,e,rfl,rfl⟩:=(zbmj (st:=s) hlen d ed.symm).get;exact WP.of e ⟨⟨_,rfl⟩,e9.symm,rfl⟩
 ·rintro ys σ s ⟨⟨v,rfl⟩,rfl,rfl⟩;rw[zt,xda];exact WP.of zbcz q
end
structure St41 (s:Store) (n q4 q5:Nat) (one other:List RowI):Prop where
 tab:s[0]?=some .tab
 bag:BagAt s n
 a:n < q4
 b:q4 < q5
 h4:s[q4]?=some (.lst (aJ one))
 h5:s[q5]?=some (.lst (aJ other))
theorem St41.drew {s s':Store}{n q4 q5:Nat}{one other:List RowI}(h:St41 s n q4 q5 one other)(d:Drew s s' n):St41 s' n q4 q5 one other :=
 ⟨zjm h.tab h.bag d,d.bag,h.a,h.b,(d.keep _ (zbc h.h4) (by have:=h.a;lia)).trans h.h4,(d.keep _ (zbc h.h5) (by have:=h.a;have:=h.b;lia)).trans h.h5⟩
theorem zwj {s:Store}{n q:Nat}{o:O}(h:BagAt s n)(hq:n≠q):BagAt (s.set q o) n:=by
 obtain⟨c,x,e,h1⟩:=h;exact⟨c,x,by rw[xcf hq.symm];exact e,h1⟩
theorem St41.put4 {s:Store}{n q4 q5:Nat}{one other:List RowI}(h:St41 s n q4 q5 one other)(r:RowI):St41 (s.set q4 (.lst (aJ one++[aM r]))) n q4 q5 (one++[r]) other:=by
 have:=h.a;have:=h.b;refine⟨by rw[xcf (by lia)];exact h.tab,zwj h.bag (by lia),h.a,h.b,?_,by rw[xcf (by lia)];exact h.h5⟩;rw[xds (zbc h.h4)];simp[aJ]
theorem St41.put5 {s:Store}{n q4 q5:Nat}{one other:List RowI}(h:St41 s n q4 q5 one other)(r:RowI):St41 (s.set q5 (.lst (aJ other++[aM r]))) n q4 q5 one (other++[r]):=by
 have:=h.a;have:=h.b;refine⟨by rw[xcf (by lia)];exact h.tab,zwj h.bag (by lia),h.a,h.b,by rw[xcf (by lia)];exact h.h4,?_⟩;rw[xds (zbc h.h5)];simp[aJ]
theorem k41_holds (ns:List Int)(hl:ns.length<=63):∃st',zbld [.scr (ns.map .int)] [.tab]=.ok (.bl true) st':=by
 have key:WP (zbld [.scr (ns.map .int)] [.tab]) (fun v _=>v=.bl true):=by
  refine zll rfl ?_;simp only[W,V];have hle:((ns.map D.int).length:Int)<=63:=by rw[xbd];lia
  have hge:(0:Int)<=((ns.map D.int).length:Int):=by lia
  generalize ((ns.map D.int).length:Int)=len at hle hge;refine⟨_,rfl,rngN (by split<;>lia) (by split<;>lia),?_⟩;refine zhj (fun i σ s=>(∃v1 v2 v3 v4 v5 v6 v7 v8:Option D,σ=[some (.scr (ns.map .int)),v1,v2,v3,v4,v5,v6,v7,v8])/\s[0]?=some .tab) ⟨⟨_,_,_,_,_,_,_,_,rfl⟩,rfl⟩ ?_ ?_
  ·rintro i x σ s0 hx ⟨⟨v1,v2,v3,v4,v5,v6,v7,v8,rfl⟩,h0⟩;obtain⟨hi,rfl⟩:=zix hx;have hi2:i<=40:=by split at hi<;>lia
   refine⟨_,rfl,?_⟩;unfold zsg;refine zcb (R:=fun fl s=>∃n,BagAt s n/\fl=.nx [some (.scr (ns.map .int)),some (.int i),some (.ref n),v3,v4,v5,v6,v7,v8]/\s[0]?=some .tab) ?_ ?_
   ·simp only[W,V];rw[xkm];exact zbkt hl (by lia) fun g hb=>⟨_,hb,rfl,zdp h0 g⟩
   rintro fl s ⟨n,hb,rfl,t0⟩;show WP _ _;refine zcb (R:=fun fl s=>∃m:Int,fl=.nx [some (.scr (ns.map .int)),some (.int i),some (.ref n),some (.int m),v4,v5,v6,v7,v8]/\0<=m/\m<=16/\BagAt s n/\s[0]?=some .tab) ?_ ?_
   ·simp only[W,V];exact zna hb (by lia) (by lia) fun m s' m0 m1 d=>⟨m,rfl,m0,by lia,d.bag,zjm t0 hb d⟩
   clear t0 hb;rintro fl s ⟨m,rfl,m0,m1,hb,t0⟩;show WP _ _;have nlt:n < s.length:=by obtain⟨c,x,e,_⟩:=hb;exact zbc e
   refine zcb (R:=fun fl s=>∃(q4:Nat) (one:List RowI),fl=.nx [some (.scr (ns.map .int)),some (.int i),some (.ref n),some (.int m),some (.ref q4),v5,v6,v7,v8]/\one.length<=4/\(∀r∈one,Cm 16 r)/\BagAt s n/\s[0]?=some .tab/\n < q4/\s[q4]?=some (.lst (aJ one))) ?_ ?_
   ·simp only[W,V];refine zew hb (by lia) (by lia) m0 m1 fun l s' h1 h2 d=>?_
    have d2:=d.trans (.more d.bag [.lst (aJ l)]);refine WP.of (show bListM [aK l] s'=.ok (.ref s'.length) (s'++[.lst (aJ l)]) from rfl) ?_;exact⟨s'.length,l,rfl,by lia,fun r hr=>(h2 r hr).mono m1,d2.bag,zjm t0 hb d2,xbh nlt d.len,by simp⟩
   clear t0 hb nlt;rintro fl s ⟨q4,one,rfl,l1,c1,hb,t0,a1,a2⟩;show WP _ _;refine zcb (R:=fun fl s=>∃(q5:Nat) (other:List RowI),fl=.nx [some (.scr (ns.map .int)),some (.int i),some (.ref n),some (.int m),some (.ref q4),some (.ref q5),v6,v7,v8]/\other.length<=2/\(∀r∈other,Cm 16 r)/\St41 s n q4 q5 one other) ?_ ?_
   ·simp only[W,V];refine⟨trivial,?_⟩;refine zew hb (by lia) (by lia) (by lia) (by lia) fun l s' h1 h2 d=>?_
    have d2:=d.trans (.more d.bag [.lst (aJ l)]);refine WP.of (show bListM [aK l] s'=.ok (.ref s'.length) (s'++[.lst (aJ l)]) from rfl) ?_;exact⟨s'.length,l,rfl,by lia,fun r hr=>(h2 r hr).mono (by lia),zjm t0 hb d2,d2.bag,a1,xbh (zbc a2) d.len,(d2.keep _ (zbc a2) (by lia)).trans a2,by simp⟩
   clear t0 hb a1 a2;rintro fl s ⟨q5,other,rfl,l2,c2,S⟩;show WP _ _;refine zcb (R:=fun fl s=>∃c:Int,fl=.nx [some (.scr (ns.map .int)),some (.int i),some (.ref n),some (.int m),some (.ref q4),some (.ref q5),some (.int c),v7,v8]/\St41 s n q4 q5 one other) ?_ ?_
   ·simp only[W,V];exact zna S.bag (by lia) (by lia) fun c s' c0 c1 d=>⟨c,rfl,S.drew d⟩
   clear S;rintro fl s ⟨c,rfl,S⟩;show WP _ _;refine zcb (R:=fun fl s=>∃one other:List RowI,fl=.nx [some (.scr (ns.map .int)),some (.int i),some (.ref n),some (.int m),some (.ref q4),some (.ref q5),some (.int c),v7,v8]/\one.length<=5/\other.length<=3/\(∀r∈one,Cm 16 r)/\(∀r∈other,Cm 16 r)/\St41 s n q4 q5 one other) ?_ ?_
   ·simp only[W,V];split
    ·simp only[W,V,M,Dd.N];have cm1:Cm 16 [m+1 - (if m=16 then 1 else 0)]:=by split<;>exact zbfe (by lia) (by lia)
     have S1:=S.put4 [m+1 - (if m=16 then 1 else 0)];refine⟨q4,_,rfl,S.h4,small _ (by simp),_,aJ one,rfl,S.h4,smallT _ (by rw[zt];lia),?_⟩;refine⟨q5,aJ other,rfl,S1.h5,small _ (by simp),?_⟩;obtain⟨k,hk⟩:=xjq (show 0<=16 - m by lia);refine⟨_,aJ other,rfl,S1.h5,smallT _ (by rw[zt];lia),?_⟩;have ec:∃r:RowI,Cm 16 r/\D.tup (cutD [D.int (16 - m)] none (some (16 - m)))=aM r:=by
      rw[hk,zbez];cases k with
      | zero=>exact⟨[],zbkk,rfl⟩
      | succ k=>exact⟨[((k+1:Nat):Int)],zbfe (by lia) (by lia),by simp[aM]⟩
     obtain⟨r,hr,er⟩:=ec;rw[er]
     exact⟨_,_,by simp;lia,by simp;lia,fun z hz=>by
      rcases xce.mp hz with h | h
      ·exact c1 z h
      ·rw[xbl.mp h];exact cm1,fun z hz=>by
      rcases xce.mp hz with h | h
      ·exact c2 z h
      ·rw[xbl.mp h];exact hr,S1.put5 r⟩
    ·exact⟨_,_,by first | rfl | trivial,by lia,by lia,c1,c2,S⟩
   clear S c1 c2 l1 l2 one other;rintro fl s ⟨one,other,rfl,l1,l2,c1,c2,S⟩;show WP _ _;refine zcb (R:=fun fl s=>∃other:List RowI,fl=.nx [some (.scr (ns.map .int)),some (.int i),some (.ref n),some (.int m),some (.ref q4),some (.ref q5),some (.int c),v7,v8]/\other.length<=4/\(∀r∈other,Cm 16 r)/\St41 s n q4 q5 one other) ?_ ?_
   ·simp only[W,V];split
    ·simp only[W,V,M,Dd.N];refine⟨q5,_,rfl,S.h5,?_⟩;refine zlb S.bag (by lia) (by lia) fun r s' hr d=>?_
     have S1:=S.drew d;refine⟨_,aJ other,rfl,S1.h5,smallT _ (by rw[zt];lia),?_⟩
     exact⟨_,by simp;lia,fun z hz=>by
      rcases xce.mp hz with h | h
      ·exact c2 z h
      ·rw[xbl.mp h];exact hr,S1.put5 r⟩
    ·exact⟨_,by first | rfl | trivial,by lia,c2,S⟩
   clear S c2 l2 other;rintro fl s ⟨other,rfl,l2,c2,S⟩;show WP _ _;have z4:0≠q4:=by have:=S.a;lia
   have z5:0≠q5:=by have:=S.a;have:=S.b;lia
   refine zcb (R:=fun fl s=>fl=.nx [some (.scr (ns.map .int)),some (.int i),some (.ref n),some (.int m),some (aK (aR one)),some (.ref q5),some (.int c),v7,v8]/\s[0]?=some .tab/\s[q5]?=some (.lst (aJ other))) ?_ ?_
   ·simp only[W,V,M];refine⟨q4,_,rfl,S.h4,?_⟩;refine znj (l:=one) rfl (by lia) fun g=>⟨rfl,zdp ?_ g,?_⟩
    ·rw[xcf z4.symm];exact S.tab
    ·rw[xcd (by rw[xey];exact zbc S.h5),xcf (by have:=S.b;lia)];exact S.h5
   rintro fl s ⟨rfl,t0,h5⟩;show WP _ _;refine zcb (R:=fun fl s=>fl=.nx [some (.scr (ns.map .int)),some (.int i),some (.ref n),some (.int m),some (aK (aR one)),some (aK (aR other)),some (.int c),v7,v8]/\s[0]?=some .tab) ?_ ?_
   ·simp only[W,V,M];refine⟨q5,_,rfl,h5,?_⟩;refine znj (l:=other) rfl (by lia) fun g=>⟨rfl,zdp ?_ g⟩
    rw[xcf z5.symm];exact t0
   clear S t0 h5 z4 z5;have o1:=zgo one;have o2:=zgo other;have d1:∀r∈aR one,Cm 16 r:=fun r hr=>c1 r (zmd hr)
   have d2:∀r∈aR other,Cm 16 r:=fun r hr=>c2 r (zmd hr)
   have k1:(aR one).length<=40:=by lia
   have k2:(aR other).length<=40:=by lia
   generalize aR one=A at d1 k1;generalize aR other=B at d2 k2;rintro fl s ⟨rfl,t0⟩;show WP _ _;refine zcb (R:=fun fl s=>fl=.nx [some (.scr (ns.map .int)),some (.int i),some (.ref n),some (.int m),some (aK A),some (aK B),some (.int c),some (.int (topI (-40) (A.map (wtI 1)))),v8]/\s[0]?=some .tab) ?_ ?_
   ·unfold aF;rw[zk];refine zvj rfl (by lia) d1 ?_;exact⟨rfl,t0⟩
   rintro fl s ⟨rfl,t0⟩;show WP _ _;refine zcb (R:=fun fl s=>fl=.nx [some (.scr (ns.map .int)),some (.int i),some (.ref n),some (.int m),some (aK A),some (aK B),some (.int c),some (.int (topI (-40) (A.map (wtI 1))+topI (-40) (B.map (wtI 1)))),v8]/\s[0]?=some .tab) ?_ ?_
   ·unfold aF;rw[zk];unfold aW;rw[zk];refine WP.of (show aA 7 _ s=.ok (.int (topI (-40) (A.map (wtI 1)))) s from rfl) ?_;rw[zk];refine zvj rfl (by lia) d2 ?_;exact⟨rfl,t0⟩
   have hT:=zvi d1 d2;have hT2:=zvi d2 d1;rw[Int.add_comm] at hT2;generalize topI (-40) (A.map (wtI 1))+topI (-40) (B.map (wtI 1))=T at hT hT2;rintro fl s ⟨rfl,t0⟩;show WP _ _;refine zcb (R:=fun fl s=>fl=.nx [some (.scr (ns.map .int)), some (.int i), some (.ref n), some (.int m), some (aK A), some (aK B), some (.int c), some (.int T), some (.str (if 16 < T then "many" else ""))]/\s[0]?=some .tab) ?_ ?_
   ·simp only[W,V];refine⟨small _ (by simp),trivial,?_⟩;by_cases h:16 < T
    ·rw[if_pos h, if_pos h]; exact zbil (d:=.str "many") rfl rfl ⟨rfl, t0⟩
    ·rw[if_neg h, if_neg h]; exact zbil (d:=.str "") rfl rfl ⟨rfl, t0⟩
   have turn:∀(P R:List RowI) (s:Store) (Q:D->Store->Prop),P.length<=40->R.length<=40->(∀r∈P,Cm 16 r)->(∀r∈R,Cm 16 r)->(16 < T↔∃r∈P,∃s∈R,16 < wtI 1 r+wtI 1 s)->s[0]?=some .tab ->
     (∀ s':Store, s'[0]?=some .tab->Q (.str (if 16 < T then "many" else "")) s')->WP (zbh (fun st1=>zen [aK P, aK R] st1) [.ref s.length] (s++[.dead])) Q:=fun P R s Q p1 p2 p3 p4 hh ht q=>by
    refine zxa (zmz p1 p2 p3 p4 (fun h g=>?_) fun h g=>⟨rfl,?_⟩)
    ·have z:=q (s++[.dead]++g) (zdp (zdp ht _) g);rw[if_neg (fun w=>by obtain⟨r,hr,s,hs,w⟩:=hh.mp w;have:=h r hr s hs;lia)] at z;exact z
    ·have z:=q (s++[.dead]++g) (zdp (zdp ht _) g);rw[if_pos (hh.mpr h)] at z;exact z
   have same:∀ s:Store, oEqG true (.str (if 16 < T then "many" else "")) (.str (if 16 < T then "many" else "")) s=.ok (.bl false) s:=fun s=>by
    by_cases h:16 < T
    ·rw[if_pos h];exact zbga (neg:=true) (r:=true) (by decide +kernel) (by decide +kernel) (by decide +kernel)
    ·rw[if_neg h];exact zbga (neg:=true) (r:=true) (by decide +kernel) (by decide +kernel) (by decide +kernel)
   rintro fl s ⟨rfl,t0⟩;show WP _ _;refine zcb (R:=fun fl s=>fl=.nx [some (.scr (ns.map .int)), some (.int i), some (.ref n), some (.int m), some (aK A), some (aK B), some (.int c), some (.int T), some (.str (if 16 < T then "many" else ""))]/\s[0]?=some .tab) ?_ ?_
   ·simp only[W,V];refine zpx t0 ?_;refine turn A B s _ k1 k2 d1 d2 hT t0 fun s' t'=>?_
    refine WP.of (same s') ?_;simp only[W,V];exact⟨trivial,t'⟩
   rintro fl s ⟨rfl,t0⟩;show WP _ _;refine zcb (R:=fun fl s=>fl=.nx [some (.scr (ns.map .int)), some (.int i), some (.ref n), some (.int m), some (aK A), some (aK B), some (.int c), some (.int T), some (.str (if 16 < T then "many" else ""))]/\s[0]?=some .tab) ?_ ?_
   ·simp only[W,V];refine zpx t0 ?_;refine turn B A s _ k2 k1 d2 d1 hT2 t0 fun s' t'=>?_
    refine WP.of (same s') ?_;simp only[W,V];exact⟨trivial,t'⟩
   rintro fl s ⟨rfl,t0⟩;show WP _ _;simp only[W,V];by_cases h:16 < T
   ·rw[if_pos h];refine WP.of (zbga (neg:=false) (r:=false) (by decide +kernel) (by decide +kernel) (by decide +kernel)) ?_;simp only[W,V,L];exact⟨⟨_,_,_,_,_,_,_,_,rfl⟩,t0⟩
   ·rw[if_neg h];refine WP.of (zbga (neg:=false) (r:=true) (by decide +kernel) (by decide +kernel) (by decide +kernel)) ?_;simp only[W,V,L];split
    ·have all:∀r∈A,∀s∈B,wtI 1 r+wtI 1 s<=16:=fun r hr s hs=>Int.not_lt.mp fun w=>h (hT.mpr ⟨r,hr,s,hs,w⟩)
     refine(zmz (E:=fun _ _=>False) k1 k2 d1 d2 (fun _ g=>?_) fun w g=>h (hT.mpr w)).wp;refine zlo k1 k2 (fun r hr s hs=>zbhi (d1 r hr) (d2 s hs) (all r hr s hs)) fun g2=>?_
     refine WP.of (zbcn (neg:=true) _ _) ?_;simp only[W,V,L,xhd,Bool.not_true,xdc,xes];exact⟨⟨_,_,_,_,_,_,_,_,rfl⟩,zdp (zdp t0 g) g2⟩
    ·exact⟨⟨_,_,_,_,_,_,_,_,rfl⟩,t0⟩
  ·rintro σ s ⟨⟨v1,v2,v3,v4,v5,v6,v7,v8,rfl⟩,_⟩;simp only[W,V]
 obtain⟨v,st',e,rfl⟩:=key.get;exact⟨st',e⟩
end Tab
end Dd
namespace K41
theorem holds:∀ns:List Int,ns.length<=63->∃st',Dd.zbld [.scr (ns.map .int)] [.tab]=.ok (.bl true) st':=fun ns hl=>Dd.Tab.k41_holds ns hl
end K41
namespace K41
open PySem L2 Dd
def top (i:Nat):Stmt:=PySem.Challenge.pw_raisedsums_k41_counts_too_great.main.body.getD i (.Pass ⟨0,0,0,0⟩)
abbrev zht:Stmt:=top 29
abbrev zgj:Stmt:=top 30
abbrev zhs:Stmt:=top 31
abbrev zei:Stmt:=top 32
abbrev zcf:Stmt:=top 33
abbrev zjo:Stmt:=top 22
abbrev zdr:Stmt:=top 23
abbrev zeg:Stmt:=top 24
abbrev zcl:Stmt:=top 20
abbrev zfg:Stmt:=top 25
abbrev zct:Stmt:=top 26
abbrev zww:Stmt:=top 1
abbrev zgi:Stmt:=top 19
abbrev zpt:Stmt:=top 27
abbrev zds:Stmt:=top 39
abbrev zcc:Stmt:=top 38
abbrev zgk:Stmt:=top 36
abbrev zfi:Stmt:=top 34
abbrev zeh:Stmt:=top 35
abbrev zfh:Stmt:=top 37
abbrev zzy:Stmt:=top 40
section
variable {P:Program}{w:World}{K:Fg}{mg:Str->Option Value}{base h:Heap}
theorem ziv:FnScope ["_law_script", "_law_at", "_law_cell", "_law_mix", "_law_k"] ["_law_script", "_law_at"] (defScope zht):=⟨rfl, rfl, rfl, by decide +kernel, rfl, by decide +kernel, by decide +kernel⟩
theorem zov (T:TopF K "_law_bag" zht)(XX:K.In h)(G:h.Ns mainGlobals mg)(Ad:mg "len"=none)(z_abs:mg "abs"=none)(Ah:mg "min"=none)(Ab:mg "range"=none):CalD P w K mg base "_law_bag" 1 ["_law_script", "_law_at"] zeu :=
 have nd:=ziv.nd
 zbl (k:=0) T XX G ziv (fun _ _ _ _ _ _ us hl=>len2 us hl fun _ _=>rfl) fun f cdv A outer s H E hr=>(ze (zl (i:=2) nd rfl (Or.inl rfl) zg)
 (ze (zfk (zbw (zqm hr.units0) zqp (zb (pv 1)) (zy zu zgs rfl Ad zgr (za (zb (pv 0)) zd)) (nomark _)) (zh (zl (i:=2) nd rfl (Or.inl rfl) (zy zzt zbla rfl z_abs zbkq (za (zil (zb (pv 0)) (zb (pv 1)) (fun _ _=>rfl)) zd)))) zcu)
 (ze (zl (i:=3) nd rfl (Or.inl rfl) (zbe zx zby (zbe zim (oI_D fun _ _ _ _=>.int _) zg (zb (pv 1))) zg))
 (ze (zbx xcn rfl (zci rfl Ab (za (zy (zhi rfl) zbge rfl Ah zvb (za (zy zu zgs rfl Ad zgr (za (zb (pv 0)) zd)) (za zg zd))) zd)) (zf (i:=4) nd rfl (Or.inl rfl))
 (zh (zl (i:=3) nd rfl (Or.inl rfl) (zbe zot (oI_D fun _ _ _ _=>.int _) (zbe zx zby (zbe zx zby (zbe zim (oI_D fun _ _ _ _=>.int _) (zb (pv 3)) zg) (zbe zot (oI_D fun _ _ _ _=>.int _) (zil (zb (pv 0)) (zb (pv 4)) (fun _ _=>rfl)) zg)) (zb (pv 4))) zg))))
 (ze (zfk (zbw (zqm hr.units0) zqp (zb (pv 2)) (zbe zbhw (oI_D fun _ _ _ _=>.int _) zg zg) (nomark _)) (zh (zl (i:=2) nd rfl (Or.inl rfl) zg)) zcu)
 (zh (zbi (zfy (za (zb (pv 2)) (za (zb (pv 3)) zd))))))))))
theorem zhq:FnScope ["_law_bag_here", "_law_many", "_law_digit", "_law_number", "_law_room"] ["_law_bag_here", "_law_many"] (defScope zgj):=⟨rfl, rfl, rfl, by decide +kernel, rfl, by decide +kernel, by decide +kernel⟩
theorem zmb (T:TopF K "_law_take" zgj)(XX:K.In h)(G:h.Ns mainGlobals mg)  : CalD P w K mg base "_law_take" 1 ["_law_bag_here", "_law_many"] zbq :=
 have nd:=zhq.nd
 zbl (k:=0) T XX G zhq (fun _ _ _ _ _ _ us hl=>len2 us hl fun _ _=>rfl) fun f cdv A outer s H E hr=>(ze (zfk (zbw zzz (zet fun _ _ _ _=>.bl _) (zil (zb (pv 0)) zg (fun _ _=>rfl)) zg (nomark _)) (ze (zl (i:=2) nd rfl (Or.inl rfl) (zbe zot (oI_D fun _ _ _ _=>.int _) (zil (zb (pv 0)) zg (fun _ _=>rfl)) (zb (pv 1))))
 (ze (zob (zbe zlz (oI_D fun _ _ _ _=>.int _) (zil (zb (pv 0)) zg (fun _ _=>rfl)) (zb (pv 1))) (zb (pv 0)) zg)
 (zh (zbi (zb (pv 2)))))) zcu)
 (ze (zl (i:=3) nd rfl (Or.inl rfl) zg)
 (ze (zl (i:=4) nd rfl (Or.inl rfl) zg)
 (ze (zhh xcn (zbw (zqm hr.units0) zqp (zb (pv 4)) (zb (pv 1)) (nomark _)) (ze (zob (zbe zot (oI_D fun _ _ _ _=>.int _) (zbe zx zby (zbe zim (oI_D fun _ _ _ _=>.int _) (zil (zb (pv 0)) zg (fun _ _=>rfl)) zg) zg) zg) (zb (pv 0)) zg)
 (ze (zl (i:=3) nd rfl (Or.inl rfl) (zbe zx zby (zbe zim (oI_D fun _ _ _ _=>.int _) (zb (pv 3)) zg) (zbe zot (oI_D fun _ _ _ _=>.int _) (zbe zim (oI_D fun _ _ _ _=>.int _) (zbe zlz (oI_D fun _ _ _ _=>.int _) (zil (zb (pv 0)) zg (fun _ _=>rfl)) zg) zg) zg)))
 (zh (zl (i:=4) nd rfl (Or.inl rfl) (zbe zim (oI_D fun _ _ _ _=>.int _) (zb (pv 4)) zg))))))
 (zh (zbi (zbe zot (oI_D fun _ _ _ _=>.int _) (zb (pv 3)) (zb (pv 1)))))))))
theorem ziu:FnScope ["_law_things", "_law_odd_here", "_law_thing"] ["_law_things"] (defScope zhs):=⟨rfl, rfl, rfl, by decide +kernel, rfl, by decide +kernel, by decide +kernel⟩
theorem zou (T:TopF K "_law_odd" zhs)(XX:K.In h)(G:h.Ns mainGlobals mg)(A0:mg "sorted"=none)(Af:mg "tuple"=none):CalD P w K mg base "_law_odd" 1 ["_law_things"] zbr :=
 have nd:=ziu.nd
 zbl (k:=0) T XX G ziu (fun _ _ _ _ _ _ us hl=>len1 us hl fun _=>rfl) fun f cdv A outer s H E hr=>(ze (zl (i:=1) nd rfl (Or.inr rfl) zwg)
 (ze (zbx xcn rfl (zbo (zb (pv 0))) (zf (i:=2) nd rfl (Or.inl rfl))
 (zh (zrg (zbab hr) (zb (pv 1)) (zb (pv 2)) (zbjy (zzf (zbab hr) (zb (pv 1)) (zb (pv 2)) zwh ⟨rfl,rfl,rfl,rfl⟩)) rfl)))
 (zh (zbi (zbn zbg zdx rfl Af zdw (za (zy (zif rfl hr.units) zom rfl A0 zoh (za (zdn rfl (zzb (zb (pv 1))) (fun _ _ _ _ _=>(zf (i:=0) (show(["_law_thing", "_law_odd_here"]:List Str).Nodup from by decide +kernel) rfl (Or.inl rfl))) (fun _ _ _ _ _=>(zmm (zky (zbes (zbab hr) (zb (pv 1)) (zb (pv 0)) (fun _ _=>rfl))))) (fun _ _ _ _ _=>(zb (pv 0))) (N:=["_law_thing", "_law_odd_here"]) (k:=1) (is:=[1]) (zcj (by rfl))) zd)) zd))))))
theorem zft:FnScope ["_law_bag_here", "_law_most", "_law_counts_here", "_law_left", "_law_k", "_law_more"] ["_law_bag_here", "_law_most"] (defScope zei):=⟨rfl, rfl, rfl, by decide +kernel, rfl, by decide +kernel, by decide +kernel⟩
theorem zjr (T:TopF K "_law_counts" zei)(XX:K.In h)(G:h.Ns mainGlobals mg)(Ab:mg "range"=none)(Ad:mg "len"=none)(Af:mg "tuple"=none)(Ai:CalD P w K mg base "_law_take" 1 ["_law_bag_here", "_law_many"] zbq):CalD P w K mg base "_law_counts" 2 ["_law_bag_here", "_law_most"] zca :=
 have nd:=zft.nd
 zbl (k:=1) T XX G zft (fun _ _ _ _ _ _ us hl=>len2 us hl fun _ _=>rfl) fun f cdv A outer s H E hr=>(ze (zl (i:=2) nd rfl (Or.inl rfl) (zfy zd))
 (ze (zl (i:=3) nd rfl (Or.inl rfl) (zb (pv 1)))
 (ze (zbx xcn rfl (zrj rfl Ab (za zg (za (zpe zg) (za (zpe zg) zd)))) (zf (i:=4) nd rfl (Or.inl rfl))
 (ze (zl (i:=5) nd rfl (Or.inl rfl) (zbd Ai (fun _ _ _ _ h=>zba h) (hr.mono (by decide)) rfl (za (zb (pv 0)) (za (zbe zx zby (zbe zlz (oI_D fun _ _ _ _=>.int _) (zb (pv 3)) (zbe zda (zet fun _ _ _ _=>.int _) (zbe zql (oI_D fun _ _ _ _=>.int _) zg (zb (pv 4))) zg)) zg) zd))))
 (ze (zl (i:=3) nd rfl (Or.inl rfl) (zbe zda (zet fun _ _ _ _=>.int _) (zb (pv 3)) (zbe zim (oI_D fun _ _ _ _=>.int _) (zb (pv 5)) (zbe zda (zet fun _ _ _ _=>.int _) (zbe zql (oI_D fun _ _ _ _=>.int _) zg (zb (pv 4))) zg))))
 (zh (zbz (zch (zb (pv 2)) (za (zb (pv 5)) zd)))))))
 (ze (zhh xcn (JW.pt (zkx (zbw zzz (zet fun _ _ _ _=>.bl _) (zy zu zgs rfl Ad zgr (za (zb (pv 2)) zd)) zg (nomark _)) (zkw (zbw (zin hr.units) znl (zil (zb (pv 2)) zg (fun _ _=>rfl)) zg (nomark _)) (by first | exact Or.inl rfl | exact Or.inr rfl)))) (zh (zbz (zbeo (zb (pv 2)) (za zg zd)))))
 (zh (zbi (zbn zbg zdx rfl Af zdw (za (zbew (zb (pv 2)) (zpe zg)) zd))))))))
theorem zdd:FnScope ["_law_bag_here", "_law_many", "_law_most"] ["_law_bag_here", "_law_many", "_law_most"] (defScope zcf):=⟨rfl, rfl, rfl, by decide +kernel, rfl, by decide +kernel, by decide +kernel⟩
theorem zfu (T:TopF K "_law_some_counts" zcf)(XX:K.In h)(G:h.Ns mainGlobals mg)(Ab:mg "range"=none)(Aj:CalD P w K mg base "_law_odd" 1 ["_law_things"] zbr)(Ai:CalD P w K mg base "_law_take" 1 ["_law_bag_here", "_law_many"] zbq)(A1:CalD P w K mg base "_law_counts" 2 ["_law_bag_here", "_law_most"] zca):CalD P w K mg base "_law_some_counts" 3 ["_law_bag_here", "_law_many", "_law_most"] zbf :=
 have nd:=zdd.nd
 zbl (k:=2) T XX G zdd (fun _ _ _ _ _ _ us hl=>len3 us hl fun _ _ _=>rfl) fun f cdv A outer s H E hr=>(zh (zbi (zbd Aj (fun _ _ _ _ h=>zba h) (hr.mono (by decide)) rfl (za (zdn rfl (zci rfl Ab (za (zbd Ai (fun _ _ _ _ h=>zba h) (hr.mono (by decide)) rfl (za (zb (pv 0)) (za (zbe zx zby (zb (pv 1)) zg) zd))) zd)) (fun _ _ _ _ _=>(zf (i:=0) (show(["_law_k", "_law_bag_here", "_law_most"]:List Str).Nodup from by decide +kernel) rfl (Or.inl rfl))) (fun _ _ _ _ _=>zcm) (fun _ _ _ _ _=>(zbd A1 (fun _ _ _ _ h=>zba h) (hr.mono (by decide)) rfl (za (zb (pv 1)) (za (zb (pv 2)) zd)))) (N:=["_law_k", "_law_bag_here", "_law_most"]) (k:=1) (is:=[0, 2]) (zcj (by rfl))) zd))))
theorem zki:FnScope ["numbers", "place", "by"] ["numbers", "place", "by"] (defScope zjo):=⟨rfl, rfl, rfl, by decide +kernel, rfl, by decide +kernel, by decide +kernel⟩
theorem zqo (T:TopF K "changed" zjo)(XX:K.In h)(G:h.Ns mainGlobals mg)  : CalD P w K mg base "changed" 1 ["numbers", "place", "by"] zdg :=
 have nd:=zki.nd
 zbl (k:=0) T XX G zki (fun _ _ _ _ _ _ us hl=>len3 us hl fun _ _ _=>rfl) fun f cdv A outer s H E hr=>(zh (zbi (zbe zx zby (zbe zx zby (zbjw (zb (pv 0)) zml (zmk (zb (pv 1)))) (zdb (za (zbe zx zby (zil (zb (pv 0)) (zb (pv 1)) (fun _ _=>rfl)) (zb (pv 2))) zd))) (zbjw (zb (pv 0)) (zmk (zbe zx zby (zb (pv 1)) zg)) zml))))
theorem zex:FnScope ["partly", "i", "j", "slope", "told", "slopes", "columns", "left", "x"] ["partly", "i", "j"] (defScope zdr):=⟨rfl, rfl, rfl, by decide +kernel, rfl, by decide +kernel, by decide +kernel⟩
theorem zio (T:TopF K "place_filled" zdr)(XX:K.In h)(G:h.Ns mainGlobals mg)(Ah:mg "min"=none)(Ab:mg "range"=none)(Ay:CalD P w K mg base "changed" 1 ["numbers", "place", "by"] zdg):CalD P w K mg base "place_filled" 2 ["partly", "i", "j"] zce :=
 have nd:=zex.nd
 zbl (k:=1) T XX G zex (fun _ _ _ _ _ _ us hl=>len3 us hl fun _ _ _=>rfl) fun f cdv A outer s H E hr=>(ze (zl (i:=3) nd rfl (Or.inl rfl) (zbe zda (zet fun _ _ _ _=>.int _) (zbe zx zby (zb (pv 1)) (zb (pv 2))) zg))
 (ze (zl (i:=4) nd rfl (Or.inl rfl) (zfy zd))
 (ze (zbx xcn rfl (zbo (zb (pv 0))) (zek rfl (zr (zf (i:=5) nd rfl (Or.inl rfl)) (zr (zf (i:=6) nd rfl (Or.inl rfl)) (zr (zf (i:=7) nd rfl (Or.inl rfl)) zcv))))
 (zh (zbx xcn rfl (zci rfl Ab (za (zbe zx zby (zy (zhi rfl) zbge rfl Ah zvb (za (zil (zb (pv 6)) (zbe zda (zet fun _ _ _ _=>.int _) (zb (pv 2)) zg) (fun _ _=>rfl)) (za (zbe zbcf (oI_D fun _ _ _ _=>.int _) (zb (pv 7)) (zb (pv 2))) zd))) zg) zd)) (zf (i:=8) nd rfl (Or.inl rfl))
 (zh (zfk (zbw (zin hr.units) znl (zbe ztk (zet fun _ _ _ _=>.int _) (zil (zb (pv 5)) (zb (pv 3)) (fun _ _=>rfl)) (zb (pv 8))) zg (nomark _)) (zh (zbz (zch (zb (pv 4)) (za (zdb (za (zbd Ay (fun _ _ _ _ h=>zba h) (hr.mono (by decide)) rfl (za (zb (pv 5)) (za (zb (pv 3)) (za (zb (pv 8)) zd)))) (za (zbd Ay (fun _ _ _ _ h=>zba h) (hr.mono (by decide)) rfl (za (zb (pv 6)) (za (zbe zda (zet fun _ _ _ _=>.int _) (zb (pv 2)) zg) (za (zpe (zb (pv 8))) zd)))) (za (zbe zda (zet fun _ _ _ _=>.int _) (zb (pv 7)) (zbe zql (oI_D fun _ _ _ _=>.int _) (zb (pv 8)) (zb (pv 2)))) zd)))) zd)))) zcu)))))
 (zh (zbi (zwf (zb (pv 4))))))))
theorem zfr:FnScope ["partly", "i", "number", "width", "filled", "j", "told", "slopes", "columns", "left"] ["partly", "i", "number", "width"] (defScope zeg):=⟨rfl, rfl, rfl, by decide +kernel, rfl, by decide +kernel, by decide +kernel⟩
theorem zjp (T:TopF K "line_filled" zeg)(XX:K.In h)(G:h.Ns mainGlobals mg)(Ab:mg "range"=none)(B5:CalD P w K mg base "place_filled" 2 ["partly", "i", "j"] zce)(Ay:CalD P w K mg base "changed" 1 ["numbers", "place", "by"] zdg):CalD P w K mg base "line_filled" 3 ["partly", "i", "number", "width"] zck :=
  have nd:=zfr.nd
  zbl (k:=2) T XX G zfr (fun _ _ _ _ _ _ us hl=>len4 us hl fun _ _ _ _=>rfl) fun f cdv A outer s H E hr=>(ze (zrf (i:=4) rfl nd rfl (Or.inl rfl) (zbo (zb (pv 0))) (fun _ _ _ _ _=>(zek rfl (zr (zf (i:=0) (show(["slopes", "columns", "number"]:List Str).Nodup from by decide +kernel) rfl (Or.inl rfl)) (zr (zf (i:=1) (show(["slopes", "columns", "number"]:List Str).Nodup from by decide +kernel) rfl (Or.inl rfl)) zcv)))) (fun _ _ _ _ _=>zcm) (fun _ _ _ _ _=>(zdb (za (zb (pv 0)) (za (zb (pv 1)) (za (zb (pv 2)) zd))))) (N:=["slopes", "columns", "number"]) (k:=2) (is:=[2]) (zcj (by rfl)))
  (ze (zbx xcn rfl (zic rfl Ab (za zg (za (zbe zx zby (zb (pv 3)) zg) zd))) (zf (i:=5) nd rfl (Or.inl rfl))
  (zh (zl (i:=4) nd rfl (Or.inl rfl) (zbd B5 (fun _ _ _ _ h=>zba h) (hr.mono (by decide)) rfl (za (zb (pv 4)) (za (zb (pv 1)) (za (zb (pv 5)) zd)))))))
  (ze (zl (i:=6) nd rfl (Or.inl rfl) (zfy zd))
  (ze (zbx xcn rfl (zbo (zb (pv 4))) (zek rfl (zr (zf (i:=7) nd rfl (Or.inl rfl)) (zr (zf (i:=8) nd rfl (Or.inl rfl)) (zr (zf (i:=9) nd rfl (Or.inl rfl)) zcv))))
  (zh (zfk (zbw (zin hr.units) znl (zbe ztk (zet fun _ _ _ _=>.int _) (zil (zb (pv 7)) (zbe zda (zet fun _ _ _ _=>.int _) (zb (pv 1)) zg) (fun _ _=>rfl)) (zb (pv 9))) zg (nomark _)) (zh (zbz (zch (zb (pv 6)) (za (zdb (za (zbd Ay (fun _ _ _ _ h=>zba h) (hr.mono (by decide)) rfl (za (zb (pv 7)) (za (zbe zda (zet fun _ _ _ _=>.int _) (zb (pv 1)) zg) (za (zb (pv 9)) zd)))) (za (zb (pv 8)) zd))) zd)))) zcu)))
  (zh (zbi (zwf (zb (pv 6)))))))))
theorem zdj:FnScope ["numbers", "told"] ["numbers"] (defScope zcl):=⟨rfl, rfl, rfl, by decide +kernel, rfl, by decide +kernel, by decide +kernel⟩
theorem zgn (T:TopF K "without_noughts" zcl)(XX:K.In h)(G:h.Ns mainGlobals mg)(Az:mg "list"=none)(Af:mg "tuple"=none):CalD P w K mg base "without_noughts" 1 ["numbers"] zbk :=
 have nd:=zdj.nd
 zbl (k:=0) T XX G zdj (fun _ _ _ _ _ _ us hl=>len1 us hl fun _=>rfl) fun f cdv A outer s H E hr=>(ze (zl (i:=1) nd rfl (Or.inl rfl) (zbn zfm zmr rfl Az zrv (za (zb (pv 0)) zd)))
 (ze (zhh xcn (JW.pt (zkx (zky (zb (pv 1))) (zkw (zbw (zin hr.units) znl (zil (zb (pv 1)) (zpe zg) (fun _ _=>rfl)) zg (nomark _)) (by first | exact Or.inl rfl | exact Or.inr rfl)))) (zh (zbz (zbep (zb (pv 1))))))
 (zh (zbi (zbn zbg zdx rfl Af zdw (za (zb (pv 1)) zd))))))
theorem zgu:FnScope ["partly", "told", "slopes", "columns", "top"] ["partly"] (defScope zfg):=⟨rfl, rfl, rfl, by decide +kernel, rfl, by decide +kernel, by decide +kernel⟩
theorem zkk (T:TopF K "top_filled" zfg)(XX:K.In h)(G:h.Ns mainGlobals mg)(Ad:mg "len"=none)(z_zip:mg "zip"=none)(z_all:mg "all"=none)(Af:mg "tuple"=none):CalD P w K mg base "top_filled" 1 ["partly"] zcw :=
 have nd:=zgu.nd
 zbl (k:=0) T XX G zgu (fun _ _ _ _ _ _ us hl=>len1 us hl fun _=>rfl) fun f cdv A outer s H E hr=>(ze (zl (i:=1) nd rfl (Or.inl rfl) (zfy zd))
 (ze (zbx xcn rfl (zbo (zb (pv 0))) (zek rfl (zr (zf (i:=2) nd rfl (Or.inl rfl)) (zr (zf (i:=3) nd rfl (Or.inl rfl)) zcv)))
 (ze (zl (i:=4) nd rfl (Or.inl rfl) (zbe zx zby (zb (pv 3)) (zbe znh znk (zdb (za zg zd)) (zbe zda (zet fun _ _ _ _=>.int _) (zy zu zgs rfl Ad zgr (za (zb (pv 2)) zd)) (zy zu zgs rfl Ad zgr (za (zb (pv 3)) zd))))))
 (zh (zfk (zky (zy (zzs rfl) zbfu rfl z_all zbkp (za (zdn rfl (zwd rfl z_zip (za (zb (pv 2)) (za (zb (pv 4)) zd))) (fun _ _ _ _ _=>(zek rfl (zr (zf (i:=0) (show(["slope", "x"]:List Str).Nodup from by decide +kernel) rfl (Or.inl rfl)) (zr (zf (i:=1) (show(["slope", "x"]:List Str).Nodup from by decide +kernel) rfl (Or.inl rfl)) zcv)))) (fun _ _ _ _ _=>zcm) (fun _ _ _ _ _=>(zzg (zin hr.units) znl (zbe ztk (zet fun _ _ _ _=>.int _) (zb (pv 0)) (zb (pv 1))) zg (nomark _))) (N:=["slope", "x"]) (k:=2) (is:=[]) (zcj (by rfl))) zd))) (zh (zbz (zch (zb (pv 1)) (za (zbn zbg zdx rfl Af zdw (za (zdn rfl (zwd rfl z_zip (za (zb (pv 2)) (za (zb (pv 4)) zd))) (fun _ _ _ _ _=>(zek rfl (zr (zf (i:=0) (show(["slope", "x"]:List Str).Nodup from by decide +kernel) rfl (Or.inl rfl)) (zr (zf (i:=1) (show(["slope", "x"]:List Str).Nodup from by decide +kernel) rfl (Or.inl rfl)) zcv)))) (fun _ _ _ _ _=>zcm) (fun _ _ _ _ _=>(zbe zx zby (zb (pv 0)) (zb (pv 1)))) (N:=["slope", "x"]) (k:=2) (is:=[]) (zcj (by rfl))) zd)) zd)))) zcu))))
 (zh (zbi (zwf (zb (pv 1)))))))
theorem zdz:FnScope ["r", "s", "partly", "i", "number"] ["r", "s"] (defScope zct):=⟨rfl, rfl, rfl, by decide +kernel, rfl, by decide +kernel, by decide +kernel⟩
theorem zhb (T:TopF K "made_by_tables" zct)(XX:K.In h)(G:h.Ns mainGlobals mg)(Ad:mg "len"=none)(z_enumerate:mg "enumerate"=none)(B6:CalD P w K mg base "line_filled" 3 ["partly", "i", "number", "width"] zck)(B7:CalD P w K mg base "top_filled" 1 ["partly"] zcw)(B8:CalD P w K mg base "without_noughts" 1 ["numbers"] zbk):CalD P w K mg base "made_by_tables" 4 ["r", "s"] zbp :=
 have nd:=zdz.nd
 zbl (k:=3) T XX G zdz (fun _ _ _ _ _ _ us hl=>len2 us hl fun _ _=>rfl) fun f cdv A outer s H E hr=>(ze (zl (i:=2) nd rfl (Or.inl rfl) (zka (za (zdb (za (zbe znh znk (zdb (za zg zd)) (zbe zx zby (zy zu zgs rfl Ad zgr (za (zb (pv 0)) zd)) (zy zu zgs rfl Ad zgr (za (zb (pv 1)) zd)))) (za (zb (pv 1)) zd))) zd)))
 (ze (zbx xcn rfl (zun rfl z_enumerate (zb (pv 0))) (zek rfl (zr (zf (i:=3) nd rfl (Or.inl rfl)) (zr (zf (i:=4) nd rfl (Or.inl rfl)) zcv)))
 (zh (zl (i:=2) nd rfl (Or.inl rfl) (zbd B6 (fun _ _ _ _ h=>zba h) (hr.mono (by decide)) rfl (za (zb (pv 2)) (za (zb (pv 3)) (za (zb (pv 4)) (za (zy zu zgs rfl Ad zgr (za (zb (pv 1)) zd)) zd))))))))
 (zh (zbi (zdn rfl (zbo (zbd B7 (fun _ _ _ _ h=>zba h) (hr.mono (by decide)) rfl (za (zb (pv 2)) zd))) (fun _ _ _ _ _=>(zf (i:=0) (show(["numbers"]:List Str).Nodup from by decide +kernel) rfl (Or.inl rfl))) (fun _ _ _ _ _=>zcm) (fun _ _ _ _ _=>(zbd B8 (fun _ _ _ _ h=>zba h) (hr.mono (by decide)) rfl (za (zb (pv 0)) zd))) (N:=["numbers"]) (k:=1) (is:=[]) (zcj (by rfl)))))))
theorem zvk:FnScope ["kept", "thing"] ["kept", "thing"] (defScope zww):=⟨rfl, rfl, rfl, by decide +kernel, rfl, by decide +kernel, by decide +kernel⟩
theorem zbcj (T:TopF K "flip" zww)(XX:K.In h)(G:h.Ns mainGlobals mg)  : CalD P w K mg base "flip" 1 ["kept", "thing"] zpf :=
 have nd:=zvk.nd
 zbl (k:=0) T XX G zvk (fun _ _ _ _ _ _ us hl=>len2 us hl fun _ _=>rfl) fun f cdv A outer s H E hr=>(zh (zfk (zbjf (zbhu (zbab hr) (zb (pv 1)) (zb (pv 0)))) (zh (zbz (zber (zbab hr) (zb (pv 0)) (zb (pv 1)) ⟨rfl,rfl,rfl,rfl⟩))) (zh (zrg (zbab hr) (zb (pv 0)) (zb (pv 1)) zwh rfl))))
theorem zhp:FnScope ["numbers", "told", "weight", "number"] ["numbers"] (defScope zgi):=⟨rfl, rfl, rfl, by decide +kernel, rfl, by decide +kernel, by decide +kernel⟩
theorem zma (T:TopF K "raises_by" zgi)(XX:K.In h)(G:h.Ns mainGlobals mg)  : CalD P w K mg base "raises_by" 1 ["numbers"] zcq :=
 have nd:=zhp.nd
 zbl (k:=0) T XX G zhp (fun _ _ _ _ _ _ us hl=>len1 us hl fun _=>rfl) fun f cdv A outer s H E hr=>(ze (zl (i:=1) nd rfl (Or.inl rfl) zg)
 (ze (zl (i:=2) nd rfl (Or.inl rfl) zg)
 (ze (zbx xcn rfl (zbo (zb (pv 0))) (zf (i:=3) nd rfl (Or.inl rfl))
 (ze (zbea (i:=1) nd rfl (Or.inl rfl) (zbe zim (oI_D fun _ _ _ _=>.int _) (zb (pv 2)) (zb (pv 3))) zbiq ip_D)
 (zh (zl (i:=2) nd rfl (Or.inl rfl) (zbe zx zby (zbe zim (oI_D fun _ _ _ _=>.int _) zg (zb (pv 2))) zg)))))
 (zh (zbi (zb (pv 1)))))))
theorem zps:FnScope ["one", "other", "kept", "r", "s", "made"] ["one", "other"] (defScope zpt):=⟨rfl, rfl, rfl, by decide +kernel, rfl, by decide +kernel, by decide +kernel⟩
theorem zxy (T:TopF K "times" zpt)(XX:K.In h)(G:h.Ns mainGlobals mg)(A0:mg "sorted"=none)(Af:mg "tuple"=none){B9:Tok}(m_MOST_RAISED:mg "MOST_RAISED"=some (.int 16 B9)){Aa:Addr}(Ac:W.nsIn K mainGlobals "TooMany"=some (some (.ref Aa)))(A2:W.excIn K Aa bmV "ValueError.__new__"=true)(Bz:CalD P w K mg base "raises_by" 1 ["numbers"] zcq)(Ca:CalD P w K mg base "made_by_tables" 4 ["r", "s"] zbp)(c_flip:CalD P w K mg base "flip" 1 ["kept", "thing"] zpf):CalX P w K mg base "times" 5 ["one", "other"] zen :=
 have nd:=zps.nd
 zbfh (k:=4) T XX G zps (fun _ _ _ _ _ _ us hl=>len2 us hl fun _ _=>rfl) fun f cdv A outer s H E hr=>(zmj (fun _ _=>rfl) (zbjh (zl (i:=2) nd rfl (Or.inl rfl) zwg))
 (zmj (fun _ _=>rfl) (zwc (fun _ _=>rfl) xli rfl (zbo (zb (pv 0))) (zf (i:=3) nd rfl (Or.inl rfl))
 (zwb (zwc (fun _ _=>rfl) xli rfl (zbo (zb (pv 1))) (zf (i:=4) nd rfl (Or.inl rfl))
 (zmj (fun _ _=>rfl) (zbji (zbw zzz (zet fun _ _ _ _=>.bl _) (zbe zx zby (zbd Bz (fun _ _ _ _ h=>zba h) (hr.mono (by decide)) rfl (za (zb (pv 3)) zd)) (zbd Bz (fun _ _ _ _ h=>zba h) (hr.mono (by decide)) rfl (za (zb (pv 4)) zd))) (zbke (zde (v:=.int 16) rfl m_MOST_RAISED ⟨_,rfl⟩) (fun _ _=>.int _)) (nomark _)) (zwb (zuk zwp ⟨Ac,A2⟩ rfl rfl (za zid zd))) (zre zcu))
 (zre (zh (zbx xli rfl (zbo (zbd Ca (fun _ _ _ _ h=>zba h) (hr.mono (by decide)) rfl (za (zb (pv 3)) (za (zb (pv 4)) zd)))) (zf (i:=5) nd rfl (Or.inl rfl))
 (zh (zbz (zbd c_flip (fun _ _ _ _ h=>zba h) (hr.mono (by decide)) rfl (za (zb (pv 2)) (za (zb (pv 5)) zd))))))))))))
 (zre (zh (zbi (zbn zbg zdx rfl Af zdw (za (zy (zif rfl hr.units) zom rfl A0 zoh (za (zb (pv 2)) zd)) zd)))))))
theorem zey:FnScope ["_law_call", "_law_kinds", "_law_others", "e"] ["_law_call"] (defScope zds):=⟨rfl, rfl, rfl, by decide +kernel, rfl, by decide +kernel, by decide +kernel⟩
theorem ziq (T:TopF K "_law_refused" zds)(XX:K.In h)(G:h.Ns mainGlobals mg)(Cb:mg "ValueError"=none)(Ag:mg "isinstance"=none)(z_any:mg "any"=none){Ak:Addr}{Al:Addr}{Am:Addr}{An:Addr}{Ao:Addr}{Ap:Addr}{Aq:Addr}{Ar:Addr}{As:Addr}{Au:Addr}{Av:Addr}{Aw:Addr}{Aa:Addr}{Ax:Addr}(Ac:W.nsIn K mainGlobals "TooMany"=some (some (.ref Aa)))(Ae:ErrLook K Aa)(A3:W.kitOne K (.ref Aa) (.type "ValueError")=some true)(A4:W.nsIn K mainGlobals "NoPart"=some (some (.ref Ar)))(A5:W.kitOne K (.ref Aa) (.ref Ar)=some false)(A6:W.kitOne K (.ref Aa) (.ref Aa)=some true)(A7:W.nsIn K mainGlobals "NoRow"=some (some (.ref Au)))(A8:W.kitOne K (.ref Aa) (.ref Au)=some false)(A9:W.nsIn K mainGlobals "NoExchange"=some (some (.ref Am)))(Ba:W.kitOne K (.ref Aa) (.ref Am)=some false)(Bb:W.nsIn K mainGlobals "NoText"=some (some (.ref Av)))(Bc:W.kitOne K (.ref Aa) (.ref Av)=some false)(Bd:W.nsIn K mainGlobals "NoPaper"=some (some (.ref Aq)))(Be:W.kitOne K (.ref Aa) (.ref Aq)=some false)(Bf:W.nsIn K mainGlobals "Unlike"=some (some (.ref Ax)))(Bg:W.kitOne K (.ref Aa) (.ref Ax)=some false)(Bh:W.nsIn K mainGlobals "NoProduct"=some (some (.ref As)))(Bi:W.kitOne K (.ref Aa) (.ref As)=some false)(Bj:W.nsIn K mainGlobals "NoName"=some (some (.ref Ap)))(Bk:W.kitOne K (.ref Aa) (.ref Ap)=some false)(Bl:W.nsIn K mainGlobals "NoLine"=some (some (.ref Ao)))(Bo:W.kitOne K (.ref Aa) (.ref Ao)=some false)(Bp:W.nsIn K mainGlobals "NoLetters"=some (some (.ref An)))(Bq:W.kitOne K (.ref Aa) (.ref An)=some false)(Br:W.nsIn K mainGlobals "NoDeed"=some (some (.ref Al)))(Bs:W.kitOne K (.ref Aa) (.ref Al)=some false)(n_Full:W.nsIn K mainGlobals "Full"=some (some (.ref Ak)))(Bt:W.kitOne K (.ref Aa) (.ref Ak)=some false)(Bu:W.nsIn K mainGlobals "RaisedError"=some (some (.ref Aw)))(Bv:W.exmOne K (.ref Aa) (.ref Aw)=some true):CalT P w K mg base "_law_refused" 5 zbh :=
 have nd:=zey.nd
 zbfi (k:=5) (b:=zbj) T XX G zey (fun _ _ _ _ _ _ us hl=>len1 us hl fun _=>rfl) fun fr cdv A outer s H E f σL τL g Gg hG hr T=>(zbjq (zbjp (i:=3) (cs:=["TooMany"]) rfl rfl rfl nd rfl rfl rfl Bu (zbfb Ac Bv zbki) T hG (fun E pn=>pv 0) (fun e=>(ze (zfk (zbdv (zky (zfz (tbl:=[("TooMany", true)]) rfl Ag (pv 3) (zbca (v:=.ty "ValueError") rfl Cb PyProof.Rows.Boot.«ValueError» rfl) rfl (fun _ h=>h) (zdc Ac Ae A3 zfq)))) (zh (zbi zid)) zcu)
 (ze (zl (i:=1) nd rfl (Or.inl rfl) (zka (za (zfz (tbl:=[("TooMany", false)]) rfl Ag (pv 3) (zde (v:=.ref _) rfl (xdf XX G A9) rfl) rfl (fun _ h=>h) (zdc Ac Ae Ba zfq)) (za (zfz (tbl:=[("TooMany", false)]) rfl Ag (pv 3) (zde (v:=.ref _) rfl (xdf XX G A7) rfl) rfl (fun _ h=>h) (zdc Ac Ae A8 zfq)) (za (zfz (tbl:=[("TooMany", true)]) rfl Ag (pv 3) (zde (v:=.ref _) rfl (xdf XX G Ac) rfl) rfl (fun _ h=>h) (zdc Ac Ae A6 zfq)) (za (zfz (tbl:=[("TooMany", false)]) rfl Ag (pv 3) (zde (v:=.ref _) rfl (xdf XX G A4) rfl) rfl (fun _ h=>h) (zdc Ac Ae A5 zfq)) zd))))))
 (ze (zl (i:=2) nd rfl (Or.inl rfl) (zka (za (zfz (tbl:=[("TooMany", false)]) rfl Ag (pv 3) (zde (v:=.ref _) rfl (xdf XX G Bh) rfl) rfl (fun _ h=>h) (zdc Ac Ae Bi zfq)) (za (zfz (tbl:=[("TooMany", false)]) rfl Ag (pv 3) (zde (v:=.ref _) rfl (xdf XX G Bf) rfl) rfl (fun _ h=>h) (zdc Ac Ae Bg zfq)) (za (zfz (tbl:=[("TooMany", false)]) rfl Ag (pv 3) (zde (v:=.ref _) rfl (xdf XX G Bd) rfl) rfl (fun _ h=>h) (zdc Ac Ae Be zfq)) (za (zfz (tbl:=[("TooMany", false)]) rfl Ag (pv 3) (zde (v:=.ref _) rfl (xdf XX G Bb) rfl) rfl (fun _ h=>h) (zdc Ac Ae Bc zfq)) zd))))))
 (ze (zl (i:=2) nd rfl (Or.inl rfl) (zbe zx zby (zb (pv 2)) (zka (za (zfz (tbl:=[("TooMany", false)]) rfl Ag (pv 3) (zde (v:=.ref _) rfl (xdf XX G Bp) rfl) rfl (fun _ h=>h) (zdc Ac Ae Bq zfq)) (za (zfz (tbl:=[("TooMany", false)]) rfl Ag (pv 3) (zde (v:=.ref _) rfl (xdf XX G Bl) rfl) rfl (fun _ h=>h) (zdc Ac Ae Bo zfq)) (za (zfz (tbl:=[("TooMany", false)]) rfl Ag (pv 3) (zde (v:=.ref _) rfl (xdf XX G Bj) rfl) rfl (fun _ h=>h) (zdc Ac Ae Bk zfq)) zd))))))
 (ze (zl (i:=2) nd rfl (Or.inl rfl) (zbe zx zby (zb (pv 2)) (zka (za (zfz (tbl:=[("TooMany", false)]) rfl Ag (pv 3) (zde (v:=.ref _) rfl (xdf XX G n_Full) rfl) rfl (fun _ h=>h) (zdc Ac Ae Bt zfq)) (za (zfz (tbl:=[("TooMany", false)]) rfl Ag (pv 3) (zde (v:=.ref _) rfl (xdf XX G Br) rfl) rfl (fun _ h=>h) (zdc Ac Ae Bs zfq)) zd)))))
 (ze (zfk (JW.pt (zbja (zky (zy zva zbfu rfl z_any zbko (za (zb (pv 2)) zd))) (zkw (zbw (ztj hr.units) znl (zuu (zb (pv 1)) (za zwh zd)) zg (nomark _)) (by first | exact Or.inl rfl | exact Or.inr rfl)))) (zh (zbi zid)) zcu)
 (zh (zbi (zil (zka (za zid (za zid (za zid (za zid zd))))) (zur (zb (pv 1)) (za zwh zd)) (fun _ _=>rfl))))))))))))
 (zh (zbi zid)))
theorem zcs:FnScope ["_law_counts_here"] ["_law_counts_here"] (defScope zcc):=⟨rfl, rfl, rfl, by decide +kernel, rfl, by decide +kernel, by decide +kernel⟩
theorem zfj (T:TopF K "_law_counts_raise" zcc)(XX:K.In h)(G:h.Ns mainGlobals mg)(Ad:mg "len"=none)(Ab:mg "range"=none)(z_sum:mg "sum"=none):CalD P w K mg base "_law_counts_raise" 1 ["_law_counts_here"] zp :=
 have nd:=zcs.nd
 zbl (k:=0) T XX G zcs (fun _ _ _ _ _ _ us hl=>len1 us hl fun _=>rfl) fun f cdv A outer s H E hr=>(zh (zbi (zy (zof rfl) zbfr rfl z_sum zbfl (za (zdn rfl (zci rfl Ab (za (zy zu zgs rfl Ad zgr (za (zb (pv 0)) zd)) zd)) (fun _ _ _ _ _=>(zf (i:=0) (show(["_law_k", "_law_counts_here"]:List Str).Nodup from by decide +kernel) rfl (Or.inl rfl))) (fun _ _ _ _ _=>zcm) (fun _ _ _ _ _=>(zbe zim (oI_D fun _ _ _ _=>.int _) (zil (zb (pv 1)) (zb (pv 0)) (fun _ _=>rfl)) (zbe zda (zet fun _ _ _ _=>.int _) (zbe zql (oI_D fun _ _ _ _=>.int _) zg (zb (pv 0))) zg))) (N:=["_law_k", "_law_counts_here"]) (k:=1) (is:=[0]) (zcj (by rfl))) zd))))
theorem zhr:FnScope ["_law_table", "_law_counts_here", "_law_t", "_law_numbers", "_law_both", "_law_x"] ["_law_table"] (defScope zgk):=⟨rfl, rfl, rfl, by decide +kernel, rfl, by decide +kernel, by decide +kernel⟩
theorem zmc (T:TopF K "_law_made" zgk)(XX:K.In h)(G:h.Ns mainGlobals mg)(Ab:mg "range"=none)(z_sum:mg "sum"=none)(Ad:mg "len"=none)(Af:mg "tuple"=none):CalD P w K mg base "_law_made" 1 ["_law_table"] zeq :=
  have nd:=zhr.nd
  zbl (k:=0) T XX G zhr (fun _ _ _ _ _ _ us hl=>len1 us hl fun _=>rfl) fun f cdv A outer s H E hr=>(ze (zl (i:=1) nd rfl (Or.inl rfl) (zfy zd))
  (ze (zbx xcn rfl (zic rfl Ab (za zg (za zg zd))) (zf (i:=2) nd rfl (Or.inr rfl))
  (ze (zrf (i:=3) rfl nd rfl (Or.inl rfl) (zci rfl Ab (za zg zd)) (fun _ _ _ _ _=>(zf (i:=0) (show(["_law_i", "_law_table", "_law_t"]:List Str).Nodup from by decide +kernel) rfl (Or.inl rfl))) (fun _ _ _ _ _=>(zmm (zuj zbms (zqm hr.units0) (zet fun _ _ _ _=>.bl _) zqp zg (zbe zda (zet fun _ _ _ _=>.int _) (zb (pv 2)) (zb (pv 0))) zg))) (fun _ _ _ _ _=>(zil (zil (zb (pv 1)) (zb (pv 0)) (fun _ _=>rfl)) (zbe zda (zet fun _ _ _ _=>.int _) (zb (pv 2)) (zb (pv 0))) (fun _ _=>rfl))) (N:=["_law_i", "_law_table", "_law_t"]) (k:=1) (is:=[0, 2]) (zcj (by rfl)))
  (ze (zl (i:=4) nd rfl (Or.inl rfl) zg)
  (ze (zbx xcn rfl (zbo (zb (pv 3))) (zf (i:=5) nd rfl (Or.inl rfl))
  (ze (zfk (zbw zzz (zet fun _ _ _ _=>.bl _) (zbe ztk (zet fun _ _ _ _=>.int _) (zb (pv 4)) (zb (pv 5))) zg (nomark _)) (zh (zbi zbeq)) zcu)
  (zh (zl (i:=4) nd rfl (Or.inl rfl) (zbe zbmq (zet fun _ _ _ _=>.int _) (zb (pv 4)) (zb (pv 5)))))))
  (zh (zbz (zch (zb (pv 1)) (za (zy (zof rfl) zbfr rfl z_sum zbfl (za (zb (pv 3)) zd)) zd))))))))
  (ze (zhh xcn (JW.pt (zkx (zbw zzz (zet fun _ _ _ _=>.bl _) (zy zu zgs rfl Ad zgr (za (zb (pv 1)) zd)) zg (nomark _)) (zkw (zbw (zin hr.units) znl (zil (zb (pv 1)) (zpe zg) (fun _ _=>rfl)) zg (nomark _)) (by first | exact Or.inl rfl | exact Or.inr rfl)))) (zh (zbz (zbep (zb (pv 1))))))
  (zh (zbi (zbn zbg zdx rfl Af zdw (za (zb (pv 1)) zd)))))))
theorem zgw:FnScope ["_law_number", "_law_left", "_law_ways", "_law_j", "_law_further", "_law_rest", "_law_line", "_law_x"] ["_law_number", "_law_left"] (defScope zfi):=⟨rfl, rfl, rfl, by decide +kernel, rfl, by decide +kernel, by decide +kernel⟩
theorem zkm (T:TopF K "_law_lines" zfi)(XX:K.In h)(G:h.Ns mainGlobals mg)(Ab:mg "range"=none)(Ah:mg "min"=none):CalD P w K mg base "_law_lines" 1 ["_law_number", "_law_left"] zdo :=
 have nd:=zgw.nd
 zbl (k:=0) T XX G zgw (fun _ _ _ _ _ _ us hl=>len2 us hl fun _ _=>rfl) fun f cdv A outer s H E hr=>(ze (zl (i:=2) nd rfl (Or.inl rfl) (zka (za (zdb (za (zb (pv 0)) (za (zdb zd) zd))) zd)))
 (ze (zbx xcn rfl (zic rfl Ab (za zg (za zg zd))) (zf (i:=3) nd rfl (Or.inl rfl))
 (ze (zl (i:=4) nd rfl (Or.inl rfl) (zfy zd))
 (ze (zbx xcn rfl (zbo (zb (pv 2))) (zek rfl (zr (zf (i:=5) nd rfl (Or.inl rfl)) (zr (zf (i:=6) nd rfl (Or.inl rfl)) zcv)))
 (zh (zbx xcn rfl (zci rfl Ab (za (zbe zx zby (zy (zhi rfl) zbge rfl Ah zvb (za (zil (zb (pv 1)) (zbe zda (zet fun _ _ _ _=>.int _) (zb (pv 3)) zg) (fun _ _=>rfl)) (za (zbe zbcf (oI_D fun _ _ _ _=>.int _) (zb (pv 5)) (zb (pv 3))) zd))) zg) zd)) (zf (i:=7) nd rfl (Or.inl rfl))
 (zh (zbz (zch (zb (pv 4)) (za (zdb (za (zbe zda (zet fun _ _ _ _=>.int _) (zb (pv 5)) (zbe zql (oI_D fun _ _ _ _=>.int _) (zb (pv 7)) (zb (pv 3)))) (za (zbe zx zby (zb (pv 6)) (zdb (za (zb (pv 7)) zd))) zd))) zd)))))))
 (zh (zl (i:=2) nd rfl (Or.inl rfl) (zwf (zb (pv 4))))))))
 (zh (zbi (zdn rfl (zbo (zb (pv 2))) (fun _ _ _ _ _=>(zek rfl (zr (zf (i:=0) (show(["_law_rest", "_law_line"]:List Str).Nodup from by decide +kernel) rfl (Or.inl rfl)) (zr (zf (i:=1) (show(["_law_rest", "_law_line"]:List Str).Nodup from by decide +kernel) rfl (Or.inl rfl)) zcv)))) (fun _ _ _ _ _=>zcm) (fun _ _ _ _ _=>(zbe zx zby (zdb (za (zb (pv 0)) zd)) (zb (pv 1)))) (N:=["_law_rest", "_law_line"]) (k:=2) (is:=[]) (zcj (by rfl)))))))
theorem zfs:FnScope ["_law_r", "_law_s", "_law_ways", "_law_number", "_law_further", "_law_drawn", "_law_left", "_law_line", "_law_over"] ["_law_r", "_law_s"] (defScope zeh):=⟨rfl, rfl, rfl, by decide +kernel, rfl, by decide +kernel, by decide +kernel⟩
theorem zjq (T:TopF K "_law_tables" zeh)(XX:K.In h)(G:h.Ns mainGlobals mg)(Af:mg "tuple"=none)(Ad:mg "len"=none)(Ab:mg "range"=none)(Cc:CalD P w K mg base "_law_lines" 1 ["_law_number", "_law_left"] zdo):CalD P w K mg base "_law_tables" 2 ["_law_r", "_law_s"] zcz :=
  have nd:=zfs.nd
  zbl (k:=1) T XX G zfs (fun _ _ _ _ _ _ us hl=>len2 us hl fun _ _=>rfl) fun f cdv A outer s H E hr=>(ze (zl (i:=2) nd rfl (Or.inl rfl) (zka (za (zdb (za (zdb zd) (za (zbe zx zby (zbn zbg zdx rfl Af zdw (za (zb (pv 1)) zd)) (zbe znh znk (zdb (za zg zd)) (zbe zda (zet fun _ _ _ _=>.int _) zg (zy zu zgs rfl Ad zgr (za (zb (pv 1)) zd))))) zd))) zd)))
  (ze (zbx xcn rfl (zbo (zbe zx zby (zbn zbg zdx rfl Af zdw (za (zb (pv 0)) zd)) (zbe znh znk (zdb (za zg zd)) (zbe zda (zet fun _ _ _ _=>.int _) zg (zy zu zgs rfl Ad zgr (za (zb (pv 0)) zd)))))) (zf (i:=3) nd rfl (Or.inl rfl))
  (ze (zl (i:=4) nd rfl (Or.inl rfl) (zfy zd))
  (ze (zbx xcn rfl (zbo (zb (pv 2))) (zek rfl (zr (zf (i:=5) nd rfl (Or.inl rfl)) (zr (zf (i:=6) nd rfl (Or.inr rfl)) zcv)))
  (zh (zbx xcn rfl (zbo (zbd Cc (fun _ _ _ _ h=>zba h) (hr.mono (by decide)) rfl (za (zb (pv 3)) (za (zb (pv 6)) zd)))) (zf (i:=7) nd rfl (Or.inr rfl))
  (ze (zl (i:=8) nd rfl (Or.inl rfl) (zbn zbg zdx rfl Af zdw (za (zdn rfl (zci rfl Ab (za zg zd)) (fun _ _ _ _ _=>(zf (i:=0) (show(["_law_j", "_law_left", "_law_line"]:List Str).Nodup from by decide +kernel) rfl (Or.inl rfl))) (fun _ _ _ _ _=>zcm) (fun _ _ _ _ _=>(zbe zda (zet fun _ _ _ _=>.int _) (zil (zb (pv 1)) (zb (pv 0)) (fun _ _=>rfl)) (zil (zb (pv 2)) (zbe zx zby (zb (pv 0)) zg) (fun _ _=>rfl)))) (N:=["_law_j", "_law_left", "_law_line"]) (k:=1) (is:=[6, 7]) (zcj (by rfl))) zd)))
  (zh (zbz (zch (zb (pv 4)) (za (zdb (za (zbe zx zby (zb (pv 5)) (zdb (za (zb (pv 7)) zd))) (za (zb (pv 8)) zd))) zd))))))))
  (zh (zl (i:=2) nd rfl (Or.inl rfl) (zwf (zb (pv 4))))))))
  (zh (zbi (zdn rfl (zbo (zb (pv 2))) (fun _ _ _ _ _=>(zek rfl (zr (zf (i:=0) (show(["_law_drawn", "_law_left"]:List Str).Nodup from by decide +kernel) rfl (Or.inl rfl)) (zr (zf (i:=1) (show(["_law_drawn", "_law_left"]:List Str).Nodup from by decide +kernel) rfl (Or.inl rfl)) zcv)))) (fun _ _ _ _ _=>zcm) (fun _ _ _ _ _=>(zbe zx zby (zdb (za (zbe zx zby (zdb (za zg zd)) (zb (pv 1))) zd)) (zb (pv 0)))) (N:=["_law_drawn", "_law_left"]) (k:=2) (is:=[]) (zcj (by rfl)))))))
theorem zgv:FnScope ["_law_one", "_law_other", "_law_found", "_law_r", "_law_s"] ["_law_one", "_law_other"] (defScope zfh):=⟨rfl, rfl, rfl, by decide +kernel, rfl, by decide +kernel, by decide +kernel⟩
theorem zkl (T:TopF K "_law_times" zfh)(XX:K.In h)(G:h.Ns mainGlobals mg)(Cd:CalD P w K mg base "_law_tables" 2 ["_law_r", "_law_s"] zcz)(c__law_made:CalD P w K mg base "_law_made" 1 ["_law_table"] zeq)(Aj:CalD P w K mg base "_law_odd" 1 ["_law_things"] zbr):CalD P w K mg base "_law_times" 3 ["_law_one", "_law_other"] zcy :=
 have nd:=zgv.nd
 zbl (k:=2) T XX G zgv (fun _ _ _ _ _ _ us hl=>len2 us hl fun _ _=>rfl) fun f cdv A outer s H E hr=>(ze (zl (i:=2) nd rfl (Or.inl rfl) (zfy zd))
 (ze (zbx xcn rfl (zbo (zb (pv 0))) (zf (i:=3) nd rfl (Or.inl rfl))
 (zh (zbx xcn rfl (zbo (zb (pv 1))) (zf (i:=4) nd rfl (Or.inl rfl))
 (zh (zbz (zut (zb (pv 2)) (za (zdn rfl (zbo (zdn rfl (zbo (zbd Cd (fun _ _ _ _ h=>zba h) (hr.mono (by decide)) rfl (za (zb (pv 3)) (za (zb (pv 4)) zd)))) (fun _ _ _ _ _=>(zf (i:=0) (show(["_law_table"]:List Str).Nodup from by decide +kernel) rfl (Or.inl rfl))) (fun _ _ _ _ _=>zcm) (fun _ _ _ _ _=>(zbd c__law_made (fun _ _ _ _ h=>zba h) (hr.mono (by decide)) rfl (za (zb (pv 0)) zd))) (N:=["_law_table"]) (k:=1) (is:=[]) (zcj (by rfl)))) (fun _ _ _ _ _=>(zf (i:=0) (show(["_law_counts_here"]:List Str).Nodup from by decide +kernel) rfl (Or.inl rfl))) (fun _ _ _ _ _=>(zmm (zbw zbcg zbcm (zb (pv 0)) zbeq (nomark _)))) (fun _ _ _ _ _=>(zb (pv 0))) (N:=["_law_counts_here"]) (k:=1) (is:=[]) (zcj (by rfl))) zd)))))))
 (zh (zbi (zbd Aj (fun _ _ _ _ h=>zba h) (hr.mono (by decide)) rfl (za (zwf (zb (pv 2))) zd))))))
theorem zbay:FnScope ["_law_script", "_law_k", "_law_bag_here", "_law_most", "_law_one", "_law_other", "_law_pick", "_law_high", "_law_due"] ["_law_script"] (defScope zzy):=⟨rfl, rfl, rfl, by decide +kernel, rfl, by decide +kernel, by decide +kernel⟩
theorem zbia {f c T:Addr}{fd:FuncData}(F:Fun K "law" "law" zzy f fd)(hfc:fd.code=.ref c)(CT:W.CodeHd base c T)(ht:W.tabIn K "law"=some (c, T))(Bm:BmOk mg base)(Ad:mg "len"=none)(Ah:mg "min"=none)(Ab:mg "range"=none)(Az:mg "list"=none)(z_int:mg "int"=none)(z_max:mg "max"=none)(c__law_bag:CalD P w K mg base "_law_bag" 1 ["_law_script", "_law_at"] zeu)(Ai:CalD P w K mg base "_law_take" 1 ["_law_bag_here", "_law_many"] zbq)(B0:CalD P w K mg base "_law_some_counts" 3 ["_law_bag_here", "_law_many", "_law_most"] zbf)(A1:CalD P w K mg base "_law_counts" 2 ["_law_bag_here", "_law_most"] zca)(Aj:CalD P w K mg base "_law_odd" 1 ["_law_things"] zbr)(B1:CalD P w K mg base "_law_counts_raise" 1 ["_law_counts_here"] zp)(B2:CalT P w K mg base "_law_refused" 5 zbh)(Bw:CalX P w K mg base "times" 5 ["one", "other"] zen)(Ce:CalD P w K mg base "_law_times" 3 ["_law_one", "_law_other"] zcy):FnOk P w K mg base CX0 8 f fd ["_law_script"] (spLawT K T) :=
  have nd:=zbay.nd
  zbdc (k:=7) F zbay rfl (fun cdv A outer s H E hcd hr=>(ze (zbx xcn rfl (zci rfl Ab (za (zbe zx zby (zy (zhi rfl) zbge rfl Ah zvb (za (zy zu zgs rfl Ad zgr (za (zb (pv 0)) zd)) (za zg zd))) zg) zd)) (zf (i:=1) nd rfl (Or.inl rfl))
  (ze (zl (i:=2) nd rfl (Or.inl rfl) (zbd c__law_bag (fun _ _ _ _ h=>zba h) (hr.mono (by decide)) rfl (za (zb (pv 0)) (za (zb (pv 1)) zd))))
  (ze (zl (i:=3) nd rfl (Or.inl rfl) (zbd Ai (fun _ _ _ _ h=>zba h) (hr.mono (by decide)) rfl (za (zb (pv 2)) (za zg zd))))
  (ze (zl (i:=4) nd rfl (Or.inr rfl) (zbn zfm zmr rfl Az zrv (za (zbd B0 (fun _ _ _ _ h=>zba h) (hr.mono (by decide)) rfl (za (zb (pv 2)) (za zg (za (zb (pv 3)) zd)))) zd)))
  (ze (zl (i:=5) nd rfl (Or.inr rfl) (zbn zfm zmr rfl Az zrv (za (zbd B0 (fun _ _ _ _ h=>zba h) (hr.mono (by decide)) rfl (za (zb (pv 2)) (za zg (za (zbe zda (zet fun _ _ _ _=>.int _) zg (zb (pv 3))) zd)))) zd)))
  (ze (zl (i:=6) nd rfl (Or.inl rfl) (zbd Ai (fun _ _ _ _ h=>zba h) (hr.mono (by decide)) rfl (za (zb (pv 2)) (za zg zd))))
  (ze (zfk (zbw (zin hr.units) znl (zb (pv 6)) zg (nomark _)) (ze (zbz (zch (zb (pv 4)) (za (zdb (za (zbe zda (zet fun _ _ _ _=>.int _) (zbe zx zby (zb (pv 3)) zg) (zbn zog zbft rfl z_int zbfm (za (zzg (zin hr.units) znl (zb (pv 3)) zg (nomark _)) zd))) zd)) zd)))
  (zh (zbz (zch (zb (pv 5)) (za (zbjw (zdb (za (zbe zda (zet fun _ _ _ _=>.int _) zg (zb (pv 3))) zd)) zml (zmk (zbe zda (zet fun _ _ _ _=>.int _) zg (zb (pv 3))))) zd))))) zcu)
  (ze (zfk (zbw (zin hr.units) znl (zb (pv 6)) zg (nomark _)) (zh (zbz (zch (zb (pv 5)) (za (zbd A1 (fun _ _ _ _ h=>zba h) (hr.mono (by decide)) rfl (za (zb (pv 2)) (za zg zd))) zd)))) zcu)
  (ze (zl (i:=4) nd rfl (Or.inr rfl) (zbd Aj (fun _ _ _ _ h=>zba h) (hr.mono (by decide)) rfl (za (zwf (zb (pv 4))) zd)))
  (ze (zl (i:=5) nd rfl (Or.inr rfl) (zbd Aj (fun _ _ _ _ h=>zba h) (hr.mono (by decide)) rfl (za (zwf (zb (pv 5))) zd)))
  (ze (zl (i:=7) nd rfl (Or.inl rfl) (zrn rfl rfl z_max (za (zdn rfl (zbo (zb (pv 4))) (fun _ _ _ _ _=>(zf (i:=0) (show(["_law_r"]:List Str).Nodup from by decide +kernel) rfl (Or.inl rfl))) (fun _ _ _ _ _=>zcm) (fun _ _ _ _ _=>(zbd B1 (fun _ _ _ _ h=>zba h) (hr.mono (by decide)) rfl (za (zb (pv 0)) zd))) (N:=["_law_r"]) (k:=1) (is:=[]) (zcj (by rfl))) zd)))
  (ze (zl (i:=7) nd rfl (Or.inl rfl) (zbe zx zby (zb (pv 7)) (zrn rfl rfl z_max (za (zdn rfl (zbo (zb (pv 5))) (fun _ _ _ _ _=>(zf (i:=0) (show(["_law_s"]:List Str).Nodup from by decide +kernel) rfl (Or.inl rfl))) (fun _ _ _ _ _=>zcm) (fun _ _ _ _ _=>(zbd B1 (fun _ _ _ _ h=>zba h) (hr.mono (by decide)) rfl (za (zb (pv 0)) zd))) (N:=["_law_s"]) (k:=1) (is:=[]) (zcj (by rfl))) zd))))
  (ze (zl (i:=8) nd rfl (Or.inl rfl) (zil (zka (za zid (za zid zd))) (zbn zog zbft rfl z_int zbfm (za (zzg zzz (zet fun _ _ _ _=>.bl _) (zb (pv 7)) zg (nomark _)) zd)) (fun _ _=>rfl)))
  (ze (zfk (zbw (ztj hr.units) znl (zben B2 CT ht Bm (hcd.symm.trans hfc) rfl rfl (hr.mono (by decide)) rfl (zcj (N:=["_law_one", "_law_other"]) (k:=0) (is:=[4, 5]) (by rfl)) ⟨rfl, rfl, rfl, by decide +kernel⟩ (fun _ _ _ _=>rfl) (fun f cd cl A outer s H E hr=>(zwa Bw zpj (fun _ _ h=>znx _ _ h) (hr.mono (by decide)) rfl (za (zb (pv 0)) (za (zb (pv 1)) zd))))) (zb (pv 8)) (nomark _)) (zh (zbi zwh)) zcu)
  (ze (zfk (zbw (ztj hr.units) znl (zben B2 CT ht Bm (hcd.symm.trans hfc) rfl rfl (hr.mono (by decide)) rfl (zcj (N:=["_law_other", "_law_one"]) (k:=0) (is:=[5, 4]) (by rfl)) ⟨rfl, rfl, rfl, by decide +kernel⟩ (fun _ _ _ _=>rfl) (fun f cd cl A outer s H E hr=>(zwa Bw zpj (fun _ _ h=>znx _ _ h) (hr.mono (by decide)) rfl (za (zb (pv 0)) (za (zb (pv 1)) zd))))) (zb (pv 8)) (nomark _)) (zh (zbi zwh)) zcu)
  (zh (zfk (JW.pt (zkx (zbw (zin hr.units) znl (zb (pv 8)) zid (nomark _)) (zkx (zbw (zqm hr.units0) zqp (zb (pv 1)) zg (nomark _)) (zkw (zbw (ztj hr.units) znl (zzh Bw (fun _ _ _ _ h=>zba h) (hr.mono (by decide)) rfl (za (zb (pv 4)) (za (zb (pv 5)) zd))) (zbd Ce (fun _ _ _ _ h=>zba h) (hr.mono (by decide)) rfl (za (zb (pv 4)) (za (zb (pv 5)) zd))) (nomark _)) (by first | exact Or.inl rfl | exact Or.inr rfl))))) (zh (zbi zwh)) zcu)))))))))))))))))
  (zh (zbi zwh)))) K41.holds
end
theorem all_mk {l:W.OpenLaw}{w:World}{K:Fg}{h:Heap}{mg:Str->Option Value}{fa c T:Addr}{ts:List Addr}{u0:Tok}{Ak:Addr}{Al:Addr}{Am:Addr}{An:Addr}{Ao:Addr}{Ap:Addr}{Aq:Addr}{Ar:Addr}{As:Addr}{Au:Addr}{Av:Addr}{Aw:Addr}{Aa:Addr}{Ax:Addr}(X:K.In h)(G:h.Ns mainGlobals mg)(hfa:mg "law"=some (.ref fa))(lt:LawTab K ts c T)
  (t1:TopF K "_law_bag" zht)(t2:TopF K "_law_take" zgj)(t3:TopF K "_law_odd" zhs)(t4:TopF K "_law_counts" zei)(t5:TopF K "_law_some_counts" zcf)(t6:TopF K "changed" zjo)(t7:TopF K "place_filled" zdr)(t8:TopF K "line_filled" zeg)(t9:TopF K "without_noughts" zcl)(t10:TopF K "top_filled" zfg)(t11:TopF K "made_by_tables" zct)(t12:TopF K "flip" zww)(t13:TopF K "raises_by" zgi)(t14:TopF K "times" zpt)(t15:TopF K "_law_refused" zds)(t16:TopF K "_law_counts_raise" zcc)(t17:TopF K "_law_made" zgk)(t18:TopF K "_law_lines" zfi)(t19:TopF K "_law_tables" zeh)(t20:TopF K "_law_times" zfh)(t21:TopF K "law" zzy)(z0:W.nsIn K mainGlobals "len"=some none)(z1:W.nsIn K mainGlobals "abs"=some none)(z2:W.nsIn K mainGlobals "min"=some none)(z3:W.nsIn K mainGlobals "range"=some none)(z4:W.nsIn K mainGlobals "sorted"=some none)(z5:W.nsIn K mainGlobals "tuple"=some none)(z6:W.nsIn K mainGlobals "list"=some none)(z7:W.nsIn K mainGlobals "zip"=some none)(z8:W.nsIn K mainGlobals "all"=some none)(z9:W.nsIn K mainGlobals "enumerate"=some none)(z10:W.nsIn K mainGlobals "ValueError"=some none)(z11:W.nsIn K mainGlobals "isinstance"=some none)(z12:W.nsIn K mainGlobals "any"=some none)(z13:W.nsIn K mainGlobals "sum"=some none)(z14:W.nsIn K mainGlobals "int"=some none)(z15:W.nsIn K mainGlobals "max"=some none)(y0:W.nsIn K mainGlobals "MOST_RAISED"=some (some (.int 16 u0)))(n_Full:W.nsIn K mainGlobals "Full"=some (some (.ref Ak)))(Br:W.nsIn K mainGlobals "NoDeed"=some (some (.ref Al)))(A9:W.nsIn K mainGlobals "NoExchange"=some (some (.ref Am)))(Bp:W.nsIn K mainGlobals "NoLetters"=some (some (.ref An)))(Bl:W.nsIn K mainGlobals "NoLine"=some (some (.ref Ao)))(Bj:W.nsIn K mainGlobals "NoName"=some (some (.ref Ap)))(Bd:W.nsIn K mainGlobals "NoPaper"=some (some (.ref Aq)))(A4:W.nsIn K mainGlobals "NoPart"=some (some (.ref Ar)))(Bh:W.nsIn K mainGlobals "NoProduct"=some (some (.ref As)))(A7:W.nsIn K mainGlobals "NoRow"=some (some (.ref Au)))(Bb:W.nsIn K mainGlobals "NoText"=some (some (.ref Av)))(Bu:W.nsIn K mainGlobals "RaisedError"=some (some (.ref Aw)))(Ac:W.nsIn K mainGlobals "TooMany"=some (some (.ref Aa)))(Bf:W.nsIn K mainGlobals "Unlike"=some (some (.ref Ax)))(A2:W.excIn K Aa bmV "ValueError.__new__"=true)(Ae:ErrLook K Aa)(Bv:W.exmOne K (.ref Aa) (.ref Aw)=some true)(Bt:W.kitOne K (.ref Aa) (.ref Ak)=some false)(Bs:W.kitOne K (.ref Aa) (.ref Al)=some false)(Ba:W.kitOne K (.ref Aa) (.ref Am)=some false)(Bq:W.kitOne K (.ref Aa) (.ref An)=some false)(Bo:W.kitOne K (.ref Aa) (.ref Ao)=some false)(Bk:W.kitOne K (.ref Aa) (.ref Ap)=some false)(Be:W.kitOne K (.ref Aa) (.ref Aq)=some false)(A5:W.kitOne K (.ref Aa) (.ref Ar)=some false)(Bi:W.kitOne K (.ref Aa) (.ref As)=some false)(A8:W.kitOne K (.ref Aa) (.ref Au)=some false)(Bc:W.kitOne K (.ref Aa) (.ref Av)=some false)(A6:W.kitOne K (.ref Aa) (.ref Aa)=some true)(Bg:W.kitOne K (.ref Aa) (.ref Ax)=some false)(A3:W.kitOne K (.ref Aa) (.type "ValueError")=some true) :
  ∃(c T:Addr) (fd:FuncData), LawTab K ts c T/\(∀(s:Shared) (v:Value), BindsTo s fd ⟨[v],[]⟩ [("_law_script", v)])/\∀ base:Heap, K.In base->base.Ns mainGlobals mg->W.CodeHd base c T->BmOk mg base->FnOk l.prog w K mg base CX0 8 fa fd ["_law_script"] (spLawT K T):=by
 have x0:=xcu X G z0;have x1:=xcu X G z1;have x2:=xcu X G z2;have x3:=xcu X G z3;have x4:=xcu X G z4;have x5:=xcu X G z5;have x6:=xcu X G z6;have x7:=xcu X G z7;have x8:=xcu X G z8;have x9:=xcu X G z9;have x10:=xcu X G z10;have x11:=xcu X G z11;have x12:=xcu X G z12;have x13:=xcu X G z13;have x14:=xcu X G z14;have x15:=xcu X G z15;have v0:=xdf X G y0;obtain⟨f,fd,a,F⟩:=t21;have e:=hfa.symm.trans (xdf X G a);cases e;obtain⟨oc,od,kV,doc,pm,an,cdv,ct,osl,rfl,lk,hcd⟩:=id F.ex;refine⟨c, T, W.fnOf "law" "law" (defArgs zzy) (defBody zzy) (defScope zzy) .none kV doc pm an cdv ct, lt, fun s v=>.of_eq rfl, fun base _ _ CT Bm=>?_⟩
 have k__law_bag:CalD l.prog w K mg base _ _ _ _:=zov t1 X G x0 x1 x2 x3
 have Bx:CalD l.prog w K mg base _ _ _ _:=zmb t2 X G 
 have By:CalD l.prog w K mg base _ _ _ _:=zou t3 X G x4 x5
 have B3:CalD l.prog w K mg base _ _ _ _:=zjr t4 X G x3 x0 x5 Bx
 have Cf:CalD l.prog w K mg base _ _ _ _:=zfu t5 X G x3 By Bx B3
 have B4:CalD l.prog w K mg base _ _ _ _:=zqo t6 X G 
 have Cg:CalD l.prog w K mg base _ _ _ _:=zio t7 X G x2 x3 B4
 have Ch:CalD l.prog w K mg base _ _ _ _:=zjp t8 X G x3 Cg B4
 have Ci:CalD l.prog w K mg base _ _ _ _:=zgn t9 X G x6 x5
 have Cj:CalD l.prog w K mg base _ _ _ _:=zkk t10 X G x0 x7 x8 x5
 have Ck:CalD l.prog w K mg base _ _ _ _:=zhb t11 X G x0 x9 Ch Cj Ci
 have k_flip:CalD l.prog w K mg base _ _ _ _:=zbcj t12 X G 
 have k_raises_by:CalD l.prog w K mg base _ _ _ _:=zma t13 X G 
 have k_times:CalX l.prog w K mg base "times" 5 ["one", "other"] zen:=zxy t14 X G x4 x5 v0 Ac A2 k_raises_by Ck k_flip
 have Cl:CalT l.prog w K mg base "_law_refused" 5 zbh:=ziq t15 X G x10 x11 x12 Ac Ae A3 A4 A5 A6 A7 A8 A9 Ba Bb Bc Bd Be Bf Bg Bh Bi Bj Bk Bl Bo Bp Bq Br Bs n_Full Bt Bu Bv
 have Cn:CalD l.prog w K mg base _ _ _ _:=zfj t16 X G x0 x3 x13
 have k__law_made:CalD l.prog w K mg base _ _ _ _:=zmc t17 X G x3 x13 x0 x5
 have Co:CalD l.prog w K mg base _ _ _ _:=zkm t18 X G x3 x2
 have Cp:CalD l.prog w K mg base _ _ _ _:=zjq t19 X G x5 x0 x3 Co
 have Cq:CalD l.prog w K mg base _ _ _ _:=zkl t20 X G Cp k__law_made By
 exact zbia F (W.law_code X G lt.tin hfa (X _ _ lk) rfl) CT lt.tin Bm x0 x2 x3 x6 x14 x15 k__law_bag Bx Cf B3 By Cn Cl k_times Cq
end K41
open PySem PySem.W PyProof.Rows
set_option maxRecDepth 100000 in
set_option maxHeartbeats 0 in
theorem PySem.Challenge.cw_raisedsums_k41_counts_too_great_holds : PySem.Challenge.rw_raisedsums_k41_counts_too_great.Holds := by
  w_on; o_law; k_head; (case hw => w_witness2)
  k_fill
  refine L2.zwq (l := PySem.Challenge.rw_raisedsums_k41_counts_too_great) (n := 63) (k := 8) (x := "_law_script") (sp := Dd.spLawT) rfl (by decide) rfl ⟨rfl, by decide, by decide⟩ (fun w h Y => PySem.W.km_in_of Y) (fun w h Y => PySem.W.km_tabs_of Y) ?F (fun _ c _ _ a ns ht hl hT hS => ⟨a, ns, rfl, hS, hl, hT, ⟨c, ht⟩, fun _ => rfl⟩)
  case F =>
    intro w mg fa h KX G hmg
    refine' K41.all_mk KX G hmg ?lt ?t1 ?t2 ?t3 ?t4 ?t5 ?t6 ?t7 ?t8 ?t9 ?t10 ?t11 ?t12 ?t13 ?t14 ?t15 ?t16 ?t17 ?t18 ?t19 ?t20 ?t21 ?z0 ?z1 ?z2 ?z3 ?z4 ?z5 ?z6 ?z7 ?z8 ?z9 ?z10 ?z11 ?z12 ?z13 ?z14 ?z15 ?y0 ?n_Full ?n_NoDeed ?n_NoExchange ?n_NoLetters ?n_NoLine ?n_NoName ?n_NoPaper ?n_NoPart ?n_NoProduct ?n_NoRow ?n_NoText ?n_RaisedError ?n_TooMany ?n_Unlike ?q_TooMany ?l_TooMany ?e_TooMany_RaisedError ?i_TooMany_Full ?i_TooMany_NoDeed ?i_TooMany_NoExchange ?i_TooMany_NoLetters ?i_TooMany_NoLine ?i_TooMany_NoName ?i_TooMany_NoPaper ?i_TooMany_NoPart ?i_TooMany_NoProduct ?i_TooMany_NoRow ?i_TooMany_NoText ?i_TooMany_TooMany ?i_TooMany_Unlike ?i_TooMany_ValueError
    (case lt => refine' (L2.ztz ?lta ?ltl ?ltc ?ltk ?ltv ?ltd ?ltm ?lto).1; (case lta => k_is); (case ltl => k_is); (case ltc => exact rfl); (case ltk => k_is); (case ltv => exact rfl); (case ltd => kernel_rfl); (case ltm => first | k_mem | decide); (case lto => kernel_rfl))
    all_goals first|k_is|kernel_rfl|(refine' L2.zdh ?a ?l ?c ?k;(case a=>k_is);(case l=>k_is);(case c=>k_is);(case k=>k_is))|(apply L2.ErrLook.mk<;>first|k_is|kernel_rfl)|skip
#print axioms PySem.Challenge.cw_raisedsums_k41_counts_too_great_holds
