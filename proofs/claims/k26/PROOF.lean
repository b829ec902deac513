import PyProof.Rows.All
import Wide.All
import OpenK.AllK
import Wide.FinOn
import PyProof.EqAt
import PyProof.EqKinds
import PyProof.TupleCall
import PySem.Challenge.RW_raisedsums_k26_exchanges_refused
set_option Elab.async false
set_option linter.all false
set_option maxRecDepth 100000
namespace PySem.W.Fast
theorem tw4980792093148562489:True:=⟨⟩
theorem tw12811346001294967080:True:=⟨⟩
theorem tw2621292941584851033:True:=⟨⟩
theorem tw17214077365101471601:True:=⟨⟩
theorem tw12280204636129702846:True:=⟨⟩
theorem tw11908109619217171883:True:=⟨⟩
theorem tw8293725611256296035:True:=⟨⟩
theorem tw8584910624658448428:True:=⟨⟩
theorem tw5994835040379800267:True:=⟨⟩
theorem tw17512598232630867982:True:=⟨⟩
theorem tw7695301904032975645:True:=⟨⟩
theorem tw10021468251996780261:True:=⟨⟩
theorem tw2082768008591333173:True:=⟨⟩
theorem tw15759771544743171413:True:=⟨⟩
theorem tw3084273282042999194:True:=⟨⟩
theorem tw16653030821377303676:True:=⟨⟩
theorem tw8260169778724527016:True:=⟨⟩
theorem tw3440204068079357365:True:=⟨⟩
theorem tw6672096857352966847:True:=⟨⟩
theorem tw3496582681936970651:True:=⟨⟩
theorem tw18130872302979049581:True:=⟨⟩
theorem tw4607169464348484491:True:=⟨⟩
theorem tw5179221444874814461:True:=⟨⟩
theorem tw14140576761568081121:True:=⟨⟩
theorem tw17293149062977436582:True:=⟨⟩
theorem tw8892427745280551558:True:=⟨⟩
theorem tw8762929848788737482:True:=⟨⟩
theorem tw7345961774380836372:True:=⟨⟩
theorem tw3991221988918279115:True:=⟨⟩
theorem tw16183713623129644331:True:=⟨⟩
theorem tw13472478622991453705:True:=⟨⟩
theorem tw13414299568294779677:True:=⟨⟩
theorem tw7015314567568853327:True:=⟨⟩
theorem tw3130941904156473132:True:=⟨⟩
theorem tw13796604319707040645:True:=⟨⟩
theorem tw7539049843707985374:True:=⟨⟩
theorem tw4468538993784366085:True:=⟨⟩
theorem tw4994184239938562536:True:=⟨⟩
theorem tw6201760511318022212:True:=⟨⟩
theorem tw11019684220281720829:True:=⟨⟩
theorem tw5273988929137584644:True:=⟨⟩
theorem tw9259881474900438117:True:=⟨⟩
theorem tw17601660992270285573:True:=⟨⟩
theorem tw16577816336215184588:True:=⟨⟩
theorem tw13320716116750645002:True:=⟨⟩
theorem tw11982539640140196418:True:=⟨⟩
theorem tw17704451111065057628:True:=⟨⟩
theorem tw6475516645593932017:True:=⟨⟩
theorem tw3554527899418803645:True:=⟨⟩
theorem tw5876482931838357607:True:=⟨⟩
theorem tw9997937561389191686:True:=⟨⟩
theorem tw8304304240702692297:True:=⟨⟩
theorem tw11169548885346618838:True:=⟨⟩
theorem tw5092728852492380190:True:=⟨⟩
theorem tw3258896271460911037:True:=⟨⟩
theorem tw638801324816091592:True:=⟨⟩
theorem tw7944980289576371444:True:=⟨⟩
theorem tw3683155561563616931:True:=⟨⟩
theorem tw8950847679906849809:True:=⟨⟩
theorem tw15799584980162269307:True:=⟨⟩
theorem tw15848148876092714024:True:=⟨⟩
theorem tw14002859931179417041:True:=⟨⟩
theorem tw157589130162000931:True:=⟨⟩
theorem tw13107900007324193849:True:=⟨⟩
theorem tw16398256768362496956:True:=⟨⟩
theorem tw15779900710974814069:True:=⟨⟩
theorem tw287616388021655884:True:=⟨⟩
theorem tw15759144058049419403:True:=⟨⟩
theorem tw6258805469272733242:True:=⟨⟩
theorem tw13073962364647603116:True:=⟨⟩
theorem tw8677964323017865058:True:=⟨⟩
theorem tw15862730002463917640:True:=⟨⟩
theorem tw3919721302512195111:True:=⟨⟩
theorem tw1732968455746139415:True:=⟨⟩
theorem tw3979651619220599560:True:=⟨⟩
theorem tw12053979810279294830:True:=⟨⟩
theorem tw341162042897554273:True:=⟨⟩
theorem tw8688570005484621379:True:=⟨⟩
theorem tw14684985846817966778:True:=⟨⟩
theorem tw17116041286919871936:True:=⟨⟩
theorem tw14631236048144565237:True:=⟨⟩
theorem tw11025346965249659155:True:=⟨⟩
theorem tw1234129164931712557:True:=⟨⟩
theorem tw9840848371050274392:True:=⟨⟩
theorem tw17866291884171638174:True:=⟨⟩
theorem tw15073707537136051085:True:=⟨⟩
theorem tw14275835816910668475:True:=⟨⟩
theorem tw5156854157984568785:True:=⟨⟩
theorem tw15823601085091951405:True:=⟨⟩
theorem tw14261853156616817542:True:=⟨⟩
theorem tw4196857447412681739:True:=⟨⟩
theorem tw4019471111385654808:True:=⟨⟩
theorem tw2978631311554265730:True:=⟨⟩
end PySem.W.Fast
set_option genSizeOfSpec false
set_option genInjectivity false
abbrev Fg:=PySem.W.Frag
abbrev xba:=@PySem.wpAny_bind
abbrev xbb:=@Nat.le_trans
abbrev xbc:=@PySem.Heap.get?_push_of_some
abbrev xbd:=@PySem.wpAny_pure
abbrev xbe:=@List.length_map
abbrev xbf:=@Nat.le_refl
abbrev xbg:=@Nat.lt_of_lt_of_le
abbrev xbh:=@List.getElem?_eq_getElem
abbrev xbi:=@PyProof.Rows.wpS_bind
abbrev xbj:=@PyProof.Rows.wpS_pure
abbrev xbk:=@List.getElem?_eq_some_iff
abbrev xbl:=@PySem.Heap.lt_size
abbrev xbm:=@decide_eq_false
abbrev xbn:=@List.mem_singleton
abbrev xbo:=@List.getD_eq_getElem?_getD
abbrev xbp:=@List.map_cons
abbrev xbq:=@List.length_append
abbrev xbr:=@Nat.le_of_lt
abbrev xbs:=@List.getElem?_append_left
abbrev xbt:=@List.size_toArray
abbrev xbu:=@Nat.le_add_right
abbrev xbv:=@PySem.Heap.get?_push_size
abbrev xbw:=@Option.some.inj
abbrev xbx:=@List.mem_cons
abbrev xby:=@List.mem_append
abbrev xbz:=@Nat.le_of_not_lt
abbrev xca:=@Nat.ne_of_lt
abbrev xcb:=@Array.length_toList
abbrev xcc:=@Nat.add_le_add_left
abbrev xcd:=@List.getElem?_append_right
abbrev xce:=@Nat.add_sub_cancel'
abbrev xcf:=@decide_eq_true
abbrev xcg:=@List.length_cons
abbrev xch:=@List.mem_cons_self
abbrev xci:=@List.mem_cons_of_mem
abbrev xcj:=@List.mem_of_getElem?
abbrev xck:=@Array.getElem?_toList
abbrev xcl:=@List.getElem?_map
abbrev xcm:=@List.append_assoc
abbrev xcn:=@Nat.lt_of_le_of_lt
abbrev xco:=@PySem.W.mg_none_of
abbrev xcp:=@PySem.Heap.get?_update_other
abbrev xcq:=@Nat.add_sub_cancel_left
abbrev xcr:=@PySem.W.mg_of
abbrev xcs:=@Nat.le_of_lt_succ
abbrev xct:=@Bool.false_eq_true
abbrev xcu:=@Nat.lt_of_le_of_ne
abbrev xcv:=@Array.toList_append
abbrev xcw:=@Option.map_eq_some_iff
abbrev xcx:=@Nat.le_sub_one_of_lt
abbrev xcy:=@List.length_take
abbrev xcz:=@Nat.le_of_succ_le
abbrev xda:=@List.mem_append_right
abbrev xdb:=@Nat.le_of_eq
abbrev xdc:=@Nat.le_of_add_left_le
abbrev xdd:=@PySem.wpAny_mono
abbrev xde:=@PyProof.Rows.wpS_forRange
abbrev xdf:=@Nat.sub_lt_left_of_lt_add
abbrev xdg:=@PySem.wpAny_holding
abbrev xdh:=@Nat.le_antisymm
abbrev xdi:=@Nat.add_lt_of_lt_sub'
abbrev xdj:=@List.mem_map
abbrev xdk:=@PySem.W.kia_one
abbrev xdl:=@Bool.eq_iff_iff
abbrev xdm:=@List.getElem_mem
abbrev xdn:=@List.take_length
abbrev xdo:=@Nat.add_lt_add_left
abbrev xdp:=@PySem.wpAny_newObj_type
abbrev xdq:=@List.getElem?_set_ne
abbrev xdr:=@List.append_nil
abbrev xds:=@Nat.sub_lt_sub_right
abbrev xdt:=@Nat.min_eq_left
abbrev xdu:=@Nat.zero_add
abbrev xdv:=@PySem.F.excBase_ValueError
abbrev xdw:=@List.lookup_cons
abbrev xdx:=@Nat.not_lt_of_le
abbrev xdy:=@PySem.mem_of_lookup
abbrev xdz:=@List.mem_range
abbrev xea:=@Nat.le_sub_of_add_le'
abbrev xeb:=@List.length_set
abbrev xec:=@Nat.zero_le
abbrev xed:=@List.length_drop
abbrev xee:=@PySem.sizeLine_eq
abbrev xef:=@Nat.lt_of_succ_lt
abbrev xeg:=@PySem.wpAny_truthy_bool
abbrev xeh:=@of_decide_eq_true
abbrev xei:=@List.find?_cons
abbrev xej:=@List.drop_eq_getElem_cons
abbrev xek:=@PySem.PassesOwn.never
abbrev xel:=@PySem.Heap.get?_update_self
abbrev xem:=@Bool.and_eq_true
abbrev xen:=@Nat.succ_le_succ
abbrev xeo:=@if_false
abbrev xep:=@PyProof.Rows.wpS_mono
abbrev xeq:=@PySem.F.slot_dict_keyiterator_next
abbrev xer:=@Nat.sub_le_sub_right
abbrev xes:=@Option.bind_eq_some_iff
abbrev xet:=@Nat.sub_pos_of_lt
abbrev xeu:=@Nat.le_succ_of_le
abbrev xev:=@Array.toList_push
abbrev xew:=@List.map_append
abbrev xex:=@PySem.wpAny_ite_false
abbrev xey:=@List.replicate_succ
abbrev xez:=@List.map_map
abbrev xfa:=@Nat.lt_irrefl
abbrev xfb:=@Array.getElem?_eq_some_iff
abbrev xfc:=@Array.perm_iff_toList_perm
abbrev xfd:=@beq_iff_eq
abbrev xfe:=@Nat.lt_of_not_le
abbrev xff:=@PySem.wpAny_call_entry
abbrev xfg:=@beq_self_eq_true
abbrev xfh:=@Bool.false_ne_true
abbrev xfi:=@List.length_singleton
abbrev xfj:=@List.take_append_drop
abbrev xfk:=@List.getElem?_drop
abbrev xfl:=@Nat.lt_of_lt_of_eq
abbrev xfm:=@PySem.wpAny_Call_Name_kw
abbrev xfn:=@PySem.Heap.get?_none_of_le
abbrev xfo:=@Nat.min_le_left
abbrev xfp:=@List.pairwise_append
abbrev xfq:=@List.sum_append
abbrev xfr:=@Bool.or_eq_false_iff
abbrev xfs:=@PySem.W.looks_findIn
abbrev xft:=@Int.natCast_add
abbrev xfu:=@if_true
abbrev xfv:=@PySem.wpAny_loadPart_at
abbrev xfw:=@PySem.wpAny_typeNameOfWhole_keyiter
abbrev xfx:=@List.filter_cons_of_neg
abbrev xfy:=@List.filter_cons_of_pos
abbrev xfz:=@List.getElem_of_mem
abbrev xga:=@beq_eq_false_iff_ne
abbrev xgb:=@Ne.symm
abbrev xgc:=@List.getElem?_set_self
abbrev xgd:=@Nat.sub_le
abbrev xge:=@List.take_of_length_le
abbrev xgf:=@PySem.wpAny_field
abbrev xgg:=@PyProof.Rows.wpS_modify
abbrev xgh:=@Nat.sub_add_cancel
abbrev xgi:=@List.mem_filter
abbrev xgj:=@List.length_replicate
abbrev xgk:=@List.Perm.append_left
abbrev xgl:=@List.perm_append_comm
abbrev xgm:=@PySem.wpAny_passesOwn
abbrev xgn:=@PySem.F.excAttr_ValueError
abbrev xgo:=@Int.toNat_natCast
abbrev xgp:=@List.flatten_cons
abbrev xgq:=@decide_eq_true_eq
abbrev xgr:=@List.mem_append_left
abbrev xgs:=@PySem.wpAny_call
abbrev xgt:=@decide_true
abbrev xgu:=@Nat.lt_or_ge
abbrev xgv:=@List.all_eq_true
abbrev xgw:=@List.take_succ_eq_append_getElem
abbrev xgx:=@List.filter_cons
abbrev xgy:=@Nat.sub_le_sub_left
abbrev xgz:=@Int.toNat_of_nonneg
abbrev xha:=@PyProof.Rows.slot_tuple_getitem
abbrev xhb:=@List.countP_cons_of_pos
abbrev xhc:=@Nat.lt_add_of_pos_right
abbrev xhd:=@PySem.wpAny_attempt
abbrev xhe:=@PyProof.Rows.wpS_get
abbrev xhf:=@List.nodup_cons
abbrev xhg:=@PySem.Obj.data_mapFields
abbrev xhh:=@Nat.sub_lt
abbrev xhi:=@Array.append_empty
abbrev xhj:=@List.pairwise_cons
abbrev xhk:=@PySem.W.tail_of_in
abbrev xhl:=@List.filter_append
abbrev xhm:=@PySem.tupleKind_room_in1
abbrev xhn:=@PySem.wpAny_rule
abbrev xho:=@List.Perm.append_right
abbrev xhp:=@List.drop_eq_nil_of_le
abbrev xhq:=@Nat.lt_succ_of_lt
abbrev xhr:=@List.count_append
abbrev xhs:=@PySem.wpAny_dictEntries
abbrev xht:=@Nat.lt_trans
abbrev xhu:=@Nat.sub_self
abbrev xhv:=@Array.extract_eq_empty_of_le
abbrev xhw:=@Int.zero_add
abbrev xhx:=@PySem.codeAny_mono
abbrev xhy:=@PySem.wpAny_setField
abbrev xhz:=@decide_false
abbrev xia:=@Nat.min_le_right
abbrev xib:=@PySem.Calls.evalArgs_plain
abbrev xic:=@List.any_eq_true
abbrev xid:=@Nat.min_eq_right
abbrev xie:=@Array.toList_reverse
abbrev xif:=@List.reverse_reverse
abbrev xig:=@List.not_mem_nil
abbrev xih:=@PySem.F.slot_tuple_mul
abbrev xii:=@PySem.call_meets
abbrev xij:=@PySem.codeAny_call_builtin
abbrev xik:=@PySem.Paired.length
abbrev xil:=@PySem.Calls.Name_function_global
abbrev xim:=@PySem.Heap.get?_update_ne
abbrev xin:=@PySem.Heap.SameBut.update
abbrev xio:=@List.length_nil
abbrev xip:=@Array.getElem?_eq_getElem
abbrev xiq:=@List.pairwise_iff_getElem
abbrev xir:=@List.foldl_cons
abbrev xis:=@Int.emod_nonneg
abbrev xit:=@PySem.wpAny_execs_nil
abbrev xiu:=@PySem.Calls.spliced_cons
abbrev xiv:=@PySem.W.callWith_K
abbrev xiw:=@Option.isSome_iff_exists
abbrev xix:=@PySem.F.args_tuple_add_2
abbrev xiy:=@List.count_eq_zero
abbrev xiz:=@PyProof.Rows.slot_tuple_getitem
abbrev xja:=@List.nodup_nil
abbrev xjb:=@PySem.F.entry_tuple_add
abbrev xjc:=@List.countP_cons_of_neg
abbrev xjd:=@List.pairwise_singleton
abbrev xje:=@List.getElem?_cons_succ
abbrev xjf:=@List.getElem?_cons_zero
abbrev xjg:=@List.eraseIdx_cons_succ
abbrev xjh:=@PySem.F.plainAttrs_list
abbrev xji:=@Int.eq_ofNat_of_zero_le
abbrev xjj:=@Nat.zero_lt_of_lt
abbrev xjk:=@PySem.wpAny_pyIter_list
abbrev xjl:=@PySem.W.cellsFrom_some
abbrev xjm:=@PySem.F.slot_tuple_add
abbrev xjn:=@PySem.Calls.callWith_builtin
abbrev xjo:=@List.any_cons
abbrev xjp:=@PySem.wpAny_standAt
abbrev xjq:=@List.mem_reverse
abbrev xjr:=@Option.bind_some
abbrev xjs:=@PyProof.Rows.wpS_lift
abbrev xjt:=@PySem.F.slot_tuple_lt
abbrev xju:=@PySem.F.slot_dict_get
abbrev xjv:=@List.getElem?_eq_none
abbrev xjw:=@List.length_filter_le
abbrev xjx:=@Array.getElem?_setIfInBounds_ne
abbrev xjy:=@Nat.ne_of_gt
abbrev xjz:=@List.of_mem_zip
abbrev xka:=@PyProof.Rows.callWith_builtin1
abbrev xkb:=@List.range_succ
abbrev xkc:=@List.mem_of_mem_drop
abbrev xkd:=@Nat.add_zero
abbrev xke:=@List.mem_of_mem_take
abbrev xkf:=@List.filterMap_cons
abbrev xkg:=@PySem.wpAny_isSubtype_exc
abbrev xkh:=@Bool.not_false
abbrev xki:=@PySem.Calls.Constant_str
abbrev xkj:=@PyProof.Rows.callWith_type1
abbrev xkk:=@Nat.pos_of_ne_zero
abbrev xkl:=@PySem.F.args_tuple_mul_2
abbrev xkm:=@List.contains_cons
abbrev xkn:=@Nat.eq_zero_or_pos
abbrev xko:=@List.count_pos_iff
abbrev xkp:=@Int.lt_of_le_of_lt
abbrev xkq:=@Bool.not_true
abbrev xkr:=@PySem.Calls.spliced_nil
abbrev xks:=@List.take_sublist
abbrev xkt:=@List.mapM_toArray
abbrev xku:=@List.ext_getElem?
abbrev xkv:=@List.length_range
abbrev xkw:=@PySem.F.entry_tuple_mul
abbrev xkx:=@PySem.Heap.get?_push_at
abbrev xky:=@List.nodup_append
abbrev xkz:=@List.map_nil
abbrev xla:=@Nat.max_eq_right
abbrev xlb:=@Nat.lt_succ_self
abbrev xlc:=@map_eq_pure_bind
abbrev xld:=@Nat.le_add_left
abbrev xle:=@List.nil_append
abbrev xlf:=@Nat.two_pos
abbrev xlg:=@Nat.le_succ
abbrev xlh:=@List.drop_drop
abbrev xli:=@Bool.and_false
set_option maxHeartbeats 0
namespace L2
open PySem PySem.Spec PyProof.Rows
noncomputable abbrev Key:=Sum Int Str
noncomputable def keyIs:Key->Value->Bool
 | .inl k,v=>Value.isInt k v
 | .inr x,v=>Value.isStrOf x v
noncomputable def keyH (w:World):Key->Int
 | .inl k=>hashInt k
 | .inr x=>hashStr w x
theorem zbt:∀{k:Key} {v:Value},keyIs k v=true->(∃i t,k=Sum.inl i/\v=Value.int i t)\/(∃x t,k=Sum.inr x/\v=Value.str x t)
 | .inl i,v,h=>by
  obtain⟨t,e⟩:=Value.isInt_shape (k:=i) (v:=v) h;exact .inl ⟨i,t,rfl,e⟩
 | .inr x,v,h=>by
  obtain⟨t,e⟩:=Value.isStrOf_shape (x:=x) (v:=v) h;exact .inr ⟨x,t,rfl,e⟩
theorem zwb (i:Int)(t:Tok):keyIs (.inl i) (.int i t)=true:=by simp[keyIs,Value.isInt]
theorem zwa (x:Str)(t:Tok):keyIs (.inr x) (.str x t)=true:=by simp[keyIs,Value.isStrOf]
theorem zbiw (a b:Int):decide ((Sum.inl a:Key)=Sum.inl b)=(a==b):=by
 by_cases e:a=b
 ·subst e;simp
 ·have h:¬ (Sum.inl a:Key)=Sum.inl b:=fun q=>e (Sum.inl.inj q)
  rw[xbm h];exact(xga.mpr e).symm
theorem zbit (a b:Str):decide ((Sum.inr a:Key)=Sum.inr b)=decide (a=b):=by
 by_cases e:a=b
 ·subst e;simp
 ·have h:¬ (Sum.inr a:Key)=Sum.inr b:=fun q=>e (Sum.inr.inj q)
  rw[xbm h,xbm e]
theorem zbiv (a:Int)(b:Str):decide ((Sum.inl a:Key)=Sum.inr b)=false:=xbm (fun q=>nomatch q)
theorem zbiu (a:Str)(b:Int):decide ((Sum.inr a:Key)=Sum.inl b)=false:=xbm (fun q=>nomatch q)
noncomputable def mixKind (prog:Program) (w:World):PySem.KeyKind prog w Key where
 is:=keyIs
 hash:=keyH w
 inj:=fun v a b ha hb=>by
  rcases zbt ha with⟨i,t,rfl,rfl⟩ | ⟨x,t,rfl,rfl⟩
  ·rcases zbt hb with⟨j,u,rfl,e⟩ | ⟨y,u,rfl,e⟩
   ·injection e with e1 _;rw[e1]
   ·exact nomatch e
  ·rcases zbt hb with⟨j,u,rfl,e⟩ | ⟨y,u,rfl,e⟩
   ·exact nomatch e
   ·injection e with e1 _;rw[e1]
 byValue:=fun k v h=>by
  rcases zbt h with⟨i,t,rfl,rfl⟩ | ⟨x,t,rfl,rfl⟩<;>rfl
 pyHash:=fun hv h=>by
  rcases zbt hv with⟨i,t,rfl,rfl⟩ | ⟨x,t,rfl,rfl⟩
  ·exact wpAny_pyHash_int h
  ·exact wpAny_pyHash_str h
 eqBool:=fun hu hv h=>by
  rcases zbt hu with⟨i,t,rfl,rfl⟩ | ⟨x,t,rfl,rfl⟩
  ·rcases zbt hv with⟨j,u,rfl,rfl⟩ | ⟨y,u,rfl,rfl⟩
   ·rw[zbiw] at h;exact wpAny_eqBool_int h
   ·rw[zbiv] at h;exact SeqAt.EqAt.int_str i t y u _ _ _ _ h
  ·rcases zbt hv with⟨j,u,rfl,rfl⟩ | ⟨y,u,rfl,rfl⟩
   ·rw[zbiu] at h;exact SeqAt.EqAt.str_int x t j u _ _ _ _ h
   ·rw[zbit] at h;exact wpAny_eqBool_str h
 «strs»:=fun k x t v h=>by
  rcases zbt h with⟨i,u,rfl,e⟩ | ⟨y,u,rfl,e⟩
  ·exact nomatch e
  ·injection e with e1 _
   subst e1;cases v<;>rfl
theorem zqy (prog:Program)(w:World)(i:Int)(t:Tok):(mixKind prog w).is (.inl i) (.int i t)=true:=zwb i t
theorem zqx (prog:Program)(w:World)(x:Str)(t:Tok):(mixKind prog w).is (.inr x) (.str x t)=true:=zwa x t
set_option genInjectivity true in
inductive V where
 | non | bl (b:Bool) | int (i:Int) | str (x:Str) | byt (b:Array UInt8) | flt (b:UInt64) | ref (a:Addr) | ty (n:String)
 deriving DecidableEq
noncomputable def RelV:V->Value->Prop
 | .non,u=>u=Value.none
 | .bl b,u=>u=Value.bool b
 | .int i,u=>∃t,u=Value.int i t
 | .str x,u=>∃t,u=Value.str x t
 | .byt b,u=>∃t,u=Value.bytes b t
 | .flt b,u=>∃t,u=Value.float b t
 | .ref a,u=>u=Value.ref a
 | .ty n,u=>u=Value.type n
noncomputable abbrev Vals:List V->List Value->Prop:=Paired RelV
theorem Vals.length {xs:List V}{us:List Value}(r:Vals xs us):xs.length=us.length:=xik r
theorem Vals.get:∀{xs:List V} {us:List Value} {i:Nat} {x:V},Vals xs us->xs[i]?=some x->∃u,us[i]?=some u/\RelV x u
 | _,_,_,_,.nil,e=>by simp at e
 | _,_,0,_,.cons r _,e=>by simp at e;subst e;exact⟨_,rfl,r⟩
 | _,_,i+1,x,.cons _ t,e=>by
  obtain⟨u,h1,h2⟩:=Vals.get (i:=i) (x:=x) t (by simpa using e);exact⟨u,by simpa using h1,h2⟩
theorem Vals.set {x:V}{u:Value}(r:RelV x u):∀{xs:List V} {us:List Value} (i:Nat),Vals xs us->Vals (xs.set i x) (us.set i u)
 | _,_,_,.nil=>.nil
 | _,_,0,.cons _ t=>.cons r t
 | _,_,i+1,.cons q t=>.cons q (Vals.set r i t)
theorem Vals.append:∀{xs ys:List V} {us ws:List Value},Vals xs us->Vals ys ws->Vals (xs++ys) (us++ws)
 | _,_,_,_,.nil,s=>s
 | _,_,_,_,.cons r t,s=>.cons r (Vals.append t s)
theorem Vals.take:∀{xs:List V} {us:List Value} (n:Nat),Vals xs us->Vals (xs.take n) (us.take n)
 | _,_,0,_=>.nil
 | _,_,_+1,.nil=>.nil
 | _,_,n+1,.cons r t=>.cons r (Vals.take n t)
theorem Vals.drop:∀{xs:List V} {us:List Value} (n:Nat),Vals xs us->Vals (xs.drop n) (us.drop n)
 | _,_,0,r=>r
 | _,_,_+1,.nil=>.nil
 | _,_,n+1,.cons _ t=>Vals.drop n t
noncomputable def RelO:Option V->Option Value->Prop
 | some v,some u=>RelV v u
 | none,none=>True
 | _,_=>False
noncomputable def KV {κ:Type}:List (κ×V)->List (κ×Value)->Prop:=Paired fun(p:κ×V) (q:κ×Value)=>p.1=q.1/\RelV p.2 q.2
noncomputable def kV:Key->V
 | .inl i=>.int i
 | .inr x=>.str x
set_option genInjectivity true in
inductive HO where
 /-- a list -/
 | lst (xs:List V)
 /-- a tuple (never changes) -/
 | tup (xs:List V)
 /-- a dict whose keys are ints and texts;one whose keys are tuples of ints and texts (the empty one is both) -/
 | dK (kvs:List (Key×V)) | dT (kvs:List (List Key×V))
 /-- a set of ints: its members,its size -/
 | set (S:Int->Bool) (n:Nat)
 /-- an instance of the class at C,its dict at dx,its attributes -/
 | ins (C dx:Addr) (fs:List (Str×V))
 /-- the dict of the instance at x -/
 | own (x:Addr)
 /-- the dict of an exception -/
 | xd (fs:List (Str×V))
 /-- a bound method,f of x -/
 | met (f x:Addr)
 /-- a range object lo,lo+1,.. below hi -/
 | rng (lo hi:Int)
 /-- a thing that is known to the object (the script;a dict while a loop walks it): read,never written while it is so -/
 | frz (o:Obj) (u:HO)
 /-- a code object's table -/
 | tbl (ps:Array Value)
 /-- any other thing,by what is true of its one object (a def of one's own: SetO a S n:=HO.ext fun h=>..) -/
 | ext (φ:Heap->Prop)
noncomputable abbrev Hp:=Addr->Option HO
noncomputable def upd (H:Hp) (a:Addr) (o:HO):Hp:=fun b=>if b=a then some o else H b
theorem zj {H:Hp}{a:Addr}{o:HO}:upd H a o a=some o:=by unfold upd;rw[if_pos rfl]
theorem zm {H:Hp}{a b:Addr}{o:HO}(h:b≠a):upd H a o b=H b:=by unfold upd;rw[if_neg h]
theorem zxe {H:Hp}{a:Addr}{o u:HO}:upd (upd H a o) a u=upd H a u:=by
 funext b;unfold upd;split<;>rfl
theorem zblo {H:Hp}{a b:Addr}{o u:HO}(h:H a=some o)(h':H b=some u)(d:o≠u):a≠b:=by
 intro e;subst e;rw[h] at h';exact d (xbw h')
theorem zh {H:Hp}{a b:Addr}{o:HO}(h:H a=some o)(h':H b=none):a≠b:=by
 intro e;subst e;rw[h] at h';cases h'
section
variable (P:Program)(w:World)
noncomputable def ObjOk (H:Hp) (h:Heap) (a:Addr):HO->Prop
 | .lst xs=>xs.length<=sizeLine/\∃(its:List Value) (n:Nat), Vals xs its/\h.get? a=some { cls:=.type "list", data:=.seq its.toArray n }
 | .tup xs=>xs.length<=sizeLine/\∃its:List Value,Vals xs its/\IsTup h a its.toArray
 | .dK kvs=>kvs.length<=sizeLine/\(a==sysModules)=false/\∃vs,KV kvs vs/\h.DictOf (mixKind P w) a vs
 | .dT kvs=>kvs.length<=sizeLine/\(a==sysModules)=false/\∃xs:List (List Key×Addr×Value),
  Paired (fun(p:List Key×V) (q:List Key×Addr×Value)=>p.1=q.1/\H q.2.1=some (.tup (p.1.map kV))/\RelV p.2 q.2.2) kvs xs /\
  ∃o es ep,h.get? a=some o/\o.ExactDict/\o.data=.dict es ep/\es.toList=xs.map (entryOfKey (tupleKind (mixKind P w)))/\(xs.map (·.1)).Nodup
 | .set S n=>h.SetOf (intKind P w) a S n
 | .ins C dx fs=>H dx=some (.own a)/\fs.length<=1000/\dx≠a/\h.get? a=some (W.instObj C dx) /\
  ∃mA,h.Ns1 dx mA/\(∀f,RelO (fs.lookup f) (mA f))/\PySem.Within mA (fs.map (·.1))
 | .own _=>∃o,h.get? a=some o
 | .xd fs=>∃mA,h.Ns1 a mA/\∀f,RelO (fs.lookup f) (mA f)
 | .rng lo hi=>∃ t u v, h.get? a=some { cls:=.type "range", data:=.fields #[.int lo t, .int hi u, .int 1 v] }
 | .frz o u=>h.get? a=some o/\ObjOk H h a u
 | .tbl ps=>h.get? a=some {cls:=.none,data:=.fields ps}
 | .met f x=>h.get? a=some (W.methodObj (.ref f) (.ref x))
 | .ext φ=>φ h/\(∃o,h.get? a=some o)/\∀h1 h2:Heap,φ h1->(∀o,h1.get? a=some o->h2.get? a=some o)->φ h2
noncomputable def HOk (H:Hp) (h:Heap):Prop:=∀a o,H a=some o->ObjOk P w H h a o
end
section
variable {P:Program}{w:World}{H H':Hp}{h h':Heap}{a:Addr}{o:HO}
theorem ObjOk.lt (x:ObjOk P w H h a o):a < h.objs.size:=by
 cases o with
 | lst xs=>obtain⟨_,_,_,_,e⟩:=x;exact xbl e
 | tup xs=>obtain⟨_,_,_,p⟩:=x;exact p.lt
 | dK kvs=>obtain⟨_,_,_,_,o,_,_,e,_⟩:=x;exact xbl e
 | dT kvs=>obtain⟨_,_,_,_,o,_,_,e,_⟩:=x;exact xbl e
 | set S n=>obtain⟨o,_,_,_,e,_⟩:=x;exact xbl e
 | ins C dx fs=>obtain⟨_,_,_,e,_⟩:=x;exact xbl e
 | own y=>obtain⟨_,e⟩:=x;exact xbl e
 | xd fs=>obtain⟨_,⟨_,_,_,e,_⟩,_⟩:=x;exact xbl e
 | rng lo hi=>obtain⟨_,_,_,e⟩:=x;exact xbl e
 | frz ob u=>obtain⟨e,_⟩:=x;exact xbl e
 | tbl ps=>exact xbl (show h.get? a=some _ from x)
 | met f y=>exact xbl (show h.get? a=some _ from x)
 | ext φ=>obtain⟨_,⟨_,e⟩,_⟩:=x;exact xbl e
theorem Paired.mapP {α β:Type}{F G:α->β->Prop}:∀{l₁:List α} {l₂:List β},Paired F l₁ l₂->(∀a b,F a b->G a b)->Paired G l₁ l₂
 | _,_,.nil,_=>.nil
 | _,_,.cons r t,f=>.cons (f _ _ r) (Paired.mapP t f)
theorem ObjOk.stay (x:ObjOk P w H h a o)(k:∀b u,(b=a\/H b=some (.own a))->h.get? b=some u->h'.get? b=some u)
  (ho:∀b,H b=some (.own a)->H' b=some (.own a))(ht:∀b xs,H b=some (.tup xs)->H' b=some (.tup xs)):ObjOk P w H' h' a o:=by
 induction o with
 | lst xs=>obtain⟨z,its,n,r,e⟩:=x;exact⟨z,its,n,r,k _ _ (.inl rfl) e⟩
 | tup xs=>obtain⟨z,its,r,ob,e,c⟩:=x;exact⟨z,its,r,ob,k _ _ (.inl rfl) e,c⟩
 | dK kvs=>obtain⟨z,y,vs,r,ob,es,ep,e,c⟩:=x;exact⟨z,y,vs,r,ob,es,ep,k _ _ (.inl rfl) e,c⟩
 | dT kvs =>
  obtain⟨z,y,xs,r,ob,es,ep,e,c⟩:=x;exact⟨z,y,xs,Paired.mapP r fun p q z=>⟨z.1,ht _ _ z.2.1,z.2.2⟩,ob,es,ep,k _ _ (.inl rfl) e,c⟩
 | set S n=>obtain⟨ob,es,ep,t,e,c⟩:=x;exact⟨ob,es,ep,t,k _ _ (.inl rfl) e,c⟩
 | ins C dx fs =>
  obtain⟨d,z,ne,e,mA,⟨od,es,ep,e2,c⟩,r⟩:=x;exact⟨ho _ d,z,ne,k _ _ (.inl rfl) e,mA,⟨od,es,ep,k _ _ (.inr d) e2,c⟩,r⟩
 | own y=>obtain⟨ob,e⟩:=x;exact⟨ob,k _ _ (.inl rfl) e⟩
 | xd fs=>obtain⟨mA,⟨od,es,ep,e,c⟩,r⟩:=x;exact⟨mA,⟨od,es,ep,k _ _ (.inl rfl) e,c⟩,r⟩
 | rng lo hi=>obtain⟨t,u,v,e⟩:=x;exact⟨t,u,v,k _ _ (.inl rfl) e⟩
 | frz ob u ih=>obtain⟨e,q⟩:=x;exact⟨k _ _ (.inl rfl) e,ih q⟩
 | tbl ps =>
  have e:h.get? a=some {cls:=.none,data:=.fields ps}:=x;show h'.get? a=some {cls:=.none,data:=.fields ps};exact k a _ (.inl rfl) e
 | met f y =>
  have e:h.get? a=some (W.methodObj (.ref f) (.ref y)):=x;show h'.get? a=some (W.methodObj (.ref f) (.ref y));exact k a _ (.inl rfl) e
 | ext φ=>obtain⟨p,⟨o,e⟩,st⟩:=x;exact⟨st _ _ p fun o q=>k _ _ (.inl rfl) q,⟨o,k _ _ (.inl rfl) e⟩,st⟩
theorem HOk.lt (x:HOk P w H h)(e:H a=some o):a < h.objs.size:=(x a o e).lt
theorem HOk.fresh (x:HOk P w H h)(e:h.objs.size<=a):H a=none:=by
 cases q:H a with
 | none=>rfl
 | some u=>exact absurd (xbg (x.lt q) e) (xfa _)
theorem HOk.kept (x:HOk P w H h)(k:∀b u,h.get? b=some u->h'.get? b=some u):HOk P w H h':=fun a o e =>
 (x a o e).stay (fun b u _ q=>k b u q) (fun _ q=>q) fun _ _ q=>q
theorem HOk.laid (x:HOk P w H h)(k:∀b u,h.get? b=some u->h'.get? b=some u)(hp:h.objs.size<=a)(new:ObjOk P w (upd H a o) h' a o):HOk P w (upd H a o) h':=fun b u e=>by
 have hn:=x.fresh hp;by_cases hb:b=a
 ·subst hb;rw[zj] at e;cases e;exact new
 ·rw[zm hb] at e;exact(x b u e).stay (fun c v _ q=>k c v q) (fun c q=>by rw[zm (zh q hn)];exact q) fun c xs q=>by rw[zm (zh q hn)];exact q
end
noncomputable def Rd (H:Hp) (a:Addr) (u:HO):Prop:=H a=some u\/∃o,H a=some (.frz o u)
theorem Rd.ok {P:Program}{w:World}{H:Hp}{h:Heap}{a:Addr}{u:HO}(r:Rd H a u)(x:HOk P w H h):ObjOk P w H h a u:=by
 rcases r with r | ⟨o,r⟩
 ·exact x a u r
 ·obtain⟨_,q⟩:=x a _ r;exact q
noncomputable def Mut:Option HO->Prop
 | some (.lst _)=>True
 | some (.dK _)=>True
 | some (.dT _)=>True
 | some (.set _ _)=>True
 | some (.ins _ _ _)=>True
 | some (.ext _)=>True
 | _=>False
section
variable {P:Program}{w:World}{H:Hp}{h h':Heap}{x e:Addr}{o':HO}
theorem HOk.write (ok:HOk P w H h)(mu:Mut (H x))(he:e=x\/H e=some (.own x))(k:∀b u,b≠e->h.get? b=some u->h'.get? b=some u)(heo:∃u,h'.get? e=some u)
  (new:ObjOk P w (upd H x o') h' x o'):HOk P w (upd H x o') h':=fun b u q=>by
 have nown:∀c y,H c=some (.own y)->c≠x:=fun c y r z=>by subst z;rw[r] at mu;exact mu
 have ntup:∀c xs,H c=some (.tup xs)->c≠x:=fun c xs r z=>by subst z;rw[r] at mu;exact mu
 by_cases hb:b=x
 ·subst hb;rw[zj] at q;cases q;exact new
 ·rw[zm hb] at q;by_cases hbe:b=e
  ·have q':H b=some (.own x):=by
    rcases he with z | z
    ·exact absurd (hbe.trans z) hb
    ·rw[hbe];exact z
   rw[q] at q';cases q'
   obtain⟨v,hv⟩:=heo;exact⟨v,by rw[hbe];exact hv⟩
  ·refine(ok b u q).stay (fun c v hc r=>k c v ?_ r) (fun c r=>by rw[zm (nown c b r)];exact r) fun c xs r=>by rw[zm (ntup c xs r)];exact r
   rcases hc with rfl | hc
   ·exact hbe
   ·rintro rfl;rcases he with z | z
    ·exact nown c b hc z
    ·rw[hc] at z;cases z;exact hb rfl
end
structure Un (fs ex:List Addr) (H H':Hp) (h h':Heap):Prop where
 keep:∀b o,h.get? b=some o->H b=none->b∉fs->b∉ex->h'.get? b=some o
 slot:∀b o,h.get? b=some o->H b=none->b∈fs->b∉ex->∃sl,h'.get? b=some {o with slots:=sl}
 free:∀b o,h.get? b=some o->H b=none->b∉ex->H' b=none
 there:∀b o,h.get? b=some o->b∉ex->∃o',h'.get? b=some o'
 tups:∀b xs,H b=some (.tup xs)->H' b=some (.tup xs)
 frzs:∀b o u,H b=some (.frz o u)->H' b=some (.frz o u)
 tbls:∀b ps,H b=some (.tbl ps)->∃more,H' b=some (.tbl (ps++more))
section
variable {fs fs' ex ex':List Addr}{H H1 H2:Hp}{h h1 h2 h':Heap}{a x e:Addr}{o:HO}
theorem Un.any (u:Un fs ex H H1 h h1){b:Addr}{ob:Obj}(q:h.get? b=some ob)(n:H b=none)(hx:b∉ex):∃sl,h1.get? b=some {ob with slots:=sl}:=by
 by_cases hb:b∈fs
 ·exact u.slot b ob q n hb hx
 ·exact⟨ob.slots,u.keep b ob q n hb hx⟩
theorem Un.kept (k:∀b u,h.get? b=some u->h'.get? b=some u):Un fs ex H H h h' :=
 ⟨fun b ob q _ _ _=>k b ob q,fun b ob q _ _ _=>⟨ob.slots,k b ob q⟩,fun _ _ _ n _=>n,fun b ob q _=>⟨ob,k b ob q⟩,fun _ _ q=>q,fun _ _ _ q=>q,fun _ ps q=>⟨#[],by rw[q];simp⟩⟩
theorem Un.refl:Un fs ex H H h h:=Un.kept fun _ _ q=>q
theorem Un.laid (k:∀b u,h.get? b=some u->h'.get? b=some u)(hp:h.objs.size<=a)(hn:H a=none):Un fs ex H (upd H a o) h h' where
 keep:=fun b u q _ _ _=>k b u q
 slot:=fun b u q _ _ _=>⟨u.slots,k b u q⟩
 free:=fun b u q n _=>by rw[zm (xca (xbg (xbl q) hp))];exact n
 there:=fun b u q _=>⟨u,k b u q⟩
 tups:=fun b xs q=>by rw[zm (zh q hn)];exact q
 frzs:=fun b u xs q=>by rw[zm (zh q hn)];exact q
 tbls:=fun b ps q=>⟨#[],by rw[zm (zh q hn),q];simp⟩
theorem Un.write (mu:Mut (H x))(he:e=x\/H e=some (.own x))(k:∀b u,b≠e->h.get? b=some u->h'.get? b=some u)(heo:∃u,h'.get? e=some u):Un fs ex H (upd H x o) h h':=by
 have hx:∀b,H b=none->b≠x:=fun b n z=>by subst z;rw[n] at mu;exact mu
 have hb:∀b,H b=none->b≠e:=fun b n z=>by
  subst z;rcases he with r | r
  ·exact hx b n r
  ·rw[n] at r;cases r
 have hm:∀b u,H b=some u->¬ Mut (some u)->b≠x:=fun b u q nm z=>by subst z;rw[q] at mu;exact nm mu
 refine⟨fun b u q n _ _=>k b u (hb b n) q,fun b u q n _ _=>⟨u.slots,k b u (hb b n) q⟩,fun b u q n _=>by rw[zm (hx b n)];exact n,fun b u q _=>?_,
  fun b xs q=>by rw[zm (hm b _ q fun z=>z)];exact q,fun b u xs q=>by rw[zm (hm b _ q fun z=>z)];exact q,fun b ps q=>⟨#[],by rw[zm (hm b _ q fun z=>z),q];simp⟩⟩
 by_cases hbe:b=e
 ·subst hbe;exact heo
 ·exact⟨u,k b u hbe q⟩
end
noncomputable def trk (h:Heap) (H:Hp):List Addr:=(List.range h.objs.size).filter fun a=>(H a).isSome
noncomputable def hidT (h:Heap) (H:Hp):Heap:=W.hideAll h (trk h H)
theorem zwe (h:Heap)(H:Hp):(hidT h H).objs.size=h.objs.size:=W.hideAll_size _ _
theorem zbaj {h:Heap}{H:Hp}{b:Addr}{o:Obj}(e:h.get? b=some o)(n:H b=none):(hidT h H).get? b=some o :=
 W.hideAll_get _ e fun hm=>by
  have q:(H b).isSome=true:=(xgi.mp hm).2;rw[n] at q;simp at q
theorem zbdv {h:Heap}{H:Hp}{b:Addr}{o:Obj}(e:(hidT h H).get? b=some o):h.get? b=some o/\H b=none:=by
 have e':h.get? b=some o:=W.of_hideAll (trk h H) e;refine⟨e',?_⟩;cases q:H b with
 | none=>rfl
 | some x =>
  have hm:b∈trk h H:=xgi.mpr ⟨xdz.mpr (xbl e'),by simp[q]⟩;have z:(hidT h H).get? b=none:=W.hideAll_none (trk h H) hm;rw[z] at e;cases e
structure Mod (K:Fg) (mg:Str->Option Value) (base:Heap):Prop where
 kin:K.In base
 glob:base.Ns mainGlobals mg
 blt:∃ mb, base.Ns builtinsNs mb/\∀ x:Str, x≠"__name__"->mb x=bootBuiltins x
 nolimit:base.NoLimit
structure Cx where
 prog:Program
 w:World
 K:Fg
 mg:Str->Option Value
 base:Heap
 A:Around
 N:List Str
 s₀:Shared
 H₀:Hp
 env:Env
 outer:List Env
 stack:List Env
 ex:List Addr
 fn:Str->Bool
 calm:Bool
 pn:List (Addr×Obj)
 xe:Value->Shared->Prop
noncomputable def frs (l:List Env):List Addr:=l.filterMap (·.frame)
noncomputable abbrev Cx.fs (X:Cx):List Addr:=frs X.outer
noncomputable def Vis (sc:Scope) (x:Str):Prop:=sc.names.lookup x=some .local\/sc.names.lookup x=some .cell\/sc.names.lookup x=some .free
noncomputable def Loc (sc:Scope) (x:Str):Prop:=sc.names.lookup x=some .local\/sc.names.lookup x=some .cell
noncomputable def Look (env:Env) (h:Heap) (m:Str->Option Value) (x:Str) (u:Value):Prop :=
 (env.kindOf x=some .local/\m x=some u)\/((env.kindOf x=some .cell\/env.kindOf x=some .free)/\∃c,env.cells.lookup x=some c/\h.IsCell c (some u))
structure Cx.Ok (X:Cx):Prop where
 mod:Mod X.K X.mg X.base
 kind:X.env.scope.kind=.function
 glob:X.env.globals=mainGlobals
 blt:X.env.builtins=builtinsNs
 above:X.s₀.heap.objs.size<=X.env.locals
 inj:∀x y c,X.env.cells.lookup x=some c->X.env.cells.lookup y=some c->x=y
 has:∀x,(X.env.kindOf x=some .cell\/X.env.kindOf x=some .free)->∃c,X.env.cells.lookup x=some c
 cab:∀x c,X.fn x=true->X.env.cells.lookup x=some c->X.s₀.heap.objs.size<=c
 hd:X.calm=true->X.A.handled=none
 frames:X.A.frames=some X.stack
 stk:X.stack=X.outer\/(X.stack=X.env::X.outer/\X.env.frame=some X.env.locals)
 exf:∀b∈X.ex,b≠X.env.locals/\∀x c,X.env.cells.lookup x=some c->c≠b
 bs:∀b o,X.base.get? b=some o->X.s₀.heap.get? b=some o/\X.H₀ b=none
 bsz:X.base.objs.size<=X.s₀.heap.objs.size
 noex:∀b o,X.base.get? b=some o->b∉X.ex
 exfs:∀b∈X.ex,b∉X.fs
 funs:X.s₀.heap.FunFrames X.base X.outer
 frf:∀b∈X.fs,X.H₀ b=none
noncomputable def Hnd (A:Around) (H:Hp):Prop:=∀v,A.handled=some v->∃a o,v=.ref a/\H a=some (.frz o (.ext fun _=>True))/\∃vs,o.data=.fields vs/\vs[2]?=some .none
theorem Hnd.map {A:Around}{H H':Hp}(h:Hnd A H)(f:∀b o u,H b=some (.frz o u)->H' b=some (.frz o u)):Hnd A H':=fun v e=>let ⟨a,o,h1,h2,h3⟩:=h v e;⟨a,o,h1,f _ _ _ h2,h3⟩
theorem Hnd.none {A:Around}{H:Hp}(h:A.handled=.none):Hnd A H:=fun v e=>by rw[h] at e;cases e
structure Inv (X:Cx) (aA:List (Addr×Obj)) (σ:List (Option V)) (H:Hp) (s:Shared):Prop where
 ok:X.Ok
 os:s.os=X.s₀.os
 bare:AllBare s.gens
 base:Un X.fs X.ex X.H₀ H X.s₀.heap s.heap
 loc:∃m,s.heap.Ns X.env.locals m/\∀(i:Nat) (x:Str) (v:V),X.N[i]?=some x->σ[i]?=some (some v)->Vis X.env.scope x->∃u,RelV v u/\Look X.env s.heap m x u
 cell:∀x c,X.env.cells.lookup x=some c->∃v,s.heap.IsCell c v
 free:H X.env.locals=none
 freeC:∀x c,X.env.cells.lookup x=some c->H c=none
 pin:∀p∈X.pn++aA,s.heap.get? p.1=some p.2/\H p.1=none/\p.1≠X.env.locals/\p.1∉X.fs/\∀v,p.2.data≠.cell v
 hok:HOk X.prog X.w H s.heap
 len:σ.length=X.N.length
 hnd:Hnd X.A H
section
variable {X:Cx}{aA:List (Addr×Obj)}{σ:List (Option V)}{H H':Hp}{s:Shared}{h':Heap}
theorem Cx.Ok.nofr (ok:X.Ok){b:Addr}{o:Obj}(e:X.base.get? b=some o):b∉X.fs:=fun hb=>by
 have:=(ok.funs.mem hb).1;rw[e] at this;cases this
theorem Inv.bs (I:Inv X aA σ H s):∀b o,X.base.get? b=some o->s.heap.get? b=some o/\H b=none:=fun b o e =>
 ⟨I.base.keep b o (I.ok.bs b o e).1 (I.ok.bs b o e).2 (I.ok.nofr e) (I.ok.noex b o e),I.base.free b o (I.ok.bs b o e).1 (I.ok.bs b o e).2 (I.ok.noex b o e)⟩
theorem Inv.bk (I:Inv X aA σ H s):∀b o,X.base.get? b=some o->s.heap.get? b=some o:=fun b o e=>(I.bs b o e).1
theorem Inv.mod (I:Inv X aA σ H s):Mod X.K X.mg X.base:=I.ok.mod
theorem Inv.kIn (I:Inv X aA σ H s):X.K.In s.heap:=I.ok.mod.kin.keeps I.bk
theorem Inv.lt (I:Inv X aA σ H s):X.env.locals < s.heap.objs.size:=let ⟨_,hn,_⟩:=I.loc;hn.lt
theorem Inv.sz (I:Inv X aA σ H s):X.s₀.heap.objs.size<=s.heap.objs.size:=xbb I.ok.above (xbr I.lt)
theorem Inv.nofs (I:Inv X aA σ H s){a:Addr}(h:s.heap.objs.size<=a):a∉X.fs:=fun hb=>by
 obtain⟨_,o,ho,_⟩:=I.ok.funs.mem hb;exact absurd (xbg (xbl ho) (xbb I.sz h)) (xfa _)
theorem Inv.cne (I:Inv X aA σ H s):∀x c,X.env.cells.lookup x=some c->c≠X.env.locals:=fun x c e z=>by
 obtain⟨v,o,ho,hd⟩:=I.cell x c e;obtain⟨m,⟨o',es,ep,ho',hd',_⟩,_⟩:=I.loc;rw[z,ho'] at ho;cases ho;rw[hd'] at hd;cases hd
theorem Inv.funs (I:Inv X aA σ H s):s.heap.FunFrames X.base X.outer:=by
 have all:∀(l:List Env),(∀b∈frs l,b∈X.fs)->X.s₀.heap.FunFrames X.base l->s.heap.FunFrames X.base l:=by
  intro l
  induction l with
  | nil=>intro _ _;trivial
  | cons env r ih =>
   intro hs hl;obtain⟨hk,⟨L,o,hf,hn,ho,hd⟩,hr⟩:=hl;have hL:L∈X.fs:=hs L (by unfold frs;rw[xkf,hf];exact xch);obtain⟨sl,e⟩:=I.base.slot L o ho (I.ok.frf L hL) hL fun z=>I.ok.exfs L z hL
   exact⟨hk,⟨L,_,hf,hn,e,hd⟩,ih (fun b hb=>hs b (by unfold frs;rw[xkf,hf];exact xci _ hb)) hr⟩
 exact all X.outer (fun _ hb=>hb) I.ok.funs
theorem Inv.stack (I:Inv X aA σ H s):s.heap.FunFrames X.base X.stack:=by
 rcases I.ok.stk with e | ⟨e,hf⟩
 ·rw[e];exact I.funs
 ·rw[e];obtain⟨m,hn,_⟩:=I.loc;refine .cons (by rw[I.ok.kind];decide) hf hn ?_ I.funs;exact xfn (xbb I.ok.bsz I.ok.above)
theorem Inv.stkSub (I:Inv X aA σ H s):∀b∈frs X.stack,b∈X.env.locals::X.fs:=fun b hb=>by
 rcases I.ok.stk with e | ⟨e,hf⟩
 ·rw[e] at hb;exact xci _ hb
 ·rw[e] at hb;unfold frs at hb;rw[xkf,hf] at hb;exact hb
theorem Inv.stkFree (I:Inv X aA σ H s):∀b∈frs X.stack,H b=none:=fun b hb=>by
 rcases xbx.mp (I.stkSub b hb) with e | hb
 ·rw[e];exact I.free
 ·obtain⟨_,o,ho,_⟩:=I.ok.funs.mem hb;exact I.base.free b o ho (I.ok.frf b hb) fun z=>I.ok.exfs b z hb
theorem Inv.step {g':Array GenState}{t':Nat}{d':Drawn}{ch:List Addr}(I:Inv X aA σ H s)
  (hch:∀b∈ch,(b∈X.ex\/X.s₀.heap.objs.size<=b)/\b≠X.env.locals/\(∀x c,X.env.cells.lookup x=some c->c≠b)/\∀p∈X.pn++aA,p.1≠b)
  (keep:∀b o,b≠X.env.locals->b∉X.fs->b∉ch->s.heap.get? b=some o->H b=none->h'.get? b=some o)
  (slot:∀b o,b≠X.env.locals->b∈X.fs->b∉ch->s.heap.get? b=some o->H b=none->∃sl,h'.get? b=some {o with slots:=sl})(free:∀b o,b∉ch->s.heap.get? b=some o->H b=none->H' b=none)
  (there:∀b o,b∉ch->s.heap.get? b=some o->∃o',h'.get? b=some o')
  (tups:∀b xs,H b=some (.tup xs)->H' b=some (.tup xs))(frzs:∀b o u,H b=some (.frz o u)->H' b=some (.frz o u))(tbls:∀b ps,H b=some (.tbl ps)->∃more,H' b=some (.tbl (ps++more)))
  (ns:∀m,s.heap.Ns X.env.locals m->h'.Ns X.env.locals m)(hok:HOk X.prog X.w H' h')(hg:AllBare g') :
  Inv X aA σ H' {s with heap:=h',gens:=g',drawn:=d',toks:=t'}:=by
 have neL:∀b o,X.s₀.heap.get? b=some o->b≠X.env.locals:=fun b o e=>xca (xbg (xbl e) I.ok.above)
 have neC:∀b o,X.s₀.heap.get? b=some o->b∉X.ex->b∉ch:=fun b o e hx hb=>by
  rcases(hch b hb).1 with z | z
  ·exact hx z
  ·exact absurd (xbg (xbl e) z) (xfa _)
 have cellK:∀x c,X.env.cells.lookup x=some c->∀v,s.heap.IsCell c v->h'.IsCell c v:=fun x c e v hq0=>by
  obtain⟨o,ho,hd⟩:=hq0;have nch:c∉ch:=fun z=>(hch c z).2.2.1 x c e rfl
  by_cases hc:c∈X.fs
  ·obtain⟨sl,q⟩:=slot c o (I.cne x c e) hc nch ho (I.freeC x c e);exact⟨_,q,hd⟩
  ·exact⟨o,keep c o (I.cne x c e) hc nch ho (I.freeC x c e),hd⟩
 refine⟨I.ok,I.os,hg,⟨fun b o e n hb hx=>?_,fun b o e n hb hx=>?_,fun b o e n hx=>?_,fun b o e hx=>?_,fun b xs e=>tups b xs (I.base.tups b xs e),fun b o xs e=>frzs b o xs (I.base.frzs b o xs e),fun b ps e=>?_⟩,?_,fun x c e=>?_,?_,fun x c e=>?_,fun p hp=>?_,hok,I.len,I.hnd.map frzs⟩
 ·exact keep b o (neL b o e) hb (neC b o e hx) (I.base.keep b o e n hb hx) (I.base.free b o e n hx)
 ·obtain⟨sl,e1⟩:=I.base.slot b o e n hb hx;obtain⟨sl',e2⟩:=slot b _ (neL b o e) hb (neC b o e hx) e1 (I.base.free b o e n hx);exact⟨sl',e2⟩
 ·obtain⟨o',e1⟩:=I.base.there b o e hx;exact free b o' (neC b o e hx) e1 (I.base.free b o e n hx)
 ·obtain⟨o',e1⟩:=I.base.there b o e hx;exact there b o' (neC b o e hx) e1
 ·obtain⟨m1,e1⟩:=I.base.tbls b ps e;obtain⟨m2,e2⟩:=tbls b _ e1;exact⟨m1++m2,by rw[e2,Array.append_assoc]⟩
 ·obtain⟨m,hn,hl⟩:=I.loc;refine⟨m,ns m hn,fun i x v e1 e2 e3=>?_⟩;obtain⟨u,r,l⟩:=hl i x v e1 e2 e3;refine⟨u,r,?_⟩;rcases l with l | ⟨k,c,e,z⟩
  ·exact .inl l
  ·exact .inr ⟨k,c,e,cellK x c e _ z⟩
 ·obtain⟨v,z⟩:=I.cell x c e;exact⟨v,cellK x c e v z⟩
 ·obtain⟨m,⟨o,_,_,ho,_⟩,_⟩:=I.loc;exact free _ o (fun z=>(hch _ z).2.1 rfl) ho I.free
 ·obtain⟨v,o,ho,hd⟩:=I.cell x c e;exact free c o (fun z=>(hch c z).2.2.1 x c e rfl) ho (I.freeC x c e)
 ·obtain⟨e,n,ne,nf,d⟩:=I.pin p hp;have nch:p.1∉ch:=fun z=>(hch p.1 z).2.2.2 p hp rfl
  exact⟨keep p.1 p.2 ne nf nch e n,free p.1 p.2 nch e n,ne,nf,d⟩
theorem Inv.un {t':Nat}(I:Inv X aA σ H s)(u:Un X.fs [] H H' s.heap h')(hok:HOk X.prog X.w H' h'):Inv X aA σ H' {s with heap:=h',toks:=t'}:=by
 obtain⟨m,⟨o,es,ep,ho,r⟩,_⟩:=id I.loc;obtain⟨sl,hL⟩:=u.any ho I.free (by simp)
 exact I.step (g':=s.gens) (d':=s.drawn) (ch:=[]) (fun _ z=>nomatch z) (fun b o _ hb _ e n=>u.keep b o e n hb (by simp)) (fun b o _ hb _ e n=>u.slot b o e n hb (by simp)) (fun b o _ e n=>u.free b o e n (by simp)) (fun b o _ e=>u.there b o e (by simp)) u.tups u.frzs u.tbls (fun m' hm=>by
  obtain⟨o',es',ep',ho',r'⟩:=hm;rw[ho] at ho';cases ho'
  exact⟨_,es',ep',hL,r'⟩) hok I.bare
theorem Inv.call {g':Array GenState}{t':Nat}{d':Drawn}{ch:List Addr}(I:Inv X aA σ H s)(u:Un (frs X.stack) ch H H' s.heap h')(hok:HOk X.prog X.w H' h')(hg:AllBare g')
  (hch:∀b∈ch,(b∈X.ex\/X.s₀.heap.objs.size<=b)/\b≠X.env.locals/\(∀x c,X.env.cells.lookup x=some c->c≠b)/\∀p∈X.pn++aA,p.1≠b) :
  Inv X aA σ H' {s with heap:=h',gens:=g',drawn:=d',toks:=t'}:=by
 obtain⟨m,⟨o,es,ep,ho,r⟩,_⟩:=id I.loc;obtain⟨sl,hL⟩:=u.any ho I.free fun z=>(hch _ z).2.1 rfl
 exact I.step (ch:=ch) hch (fun b o hL hb hc e n=>u.keep b o e n (fun z=>(xbx.mp (I.stkSub b z)).elim hL hb) hc) (fun b o _ _ hc e n=>u.any e n hc) (fun b o hc e n=>u.free b o e n hc) (fun b o hc e=>u.there b o e hc) u.tups u.frzs u.tbls (fun m' hm=>by
  obtain⟨o',es',ep',ho',r'⟩:=hm;rw[ho] at ho';cases ho'
  exact⟨_,es',ep',hL,r'⟩) hok hg
theorem Inv.turned {t':Nat}{it:Addr}(I:Inv X aA σ H s)(k:∀b o,b≠it->s.heap.get? b=some o->h'.get? b=some o)(hn:H it=none)(hL:it≠X.env.locals)
  (h1:it∈X.ex\/X.s₀.heap.objs.size<=it)(h2:∀x c,X.env.cells.lookup x=some c->c≠it)(h3:∀p∈X.pn++aA,p.1≠it):Inv X aA σ H {s with heap:=h',toks:=t'}:=by
 have nit:∀b u,H b=some u->b≠it:=fun b u e z=>by rw[z,hn] at e;cases e
 refine I.step (g':=s.gens) (d':=s.drawn) (ch:=[it]) (fun b hb=>?_) (fun b o _ _ hc e _=>k b o (fun z=>hc (by simp[z])) e) (fun b o _ _ hc e _=>⟨o.slots,k b o (fun z=>hc (by simp[z])) e⟩) (fun _ _ _ _ n=>n)
  (fun b o hc e=>⟨o,k b o (fun z=>hc (by simp[z])) e⟩) (fun _ _ e=>e) (fun _ _ _ e=>e) (fun b ps e=>⟨#[],by rw[e];simp⟩) (fun m hm=>?_) (fun b u e=>?_) I.bare
 ·have e:b=it:=by simpa using hb
  subst e;exact⟨h1,hL,h2,h3⟩
 ·obtain⟨o,es,ep,ho,r⟩:=hm;exact⟨o,es,ep,k _ o (xgb hL) ho,r⟩
 ·refine(I.hok b u e).stay (fun c v hc q=>k c v ?_ q) (fun _ q=>q) fun _ _ q=>q
  rcases hc with z | z
  ·rw[z];exact nit b u e
  ·exact nit c _ z
theorem Inv.tok (I:Inv X aA σ H s)(t:Nat):Inv X aA σ H {s with toks:=t}:=I.un (h':=s.heap) (t':=t) Un.refl I.hok
theorem Inv.kept {t':Nat}(I:Inv X aA σ H s)(k:∀b u,s.heap.get? b=some u->h'.get? b=some u):Inv X aA σ H {s with heap:=h',toks:=t'}:=I.un (Un.kept k) (I.hok.kept k)
theorem Inv.laid {a:Addr}{o:HO}{t':Nat}(I:Inv X aA σ H s)(k:∀b u,s.heap.get? b=some u->h'.get? b=some u)(hp:s.heap.objs.size<=a)(new:ObjOk X.prog X.w (upd H a o) h' a o) :
 Inv X aA σ (upd H a o) {s with heap:=h',toks:=t'}:=I.un (Un.laid k hp (I.hok.fresh hp)) (I.hok.laid k hp new)
theorem Inv.write {x e:Addr}{o:HO}{t':Nat}(I:Inv X aA σ H s)(mu:Mut (H x))(he:e=x\/H e=some (.own x))(k:∀b u,b≠e->s.heap.get? b=some u->h'.get? b=some u)(heo:∃u,h'.get? e=some u)
 (new:ObjOk X.prog X.w (upd H x o) h' x o):Inv X aA σ (upd H x o) {s with heap:=h',toks:=t'}:=I.un (Un.write mu he k heo) (I.hok.write mu he k heo new)
theorem Inv.pins_of {pins':List (Addr×Obj)}(I:Inv X aA σ H s)(h:∀p∈pins',s.heap.get? p.1=some p.2/\H p.1=none/\p.1≠X.env.locals/\p.1∉X.fs/\∀v,p.2.data≠.cell v):Inv X pins' σ H s :=
 ⟨I.ok,I.os,I.bare,I.base,I.loc,I.cell,I.free,I.freeC,fun p hp=>(xby.mp hp).elim (fun z=>I.pin p (xgr _ z)) (h p),I.hok,I.len,I.hnd⟩
theorem zss {N:List Str}(hN:N.Nodup){i j:Nat}{x:Str}(a:N[i]?=some x)(b:N[j]?=some x):i=j:=by
 obtain⟨h1,e1⟩:=xbk.mp a;obtain⟨h2,e2⟩:=xbk.mp b;exact(List.getElem_inj hN).mp (e1.trans e2.symm)
theorem zop {M:Model}{A:Around}{E:Value->Shared->Prop}{i:Nat}{x:Str}{v:V}{u:Value}{Q:Unit->Shared->Prop}(I:Inv X aA σ H s)(hN:X.N.Nodup)(hi:X.N[i]?=some x)(hx:Loc X.env.scope x)(r:RelV v u)
  (h:∀s',Inv X aA (σ.set i (some v)) H s'->(∃a,Heap.SameBut a s.heap s'.heap/\(a=X.env.locals\/X.env.cells.lookup x=some a))->Q () s')(hf:X.fn x=true\/X.env.scope.names.lookup x=some .local:=by first | exact .inl rfl | exact .inr rfl | assumption):wpAny M A (storeName X.env x u) Q E s:=by
 obtain⟨m,hn,hl⟩:=id I.loc;have hcls:(X.env.scope.kind==.class||(X.env.scope.kind==.module&&X.env.locals != X.env.globals))=false:=by rw[I.ok.kind];rfl
 have hiσ:i < σ.length:=by rw[I.len];exact(xbk.mp hi).1
 have cne:=I.cne;have tracked:∀{a:Addr} {h':Heap},(∃o,s.heap.get? a=some o/\H a=none)->Heap.SameBut a s.heap h'->HOk X.prog X.w H h':=fun {a h'} ha hs b ob e=>by
  obtain⟨_,_,hfree⟩:=ha;refine(I.hok b ob e).stay (fun c w' hc q=>(hs.2 c ?_).trans q) (fun _ q=>q) fun _ _ q=>q
  rintro rfl;rcases hc with rfl | hc
  ·rw[hfree] at e;cases e
  ·rw[hfree] at hc;cases hc
 rcases hx with hk | hk
 ·refine wpAny_storeName_local hk hn (fun h' hn' hs=>?_) hcls;obtain⟨oL,_,_,hoL,_⟩:=id hn;refine h _ ⟨I.ok,I.os,I.bare,⟨fun b o e n hb hx=>?_,fun b o e n hb hx=>?_,I.base.free,fun b o e hx=>?_,I.base.tups,I.base.frzs,I.base.tbls⟩,⟨_,hn',fun j y v' e1 e2 e3=>?_⟩,fun y c e=>?_,I.free,I.freeC,fun p hp=>?_,tracked ⟨oL,hoL,I.free⟩ hs,by simpa using I.len,I.hnd⟩ ⟨_,hs,.inl rfl⟩
  ·exact(hs.2 b (xca (xbg (xbl e) I.ok.above))).trans (I.base.keep b o e n hb hx)
  ·obtain⟨sl,e1⟩:=I.base.slot b o e n hb hx;exact⟨sl,(hs.2 b (xca (xbg (xbl e) I.ok.above))).trans e1⟩
  ·obtain⟨o',e1⟩:=I.base.there b o e hx;exact⟨o',(hs.2 b (xca (xbg (xbl e) I.ok.above))).trans e1⟩
  ·by_cases hj:j=i
   ·subst hj;rw[hi] at e1;cases e1
    rw[xgc hiσ] at e2;cases e2;exact⟨u,r,.inl ⟨hk,by simp⟩⟩
   ·rw[xdq (xgb hj)] at e2;obtain⟨u',r',q⟩:=hl j y v' e1 e2 e3;refine⟨u',r',?_⟩;rcases q with⟨k,e⟩ | ⟨k,c,e,z⟩
    ·refine .inl ⟨k,?_⟩;have:y≠x:=fun e=>hj (zss hN e1 (e ▸ hi))
     simp[this,e]
    ·exact .inr ⟨k,c,e,z.sameBut hs (cne y c e)⟩
  ·obtain⟨w',z⟩:=I.cell y c e;exact⟨w',z.sameBut hs (cne y c e)⟩
  ·obtain⟨e,n,ne,nf,d⟩:=I.pin p hp;exact⟨(hs.2 p.1 ne).trans e,n,ne,nf,d⟩
 ·have hfn:X.fn x=true:=by
   rcases hf with z | z
   ·exact z
   ·rw[z] at hk;cases hk
  obtain⟨c,hc⟩:=I.ok.has x (.inl hk);obtain⟨w',z⟩:=I.cell x c hc;refine wpAny_storeName_cell I.ok.kind hk hc z (fun h' hc' hs=>?_);obtain⟨oc,hoc,hocd⟩:=id z;refine h {s with heap:=h'} ⟨I.ok,I.os,I.bare,⟨fun b o e n hb hx=>?_,fun b o e n hb hx=>?_,I.base.free,fun b o e hx=>?_,I.base.tups,I.base.frzs,I.base.tbls⟩,⟨m,hn.sameBut hs (xgb (cne x c hc)),fun j y v' e1 e2 e3=>?_⟩,fun y c' e=>?_,I.free,I.freeC,fun p hp=>?_,tracked ⟨oc,hoc,I.freeC x c hc⟩ hs,by simpa using I.len,I.hnd⟩ ⟨c,hs,.inr hc⟩
  ·exact(hs.2 b (xca (xbg (xbl e) (I.ok.cab x c hfn hc)))).trans (I.base.keep b o e n hb hx)
  ·obtain⟨sl,e1⟩:=I.base.slot b o e n hb hx;exact⟨sl,(hs.2 b (xca (xbg (xbl e) (I.ok.cab x c hfn hc)))).trans e1⟩
  ·obtain⟨o',e1⟩:=I.base.there b o e hx;exact⟨o',(hs.2 b (xca (xbg (xbl e) (I.ok.cab x c hfn hc)))).trans e1⟩
  ·by_cases hj:j=i
   ·subst hj;rw[hi] at e1;cases e1
    rw[xgc hiσ] at e2;cases e2;exact⟨u,r,.inr ⟨.inl hk,c,hc,hc'⟩⟩
   ·rw[xdq (xgb hj)] at e2;obtain⟨u',r',q⟩:=hl j y v' e1 e2 e3;refine⟨u',r',?_⟩;rcases q with q | ⟨k,c',e,z'⟩
    ·exact .inl q
    ·refine .inr ⟨k,c',e,z'.sameBut hs ?_⟩;rintro rfl;exact hj (zss hN e1 (I.ok.inj _ _ _ e hc ▸ hi))
  ·by_cases hcc:c'=c
   ·subst hcc;exact⟨_,hc'⟩
   ·obtain⟨w2,z2⟩:=I.cell y c' e;exact⟨w2,z2.sameBut hs hcc⟩
  ·obtain⟨e,n,ne,nf,d⟩:=I.pin p hp;refine⟨(hs.2 p.1 ?_).trans e,n,ne,nf,d⟩;intro q;rw[q,hoc] at e;have q':oc=p.2:=xbw e;exact d w' (by rw[← q'];exact hocd)
theorem zna {M:Model}{A:Around}{E:Value->Shared->Prop}{i:Nat}{x:Str}{v:V}{u:Value}{Q:Unit->Shared->Prop}(I:Inv X aA σ H s)(hN:X.N.Nodup)(hi:X.N[i]?=some x)(hx:Loc X.env.scope x)(r:RelV v u)
  (h:∀s',Inv X aA (σ.set i (some v)) H s'->Q () s')(hf:X.fn x=true\/X.env.scope.names.lookup x=some .local:=by first | exact .inl rfl | exact .inr rfl | assumption):wpAny M A (storeName X.env x u) Q E s :=
 zop I hN hi hx r (fun s' I' _=>h s' I') hf
theorem Inv.call' {s':Shared}{ch:List Addr}(I:Inv X aA σ H s)(ho:s'.os=s.os)(u:Un (frs X.stack) ch H H' s.heap s'.heap)(hok:HOk X.prog X.w H' s'.heap)(hg:AllBare s'.gens)
  (hch:∀b∈ch,(b∈X.ex\/X.s₀.heap.objs.size<=b)/\b≠X.env.locals/\(∀x c,X.env.cells.lookup x=some c->c≠b)/\∀p∈X.pn++aA,p.1≠b):Inv X aA σ H' s':=by
 obtain⟨h',g',d',t',o'⟩:=s';have e:o'=s.os:=ho;subst e;exact I.call (g':=g') (t':=t') (d':=d') u hok hg hch
end
noncomputable abbrev XK:=Value->Option Addr->Hp->Prop
noncomputable abbrev St:=List (Option V)
noncomputable abbrev VK:=V->Hp->Prop
noncomputable abbrev TE:=St->Hp->VK->Prop
noncomputable abbrev TT:=St->Hp->(Bool->Hp->Prop)->Prop
noncomputable abbrev TA:=St->Hp->(List V->Hp->Prop)->Prop
structure Ends where
 nx:St->Hp->Prop
 rt:VK
 bk:St->Hp->Prop:=fun _ _=>False
 ct:St->Hp->Prop:=fun _ _=>False
noncomputable abbrev TS:=Ends->St->Hp->Prop
noncomputable def EP (X:Cx) (aA:List (Addr×Obj)) (σ:St) (Q:VK) (u:Value) (s':Shared):Prop:=∃v H',Inv X aA σ H' s'/\RelV v u/\Q v H'
noncomputable def TP (X:Cx) (aA:List (Addr×Obj)) (σ:St) (Q:Bool->Hp->Prop) (b:Bool) (s':Shared):Prop:=∃H',Inv X aA σ H' s'/\Q b H'
noncomputable def AP (X:Cx) (aA:List (Addr×Obj)) (σ:St) (Q:List V->Hp->Prop) (us:List Value) (s':Shared):Prop:=∃vs H',Inv X aA σ H' s'/\Vals vs us/\Q vs H'
noncomputable def SP (X:Cx) (aA:List (Addr×Obj)) (D:Ends) (f:Flow) (s':Shared):Prop :=
 match f with
 | .next=>∃σ' H',Inv X aA σ' H' s'/\D.nx σ' H'
 | .brk=>∃σ' H',Inv X aA σ' H' s'/\D.bk σ' H'
 | .cont=>∃σ' H',Inv X aA σ' H' s'/\D.ct σ' H'
 | .ret u=>∃v σ' H',Inv X aA σ' H' s'/\RelV v u/\D.rt v H'
noncomputable def PE (X:Cx) (e:Expr) (t:TE):Prop :=
 ∀(aA:List (Addr×Obj)) (s:Shared) (σ:St) (H:Hp) (Q:VK),Inv X aA σ H s->t σ H Q->wpAny (model X.prog X.w) X.A (eval e X.env) (EP X aA σ Q) X.xe s
noncomputable def PT (X:Cx) (e:Expr) (t:TT):Prop :=
 ∀(aA:List (Addr×Obj)) (s:Shared) (σ:St) (H:Hp) (Q:Bool->Hp->Prop),Inv X aA σ H s->t σ H Q->wpAny (model X.prog X.w) X.A (isTrue e X.env (eval e X.env)) (TP X aA σ Q) X.xe s
noncomputable def PW (X:Cx) (e:Expr) (t:TT):Prop :=
 ∀(whole:Sem Value) (aA:List (Addr×Obj)) (s:Shared) (σ:St) (H:Hp) (Q:Bool->Hp->Prop),Inv X aA σ H s->t σ H Q->wpAny (model X.prog X.w) X.A (isTrue e X.env whole) (TP X aA σ Q) X.xe s
theorem PW.pt {X:Cx}{e:Expr}{t:TT}(h:PW X e t):PT X e t:=h _
noncomputable def PA (X:Cx) (es:List Expr) (t:TA):Prop :=
 ∀(pos:Pos) (aA:List (Addr×Obj)) (s:Shared) (σ:St) (H:Hp) (Q:List V->Hp->Prop),Inv X aA σ H s->t σ H Q->wpAny (model X.prog X.w) X.A (spliced (backTo pos (starEach es X.env))) (AP X aA σ Q) X.xe s
noncomputable def PS (X:Cx) (st:Stmt) (t:TS):Prop :=
 ∀(aA:List (Addr×Obj)) (s:Shared) (σ:St) (H:Hp) (D:Ends),Inv X aA σ H s->t D σ H->wpAny (model X.prog X.w) X.A (exec st X.env) (SP X aA D) X.xe s
noncomputable def PSs (X:Cx) (st:List Stmt) (t:TS):Prop :=
 ∀(aA:List (Addr×Obj)) (s:Shared) (σ:St) (H:Hp) (D:Ends),Inv X aA σ H s->t D σ H->wpAny (model X.prog X.w) X.A (execs st X.env) (SP X aA D) X.xe s
theorem thn {α:Type}{t:Sem α}{Q Q':α->Shared->Prop}{M:Model}{A:Around}{E:Value->Shared->Prop}{s:Shared}(h:wpAny M A t Q E s)(hQ:∀a s,Q a s->Q' a s):wpAny M A t Q' E s:=xdd h hQ fun _ _ x=>x
section
variable {X:Cx}
noncomputable def tVar (i:Nat):TE:=fun σ H Q=>∃v,σ[i]?=some (some v)/\Q v H
noncomputable def tC (v:V):TE:=fun _ H Q=>Q v H
theorem zsh {i:Nat}{x:Str}{pos:Pos}(hN:X.N[i]?=some x)(hv:Vis X.env.scope x)(hd:(x==("__debug__" : Str))=false:=by decide)(hcd:(x==("__classdict__" : Str))=false:=by decide):PE X (.Name x pos) (tVar i):=by
 intro aA s σ H Q I h;obtain⟨v,e,h⟩:=h;obtain⟨m,hn,hl⟩:=I.loc;obtain⟨u,r,l⟩:=hl i x v hN e hv;have fin:EP X aA σ Q u s:=⟨v,H,I,r,h⟩
 rcases l with⟨hk,hm⟩ | ⟨hk,c,hc,hcell⟩
 ·exact wpAny_Name (wpAny_loadName_local I.ok.kind hk hn hm fin) hd
 ·rcases hk with hk | hk
  ·exact wpAny_Name (wpAny_loadName_cell I.ok.kind hk hc hcell fin) hd
  ·exact wpAny_Name (wpAny_loadName_free I.ok.kind hk hc hcell fin hcd) hd
theorem zbid {i j pos}:PE X (.Constant (.int i) j pos) (tC (.int i)):=fun _ _ _ H _ I h=>wpAny_Constant_int ⟨.int i,H,I.tok _,⟨_,rfl⟩,h⟩
theorem zbmf {b j pos}:PE X (.Constant (.bool b) j pos) (tC (.bl b)):=fun _ _ _ H _ I h=>Constant_bool ⟨.bl b,H,I,rfl,h⟩
theorem zbib {j pos}:PE X (.Constant .none j pos) (tC .non):=fun _ _ _ H _ I h=>Constant_none ⟨.non,H,I,rfl,h⟩
theorem zbhy {x j pos}:PE X (.Constant (.str x) j pos) (tC (.str x)):=fun _ _ _ H _ I h=>xki ⟨.str x,H,I.tok _,⟨_,rfl⟩,h⟩
noncomputable def Gl (X:Cx) (x:Str):Prop:=X.env.kindOf x=some .globalImplicit
theorem ziw {E:Value->Shared->Prop}{aA:List (Addr×Obj)}{s:Shared}{σ:St}{H:Hp}{x:Str}{u:Value}{pos:Pos}{Q:Value->Shared->Prop}(I:Inv X aA σ H s)(hg:Gl X x)(hm:X.mg x=some u)(h:Q u s)
  (hd:(x==("__debug__" : Str))=false:=by decide):wpAny (model X.prog X.w) X.A (eval (.Name x pos) X.env) Q E s :=
 xil I.ok.kind hg (Calls.loadGlobal_global (by rw[I.ok.glob];exact I.mod.glob.keeps I.bk) hm h) hd
theorem zvx {E:Value->Shared->Prop}{aA:List (Addr×Obj)}{s:Shared}{σ:St}{H:Hp}{x:Str}{u:Value}{pos:Pos}{Q:Value->Shared->Prop}(I:Inv X aA σ H s)(hg:Gl X x)(hm:X.mg x=none)(hv:bootBuiltins x=some u)(h:Q u s)
  (hn:x≠"__name__":=by decide)(hd:(x==("__debug__" : Str))=false:=by decide):wpAny (model X.prog X.w) X.A (eval (.Name x pos) X.env) Q E s:=by
 obtain⟨mb,h1,h2⟩:=I.mod.blt;exact xil I.ok.kind hg (Calls.loadGlobal_builtin (by rw[I.ok.glob];exact I.mod.glob.keeps I.bk) hm (by rw[I.ok.blt];exact h1.keeps I.bk) ((h2 x hn).trans hv) h) hd
theorem zdc {x:Str}{v:V}{u:Value}{pos:Pos}(hg:Gl X x)(hm:X.mg x=some u)(r:RelV v u)(hd:(x==("__debug__" : Str))=false:=by decide):PE X (.Name x pos) (tC v) :=
 fun _ _ _ H _ I h=>ziw I hg hm ⟨v,H,I,r,h⟩ hd
theorem zha {x:Str}{v:V}{u:Value}{pos:Pos}(hg:Gl X x)(hm:X.mg x=none)(hv:bootBuiltins x=some u)(r:RelV v u)(hn:x≠"__name__":=by decide)(hd:(x==("__debug__" : Str))=false:=by decide):PE X (.Name x pos) (tC v) :=
 fun _ _ _ H _ I h=>zvx I hg hm hv ⟨v,H,I,r,h⟩ hn hd
variable {a b:Expr}{ta tb:TE}{pos:Pos}
noncomputable def PC (X:Cx) (op:CmpOp) (a b:Expr) (t:TE):Prop :=
 ∀(aA:List (Addr×Obj)) (s:Shared) (σ:St) (H:Hp) (Q:VK),Inv X aA σ H s->t σ H Q ->
  wpAny (model X.prog X.w) X.A (eval a X.env) (fun v s₁=>wpAny (model X.prog X.w) X.A (eval b X.env) (fun u s₂=>wpAny (model X.prog X.w) X.A (compareOp op v u) (EP X aA σ Q) X.xe s₂) X.xe s₁) X.xe s
noncomputable def tB (t:TE):TT:=fun σ H Q=>t σ H fun x H1=>∃c,x=.bl c/\Q c H1
theorem zbie {op:CmpOp}{t:TE}(h:PC X op a b t)(h1:behindInMarks op b=false:=by first | exact nobehind _ (by decide) (by decide) | rfl):PE X (.Compare a [op] [b] pos) t:=fun aA s σ H Q I hw=>wpAny_Compare1 (h aA s σ H Q I hw) h1
theorem zbhp {op:CmpOp}{t:TE}(h:PC X op a b t)(h1:behindInMarks op b=false:=by first | exact nobehind _ (by decide) (by decide) | rfl):PT X (.Compare a [op] [b] pos) (tB t):=by
 intro aA s σ H Q I hw;refine wpAny_isTrue_Compare1 (thn (h aA s σ H _ I hw) fun v s1 h1=>thn h1 fun u s2 h2=>thn h2 fun c s3 hq0=>?_) h1;obtain⟨x,H1,I1,r1,q1⟩:=hq0;obtain⟨d,rfl,q⟩:=q1;cases r1;exact xeg ⟨H1,I1,q⟩
variable {tA tB':TT}{rest:List Expr}
noncomputable def tAnd (t u:TT):TT:=fun σ H Q=>t σ H fun c H1=>if c=true then u σ H1 Q else Q false H1
noncomputable def tOr (t u:TT):TT:=fun σ H Q=>t σ H fun c H1=>if c=true then Q true H1 else u σ H1 Q
noncomputable def tNot (t:TT):TT:=fun σ H Q=>t σ H fun c H1=>Q (!c) H1
theorem pw_and1 (ha:PT X a tA):PW X (.BoolOp .And [a] pos) tA:=by
 intro wh aA s σ H Q I h;refine isTrue_and (thn (ha aA s σ H Q I h) fun c s1 e=>?_);cases c with
 | true=>exact isTrue_and_nil e
 | false=>exact e
theorem pw_or1 (ha:PT X a tA):PW X (.BoolOp .Or [a] pos) tA:=by
 intro wh aA s σ H Q I h;refine isTrue_or (thn (ha aA s σ H Q I h) fun c s1 e=>?_);cases c with
 | false=>exact isTrue_or_nil e
 | true=>exact e
theorem pw_and (ha:PT X a tA)(hb:PW X (.BoolOp .And (b::rest) pos) tB'):PW X (.BoolOp .And (a::b::rest) pos) (tAnd tA tB'):=by
 intro wh aA s σ H Q I h;refine isTrue_and (thn (ha aA s σ H _ I h) fun c s1 hq0=>?_);obtain⟨H1,I1,q1⟩:=hq0;cases c with
 | true=>exact hb wh aA s1 σ H1 Q I1 q1
 | false=>exact⟨H1,I1,q1⟩
theorem pw_or (ha:PT X a tA)(hb:PW X (.BoolOp .Or (b::rest) pos) tB'):PW X (.BoolOp .Or (a::b::rest) pos) (tOr tA tB'):=by
 intro wh aA s σ H Q I h;refine isTrue_or (thn (ha aA s σ H _ I h) fun c s1 hq0=>?_);obtain⟨H1,I1,q1⟩:=hq0;cases c with
 | true=>exact⟨H1,I1,q1⟩
 | false=>exact hb wh aA s1 σ H1 Q I1 q1
theorem zbho (ha:PT X a tA):PT X (.UnaryOp .Not a pos) (tNot tA):=by
 intro aA s σ H Q I h;exact isTrue_not (ha aA s σ H (fun c H1=>Q (!c) H1) I h)
noncomputable def tAndV (ta tb:TE):TE:=fun σ H Q=>ta σ H fun x H1=>∃c,x=.bl c/\if c=true then tb σ H1 Q else Q (.bl false) H1
noncomputable def tNotV (ta:TE):TE:=fun σ H Q=>ta σ H fun x H1=>∃c,x=.bl c/\Q (.bl (!c)) H1
theorem zbhz {op}{t:TE}(h:PE X a t):PE X (.BoolOp op [a] pos) t:=fun aA s σ H Q I hw=>BoolOp_one (h aA s σ H Q I hw)
theorem zbif (ha:PE X a ta)(hb:PE X (.BoolOp .And (b::rest) pos) tb):PE X (.BoolOp .And (a::b::rest) pos) (tAndV ta tb):=by
 intro aA s σ H Q I h;refine BoolOp_and (thn (ha aA s σ H _ I h) fun v s1 hq0=>?_);obtain⟨x,H1,I1,r1,q1⟩:=hq0;obtain⟨c,rfl,q1⟩:=q1;cases r1;refine xeg ?_;cases c with
 | true=>exact hb aA s1 σ H1 Q I1 q1
 | false=>exact⟨.bl false,H1,I1,rfl,q1⟩
theorem zbia (ha:PE X a ta):PE X (.UnaryOp .Not a pos) (tNotV ta):=by
 intro aA s σ H Q I h;refine UnaryOp_ (thn (ha aA s σ H _ I h) fun v s1 hq0=>?_);obtain⟨x,H1,I1,r1,q1⟩:=hq0;obtain⟨c,rfl,q1⟩:=q1;cases r1;exact not_of (xeg ⟨.bl (!c),H1,I1,rfl,q1⟩)
noncomputable def tIf (t:TT) (ta tb:TE):TE:=fun σ H Q=>t σ H fun c H1=>if c=true then ta σ H1 Q else tb σ H1 Q
theorem zzo {c:Expr}(hc:PT X c tA)(ha:PE X a ta)(hb:PE X b tb):PE X (.IfExp c a b pos) (tIf tA ta tb):=by
 intro aA s σ H Q I h;refine wpAny_IfExp (thn (hc aA s σ H _ I h) fun d s1 hq0=>?_);obtain⟨H1,I1,q1⟩:=hq0;cases d with
 | true=>exact ha aA s1 σ H1 Q I1 q1
 | false=>exact hb aA s1 σ H1 Q I1 q1
end
noncomputable def SqL (K:Fg) (H:Hp) (a:Addr) (xs:List V):Prop :=
 Rd H a (.lst xs) \/
  ∃(o:Obj) (its:Array Value) (n:Nat), K.lookup a=some o/\o.cls=.type "list"/\o.dict=none/\o.data=.seq its n/\its.size<=sizeLine/\Vals xs its.toList
noncomputable def SqT (K:Fg) (H:Hp) (a:Addr) (xs:List V):Prop :=
 Rd H a (.tup xs) \/
  ∃(o:Obj) (its:Array Value) (n:Nat), K.lookup a=some o/\o.cls=.type "tuple"/\o.data=.seq its n/\its.size<=sizeLine/\Vals xs its.toList
noncomputable def absV:Value->Option V
 | .none=>some .non
 | .bool b=>some (.bl b)
 | .int i _=>some (.int i)
 | .str x _=>some (.str x)
 | .bytes b _=>some (.byt b)
 | .float b _=>some (.flt b)
 | .ref a=>some (.ref a)
 | .type n=>some (.ty n)
 | _=>none
theorem RelV.abs {x:V}{u:Value}(r:RelV x u):absV u=some x:=by
 cases x with
 | non=>cases r;rfl
 | bl _=>cases r;rfl
 | int _=>obtain⟨t,rfl⟩:=r;rfl
 | str _=>obtain⟨t,rfl⟩:=r;rfl
 | byt _=>obtain⟨t,rfl⟩:=r;rfl
 | flt _=>obtain⟨t,rfl⟩:=r;rfl
 | ref _=>cases r;rfl
 | ty _=>cases r;rfl
theorem RelV.inj {x y:V}{u:Value}(r:RelV x u)(q:RelV y u):x=y:=xbw (r.abs.symm.trans q.abs)
theorem Vals.inj:∀{xs ys:List V} {us:List Value},Vals xs us->Vals ys us->xs=ys
 | _,_,_,.nil,.nil=>rfl
 | _,_,_,.cons r t,.cons r' t'=>by rw[r.inj r',Vals.inj t t']
section
variable {X:Cx}{aA:List (Addr×Obj)}{σ:St}{H:Hp}{s:Shared}{a:Addr}{xs ys:List V}
theorem SqL.of {K:Fg}(h:H a=some (.lst xs)):SqL K H a xs:=.inl (.inl h)
theorem SqT.of {K:Fg}(h:H a=some (.tup xs)):SqT K H a xs:=.inl (.inl h)
theorem Inv.list (I:Inv X aA σ H s)(h:SqL X.K H a xs):∃its:List Value,Vals xs its/\PlainL s.heap a its.toArray/\xs.length<=sizeLine:=by
 rcases h with h | ⟨o,its,n,hk,hc,hd,hs,hz,r⟩
 ·obtain⟨z,its,n,r,e⟩:=h.ok I.hok;exact⟨its,r,⟨_,n,e,rfl,rfl,rfl⟩,z⟩
 ·refine⟨its.toList,r,⟨o,n,I.kIn a o hk,hc,hd,by simpa using hs⟩,?_⟩;have e:=r.length;simp only[xcb] at e;lia
theorem Inv.tuple (I:Inv X aA σ H s)(h:SqT X.K H a xs):∃its:List Value,Vals xs its/\IsTup s.heap a its.toArray/\xs.length<=sizeLine:=by
 rcases h with h | ⟨o,its,n,hk,hc,hs,hz,r⟩
 ·obtain⟨z,its,r,p⟩:=h.ok I.hok;exact⟨its,r,p,z⟩
 ·refine⟨its.toList,r,⟨o,I.kIn a o hk,hc,n,by simpa using hs⟩,?_⟩;have e:=r.length;simp only[xcb] at e;lia
theorem Inv.list_inj (I:Inv X aA σ H s)(h:SqL X.K H a xs)(h':SqL X.K H a ys):xs=ys:=by
 obtain⟨its,r,⟨o,n,e,_,_,d⟩,_⟩:=I.list h;obtain⟨its',r',⟨o',n',e',_,_,d'⟩,_⟩:=I.list h';rw[e] at e';cases e'
 rw[d] at d';injection d' with d1 _
 have:its=its':=by simpa using congrArg Array.toList d1
 subst this;exact r.inj r'
theorem Inv.tuple_inj (I:Inv X aA σ H s)(h:SqT X.K H a xs)(h':SqT X.K H a ys):xs=ys:=by
 obtain⟨its,r,⟨o,e,_,n,d⟩,_⟩:=I.tuple h;obtain⟨its',r',⟨o',e',_,n',d'⟩,_⟩:=I.tuple h';rw[e] at e';cases e'
 rw[d] at d';injection d' with d1 _
 have:its=its':=by simpa using congrArg Array.toList d1
 subst this;exact r.inj r'
end
noncomputable abbrev Cx.wish (X:Cx) (E:Value->Shared->Prop):Cx:={X with xe:=E}
noncomputable abbrev Cx.nox (X:Cx):Cx:=X.wish fun _ _=>False
theorem Cx.Ok.wish {X:Cx}(ok:X.Ok)(E:Value->Shared->Prop):(X.wish E).Ok :=
 ⟨ok.mod,ok.kind,ok.glob,ok.blt,ok.above,ok.inj,ok.has,ok.cab,ok.hd,ok.frames,ok.stk,ok.exf,ok.bs,ok.bsz,ok.noex,ok.exfs,ok.funs,ok.frf⟩
theorem Cx.Ok.unwish {X:Cx}{E:Value->Shared->Prop}(ok:(X.wish E).Ok):X.Ok :=
 ⟨ok.mod,ok.kind,ok.glob,ok.blt,ok.above,ok.inj,ok.has,ok.cab,ok.hd,ok.frames,ok.stk,ok.exf,ok.bs,ok.bsz,ok.noex,ok.exfs,ok.funs,ok.frf⟩
section
variable {X:Cx}{aA:List (Addr×Obj)}{σ:St}{H:Hp}{s:Shared}{E:Value->Shared->Prop}
theorem Inv.wish (I:Inv X aA σ H s)(E:Value->Shared->Prop):Inv (X.wish E) aA σ H s:=⟨I.ok.wish E,I.os,I.bare,I.base,I.loc,I.cell,I.free,I.freeC,I.pin,I.hok,I.len,I.hnd⟩
theorem Inv.unwish (I:Inv (X.wish E) aA σ H s):Inv X aA σ H s:=⟨I.ok.unwish,I.os,I.bare,I.base,I.loc,I.cell,I.free,I.freeC,I.pin,I.hok,I.len,I.hnd⟩
theorem SP.unwish {D:Ends}{f:Flow}{s':Shared}(h:SP (X.wish E) aA D f s'):SP X aA D f s':=by
 cases f with
 | next=>obtain⟨σ',H',I,q⟩:=h;exact⟨σ',H',I.unwish,q⟩
 | brk=>obtain⟨σ',H',I,q⟩:=h;exact⟨σ',H',I.unwish,q⟩
 | cont=>obtain⟨σ',H',I,q⟩:=h;exact⟨σ',H',I.unwish,q⟩
 | ret u=>obtain⟨v,σ',H',I,r,q⟩:=h;exact⟨v,σ',H',I.unwish,r,q⟩
theorem PSs.nox {st:List Stmt}{t:TS}(h:PSs X.nox st t):PSs X st t:=fun aA s σ H D I hw =>
 xdd (h aA s σ H D (I.wish _) hw) (fun _ _ q=>q.unwish) fun _ _ z=>False.elim z
end
section
variable {X:Cx}{st:Stmt}{rest:List Stmt}{t u:TS}{e:Expr}{te:TE}{pos:Pos}
noncomputable def tNext:TS:=fun D σ H=>D.nx σ H
noncomputable def tSeq (t u:TS):TS:=fun D σ H=>t {D with nx:=u D} σ H
theorem zbcx:PSs X [] tNext:=fun _ _ σ H _ I h=>xit ⟨σ,H,I,h⟩
theorem zkv (h1:PS X st t)(h2:PSs X rest u):PSs X (st::rest) (tSeq t u):=by
 intro aA s σ H D I h;refine wpAny_execs_cons (thn (h1 aA s σ H {D with nx:=u D} I h) fun f s1 q=>?_);cases f with
 | next =>
  obtain⟨σ',H',I',q⟩:=q;exact h2 aA s1 σ' H' D I' q
 | ret v=>exact q
 | brk=>exact q
 | cont=>exact q
theorem zow (h1:PS X st t):PSs X [st] t:=by
 intro aA s σ H D I h;refine wpAny_execs_cons (thn (h1 aA s σ H D I h) fun f s1 q=>?_);cases f with
 | next=>exact xit q
 | ret v=>exact q
 | brk=>exact q
 | cont=>exact q
theorem Inv.quiet {aA:List (Addr×Obj)}{σ:St}{H:Hp}{s:Shared}(I:Inv X aA σ H s):interactive X.env=false:=by simp[interactive,I.ok.kind]
noncomputable def tDrop (te:TE):TS:=fun D σ H=>te σ H fun _ H1=>D.nx σ H1
theorem zoy (he:PE X e te)(hs:swapsWith e none pos.line X.env=pure false:=by rfl):PS X (.Expr e pos) (tDrop te):=by
 intro aA s σ H D I h;exact wpAny_Expr_any (thn (he aA s σ H _ I h) fun v s1 ⟨x,H1,I1,r1,q1⟩=>⟨σ,H1,I1,q1⟩) I.quiet hs
noncomputable def tRet (te:TE):TS:=fun D σ H=>te σ H D.rt
theorem zbhr (he:PE X e te):PS X (.Return (some e) pos) (tRet te):=by
 intro aA s σ H D I h;exact wpAny_Return_some (thn (he aA s σ H _ I h) fun v s1 ⟨x,H1,I1,r1,q1⟩=>⟨x,σ,H1,I1,r1,q1⟩)
noncomputable def tIfS (c:TT) (t u:TS):TS:=fun D σ H=>c σ H fun b H1=>if b=true then t D σ H1 else u D σ H1
theorem zblj {c:Expr}{a b:List Stmt}{tc:TT}(hc:PT X c tc)(ha:PSs X a t)(hb:PSs X b u):PS X (.If c a b pos) (tIfS tc t u):=by
 intro aA s σ H D I h;refine wpAny_If (thn (hc aA s σ H _ I h) fun d s1 hq0=>?_);obtain⟨H1,I1,q1⟩:=hq0;cases d with
 | true=>exact ha aA s1 σ H1 D I1 q1
 | false=>exact hb aA s1 σ H1 D I1 q1
end
noncomputable abbrev TG:=V->St->Hp->(St->Hp->Prop)->Prop
noncomputable def PG (X:Cx) (target:Expr) (t:TG):Prop :=
 ∀(aA:List (Addr×Obj)) (s:Shared) (σ:St) (H:Hp) (v:V) (u:Value) (Q:St->Hp->Prop),Inv X aA σ H s->RelV v u->t v σ H Q ->
  wpAny (model X.prog X.w) X.A (assign target X.env u) (fun _ s'=>∃σ' H',Inv X aA σ' H' s'/\Q σ' H') X.xe s
noncomputable abbrev TSet:=V->V->V->Hp->(Hp->Prop)->Prop
noncomputable def PSet (X:Cx) (t:TSet):Prop :=
 ∀(aA:List (Addr×Obj)) (s:Shared) (σ:St) (H:Hp) (o i v:V) (ov iv u:Value) (Q:Hp->Prop),Inv X aA σ H s->RelV o ov->RelV i iv->RelV v u->t o i v H Q ->
  wpAny (model X.prog X.w) X.A (setItem ov iv u) (fun _ s'=>∃H',Inv X aA σ H' s'/\Q H') X.xe s
section
variable {X:Cx}{pos:Pos}
noncomputable def gName (i:Nat):TG:=fun v σ H Q=>Q (σ.set i (some v)) H
theorem zbdi {i:Nat}{x:Str}(hN:X.N.Nodup)(hi:X.N[i]?=some x)(hx:Loc X.env.scope x)(hf:X.fn x=true\/X.env.scope.names.lookup x=some .local:=by first | exact .inl rfl | exact .inr rfl | assumption):PG X (.Name x pos) (gName i):=by
 intro aA s σ H v u Q I r h;exact wpAny_assign_Name (zna I hN hi hx r (fun s' I'=>⟨_,H,I',h⟩) hf)
noncomputable def gSub (to ti:TE) (t:TSet):TG:=fun v σ H Q=>to σ H fun o H1=>ti σ H1 fun i H2=>t o i v H2 fun H3=>Q σ H3
theorem zbhw {o i:Expr}{to ti:TE}{t:TSet}(ho:PE X o to)(hi:PE X i ti)(hs:PSet X t)
  (ha:∀v,assign (.Subscript o i pos) X.env v=(do
   let ov ← holding [v] (eval o X.env)
   let iv ← holding [v,ov] (eval i X.env)
   standAt pos
   holding [v,ov,iv] (setItem ov iv v)
   release [v,ov,iv] []):=by intro _;rfl):PG X (.Subscript o i pos) (gSub to ti t):=by
 intro aA s σ H v u Q I r h;rw[ha];refine xba (xdg (thn (ho aA s σ H _ I h) fun ov s1 hq0=>?_));obtain⟨x,H1,I1,r1,q1⟩:=hq0;refine xba (xdg (thn (hi aA s1 σ H1 _ I1 q1) fun iv s2 hq0=>?_));obtain⟨y,H2,I2,r2,q2⟩:=hq0;refine xba (xjp (xba (xdg (thn (hs aA s2 σ H2 x y v ov iv u _ I2 r1 r2 r q2) fun _ s3 hq0=>?_))));obtain⟨H3,I3,q3⟩:=hq0;exact wpAny_release ⟨σ,H3,I3,q3⟩
noncomputable def tAsg (te:TE) (g:TG):TS:=fun D σ H=>te σ H fun x H1=>g x σ H1 D.nx
theorem zbht {tg e:Expr}{te:TE}{g:TG}(he:PE X e te)(hg:PG X tg g)(hs:swapsWithSole [tg] e pos.line X.env=pure false:=by rfl)(hw:swappedStores [tg] e X.env=pure none:=by rfl)
  (h1:(assignEach [tg] X.env).map (·.2)=[assign tg X.env]:=by rfl):PS X (.Assign [tg] e pos) (tAsg te g):=by
 intro aA s σ H D I h;refine wpAny_Assign_stores (thn (he aA s σ H _ I h) fun v s1 hq0=>?_) hs hw;obtain⟨x,H1,I1,r1,q1⟩:=hq0;rw[h1];exact thn (hg aA s1 σ H1 x v _ I1 r1 q1) fun _ s2 q=>q
theorem zbhq {i:Nat}{x:Str}{e:Expr}{te:TE}{pos':Pos}(hN:X.N.Nodup)(hi:X.N[i]?=some x)(hx:Loc X.env.scope x)(he:PE X e te)(hs:swapsWith e (some (.Name x pos')) pos.line X.env=pure false:=by rfl)(hf:X.fn x=true\/X.env.scope.names.lookup x=some .local:=by first | exact .inl rfl | exact .inr rfl | assumption) :
  PS X (.Assign [.Name x pos'] e pos) (tAsg te (gName i)):=by
 intro aA s σ H D I h;refine wpAny_Assign_Name (thn (he aA s σ H _ I h) fun v s1 hq0=>?_) hs;obtain⟨y,H1,I1,r1,q1⟩:=hq0;exact zna I1 hN hi hx r1 (fun s2 I2=>⟨_,H1,I2,q1⟩) hf
noncomputable def tWhile (c:TT) (tb:TS):TS:=fun D σ H=>∃W:Nat->St->Hp->Prop,(∃m,W m σ H)/\∀m σ H,W m σ H ->
 c σ H fun b H1=>if b=true then ∃N:St->Hp->Prop,(∀σ' H',N σ' H'->∃m',m' < m/\W m' σ' H')/\tb {D with nx:=N,ct:=N,bk:=D.nx} σ H1 else D.nx σ H1
theorem zzf {c:Expr}{body:List Stmt}{tc:TT}{tb:TS}(hp:PassesOwn (model X.prog X.w) X.A X.env X.xe)(hc:PT X c tc)(hb:PSs X body tb):PS X (.While c body [] pos) (tWhile tc tb):=by
 intro aA s σ H D I h;obtain⟨W,⟨m0,w0⟩,turn⟩:=h;refine wpAny_While (codeAny_whileLoop (fun n s'=>∃σ' H',Inv X aA σ' H' s'/\W n σ' H') ?_ m0 ⟨σ,H,I,w0⟩);rintro n s1 ⟨σ1,H1,I1,w1⟩;refine xgm hp (thn (hc aA s1 σ1 H1 _ I1 (turn n σ1 H1 w1)) fun b s2 hq0=>?_);obtain⟨H2,I2,q2⟩:=hq0;cases b with
 | true =>
  obtain⟨N,hN,q2⟩:=q2;rw[if_pos rfl];refine xgm hp (thn (hb aA s2 σ1 H2 _ I2 q2) fun f s3 q3=>?_);cases f with
  | next =>
   obtain⟨σ3,H3,I3,n3⟩:=q3;obtain⟨m',hm,w3⟩:=hN σ3 H3 n3;exact⟨m',hm,σ3,H3,I3,w3⟩
  | cont =>
   obtain⟨σ3,H3,I3,n3⟩:=q3;obtain⟨m',hm,w3⟩:=hN σ3 H3 n3;exact⟨m',hm,σ3,H3,I3,w3⟩
  | brk=>exact q3
  | ret v=>exact q3
 | false =>
  rw[if_neg xfh];exact xit ⟨σ1,H2,I2,q2⟩
end
structure It where
 go:Nat->Hp->Prop
 yld:Nat->Hp->V->Hp->Prop
 stop:Nat->Hp->Prop
noncomputable def FpOk (X:Cx) (aA:List (Addr×Obj)) (H:Hp) (b:Addr):Prop :=
 H b=none/\b≠X.env.locals/\b∉X.fs/\(b∈X.ex\/X.s₀.heap.objs.size<=b)/\(∀x c,X.env.cells.lookup x=some c->c≠b)/\∀p∈X.pn++aA,p.1≠b
theorem Inv.fpOk {X:Cx}{aA:List (Addr×Obj)}{σ:St}{H H':Hp}{s:Shared}{b:Addr}(I:Inv X aA σ H s)(hb:s.heap.objs.size<=b)(hn:H' b=none):FpOk X aA H' b:=by
 refine⟨hn,xjy (xbg I.lt hb),I.nofs hb,.inr (xbb I.sz hb),fun x c e z=>?_,fun p hp z=>?_⟩
 ·obtain⟨v,q⟩:=I.cell x c e;exact absurd (xbg q.lt (by rw[z];exact hb)) (xfa _)
 ·exact absurd (xbg (xbl (I.pin p hp).1) (by rw[z];exact hb)) (xfa _)
structure Turn (P:Program) (w:World) (K:Fg) (tg:Expr) (J:It) (fp:List Addr) (it:Addr) (tn:Nat->Heap->Prop):Prop where
 mem:it∈fp
 obj:∀i h,tn i h->∀b∈fp,∃o,h.get? b=some o/\∀v,o.data≠.cell v
 keep:∀i h h',tn i h->(∀b∈fp,∀o,h.get? b=some o->h'.get? b=some o)->tn i h'
 item:∀(X:Cx),X.prog=P->X.w=w->X.K=K->X.calm=true->∀(i:Nat) (aA:List (Addr×Obj)) (s:Shared) (σ:St) (H:Hp) (E:Value->Shared->Prop),Inv X aA σ H s->(∀b∈fp,FpOk X aA H b)->tn i s.heap->J.go i H ->
  wpAny (model P w) X.A (pyNext (.ref it)) (fun r s1=>∃u,r=some u /\
   wpAny (model P w) X.A (letOwnedTupleGo tg (.ref it) u) (fun _ s2=>∃x H',Inv X aA σ H' s2/\RelV x u/\J.yld i H x H'/\tn (i+1) s2.heap/\∀b∈fp,H' b=none) E s1) E s
 done:∀(X:Cx),X.prog=P->X.w=w->X.K=K->X.calm=true->∀(i:Nat) (aA:List (Addr×Obj)) (s:Shared) (σ:St) (H:Hp) (E:Value->Shared->Prop),Inv X aA σ H s->(∀b∈fp,FpOk X aA H b)->tn i s.heap->J.stop i H ->
  wpAny (model P w) X.A (pyNext (.ref it)) (fun r s1=>r=none/\Inv X aA σ H s1) E s
 self:∀(A:Around) (i:Nat) (s:Shared) (Q:Value->Shared->Prop) (E:Value->Shared->Prop),tn i s.heap->Q (.ref it) s->wpAny (model P w) A (pyIter (.ref it)) Q E s
noncomputable abbrev TI:=St->Hp->(It->Hp->Prop)->Prop
noncomputable def PIE (X:Cx) (aA:List (Addr×Obj)) (σ:St) (tg:Expr) (R:It->Hp->Prop) (itv:Value) (s2:Shared):Prop :=
 ∃(it:Addr) (fp:List Addr) (tn:Nat->Heap->Prop) (J:It) (H':Hp),itv=.ref it/\Inv X aA σ H' s2/\Turn X.prog X.w X.K tg J fp it tn/\tn 0 s2.heap/\(∀b∈fp,FpOk X aA H' b)/\R J H'
noncomputable def PI (X:Cx) (tg iter:Expr) (wi:TI):Prop :=
 ∀(aA:List (Addr×Obj)) (s:Shared) (σ:St) (H:Hp) (R:It->Hp->Prop),Inv X aA σ H s->wi σ H R ->
  wpAny (model X.prog X.w) X.A (eval iter X.env) (fun v s1=>wpAny (model X.prog X.w) X.A (pyIter v) (PIE X aA σ tg R) X.xe s1) X.xe s
theorem zbgu {M:Model}{A:Around}{E:Value->Shared->Prop}{s:Shared}{tg:Expr}{it:Addr}{u:Value}{o:Obj}{n:String}{vs:Array Value}{Q:Unit->Shared->Prop}(ho:s.heap.get? it=some o)(hc:o.cls=.type n)(hd:o.data=.fields vs)
    (hn:["enumerate", "zip", "dict_itemiterator", "dict_reverseitemiterator", "odict_iterator", "itertools.zip_longest", "itertools.pairwise"].contains n=false)(hQ:Q () s):wpAny M A (letOwnedTupleGo tg (.ref it) u) Q E s:=by
  unfold letOwnedTupleGo;cases tg <;> first
    | exact xbd hQ
    | (cases u <;> first
        | exact xbd hQ
        | (refine xba (wpAny_load ho ?_)
           rw[hc, hd];show wpAny M A (if(["enumerate", "zip", "dict_itemiterator", "dict_reverseitemiterator", "odict_iterator", "itertools.zip_longest", "itertools.pairwise"].contains n&&vs[0]?==some (rawInt _))=true then _ else _) Q E s
           rw[if_neg (by intro h; rw[hn, Bool.false_and] at h; cases h)]
           exact xbd hQ))
noncomputable def Itl (K:Fg) (a:Addr):It :=
 ⟨fun i H=>∃xs x,SqL K H a xs/\xs[i]?=some x,fun i H x H'=>H'=H/\∀xs,SqL K H a xs->xs[i]?=some x,fun i H=>∃xs,SqL K H a xs/\xs.length<=i⟩
noncomputable def Itt (K:Fg) (a:Addr):It :=
 ⟨fun i H=>∃xs x,SqT K H a xs/\xs[i]?=some x,fun i H x H'=>H'=H/\∀xs,SqT K H a xs->xs[i]?=some x,fun i H=>∃xs,SqT K H a xs/\xs.length<=i⟩
noncomputable def Itr (lo:Int) (n:Nat):It:=⟨fun i _=>i < n,fun i H x H'=>H'=H/\x=.int (lo+i),fun i _=>n<=i⟩
theorem zus {P:Program}{w:World}{K:Fg}{tg:Expr}(a it:Addr):Turn P w K tg (Itl K a) [it] it (fun i h=>h.IsListIter it a i) where
 mem:=by simp
 obj:=fun i h st b hb=>by
  have e:b=it:=by simpa using hb
  subst e;obtain⟨o,e,c,d⟩:=st;exact⟨o,e,fun v z=>by rw[d] at z;cases z⟩
 keep:=fun i h h' st k=>st.at fun o e=>k it (by simp) o e
 item:=by
  intro X hP hw hK hc i aA s σ H E I hf st hg;subst hP hw hK;obtain⟨xs,x,hq,hx⟩:=hg;obtain⟨its,rv,p,hz⟩:=I.list hq;obtain⟨u,hu,ru⟩:=rv.get hx;obtain⟨f0,f1,f2,f3,f4,f5⟩:=hf it (by simp);refine wpAny_pyNext_list_item st p.isList (x:=u) (by simpa using hu) fun h' st' sb=>?_
  have I1:Inv X aA σ H {s with heap:=h'}:=I.turned (t':=s.toks) (fun b o hb e=>(sb.2 b hb).trans e) f0 f1 f3 f4 f5;obtain⟨o,e,c,d⟩:=id st';exact⟨u,rfl,zbgu (s:={s with heap:=h'}) e c d (by decide) ⟨x,H,I1,ru,⟨rfl,fun ys hy=>by rw[I.list_inj hy hq];exact hx⟩,st',fun b hb=>(hf b hb).1⟩⟩
 done:=by
  intro X hP hw hK hc i aA s σ H E I hf st hg;subst hP hw hK;obtain⟨xs,hq,hx⟩:=hg;obtain⟨its,rv,p,hz⟩:=I.list hq;obtain⟨f0,f1,f2,f3,f4,f5⟩:=hf it (by simp);have hl:=rv.length;exact wpAny_pyNext_list_end (I.ok.hd hc) st p.isList (by simp;lia) fun h' eb=>⟨rfl,I.turned (t':=s.toks) (fun b o hb e=>eb b o hb e) f0 f1 f3 f4 f5⟩
 self:=fun _ _ _ _ _ st h=>wpAny_pyIter_listiter st h
theorem zrn {P:Program}{w:World}{K:Fg}{tg:Expr}(a it:Addr):Turn P w K tg (Itt K a) [it] it (fun i h=>h.IsTupleIter it a i) where
 mem:=by simp
 obj:=fun i h st b hb=>by
  have e:b=it:=by simpa using hb
  subst e;obtain⟨o,e,c,d⟩:=st;exact⟨o,e,fun v z=>by rw[d] at z;cases z⟩
 keep:=fun i h h' st k=>st.at fun o e=>k it (by simp) o e
 item:=by
  intro X hP hw hK hc i aA s σ H E I hf st hg;subst hP hw hK;obtain⟨xs,x,hq,hx⟩:=hg;obtain⟨its,rv,p,hz⟩:=I.tuple hq;obtain⟨u,hu,ru⟩:=rv.get hx;obtain⟨f0,f1,f2,f3,f4,f5⟩:=hf it (by simp);refine wpAny_pyNext_tuple_item st (show s.heap.IsTuple a its.toArray from p) (x:=u) (by simpa using hu) fun h' st' sb=>?_
  have I1:Inv X aA σ H {s with heap:=h'}:=I.turned (t':=s.toks) (fun b o hb e=>(sb.2 b hb).trans e) f0 f1 f3 f4 f5;obtain⟨o,e,c,d⟩:=id st';exact⟨u,rfl,zbgu (s:={s with heap:=h'}) e c d (by decide) ⟨x,H,I1,ru,⟨rfl,fun ys hy=>by rw[I.tuple_inj hy hq];exact hx⟩,st',fun b hb=>(hf b hb).1⟩⟩
 done:=by
  intro X hP hw hK hc i aA s σ H E I hf st hg;subst hP hw hK;obtain⟨xs,hq,hx⟩:=hg;obtain⟨its,rv,p,hz⟩:=I.tuple hq;obtain⟨f0,f1,f2,f3,f4,f5⟩:=hf it (by simp);have hl:=rv.length;exact wpAny_pyNext_tuple_end (I.ok.hd hc) st (show s.heap.IsTuple a its.toArray from p) (by simp;lia) fun h' eb=>⟨rfl,I.turned (t':=s.toks) (fun b o hb e=>eb b o hb e) f0 f1 f3 f4 f5⟩
 self:=fun _ _ _ _ _ st h=>wpAny_pyIter_tupleiter st h
theorem zro {P:Program}{w:World}{K:Fg}{tg:Expr}(it:Addr)(lo:Int)(n:Nat):Turn P w K tg (Itr lo n) [it] it (fun i h=>IsRangeIter h it (lo+(i:Nat) * 1) ((n:Int) - (i:Nat)) 1) where
 mem:=by simp
 obj:=fun i h st b hb=>by
  have e:b=it:=by simpa using hb
  subst e
  exact⟨_,st,fun v z=>by
   have z':Data.fields _=Data.cell v:=z
   cases z'⟩
 keep:=fun i h h' st k=>k it (by simp) _ st
 item:=by
  intro X hP hw hK hc i aA s σ H E I hf st hg;subst hP hw hK;obtain⟨f0,f1,f2,f3,f4,f5⟩:=hf it (by simp);have W:=Walks.range (prog:=X.prog) (w:=X.w) (I.ok.hd hc) it lo 1 n;refine W.item i s _ _ hg st fun v h' tk hv st' kk=>?_
  obtain⟨t,rfl⟩:=hv;have I1:Inv X aA σ H {s with heap:=h',toks:=tk}:=I.turned (fun b o hb e=>kk b o (by simpa using hb) e) f0 f1 f3 f4 f5;refine⟨_, rfl, zbgu (s:={ s with heap:=h', toks:=tk }) (n:="range_iterator") st' rfl rfl (by decide) ⟨.int (lo + i), H, I1,⟨t, ?_⟩,⟨rfl, rfl⟩, st', fun b hb=>(hf b hb).1⟩⟩
  rw[Int.mul_one]
 done:=by
  intro X hP hw hK hc i aA s σ H E I hf st hg;subst hP hw hK;obtain⟨f0,f1,f2,f3,f4,f5⟩:=hf it (by simp);exact wpAny_pyNext_range_end (I.ok.hd hc) st (by have:n<=i:=hg;lia) fun h' eb=>⟨rfl,I.turned (t':=s.toks) (fun b o hb e=>eb b o hb e) f0 f1 f3 f4 f5⟩
 self:=fun _ _ _ _ _ st h=>wpAny_pyIter_rangeiter st h
section
variable {X:Cx}{tg:Expr}
noncomputable def iList (K:Fg) (tl:TE):TI:=fun σ H R=>tl σ H fun x H1=>∃a,x=.ref a/\(∃xs,SqL K H1 a xs)/\R (Itl K a) H1
noncomputable def iTup (K:Fg) (tl:TE):TI:=fun σ H R=>tl σ H fun x H1=>∃a,x=.ref a/\(∃xs,SqT K H1 a xs)/\R (Itt K a) H1
theorem zbdg {l:Expr}{tl:TE}(hl:PE X l tl):PI X tg l (iList X.K tl):=by
 intro aA s σ H R I h;refine thn (hl aA s σ H _ I h) fun v s1 hq0=>?_
 obtain⟨x,H1,I1,r1,q1⟩:=hq0;obtain⟨a,e,⟨xs,hq⟩,q⟩:=q1;subst e;cases r1;obtain⟨its,rv,p,hz⟩:=I1.list hq;refine xjk p.isList ?_;refine⟨s1.heap.objs.size,[s1.heap.objs.size],_,_,H1,rfl,I1.kept (t':=s1.toks) fun b o e=>xbc _ e,zus a _,⟨_,xbv _ rfl,rfl,rfl⟩,fun b hb=>?_,q⟩;have e:b=s1.heap.objs.size:=by simpa using hb
 subst e;exact I1.fpOk (xbf _) (I1.hok.fresh (xbf _))
theorem zbhu {l:Expr}{tl:TE}(hl:PE X l tl):PI X tg l (iTup X.K tl):=by
 intro aA s σ H R I h;refine thn (hl aA s σ H _ I h) fun v s1 hq0=>?_
 obtain⟨x,H1,I1,r1,q1⟩:=hq0;obtain⟨a,e,⟨xs,hq⟩,q⟩:=q1;subst e;cases r1;obtain⟨its,rv,p,hz⟩:=I1.tuple hq;refine wpAny_pyIter_tuple (show s1.heap.IsTuple a its.toArray from p) ?_;refine⟨s1.heap.objs.size,[s1.heap.objs.size],_,_,H1,rfl,I1.kept (t':=s1.toks) fun b o e=>xbc _ e,zrn a _,⟨_,xbv _ rfl,rfl,rfl⟩,fun b hb=>?_,q⟩;have e:b=s1.heap.objs.size:=by simpa using hb
 subst e;exact I1.fpOk (xbf _) (I1.hok.fresh (xbf _))
theorem zza {aA:List (Addr×Obj)}{σ:St}{H:Hp}{s:Shared}{R:It->Hp->Prop}{E:Value->Shared->Prop}{lo hi:Int}{t u v:Tok}{tk:Nat}(I:Inv X aA σ H s)(h1:-(2 ^ 62)<=lo)(h2:lo < 2 ^ 62)(h3:-(2 ^ 62)<=hi)(h4:hi < 2 ^ 62)
  (q:R (Itr lo (hi - lo).toNat) H):wpAny (model X.prog X.w) X.A (pyIter (.ref s.heap.objs.size)) (PIE X aA σ tg R) E { s with heap:=s.heap.push { cls:=.type "range", data:=.fields #[.int lo t, .int hi u, .int 1 v] }, toks:=tk }:=by
 refine wpAny_pyIter_range (IsRange.new ..) (small_one h1 h2 h3 h4) ?_;have I1:Inv X aA σ H { s with heap:=s.heap.push { cls:=.type "range", data:=.fields #[.int lo t, .int hi u, .int 1 v] }, toks:=tk }:=I.kept fun b o e=>xbc _ e
 refine⟨(s.heap.push { cls:=.type "range", data:=.fields #[.int lo t, .int hi u, .int 1 v] }).objs.size,[(s.heap.push { cls:=.type "range", data:=.fields #[.int lo t, .int hi u, .int 1 v] }).objs.size], _, _, H, rfl,
  I1.kept (t':=tk) fun b o e=>xbc _ e,zro _ lo (hi - lo).toNat,?_,fun b hb=>?_,q⟩
 ·have e1:lo+((0:Nat):Int) * 1=lo:=by simp
  have e2:(((hi - lo).toNat:Nat):Int) - ((0:Nat):Int)=Builtin.Range.rangeSize lo hi 1:=by rw[rangeSize_one];split<;>lia
  show IsRangeIter _ _ (lo+((0:Nat):Int) * 1) ((((hi - lo).toNat:Nat):Int) - ((0:Nat):Int)) 1;rw[e1,e2];exact xbv _ rfl
 ·have e:b=(s.heap.push { cls:=.type "range", data:=.fields #[.int lo t, .int hi u, .int 1 v] }).objs.size:=by simpa using hb
  subst e;exact I1.fpOk (xbf _) (I1.hok.fresh (xbf _))
noncomputable def iRng1 (ta:TA):TI:=fun σ H R=>ta σ H fun vs H1=>∃j:Int,vs=[.int j]/\-(2 ^ 62)<=j/\j < 2 ^ 62/\R (Itr 0 j.toNat) H1
theorem zvg {a:Expr}{ta:TA}{p pos:Pos}(hg:Gl X "range")(hm:X.mg "range"=none)(ha:PA X [a] ta)(hs:starEach [a] X.env=[(false, eval a X.env)]:=by rfl):PI X tg (.Call (.Name "range" p) [a] [] pos) (iRng1 ta):=by
 intro aA s σ H R I h;refine Call_ (zvx I hg hm boot_range (xkj (thn (ha pos aA s σ H _ I h) fun us s1 hq0=>?_) hs rfl));obtain⟨vs,H1,I1,r1,q1⟩:=hq0;obtain⟨j,e,q1,q2,q⟩:=q1;subst e;cases r1 with
 | cons r rr =>
  cases rr;obtain⟨t,rfl⟩:=r;exact call_range_1 (zza I1 (by lia) (by lia) q1 q2 (by simpa using q))
noncomputable def tFor (wi:TI) (g:TG) (tb:TS):TS:=fun D σ H=>wi σ H fun J H1=>∃W:Nat->Nat->St->Hp->Prop,(∃m,W 0 m σ H1)/\∀i m σ H,W i m σ H ->
 (J.stop i H/\D.nx σ H)\/(J.go i H/\∃N:St->Hp->Prop,(∀σ' H',N σ' H'->∃m',m' < m/\W (i+1) m' σ' H')/\∀x H',J.yld i H x H'->g x σ H' fun σ2 H2=>tb {D with nx:=N,ct:=N,bk:=D.nx} σ2 H2)
noncomputable def pinsAt (fp:List Addr) (h:Heap):List (Addr×Obj):=fp.filterMap fun b=>(h.get? b).map fun o=>(b,o)
theorem zfy {fp:List Addr}{h:Heap}{b:Addr}{o:Obj}(hb:b∈fp)(e:h.get? b=some o):(b,o)∈pinsAt fp h:=List.mem_filterMap.mpr ⟨b,hb,by rw[e];rfl⟩
theorem zvl {fp:List Addr}{h:Heap}{p:Addr×Obj}(hp:p∈pinsAt fp h):p.1∈fp/\h.get? p.1=some p.2:=by
 obtain⟨b,hb,e⟩:=List.mem_filterMap.mp hp;cases q:h.get? b with
 | none=>rw[q] at e;cases e
 | some o =>
  rw[q] at e;have e':(b,o)=p:=xbw e;subst e';exact⟨hb,q⟩
theorem Inv.pinned {aA:List (Addr×Obj)}{σ:St}{H:Hp}{s:Shared}{fp:List Addr}(I:Inv X aA σ H s)(hf:∀b∈fp,FpOk X aA H b)(ho:∀b∈fp,∃o,s.heap.get? b=some o/\∀v,o.data≠.cell v):Inv X (aA++pinsAt fp s.heap) σ H s :=
 I.pins_of fun p hp=>(xby.mp hp).elim (fun z=>I.pin p (xda _ z)) fun z=>by
  obtain⟨hb,e⟩:=zvl z;obtain⟨f0,f1,f2,_⟩:=hf p.1 hb;obtain⟨o,e',d⟩:=ho p.1 hb;rw[e] at e';cases e'
  exact⟨e,f0,f1,f2,d⟩
theorem Inv.unpinned {aA pl:List (Addr×Obj)}{σ:St}{H:Hp}{s:Shared}(I:Inv X (aA++pl) σ H s):Inv X aA σ H s:=I.pins_of fun p hp=>I.pin p (xda _ (xgr _ hp))
theorem zbhs {iter:Expr}{body:List Stmt}{wi:TI}{g:TG}{tb:TS}{pos:Pos}(hp:PassesOwn (model X.prog X.w) X.A X.env X.xe)(hc:X.calm=true)(hi:PI X tg iter wi)(hg:PG X tg g)(hb:PSs X body tb)
  (hs:∀x,foldedSetIterable iter X.env x=pure x:=by intro _;rfl):PS X (.For tg iter body [] pos) (tFor wi g tb):=by
 intro aA s σ H D I h;refine wpAny_For (thn (hi aA s σ H _ I h) fun v s1 h1=>thn h1 fun itv s2 h2=>?_) hs;obtain⟨it,fp,tn,J,H2,e,I2,T,st2,f2,W,⟨m0,w0⟩,turn⟩:=h2;subst e;have stat:∀{H':Hp},(∀b∈fp,H' b=none)->∀b∈fp,FpOk X aA H' b:=fun hn b hb=>⟨hn b hb,(f2 b hb).2⟩
 refine codeAny_forLoop_any (fun n s'=>∃i σ' H',Inv X aA σ' H' s'/\tn i s'.heap/\(∀b∈fp,H' b=none)/\W i n σ' H') ?_ m0 ⟨0,σ,H2,I2,st2,fun b hb=>(f2 b hb).1,w0⟩;rintro n s3 ⟨i,σ3,H3,I3,st3,fr3,w3⟩;rcases turn i n σ3 H3 w3 with⟨stop,qn⟩ | ⟨go,N,hN,step⟩
 ·refine xgm hp (thn (T.done X rfl rfl rfl hc i aA s3 σ3 H3 X.xe I3 (stat fr3) st3 stop) fun r s4 hq0=>?_);obtain⟨hr,I4⟩:=hq0;subst hr;exact xit ⟨σ3,H3,I4,qn⟩
 ·refine xgm hp (thn (T.item X rfl rfl rfl hc i aA s3 σ3 H3 X.xe I3 (stat fr3) st3 go) fun r s4 hq0=>?_);obtain⟨u,hr,h4⟩:=hq0;subst hr;refine xgm hp (thn h4 fun _ s5 hq0=>?_);obtain⟨x,H5,I5,r5,y5,st5,fr5⟩:=hq0;have I5':=I5.pinned (stat fr5) (T.obj _ _ st5);refine xgm hp (thn (hg _ s5 σ3 H5 x u _ I5' r5 (step x H5 y5)) fun _ s6 hq0=>?_);obtain⟨σ6,H6,I6,q6⟩:=hq0;refine xgm hp (thn (hb _ s6 σ6 H6 _ I6 q6) fun f s7 q7=>?_);have again:∀{σ7:St} {H7:Hp},Inv X (aA++pinsAt fp s5.heap) σ7 H7 s7->N σ7 H7->∃m,m < n/\∃i σ' H',Inv X aA σ' H' s7/\tn i s7.heap/\(∀b∈fp,H' b=none)/\W i m σ' H':=fun {σ7 H7} I7 n7=>by
   obtain⟨m',hm,w7⟩:=hN σ7 H7 n7;refine⟨m',hm,i+1,σ7,H7,I7.unpinned,T.keep _ _ _ st5 fun b hb o e=>(I7.pin (b,o) (xda _ (xda _ (zfy hb e)))).1,fun b hb=>?_,w7⟩;obtain⟨o,e,d⟩:=T.obj _ _ st5 b hb;exact(I7.pin (b,o) (xda _ (xda _ (zfy hb e)))).2.1
  cases f with
  | next=>obtain⟨σ7,H7,I7,n7⟩:=q7;exact again I7 n7
  | cont=>obtain⟨σ7,H7,I7,n7⟩:=q7;exact again I7 n7
  | brk=>obtain⟨σ7,H7,I7,q7⟩:=q7;exact⟨σ7,H7,I7.unpinned,q7⟩
  | ret v=>obtain⟨x7,σ7,H7,I7,r7,q7⟩:=q7;exact⟨x7,σ7,H7,I7.unpinned,r7,q7⟩
end
noncomputable abbrev R2:=V->V->Hp->VK->Prop
noncomputable def OpR (X:Cx) (f:Value->Value->Sem Value) (r:R2):Prop :=
 ∀(aA:List (Addr×Obj)) (s:Shared) (σ:St) (H:Hp) (x y:V) (v u:Value) (Q:VK),Inv X aA σ H s->RelV x v->RelV y u->r x y H Q ->
  wpAny (model X.prog X.w) X.A (f v u) (EP X aA σ Q) X.xe s
noncomputable def UnR (X:Cx) (f:Value->Sem Value) (r:V->Hp->VK->Prop):Prop :=
 ∀(aA:List (Addr×Obj)) (s:Shared) (σ:St) (H:Hp) (x:V) (v:Value) (Q:VK),Inv X aA σ H s->RelV x v->r x H Q ->
  wpAny (model X.prog X.w) X.A (f v) (EP X aA σ Q) X.xe s
noncomputable def CallR (X:Cx) (f:Value) (r:List V->Hp->VK->Prop):Prop :=
 ∀(aA:List (Addr×Obj)) (s:Shared) (σ:St) (H:Hp) (xs:List V) (us:List Value) (Q:VK),Inv X aA σ H s->Vals xs us->r xs H Q ->
  wpAny (model X.prog X.w) X.A (call f us) (EP X aA σ Q) X.xe s
noncomputable def TruR (X:Cx) (r:V->Hp->(Bool->Hp->Prop)->Prop):Prop :=
 ∀(aA:List (Addr×Obj)) (s:Shared) (σ:St) (H:Hp) (x:V) (v:Value) (Q:Bool->Hp->Prop),Inv X aA σ H s->RelV x v->r x H Q ->
  wpAny (model X.prog X.w) X.A (truthy v) (TP X aA σ Q) X.xe s
noncomputable def tOp (r:R2) (ta tb:TE):TE:=fun σ H Q=>ta σ H fun x H1=>tb σ H1 fun y H2=>r x y H2 Q
noncomputable def tUn (r:V->Hp->VK->Prop) (ta:TE):TE:=fun σ H Q=>ta σ H fun x H1=>r x H1 Q
noncomputable def rI (C:Int->Int->Prop) (g:Int->Int->V):R2:=fun x y H Q=>∃i j,x=.int i/\y=.int j/\C i j/\Q (g i j) H
noncomputable def rI0 (g:Int->Int->V):R2:=fun x y H Q=>∃i j,x=.int i/\y=.int j/\Q (g i j) H
noncomputable def rU (g:Int->V):V->Hp->VK->Prop:=fun x H Q=>∃i,x=.int i/\Q (g i) H
section
variable {X:Cx}{a b c:Expr}{ta tb tc:TE}{pos:Pos}
theorem binT (ha:PE X a ta)(hb:PE X b tb){aA:List (Addr×Obj)}{s:Shared}{σ:St}{H:Hp}{R:V->V->Hp->Prop}(I:Inv X aA σ H s)
  (h:ta σ H fun x H1=>tb σ H1 fun y H2=>R x y H2){Q:Value->Shared->Prop}{f:Value->Value->Sem Value}
  (hf:∀v u s2 x y H2,Inv X aA σ H2 s2->RelV x v->RelV y u->R x y H2->wpAny (model X.prog X.w) X.A (f v u) Q X.xe s2) :
  wpAny (model X.prog X.w) X.A (eval a X.env) (fun v s₁=>wpAny (model X.prog X.w) X.A (eval b X.env) (fun u s₂=>wpAny (model X.prog X.w) X.A (f v u) Q X.xe s₂) X.xe s₁) X.xe s:=by
 refine thn (ha aA s σ H _ I h) fun v s1 hq0=>?_
 obtain⟨x,H1,I1,r1,q1⟩:=hq0;refine thn (hb aA s1 σ H1 _ I1 q1) fun u s2 hq0=>?_
 obtain⟨y,H2,I2,r2,q2⟩:=hq0;exact hf v u s2 x y H2 I2 r1 r2 q2
theorem zbmd {op:Operator}{r:R2}(ho:OpR X (binaryOp op) r)(ha:PE X a ta)(hb:PE X b tb):PE X (.BinOp a op b pos) (tOp r ta tb):=by
 intro aA s σ H Q I h;exact wpAny_BinOp (binT ha hb I h fun v u s2 x y H2 I2 rx ry q=>ho aA s2 σ H2 x y v u Q I2 rx ry q)
theorem zbmc {op:UnaryOp}{r:V->Hp->VK->Prop}(ho:UnR X (unaryOp op) r)(ha:PE X a ta):PE X (.UnaryOp op a pos) (tUn r ta):=by
 intro aA s σ H Q I h;exact UnaryOp_ (thn (ha aA s σ H _ I h) fun v s1 ⟨x,H1,I1,r1,q1⟩=>ho aA s1 σ H1 x v Q I1 r1 q1)
theorem opI {f:Value->Value->Sem Value}{C:Int->Int->Prop}{g:Int->Int->Int}
  (rule:∀(i j:Int) (t u:Tok) (s:Shared) (Q:Value->Shared->Prop) (E:Value->Shared->Prop),C i j->Q (.int (g i j) s.toks) {s with toks:=s.toks+1}->wpAny (model X.prog X.w) X.A (f (.int i t) (.int j u)) Q E s) :
  OpR X f (rI C fun i j=>.int (g i j)):=by
 intro aA s σ H x y v u Q I rx ry h;obtain⟨i,j,rfl,rfl,hc,q⟩:=h;obtain⟨t,rfl⟩:=rx;obtain⟨t',rfl⟩:=ry;exact rule i j t t' s _ _ hc ⟨.int (g i j),H,I.tok _,⟨_,rfl⟩,q⟩
theorem opI0 {f:Value->Value->Sem Value}{g:Int->Int->Int}
  (rule:∀(i j:Int) (t u:Tok) (s:Shared) (Q:Value->Shared->Prop) (E:Value->Shared->Prop),Q (.int (g i j) s.toks) {s with toks:=s.toks+1}->wpAny (model X.prog X.w) X.A (f (.int i t) (.int j u)) Q E s) :
  OpR X f (rI0 fun i j=>.int (g i j)):=by
 intro aA s σ H x y v u Q I rx ry h;obtain⟨i,j,rfl,rfl,q⟩:=h;obtain⟨t,rfl⟩:=rx;obtain⟨t',rfl⟩:=ry;exact rule i j t t' s _ _ ⟨.int (g i j),H,I.tok _,⟨_,rfl⟩,q⟩
theorem opB0 {f:Value->Value->Sem Value}{g:Int->Int->Bool}
  (rule:∀(i j:Int) (t u:Tok) (s:Shared) (Q:Value->Shared->Prop) (E:Value->Shared->Prop),Q (.bool (g i j)) s->wpAny (model X.prog X.w) X.A (f (.int i t) (.int j u)) Q E s) :
  OpR X f (rI0 fun i j=>.bl (g i j)):=by
 intro aA s σ H x y v u Q I rx ry h;obtain⟨i,j,rfl,rfl,q⟩:=h;obtain⟨t,rfl⟩:=rx;obtain⟨t',rfl⟩:=ry;exact rule i j t t' s _ _ ⟨.bl (g i j),H,I,rfl,q⟩
noncomputable def CPow (i j:Int):Prop:=0<=j/\j<=1000000/\i.natAbs < 2 ^ 64
noncomputable def CMul (i j:Int):Prop:=(-(2 ^ 64) < i/\i < 2 ^ 64)\/(-(2 ^ 64) < j/\j < 2 ^ 64)
theorem CMul.ok {i j:Int}(h:CMul i j):IntMulOk i j:=by
 rcases h with⟨h1,h2⟩ | ⟨h1,h2⟩
 ·exact .of_left (intBits_le_64 h1 h2)
 ·exact .of_right (intBits_le_64 h1 h2)
theorem zbim:OpR X (binaryOp .Add) (rI0 fun i j=>.int (i+j)):=opI0 fun _ _ _ _ _ _ _ q=>add_int q
theorem zds:OpR X (binaryOp .Sub) (rI0 fun i j=>.int (i - j)):=opI0 fun _ _ _ _ _ _ _ q=>sub_int q
theorem zhg:OpR X (binaryOp .Mult) (rI CMul fun i j=>.int (i * j)):=opI fun _ _ _ _ _ _ _ hc q=>mul_int q hc.ok
theorem znj:OpR X (binaryOp .Mod) (rI (fun _ j=>0 < j) fun i j=>.int (i % j)):=opI fun i j _ _ _ _ _ hc q=>by
 have h1:(0:Int) < j:=hc;exact mod_int' (by lia) (by rw[Int.fmod_eq_emod_of_nonneg i (by lia)];exact q)
theorem zsl:OpR X (binaryOp .Pow) (rI CPow fun i j=>.int (i ^ j.toNat)):=opI fun _ _ _ _ _ _ _ hc q=>pow_int_small hc.1 hc.2.1 hc.2.2 q
theorem zbil:OpR X (binaryOp .BitAnd) (rI0 fun i j=>.int (Builtin.bitAnd i j)):=opI0 fun _ _ _ _ _ _ _ q=>and_int q
theorem unI {f:Value->Sem Value}{g:Int->Int}
  (rule:∀(i:Int) (t:Tok) (s:Shared) (Q:Value->Shared->Prop) (E:Value->Shared->Prop),Q (.int (g i) s.toks) {s with toks:=s.toks+1}->wpAny (model X.prog X.w) X.A (f (.int i t)) Q E s) :
  UnR X f (rU fun i=>.int (g i)):=by
 intro aA s σ H x v Q I rx h;obtain⟨i,rfl,q⟩:=h;obtain⟨t,rfl⟩:=rx;exact rule i t s _ _ ⟨.int (g i),H,I.tok _,⟨_,rfl⟩,q⟩
theorem zbgz:UnR X (unaryOp .USub) (rU fun i=>.int (-i)):=unI fun _ _ _ _ _ q=>neg_int q
theorem zbmi:OpR X (compareOp .Lt) (rI0 fun i j=>.bl (decide (i < j))):=opB0 fun _ _ _ _ _ _ _ q=>lt_int q
theorem zbmj:OpR X (compareOp .LtE) (rI0 fun i j=>.bl (decide (i<=j))):=opB0 fun _ _ _ _ _ _ _ q=>le_int q
theorem zbdr:OpR X (compareOp .Gt) (rI0 fun i j=>.bl (decide (j < i))):=opB0 fun _ _ _ _ _ _ _ q=>gt_int q
theorem OpR.or {f:Value->Value->Sem Value}{r r':R2}(h:OpR X f r)(h':OpR X f r'):OpR X f (fun x y H Q=>r x y H Q\/r' x y H Q):=by
 intro aA s σ H x y v u Q I rx ry q;rcases q with q | q
 ·exact h aA s σ H x y v u Q I rx ry q
 ·exact h' aA s σ H x y v u Q I rx ry q
theorem nomark (b:Expr){op:CmpOp}(h:op≠.In:=by decide)(h2:op≠.NotIn:=by decide):behindInMarks op b=false:=by
 have e1:(op==CmpOp.In)=false:=by cases op<;>first | rfl | exact absurd rfl h
 have e2:(op==CmpOp.NotIn)=false:=by cases op<;>first | rfl | exact absurd rfl h2
 cases b<;>simp[behindInMarks,e1,e2]
theorem zbdn {op:CmpOp}{r:R2}(ho:OpR X (compareOp op) r)(ha:PE X a ta)(hb:PE X b tb)(hm:behindInMarks op b=false):PE X (.Compare a [op] [b] pos) (tOp r ta tb):=by
 intro aA s σ H Q I h;exact wpAny_Compare1 (binT ha hb I h fun v u s2 x y H2 I2 rx ry q=>ho aA s2 σ H2 x y v u Q I2 rx ry q) hm
noncomputable def tTest (t:TE):TT:=fun σ H Q=>t σ H fun x H'=>∃k,x=.bl k/\Q k H'
theorem zbcv {op:CmpOp}{r:R2}(ho:OpR X (compareOp op) r)(ha:PE X a ta)(hb:PE X b tb)(hm:behindInMarks op b=false):PT X (.Compare a [op] [b] pos) (tTest (tOp r ta tb)):=by
 intro aA s σ H Q I h
 refine wpAny_isTrue_Compare1 (thn (ha aA s σ H _ I h) fun v s1 ⟨x,H1,I1,r1,q1⟩=>thn (hb aA s1 σ H1 _ I1 q1) fun u s2 ⟨y,H2,I2,r2,q2⟩ =>
  thn (ho aA s2 σ H2 x y v u _ I2 r1 r2 q2) fun c s3 ⟨z,H3,I3,r3,k,e,q3⟩=>?_) hm
 subst e;cases r3;exact xeg ⟨H3,I3,q3⟩
noncomputable def tChain (r r':R2) (ta tb tc:TE):TE:=fun σ H Q=>ta σ H fun x H1=>tb σ H1 fun y H2=>r x y H2 fun z H3=>∃k,z=.bl k /\
 (if k=true then tc σ H3 fun w' H4=>r' y w' H4 Q else Q (.bl false) H3)
theorem zze {op op':CmpOp}{r r':R2}(ho:OpR X (compareOp op) r)(ho':OpR X (compareOp op') r')(ha:PE X a ta)(hb:PE X b tb)(hc:PE X c tc)
  (hm:lastMarks [op,op'] [b,c]=false:=by with_unfolding_all rfl):PT X (.Compare a [op,op'] [b,c] pos) (tTest (tChain r r' ta tb tc)):=by
 intro aA s σ H Q I h
 refine isTrue_chain (thn (ha aA s σ H _ I h) fun v s1 ⟨x,H1,I1,r1,q1⟩=>test_link (thn (hb aA s1 σ H1 _ I1 q1) fun u s2 ⟨y,H2,I2,r2,q2⟩ =>
  thn (ho aA s2 σ H2 x y v u _ I2 r1 r2 q2) fun d s3 ⟨z,H3,I3,r3,k,e,q3⟩=>?_)) hm
 subst e;cases r3;refine xeg ?_;cases k with
 | false =>
  obtain⟨k',e',q'⟩:=q3;cases e';exact ite_ff ⟨H3,I3,q'⟩
 | true =>
  refine ite_tt (test_last (thn (hc aA s3 σ H3 _ I3 q3) fun w' s4 ⟨z',H4,I4,r4,q4⟩=>thn (ho' aA s4 σ H4 y z' u w' _ I4 r2 r4 q4) fun d' s5 hq0=>?_));obtain⟨z2,H5,I5,r5,k2,e2,q5⟩:=hq0;subst e2;cases r5;exact xeg ⟨H5,I5,q5⟩
noncomputable def TruV (K:Fg) (x:V) (H:Hp) (k:Bool):Prop :=
 match x with
 | .non=>k=false
 | .bl b=>k=b
 | .int i=>k=(i != 0)
 | .str y=>y.length<=sizeLine/\k=((y.length:Int) != 0)
 | .byt y=>y.size<=sizeLine/\k=((y.size:Int) != 0)
 | .ref p=>(∃xs,SqL K H p xs/\k=!xs.isEmpty)\/(∃xs,SqT K H p xs/\k=!xs.isEmpty)\/∃kvs,H p=some (.dK kvs)/\k=!kvs.isEmpty
 | _=>False
theorem ztc {κ:Type}{kvs:List (κ×V)}{vs:List (κ×Value)}(r:KV kvs vs):(!vs.isEmpty)=!kvs.isEmpty:=by
 cases r<;>rfl
theorem zmg {xs:List V}{its:List Value}(r:Vals xs its):(!its.toArray.isEmpty)=!xs.isEmpty:=by
 cases r<;>simp
theorem line63:(sizeLine:Nat) < 2 ^ 63:=by rw[xee];decide
theorem zbhb:TruR X (fun x H Q=>∃k,TruV X.K x H k/\Q k H):=by
 intro aA s σ H x v Q I rx h;obtain⟨k,e,q⟩:=h;have hl:=line63;have hs:sizeLine=16777216:=xee;cases x with
 | non =>
  cases rx;have e':k=false:=e;subst e';exact truthy_none ⟨H,I,q⟩
 | bl b =>
  cases rx;have e':k=b:=e;subst e';exact xeg ⟨H,I,q⟩
 | int i =>
  obtain⟨t,rfl⟩:=rx;have e':k=(i != 0):=e;subst e';exact PySem.P.truthy_int ⟨H,I,q⟩
 | str y =>
  obtain⟨t,rfl⟩:=rx;obtain⟨hy,e'⟩:y.length<=sizeLine/\k=((y.length:Int) != 0):=e;subst e';exact PySem.P.truthy_str (by lia) ⟨H,I.tok _,q⟩
 | byt y =>
  obtain⟨t,rfl⟩:=rx;obtain⟨hy,e'⟩:y.size<=sizeLine/\k=((y.size:Int) != 0):=e;subst e';exact W.truthy_bytes (by lia) ⟨H,I.tok _,q⟩
 | ref p =>
  cases rx;have e':(∃xs,SqL X.K H p xs/\k=!xs.isEmpty)\/(∃xs,SqT X.K H p xs/\k=!xs.isEmpty)\/∃kvs,H p=some (.dK kvs)/\k=!kvs.isEmpty:=e
  rcases e' with⟨xs,hx,e'⟩ | ⟨xs,hx,e'⟩ | ⟨kvs,hx,e'⟩
  ·subst e';obtain⟨its,r,pl,hz⟩:=I.list hx;have hlen:=r.length;exact wpAny_truthy_list pl.isList (by simp only[xbt];lia) ⟨H,I.tok _,by rw[zmg r];exact q⟩
  ·subst e';obtain⟨its,r,pl,hz⟩:=I.tuple hx;have hlen:=r.length;exact truthy_tuple pl (by simp only[xbt];lia) ⟨H,I.tok _,by rw[zmg r];exact q⟩
  ·subst e';obtain⟨hz,hS,vs,r,m⟩:kvs.length<=sizeLine/\(p==sysModules)=false/\∃vs,KV kvs vs/\s.heap.DictOf (mixKind X.prog X.w) p vs:=I.hok p _ hx
   have hlen:kvs.length=vs.length:=xik r;exact wpAny_truthy_dict hS m (by lia) ⟨H,I.tok _,by rw[ztc r];exact q⟩
 | _=>exact(show False from e).elim
theorem zzd (ha:PE X a ta)(he:∀whole,isTrue a X.env whole=(do let v ← whole;standAt a.pos;holding [v] (truthy v))) :
  PT X a (fun σ H Q=>ta σ H fun x H'=>∃k,TruV X.K x H' k/\Q k H'):=by
 intro aA s σ H Q I h;exact isTrue_plain (thn (ha aA s σ H _ I h) fun v s1 ⟨x,H1,I1,r1,q1⟩=>zbhb aA s1 σ H1 x v Q I1 r1 q1) (he _)
theorem zsn:OpR X (binaryOp .Add) (fun x y H Q=>∃i j,x=.str i/\y=.str j/\i.length+j.length<=sizeLine/\Q (.str (i++j)) H):=by
 intro aA s σ H x y v u Q I rx ry h;obtain⟨i,j,rfl,rfl,hz,q⟩:=h;obtain⟨t,rfl⟩:=rx;obtain⟨t',rfl⟩:=ry;exact add_str (fun t' tk=>⟨.str (i++j),H,I.tok _,⟨_,rfl⟩,q⟩) hz
theorem vals1 {x:V}{us:List Value}(r:Vals [x] us):∃u,us=[u]/\RelV x u:=by
 cases r with
 | cons r1 r2=>cases r2;exact⟨_,rfl,r1⟩
theorem vals2 {x y:V}{us:List Value}(r:Vals [x,y] us):∃u w',us=[u,w']/\RelV x u/\RelV y w':=by
 cases r with
 | cons r1 r2 =>
  cases r2 with
  | cons r3 r4=>cases r4;exact⟨_,_,rfl,r1,r3⟩
theorem zbbi:CallR X (.builtin "abs") (fun xs H Q=>∃ i, xs=[.int i]/\Q (.int (if i < 0 then -i else i)) H):=by
 intro aA s σ H xs us Q I r h;obtain⟨i,rfl,q⟩:=h;obtain⟨u,rfl,t,rfl⟩:=vals1 r;exact call_abs_int fun u tk=>⟨.int (if i < 0 then -i else i),H,I.tok _,⟨_,rfl⟩,q⟩
theorem zwz (hc:X.calm=true):CallR X (.builtin "max") (fun xs H Q=>∃ i j, xs=[.int i, .int j]/\Q (.int (if j > i then j else i)) H):=by
 intro aA s σ H xs us Q I r h;obtain⟨i,j,rfl,q⟩:=h;obtain⟨u,w',rfl,⟨t,rfl⟩,⟨t',rfl⟩⟩:=vals2 r;refine max_two_ints (I.ok.hd hc) fun h' tk k=>⟨_,H,I.kept k,?_,q⟩
 by_cases hj:j > i
 ·rw[if_pos hj,if_pos hj];exact⟨_,rfl⟩
 ·rw[if_neg hj,if_neg hj];exact⟨_,rfl⟩
theorem zge (hc:X.calm=true):CallR X (.builtin "min") (fun xs H Q=>∃ i j, xs=[.int i, .int j]/\Q (.int (if j < i then j else i)) H):=by
 intro aA s σ H xs us Q I r h;obtain⟨i,j,rfl,q⟩:=h;obtain⟨u,w',rfl,⟨t,rfl⟩,⟨t',rfl⟩⟩:=vals2 r;refine min_two_ints (I.ok.hd hc) fun h' tk k=>⟨_,H,I.kept k,?_,q⟩
 by_cases hj:j < i
 ·rw[if_pos hj,if_pos hj];exact⟨_,rfl⟩
 ·rw[if_neg hj,if_neg hj];exact⟨_,rfl⟩
theorem zxa:CallR X (.type "int") (fun xs H Q=>(∃ i, xs=[.int i]/\Q (.int i) H)\/∃ k, xs=[.bl k]/\Q (.int (if k then 1 else 0)) H):=by
 intro aA s σ H xs us Q I r h;rcases h with⟨i,rfl,q⟩ | ⟨k,rfl,q⟩
 ·obtain⟨u,rfl,t,rfl⟩:=vals1 r;exact call_int_int ⟨.int i,H,I,⟨_,rfl⟩,q⟩
 ·obtain⟨u,rfl,r1⟩:=vals1 r;cases r1;exact call_int_bool ⟨.int (if k then 1 else 0),H,I.tok _,⟨_,rfl⟩,q⟩
end
structure ObjM (h:Heap) (x dx C:Addr) (mA:Str->Option Value):Prop where
 obj:h.get? x=some (W.instObj C dx)
 ns:h.Ns1 dx mA
 ne:dx≠x
theorem zvv {h:Heap}{dx:Addr}{mA:Str->Option Value}(n:h.Ns1 dx mA):∃od,h.get? dx=some od/\∀name,W.lookIn name od=some (mA name):=by
 obtain⟨o,es,ep,ho,hd,hk,_,hm⟩:=n;refine⟨o,ho,fun name=>?_⟩;have e:=hm name;unfold nsFind findBy at e;rw[← Array.find?_toList] at e;unfold W.lookIn;rw[hd];dsimp only;split
 ·rename_i y q;rw[q] at e;exact congrArg some e
 ·rename_i q;rw[q] at e;have a:es.toList.any (·.refKey)=false:=by
   rw[List.any_eq_false];intro y hy;obtain⟨z,t,hkey⟩:=hk y (Array.mem_toList_iff.mp hy);simp[DictEntry.refKey,hkey]
  have a':¬ es.toList.any (·.refKey)=true:=by rw[a];exact xfh
  rw[if_neg a'];exact congrArg some e
theorem ObjM.look {h:Heap}{x dx C:Addr}{mA:Str->Option Value}(I:ObjM h x dx C mA):∃od,W.InstAt h x (W.instObj C dx) C (some od)/\∀name,W.lookIn name od=some (mA name) :=
 let ⟨od,ho,hl⟩:=zvv I.ns
 ⟨od,⟨I.obj,rfl,rfl,ho⟩,hl⟩
section
variable {prog:Program}{w:World}{A:Around}{E:Value->Shared->Prop}{s:Shared}{K:Fg}{x dx C f:Addr}{mA:Str->Option Value}{name:Str}{v:Value}
end
theorem RelO.some_of {v:V}{o:Option Value}(r:RelO (some v) o):∃u,o=some u/\RelV v u:=by
 cases o with
 | none=>exact(show False from r).elim
 | some u=>exact⟨u,rfl,r⟩
section
variable {P:Program}{w:World}{H H':Hp}{h h':Heap}{a C dx:Addr}{fs fs':List (Str×V)}
theorem zbek (hok:HOk P w H h)(e:H a=some (.ins C dx fs)):∃mA,ObjM h a dx C mA/\(∀f,RelO (fs.lookup f) (mA f))/\PySem.Within mA (fs.map (·.1))/\fs.length<=1000/\H dx=some (.own a):=by
 obtain⟨d,z,ne,ob,mA,n,r,q⟩:=(show ObjOk P w H h a (.ins C dx fs) from hok a _ e)
 exact⟨mA,⟨ob,n,ne⟩,r,q,z,d⟩
end
structure Cls (K:Fg) (C:Addr):Prop where
 pg:W.plainGet K C Str.empty=true
 hd:W.hasDictIn K C=true
 po:W.plainOver K C=true
 sa:W.findIn K (.ref C) "__setattr__"=some (some (.builtin "object.__setattr__"))
theorem Cls.get {K:Fg}{C:Addr}(c:Cls K C)(f:Str):W.plainGet K C f=true:=c.pg
section
variable {X:Cx}{aA:List (Addr×Obj)}{σ:St}{H:Hp}{s:Shared}{a C dx:Addr}{fs:List (Str×V)}{f:Str}{v:V}{A:Around}{E:Value->Shared->Prop}
theorem zbgk {prog:Program}{w:World}{env:Env}{e:Expr}{f:Str}{pos:Pos}{s:Shared}{Q:Value->Shared->Prop}(hb:attributeBase e f env (eval e env)=eval e env)
  (h:wpAny (model prog w) A (eval e env) (fun o s₁=>wpAny (model prog w) A (getAttr o f true) Q E s₁) E s):wpAny (model prog w) A (eval (.Attribute e f pos) env) Q E s :=
 Attribute_any_ h (by rw[arm_eval_Attribute,hb])
end
section
variable {X:Cx}{o e value:Expr}{f:Str}{pos pos' tpos:Pos}{ta tv:TE}
end
section
variable {X:Cx}{aA:List (Addr×Obj)}{σ:St}{H:Hp}{s:Shared}{A:Around}{E:Value->Shared->Prop}{Q:Value->Shared->Prop}{c:Value}{b:Bool}
inductive TyOf (K:Fg) (H:Hp):V->Value->Prop where
 | non:TyOf K H .non (.type "NoneType")
 | bl (x:Bool):TyOf K H (.bl x) (.type "bool")
 | int (i:Int):TyOf K H (.int i) (.type "int")
 | str (x:Str):TyOf K H (.str x) (.type "str")
 | flt (x:UInt64):TyOf K H (.flt x) (.type "float")
 | lst {a:Addr} {xs:List V} (e:H a=some (.lst xs)):TyOf K H (.ref a) (.type "list")
 | frz {a:Addr} {o:Obj} {xs:List V} (e:H a=some (.frz o (.lst xs))):TyOf K H (.ref a) (.type "list")
 | tup {a:Addr} {xs:List V} (e:H a=some (.tup xs)):TyOf K H (.ref a) (.type "tuple")
 | dK {a:Addr} {kvs:List (Key×V)} (e:H a=some (.dK kvs)):TyOf K H (.ref a) (.type "dict")
 | dT {a:Addr} {kvs:List (List Key×V)} (e:H a=some (.dT kvs)):TyOf K H (.ref a) (.type "dict")
 | ins {a C dx:Addr} {fs:List (Str×V)} (e:H a=some (.ins C dx fs)) (cl:Cls K C) (ha:W.findIn K (.ref C) "__class__"=some (some (.builtin "object.__class__")))
  (hn:W.specialIn K (.builtin "object.__class__") "__get__"=some (some (.builtin "getset_descriptor.__get__")))(htk:W.takesIn K (.builtin "object.__class__")=some true)
  (hm:W.mroIn K C (.type "object")=some true):TyOf K H (.ref a) (.ref C)
theorem zwd {x:V}{u t:Value}(I:Inv X aA σ H s)(rx:RelV x u)(ty:TyOf X.K H x t)(e:W.kitOne X.K t c=some b)(h:∀tk,Q (.bool b) {s with toks:=tk}) :
  wpAny (model X.prog X.w) A (call (.builtin "isinstance") [u, c]) Q E s:=by
 cases ty with
 | non=>cases(show u=Value.none from rx);exact xdk W.kitx_none I.kIn True.intro e (fun z=>nomatch z) h
 | bl y=>cases(show u=Value.bool y from rx);exact xdk W.kitx_bool I.kIn True.intro e (fun z=>nomatch z) h
 | int i=>obtain⟨t,q⟩:=(show ∃t,u=Value.int i t from rx);cases q;exact xdk W.kitx_int I.kIn True.intro e (fun z=>nomatch z) h
 | str y=>obtain⟨t,q⟩:=(show ∃t,u=Value.str y t from rx);cases q;exact xdk W.kitx_str I.kIn True.intro e (fun z=>nomatch z) h
 | flt y=>obtain⟨t,q⟩:=(show ∃t,u=Value.float y t from rx);cases q;exact xdk W.kitx_float I.kIn True.intro e (fun z=>nomatch z) h
 | @lst a xs ea =>
  cases(show u=Value.ref a from rx);obtain⟨_,_,n,_,h1⟩:=(show ObjOk X.prog X.w H s.heap a (.lst xs) from I.hok a _ ea)
  exact xdk W.kitx_list I.kIn ⟨_,h1,rfl⟩ e (fun z=>nomatch z) h
 | @frz a ob xs ea =>
  cases(show u=Value.ref a from rx);obtain⟨_,_,_,n,_,h1⟩:=(show ObjOk X.prog X.w H s.heap a (.frz ob (.lst xs)) from I.hok a _ ea)
  exact xdk W.kitx_list I.kIn ⟨_,h1,rfl⟩ e (fun z=>nomatch z) h
 | @tup a xs ea =>
  cases(show u=Value.ref a from rx);obtain⟨_,_,_,p⟩:=(show ObjOk X.prog X.w H s.heap a (.tup xs) from I.hok a _ ea)
  obtain⟨o,h1,h2,_⟩:=p;exact xdk W.kitx_tuple I.kIn ⟨o,h1,h2⟩ e (fun z=>nomatch z) h
 | @dK a kvs ea =>
  cases(show u=Value.ref a from rx);obtain⟨_,_,vs,_,p⟩:=(show ObjOk X.prog X.w H s.heap a (.dK kvs) from I.hok a _ ea)
  obtain⟨o,es,ep,h1,h2,_⟩:=p;exact xdk W.kitx_dict I.kIn ⟨o,h1,h2.1⟩ e (fun z=>nomatch z) h
 | @dT a kvs ea =>
  cases(show u=Value.ref a from rx);obtain⟨_,_,xs,_,o,es,ep,h1,h2,_⟩:=(show ObjOk X.prog X.w H s.heap a (.dT kvs) from I.hok a _ ea)
  exact xdk W.kitx_dict I.kIn ⟨o,h1,h2.1⟩ e (fun z=>nomatch z) h
 | @ins a C dx fs ea cl ha hn htk hm =>
  cases(show u=Value.ref a from rx);obtain⟨mA,O,_⟩:=zbek I.hok ea;obtain⟨od,J,_⟩:=O.look;exact xdk (W.kitx_own (cl.get _) cl.hd ha hn htk hm) I.kIn J e (fun z=>nomatch z) h
end
structure Room (k:Nat) (A:Around):Prop where
 hd:A.handled=none
 dp:A.depth+3 * k+5 < recursionLimit
 un:A.units+16 * k+200 < cLine
theorem Room.mono {j k:Nat}{A:Around}(r:Room k A)(h:j<=k):Room j A:=⟨r.hd,by have:=r.dp;lia,by have:=r.un;lia⟩
theorem Room.deeper {k:Nat}{A:Around}(r:Room (k+1) A)(env:Env):Room k (A.deeper env) :=
 ⟨r.hd,by have:=r.dp;show A.depth+1+3 * k+5 < _;lia,by have:=r.un;show A.units+3+16 * k+200 < _;lia⟩
theorem zsy {A:Around}{C:Addr}{us:List Value}{kw:List (Str×Value)}:(A.under (.builtin "type.__call__" ⟨.ref C::us, kw⟩)).depth=A.depth + 1:=by
 first | rfl | simp[Around.under,Code.weight,Code.isCreation,Code.isGuard,Code.isCaller,Code.frames,Code.isFrame,guardIds]
theorem zsx {A:Around}{C:Addr}{us:List Value}{kw:List (Str×Value)}:(A.under (.builtin "type.__call__" ⟨.ref C::us, kw⟩)).units=A.units + 1:=by
 first | rfl | simp[Around.under,Code.cUnits,Code.frames,Code.isFrame]
theorem Room.make {k:Nat}{A:Around}(r:Room (k + 1) A)(C:Addr)(us:List Value)(kw:List (Str×Value)):Room k (A.under (.builtin "type.__call__" ⟨.ref C::us, kw⟩)) :=
 ⟨r.hd,by have:=r.dp;rw[zsy];lia,by have:=r.un;rw[zsx];lia⟩
theorem Room.depth {k:Nat}{A:Around}(r:Room k A):A.depth < recursionLimit:=by have:=r.dp;lia
theorem Room.units {k:Nat}{A:Around}(r:Room k A):A.units+64 < cLine:=by have:=r.un;lia
theorem Room.units0 {k:Nat}{A:Around}(r:Room k A):A.units < cLine:=by have:=r.un;lia
noncomputable def tNil:TA:=fun _ H Q=>Q [] H
noncomputable def tCons (ta:TE) (tr:TA):TA:=fun σ H Q=>ta σ H fun x H1=>tr σ H1 fun xs H2=>Q (x::xs) H2
section
variable {X:Cx}{e:Expr}{es:List Expr}{te:TE}{t:TA}{pos:Pos}
theorem zvi:PA X [] tNil:=fun _ _ _ _ H Q I h=>xkr ⟨[],H,I,.nil,h⟩
theorem zkc (ha:PE X e te)(hr:PA X es t)(hs:starEach (e::es) X.env=(false,eval e X.env)::starEach es X.env:=by rfl):PA X (e::es) (tCons te t):=by
 intro pos aA s σ H Q I h;rw[hs];show wpAny _ _ (spliced ((false,eval e X.env)::backTo pos (starEach es X.env))) _ _ s;refine xiu (thn (ha aA s σ H _ I h) fun u s1 hq0=>?_);obtain⟨x,H1,I1,r1,q1⟩:=hq0;exact thn (hr pos aA s1 σ H1 _ I1 q1) fun us s2 ⟨xs,H2,I2,r2,q2⟩=>⟨x::xs,H2,I2,.cons r1 r2,q2⟩
noncomputable def tTup (t:TA):TE:=fun σ H Q=>t σ H fun xs H1=>xs.length<=sizeLine/\∀p,H1 p=none->Q (.ref p) (upd H1 p (.tup xs))
noncomputable def tLst (t:TA):TE:=fun σ H Q=>t σ H fun xs H1=>xs.length<=sizeLine/\∀p,H1 p=none->Q (.ref p) (upd H1 p (.lst xs))
theorem zbhx {x1}(h:PA X es t):PE X (.Tuple es x1 pos) (tTup t):=by
 intro aA s σ H Q I hq;refine wpAny_Tuple_spliced (thn (h pos aA s σ H _ I hq) fun us s1 ⟨xs,H1,I1,r,z,q⟩=>⟨by rw[← r.length];exact z,?_⟩);have hf:H1 s1.heap.objs.size=none:=I1.hok.fresh (xbf _);refine⟨.ref s1.heap.objs.size,upd H1 s1.heap.objs.size (.tup xs),I1.laid (t':=s1.toks) (fun b u e=>xbc _ e) (xbf _) ?_,rfl,q _ hf⟩;exact⟨z,us,r,⟨_,xbv _ rfl,rfl,_,rfl⟩⟩
theorem zbdj (h:PA X es t):PE X (.List es pos) (tLst t):=by
 intro aA s σ H Q I hq;refine wpAny_List_spliced (thn (h pos aA s σ H _ I hq) fun us s1 ⟨xs,H1,I1,r,z,q⟩=>⟨by rw[← r.length];exact z,?_⟩);have hf:H1 s1.heap.objs.size=none:=I1.hok.fresh (xbf _);refine⟨.ref s1.heap.objs.size,upd H1 s1.heap.objs.size (.lst xs),I1.laid (t':=s1.toks) (fun b u e=>xbc _ e) (xbf _) ?_,rfl,q _ hf⟩;exact⟨z,us,0,r,xbv _ rfl⟩
end
noncomputable abbrev Sp:=List V->Hp->VK->XK->Prop
noncomputable abbrev CXT:=List Env->Hp->Shared->XK->Value->Shared->Prop
structure Env0 (P:Program) (w:World) (K:Fg) (mg:Str->Option Value) (base:Heap) (A:Around) (outer:List Env) (s:Shared) (H:Hp):Prop where
 frames:A.frames=some outer
 mod:Mod K mg base
 bs:∀b o,base.get? b=some o->s.heap.get? b=some o/\H b=none
 bsz:base.objs.size<=s.heap.objs.size
 funs:s.heap.FunFrames base outer
 frf:∀b∈frs outer,H b=none
 hok:HOk P w H s.heap
 bare:AllBare s.gens
noncomputable def CE (outer:List Env) (P:Program) (w:World) (H:Hp) (s:Shared) (Q:VK) (u:Value) (s':Shared):Prop :=
 ∃v H',s'.os=s.os/\AllBare s'.gens/\Un (frs outer) [] H H' s.heap s'.heap/\HOk P w H' s'.heap/\RelV v u/\Q v H'
noncomputable def CR (CX:CXT) (outer:List Env) (P:Program) (w:World) (H:Hp) (s:Shared) (Q:VK) (E:XK) (r:Result) (s':Shared):Prop :=
 match r with
 | .ok (.ret u)=>CE outer P w H s Q u s'
 | .ok _=>False
 | .error e=>CX outer H s E e s'
structure FnOk (P:Program) (w:World) (K:Fg) (mg:Str->Option Value) (base:Heap) (CX:CXT) (k:Nat) (f:Addr) (fd:FuncData) (ps:List Str) (sp:Sp):Prop where
 len:∀vs H Q E,sp vs H Q E->vs.length=ps.length
 run:∀(A:Around) (outer:List Env) (s:Shared) (H:Hp) (args:Args) (us:List Value) (vs:List V) (Q:VK) (E:XK),Room k A->Env0 P w K mg base A outer s H->BindsTo s fd args (ps.zip us)->Vals vs us->sp vs H Q E ->
  codeAny (model P w) A (.call (.ref f) args) (CR CX outer P w H s Q E) s
theorem Env0.make {P:Program}{w:World}{K:Fg}{mg:Str->Option Value}{base:Heap}{A:Around}{outer:List Env}{s:Shared}{H:Hp}(e:Env0 P w K mg base A outer s H)(C:Addr)(us:List Value)(kw:List (Str×Value)) :
 Env0 P w K mg base (A.under (.builtin "type.__call__" ⟨.ref C::us, kw⟩)) outer s H:=⟨by first | exact e.frames | (simpa [Around.under, Code.envs, Code.isFrame, pushEnvs] using e.frames), e.mod, e.bs, e.bsz, e.funs, e.frf, e.hok, e.bare⟩
section
variable {X:Cx}{aA:List (Addr×Obj)}{σ:St}{H:Hp}{s s':Shared}
theorem Inv.env0 (I:Inv X aA σ H s):Env0 X.prog X.w X.K X.mg X.base X.A X.stack s H :=
 ⟨I.ok.frames,I.ok.mod,I.bs,xbb I.ok.bsz I.sz,I.stack,I.stkFree,I.hok,I.bare⟩
theorem Inv.after {Q:VK}{u:Value}(I:Inv X aA σ H s)(h:CE X.stack X.prog X.w H s Q u s'):EP X aA σ Q u s':=by
 obtain⟨v,H',os,bare,un,hok,r,q⟩:=h;obtain⟨hh,g,d,t,os'⟩:=s';obtain rfl:os'=s.os:=os;exact⟨v,H',I.call (h':=hh) (g':=g) (d':=d) (t':=t) (ch:=[]) un hok bare (fun b z=>absurd z (by simp)),r,q⟩
end
noncomputable def tCall (sp:Sp) (dvs:List V) (E:XK) (t:TA):TE:=fun σ H Q=>t σ H fun vs H1=>sp (vs++dvs) H1 Q E
noncomputable def Binds (K:Fg) (fd:FuncData) (ps:List Str) (ds:List Value):Prop :=
 ∀(s:Shared) (us:List Value),K.In s.heap->(us++ds).length=ps.length->BindsTo s fd ⟨us,[]⟩ (ps.zip (us++ds))
theorem Binds.all {K:Fg}{fd:FuncData}{ps:List Str}(h:∀us:List Value,us.length=ps.length->bindArgs fd ⟨us,[]⟩=pure (ps.zip us)):Binds K fd ps []:=fun s us _ hl=>by
 rw[xdr] at hl ⊢;exact .of_eq (h us hl)
noncomputable def Passes (CX:CXT) (X:Cx) (E:XK):Prop:=∀(aA:List (Addr×Obj)) (σ:St) (H:Hp) (s:Shared) (e:Value) (s':Shared),Inv X aA σ H s->CX X.stack H s E e s'->X.xe e s'
section
variable {X:Cx}{CX:CXT}{k:Nat}{f C:Addr}{fd:FuncData}{ps:List Str}{sp:Sp}{dvs:List V}{ds:List Value}{E:XK}{x m:Str}{p pos apos:Pos}{e o:Expr}{es:List Expr}{ta:TE}{t:TA}
theorem zbhm {aA:List (Addr×Obj)}{σ:St}{H:Hp}{s:Shared}{Q:VK}{us:List Value}{vs:List V}(F:FnOk X.prog X.w X.K X.mg X.base CX k f fd ps sp)(hr:Room k X.A)(hb:Binds X.K fd ps ds)(hd:Vals dvs ds)(hx:Passes CX X E)
  (I:Inv X aA σ H s)(r:Vals vs us)(h:sp (vs++dvs) H Q E):wpAny (model X.prog X.w) X.A (call (.ref f) us) (EP X aA σ Q) X.xe s:=by
 have r2:Vals (vs++dvs) (us++ds):=r.append hd;have hl:(us++ds).length=ps.length:=by rw[← r2.length];exact F.len _ _ _ _ h
 refine xgs (xhx (F.run X.A X.stack s H ⟨us,[]⟩ (us++ds) (vs++dvs) Q E hr I.env0 (hb s us I.kIn hl) r2 h) fun r s' hq=>?_);cases r with
 | error e=>exact hx aA σ H s e s' I hq
 | ok fl =>
  cases fl with
  | ret u=>exact I.after hq
  | next=>exact False.elim hq
  | brk=>exact False.elim hq
  | cont=>exact False.elim hq
theorem zxk (F:FnOk X.prog X.w X.K X.mg X.base CX k f fd ps sp)(hr:Room k X.A)(hg:Gl X x)(hm:X.mg x=some (.ref f))(hk:W.keepIn X.K (.ref f)=true)(hb:Binds X.K fd ps ds)(hd:Vals dvs ds)(hx:Passes CX X E)
  (ha:PA X (e::es) t)(hdb:(x==("__debug__" : Str))=false:=by decide)(he:starEach (e::es) X.env=(false, eval e X.env)::starEach es X.env:=by rfl)(hpl:(backTo pos (starEach es X.env)).any (·.1)=false:=by rfl) :
  PE X (.Call (.Name x p) (e::es) [] pos) (tCall sp dvs E t):=by
 intro aA s σ H Q I h;refine xfm (ziw I hg hm ?_ hdb);refine xiv (h₀:=X.base) I.ok.mod.kin hk (thn (ha pos aA s σ H _ I h) fun us s1 ⟨vs,H1,I1,r,q⟩=>⟨I1.kIn,?_⟩) he hpl;exact zbhm F hr hb hd hx I1 r q
end
section
variable {X:Cx}{CX:CXT}{k:Nat}{f C:Addr}{fd:FuncData}{ps ks:List Str}{sp:Sp}{E:XK}{x m:Str}{p pos apos kpos:Pos}{e o:Expr}{es:List Expr}{kws:List Keyword}{te ta:TE}{t tk:TA}{nm:Option Str}
variable {g:List Value->List Value->List Value}{gV:List V->List V->List V}
end
structure FnScope (N P:List Str) (sc:Scope):Prop where
 kind:sc.kind=.function
 co:sc.isCoroutine=false
 gen:sc.isGenerator=false
 nd:N.Nodup
 pre:N.take P.length=P
 par:∀x∈P,sc.names.lookup x=some .local\/sc.names.lookup x=some .cell
 nofree:∀y∈sc.names,y.2≠.free
theorem zpz {kindOf:Str->Option NameKind}{x:Str}:∀{binds:List (Str×Value)} {m:Str->Option Value},(∀v,(x,v)∉binds)->bindL kindOf binds m x=m x
 | [],_,_=>rfl
 | (n,v)::r,m,h=>by
  unfold bindL;rw[zpz fun w hw=>h w (xci _ hw)];split
  ·have:x≠n:=by rintro rfl;exact h v xch
   simp[this]
  ·rfl
theorem zqb {kindOf:Str->Option NameKind}{x:Str}:∀{binds:List (Str×Value)} {m:Str->Option Value},(∀v,(x,v)∉binds)->bindC kindOf binds m x=m x
 | [],_,_=>rfl
 | (n,v)::r,m,h=>by
  unfold bindC;rw[zqb fun w hw=>h w (xci _ hw)];split
  ·rfl
  ·have:x≠n:=by rintro rfl;exact h v xch
   simp[this]
theorem zqa {kindOf:Str->Option NameKind}{x:Str}{v:Value}:∀{P:List Str} {vs:List Value} {i:Nat} {m:Str->Option Value},P.Nodup->P[i]?=some x->vs[i]?=some v->kindOf x=some .local ->
  bindL kindOf (P.zip vs) m x=some v
 | [],_,_,_,_,h,_,_=>by simp at h
 | _::_,[],_,_,_,_,h,_=>by simp at h
 | p::P,w::vs,0,m,nd,h1,h2,hk=>by
  simp at h1 h2;subst h1;subst h2
  show bindL kindOf ((p,w)::P.zip vs) m p=_;unfold bindL;rw[zpz fun v hv=>(xhf.mp nd).1 (xjz hv).1,if_pos hk];simp
 | p::P,w::vs,i+1,m,nd,h1,h2,hk=>by
  show bindL kindOf ((p,w)::P.zip vs) m x=_;unfold bindL;exact zqa (i:=i) (xhf.mp nd).2 (by simpa using h1) (by simpa using h2) hk
theorem zqc {kindOf:Str->Option NameKind}{x:Str}{v:Value}:∀{P:List Str} {vs:List Value} {i:Nat} {m:Str->Option Value},P.Nodup->P[i]?=some x->vs[i]?=some v->kindOf x≠some .local ->
  bindC kindOf (P.zip vs) m x=some v
 | [],_,_,_,_,h,_,_=>by simp at h
 | _::_,[],_,_,_,_,h,_=>by simp at h
 | p::P,w::vs,0,m,nd,h1,h2,hk=>by
  simp at h1 h2;subst h1;subst h2
  show bindC kindOf ((p,w)::P.zip vs) m p=_;unfold bindC;rw[zqb fun v hv=>(xhf.mp nd).1 (xjz hv).1,if_neg hk];simp
 | p::P,w::vs,i+1,m,nd,h1,h2,hk=>by
  show bindC kindOf ((p,w)::P.zip vs) m x=_;unfold bindC;exact zqc (i:=i) (xhf.mp nd).2 (by simpa using h1) (by simpa using h2) hk
noncomputable def start (N:List Str) (vs:List V):St:=vs.map some++List.replicate (N.length - vs.length) none
noncomputable def cxOf (CX:CXT) (P:Program) (w:World) (K:Fg) (mg:Str->Option Value) (base:Heap) (N:List Str) (qual:Str) (scope:Scope) (f:Addr) (cd:Value) (A:Around) (outer:List Env) (s:Shared) (H:Hp) (E:XK):Cx where
 prog:=P
 w:=w
 K:=K
 mg:=mg
 base:=base
 A:=A.deeper (envOfC qual scope s.heap.objs.size f cd)
 N:=N
 s₀:=s
 H₀:=H
 env:=envOfC qual scope s.heap.objs.size f cd
 outer:=outer
 stack:=envOfC qual scope s.heap.objs.size f cd::outer
 ex:=[]
 calm:=true
 fn:=fun _=>true
 pn:=[]
 xe:=fun e s'=>wpAny (model P w) (A.deeper (envOfC qual scope s.heap.objs.size f cd)) (leaving (envOfC qual scope s.heap.objs.size f cd) e) (fun _ s''=>CX outer H s E e s'') (fun e' s''=>CX outer H s E e' s'') s'
theorem ztv {sc:Scope}{n:Nat}{x:Str}(h:sc.names.lookup x=some .cell):∃c,(cellsFrom n sc.names []).lookup x=some c:=by
 have q:=xjl sc.names n [] (.inl h);exact xiw.mp q
theorem zph {CX:CXT}{P:Program}{w:World}{K:Fg}{mg:Str->Option Value}{base:Heap}{N ps:List Str}{qual:Str}{scope:Scope}{f:Addr}{cd:Value}{A:Around}{outer:List Env}{s s1:Shared}{H:Hp}{E:XK}{us:List Value}{vs:List V}
  (S:FnScope N ps scope)(hd:A.handled=none)(e0:Env0 P w K mg base A outer s H)(hl:vs.length=ps.length)(r:Vals vs us)
  (x:InCallC s s.heap.objs.size (bindL (envOfC qual scope s.heap.objs.size f cd).kindOf (ps.zip us) fun _=>none) (cellsFrom (s.heap.objs.size+1) scope.names []) (bindC (envOfC qual scope s.heap.objs.size f cd).kindOf (ps.zip us) fun _=>none) s1) :
  Inv (cxOf CX P w K mg base N qual scope f cd A outer s H E) [] (start N vs) H s1:=by
 have hpl:ps.length<=N.length:=by have:=congrArg List.length S.pre;rw[xcy] at this;lia
 obtain⟨h1,tk,rfl,hk⟩:=x.done;have noA:∀b:Addr,b∉(cxOf CX P w K mg base N qual scope f cd A outer s H E).ex:=fun b z=>absurd (show b∈([]:List Addr) from z) (by simp)
 refine⟨⟨e0.mod,S.kind,rfl,rfl,xbf _,fun y z c h1 h2=>?_,fun y hy=>?_,fun y c _ h=>?_,fun _=>hd,Around.frames_deeper e0.frames,.inr ⟨rfl,rfl⟩,fun b z=>absurd z (noA b),e0.bs,e0.bsz,fun b _ _=>noA b,fun b z=>absurd z (noA b),e0.funs,e0.frf⟩,
  rfl,e0.bare,Un.kept hk,⟨_,x.toInCall.ns,fun i y v h1 h2 h3=>?_⟩,fun y c h=>⟨_,x.cell y c h⟩,e0.hok.fresh (xbf _),fun y c h=>?_,fun p hp=>absurd (show p∈([]:List (Addr×Obj)) from hp) (by simp),e0.hok.kept hk,?_,Hnd.none hd⟩
 ·exact name_of_addr x.apart (xdy h1) (xdy h2)
 ·have hy:scope.names.lookup y=some .cell\/scope.names.lookup y=some .free:=hy;rcases hy with hy | hy
  ·exact ztv hy
  ·exact absurd rfl (S.nofree _ (xdy hy))
 ·exact xbr (x.above y c (xdy h))
 ·have hi:i < vs.length:=by
   unfold start at h2;by_cases hi:i < vs.length
   ·exact hi
   ·rw[xcd (by simpa using hi)] at h2;rw[List.getElem?_replicate] at h2;split at h2<;>cases h2
  have ha:vs[i]?=some v:=by
   unfold start at h2;rw[xbs (by simpa using hi),xcl] at h2;cases e:vs[i]? with
   | none=>rw[e] at h2;cases h2
   | some a=>rw[e] at h2;cases h2;rfl
  obtain⟨u,hu,rv⟩:=r.get ha;have hp:ps[i]?=some y:=by
   rw[← S.pre,List.getElem?_take_of_lt (by lia)];exact h1
  have ndP:ps.Nodup:=by rw[← S.pre];exact S.nd.sublist (xks _ _)
  refine⟨u,rv,?_⟩;rcases S.par y (xcj hp) with k | k
  ·exact .inl ⟨k,zqa ndP hp hu k⟩
  ·obtain⟨c,e⟩:=ztv (n:=s.heap.objs.size+1) k;refine .inr ⟨.inl k,c,e,?_⟩;have q:=x.cell y c e;rw[zqc ndP hp hu (by show scope.names.lookup y≠_;rw[k];decide)] at q;exact q
 ·exact e0.hok.fresh (xbr (x.above y c (xdy h)))
 ·unfold start;show _=N.length;rw[xbq,xbe,xgj];lia
theorem zbjd {CX:CXT}{P:Program}{w:World}{K:Fg}{mg:Str->Option Value}{base:Heap}{k:Nat}{f:Addr}{name qual:Str}{params:Arguments}{body:List Stmt}{scope:Scope}{dV kV doc pm cdv ct oc:Value}{an od:Option Addr}
  {osl:Array (Option Value)}{N ps:List Str}{sp:Sp}(lk:K.lookup f=some ⟨oc,od,.func (W.fnOf name qual params body scope dV kV doc pm an cdv ct),osl⟩)(hcd:W.codeIn K cdv qual=true)(S:FnScope N ps scope)
  (len:∀vs H Q E,sp vs H Q E->vs.length=ps.length)
  (hbody:∀(A:Around) (outer:List Env) (s:Shared) (H:Hp) (vs:List V) (Q:VK) (E:XK),Room k (A.deeper (envOfC qual scope s.heap.objs.size f cdv))->sp vs H Q E ->
   ∃t,PSs (cxOf CX P w K mg base N qual scope f cdv A outer s H E) body t/\t {nx:=fun _ H'=>Q .non H',rt:=Q} (start N vs) H) :
  FnOk P w K mg base CX (k+1) f (W.fnOf name qual params body scope dV kV doc pm an cdv ct) ps sp:=by
 refine⟨len,fun A outer s H args us vs Q E hr e0 hb r hsp=>?_⟩;have hl:=len _ _ _ _ hsp;have KX:K.In s.heap:=e0.mod.kin.keeps fun b o e=>(e0.bs b o e).1
 have lim:s.heap.NoLimit:=e0.mod.nolimit.keeps fun b o e=>(e0.bs b o e).1
 have hkind:∀y∈ps.zip us,scope.names.lookup y.1=some .local\/(scope.names.lookup y.1=some .cell/\((cellsFrom (s.heap.objs.size+1) scope.names []).lookup y.1).isSome=true):=fun hq0 hy=>by
  obtain⟨n,v⟩:=hq0;rcases S.par n (xjz hy).1 with q | q
  ·exact .inl q
  ·exact .inr ⟨q,xjl _ _ _ (.inl q)⟩
 refine codeAny_call_function hr.depth (KX _ _ lk) rfl S.co S.gen rfl (W.codeRec_of KX hcd) (hb _ _ _ _ ?_);refine wpAny_newFunctionEnv_cells S.kind hkind fun env he s1 x=>?_
 subst he;refine⟨lim.keeps x.toInCall.keep,codeAny_func ?_⟩;obtain⟨t,ht,hq⟩:=hbody A outer s H vs Q E (hr.deeper _) hsp;have I:Inv (cxOf CX P w K mg base N qual scope f cdv A outer s H E) [] (start N vs) H s1:=zph S hr.hd e0 hl r x;refine xdd (ht [] s1 (start N vs) H _ I hq) (fun fl s' hs=>?_) fun e s' hs=>hs
 have fin:∀{σ':St} {H':Hp} {v:V} {u:Value},Inv (cxOf CX P w K mg base N qual scope f cdv A outer s H E) [] σ' H' s'->RelV v u->Q v H'->CE outer P w H s Q u s' :=
  fun {σ' H' v u} J rv q=>⟨v,H',J.os,J.bare,J.base,J.hok,rv,q⟩
 cases fl with
 | ret u =>
  obtain⟨v,σ',H',J,rv,q⟩:=hs;exact fin J rv q
 | next =>
  obtain⟨σ',H',J,q⟩:=hs;exact fin (v:=V.non) (u:=Value.none) J rfl q
 | brk =>
  obtain⟨_,_,_,q⟩:=hs;exact False.elim q
 | cont =>
  obtain⟨_,_,_,q⟩:=hs;exact False.elim q
section
variable {X:Cx}{x:Str}{p pos:Pos}{e:Expr}{es:List Expr}{t:TA}{id T:String}{r:List V->Hp->VK->Prop}
noncomputable def tCB (r:List V->Hp->VK->Prop) (t:TA):TE:=fun σ H Q=>t σ H fun vs H1=>r vs H1 Q
theorem zsi (hc:CallR X (.builtin id) r)(hg:Gl X x)(hm:X.mg x=none)(hv:bootBuiltins x=some (.builtin id))(ha:PA X (e::es) t)(hn:x≠"__name__":=by decide)(hdb:(x==("__debug__" : Str))=false:=by decide)
  (he:starEach (e::es) X.env=(false,eval e X.env)::starEach es X.env:=by rfl)(hpl:(backTo pos (starEach es X.env)).any (·.1)=false:=by rfl):PE X (.Call (.Name x p) (e::es) [] pos) (tCB r t):=by
 intro aA s σ H Q I h;refine xfm (zvx I hg hm hv ?_ hn hdb);exact xka (thn (ha pos aA s σ H _ I h) fun us s1 ⟨vs,H1,I1,r1,q1⟩=>hc aA s1 σ H1 vs us Q I1 r1 q1) he hpl
theorem zvh (hc:CallR X (.type T) r)(hg:Gl X x)(hm:X.mg x=none)(hv:bootBuiltins x=some (.type T))(ha:PA X (e::es) t)(hn:x≠"__name__":=by decide)(hdb:(x==("__debug__" : Str))=false:=by decide)
  (he:starEach (e::es) X.env=(false,eval e X.env)::starEach es X.env:=by rfl)(hpl:(backTo pos (starEach es X.env)).any (·.1)=false:=by rfl):PE X (.Call (.Name x p) (e::es) [] pos) (tCB r t):=by
 intro aA s σ H Q I h;refine xfm (zvx I hg hm hv ?_ hn hdb);exact xkj (thn (ha pos aA s σ H _ I h) fun us s1 ⟨vs,H1,I1,r1,q1⟩=>hc aA s1 σ H1 vs us Q I1 r1 q1) he hpl
end
end L2
namespace HT
open PySem PyProof.Rows
noncomputable def lexLt:List Int->List Int->Bool
 | [],[]=>false
 | [],_::_=>true
 | _::_,[]=>false
 | x::xs,y::ys=>if x=y then lexLt xs ys else decide (x < y)
theorem zde (x y:Int)(xs ys:List Int):lexLt (x::xs) (y::ys)=if x=y then lexLt xs ys else decide (x < y):=rfl
theorem zei:lexLt [] []=false:=rfl
theorem zcr (y:Int)(ys:List Int):lexLt [] (y::ys)=true:=rfl
theorem zdt (x:Int)(xs:List Int):lexLt (x::xs) []=false:=rfl
theorem zban (A:Around)(s:Shared)(a:Int)(t:Tok)(c:Int)(u:Tok):∃e,SeqAt.EqAt A s (.int a t) (.int c u) e/\(e=true↔a=c) :=
 ⟨(a==c),SeqAt.EqAt.int_int a t c u,by simp⟩
theorem zyz (A:Around)(s:Shared)(a:Int)(t:Tok)(c:Int)(u:Tok)(prog:Program)(w:World)(E:Value->Shared->Prop)(Q:Value->Shared->Prop)(h:Q (.bool (decide (a < c))) s) :
  wpAny (model prog w) A (richCompare .Lt (.int a t) (.int c u)) Q E s :=
 (PyProof.Rows.lt_int h:wpAny (model prog w) A (compareOp .Lt (.int a t) (.int c u)) Q E s)
section
open PySem.SeqAt
open PySem.AutoSeq1 (wpAny_loadPart')
open PySem.MeetsSeq PySem.MeetsSeq2 PySem.MeetsSeq3
theorem zgz (l b:Addr)(items items2:Array Value)(n n2:Nat)(dd dd2:Option Addr)(sl sl2:Array (Option Value))(ns ms:List Int)(hi:IntsAre items.toList ns)(hj:IntsAre items2.toList ms) :
  Meets (Builtin.«tuple.__lt__» ⟨[.ref l,.ref b],[]⟩)
   (fun _ R s=>s.heap.get? l=some { cls:=.type "tuple", dict:=dd, data:=.seq items n, slots:=sl }/\s.heap.get? b=some { cls:=.type "tuple", dict:=dd2, data:=.seq items2 n2, slots:=sl2 } /\
    R (.ok (.ret (.bool (lexLt ns ms)))) s) :=
 .of_wp fun prog w A R s h=>by
  obtain⟨hp,g,d,tk,os⟩:=s;obtain⟨hl,hb,h⟩:=h
  have f2:=AutoSeq1.sub_tuple_tuple;have z1:items.size=ns.length:=by rw[← hi.length];simp
  have z2:items2.size=ms.length:=by rw[← hj.length];simp
  wp_walk using wpAny_loadPart' hl,wpAny_loadPart' hb,wpAny_forIn_list _ (fun rest b s'=>b.1=none/\s'=⟨hp,g,d,tk,os⟩/\∃(vs ws:List Value) (ns' ms':List Int),rest=vs.zip ws /\
   IntsAre vs ns'/\IntsAre ws ms'/\ns'.length+items2.size=ms'.length+items.size/\R (.ok (.ret (.bool (lexLt ns' ms')))) ⟨hp,g,d,tk,os⟩) _
  case turn =>
   rintro⟨y,x⟩ rest b s' ⟨hb',rfl,vs,ws,ns',ms',hz,hvi,hwi,hlen,hR⟩;cases hvi with
   | nil=>rw[List.zip_nil_left] at hz;cases hz
   | cons a t hvi' =>
    cases hwi with
    | nil=>rw[List.zip_nil_right] at hz;cases hz
    | cons c u hwi' =>
     rw[List.zip_cons_cons] at hz;injection hz with hyx hrest
     injection hyx with hy hx
     subst hy hx;rw[zde] at hR;simp only[xcg] at hlen;obtain⟨e,he,hiff⟩:=zban A.in1 ⟨hp,g,d,tk,os⟩ a t c u;refine xba (he prog w _ _ ?_);cases e with
     | true =>
      rw[if_pos (hiff.mp rfl)] at hR
      wp_walk
      exact⟨rfl,rfl,_,_,_,_,hrest,hvi',hwi',by lia,hR⟩
     | false =>
      rw[if_neg (fun q=>absurd (hiff.mpr q) xfh)] at hR;have hri:=zyz A.in1 ⟨hp,g,d,tk,os⟩ a t c u prog w
      wp_walk using hri
      exact⟨_,rfl,by simpa using hR⟩
  case fin =>
   rintro⟨b1,b2⟩ s' ⟨hb',rfl,vs,ws,ns',ms',hz,hvi,hwi,hlen,hR⟩;simp only at hb';subst hb';have hv:lexLt ns' ms'=decide (items.size < items2.size):=by
    cases hvi with
    | nil =>
     cases hwi with
     | nil =>
      simp only[xio] at hlen;rw[zei];exact(xbm (by lia)).symm
     | cons c u hw =>
      simp only[xio,xcg] at hlen;rw[zcr];exact(xcf (by lia)).symm
    | cons a t hv =>
     cases hwi with
     | nil =>
      simp only[xio,xcg] at hlen;rw[zdt];exact(xbm (by lia)).symm
     | cons c u hw =>
      rw[List.zip_cons_cons] at hz;cases hz
   rw[hv] at hR
   wp_walk
   exact⟨_,rfl,by simpa [Builtin.Tuple.tupleCompareSizes] using hR⟩
  case h =>
   exact⟨rfl,rfl,items.toList,items2.toList,ns,ms,rfl,hi,hj,by lia,h⟩
end
section
variable {prog:Program}{w:World}{A:Around}{E:Value->Shared->Prop}{s:Shared}
theorem zme {l b:Addr}{items items2:Array Value}{ns ms:List Int}{Q:Value->Shared->Prop}(hl:IsTup s.heap l items)(hb:IsTup s.heap b items2)(hi:IntsAre items.toList ns)(hj:IntsAre items2.toList ms)
  (hu:A.units < cLine)(h:Q (.bool (lexLt ns ms)) s):wpAny (model prog w) A (compareOp .Lt (.ref l) (.ref b)) Q E s:=by
 obtain⟨⟨cls,dd,data,sl⟩,ho,hc,n,hd⟩:=id hl;obtain⟨⟨cls2,dd2,data2,sl2⟩,ho2,hc2,n2,hd2⟩:=id hb;simp only at hc hd hc2 hd2;subst hc hd hc2 hd2;exact richCompare_meets_room (op:=.Lt) ⟨_,ho,rfl⟩ ⟨_,ho2,rfl⟩ xjt F.entry_tuple_lt (F.args_tuple_lt_2 _ _) (zgz l b items items2 n n2 dd dd2 sl sl2 ns ms hi hj)
  ⟨ho,ho2,show Value.bool (lexLt ns ms)≠Value.notImplemented/\Q (.bool (lexLt ns ms)) s from⟨(fun x=>nomatch x),h⟩⟩ hu
theorem zbfz {t b:Addr}{vs ws:List Value}{Q:Value->Shared->Prop}(ht:IsTup s.heap t vs.toArray)(hb:IsTup s.heap b ws.toArray)(hv:vs≠[])
  (h1:ws=[]->Q (.ref t) s)(h2:ws≠[]->Q (.ref s.heap.objs.size) { s with heap:=s.heap.push { cls:=.type "tuple", data:=.seq (vs++ws).toArray } })
  (hsz:vs.length+ws.length<=sizeLine):wpAny (model prog w) A (binaryOp .Add (.ref t) (.ref b)) Q E s:=by
 obtain⟨⟨cls,dd,data,sl⟩,ho,hc,n,hd⟩:=id ht;obtain⟨⟨cls2,dd2,data2,sl2⟩,ho2,hc2,n2,hd2⟩:=id hb;simp only at hc hd hc2 hd2;subst hc hd hc2 hd2;have e:vs.toArray++ws.toArray=(vs++ws).toArray:=by simp
 by_cases hw:ws=[]
 ·exact concat_meets ⟨_,ho,rfl⟩ ⟨_,ho2,rfl⟩ noFill_tuple_add seq_tuple_add xjm xjb (xix _ _)
   (tuple_addW1 t b vs.toArray ws.toArray n n2 dd dd2 sl sl2 (by simpa using hv) (by simp[hw])) ⟨ho,ho2,h1 hw⟩
 ·refine concat_meets ⟨_,ho,rfl⟩ ⟨_,ho2,rfl⟩ noFill_tuple_add seq_tuple_add xjm xjb (xix _ _)
   (tuple_addW2 t b vs.toArray ws.toArray n n2 dd dd2 sl sl2 (by simpa using hv) (by simpa using hw) (by rw[xbt,xbt];exact hsz)) ⟨ho,ho2,?_⟩
  rw[e];exact h2 hw
noncomputable def sIx (n d:Nat):Option Int->Nat
 | none=>d
 | some v=>if v < 0 then(v+(n:Int)).toNat else min v.toNat n
theorem zru (n d:Nat):sIx n d none=d:=rfl
theorem zxh (n d k:Nat):sIx n d (some (k:Int))=min k n:=by
 show(if(k:Int) < 0 then((k:Int)+(n:Int)).toNat else min (k:Int).toNat n)=min k n;rw[if_neg (by lia),xgo]
theorem zbhk (n d:Nat)(hd:d<=n)(o:Option Int):sIx n d o<=n:=by
 cases o with
 | none=>exact hd
 | some v =>
  show(if v < 0 then(v+(n:Int)).toNat else min v.toNat n)<=n;by_cases hv:v < 0
  ·rw[if_pos hv];lia
  ·rw[if_neg hv];exact xia _ _
theorem zyd (v:Int)(n d:Nat):(if v < 0 then max (v+(n:Int)) 0 else min v (n:Int))=((sIx n d (some v):Nat):Int):=by
 show(if v < 0 then max (v+(n:Int)) 0 else min v (n:Int))=(((if v < 0 then(v+(n:Int)).toNat else min v.toNat n):Nat):Int)
 by_cases hv:v < 0
 ·simp only[if_pos hv];lia
 ·simp only[if_neg hv];lia
theorem zuh (lo hi:Option Int)(n:Nat):Builtin.Slice.sliceAdjust lo hi 1 (n:Int)=(((sIx n 0 lo:Nat):Int),((sIx n n hi:Nat):Int)):=by
 have h1:¬ ((1:Int) < 0):=by lia
 unfold Builtin.Slice.sliceAdjust;simp only[h1,xeo];refine Prod.ext ?_ ?_
 ·cases lo with
  | none=>rfl
  | some v=>exact zyd v n 0
 ·cases hi with
  | none=>rfl
  | some v=>exact zyd v n n
theorem zsg (i j:Nat):Builtin.Slice.slicePlaces (i:Int) (j:Int) 1=j - i:=by
 unfold Builtin.Slice.slicePlaces;have h1:(1:Int) > 0:=by lia
 simp only[h1,xfu,Int.ediv_one];split<;>lia
theorem zlv {v:Value}{o:Option Int}{Q:Option Int->Shared->Prop}(p:IsPart v o)(h:Q o s):wpAny (model prog w) A (Builtin.Slice.slicePartIndex v) Q E s:=by
 cases p with
 | none=>exact slicePart_none h
 | int i t=>exact slicePart_int h
theorem zed {sl:Addr}{vl vu:Value}{lo hi:Option Int}{n:Nat}{Q:Int×Int×Nat->Shared->Prop}(hs:s.heap.IsSliceOf sl vl vu .none)(pl:IsPart vl lo)(pu:IsPart vu hi)
  (h:Q (((sIx n 0 lo:Nat):Int),1,sIx n n hi - sIx n 0 lo) s):wpAny (model prog w) A (Builtin.Slice.sliceApplied (.ref sl) (pure (n:Int))) Q E s:=by
 obtain⟨os,hos,hcs,hds⟩:=id hs;unfold Builtin.Slice.sliceApplied Builtin.Slice.sliceFields;refine xba (xba (xgf hos hds (x:=vl) rfl (xba (xgf hos hds (x:=vu) rfl (xba (xgf hos hds (x:=.none) rfl (xbd ?_)))))));refine xba (slicePart_none ?_);show wpAny _ _ (if((1:Int)==0)=true then _ else _) _ _ s;rw[if_neg (by decide)];refine xba (zlv pl (xba (zlv pu (xba (xbd ?_)))));show wpAny _ _ (match Builtin.Slice.sliceAdjust lo hi 1 (n:Int) with | (lo,hi)=>pure (lo,(1:Int),Builtin.Slice.slicePlaces lo hi 1)) _ _ s;rw[zuh lo hi n];show wpAny _ _ (pure (((sIx n 0 lo:Nat):Int),(1:Int),Builtin.Slice.slicePlaces ((sIx n 0 lo:Nat):Int) ((sIx n n hi:Nat):Int) 1)) _ _ s;rw[zsg];exact xbd h
theorem zzl (xs:Array Value)(i k:Nat):((List.range k).filterMap fun(m:Nat)=>xs[((i:Int)+(m:Int) * 1).toNat]?).toArray=((xs.toList.drop i).take k).toArray:=by
 have e:(fun(m:Nat)=>xs[((i:Int)+(m:Int) * 1).toNat]?)=fun m=>xs[i+m]?:=by
  funext m
  have:((i:Int)+(m:Int) * 1).toNat=i+m:=by lia
  rw[this]
 rw[e];have:=pick_run xs i k;rw[List.filterMap_map] at this;have e2:((fun x=>xs[x]?) ∘ fun x=>i+x)=fun m=>xs[i+m]?:=rfl
 rw[e2] at this;rw[this]
theorem zhk {t sl:Addr}{items:Array Value}{vl vu:Value}{lo hi:Option Int}{Q:Value->Shared->Prop}(ht:IsTup s.heap t items)(hs:s.heap.IsSliceOf sl vl vu .none)(pl:IsPart vl lo)(pu:IsPart vu hi)
  (hw:¬ (sIx items.size 0 lo=0/\sIx items.size items.size hi=items.size))
  (h:Q (.ref s.heap.objs.size) { s with heap:=s.heap.push { cls:=.type "tuple", data:=.seq ((items.toList.drop (sIx items.size 0 lo)).take (sIx items.size items.size hi - sIx items.size 0 lo)).toArray } })
  (hsz:items.size<=sizeLine):wpAny (model prog w) A (getItem (.ref t) (.ref sl)) Q E s:=by
 have htake:sizeOk (.seq ((items.toList.drop (sIx items.size 0 lo)).take (sIx items.size items.size hi - sIx items.size 0 lo)).toArray):=by
  show((items.toList.drop (sIx items.size 0 lo)).take (sIx items.size items.size hi - sIx items.size 0 lo)).toArray.size<=sizeLine;rw[xbt,xcy,xed,xcb];lia
 have hj:sIx items.size items.size hi<=items.size:=zbhk _ _ (xbf _) hi;obtain⟨os,hos,hcs,hds⟩:=id hs;have hTs:s.TypeIs (.ref sl) "slice":=⟨os, hos, hcs⟩
 unfold getItem
 try with_reducible refine xdg ?_
 first | refine xba (xbd ?_) | skip
 refine xba (wpAny_sequenceKey ht.typeIs (by decide) ?_)
 refine xba (wpAny_callSpecial?_slot (name:=Str.ofString "__getitem__") ht.typeIs xha
  (xff xha ht.typeIs entry_tuple_getitem ?_ (args_tuple_getitem _ _)))
 show wpAny _ _ (Builtin.Tuple.tupleItemsOf (.ref t) >>= _) _ _ s;refine xba (tupleItemsOf_ ht ?_);refine xba (wpAny_typeOf hTs ?_);rw[if_pos (by decide)];refine xba (zed hs pl pu ?_);have hno:¬ ((((sIx items.size 0 lo:Nat):Int)==0&&(1:Int)==1&&(sIx items.size items.size hi - sIx items.size 0 lo)==items.size)=true):=by
  intro q;rw[xem,xem] at q;have q1:((sIx items.size 0 lo:Nat):Int)=0:=eq_of_beq q.1.1;have q2:sIx items.size items.size hi - sIx items.size 0 lo=items.size:=eq_of_beq q.2;exact hw ⟨by lia,by lia⟩
 show wpAny _ _ (if(((sIx items.size 0 lo:Nat):Int)==0&&(1:Int)==1&&(sIx items.size items.size hi - sIx items.size 0 lo)==items.size)=true then _ else _) _ _ s;rw[if_neg hno,zzl]
 first
  | exact xba (m:=Builtin.Tuple.tupleExact _) (xdp (xbd ⟨_,rfl,xbd h⟩) htake)
  | exact xba (m:=Builtin.Tuple.tupleExact _) (xdp (xba (xbd (xbd ⟨_,rfl,xbd h⟩))) htake)
  | exact xba (xba (m:=Builtin.Tuple.tupleExact _) (xdp (xbd (xbd ⟨_,rfl,xbd h⟩)) htake))
  | exact xba (xba (m:=Builtin.Tuple.tupleExact _) (xdp (xbd ⟨_,rfl,xbd h⟩) htake))
end
end HT
namespace L2
open PySem PySem.Spec PyProof.Rows
noncomputable abbrev TO:=St->Hp->(Option Int->Hp->Prop)->Prop
noncomputable def PO (X:Cx) (e:Option Expr) (t:TO):Prop :=
 ∀(aA:List (Addr×Obj)) (s:Shared) (σ:St) (H:Hp) (Q:Option Int->Hp->Prop),Inv X aA σ H s->t σ H Q ->
  wpAny (model X.prog X.w) X.A (evalPart e X.env) (fun u s'=>∃o H',Inv X aA σ H' s'/\IsPart u o/\Q o H') X.xe s
noncomputable def tNoPart:TO:=fun _ H Q=>Q none H
noncomputable def tPart (t:TE):TO:=fun σ H Q=>t σ H fun x H1=>∃i,x=.int i/\Q (some i) H1
theorem zfz {ns:List Int}:∀{us:List Value},Vals (ns.map V.int) us->IntsAre us ns:=by
 induction ns with
 | nil=>intro us r;rw[xkz] at r;cases r;exact .nil
 | cons n ns ih =>
  intro us r;rw[xbp] at r;cases r with
  | cons r1 r2 =>
   obtain⟨t,e⟩:=r1;subst e;exact .cons n t (ih r2)
section
variable {X:Cx}{e:Expr}{te:TE}{lo hi:Option Expr}{tl th:TO}{pos p2:Pos}
theorem zbdd:PO X none tNoPart:=by
 intro aA s σ H Q I h;rw[evalPart_none];exact xbd ⟨none,H,I,.none,h⟩
theorem zbdc (h:PE X e te):PO X (some e) (tPart te):=by
 intro aA s σ H Q I hw;rw[evalPart_some];refine thn (h aA s σ H _ I hw) fun u s1 hq0=>?_
 obtain⟨x,H1,I1,r1,q1⟩:=hq0;obtain⟨i,rfl,q⟩:=q1;obtain⟨t,rfl⟩:=r1;exact⟨some i,H1,I1,.int i t,q⟩
noncomputable def SlR (X:Cx) (r:V->Option Int->Option Int->Hp->VK->Prop):Prop :=
 ∀(aA:List (Addr×Obj)) (s:Shared) (σ:St) (H:Hp) (x:V) (v vl vu:Value) (lo hi:Option Int) (sl:Addr) (Q:VK),Inv X aA σ H s->RelV x v->s.heap.IsSliceOf sl vl vu .none->IsPart vl lo->IsPart vu hi->r x lo hi H Q ->
  ∃ T id, typeLookup (.type T) "__getitem__"=pure (some (.builtin id))/\s.TypeIs v T/\wpAny (model X.prog X.w) X.A (getItem v (.ref sl)) (EP X aA σ Q) X.xe s
theorem SlR.or {r r':V->Option Int->Option Int->Hp->VK->Prop}(h:SlR X r)(h':SlR X r'):SlR X (fun x lo hi H Q=>r x lo hi H Q\/r' x lo hi H Q):=by
 intro aA s σ H x v vl vu lo hi sl Q I rx hs pl pu q;rcases q with q | q
 ·exact h aA s σ H x v vl vu lo hi sl Q I rx hs pl pu q
 ·exact h' aA s σ H x v vl vu lo hi sl Q I rx hs pl pu q
noncomputable def tSl (r:V->Option Int->Option Int->Hp->VK->Prop) (te:TE) (tl th:TO):TE:=fun σ H Q=>te σ H fun x H1=>tl σ H1 fun l H2=>th σ H2 fun u H3=>r x l u H3 Q
theorem zzm {r:V->Option Int->Option Int->Hp->VK->Prop}(hr:SlR X r)(he:PE X e te)(hl:PO X lo tl)(hu:PO X hi th):PE X (.Subscript e (.Slice lo hi none p2) pos) (tSl r te tl th):=by
 intro aA s σ H Q I h;refine Subscript_ (thn (he aA s σ H _ I h) fun v s1 hq0=>?_);obtain⟨x,H1,I1,r1,q1⟩:=hq0;refine wpAny_Slice (thn (hl aA s1 σ H1 _ I1 q1) fun vl s2 ⟨l,H2,I2,pl,q2⟩=>thn (hu aA s2 σ H2 _ I2 q2) fun vu s3 hq0=>?_);obtain⟨u,H3,I3,pu,q3⟩:=hq0;rw[evalPart_none];refine xbd ?_;have I4:Inv X aA σ H3 { s3 with heap:=s3.heap.push { cls:=.type "slice", data:=.fields #[vl, vu, .none] } }:=I3.kept (t':=s3.toks) fun b ob q=>xbc _ q
 obtain⟨T, id, hT, ht, hg⟩:=hr aA { s3 with heap:=s3.heap.push { cls:=.type "slice", data:=.fields #[vl, vu, .none] } } σ H3 x v vl vu l u s3.heap.objs.size Q I4 r1 (Heap.IsSliceOf.new ..) pl pu q3
 show wpAny (model X.prog X.w) X.A (subscriptTail e (.Slice lo hi none p2) v (.ref s3.heap.objs.size)) (EP X aA σ Q) X.xe { s3 with heap:=s3.heap.push { cls:=.type "slice", data:=.fields #[vl, vu, .none] } }
 exact tail_any (ops:=[.ref s3.heap.objs.size,v]) ht hT hg (by with_unfolding_all rfl)
noncomputable def cutV (xs:List V) (lo hi:Option Int):List V:=(xs.drop (HT.sIx xs.length 0 lo)).take (HT.sIx xs.length xs.length hi - HT.sIx xs.length 0 lo)
theorem zkm (xs:List V)(lo hi:Option Int):(cutV xs lo hi).length<=xs.length:=by
 unfold cutV;rw[xcy,xed];lia
noncomputable def rSlT (K:Fg):V->Option Int->Option Int->Hp->VK->Prop:=fun x lo hi H Q=>∃a xs,x=.ref a/\SqT K H a xs /\
 ¬ (HT.sIx xs.length 0 lo=0/\HT.sIx xs.length xs.length hi=xs.length)/\∀p,H p=none->Q (.ref p) (upd H p (.tup (cutV xs lo hi)))
theorem zbhe:SlR X (rSlT X.K):=by
 intro aA s σ H x v vl vu lo hi sl Q I rx hs pl pu h;obtain⟨a,xs,rfl,hx,hw,q⟩:=h;cases rx;obtain⟨its,r,ht,hz⟩:=I.tuple hx;have hlen:its.toArray.size=xs.length:=by rw[xbt];exact r.length.symm
 refine⟨"tuple", _, xha.lookup, ht.typeIs, ?_⟩
 refine HT.zhk ht hs pl pu (by rw[hlen];exact hw) ?_ (by rw[hlen];exact hz);rw[hlen];refine⟨.ref s.heap.objs.size,_,I.laid (t':=s.toks) (o:=.tup (cutV xs lo hi)) (fun b ob q=>xbc _ q) (xbf _) ?_,rfl,q _ (I.hok.fresh (xbf _))⟩;exact⟨xbb (zkm xs lo hi) hz,_,(r.drop (HT.sIx xs.length 0 lo)).take (HT.sIx xs.length xs.length hi - HT.sIx xs.length 0 lo),IsTup.new _ _⟩
noncomputable def rLtT (K:Fg):R2:=fun x y H Q=>∃a b ns ms,x=.ref a/\y=.ref b/\SqT K H a (ns.map V.int)/\SqT K H b (ms.map V.int)/\Q (.bl (HT.lexLt ns ms)) H
theorem zbii (hu:X.A.units < cLine):OpR X (compareOp .Lt) (rLtT X.K):=by
 intro aA s σ H x y v u Q I rx ry h;obtain⟨a,b,ns,ms,rfl,rfl,ha,hb,q⟩:=h;cases rx;cases ry;obtain⟨its,r1,p1,_⟩:=I.tuple ha;obtain⟨its2,r2,p2,_⟩:=I.tuple hb;have i1:IntsAre its.toArray.toList ns:=zfz r1;have i2:IntsAre its2.toArray.toList ms:=zfz r2;exact HT.zme p1 p2 i1 i2 hu ⟨.bl (HT.lexLt ns ms),H,I,rfl,q⟩
noncomputable def rCatT (K:Fg):R2:=fun x y H Q=>∃a b xs ys,x=.ref a/\y=.ref b/\SqT K H a xs/\SqT K H b ys/\xs≠[]/\xs.length+ys.length<=sizeLine /\
 (ys=[]->Q (.ref a) H)/\(ys≠[]->∀p,H p=none->Q (.ref p) (upd H p (.tup (xs++ys))))
theorem Vals.nil_iff {xs:List V}{us:List Value}(r:Vals xs us):us=[]↔xs=[]:=by
 cases r with
 | nil=>simp
 | cons _ _=>simp
theorem zbds:OpR X (binaryOp .Add) (rCatT X.K):=by
 intro aA s σ H x y v u Q I rx ry h;obtain⟨a,b,xs,ys,rfl,rfl,ha,hb,hx,hz,q1,q2⟩:=h;cases rx;cases ry;obtain⟨its,r1,p1,_⟩:=I.tuple ha;obtain⟨its2,r2,p2,_⟩:=I.tuple hb;refine HT.zbfz p1 p2 (fun z=>hx (r1.nil_iff.mp z)) (fun z=>⟨.ref a,H,I,rfl,q1 (r2.nil_iff.mp z)⟩) (fun z=>?_) (by rw[← r1.length,← r2.length];exact hz);refine⟨.ref s.heap.objs.size,_,I.laid (t':=s.toks) (o:=.tup (xs++ys)) (fun b ob q=>xbc _ q) (xbf _) ?_,rfl,q2 (fun w=>z (r2.nil_iff.mpr w)) _ (I.hok.fresh (xbf _))⟩;exact⟨by rw[xbq];exact hz,_,r1.append r2,IsTup.new _ _⟩
end
noncomputable def ixN (n:Nat) (i:Int):Option Nat:=if 0<=i then(if i < n then some i.toNat else none) else if -(n:Int)<=i then some (i+n).toNat else none
noncomputable def atI {α:Type} (xs:List α) (i:Int):Option α:=(ixN xs.length i).bind fun j=>xs[j]?
theorem zxp {n:Nat}{i:Int}{j:Nat}(h:ixN n i=some j):seqIndex? i n=some j/\j < n/\-(n:Int)<=i/\i < n:=by
 unfold ixN at h;by_cases h0:0<=i
 ·rw[if_pos h0] at h;by_cases h1:i < n
  ·rw[if_pos h1] at h;have e:i.toNat=j:=xbw h;exact⟨by rw[seqIndex_of h0 h1,e],by lia,by lia,h1⟩
  ·rw[if_neg h1] at h;cases h
 ·rw[if_neg h0] at h;by_cases h1:-(n:Int)<=i
  ·rw[if_pos h1] at h;have e:(i+n).toNat=j:=xbw h;exact⟨by rw[seqIndex_neg (by lia) h1,e],by lia,h1,by lia⟩
  ·rw[if_neg h1] at h;cases h
theorem zue {α:Type}{xs:List α}{i:Int}{v:α}(h:atI xs i=some v):∃j,seqIndex? i xs.length=some j/\xs[j]?=some v/\j < xs.length/\-(xs.length:Int)<=i/\i < xs.length:=by
 unfold atI at h;cases e:ixN xs.length i with
 | none=>rw[e] at h;cases h
 | some j =>
  rw[e] at h;obtain⟨h1,h2,h3,h4⟩:=zxp e;exact⟨j,h1,h,h2,h3,h4⟩
theorem zmt {α:Type}{xs:List α}{j:Nat}{v:α}(h:xs[j]?=some v):atI xs (j:Int)=some v:=by
 have hj:j < xs.length:=(xbk.mp h).1;have e:ixN xs.length (j:Int)=some j:=by
  unfold ixN;rw[if_pos (by lia),if_pos (by lia)];simp
 unfold atI;rw[e];exact h
noncomputable def PlainIx (b:Expr):Prop:=∀o i,subscripted b false o i=operate [o,i] (getItem o i)
noncomputable def IxR (X:Cx) (r:R2):Prop :=
 ∀(value slice:Expr) (aA:List (Addr×Obj)) (s:Shared) (σ:St) (H:Hp) (x y:V) (v u:Value) (Q:VK),Inv X aA σ H s->RelV x v->RelV y u->r x y H Q ->
  subscripted slice false v u=operate [v,u] (getItem v u)->wpAny (model X.prog X.w) X.A (subscriptTail value slice v u) (EP X aA σ Q) X.xe s
noncomputable def MtR (X:Cx) (id:String) (r:V->List V->Hp->VK->Prop):Prop :=
 ∀(aA:List (Addr×Obj)) (s:Shared) (σ:St) (H:Hp) (x:V) (xs:List V) (v:Value) (us:List Value) (Q:VK),Inv X aA σ H s->RelV x v->Vals xs us->r x xs H Q ->
  wpAny (model X.prog X.w) X.A (call (.builtin id) (v::us)) (EP X aA σ Q) X.xe s
section
variable {X:Cx}{a b:Expr}{ta tb:TE}{pos:Pos}
theorem IxR.or {r r':R2}(h:IxR X r)(h':IxR X r'):IxR X (fun x y H Q=>r x y H Q\/r' x y H Q):=by
 intro value slice aA s σ H x y v u Q I rx ry q hs;rcases q with q | q
 ·exact h value slice aA s σ H x y v u Q I rx ry q hs
 ·exact h' value slice aA s σ H x y v u Q I rx ry q hs
theorem zbme {r:R2}(hr:IxR X r)(ha:PE X a ta)(hb:PE X b tb)(hs:PlainIx b):PE X (.Subscript a b pos) (tOp r ta tb):=by
 intro aA s σ H Q I h;exact Subscript_ (binT ha hb I h fun v u s2 x y H2 I2 rx ry q=>hr a b aA s2 σ H2 x y v u Q I2 rx ry q (hs _ _))
noncomputable def rIxL (K:Fg):R2:=fun x y H Q=>∃p xs i v,x=.ref p/\y=.int i/\SqL K H p xs/\atI xs i=some v/\Q v H
noncomputable def rIxT (K:Fg):R2:=fun x y H Q=>∃p xs i v,x=.ref p/\y=.int i/\SqT K H p xs/\atI xs i=some v/\Q v H
noncomputable def rIxS:R2:=fun x y H Q=>∃z i c,x=.str z/\y=.int i/\z.length<=sizeLine/\atI z.cps.toList i=some c/\Q (.str ⟨#[c]⟩) H
theorem zbeg:IxR X (rIxL X.K):=by
 intro value slice aA s σ H x y v u Q I rx ry h hs;obtain⟨p,xs,i,z,rfl,rfl,hq,he,q⟩:=h;cases rx;obtain⟨t,rfl⟩:=ry;obtain⟨its,r,pl,hz⟩:=I.list hq;obtain⟨j,h1,h2,h3,h4,h5⟩:=zue he;obtain⟨w,ew,rw'⟩:=r.get h2;have hl:=r.length;have hn:=line63;have fin:EP X aA σ Q w s:=⟨z,H,I,rw',q⟩
 by_cases h0:0<=i
 ·have hj:i.toNat=j:=by
   rw[seqIndex_of h0 h5] at h1;exact xbw h1
  exact item_listR pl.isList h0 (by lia) (by rw[hj];simpa using ew) fin hs
 ·have hj:(i+(its.toArray.size:Int)).toNat=j:=by
   rw[seqIndex_neg (by lia) h4] at h1;rw[xbt,← hl];exact xbw h1
  exact subscriptTail_builtinR (x:=w) pl.isList.typeIs slot_list_getitem.lookup
   (wpAny_getItem_list_neg (Q:=fun r s'=>r=w/\EP X aA σ Q r s') pl.isList (by lia) (by rw[xbt]<;>lia) (by lia) (by rw[hj];simpa using ew) ⟨rfl,fin⟩) hs
theorem zbix:IxR X (rIxT X.K):=by
 intro value slice aA s σ H x y v u Q I rx ry h hs;obtain⟨p,xs,i,z,rfl,rfl,hq,he,q⟩:=h;cases rx;obtain⟨t,rfl⟩:=ry;obtain⟨its,r,pl,hz⟩:=I.tuple hq;obtain⟨j,h1,h2,h3,h4,h5⟩:=zue he;obtain⟨w,ew,rw'⟩:=r.get h2;have hl:=r.length;have hn:=line63;have fin:EP X aA σ Q w s:=⟨z,H,I,rw',q⟩
 exact subscriptTail_builtinR (x:=w) pl.typeIs xiz.lookup
  (getItem_tuple (j:=j) (Q:=fun r s'=>r=w/\EP X aA σ Q r s') pl (by lia) (by lia) (by rw[xbt,← hl];exact h1) (by simpa using ew) ⟨rfl,fin⟩) hs
theorem zbiy:IxR X rIxS:=by
 intro value slice aA s σ H x y v u Q I rx ry h hs;obtain⟨z,i,c,rfl,rfl,hz,he,q⟩:=h;obtain⟨t,rfl⟩:=rx;obtain⟨t',rfl⟩:=ry;obtain⟨j,h1,h2,h3,h4,h5⟩:=zue he;have hl:z.cps.toList.length=z.length:=by simp[Str.length]
 rw[hl] at h1 h4 h5;have hn:=line63
 exact tail_any (typeIs_str s z t) slot_str_getitem.lookup (getItem_str (c:=c) (by
  have e1:decide (i < -(2 ^ 63:Int))=false:=xbm (by lia);have e2:decide (i ≥ 2 ^ 63)=false:=xbm (by lia)
  rw[e1,e2,Bool.or_false]) (by rw[h1];simpa using h2) ⟨.str ⟨#[c]⟩,H,I.tok _,⟨_,rfl⟩,q⟩) hs
noncomputable def rIx (K:Fg):R2:=fun x y H Q=>rIxL K x y H Q\/rIxT K x y H Q\/rIxS x y H Q
theorem zbiz:IxR X (rIx X.K):=zbeg.or (zbix.or zbiy)
theorem zsv (its:List Value)(n j:Nat)(u:Value):Obj.mapSeq (·.setIfInBounds j u) { cls:=.type "list", data:=.seq its.toArray n }={ cls:=.type "list", data:=.seq (its.set j u).toArray n }:=by
 simp[Obj.mapSeq]
theorem Inv.lst {aA:List (Addr×Obj)}{σ:St}{H:Hp}{s:Shared}{p:Addr}{xs:List V}(I:Inv X aA σ H s)(h:H p=some (.lst xs)) :
  ∃(its:List Value) (n:Nat), Vals xs its/\s.heap.get? p=some { cls:=.type "list", data:=.seq its.toArray n }/\xs.length<=sizeLine:=by
 obtain⟨z,its,n,r,e⟩:=I.hok p _ h;exact⟨its,n,r,e,z⟩
theorem Inv.lstUpd {aA:List (Addr×Obj)}{σ:St}{H:Hp}{s:Shared}{p:Addr}{xs ys:List V}{its its':List Value}{n n':Nat}{f:Obj->Obj}(I:Inv X aA σ H s)(h:H p=some (.lst xs))
  (ho:s.heap.get? p=some { cls:=.type "list", data:=.seq its.toArray n })(hf:f { cls:=.type "list", data:=.seq its.toArray n }={ cls:=.type "list", data:=.seq its'.toArray n' })(r:Vals ys its')(hz:ys.length<=sizeLine)(t:Nat) :
  Inv X aA σ (upd H p (.lst ys)) {s with heap:=s.heap.update p f,toks:=t}:=by
 have e:(s.heap.update p f).get? p=some { cls:=.type "list", data:=.seq its'.toArray n' }:=by
  rw[xel f ho (by rw[hf]<;>rfl),hf]
 refine I.write (x:=p) (e:=p) (by rw[h];trivial) (.inl rfl) (fun b u hb q=>(xcp _ _ (xgb hb)).trans q) ⟨_,e⟩ ?_;exact⟨hz,its',n',r,e⟩
noncomputable def rSetL:V->V->V->Hp->(Hp->Prop)->Prop:=fun o i v H Q=>∃p xs k j,o=.ref p/\i=.int k/\H p=some (.lst xs)/\ixN xs.length k=some j/\Q (upd H p (.lst (xs.set j v)))
theorem zyt:PSet X rSetL:=by
 intro aA s σ H o i v ov iv u Q I ro ri rv h;obtain⟨p,xs,k,j,rfl,rfl,hp,hj,q⟩:=h;cases ro;obtain⟨t,rfl⟩:=ri;obtain⟨its,n,r,ho,hz⟩:=I.lst hp;obtain⟨h1,h2,h3,h4⟩:=zxp hj;have hl:=r.length;have hn:=line63;have I':Inv X aA σ (upd H p (.lst (xs.set j v))) {s with heap:=s.heap.update p (Obj.mapSeq (·.setIfInBounds j u))} :=
  I.lstUpd hp ho (zsv its n j u) (r.set rv j) (by rw[xeb];exact hz) s.toks
 by_cases h0:0<=k
 ·have hk:k.toNat=j:=by
   rw[seqIndex_of h0 h4] at h1;exact xbw h1
  exact W.ki_setAt ho h0 (by lia) (by rw[xbt,← hl];exact h4) (by rw[hk];exact⟨_,I',q⟩)
 ·have hk:(k+(its.toArray.size:Int)).toNat=j:=by
   rw[seqIndex_neg (by lia) h3] at h1;rw[xbt,← hl];exact xbw h1
  exact W.ki_setBack ho (by lia) (by rw[xbt,← hl];exact h3) (by lia) (by rw[hk];exact⟨_,I',q⟩)
theorem znd (lo hi:Option Int)(n:Nat):(sliceBounds lo hi none n).1=((HT.sIx n 0 lo:Nat):Int)/\(sliceBounds lo hi none n).2.1=((HT.sIx n n hi:Nat):Int)/\(sliceBounds lo hi none n).2.2=1:=by
 refine⟨?_,?_,rfl⟩
 ·cases lo with
  | none=>simp[sliceBounds,HT.sIx]
  | some i =>
   simp only[sliceBounds,HT.sIx,Option.getD_none,show(1:Int) > 0 by decide,xfu];by_cases h:i < 0
   ·simp only[h,xfu]<;>lia
   ·simp only[h,xeo]<;>lia
 ·cases hi with
  | none=>simp[sliceBounds,HT.sIx]
  | some i =>
   simp only[sliceBounds,HT.sIx,Option.getD_none,show(1:Int) > 0 by decide,xfu];by_cases h:i < 0
   ·simp only[h,xfu]<;>lia
   ·simp only[h,xeo]<;>lia
theorem zlu (its:List Value)(lo hi:Option Int):slicePick its.toArray lo hi none=((its.drop (HT.sIx its.length 0 lo)).take (HT.sIx its.length its.length hi - HT.sIx its.length 0 lo)).toArray:=by
 obtain⟨h1,h2,h3⟩:=znd lo hi its.toArray.size;unfold slicePick;rw[h1,h2,h3];simp only[sliceRange_one,pick_run,xbt]<;>rfl
noncomputable def rSlL (K:Fg):V->Option Int->Option Int->Hp->VK->Prop:=fun x lo hi H Q=>∃a xs,x=.ref a/\SqL K H a xs/\∀p,H p=none->Q (.ref p) (upd H p (.lst (cutV xs lo hi)))
theorem zbcn:SlR X (rSlL X.K):=by
 intro aA s σ H x v vl vu lo hi sl Q I rx hs pl pu h;obtain⟨a,xs,rfl,hx,q⟩:=h;cases rx;obtain⟨its,r,ht,hz⟩:=I.list hx;have hlen:=r.length;refine⟨"list", _, slot_list_getitem.lookup, ht.isList.typeIs, ?_⟩
 refine wpAny_getItem_list_slice ht.isList hs pl pu .none (by simp) ?_ (by rw[xbt]<;>lia);rw[zlu,← hlen];refine⟨.ref s.heap.objs.size,_,I.laid (t':=s.toks) (o:=.lst (cutV xs lo hi)) (fun b ob q=>xbc _ q) (xbf _) ?_,rfl,q _ (I.hok.fresh (xbf _))⟩;exact⟨xbb (zkm xs lo hi) hz,_,0,(r.drop (HT.sIx xs.length 0 lo)).take (HT.sIx xs.length xs.length hi - HT.sIx xs.length 0 lo),xbv _ rfl⟩
theorem zbk:CallR X (.builtin "len") (fun xs H Q=>∃ p ys, xs=[.ref p]/\(SqL X.K H p ys\/SqT X.K H p ys)/\Q (.int ys.length) H):=by
 intro aA s σ H xs us Q I r h;obtain⟨p,ys,rfl,hq,q⟩:=h;obtain⟨u,rfl,rx⟩:=vals1 r;cases rx;have hn:=line63;rcases hq with hq | hq
 ·obtain⟨its,r',pl,hz⟩:=I.list hq;have hlen:=r'.length;exact Calls.call_len_list pl.isList (by simp only[xbt]<;>lia) ⟨.int ys.length,H,I.tok _,⟨s.toks+1,by rw[xbt,hlen]⟩,q⟩
 ·obtain⟨its,r',pl,hz⟩:=I.tuple hq;have hlen:=r'.length;exact len_tuple pl (by simp only[xbt]<;>lia) ⟨.int ys.length,H,I.tok _,⟨s.toks+1,by rw[xbt,hlen]⟩,q⟩
theorem CallR.or {f:Value}{r r':List V->Hp->VK->Prop}(h:CallR X f r)(h':CallR X f r'):CallR X f (fun xs H Q=>r xs H Q\/r' xs H Q):=by
 intro aA s σ H xs us Q I rs q;rcases q with q | q
 ·exact h aA s σ H xs us Q I rs q
 ·exact h' aA s σ H xs us Q I rs q
theorem zfn:CallR X (.type "list") (fun xs H Q=>∃ p ys, xs=[.ref p]/\(SqL X.K H p ys\/SqT X.K H p ys)/\∀ l, H l=none->Q (.ref l) (upd H l (.lst ys))):=by
 intro aA s σ H xs us Q I r h;obtain⟨p,ys,rfl,hq,q⟩:=h;obtain⟨u,rfl,rx⟩:=vals1 r;cases rx;have fin:∀(its:List Value),Vals ys its->ys.length<=sizeLine->∀(h':Heap) (c':Nat),(∀b o',s.heap.get? b=some o'->h'.get? b=some o') ->
   h'.get? s.heap.objs.size=some { cls:=.type "list", dict:=none, data:=.seq its.toArray c', slots:=#[] }->EP X aA σ Q (.ref s.heap.objs.size) { s with heap:=h' }:=fun its r' hz h' c' kp e =>
  ⟨.ref s.heap.objs.size,_,I.laid (t':=s.toks) kp (xbf _) (show ObjOk X.prog X.w _ h' _ (.lst ys) from⟨hz,its,c',r',e⟩),rfl,q _ (I.hok.fresh (xbf _))⟩
 rcases hq with hq | hq
 ·obtain⟨its,r',pl,hz⟩:=I.list hq;have hlen:=r'.length;obtain⟨o,ho,hc,n,hd⟩:=pl.isList;exact call_list_seq p (.inl rfl) ho hc hd (fun h' c' kp e=>fin its r' hz h' c' kp e) (by simp only[xbt]<;>lia)
 ·obtain⟨its,r',pl,hz⟩:=I.tuple hq;have hlen:=r'.length;obtain⟨o,ho,hc,n,hd⟩:=pl;exact call_list_seq p (.inr rfl) ho hc hd (fun h' c' kp e=>fin its r' hz h' c' kp e) (by simp only[xbt]<;>lia)
theorem zcp:CallR X (.type "tuple") (fun xs H Q=>∃ p ys, xs=[.ref p]/\((SqL X.K H p ys/\∀ l, H l=none->Q (.ref l) (upd H l (.tup ys)))\/(SqT X.K H p ys/\Q (.ref p) H))):=by
 intro aA s σ H xs us Q I r h;obtain⟨p,ys,rfl,h⟩:=h;obtain⟨u,rfl,rx⟩:=vals1 r;cases rx;rcases h with⟨hq,q⟩ | ⟨hq,q⟩
 ·obtain⟨its,r',pl,hz⟩:=I.list hq;have hlen:=r'.length;refine call_tuple_list pl.isList (fun h' kp=>?_) (by simp only[xbt]<;>lia);have I1:Inv X aA σ H {s with heap:=h'}:=I.kept (t':=s.toks) kp;have I2:Inv X aA σ (upd H h'.objs.size (.tup ys)) { s with heap:=h'.push { cls:=.type "tuple", data:=.seq its.toArray } } :=
   I1.laid (t':=s.toks) (fun b o e=>xbc _ e) (xbf _) (show ObjOk X.prog X.w _ _ _ (.tup ys) from⟨hz,its,r',IsTup.new _ _⟩)
  exact⟨.ref h'.objs.size,_,I2,rfl,q _ (I1.hok.fresh (xbf _))⟩
 ·obtain⟨its,r',pl,hz⟩:=I.tuple hq;exact call_tuple_same pl ⟨.ref p,H,I,rfl,q⟩
noncomputable def tyV (K:Fg) (T:String) (x:V) (H:Hp):Prop:=match x with
 | .str _=>T="str"
 | .int _=>T="int"
 | .ref p=>(T="list"/\∃ xs, SqL K H p xs)\/(T="tuple"/\∃ o, K.lookup p=some o/\o.cls=.type "tuple"/\o.dict=none) \/
  (T="dict"/\((∃ kvs, H p=some (.dK kvs))\/∃ kvs, H p=some (.dT kvs)))\/(T="set"/\∃ S n, H p=some (.set S n))
 | _=>False
theorem zbha {aA:List (Addr×Obj)}{σ:St}{H:Hp}{s:Shared}{T:String}{x:V}{v:Value}(I:Inv X aA σ H s)(r:RelV x v)(ty:tyV X.K T x H) :
  s.TypeIs v T/\∀a,v=.ref a->∃ob,s.heap.get? a=some ob/\ob.dict=none:=by
 cases x with
 | str z =>
  obtain⟨t,rfl⟩:=r;cases(show T="str" from ty)
  exact⟨typeIs_str s z t,fun _ e=>nomatch e⟩
 | int i =>
  obtain⟨t,rfl⟩:=r;cases(show T="int" from ty)
  exact⟨typeIs_int s i t,fun _ e=>nomatch e⟩
 | ref p =>
  cases r;rcases ty with⟨rfl,xs,hq⟩ | ⟨rfl,o,hk,hc,hd⟩ | ⟨rfl,hk⟩ | ⟨rfl,S,n,hk⟩
  ·obtain⟨its,_,pl,_⟩:=I.list hq;refine⟨pl.isList.typeIs,fun a e=>?_⟩;cases e;obtain⟨o,n,e,c,hd,_⟩:=pl;exact⟨o,e,hd⟩
  ·refine⟨⟨o,I.kIn p o hk,hc⟩,fun a e=>?_⟩;cases e;exact⟨o,I.kIn _ o hk,hd⟩
  ·have z:∃o,s.heap.get? p=some o/\o.ExactDict:=by
    rcases hk with⟨kvs,hk⟩ | ⟨kvs,hk⟩
    ·obtain⟨_,_,_,_,o,_,_,e,ex,_⟩:=I.hok p _ hk;exact⟨o,e,ex⟩
    ·obtain⟨_,_,_,_,o,_,_,e,ex,_⟩:=I.hok p _ hk;exact⟨o,e,ex⟩
   obtain⟨o,e,ex⟩:=z;refine⟨⟨o,e,ex.1⟩,fun a e2=>?_⟩;cases e2;exact⟨o,e,ex.2.1⟩
  ·obtain⟨o,_,_,_,e,ex,_⟩:=I.hok p _ hk;refine⟨⟨o,e,ex.1⟩,fun a e2=>?_⟩;cases e2;exact⟨o,e,ex.2.1⟩
 | _=>exact False.elim ty
noncomputable def tBM (K:Fg) (T:String) (r:V->List V->Hp->VK->Prop) (to:TE) (t:TA):TE:=fun σ H Q=>to σ H fun x H1=>tyV K T x H1/\t σ H1 fun xs H2=>r x xs H2 Q
variable {o e:Expr}{es:List Expr}{to:TE}{t:TA}{name:Str}{apos cpos:Pos}{T id:String}{r:V->List V->Hp->VK->Prop}
theorem zbgq (pa:PlainAttrs T)(slot:Slot T name id)(hty:typeOf (.builtin id)=pure (.type "method_descriptor"))(hm:MtR X id r)(ho:PE X o to)(ha:PA X (e::es) t)
  (hbase:attributeBase o name X.env (eval o X.env)=eval o X.env:=by rfl)
  (hfew:((backTo cpos (starEach (e::es) X.env)).all (fun x=>!x.1)&&(backToKw cpos (keywordEach [] X.env)).all (fun x=>x.1.isSome)
   && decide ((e::es).length+([]:List Keyword).length+(if([]:List Keyword).isEmpty then 0 else 1) < 30))=true:=by rfl)
  (hline:(apos.endLine==cpos.line)=true:=by rfl)(hs:starEach (e::es) X.env=(false,eval e X.env)::starEach es X.env:=by rfl)(hplain:(backTo cpos (starEach es X.env)).any (·.1)=false:=by rfl) :
  PE X (.Call (.Attribute o name apos) (e::es) [] cpos) (tBM X.K T r to t):=by
 intro aA s σ H Q I h;refine wpAny_Call_method_late hbase hfew hline rfl (thn (ho aA s σ H _ I h) fun v s1 hq0=>?_);obtain⟨x,H1,I1,r1,ty,q1⟩:=hq0;obtain⟨h1,h2⟩:=zbha I1 r1 ty;refine⟨T,id,pa,slot,hty,h1,h2,?_⟩;have hA:=ha cpos aA s1 σ H1 _ I1 q1;rw[hs] at hA ⊢;refine xjn (by show(false||(backTo cpos (starEach es X.env)).any (·.1))=false;rw[hplain]<;>rfl) (xib ?_);exact thn hA fun us s2 ⟨vs,H2,I2,r2,q2⟩=>hm aA s2 σ H2 x vs v us Q I2 r1 r2 q2
/- xs.append(e),list.index on a module's tuple .. are MtR facts of 06m -/
end
noncomputable def MtM (X:Cx) (id:String) (r:V->List V->Hp->VK->Prop):Prop :=
 ∀(aA:List (Addr×Obj)) (s:Shared) (σ:St) (H:Hp) (x:V) (xs:List V) (v:Value) (us:List Value) (Q:VK),Inv X aA σ H s->RelV x v->Vals xs us->r x xs H Q ->
  wpAny (model X.prog X.w) X.A (call (.builtin id) (v::us)) (EP X aA σ Q) X.xe s
theorem Vals.one:∀{x:V} {us:List Value},Vals [x] us->∃u,us=[u]/\RelV x u
 | _,_,.cons r .nil=>⟨_,rfl,r⟩
section
variable {X:Cx}{aA:List (Addr×Obj)}{σ:St}{H:Hp}{s:Shared}{l b:Addr}{xs ys zs:List V}
theorem Inv.lset {its its':List Value}{n:Nat}{f:Array Value->Array Value}{t':Nat}(I:Inv X aA σ H s)(hH:H l=some (.lst xs))
  (e:s.heap.get? l=some { cls:=.type "list", data:=.seq its.toArray n })(hf:f its.toArray=its'.toArray)(hv:Vals ys its')(hz:ys.length<=sizeLine) :
  Inv X aA σ (upd H l (.lst ys)) {s with heap:=s.heap.update l (Obj.mapSeq f),toks:=t'}:=by
 have q:=PySem.IsL.update e f;rw[hf] at q;refine I.write (x:=l) (e:=l) (by rw[hH];exact trivial) (.inl rfl) (fun b' u hb hu=>(xcp s.heap (Obj.mapSeq f) (xgb hb)).trans hu) ⟨_,q⟩ ?_;exact⟨hz,its',_,hv,q⟩
theorem Inv.lnew {its:List Value}{t':Nat}(I:Inv X aA σ H s)(hv:Vals ys its)(hz:ys.length<=sizeLine) :
  Inv X aA σ (upd H s.heap.objs.size (.lst ys)) { s with heap:=s.heap.push { cls:=.type "list", data:=.seq its.toArray }, toks:=t' } :=
 I.laid (fun _ _ q=>xbc _ q) (xbf _) ⟨hz,its,0,hv,xbv _ rfl⟩
theorem Inv.fresh (I:Inv X aA σ H s):H s.heap.objs.size=none:=I.hok.fresh (xbf _)
theorem Inv.lstM (I:Inv X aA σ H s)(hH:H l=some (.lst xs)):xs.length<=sizeLine/\∃(its:List Value) (n:Nat), Vals xs its/\xs.length=its.length/\s.heap.get? l=some { cls:=.type "list", data:=.seq its.toArray n }:=by
 obtain⟨z,its,n,r,e⟩:=I.hok l _ hH;exact⟨z,its,n,r,r.length,e⟩
end
section
variable {X:Cx}
noncomputable def rAppend:V->List V->Hp->VK->Prop:=fun x vs H Q=>∃l xs y,x=.ref l/\vs=[y]/\H l=some (.lst xs)/\xs.length < sizeLine/\Q .non (upd H l (.lst (xs++[y])))
theorem zpb:MtM X "list.append" rAppend:=by
 intro aA s σ H x vs v us Q I rx rv h;obtain⟨l,xs,y,rfl,rfl,hH,hz,q⟩:=h;cases rx;obtain⟨u,rfl,ru⟩:=rv.one;obtain⟨z,its,n,r,hl,e⟩:=I.lstM hH;refine xii F.slot_list_append ⟨_,e,rfl⟩ F.entry_list_append (F.args_list_append_2 _ _) (PySem.list_append l its.toArray n u (by rw[xbt];lia)) ⟨e,?_⟩;refine⟨.non,_,I.lset (its':=its++[u]) hH e (by simp) (r.append (.cons ru .nil)) ?_,rfl,q⟩;rw[xbq,xfi];lia
noncomputable def rCat:R2:=fun x y H Q=>∃l b xs zs,x=.ref l/\y=.ref b/\H l=some (.lst xs)/\H b=some (.lst zs)/\xs.length+zs.length<=sizeLine/\∀p,H p=none->Q (.ref p) (upd H p (.lst (xs++zs)))
theorem zbik:OpR X (binaryOp .Add) rCat:=by
 intro aA s σ H x y v u Q I rx ry h;obtain⟨l,b,xs,zs,rfl,rfl,hH,hB,hz,q⟩:=h;cases rx;cases ry;obtain⟨z,its,n,r,hl,e⟩:=I.lstM hH;obtain⟨z2,its2,n2,r2,hl2,e2⟩:=I.lstM hB;refine PySem.P.add_list e e2 ?_ (by rw[xbt,xbt];lia);have ea:its.toArray++its2.toArray=(its++its2).toArray:=by simp
 rw[ea];exact⟨.ref _,_,I.lnew (t':=s.toks) (r.append r2) (by rw[xbq];lia),rfl,q _ I.fresh⟩
end
section
variable {prog:Program}{w:World}{A:Around}{E:Value->Shared->Prop}{s:Shared}
end
section
variable {X:Cx}
end
section
variable {κ:Type}[DecidableEq κ]
noncomputable def valV (kvs:List (κ×V)) (k:κ):Option V:=(kvs.find? fun kv=>decide (kv.1=k)).map (·.2)
noncomputable def putK (kvs:List (κ×V)) (k:κ) (v:V):List (κ×V) :=
 if(kvs.any fun kv=>decide (kv.1=k))=true then kvs.map (fun kv=>if kv.1=k then(kv.1,v) else kv) else kvs++[(k,v)]
noncomputable def dropK (kvs:List (κ×V)) (k:κ):List (κ×V):=kvs.filter fun kv=>decide (kv.1≠k)
theorem zkn {p:κ×V}{r:List (κ×V)}{k:κ}(e:p.1=k):valV (p::r) k=some p.2:=by simp[valV,xei,e]
theorem zko {p:κ×V}{r:List (κ×V)}{k:κ}(e:¬ p.1=k):valV (p::r) k=valV r k:=by simp[valV,xei,e]
theorem zrl (k:κ):∀kvs:List (κ×V),(kvs.any fun kv=>decide (kv.1=k))=(valV kvs k).isSome
 | []=>rfl
 | p::r=>by
  rw[xjo];by_cases e:p.1=k
  ·simp only[zkn e,xcf e,Bool.true_or,Option.isSome_some]
  ·rw[zko e,xbm e,Bool.false_or];exact zrl k r
theorem zki (kvs:List (κ×V))(k:κ)(v:V):(putK kvs k v).length<=kvs.length+1:=by
 unfold putK;split
 ·rw[xbe];lia
 ·rw[xbq,xcg,xio];lia
theorem RelO.isSome_eq {o:Option V}{u:Option Value}(r:RelO o u):o.isSome=u.isSome:=by
 cases o with
 | none=>cases u with
  | none=>rfl
  | some _=>exact(show False from r).elim
 | some _=>cases u with
  | none=>exact(show False from r).elim
  | some _=>rfl
theorem RelO.getD {o:Option V}{u:Option Value}{d:V}{d':Value}(r:RelO o u)(rd:RelV d d'):RelV (o.getD d) (u.getD d'):=by
 cases o with
 | none=>cases u with
  | none=>exact rd
  | some _=>exact(show False from r).elim
 | some _=>cases u with
  | none=>exact(show False from r).elim
  | some _=>exact r
theorem KV.val {kvs:List (κ×V)}{vs:List (κ×Value)}(r:KV kvs vs)(k:κ):RelO (valV kvs k) (valueAt vs k):=by
 unfold KV at r
 induction r with
 | nil=>exact True.intro
 | @cons p q ps qs h t ih =>
  obtain⟨h1,h2⟩:=h;by_cases e:p.1=k
  ·have e':q.1=k:=h1.symm.trans e;have b:valueAt (q::qs) k=some q.2:=by simp[valueAt,xei,e']
   rw[zkn e,b];exact h2
  ·have e':¬ q.1=k:=fun z=>e (h1.trans z)
   have b:valueAt (q::qs) k=valueAt qs k:=by simp[valueAt,xei,e']
   rw[zko e,b];exact ih
theorem KV.any {kvs:List (κ×V)}{vs:List (κ×Value)}(r:KV kvs vs)(k:κ):(kvs.any fun kv=>decide (kv.1=k))=vs.any fun kv=>decide (kv.1=k):=by
 unfold KV at r
 induction r with
 | nil=>rfl
 | cons h t ih=>rw[xjo,xjo,ih,h.1]
theorem KV.repl {kvs:List (κ×V)}{vs:List (κ×Value)}(r:KV kvs vs)(k:κ){y:V}{u:Value}(ry:RelV y u) :
  KV (kvs.map fun kv=>if kv.1=k then(kv.1,y) else kv) (vs.map fun kv=>if kv.1=k then(kv.1,u) else kv):=by
 unfold KV at r ⊢
 induction r with
 | nil=>exact .nil
 | @cons p q ps qs h t ih =>
  rw[xbp,xbp];refine .cons ?_ ih;obtain⟨h1,h2⟩:=h;by_cases e:p.1=k
  ·rw[if_pos e,if_pos (h1.symm.trans e)];exact⟨h1,ry⟩
  ·rw[if_neg e,if_neg (fun z=>e (h1.trans z))];exact⟨h1,h2⟩
theorem KV.put {kvs:List (κ×V)}{vs:List (κ×Value)}(r:KV kvs vs)(k:κ){y:V}{u:Value}(ry:RelV y u):KV (putK kvs k y) (stored vs k u):=by
 unfold putK stored;rw[r.any k];by_cases e:(vs.any fun kv=>decide (kv.1=k))=true
 ·rw[if_pos e,if_pos e];exact r.repl k ry
 ·rw[if_neg e,if_neg e];exact Paired.snoc r ⟨rfl,ry⟩
theorem KV.length {kvs:List (κ×V)}{vs:List (κ×Value)}(r:KV kvs vs):kvs.length=vs.length:=xik r
end
theorem zbef {P:Program}{w:World}{k:Key}{u:Value}(r:RelV (kV k) u):(mixKind P w).is k u=true:=by
 cases k with
 | inl i=>obtain⟨t,e⟩:=(show ∃t,u=Value.int i t from r);subst e;exact zqy P w i t
 | inr x=>obtain⟨t,e⟩:=(show ∃t,u=Value.str x t from r);subst e;exact zqx P w x t
theorem zpf {P:Program}{w:World}:∀{ks:List Key} {us:List Value},Vals (ks.map kV) us->ItemsAre (mixKind P w) ks us
 | [],_,r=>by rw[xkz] at r;cases r;exact .nil
 | k::ks,_,r=>by
  rw[xbp] at r;cases r with
  | cons h t=>exact .cons (zbef h) (zpf t)
noncomputable abbrev KT (H:Hp):List (List Key×V)->List (List Key×Addr×Value)->Prop:=Paired fun p q=>p.1=q.1/\H q.2.1=some (.tup (p.1.map kV))/\RelV p.2 q.2.2
theorem KT.val {H:Hp}{kvs:List (List Key×V)}{xs:List (List Key×Addr×Value)}(r:KT H kvs xs)(k:List Key):RelO (valV kvs k) ((atKey xs k).map (·.2)):=by
 induction r with
 | nil=>exact True.intro
 | @cons p q ps qs h t ih =>
  obtain⟨h1,_,h2⟩:=h;by_cases e:p.1=k
  ·have e':q.1=k:=h1.symm.trans e;have b:atKey (q::qs) k=some q.2:=by simp[atKey,xei,e']
   rw[zkn e,b];exact h2
  ·have e':¬ q.1=k:=fun z=>e (h1.trans z)
   have b:atKey (q::qs) k=atKey qs k:=by simp[atKey,xei,e']
   rw[zko e,b];exact ih
theorem KT.repl {H:Hp}{kvs:List (List Key×V)}{xs:List (List Key×Addr×Value)}(r:KT H kvs xs)(k:List Key){y:V}{u:Value}(ry:RelV y u) :
  KT H (kvs.map fun kv=>if kv.1=k then(kv.1,y) else kv) (xs.map (putAt k u)):=by
 induction r with
 | nil=>exact .nil
 | @cons p q ps qs h t ih =>
  rw[xbp,xbp];refine .cons ?_ ih;obtain⟨h1,h2,h3⟩:=h;unfold putAt;by_cases e:p.1=k
  ·rw[if_pos e,if_pos (h1.symm.trans e)];exact⟨h1,h2,ry⟩
  ·rw[if_neg e,if_neg (fun z=>e (h1.trans z))];exact⟨h1,h2,h3⟩
theorem KT.put {H:Hp}{kvs:List (List Key×V)}{xs:List (List Key×Addr×Value)}(r:KT H kvs xs)(k:List Key){b:Addr}{y:V}{u:Value}(hb:H b=some (.tup (k.map kV)))(ry:RelV y u) :
  KT H (putK kvs k y) (storedH xs k b u):=by
 have e:(kvs.any fun kv=>decide (kv.1=k))=(atKey xs k).isSome:=by
  rw[zrl,(r.val k).isSome_eq,Option.isSome_map]
 unfold putK storedH;rw[e];by_cases q:(atKey xs k).isSome=true
 ·rw[if_pos q,if_pos q];exact r.repl k ry
 ·rw[if_neg q,if_neg q];exact Paired.snoc r ⟨rfl,hb,ry⟩
theorem KT.keeps {H H':Hp}{kvs:List (List Key×V)}{xs:List (List Key×Addr×Value)}(r:KT H kvs xs)(ht:∀b ys,H b=some (.tup ys)->H' b=some (.tup ys)):KT H' kvs xs :=
 Paired.mapP r fun _ _ z=>⟨z.1,ht _ _ z.2.1,z.2.2⟩
section
variable {P:Program}{w:World}{H:Hp}{h:Heap}{a:Addr}
theorem zbli {u:HO}(ok:HOk P w H h)(e:Rd H a u):ObjOk P w H h a u:=e.ok ok
theorem zbbv {kvs:List (Key×V)}(ok:HOk P w H h)(e:Rd H a (.dK kvs)):kvs.length<=sizeLine/\(a==sysModules)=false/\∃vs,KV kvs vs/\h.DictOf (mixKind P w) a vs :=
 show ObjOk P w H h a (.dK kvs) from zbli ok e
theorem zbmz {kvs:List (Key×V)}(ok:HOk P w H h)(e:H a=some (.dK kvs)):kvs.length<=sizeLine/\(a==sysModules)=false/\∃vs,KV kvs vs/\h.DictOf (mixKind P w) a vs:=zbbv ok (.inl e)
theorem zrd {ks:List Key}(ok:HOk P w H h)(e:H a=some (.tup (ks.map kV))):(tupleKind (mixKind P w)).is h ks a:=by
 obtain⟨_,its,r,o,h1,h2,n,h3⟩:=(show ObjOk P w H h a (.tup (ks.map kV)) from ok a _ e)
 exact⟨o,its.toArray,n,h1,h2,h3,by simpa using zpf r⟩
theorem zbbu {kvs:List (List Key×V)}(ok:HOk P w H h)(e:Rd H a (.dT kvs)):kvs.length<=sizeLine/\(a==sysModules)=false /\
  ∃xs,KT H kvs xs/\h.DictOfH (tupleKind (mixKind P w)) a xs:=by
 obtain⟨z,y,xs,r,o,es,ep,h1,h2,h3,h4,h5⟩:=(show ObjOk P w H h a (.dT kvs) from zbli ok e)
 refine⟨z,y,xs,r,o,es,ep,h1,h2,h3,h4,fun x hx=>?_,h5⟩;have all:∀{l:List (List Key×V)} {m:List (List Key×Addr×Value)},KT H l m->∀x∈m,(tupleKind (mixKind P w)).is h x.1 x.2.1:=by
  intro l m q
  induction q with
  | nil=>intro x hx;exact nomatch hx
  | @cons p q ps qs hq t ih =>
   intro x hx;rcases xbx.mp hx with e | hx
   ·subst e;exact zrd ok (by rw[← hq.1];exact hq.2.1)
   ·exact ih x hx
 exact all r x hx
theorem zblt {kvs:List (List Key×V)}(ok:HOk P w H h)(e:H a=some (.dT kvs)):kvs.length<=sizeLine/\(a==sysModules)=false /\
 ∃xs,KT H kvs xs/\h.DictOfH (tupleKind (mixKind P w)) a xs:=zbbu ok (.inl e)
end
noncomputable def DGet (H:Hp) (a:Addr) (y:V) (r:Option V):Prop :=
 (∃kvs k,Rd H a (.dK kvs)/\y=kV k/\r=valV kvs k)\/∃kvs k b,Rd H a (.dT kvs)/\y=.ref b/\H b=some (.tup (k.map kV))/\r=valV kvs k
noncomputable def DPut (H:Hp) (a:Addr) (y v:V) (H':Hp):Prop :=
 (∃kvs k,H a=some (.dK kvs)/\y=kV k/\kvs.length < sizeLine/\H'=upd H a (.dK (putK kvs k v))) \/
 ∃kvs k b,H a=some (.dT kvs)/\y=.ref b/\H b=some (.tup (k.map kV))/\kvs.length < sizeLine/\H'=upd H a (.dT (putK kvs k v))
theorem DPut.t {H:Hp}{a b:Addr}{kvs:List (List Key×V)}{k:List Key}{v:V}(e:H a=some (.dT kvs))(eb:H b=some (.tup (k.map kV)))(hl:kvs.length < sizeLine) :
 DPut H a (.ref b) v (upd H a (.dT (putK kvs k v))):=.inr ⟨kvs,k,b,e,rfl,eb,hl,rfl⟩
section
variable {X:Cx}{aA:List (Addr×Obj)}{σ:St}{H:Hp}{s:Shared}{a:Addr}{y v:V}{u r:Value}{o:Option V}{A:Around}{E:Value->Shared->Prop}
theorem Inv.big (I:Inv X aA σ H s):sysModules < s.heap.objs.size:=by
 have h:mainGlobals < s.heap.objs.size:=(I.mod.glob.keeps I.bk).lt;exact xht (by decide) h
theorem zws {Q:Value->Shared->Prop}(hu:A.units+1 < cLine)(I:Inv X aA σ H s)(g:DGet H a y (some v))(ry:RelV y u)(h:∀w' s',Inv X aA σ H s'->RelV v w'->Q w' s') :
  wpAny (model X.prog X.w) A (getItem (.ref a) u) Q E s:=by
 rcases g with⟨kvs,k,e,ey,l⟩ | ⟨kvs,k,b,e,ey,eb,l⟩
 ·subst ey;obtain⟨z,hd,vs,rel,dd⟩:=zbbv I.hok e;obtain⟨w',hw,rw'⟩:=RelO.some_of (v:=v) (o:=valueAt vs k) (by rw[l];exact rel.val k);exact wpAny_getItem_of (zbef ry) dd.mapOf hw (h w' _ (I.tok _) rw')
 ·subst ey;cases(show u=Value.ref b from ry);obtain⟨z,hd,xs,rel,dd⟩:=zbbu I.hok e;obtain⟨w',hw,rw'⟩:=RelO.some_of (v:=v) (o:=(atKey xs k).map (·.2)) (by rw[l];exact rel.val k);obtain⟨p,hp,hp2⟩:=xcw.mp hw;refine wpAny_getItem_heap (xhm hu) (zrd I.hok eb) dd hp ?_;rw[hp2];exact h w' _ (I.tok _) rw'
theorem d_in {Q:Value->Shared->Prop}(hu:A.units+1 < cLine)(I:Inv X aA σ H s)(g:DGet H a y o)(ry:RelV y u)(h:∀s',Inv X aA σ H s'->Q (.bool o.isSome) s') :
  wpAny (model X.prog X.w) A (compareOp .In u (.ref a)) Q E s:=by
 rcases g with⟨kvs,k,e,ey,l⟩ | ⟨kvs,k,b,e,ey,eb,l⟩
 ·subst ey;obtain⟨z,hd,vs,rel,dd⟩:=zbbv I.hok e;refine wpAny_in_of (zbef ry) hd dd.mapOf ?_;rw[← (rel.val k).isSome_eq,← l];exact h _ (I.tok _)
 ·subst ey;cases(show u=Value.ref b from ry);obtain⟨z,hd,xs,rel,dd⟩:=zbbu I.hok e;refine wpAny_in_heap (xhm hu) (zrd I.hok eb) hd dd ?_;have q:=(rel.val k).isSome_eq;rw[Option.isSome_map] at q;rw[← q,← l];exact h _ (I.tok _)
theorem zto {h':Heap}{t':Nat}{ob:HO}(I:Inv X aA σ H s)(mu:Mut (H a))(hs:Heap.SameBut a s.heap h')(he:∃q,h'.get? a=some q)(new:ObjOk X.prog X.w (upd H a ob) h' a ob) :
  Inv X aA σ (upd H a ob) {s with heap:=h',toks:=t'} :=
 I.write (x:=a) (e:=a) mu (.inl rfl) (fun b q hb z=>(hs.2 b hb).trans z) he new
theorem zbjx {P:Program}{w:World}{H':Hp}{h':Heap}{kvs:List (Key×V)}{vs:List (Key×Value)}(z:kvs.length<=sizeLine)(hd:(a==sysModules)=false)(rel:KV kvs vs)(dd:h'.DictOf (mixKind P w) a vs) :
 ObjOk P w H' h' a (.dK kvs):=⟨z,hd,vs,rel,dd⟩
theorem zwn {H':Hp}{Q:Unit->Shared->Prop}(hu:A.units+1 < cLine)(I:Inv X aA σ H s)(g:DPut H a y v H')(ry:RelV y u)(rv:RelV v r)(h:∀s',Inv X aA σ H' s'->Q () s') :
  wpAny (model X.prog X.w) A (setItem (.ref a) u r) Q E s:=by
 rcases g with⟨kvs,k,e,ey,l,eH⟩ | ⟨kvs,k,b,e,ey,eb,l,eH⟩
 ·subst ey eH;obtain⟨z,hd,vs,rel,dd⟩:=zbmz I.hok e;have hz:vs.length<=sizeLine:=by rw[← rel.length];exact z
  have hl:(putK kvs k v).length<=sizeLine:=by have:=zki kvs k v;lia
  refine wpAny_setItem_pairs (hsz:=hz) (zbef ry) dd fun h' dd' hs=>h _ ?_
  have he:∃q,h'.get? a=some q:=let ⟨q,_,_,hq,_⟩:=dd';⟨q,hq⟩
  exact zto I (by rw[e];exact True.intro) hs he (zbjx hl hd (rel.put k rv) dd')
 ·subst ey eH;cases(show u=Value.ref b from ry);obtain⟨z,hd,xs,rel,dd⟩:=zblt I.hok e;have hz:xs.length<=sizeLine:=by rw[← xik rel];exact z
  have hl:(putK kvs k v).length<=sizeLine:=by have:=zki kvs k v;lia
  refine wpAny_setItem_heap (hsz:=hz) (xhm hu) (zrd I.hok eb) dd fun h' dd' hs=>h _ ?_
  obtain⟨q,es,ep,hq,h2,h3,h4,_,h5⟩:=dd';refine zto I (by rw[e];exact True.intro) hs ⟨q,hq⟩ ⟨hl,hd,_,(rel.put k eb rv).keeps fun c ys ec=>?_,q,es,ep,hq,h2,h3,h4,h5⟩;rw[zm (zblo ec e (fun z=>nomatch z))];exact ec
end
section
variable {X:Cx}{aA:List (Addr×Obj)}{σ:St}{H:Hp}{s:Shared}{a:Addr}{kvs:List (Key×V)}{k:Key}{u:Value}{A:Around}{E:Value->Shared->Prop}
end
noncomputable def NoSl (i:Expr):Prop:=∀ov iv,subscripted i false ov iv=operate [ov,iv] (getItem ov iv)
theorem zbcl {prog:Program}{w:World}{A:Around}{E:Value->Shared->Prop}{s:Shared}{env:Env}{value slice:Expr}{pos:Pos}{T id:String}{Q:Value->Shared->Prop}
  (hl:typeLookup (.type T) "__getitem__"=pure (some (.builtin id)))(hs:NoSl slice)
  (h:wpAny (model prog w) A (eval value env) (fun o s₁=>wpAny (model prog w) A (eval slice env) (fun i s₂=>s₂.TypeIs o T/\wpAny (model prog w) A (getItem o i) Q E s₂) E s₁) E s) :
  wpAny (model prog w) A (eval (.Subscript value slice pos) env) Q E s:=by
 refine Subscript_ (xdd h (fun o s₁ h₁=>xdd h₁ (fun i s₂ h₂=>?_) fun _ _ x=>x) fun _ _ x=>x);obtain⟨hT,h₂⟩:=h₂;unfold subscriptTail;refine xba ?_;rw[getitemInPython_of_ne hT.not_modules];refine xba (wpAny_specialOf hT hl ?_);have fin:wpAny (model prog w) A (subscripted slice false o i) (fun r s₃=>wpAny (model prog w) A (letTemporaryGo value o r >>= fun _=>pure r) Q E s₃) E s₂:=by
  rw[hs o i];exact wpAny_operating (xdd h₂ (fun r s₃ h₃=>xba (wpAny_letTemporaryGo (xbd h₃))) fun _ _ x=>x)
 first
  | exact xbd (xba fin)
  | exact xba (xbd (xba fin))
  | exact xba fin
theorem zrf {X:Cx}{aA:List (Addr×Obj)}{σ:St}{H:Hp}{s:Shared}{a:Addr}{y:V}{o:Option V}(I:Inv X aA σ H s)(g:DGet H a y o):s.TypeIs (.ref a) "dict":=by
 rcases g with⟨kvs,k,e,_,_⟩ | ⟨kvs,k,b,e,_,_,_⟩
 ·obtain⟨_,_,vs,_,dd⟩:=zbbv I.hok e;exact dd.typeIs
 ·obtain⟨_,_,xs,_,dd⟩:=zbbu I.hok e;exact dd.typeIs
noncomputable def tDGet (td ty:TE):TE:=fun σ H Q=>td σ H fun x H1=>ty σ H1 fun y H2=>∃a v,x=.ref a/\DGet H2 a y (some v)/\Q v H2
noncomputable def tDIn (ty td:TE):TE:=fun σ H Q=>ty σ H fun y H1=>td σ H1 fun x H2=>∃a o,x=.ref a/\DGet H2 a y o/\Q (.bl o.isSome) H2
noncomputable def sDPut (td ty tv:TE):TS:=fun D σ H=>tv σ H fun v H1=>td σ H1 fun x H2=>ty σ H2 fun y H3=>∃a H4,x=.ref a/\DPut H3 a y v H4/\D.nx σ H4
section
variable {X:Cx}{o i e value:Expr}{pos pos' tpos:Pos}{td ty tv:TE}
theorem zbdl (hu:X.A.units+1 < cLine)(ho:PE X o td)(hi:PE X i ty)(hs:NoSl i):PE X (.Subscript o i pos) (tDGet td ty):=by
 intro aA s σ H Q I h;refine zbcl F.slot_dict_getitem.lookup hs (thn (ho aA s σ H _ I h) fun u s1 ⟨x,H1,I1,rx,q1⟩=>thn (hi aA s1 σ H1 _ I1 q1) fun iv s2 hq0=>?_);obtain⟨y,H2,I2,ry,a,v,ex,g,q2⟩:=hq0;subst ex;obtain rfl:u=Value.ref a:=rx;exact⟨zrf I2 g,zws hu I2 g ry fun w' s3 I3 rw'=>⟨v,H2,I3,rw',q2⟩⟩
theorem zbig (hu:X.A.units+1 < cLine)(hi:PE X i ty)(ho:PE X o td):PC X .In i o (tDIn ty td):=by
 intro aA s σ H Q I h;refine thn (hi aA s σ H _ I h) fun iv s1 ⟨y,H1,I1,ry,q1⟩=>thn (ho aA s1 σ H1 _ I1 q1) fun u s2 hq0=>?_
 obtain⟨x,H2,I2,rx,a,ov,ex,g,q2⟩:=hq0;subst ex;obtain rfl:u=Value.ref a:=rx;exact d_in hu I2 g ry fun s3 I3=>⟨.bl ov.isSome,H2,I3,rfl,q2⟩
theorem zbdb (hu:X.A.units+1 < cLine)(ho:PE X o td)(hi:PE X i ty)(hv:PE X value tv)(hs:swapsWith value (some (.Subscript o i pos')) pos.line X.env=pure false) :
  PS X (.Assign [.Subscript o i pos'] value pos) (sDPut td ty tv):=by
 intro aA s σ H D I h;refine wpAny_Assign_Subscript (thn (hv aA s σ H _ I h) fun r s1 ⟨v,H1,I1,rv,q1⟩=>thn (ho aA s1 σ H1 _ I1 q1) fun u s2 ⟨x,H2,I2,rx,q2⟩=>thn (hi aA s2 σ H2 _ I2 q2) fun iv s3 hq0=>?_) hs;obtain⟨y,H3,I3,ry,a,H4,ex,g,q3⟩:=hq0;subst ex;obtain rfl:u=Value.ref a:=rx;exact zwn hu I3 g ry rv fun s4 I4=>⟨σ,H4,I4,q3⟩
end
theorem zbap {P:Program}{w:World}{H:Hp}(h:Heap)(hb:sysModules < h.objs.size):ObjOk P w H (h.push { cls:=.type "dict", data:=.dict #[] }) h.objs.size (.dT []) :=
 ⟨xec _,xga.mpr (xgb (xca hb)),[],.nil,_,#[],0,xbv _ rfl,⟨rfl,rfl,rfl⟩,rfl,rfl,xja⟩
noncomputable def tDNewT:TE:=fun _ H Q=>∀p,H p=none->Q (.ref p) (upd H p (.dT []))
section
variable {X:Cx}{pos:Pos}
theorem zzq:PE X (.Dict [] [] pos) tDNewT:=fun aA s σ H Q I h =>
 wpAny_Dict_empty ⟨.ref s.heap.objs.size,_,I.laid (a:=s.heap.objs.size) (o:=.dT []) (t':=s.toks) (fun _ _ q=>xbc _ q) (xbf _) (zbap s.heap I.big),rfl,h _ (I.hok.fresh (xbf _))⟩
end
structure M1 (X:Cx) (o:Expr) (m:Str) (apos:Pos) (e:Expr) (cpos:Pos):Prop where
 base:attributeBase o m X.env (eval o X.env)=eval o X.env
 few:((backTo cpos (starEach [e] X.env)).all (fun x=>!x.1)&&(backToKw cpos (keywordEach [] X.env)).all (fun x=>x.1.isSome)
  && decide (([e]:List Expr).length+([]:List Keyword).length+(if([]:List Keyword).isEmpty then 0 else 1) < 30))=true
 line:(apos.endLine==cpos.line)=true
 trees:backTo cpos (starEach [e] X.env)=[(false,eval e X.env)]
structure M2 (X:Cx) (o:Expr) (m:Str) (apos:Pos) (e f:Expr) (cpos:Pos):Prop where
 base:attributeBase o m X.env (eval o X.env)=eval o X.env
 few:((backTo cpos (starEach [e,f] X.env)).all (fun x=>!x.1)&&(backToKw cpos (keywordEach [] X.env)).all (fun x=>x.1.isSome)
  && decide (([e,f]:List Expr).length+([]:List Keyword).length+(if([]:List Keyword).isEmpty then 0 else 1) < 30))=true
 line:(apos.endLine==cpos.line)=true
 trees:backTo cpos (starEach [e,f] X.env)=[(false,eval e X.env),(false,eval f X.env)]
noncomputable def IsD (H:Hp) (a:Addr):Prop:=(∃kvs,Rd H a (.dK kvs))\/∃kvs,Rd H a (.dT kvs)
theorem zbei {X:Cx}{aA:List (Addr×Obj)}{σ:St}{H:Hp}{s:Shared}{a:Addr}(I:Inv X aA σ H s)(d:IsD H a) :
  s.TypeIs (.ref a) "dict"/\(∀ b, Value.ref a=.ref b->∃ ob, s.heap.get? b=some ob/\ob.dict=none)/\(a==sysModules)=false:=by
 rcases d with⟨kvs,e⟩ | ⟨kvs,e⟩
 ·obtain⟨_,hd,vs,_,dd⟩:=zbbv I.hok e;refine⟨dd.typeIs,fun b q=>?_,hd⟩;cases q;obtain⟨ob,_,_,h1,h2,_⟩:=dd;exact⟨ob,h1,h2.2.1⟩
 ·obtain⟨_,hd,xs,_,dd⟩:=zbbu I.hok e;refine⟨dd.typeIs,fun b q=>?_,hd⟩;cases q;obtain⟨ob,_,_,h1,h2,_⟩:=dd;exact⟨ob,h1,h2.2.1⟩
section
variable {X:Cx}{aA:List (Addr×Obj)}{σ:St}{H:Hp}{s:Shared}{a:Addr}{y d:V}{u r:Value}{o:Option V}{A:Around}{E:Value->Shared->Prop}
theorem zbkd {Q:Value->Shared->Prop}(hu:A.units+1 < cLine)(I:Inv X aA σ H s)(g:DGet H a y o)(ry:RelV y u)(rd:RelV d r)(h:∀w' s',Inv X aA σ H s'->RelV (o.getD d) w'->Q w' s') :
  wpAny (model X.prog X.w) A (call (.builtin "dict.get") [.ref a, u, r]) Q E s:=by
 rcases g with⟨kvs,k,e,ey,l⟩ | ⟨kvs,k,b,e,ey,eb,l⟩
 ·subst ey;obtain⟨z,hd,vs,rel,dd⟩:=zbbv I.hok e;refine call_meetsIn xju dd.typeIs F.entry_dict_get (F.args_dict_get_3 _ _ _) (meets_dict_get_default (mixKind X.prog X.w) a (zbef ry) hd r) ⟨_,dd.mapOf,h _ _ (I.tok _) ?_⟩;rw[l];exact(rel.val k).getD rd
 ·subst ey;cases(show u=Value.ref b from ry);obtain⟨z,hd,xs,rel,dd⟩:=zbbu I.hok e;refine call_meetsIn xju dd.typeIs F.entry_dict_get (F.args_dict_get_3 _ _ _) (meetsH_dict_get_default (tupleKind (mixKind X.prog X.w)) a b hd r) ⟨xhm hu,k,xs,zrd I.hok eb,dd,h _ _ (I.tok _) ?_⟩;rw[l];exact(rel.val k).getD rd
end
noncomputable def tDGet2 (td ty tx:TE):TE:=fun σ H Q=>td σ H fun x H1=>∃a,x=.ref a/\IsD H1 a/\ty σ H1 fun y H2=>tx σ H2 fun z H3=>∃o,DGet H3 a y o/\Q (o.getD z) H3
section
variable {X:Cx}{o e f:Expr}{apos cpos:Pos}{td ty tx:TE}
theorem zzr (hu:X.A.units + 1 < cLine)(ho:PE X o td)(he:PE X e ty)(hf:PE X f tx)(m:M2 X o "get" apos e f cpos):PE X (.Call (.Attribute o "get" apos) [e, f] [] cpos) (tDGet2 td ty tx):=by
 intro aA s σ H Q I h;refine wpAny_Call_method m.base m.few m.line F.plainAttrs_dict xju F.type_dict_get (thn (ho aA s σ H _ I h) fun u s1 hq0=>?_);obtain⟨x,H1,I1,rx,a,ex,d,q1⟩:=hq0;subst ex;obtain rfl:u=Value.ref a:=rx;obtain⟨t1,t2,_⟩:=zbei I1 d;refine⟨t1,t2,?_⟩;rw[m.trees]
 refine xjn rfl (xib (xiu (thn (he aA s1 σ H1 _ I1 q1) fun iv s2 ⟨y,H2,I2,ry,q2⟩ =>
  xiu (thn (hf aA s2 σ H2 _ I2 q2) fun fv s3 ⟨z,H3,I3,rz,ov,g,q3⟩=>xkr ?_))))
 exact zbkd hu I3 g ry rz fun w' s4 I4 rw'=>⟨_,H3,I4,rw',q3⟩
end
section
variable {X:Cx}{aA:List (Addr×Obj)}{σ:St}{H:Hp}{s:Shared}{a:Addr}{kvs:List (Key×V)}{A:Around}{E:Value->Shared->Prop}
end
section
variable {X:Cx}{aA:List (Addr×Obj)}{σ:St}{H:Hp}{s:Shared}{a:Addr}{y:V}{u:Value}{A:Around}{E:Value->Shared->Prop}
end
end L2
namespace Att
open PySem PySem.W PySem.Calls PyProof.Rows
theorem zjo {P:Params}{h:Heap}:∀(ns:List Int) (vs:List Value),WellAll P h vs (ns.map WData.int)->IntsAre vs ns:=by
 intro ns
 induction ns with
 | nil =>
  intro vs w;rw[xkz] at w;cases w;exact .nil
 | cons n ns ih =>
  intro vs w;rw[xbp] at w;cases w with
  | cons a b =>
   cases a;exact .cons _ _ (ih _ b)
theorem zuy {l:OpenLaw}{n:Nat}(hn:l.most=some n){P:Params}{h:Heap}{args:List WData}{vals:List Value}
  (hpre:l.row.toRowW.claim.pre args=true)(hwl:WellAll P h vals args) :
  ∃ a vs ns, vals=[Value.ref a]/\args=[WData.list (ns.map WData.int)]/\h.get? a=some { cls:=.type "list", data:=.seq vs.toArray }/\IntsAre vs ns/\ns.length<=n:=by
 have hsh:WShape.hasAll [] args [.list .int]=true:=(pre_splitW hpre).1;have hc:l.pre.holds [] {args:=args}=true:=(pre_splitW hpre).2;obtain⟨d,r,rfl,h1,h2⟩:=hasAllW_cons hsh;obtain rfl:=hasAllW_nil h2;obtain⟨xs,rfl,h3⟩:=hasW_list h1;obtain⟨ns,rfl⟩:=items_int h3;have hlen:ns.length<=n:=by
  unfold OpenLaw.pre at hc;have h4:(WTm.not (.lt (.lit (.int (n:Int))) (.len (.arg 0)))).holds [] {args:=[.list (ns.map .int)]}=true:=by
   have h4:=(holds_andW hc).1;rw[hn] at h4;exact h4
  have h5:=condW_of h4 (w_not (w_lt w_lit (w_len_list (w_arg rfl))));rw[xbe] at h5;refine xbz fun q=>?_
  have q':(n:Int) < ((ns.length:Nat):Int):=by lia
  first
   | (rw[xcf q'] at h5;exact absurd h5 (by decide))
   | (simp at h5;lia)
 cases hwl with
 | cons w1 w2 =>
  cases w2;cases w1 with
  | list ho hall=>exact⟨_,_,ns,rfl,rfl,ho,zjo ns _ hall,hlen⟩
theorem zve (l:OpenLaw)(args:List WData):l.row.toRowW.claim.post args (.bool true) args=true :=
 postW_of (r:=l.row.toRowW) (X:=(true==true))
  (show WShape.has [] (.bool true) .bool=true by first | rfl | decide | simp[WShape.has,WShape.arms,WShape.armsAll])
  (show(WTm.eq .res (.lit (.bool true))).value [] {args:=args,res:=some (.bool true),after:=args}=some (.bool (true==true)) from w_eq_bool (w_res rfl) w_lit) rfl
theorem attach_call {l:OpenLaw}{n:Nat}{q:Program}{loose:List Str}{XP:(Str->Option Value)->Heap->Prop}{YP:World->Heap->Prop}{d:DefRec}
  (hn:l.most=some n)(hdf:d.params.defaults=[])
  (call:∀(w:World) (s₀ s₁:Shared) (mg mb:Str->Option Value) (fa:Addr) (o:Obj) (pm cd doc:Value) (a:Addr) (vs:List Value) (ns:List Int),
   Ground q loose [] XP w s₀ mg mb s₁.heap->YP w s₁.heap ->
   s₁.heap.get? fa=some o->o.data=.func (docDef d.name d.params d.body d.scope pm cd doc)->s₁.heap.CodeRec cd d.name->mg d.name=some (.ref fa) ->
   s₁.heap.get? a=some { cls:=.type "list", data:=.seq vs.toArray }->IntsAre vs ns->ns.length<=n->s₁.gens=#[] ->
   codeAny (model l.prog w) callerA (.call (.ref fa) ⟨[.ref a],[]⟩) (fun r s'=>r=.ok (.ret (.bool true))/\OldK s₁.heap s'.heap/\s'.os=s₁.os/\AllBare s'.gens) s₁) :
  WalkO q loose XP YP l.row.toRowW d [] (fun f vs=>PySem.call f vs):=by
 intro w s₀ s₁ mg mb G Y fa o pm cd doc dV kV ho hd hcd hD hmg hg args vals as hpre hlay hrd hwl hlo;obtain rfl:dV=.none:=Dflts.none hD hdf;obtain rfl:kV=.none:=Dflts.noKw hD;obtain⟨a,vs,ns,rfl,rfl,hobj,hints,hlen⟩:=zuy hn hpre hwl;refine enter_call (xhx (call w s₀ s₁ mg mb fa o pm cd doc a vs ns G Y ho (fd_plain hd) hcd hmg hobj hints hlen hg) fun r s' hq=>?_);obtain⟨rfl,h2,h3,h4⟩:=hq;exact⟨.inl ⟨.bool true,.bool true,[],rfl,fun _=>rfl,.bool true,zve l _,fun _=>⟨List.Pairwise.nil,fun _ hm=>(nomatch hm)⟩⟩,h2,h3,h4⟩
section
variable {prog:Program}{w:World}{A:Around}{E:Value->Shared->Prop}{s:Shared}{K:Frag}
end
end Att
namespace L2
open PySem PySem.Spec PyProof.Rows
theorem zon:∀{vs:List Value} {ns:List Int},IntsAre vs ns->Vals (ns.map V.int) vs
 | _,_,.nil=>.nil
 | _,_,.cons n t h=>.cons ⟨t,rfl⟩ (zon h)
end L2
/- THE LAST THEOREM (shape;LID,My.* are yours):
 My.Adr: a structure of the addresses that your layer names (classes,functions);My.Txt K t: a structure (Prop) of the equations over K;
 My.txt_mk:{K} {implicit addresses ..} (e1:nsIn K mainGlobals "law"=some (some (.ref f))) (e2:K.lookup f=some ⟨oc, od, .func (fnOf "law" "law" params body scope dV kV doc pm an cdv ct), sl⟩) (e3:codeIn K cdv "law"=true) ..:∃ t, My.Txt K t
(the tactic k_is has no namespace: write k_is) -/
namespace L2
open PySem PySem.Spec PyProof.Rows
noncomputable def defArgs (s:Stmt):Arguments:=match s with
 | .FunctionDef _ a _ _ _ _ _ _ _ _=>a
 | _=>{posonlyargs:=[],args:=[],vararg:=none,kwonlyargs:=[],kw_defaults:=[],kwarg:=none,defaults:=[]}
noncomputable def defBody (s:Stmt):List Stmt:=match s with
 | .FunctionDef _ _ b _ _ _ _ _ _ _=>b
 | _=>[]
noncomputable def defScope (s:Stmt):Scope:=match s with
 | .FunctionDef _ _ _ _ _ _ sc _ _ _=>sc
 | _=>{kind:=.function,names:=[],isGenerator:=false,isCoroutine:=false}
noncomputable abbrev CX0:CXT:=fun _ _ _ _ _ _=>False
noncomputable abbrev E0:XK:=fun _ _ _=>False
theorem pass0 {X:Cx}:Passes CX0 X E0:=fun _ _ _ _ _ _ _ h=>h.elim
structure Fun (K:Fg) (x qual:Str) (st:Stmt) (f:Addr) (fd:FuncData):Prop where
 ex:∃(oc:Value) (od:Option Addr) (kV doc pm:Value) (an:Option Addr) (cdv ct:Value) (osl:Array (Option Value)),
  fd=W.fnOf x qual (defArgs st) (defBody st) (defScope st) .none kV doc pm an cdv ct/\K.lookup f=some ⟨oc,od,.func fd,osl⟩/\W.codeIn K cdv qual=true
 kp:W.keepIn K (.ref f)=true
section
variable {P:Program}{w:World}{K:Fg}{mg:Str->Option Value}{base:Heap}
theorem Fun.ok {x qual:Str}{st:Stmt}{f:Addr}{fd:FuncData}{N ps:List Str}{k:Nat}{sp:Sp}(F:Fun K x qual st f fd)(S:FnScope N ps (defScope st))(len:∀vs H Q E,sp vs H Q E->vs.length=ps.length)
  (hbody:∀(cdv:Value) (A:Around) (outer:List Env) (s:Shared) (H:Hp) (vs:List V) (Q:VK) (E:XK),Room k (A.deeper (envOfC qual (defScope st) s.heap.objs.size f cdv))->sp vs H Q E ->
   ∃t,PSs (cxOf CX0 P w K mg base N qual (defScope st) f cdv A outer s H E).nox (defBody st) t/\t {nx:=fun _ H'=>Q .non H',rt:=Q} (start N vs) H):FnOk P w K mg base CX0 (k+1) f fd ps sp:=by
 obtain⟨oc,od,kV,doc,pm,an,cdv,ct,osl,rfl,lk,hcd⟩:=F.ex;refine zbjd lk hcd S len fun A outer s H vs Q E hr hsp=>?_
 obtain⟨t,h,q⟩:=hbody cdv A outer s H vs Q E hr hsp;exact⟨t,h.nox,q⟩
theorem Fun.binds {x qual:Str}{st:Stmt}{f:Addr}{fd:FuncData}{ps:List Str}(F:Fun K x qual st f fd)
  (h:∀(kV doc pm:Value) (an:Option Addr) (cdv ct:Value) (us:List Value),us.length=ps.length->bindArgs (W.fnOf x qual (defArgs st) (defBody st) (defScope st) .none kV doc pm an cdv ct) ⟨us,[]⟩=pure (ps.zip us)):Binds K fd ps []:=by
 obtain⟨oc,od,kV,doc,pm,an,cdv,ct,osl,rfl,lk,hcd⟩:=F.ex;exact .all (h kV doc pm an cdv ct)
theorem zben {x qual:Str}{st:Stmt}{f:Addr}{oc:Value}{od an:Option Addr}{osl:Array (Option Value)}{kV doc pm cdv ct:Value}(l:K.lookup f=some ⟨oc,od,.func (W.fnOf x qual (defArgs st) (defBody st) (defScope st) .none kV doc pm an cdv ct),osl⟩)
 (c:W.codeIn K cdv qual=true)(k:W.keepIn K (.ref f)=true):Fun K x qual st f (W.fnOf x qual (defArgs st) (defBody st) (defScope st) .none kV doc pm an cdv ct):=⟨⟨oc,od,kV,doc,pm,an,cdv,ct,osl,rfl,l,c⟩,k⟩
end
theorem zxs {A:Around}{k:Nat}(hr:Room k A):A.units+1 < cLine:=xcn (xcc (by decide:1<=64) _) hr.units
section
variable {X:Cx}
theorem pv (i:Nat){x:Str}{pos:Pos}(hN:X.N[i]?=some x:=by rfl)(hv:Vis X.env.scope x:=by first | exact Or.inl rfl | exact Or.inr (Or.inl rfl) | exact Or.inr (Or.inr rfl))(hd:(x==("__debug__" : Str))=false:=by decide)
 (hcd:(x==("__classdict__" : Str))=false:=by decide):PE X (.Name x pos) (tVar i):=zsh hN hv hd hcd
end
theorem iteF {A B:Prop}(h:B):if false=true then A else B:=by
 rw[if_neg xfh];exact h
theorem iteT {A B:Prop}(h:A):if true=true then A else B:=by
 rw[if_pos rfl];exact h
section
variable {X:Cx}
end
section
variable {κ:Type}[DecidableEq κ]
end
section
variable {P:Program}{w:World}{B:Around}{R:Result->Shared->Prop}{sh:Shared}
noncomputable abbrev NoX:Value->Shared->Prop:=fun _ _=>False
noncomputable abbrev testsOf (cs:List Expr) (ev:Env):Sem Bool :=
 forIn cs true fun d b=>if b=true then do let z ← isTrue d ev (eval d ev);pure (ForInStep.yield z) else pure (ForInStep.yield b)
noncomputable def CompStep (P:Program) (w:World) (B:Around) (tg x:Expr) (cs:List Expr) (ev:Env) (i l:Value) (K:Shared->Prop) (v:Value) (sa:Shared):Prop :=
 wpAny (model P w) B (letOwnedTupleGo tg i v) (fun _ sb=>wpAny (model P w) B (assign tg ev v) (fun _ sc=>wpAny (model P w) B (testsOf cs ev) (fun ok sd =>
  if ok=true then wpAny (model P w) B (eval x ev) (fun y se=>wpAny (model P w) B (call (.builtin "list.append") [l, y]) (fun _ sf=>K sf) NoX se) NoX sd else K sd) NoX sc) NoX sb) NoX sa
theorem zww {tg it x:Expr}{cs:List Expr}{sc:Scope}{ps:Pos}{i l:Value}{ev:Env}(J:Nat->Shared->Prop)
  (go:∀k sk,J k sk->wpAny (model P w) B (pyNext i) (fun o sa=>match o with
   | none=>R (.ok .next) sa
   | some v=>CompStep P w B tg x cs ev i l (fun sf=>∃k',k' < k/\J k' sf) v sa) NoX sk)
  (k:Nat)(hJ:J k sh):codeAny (model P w) B (.compLoop (.ListComp x [⟨tg,it,cs,0⟩] sc ps) 0 i l ev) R sh:=by
 have none_:∀{E:Value->Shared->Prop} (e:Value) (z:Shared),NoX e z->E e z:=fun _ _ z=>z.elim
 refine codeAny_loop rfl J (fun k sk hk=>wpAny_noted (by
  rw[compTurn_list];refine xba (xjp (xba (xdd (go k sk hk) (fun o sa ho=>?_) none_)))
  match o,ho with
  | none,ho=>exact xbd ho
  | some v,ho =>
   refine xba (xdd ho (fun _ sb hb=>xba (xdd hb (fun _ sc' hc=>xba (xdd hc (fun ok sd hd=>?_) none_)) none_)) none_)
   match ok,hd with
   | false,hd=>exact xbd (And.intro rfl hd)
   | true,hd=>exact xba (xba (xdd hd (fun y se he=>xba (xdd he (fun _ sf hf=>xbd (xbd (And.intro rfl hf))) none_)) none_)))) k hJ
end
theorem zof {env:Env}:∀(names:List (Str×NameKind)) (acc:List (Str×Addr)),(∀y∈names,y.2=.free->∃c,env.cells.lookup y.1=some c)->(∀x c,acc.lookup x=some c->env.cells.lookup x=some c) ->
  ∃cl:List (Str×Addr),(forIn names acc (fun x r=>if(x.2==NameKind.free)=true then do let a ← cellOf env x.1;pure (ForInStep.yield ((x.1,a)::r)) else pure (ForInStep.yield r)):Sem (List (Str×Addr)))=pure cl /\
   (∀x c,cl.lookup x=some c->env.cells.lookup x=some c)/\(∀x c,acc.lookup x=some c->∃c',cl.lookup x=some c')/\∀x,(x,NameKind.free)∈names->∃c,cl.lookup x=some c:=by
 intro names
 induction names with
 | nil=>intro acc _ ha;exact⟨acc,rfl,ha,fun x c e=>⟨c,e⟩,fun x z=>(nomatch z)⟩
 | cons y r ih =>
  intro acc hf ha;obtain⟨n,k⟩:=y;by_cases hk:k=.free
  ·subst hk;obtain⟨c,hc⟩:=hf (n,.free) xch rfl
   obtain⟨cl,e,h1,h2,h3⟩:=ih ((n,c)::acc) (fun y hy=>hf y (xci _ hy)) (fun x c' e=>by
    rw[xdw] at e;by_cases hx:x=n
    ·subst hx;rw[xfg] at e;cases e;exact hc
    ·rw[xga.mpr hx] at e
     exact ha x c' e)
   refine⟨cl,?_,h1,fun x c' e'=>?_,fun x hx=>?_⟩
   ·rw[List.forIn_cons];simp only[xfg,ite_true];have q:cellOf env n=pure c:=by unfold cellOf;rw[hc]
    rw[q];simp only[pure_bind];exact e
   ·by_cases hx:x=n
    ·subst hx;exact h2 x c (by rw[xdw,xfg])
    ·exact h2 x c' (by rw[xdw,xga.mpr hx];exact e')
   ·rcases xbx.mp hx with z | z
    ·cases z;exact h2 n c (by rw[xdw,xfg])
    ·exact h3 x z
  ·obtain⟨cl,e,h1,h2,h3⟩:=ih acc (fun y hy=>hf y (xci _ hy)) ha;refine⟨cl,?_,h1,h2,fun x hx=>?_⟩
   ·rw[List.forIn_cons];have hb:(k==NameKind.free)=false:=by simpa using hk
    simp only[hb,xct,xeo,pure_bind];exact e
   ·rcases xbx.mp hx with z | z
    ·cases z;exact absurd rfl hk
    ·exact h3 x z
theorem ztt {scope:Scope}{env:Env}(h:∀y∈scope.names,y.2=.free->∃c,env.cells.lookup y.1=some c) :
  ∃cl,closureFor scope env=pure cl/\(∀x c,cl.lookup x=some c->env.cells.lookup x=some c)/\∀x,(x,NameKind.free)∈scope.names->∃c,cl.lookup x=some c:=by
 obtain⟨cl,e,h1,_,h3⟩:=zof (env:=env) scope.names [] h (fun x c e=>(nomatch e));refine⟨cl,?_,h1,h3⟩;unfold closureFor;have e':=congrArg (fun m=>m >>= fun r=>(pure r:Sem (List (Str×Addr)))) e;simp only[pure_bind] at e';exact e'
theorem zbs {env:Env}:∀{names:List (Str×NameKind)} {x:Str} {k:NameKind},(names.map fun(n,k)=>if(k==NameKind.free&&env.scope.kind==.function&&env.kindOf n==some .cell) then(n,NameKind.cell) else(n,k)).lookup x=some k ->
  names.lookup x=some k\/(k=.cell/\names.lookup x=some .free)
 | [],_,_,h=>by simp at h
 | (n,k')::r,x,k,h=>by
  have ih:=@zbs env r x k;have h':List.lookup x ((if(k'==NameKind.free&&env.scope.kind==.function&&env.kindOf n==some .cell)=true then(n,NameKind.cell) else(n,k'))::_)=_:=h;cases hx:x==n with
  | true =>
   by_cases hc:(k'==NameKind.free&&env.scope.kind==.function&&env.kindOf n==some .cell)=true
   ·rw[if_pos hc] at h';simp only[xdw,hx] at h' ⊢;cases h';rw[xem,xem] at hc;exact .inr ⟨rfl,by rw[eq_of_beq hc.1.1]⟩
   ·rw[if_neg hc] at h';simp only[xdw,hx] at h' ⊢;exact .inl h'
  | false =>
   have h2:(r.map fun(n,k)=>if(k==NameKind.free&&env.scope.kind==.function&&env.kindOf n==some .cell) then(n,NameKind.cell) else(n,k)).lookup x=some k:=by
    by_cases hc:(k'==NameKind.free&&env.scope.kind==.function&&env.kindOf n==some .cell)=true
    ·rw[if_pos hc] at h';simp only[xdw,hx] at h';exact h'
    ·rw[if_neg hc] at h';simp only[xdw,hx] at h';exact h'
   simp only[xdw,hx];exact ih h2
noncomputable def cxC (X:Cx) (N:List Str) (scope:Scope) (cl:List (Str×Addr)) (C:Addr) (fp:List Addr) (s:Shared) (H:Hp):Cx :=
 {X with N:=N,s₀:=s,H₀:=H,env:=compEnvC scope cl C X.env,outer:=X.stack,ex:=fp,fn:=fun _=>false,pn:=[],xe:=fun _ _=>False}
noncomputable def startC (k:Nat) (is:List Nat) (σ:St):St:=List.replicate k none++is.map fun i=>(σ[i]?).getD none
structure CompScope (X:Cx) (N:List Str) (k:Nat) (is:List Nat) (scope:Scope):Prop where
 kind:scope.kind=.function
 nocell:∀y∈scope.names,y.2≠.cell
 names:∀y∈scope.names,y.2=.local->scope.names.lookup y.1=some .local
 frees:∀y∈scope.names,y.2=.free->X.env.kindOf y.1=some .cell\/X.env.kindOf y.1=some .free
 len:N.length=k+is.length
 own:∀j i,is[j]?=some i->∃x,N[k+j]?=some x/\X.N[i]?=some x/\scope.names.lookup x=some .free
theorem zdd {x:Str}{k:NameKind}{l:List (Str×NameKind)}(h:l.lookup x=some k):(x,k)∈l:=xdy h
section
variable {X:Cx}{aA:List (Addr×Obj)}{σ:St}{H:Hp}{s:Shared}
theorem zbaf {N:List Str}{k:Nat}{is:List Nat}{scope:Scope}{cl:List (Str×Addr)}{fp:List Addr}{h1:Heap}{tk:Nat}(S:CompScope X N k is scope)(I:Inv X aA σ H s)
  (c1:∀x c,cl.lookup x=some c->X.env.cells.lookup x=some c)(c2:∀x,(x,NameKind.free)∈scope.names->∃c,cl.lookup x=some c)
  (hf:∀b∈fp,FpOk X aA H b)(hfo:∀b∈fp,∃o,s.heap.get? b=some o)(hn:h1.Ns s.heap.objs.size (fun _=>none))(hk:∀b o,s.heap.get? b=some o->h1.get? b=some o) :
  Inv (cxC X N scope cl s.heap.objs.size fp s H) [] (startC k is σ) H {s with heap:=h1,toks:=tk}:=by
 have hC:∀b o,s.heap.get? b=some o->b≠s.heap.objs.size:=fun b o e=>xca (xbl e)
 have nfs:∀b∈fp,b∉frs X.stack:=fun b hb z=>by
  rcases xbx.mp (I.stkSub b z) with e | e
  ·exact(hf b hb).2.1 e
  ·exact(hf b hb).2.2.1 e
 refine⟨⟨I.ok.mod,S.kind,I.ok.glob,I.ok.blt,xbf _,fun x y c e1 e2=>I.ok.inj x y c (c1 x c e1) (c1 y c e2),fun x hx=>?_,fun x c z=>?_,I.ok.hd,I.ok.frames,.inl rfl,fun b hb=>⟨?_,fun x c e=>?_⟩,I.bs,xbb I.ok.bsz I.sz,fun b o e hb=>?_,nfs,I.stack,I.stkFree⟩,
  rfl,I.bare,Un.kept hk,⟨_,hn,fun i x v e1 e2 e3=>?_⟩,fun x c e=>?_,I.hok.fresh (xbf _),fun x c e=>I.freeC x c (c1 x c e),fun p hp=>(nomatch hp),I.hok.kept hk,?_,I.hnd⟩
 ·have hx':(scope.names.map fun(n,k)=>if(k==NameKind.free&&X.env.scope.kind==.function&&X.env.kindOf n==some .cell) then(n,NameKind.cell) else(n,k)).lookup x=some .cell\/(scope.names.map fun(n,k)=>if(k==NameKind.free&&X.env.scope.kind==.function&&X.env.kindOf n==some .cell) then(n,NameKind.cell) else(n,k)).lookup x=some .free:=hx;have q:scope.names.lookup x=some .free:=by
   rcases hx' with z | z
   ·rcases zbs z with q | ⟨_,q⟩
    ·exact absurd rfl (S.nocell _ (zdd q))
    ·exact q
   ·rcases zbs z with q | ⟨q,_⟩
    ·exact q
    ·cases q
  exact c2 x (zdd q)
 ·cases z
 ·obtain⟨o,e⟩:=hfo b hb;exact hC b o e
 ·exact(hf b hb).2.2.2.2.1 x c (c1 x c e)
 ·rcases(hf b hb).2.2.2.1 with z | z
  ·exact I.ok.noex b o e z
  ·exact absurd (xbg (xbl (I.ok.bs b o e).1) z) (xfa _)
 ·-- a name of the def around
  unfold startC at e2;have hi:k<=i:=by
   rcases xgu i k with z | z
   ·rw[xbs (by rw[xgj];exact z),List.getElem?_replicate,if_pos z] at e2;cases e2
   ·exact z
  rw[xcd (by rw[xgj];exact hi),xgj,xcl] at e2;cases ej:is[i - k]? with
  | none=>rw[ej] at e2;cases e2
  | some j =>
   rw[ej] at e2;have e2':(σ[j]?).getD none=some v:=xbw e2;obtain⟨y,y1,y2,y3⟩:=S.own (i - k) j ej;have ey:y=x:=by
    have z:N[i]?=some y:=by rw[← y1];congr 1;lia
    have e1':N[i]?=some x:=e1;rw[z] at e1';exact xbw e1'
   subst ey;have e4:σ[j]?=some (some v):=by
    cases q:σ[j]? with
    | none=>rw[q] at e2';cases e2'
    | some o=>rw[q] at e2';exact congrArg some e2'
   have kd:=S.frees _ (zdd y3) rfl;have vis:Vis X.env.scope y:=.inr kd;obtain⟨m,_,hl⟩:=I.loc;obtain⟨u,r,lk⟩:=hl j y v y2 e4 vis;refine⟨u,r,?_⟩;rcases lk with⟨z,_⟩ | ⟨_,c,e5,cc⟩
   ·rcases kd with q | q<;>(rw[q] at z;cases z)
   ·obtain⟨c',e6⟩:=c2 y (zdd y3);have:c'=c:=by
     have z:=c1 y c' e6;rw[e5] at z;exact(xbw z).symm
    subst this;refine .inr ⟨?_,c',e6,?_⟩
    ·rcases e3 with z | z | z
     ·exact absurd (zbs z) (by
       rw[y3];rintro(q | ⟨q,_⟩)
       ·cases q
       ·cases q)
     ·exact .inl z
     ·exact .inr z
    ·obtain⟨o,ho,hd⟩:=cc;exact⟨o,hk _ o ho,hd⟩
 ·obtain⟨v,o,ho,hd⟩:=I.cell x c (c1 x c e);exact⟨v,o,hk _ o ho,hd⟩
 ·unfold startC;rw[xbq,xgj,xbe];exact S.len.symm
theorem zbag {N:List Str}{scope:Scope}{cl:List (Str×Addr)}{fp:List Addr}{σ':St}{H':Hp}{s':Shared}{h':Heap}(I:Inv X aA σ H s)(hf:∀b∈fp,FpOk X aA H b)(J:Inv (cxC X N scope cl s.heap.objs.size fp s H) [] σ' H' s')
  (hs:Heap.SameBut s.heap.objs.size s'.heap h'):Inv X aA σ H' {s' with heap:=h'}:=by
 have hC:∀b o,s.heap.get? b=some o->b≠s.heap.objs.size:=fun b o e=>xca (xbl e)
 have hH:H' s.heap.objs.size=none:=J.free;have B:Un (frs X.stack) fp H H' s.heap s'.heap:=J.base
 have U:Un (frs X.stack) fp H H' s.heap h':=⟨fun b o e n h1 h2=>hs.extBut b o (hC b o e) (B.keep b o e n h1 h2),fun b o e n h1 h2=>by
   obtain⟨sl,q⟩:=B.slot b o e n h1 h2;exact⟨sl,hs.extBut b _ (hC b o e) q⟩,B.free,fun b o e hx=>by
   obtain⟨o',q⟩:=B.there b o e hx
   exact⟨o',hs.extBut b o' (hC b o e) q⟩,B.tups,B.frzs,B.tbls⟩
 refine I.call' (s':={s' with heap:=h'}) J.os U (fun a o e=>?_) J.bare (fun b hb=>⟨(hf b hb).2.2.2.1,(hf b hb).2.1,(hf b hb).2.2.2.2.1,(hf b hb).2.2.2.2.2⟩);refine(J.hok a o e).stay (fun b u hb q=>hs.extBut b u ?_ q) (fun _ q=>q) fun _ _ q=>q
 rcases hb with z | z
 ·intro y;rw[z] at y;rw[y,hH] at e;cases e
 ·intro y;rw[y,hH] at z;cases z
end
structure OffC (X:Cx) (aA:List (Addr×Obj)) (H:Hp) (C:Addr):Prop where
 free:H C=none
 loc:C≠X.env.locals
 young:X.s₀.heap.objs.size<=C
 cell:∀x c,X.env.cells.lookup x=some c->c≠C
 pin:∀p∈X.pn++aA,p.1≠C
theorem OffC.back {X:Cx}{aA:List (Addr×Obj)}{σ:St}{H:Hp}{C:Addr}{s:Shared}{h':Heap}(o:OffC X aA H C)(I:Inv X aA σ H s)(hs:Heap.SameBut C s.heap h'):Inv X aA σ H {s with heap:=h'} :=
 I.turned (t':=s.toks) (fun b u hb e=>hs.extBut b u hb e) o.free o.loc (.inr o.young) o.cell o.pin
noncomputable def nxC (p:Addr) (te:TE) (tc:TT) (N:St->Hp->Prop):St->Hp->Prop:=fun σ2 H3=>tc σ2 H3 fun b H4 =>
 if b=true then te σ2 H4 fun y H5=>∃xs,H5 p=some (.lst xs)/\xs.length < sizeLine/\N σ2 (upd H5 p (.lst (xs++[y]))) else N σ2 H4
noncomputable def CompG (J:It) (g:TG) (tc:TT) (te:TE) (Q:VK) (p:Addr) (σ:St) (H:Hp):Prop:=∃W:Nat->Nat->St->Hp->Prop,(∃m,W 0 m σ H) /\
 ∀i m σ' H',W i m σ' H'->(J.stop i H'/\Q (.ref p) H')\/(J.go i H'/\∃N:St->Hp->Prop,(∀σ2 H2,N σ2 H2->∃m',m' < m/\W (i+1) m' σ2 H2)/\∀x H2,J.yld i H' x H2->g x σ' H2 (nxC p te tc N))
noncomputable def tComp (wi:TI) (k:Nat) (is:List Nat) (g:TG) (tc:TT) (te:TE):TE:=fun σ H Q=>wi σ H fun J H1=>∀p,H1 p=none->CompG J g tc te Q p (startC k is σ) (upd H1 p (.lst []))
noncomputable def tYes:TT:=fun _ H Q=>Q true H
section
variable {X:Cx}{tg iter elt:Expr}{ifs:List Expr}{wi:TI}{g:TG}{tc:TT}{te:TE}{N:List Str}{k:Nat}{is:List Nat}{scope:Scope}{pos:Pos}
noncomputable def PIf (X:Cx) (ifs:List Expr) (t:TT):Prop :=
 ∀(aA:List (Addr×Obj)) (s:Shared) (σ:St) (H:Hp) (Q:Bool->Hp->Prop),Inv X aA σ H s->t σ H Q ->
  wpAny (model X.prog X.w) X.A (forIn ifs true fun c r=>if r=true then do let ok ← isTrue c X.env (eval c X.env);pure (ForInStep.yield ok) else pure (ForInStep.yield r)) (TP X aA σ Q) X.xe s
theorem zbdf:PIf X [] tYes:=fun aA s σ H Q I h=>wpAny_tests_nil ⟨H,I,h⟩
theorem zbde {c:Expr}{t:TT}(h:PT X c t):PIf X [c] t:=fun aA s σ H Q I hq=>wpAny_tests_one (h aA s σ H Q I hq)
theorem zmo (hcalm:X.calm=true)(hg:∀cl C fp s H,PG (cxC X N scope cl C fp s H) tg g)(hc:∀cl C fp s H,PIf (cxC X N scope cl C fp s H) ifs tc)(he:∀cl C fp s H,PE (cxC X N scope cl C fp s H) elt te)
  (S:CompScope X N k is scope){aA:List (Addr×Obj)}{σ:St}{H2:Hp}{s2:Shared}{cl:List (Str×Addr)}{it:Addr}{fp:List Addr}{tn:Nat->Heap->Prop}{J:It}{Q:VK}{E:Value->Shared->Prop}{RR:Value->Addr->Result->Shared->Prop}
  (I2:Inv X aA σ H2 s2)(T:Turn X.prog X.w X.K tg J fp it tn)(st2:tn 0 s2.heap)(f2:∀b∈fp,FpOk X aA H2 b)
  (c1:∀x c,cl.lookup x=some c->X.env.cells.lookup x=some c)(c2:∀x,(x,NameKind.free)∈scope.names->∃c,cl.lookup x=some c)
  (h:∀p,H2 p=none->∃W:Nat->Nat->St->Hp->Prop,(∃m,W 0 m (startC k is σ) (upd H2 p (.lst []))) /\
   ∀i m σ' H',W i m σ' H'->(J.stop i H'/\Q (.ref p) H')\/(J.go i H'/\∃N:St->Hp->Prop,(∀σ2 H2,N σ2 H2->∃m',m' < m/\W (i+1) m' σ2 H2)/\∀x H2,J.yld i H' x H2->g x σ' H2 (nxC p te tc N)))
  (hR:∀(p C:Addr) (s':Shared) (H':Hp) (m:Str->Option Value),OffC X aA H' C->s'.heap.Ns C m->Inv X aA σ H' s'->Q (.ref p) H'->RR (.ref p) C (.ok .next) s') :
  wpAny (model X.prog X.w) X.A (newList []) (fun acc s₃=>wpAny (model X.prog X.w) X.A (newFunctionEnv scope X.env.globals cl [] X.env.qual none .none (some X.env)) (fun cenv s₄ =>
   codeAny (model X.prog X.w) X.A (.compStart (.ListComp elt [⟨tg,iter,ifs,0⟩] scope pos) 0 (.ref it) acc {cenv with scope:=relabel scope X.env}) (RR acc cenv.locals) s₄) E s₃) E s2:=by
 refine xdp ?_;have fresh:H2 s2.heap.objs.size=none:=I2.fresh;have I3:Inv X aA σ (upd H2 s2.heap.objs.size (.lst [])) { s2 with heap:=s2.heap.push { cls:=.type "list", dict:=none, data:=.seq ([]:List Value).toArray } }:=I2.lnew (t':=s2.toks) (.nil) (by decide)
 generalize hs3:({ s2 with heap:=s2.heap.push { cls:=.type "list", dict:=none, data:=.seq ([]:List Value).toArray } }:Shared)=s3 at I3
 have k3:∀b o,s2.heap.get? b=some o->s3.heap.get? b=some o:=fun b o e=>by rw[← hs3];exact xbc _ e
 refine wpAny_newFunctionEnv S.nocell (by intro y hy;simp at hy) (fun h₁ hns₁ hsb₁=>?_) S.kind;have st3:tn 0 s3.heap:=T.keep _ _ _ st2 fun b _ o e=>k3 b o e
 have f3:∀b∈fp,FpOk X aA (upd H2 s2.heap.objs.size (.lst [])) b:=fun b hb=>by
  obtain⟨o,e,_⟩:=T.obj _ _ st2 b hb;exact⟨by rw[zm (xca (xbl e))];exact(f2 b hb).1,(f2 b hb).2⟩
 have k4:∀b o,s3.heap.get? b=some o->h₁.get? b=some o:=fun b o e=>hsb₁.extBut b o (xca (xbl e)) (xbc _ e)
 have J4:=zbaf (tk:=s3.toks+([]:List (Str×Value)).length) S I3 c1 c2 f3 (fun b hb=>let ⟨o,e,_⟩:=T.obj _ _ st3 b hb;⟨o,e⟩) hns₁ k4;obtain⟨W,⟨m0,w0⟩,turn⟩:=h s2.heap.objs.size fresh;have st4:tn 0 h₁:=T.keep _ _ _ st3 fun b _ o e=>k4 b o e
 have loop:codeAny (model X.prog X.w) X.A (.compLoop (.ListComp elt [⟨tg,iter,ifs,0⟩] scope pos) 0 (.ref it) (.ref s2.heap.objs.size) (compEnvC scope cl s3.heap.objs.size X.env)) (RR (.ref s2.heap.objs.size) s3.heap.objs.size) {s3 with heap:=h₁,toks:=s3.toks+([]:List (Str×Value)).length}:=by
  have stat:∀{H':Hp},(∀b∈fp,H' b=none)->∀b∈fp,FpOk (cxC X N scope cl s3.heap.objs.size fp s3 (upd H2 s2.heap.objs.size (.lst []))) [] H' b:=fun {H'} hn b hb=>by
   obtain⟨o,e,_⟩:=T.obj _ _ st3 b hb;refine⟨hn b hb,xca (xbl e),J4.ok.exfs b hb,.inl hb,fun x c e'=>(f3 b hb).2.2.2.2.1 x c (c1 x c e'),fun p hp=>(nomatch hp)⟩
  refine zww (fun n s'=>∃i σ' H',Inv (cxC X N scope cl s3.heap.objs.size fp s3 (upd H2 s2.heap.objs.size (.lst []))) [] σ' H' s'/\tn i s'.heap/\(∀b∈fp,H' b=none)/\W i n σ' H') ?_ m0
   ⟨0,_,_,J4,st4,fun b hb=>(f3 b hb).1,w0⟩
  rintro n s5 ⟨i,σ5,H5,I5,st5,fr5,w5⟩;rcases turn i n σ5 H5 w5 with⟨stop,q⟩ | ⟨go,N',hN',step⟩
  ·refine thn (T.done (cxC X N scope cl s3.heap.objs.size fp s3 (upd H2 s2.heap.objs.size (.lst []))) rfl rfl rfl hcalm i [] s5 σ5 H5 _ I5 (stat fr5) st5 stop) fun r s6 hq0=>?_
   obtain⟨hr,I6⟩:=hq0;subst hr;obtain⟨m,hm,_⟩:=I6.loc;refine hR _ _ s6 H5 m ⟨I6.free,xjy I3.lt,I3.sz,fun x c e=>?_,fun p hp=>xca (xbl (I3.pin p hp).1)⟩ hm (zbag (h':=s6.heap) I3 f3 I6 (.refl ..)) q;obtain⟨v,o,ho,_⟩:=I3.cell x c e;exact xca (xbl ho)
  ·refine thn (T.item (cxC X N scope cl s3.heap.objs.size fp s3 (upd H2 s2.heap.objs.size (.lst []))) rfl rfl rfl hcalm i [] s5 σ5 H5 _ I5 (stat fr5) st5 go) fun r s6 hq0=>?_
   obtain⟨u,hr,h6⟩:=hq0;subst hr;refine thn h6 fun _ s7 hq0=>?_
   obtain⟨x,H7,I7,r7,y7,st7,fr7⟩:=hq0;have I7':=I7.pinned (stat fr7) (T.obj _ _ st7);refine thn (hg cl s3.heap.objs.size fp s3 _ _ s7 σ5 H7 x u _ I7' r7 (step x H7 y7)) fun _ s8 hq0=>?_
   obtain⟨σ8,H8,I8,q8⟩:=hq0;refine thn (hc cl s3.heap.objs.size fp s3 _ _ s8 σ8 H8 _ I8 q8) fun b s9 hq0=>?_
   obtain⟨H9,I9,q9⟩:=hq0;have again:∀{σ':St} {H':Hp} {s':Shared} {m':Nat},Inv (cxC X N scope cl s3.heap.objs.size fp s3 (upd H2 s2.heap.objs.size (.lst []))) ([]++pinsAt fp s7.heap) σ' H' s'->m' < n->W (i+1) m' σ' H' ->
     ∃m,m < n/\∃i σ' H',Inv (cxC X N scope cl s3.heap.objs.size fp s3 (upd H2 s2.heap.objs.size (.lst []))) [] σ' H' s'/\tn i s'.heap/\(∀b∈fp,H' b=none)/\W i m σ' H':=fun {σ' H' s' m'} I' hm w'=>by
    refine⟨m',hm,i+1,σ',H',I'.unpinned,T.keep _ _ _ st7 fun b hb o e=>(I'.pin (b,o) (xda _ (xda _ (zfy hb e)))).1,fun b hb=>?_,w'⟩;obtain⟨o,e,d⟩:=T.obj _ _ st7 b hb;exact(I'.pin (b,o) (xda _ (xda _ (zfy hb e)))).2.1
   cases b with
   | false =>
    obtain⟨m',hm,w'⟩:=hN' _ _ q9;exact again I9 hm w'
   | true =>
    refine thn (he cl s3.heap.objs.size fp s3 _ _ s9 σ8 H9 _ I9 q9) fun v s10 hq0=>?_
    obtain⟨y,H10,I10,r10,xs,hxs,hz,n10⟩:=hq0;obtain⟨m',hm,w'⟩:=hN' _ _ n10;refine thn (zpb (X:=cxC X N scope cl s3.heap.objs.size fp s3 (upd H2 s2.heap.objs.size (.lst []))) _ s10 σ8 H10 (.ref s2.heap.objs.size) [y] _ [v] (fun _ H'=>H'=upd H10 s2.heap.objs.size (.lst (xs++[y]))) I10 rfl (.cons r10 .nil) ⟨_,xs,y,rfl,rfl,hxs,hz,rfl⟩) fun _ s11 hq0=>?_
    obtain⟨_,H11,I11,_,e11⟩:=hq0;subst e11;exact again I11 hm w'
 have hs3':s2.heap.push { cls:=.type "list", dict:=none, data:=.seq ([]:List Value).toArray }=s3.heap:=by rw[← hs3]
 have fin:=codeAny_compStart_list (elt:=elt) (target:=tg) (iter:=iter) (ifs:=ifs) (rest:=[]) (scope:=scope) (pos:=pos) loop (T.self X.A 0 _ _ _ st4 loop);exact fin
theorem zfm (S:CompScope X N k is scope){aA:List (Addr×Obj)}{σ:St}{H:Hp}{s:Shared}(I:Inv X aA σ H s) :
  ∃cl,closureFor scope X.env=pure cl/\(∀x c,cl.lookup x=some c->X.env.cells.lookup x=some c)/\∀x,(x,NameKind.free)∈scope.names->∃c,cl.lookup x=some c :=
 ztt fun y hy hf=>I.ok.has y.1 (S.frees y hy hf)
theorem zbdm (hcalm:X.calm=true)(hi:PI X tg iter wi)(hg:∀cl C fp s H,PG (cxC X N scope cl C fp s H) tg g)(hc:∀cl C fp s H,PIf (cxC X N scope cl C fp s H) ifs tc)(he:∀cl C fp s H,PE (cxC X N scope cl C fp s H) elt te)
  (S:CompScope X N k is scope)(hs:∀x,foldedSetIterable iter X.env x=pure x:=by intro _;rfl):PE X (.ListComp elt [⟨tg,iter,ifs,0⟩] scope pos) (tComp wi k is g tc te):=by
 intro aA s σ H Q I h;obtain⟨cl,e,c1,c2⟩:=zfm S I;rw[eval_ListComp];refine wpAny_comprehension_free (use:=none) rfl hs e S.kind S.names (thn (hi aA s σ H _ I h) fun xv s1 h1=>thn h1 fun itv s2 h2=>?_);obtain⟨it,fp,tn,J,H2,e2,I2,T,st2,f2,h3⟩:=h2;subst e2;refine zmo (Q:=Q) (RR:=fun acc C=>compPost (model X.prog X.w) X.A X.xe none (EP X aA σ Q) acc C) hcalm hg hc he S I2 T st2 f2 c1 c2 h3 ?_;intro p C s' H' m off hm I' q;exact⟨m,hm,fun h' hs'=>⟨.ref p,H',off.back I' hs',rfl,q⟩⟩
theorem zbda {i:Nat}{x:Str}{pos':Pos}(hcalm:X.calm=true)(hN:X.N.Nodup)(hxi:X.N[i]?=some x)(hx:Loc X.env.scope x)(hi:PI X tg iter wi)(hg:∀cl C fp s H,PG (cxC X N scope cl C fp s H) tg g)(hc:∀cl C fp s H,PIf (cxC X N scope cl C fp s H) ifs tc)
  (he:∀cl C fp s H,PE (cxC X N scope cl C fp s H) elt te)(S:CompScope X N k is scope){spos:Pos}(hsw:swapsWith (.ListComp elt [⟨tg,iter,ifs,0⟩] scope pos) (some (.Name x pos')) spos.line X.env=pure true:=by rfl)
  (hf:X.fn x=true\/X.env.scope.names.lookup x=some .local:=by first | exact .inl rfl | exact .inr rfl | assumption)
  (hs:∀x,foldedSetIterable iter X.env x=pure x:=by intro _;rfl):PS X (.Assign [.Name x pos'] (.ListComp elt [⟨tg,iter,ifs,0⟩] scope pos) spos) (tAsg (tComp wi k is g tc te) (gName i)):=by
 intro aA s σ H D I h;obtain⟨cl,e,c1,c2⟩:=zfm S I;rw[exec_Assign_Name_used (hs:=hsw)];refine xba (xjp (xba (?_:wpAny _ X.A _ _ _ s)));show wpAny _ X.A (do let _ ← comprehension (.ListComp elt [⟨tg,iter,ifs,0⟩] scope pos) scope X.env _ (newList []) false (eval iter X.env) (some (assign (.Name x pos') X.env))) _ _ s
 refine xba (xdd (wpAny_comprehension_free (use:=some (assign (.Name x pos') X.env)) (Q:=fun _ s'=>SP X aA D .next s') rfl hs e S.kind S.names
  (thn (hi aA s σ H _ I h) fun xv s1 h1=>thn h1 fun itv s2 h2=>?_)) (fun _ s' hq=>xbd (xbd hq)) fun _ _ e=>e)
 obtain⟨it,fp,tn,J,H2,e2,I2,T,st2,f2,h3⟩:=h2;subst e2;refine zmo (Q:=fun v H'=>gName i v σ H' D.nx) (RR:=fun acc C=>compPost (model X.prog X.w) X.A X.xe (some (assign (.Name x pos') X.env)) (fun _ s'=>SP X aA D .next s') acc C) hcalm hg hc he S I2 T st2 f2 c1 c2 h3 ?_;intro p C s' H' m off hm I' q;show wpAny _ X.A (assign (.Name x pos') X.env (.ref p)) _ _ _;refine wpAny_assign_Name (zop (v:=.ref p) I' hN hxi hx rfl (fun s'' I'' hq0=>?_) hf);obtain⟨a,hsb,ha⟩:=hq0;have hCa:C≠a:=by
  rcases ha with z | z
  ·rw[z];exact off.loc
  ·exact(off.cell x a z).symm
 exact⟨m,hm.sameBut hsb hCa,fun h' hs'=>⟨_,H',off.back I'' hs',q⟩⟩
end
section
variable {g:TG}{tc:TT}{te:TE}{Q:VK}{σ:St}{H:Hp}{p:Addr}
end
noncomputable def Callee (P:Program) (w:World) (K:Fg) (mg:Str->Option Value) (base:Heap) (x:Str) (k:Nat) (ps:List Str) (sp:Sp):Prop :=
 ∃f fd,FnOk P w K mg base CX0 k f fd ps sp/\Binds K fd ps []/\W.keepIn K (.ref f)=true/\mg x=some (.ref f)
section
variable {X:Cx}{x:Str}{k:Nat}{ps:List Str}{sp:Sp}{p pos:Pos}{e:Expr}{es:List Expr}{t:TA}
theorem zzs (c:Callee X.prog X.w X.K X.mg X.base x k ps sp)(hr:Room k X.A)(hg:Gl X x)(ha:PA X (e::es) t)(hdb:(x==("__debug__" : Str))=false:=by decide)
  (he:starEach (e::es) X.env=(false,eval e X.env)::starEach es X.env:=by rfl)(hpl:(backTo pos (starEach es X.env)).any (·.1)=false:=by rfl) :
  PE X (.Call (.Name x p) (e::es) [] pos) (tCall sp [] E0 t):=by
 obtain⟨f,fd,F,b,kp,m⟩:=c;exact zxk F hr hg m kp b .nil pass0 ha hdb he hpl
end
noncomputable def TopF (K:Fg) (x:Str) (st:Stmt):Prop :=
 ∃f fd,W.nsIn K mainGlobals x=some (some (.ref f))/\Fun K x x st f fd
theorem zce {K:Fg}{x:Str}{st:Stmt}{f:Addr}{od an:Option Addr}{sl:Array (Option Value)}{oc kV dc pm cd ct:Value}
  (a:W.nsIn K mainGlobals x=some (some (.ref f)))(l:K.lookup f=some ⟨oc,od,.func (W.fnOf x x (defArgs st) (defBody st) (defScope st) .none kV dc pm an cd ct),sl⟩)(c:W.codeIn K cd x=true)(k:W.keepIn K (.ref f)=true):TopF K x st :=
 ⟨f,_,a,zben l c k⟩
theorem zwx {P:Program}{w:World}{K:Fg}{mg:Str->Option Value}{base h:Heap}{x:Str}{st:Stmt}{N ps:List Str}{k:Nat}{sp:Sp}(T:TopF K x st)(X:K.In h)(G:h.Ns mainGlobals mg)(S:FnScope N ps (defScope st))
  (bd:∀(kV doc pm:Value) (an:Option Addr) (cdv ct:Value) (us:List Value),us.length=ps.length->bindArgs (W.fnOf x x (defArgs st) (defBody st) (defScope st) .none kV doc pm an cdv ct) ⟨us,[]⟩=pure (ps.zip us))
  (len:∀vs H Q E,sp vs H Q E->vs.length=ps.length)
  (hbody:∀(f:Addr) (cdv:Value) (A:Around) (outer:List Env) (s:Shared) (H:Hp) (vs:List V) (Q:VK) (E:XK),Room k (A.deeper (envOfC x (defScope st) s.heap.objs.size f cdv))->sp vs H Q E ->
   ∃t,PSs (cxOf CX0 P w K mg base N x (defScope st) f cdv A outer s H E).nox (defBody st) t/\t {nx:=fun _ H'=>Q .non H',rt:=Q} (start N vs) H):Callee P w K mg base x (k+1) ps sp:=by
 obtain⟨f,fd,a,F⟩:=T;exact⟨f,fd,F.ok S len (hbody f),F.binds bd,F.kp,xcr X G a⟩
section
variable {X:Cx}
theorem zcn:CallR X (.builtin "isinstance") (fun xs H Q=>∃ x T t b, xs=[x, .ty T]/\TyOf X.K H x t/\W.kitOne X.K t (.type T)=some b/\Q (.bl b) H):=by
 intro aA s σ H xs us Q I r h;obtain⟨x,T,t,b,rfl,ty,e,q⟩:=h;obtain⟨u,w',rfl,ru,rw'⟩:=vals2 r;cases(show w'=Value.type T from rw');exact zwd I ru ty e fun tk=>⟨.bl b,H,I.tok tk,rfl,q⟩
noncomputable def CDivP (i j:Int):Prop:=0 < j/\j < 2 ^ 1000
theorem zgt:OpR X (binaryOp .FloorDiv) (rI CDivP fun i j=>.int (i / j)):=opI fun i j _ _ _ _ _ hc q=>by
 have e:i.fdiv j=i / j:=Int.fdiv_eq_ediv_of_nonneg i (by have:=hc.1;lia);refine floordiv_int (by have:=hc.1;lia) (by rw[e];exact q) (.inl (PyProof.noPylong_of_log2 ?_));have h1:j.natAbs < 2 ^ 1000:=by
  have h2:=hc.1;have h3:=hc.2;have h4:(j.natAbs:Int)=j:=by lia
  have h5:(j.natAbs:Int) < ((2 ^ 1000:Nat):Int):=by
   rw[h4];exact_mod_cast h3
  exact_mod_cast h5
 have h0:j.natAbs≠0:=by have:=hc.1;lia
 have:=(Nat.log2_lt h0).mpr h1;lia
end
section
variable {X:Cx}{st:Stmt}{t:TS}
end
noncomputable def compLook (XN:List Str) (xs:List (Str×NameKind)) (N:List Str) (k:Nat) (is:List Nat) (scope:Scope):Bool :=
 (scope.kind==.function)&&scope.names.all (fun y=>y.2 != .cell)&&scope.names.all (fun y=>y.2 != .local||scope.names.lookup y.1==some .local) &&
 scope.names.all (fun y=>y.2 != .free||(xs.lookup y.1==some .cell||xs.lookup y.1==some .free))&&(N.length==k+is.length) &&
 (List.range is.length).all (fun j=>match is[j]?,N[k+j]? with
  | some i,some x=>XN[i]?==some x&&scope.names.lookup x==some .free
  | _,_=>false)
theorem zfg {X:Cx}{N:List Str}{k:Nat}{is:List Nat}{scope:Scope}(h:compLook X.N X.env.scope.names N k is scope=true):CompScope X N k is scope:=by
 unfold compLook at h;simp only[xem,xgv] at h;obtain⟨⟨⟨⟨⟨h1,h2⟩,h3⟩,h4⟩,h5⟩,h6⟩:=h;refine⟨eq_of_beq h1,fun y hy e=>?_,fun y hy e=>?_,fun y hy e=>?_,eq_of_beq h5,fun j i e=>?_⟩
 ·have:=h2 y hy;rw[e] at this;simp at this
 ·have:=h3 y hy;rw[e] at this;simp at this;exact this
 ·have:=h4 y hy;rw[e] at this;simp at this;exact this
 ·have hj:j < is.length:=(xbk.mp e).1;have:=h6 j (xdz.mpr hj);rw[e] at this;cases e2:N[k+j]? with
  | none=>rw[e2] at this;cases this
  | some x =>
   rw[e2] at this;simp only[xem,xfd] at this;exact⟨x,rfl,this.1,this.2⟩
theorem zln:bootBuiltins "len"=some (.builtin "len"):=by decide +kernel
theorem zbkp:bootBuiltins "abs"=some (.builtin "abs"):=by decide +kernel
theorem ztx:bootBuiltins "min"=some (.builtin "min"):=by decide +kernel
theorem zbkn:bootBuiltins "max"=some (.builtin "max"):=by decide +kernel
theorem zbkm:bootBuiltins "sum"=some (.builtin "sum"):=by decide +kernel
theorem zhr:bootBuiltins "sorted"=some (.builtin "sorted"):=by decide +kernel
theorem zbge:bootBuiltins "any"=some (.builtin "any"):=by decide +kernel
theorem zbko:bootBuiltins "all"=some (.builtin "all"):=by decide +kernel
theorem zbi:bootBuiltins "isinstance"=some (.builtin "isinstance"):=by decide +kernel
theorem zbbj:bootBuiltins "int"=some (.type "int"):=by decide +kernel
theorem zyg:bootBuiltins "bool"=some (.type "bool"):=by decide +kernel
theorem zbgd:bootBuiltins "str"=some (.type "str"):=by decide +kernel
theorem zem:bootBuiltins "tuple"=some (.type "tuple"):=by decide +kernel
theorem zty:bootBuiltins "list"=some (.type "list"):=by decide +kernel
theorem zrm {H:Hp}{p:Addr}{o:HO}(h:H p=some o):upd H p o=H:=by
 funext b
 unfold upd;split
 ·subst b;exact h.symm
 ·rfl
section
variable {X:Cx}{K:Fg}
end
end L2
namespace Srt
open PySem PySem.W PyProof.Rows
section
variable (r:Nat->Nat)
noncomputable def lt (i j:Nat):Bool:=decide (r i < r j)
noncomputable def At (p:Array Nat) (i:Nat):Nat:=r (p.getD i 0)
noncomputable def Up (p:Array Nat) (n:Nat):Prop:=∀i j,i<=j->j < n->At r p i<=At r p j
end
section
variable {r:Nat->Nat}{p:Array Nat}{n:Nat}
end
section
variable {n:Nat}
end
section
variable {P:Program}{w:World}{B:Around}{E:Value->Shared->Prop}{st:Shared}
noncomputable def midHeap (h:Heap) (d:Addr) (xs:List Value):Heap:=((h.update d (Obj.mapSeq fun _=>(#[]:Array Value))).push (seqObj "tuple" xs.toArray 0)).push (seqObj "list" #[] 0)
theorem zkg {h:Heap}{d b:Addr}{xs:List Value}{ob:Obj}(ne:b≠d)(e:h.get? b=some ob):(midHeap h d xs).get? b=some ob :=
 xbc _ (xbc _ ((xim _ _ _ _ ne).trans e))
noncomputable def Answers (P:Program) (w:World) (B:Around) (r:Nat->Nat) (xs:List Value) (sg:Shared):Prop :=
 ∃κ,(∀R:SortKind->Shared->Prop,R κ sg->wpAny (model P w) B (keyKind' xs.toArray) R (fun _ _=>False) sg) /\
  ∀i j C,i < xs.length->j < xs.length->C (lt r i j) sg->kas_ask P w B κ xs i j C sg
noncomputable def outOf (xs:List Value) (p:Array Nat):Array Value:=List.toArray (p.toList.map fun i=>xs.getD i Value.none)
theorem zuw {xs:List Value}(h:xs.length < 2):(xs.toArray.zip xs.toArray).map (·.2)=outOf xs (List.toArray (List.range xs.length)):=by
 unfold outOf
 match xs,h with
 | [],_=>simp
 | [_],_=>simp[xkb]
 | _::_::_,h=>exact absurd h (by simp)
end
end Srt
namespace Srt
open PySem PySem.W PyProof.Rows HT
theorem ziv:∀a:List Int,lexLt a a=false
 | []=>rfl
 | x::a=>by rw[zde,if_pos rfl];exact ziv a
theorem zhn:∀{a b c:List Int},lexLt a b=true->lexLt b c=true->lexLt a c=true
 | _,[],[],_,h=>by rw[zei] at h;cases h
 | _,_::_,[],_,h=>by rw[zdt] at h;cases h
 | [],[],_::_,h,_=>by rw[zei] at h;cases h
 | _::_,[],_::_,h,_=>by rw[zdt] at h;cases h
 | [],_::_,_::_,_,_=>zcr _ _
 | x::a,y::b,z::c,h1,h2=>by
  rw[zde] at h1 h2 ⊢;by_cases e1:x=y
  ·rw[if_pos e1] at h1;subst e1;by_cases e2:x=z
   ·rw[if_pos e2] at h2 ⊢;exact zhn h1 h2
   ·rw[if_neg e2] at h2 ⊢;exact h2
  ·rw[if_neg e1] at h1;have h1':=xeh h1;by_cases e2:y=z
   ·subst e2;rw[if_neg e1];exact h1
   ·rw[if_neg e2] at h2;have h2':=xeh h2;rw[if_neg (by lia)];exact xcf (by lia)
theorem zpc:∀a b:List Int,lexLt a b=true\/a=b\/lexLt b a=true
 | [],[]=>.inr (.inl rfl)
 | [],_::_=>.inl (zcr _ _)
 | _::_,[]=>.inr (.inr (zcr _ _))
 | x::a,y::b=>by
  rw[zde,zde];by_cases e:x=y
  ·subst e;rw[if_pos rfl,if_pos rfl];rcases zpc a b with h | h | h
   ·exact .inl h
   ·exact .inr (.inl (by rw[h]))
   ·exact .inr (.inr h)
  ·rw[if_neg e,if_neg (fun z=>e z.symm)];rcases Int.lt_or_gt_of_ne e with h | h
   ·exact .inl (xcf h)
   ·exact .inr (.inr (xcf h))
theorem zvw {a b:List Int}(h:lexLt a b=true):lexLt b a=false:=by
 cases e:lexLt b a with
 | false=>rfl
 | true=>have:=zhn h e;rw[ziv] at this;cases this
theorem ztr {p q:Nat->Bool}(hpq:∀x,p x=true->q x=true):∀{l:List Nat} {y:Nat},y∈l->q y=true->p y=false->l.countP p < l.countP q
 | [],_,h,_,_=>nomatch h
 | x::l,y,h,h1,h2=>by
  have mono:∀l:List Nat,l.countP p<=l.countP q:=fun l=>List.countP_mono_left fun x _=>hpq x
  rcases xbx.mp h with rfl | h
  ·rw[xhb h1,xjc (by rw[h2];decide)];exact Nat.lt_succ_of_le (mono l)
  ·have ih:=ztr hpq h h1 h2;by_cases c:p x=true
   ·rw[xhb c,xhb (hpq x c)];lia
   ·rw[xjc c];by_cases d:q x=true
    ·rw[xhb d];lia
    ·rw[xjc d];exact ih
noncomputable def rank (ks:List (List Int)) (i:Nat):Nat:=(List.range ks.length).countP fun k=>lexLt (ks.getD k []) (ks.getD i [])
theorem zsd {ks:List (List Int)}{i j:Nat}(hi:i < ks.length)(hj:j < ks.length):lt (rank ks) i j=lexLt (ks.getD i []) (ks.getD j []):=by
 have up:∀{a b:Nat},a < ks.length->lexLt (ks.getD a []) (ks.getD b [])=true->rank ks a < rank ks b:=fun {a b} ha h =>
  ztr (fun x hx=>zhn hx h) (xdz.mpr ha) h (ziv _)
 cases e:lexLt (ks.getD i []) (ks.getD j []) with
 | true=>exact xcf (up hi e)
 | false =>
  refine xbm fun h=>?_
  rcases zpc (ks.getD i []) (ks.getD j []) with z | z | z
  ·rw[e] at z;cases z
  ·unfold rank at h;rw[z] at h;exact absurd h (xfa _)
  ·have:=up hj z;lia
section
variable {prog:Program}{w:World}{A:Around}{s:Shared}{b:Bool}{Q:Bool->Shared->Prop}
theorem zta:∀{us ws:List Value} {ns ms:List Int} (i:Nat),IntsAre us ns->IntsAre ws ms->Q (lexLt ns ms) s->KatLex prog w A b (decide (us.length < ws.length)) Q (us.zip ws) i s
 | _,_,_,_,_,.nil,.nil,h=>h
 | _,_,_,_,_,.nil,.cons _ _ _,h=>h
 | _,_,_,_,_,.cons _ _ _,.nil,h=>h
 | _,_,_,_,i,.cons x t (vs:=us) (ns:=ns) r1,.cons y u (vs:=ws) (ns:=ms) r2,h=>by
  rw[zde] at h;refine kat_cons (wpAny_eqBool_int (kat_go (fun e=>kat_yes ?_) fun e=>kat_no ?_))
  ·rw[if_pos (eq_of_beq e)] at h;have q:=zta (i+1) r1 r2 h;have ee:decide ((Value.int x t::us).length < (Value.int y u::ws).length)=decide (us.length < ws.length):=by
    rw[xcg,xcg,xdl];simp
   rw[ee];exact q
  ·rw[if_neg (xga.mp e)] at h;cases hb:(b&&i==0) with
   | true=>exact oneLt_int h
   | false=>exact kat_one _ _ (PyProof.Rows.lt_int h)
end
end Srt
namespace L2
open PySem PySem.Spec PyProof.Rows PySem.W
theorem zom:∀{as:List Addr} {us:List Value},Vals (as.map V.ref) us->us=as.map Value.ref
 | [],_,.nil=>rfl
 | a::as,_,.cons r t=>by
  rw[show _=Value.ref a from r,zom t]
  rfl
noncomputable def TupsAt (K:Fg) (H:Hp) (ps:List (Addr×List Int)):Prop:=∀p∈ps,SqT K H p.1 (p.2.map V.int)
theorem zv {α β:Type}(f:α->β)(d:β){l:List α}{i:Nat}{x:α}(h:l[i]?=some x):(l.map f).getD i d=f x:=by
 rw[xbo,xcl,h]
 rfl
section
variable {X:Cx}
end
end L2
namespace L2
open PySem PySem.Spec PyProof.Rows
mutual
inductive DAt (K:Fg) (H:Hp):V->PyData->Prop
 | non:DAt K H .non .none
 | bl (b:Bool):DAt K H (.bl b) (.bool b)
 | int (i:Int):DAt K H (.int i) (.int i)
 | str (x:Str):DAt K H (.str x) (.str x)
 | lst {a:Addr} {xs:List V} {ds:List PyData}:SqL K H a xs->DAll K H xs ds->DAt K H (.ref a) (.list ds)
 | tup {a:Addr} {xs:List V} {ds:List PyData}:SqT K H a xs->DAll K H xs ds->DAt K H (.ref a) (.tuple ds)
inductive DAll (K:Fg) (H:Hp):List V->List PyData->Prop
 | nil:DAll K H [] []
 | cons {x:V} {xs:List V} {d:PyData} {ds:List PyData}:DAt K H x d->DAll K H xs ds->DAll K H (x::xs) (d::ds)
end
section
variable {X:Cx}{aA:List (Addr×Obj)}{σ:St}{H:Hp}{s:Shared}
mutual
theorem zdr (I:Inv X aA σ H s):∀{v:V} {d:PyData} {u:Value},DAt X.K H v d->RelV v u->∃as,Reads s.heap u d as
 | _,_,_,.non,r=>by cases r;exact⟨_,.none⟩
 | _,_,_,.bl b,r=>by cases r;exact⟨_,.bool b⟩
 | _,_,_,.int i,r=>by obtain⟨t,rfl⟩:=r;exact⟨_,.int i t⟩
 | _,_,_,.str x,r=>by obtain⟨t,rfl⟩:=r;exact⟨_,.str x t⟩
 | _,_,_,.lst h all,r=>by
  cases r;obtain⟨its,rv,⟨o,n,e,c,_,dd⟩,_⟩:=I.list h;obtain⟨as,q⟩:=zgs I all rv;exact⟨_,.list e c dd q⟩
 | _,_,_,.tup h all,r=>by
  cases r;obtain⟨its,rv,⟨o,e,c,n,dd⟩,_⟩:=I.tuple h;obtain⟨as,q⟩:=zgs I all rv;exact⟨_,.tuple e c dd q⟩
theorem zgs (I:Inv X aA σ H s):∀{vs:List V} {ds:List PyData} {us:List Value},DAll X.K H vs ds->Vals vs us->∃as,ReadsAll s.heap us ds as
 | _,_,_,.nil,.nil=>⟨_,.nil⟩
 | _,_,_,.cons h t,.cons r rs=>by
  obtain⟨as,q⟩:=zdr I h r;obtain⟨bs,q'⟩:=zgs I t rs;exact⟨_,.cons q q'⟩
end
end
noncomputable def rEqX (K:Fg) (neg:Bool):R2:=fun x y H Q=>∃dx dy,DAt K H x dx/\DAt K H y dy/\PySem.SeqAt.shaped dx=true/\PySem.SeqAt.shaped dy=true/\Q (.bl (if neg then !PyData.eqv dx dy else PyData.eqv dx dy)) H
section
variable {X:Cx}
theorem zsm (hu:X.A.units+64 < cLine):OpR X (compareOp .Eq) (rEqX X.K false):=by
 intro aA s σ H x y v u Q I r1 r2 h;obtain⟨dx,dy,a1,a2,a3,a4,q⟩:=h;obtain⟨as,ra⟩:=zdr I a1 r1;obtain⟨bs,rb⟩:=zdr I a2 r2;exact eq_dataH ra rb a3 a4 hu ⟨.bl (PyData.eqv dx dy),H,I,rfl,q⟩
theorem zvk (hu:X.A.units+64 < cLine):OpR X (compareOp .NotEq) (rEqX X.K true):=by
 intro aA s σ H x y v u Q I r1 r2 h;obtain⟨dx,dy,a1,a2,a3,a4,q⟩:=h;obtain⟨as,ra⟩:=zdr I a1 r1;obtain⟨bs,rb⟩:=zdr I a2 r2;exact ne_dataH ra rb a3 a4 hu ⟨.bl (!PyData.eqv dx dy),H,I,rfl,q⟩
end
noncomputable def dI (ns:List Int):List PyData:=ns.map PyData.int
noncomputable def dRow (ns:List Int):PyData:=.tuple (dI ns)
theorem zbfv:∀a b:List Int,PyData.eqvAll (dI a) (dI b)=decide (a=b)
 | [],[]=>by rfl
 | [],_::_=>by rfl
 | _::_,[]=>by rfl
 | x::a,y::b=>by
  show(x==y&&PyData.eqvAll (dI a) (dI b))=_;rw[zbfv a b,xdl];simp
theorem zod (a b:List Int):PyData.eqv (dRow a) (dRow b)=decide (a=b):=zbfv a b
theorem zpu:∀a b:List (List Int),PyData.eqvAll (a.map dRow) (b.map dRow)=decide (a=b)
 | [],[]=>by rfl
 | [],_::_=>by rfl
 | _::_,[]=>by rfl
 | x::a,y::b=>by
  show(PyData.eqv (dRow x) (dRow y)&&PyData.eqvAll (a.map dRow) (b.map dRow))=_;rw[zpu a b,zod,xdl];simp
theorem zwu:∀a:List Int,PyData.canLayAll0 (dI a)=true/\PyData.depthAll (dI a)=0
 | []=>⟨rfl,rfl⟩
 | x::a=>by
  obtain⟨h1,h2⟩:=zwu a;refine⟨?_,?_⟩
  ·show(true&&PyData.canLayAll0 (dI a))=true;rw[h1];rfl
  ·show max 0 (PyData.depthAll (dI a))=0;rw[h2];rfl
theorem zrh (a:List Int):PySem.SeqAt.shaped (dRow a)=true:=by
 obtain⟨h1,h2⟩:=zwu a;show(PyData.canLayAll0 (dI a)&&decide (PyData.depthAll (dI a)+1<=64))=true;rw[h1,h2];rfl
theorem zpt:∀a:List (List Int),PyData.canLayAll0 (a.map dRow)=true/\PyData.depthAll (a.map dRow)<=1
 | []=>⟨rfl,xec _⟩
 | x::a=>by
  obtain⟨h1,h2⟩:=zpt a;obtain⟨h3,h4⟩:=zwu x;refine⟨?_,?_⟩
  ·show(PyData.canLayAll0 (dI x)&&PyData.canLayAll0 (a.map dRow))=true;rw[h1,h3];rfl
  ·show max (PyData.depthAll (dI x)+1) (PyData.depthAll (a.map dRow))<=1;rw[h4];lia
theorem zfl (a:List (List Int)):PySem.SeqAt.shaped (.tuple (a.map dRow))=true:=by
 obtain⟨h1,h2⟩:=zpt a;show(PyData.canLayAll0 (a.map dRow)&&decide (PyData.depthAll (a.map dRow)+1<=64))=true;rw[h1,xcf (by lia)];rfl
section
variable {X:Cx}
theorem zhu:∀{bs:List Bool} {us:List Value},Vals (bs.map V.bl) us->us=bs.map Value.bool
 | [],_,.nil=>rfl
 | b::bs,_,.cons r t=>by
  rw[show _=Value.bool b from r,zhu t]
  rfl
theorem zou (bs:List Bool):((List.range bs.length).any fun i=>bs.getD i false)=bs.any id:=by
 rw[xdl];simp only[xic,xdz];constructor
 ·rintro⟨i,hi,h⟩;rw[xbo,xbh hi] at h;exact⟨bs[i],xdm hi,h⟩
 ·rintro⟨b,hb,h⟩;obtain⟨i,hi,rfl⟩:=xfz hb;exact⟨i,hi,by rw[xbo,xbh hi];exact h⟩
theorem zvc (bs:List Bool):((List.range bs.length).all fun i=>bs.getD i false)=bs.all id:=by
 rw[xdl];simp only[xgv,xdz];constructor
 ·intro h b hb;obtain⟨i,hi,rfl⟩:=xfz hb;have:=h i hi;rw[xbo,xbh hi] at this;exact this
 ·intro h i hi;rw[xbo,xbh hi];exact h _ (xdm hi)
noncomputable def rAny (K:Fg) (al:Bool):List V->Hp->VK->Prop:=fun xs H Q=>∃(l:Addr) (bs:List Bool),xs=[.ref l]/\SqL K H l (bs.map V.bl)/\Q (.bl (if al then bs.all id else bs.any id)) H
theorem zgj {prog:Program}{w:World}{A:Around}(bs:List Bool):TruthOf prog w A (fun i v=>(bs.map Value.bool).toArray[i]?=some v) (fun i=>bs.getD i false):=fun i v s Q E hP hQ=>by
 have hP':(bs.map Value.bool)[i]?=some v:=by simpa using hP
 rw[xcl] at hP';cases e:bs[i]? with
 | none=>rw[e] at hP';cases hP'
 | some b =>
  rw[e] at hP';cases hP';dsimp only at hQ;rw[xbo,e] at hQ;exact xeg hQ
theorem zuf (hc:X.calm=true){aA:List (Addr×Obj)}{σ:St}{H:Hp}{s:Shared}{l:Addr}{bs:List Bool}{R:Bool->Prop}(I:Inv X aA σ H s)(hl:SqL X.K H l (bs.map V.bl)){Q:Value->Shared->Prop}{F:(Nat->Bool)->Nat->Bool}
  (hQ:∀s',Inv X aA σ H s'->Q (.bool (F (fun i=>bs.getD i false) bs.length)) s') :
  wpAny (model X.prog X.w) X.A.in1 (pyIter (.ref l)) (fun it s₂=>∃I fp wr n P St tr,it=.ref I/\Walks X.prog X.w X.A.in1 I fp wr n P St/\St 0 s₂.heap/\TruthOf X.prog X.w X.A.in1 P tr /\
   ∀h' tk,(∀b o,b∉wr->s₂.heap.get? b=some o->h'.get? b=some o)->Q (.bool (F tr n)) {s₂ with heap:=h',toks:=tk}) X.xe s:=by
 obtain⟨its,rv,pl,hz⟩:=I.list hl;have e:=zhu rv;subst e;have hlt:l < s.heap.objs.size:=by obtain⟨o,n,e,_⟩:=pl;exact xbl e
 refine xjk pl.isList ?_;refine⟨s.heap.objs.size,_,[s.heap.objs.size],_,_,_,_,rfl,Walks.list (A:=X.A.in1) (I.ok.hd hc) _ l (xca hlt) (bs.map Value.bool).toArray,⟨⟨_,xbv _ rfl,rfl,rfl⟩,pl.isList.push _⟩,zgj bs,fun h' tk hk=>?_⟩;have e2:(bs.map Value.bool).toArray.size=bs.length:=by simp
 rw[e2];refine hQ _ ?_;refine I.kept (t':=tk) fun b o e=>hk b o ?_ (xbc _ e)
 intro z;have z':b=s.heap.objs.size:=by simpa using z
 have z2:=xbl e;rw[z'] at z2;exact absurd z2 (xfa _)
theorem zbbg (hc:X.calm=true):CallR X (.builtin "any") (rAny X.K false):=by
 intro aA s σ H xs us Q I r h;obtain⟨l,bs,rfl,hl,q⟩:=h;obtain⟨u,rfl,ru⟩:=vals1 r;cases ru;refine call_any_walk (zuf (R:=fun _=>True) hc I hl (F:=fun tr n=>(List.range n).any tr) fun s' I'=>⟨.bl ((List.range bs.length).any fun i=>bs.getD i false),H,I',rfl,?_⟩);rw[zou];exact q
theorem zbbh (hc:X.calm=true):CallR X (.builtin "all") (rAny X.K true):=by
 intro aA s σ H xs us Q I r h;obtain⟨l,bs,rfl,hl,q⟩:=h;obtain⟨u,rfl,ru⟩:=vals1 r;cases ru;refine call_all_walk (zuf (R:=fun _=>True) hc I hl (F:=fun tr n=>(List.range n).all tr) fun s' I'=>⟨.bl ((List.range bs.length).all fun i=>bs.getD i false),H,I',rfl,?_⟩);rw[zvc];exact q
end
end L2
namespace Dct
open PySem PySem.W PyProof.Rows
noncomputable def Raw (h:Heap) (d:Addr) (es:Array DictEntry) (ep:Nat):Prop:=∃ob,h.get? d=some ob/\ob.ExactDict/\ob.data=.dict es ep
theorem Raw.kept {h h':Heap}{d:Addr}{es:Array DictEntry}{ep:Nat}(x:Raw h d es ep)(k:∀ob,h.get? d=some ob->h'.get? d=some ob):Raw h' d es ep :=
 let ⟨ob,e,r⟩:=x;⟨ob,k ob e,r⟩
theorem Raw.lt {h:Heap}{d:Addr}{es:Array DictEntry}{ep:Nat}(x:Raw h d es ep):d < h.objs.size:=let ⟨_,e,_⟩:=x;xbl e
theorem Raw.is {st:Shared}{d:Addr}{es:Array DictEntry}{ep:Nat}(x:Raw st.heap d es ep):st.TypeIs (.ref d) "dict":=let ⟨ob, e, c, _⟩:=x; ⟨ob, e, c.1⟩
section
variable {P:Program}{w:World}{B:Around}{E:Value->Shared->Prop}{st:Shared}{d it:Addr}{es:Array DictEntry}{ep k:Nat}
noncomputable def iterObj (d:Addr) (n ep:Nat):Obj:={ cls:=.type "dict_keyiterator", data:=.fields #[.ref d, .int 0 0, .int n 0, .int ep 0] }
theorem zsc {W:Value->Shared->Prop}(ns:(d==sysModules)=false)(x:Raw st.heap d es ep)(fin:W (.ref st.heap.objs.size) {st with heap:=st.heap.push (iterObj d es.size ep)}):wpAny (model P w) B (pyIter (.ref d)) W E st:=by
 obtain⟨ob,e,c,dt⟩:=id x;have ty:=x.is;refine wpAny_pyIter_slot ty F.slot_dict_iter (xff F.slot_dict_iter ty F.entry_dict_iter ?body (F.args_dict_iter_1 _))
 case body =>
  unfold Builtin.«dict.__iter__» Builtin.Dict.dictSlotNone Builtin.Dict.showsAll;refine xba (xba (wpAny_notOrdered_dict ty (xbd ?_)));show wpAny _ _ ((if(d==sysModules)=true then _ else _) >>= _) _ _ st;rw[if_neg (fun z=>xfh (ns.symm.trans z))];refine xba (xbd (xba (xhs e dt (xba (wpAny_dictEpoch e dt (xba (xdp (xbd ⟨_, rfl, "dict_keyiterator", _,⟨_, xbv _ rfl, rfl⟩, xeq.lookup, ?_⟩))))))))
  exact fin
theorem zsb {W:Option Value->Shared->Prop}{en:DictEntry}(hi:st.heap.IsKeyIter it d k es.size ep)(x:Raw st.heap d es ep)(hk:es[k]?=some en)
  (fin:∀g:Heap,g.IsKeyIter it d (k+1) es.size ep->Heap.SameBut it st.heap g->W (some en.key) {st with heap:=g}):wpAny (model P w) B (pyNext (.ref it)) W E st:=by
 obtain⟨oi,ei,ci,di⟩:=id hi;obtain⟨ob,e,c,dt⟩:=id x;have lt:k < es.size:=(xfb.mp hk).1;unfold pyNext;refine xba (xhd (wpAny_callSpecial?_slot (name:=Str.ofString "__next__") hi.typeIs xeq (xff xeq hi.typeIs F.entry_dict_keyiterator_next ?body (F.args_dict_keyiterator_next_1 _))))
 case body =>
  refine xba (xbd (xba (xba (xba (xfw hi.typeIs (xbd (xba (wpAny_fieldsOf ei di ?_))))))));simp only[show Builtin.Dict_items.ownsTuple "dict_keyiterator"=false from by decide, xct, ite_false]
  show wpAny _ _ (if(Value.ref d==Value.none)=true then _ else _) _ _ st;have nn:¬ (Value.ref d==Value.none)=true:=xfh;rw[if_neg nn];refine xba (xbd (xba (xhs e dt ?_)));rw[if_neg (by simp)];refine xba (xbd (xba (wpAny_dictEpoch e dt ?_)));rw[if_neg (by simp)];refine xbd ?_;simp only[show ¬ ((k:Int) < 0) from by lia,ite_false,xgo,hk];refine xba (xba (xfw hi.typeIs (xbd (xba (wpAny_isOneOf_keyiter hi.typeIs ?_)))));show wpAny _ _ (setField (.ref it) 1 (rawInt ((k:Int)+1)) >>= _) _ _ st;refine xba (xhy ei di (by simp) ?_);have hi':(st.heap.update it (Obj.mapFields (·.setIfInBounds 1 (rawInt ((k:Int)+1))))).IsKeyIter it d (k+1) es.size ep :=
   ⟨_,xel _ ei (Obj.isFreed_of_fields (xhg di _)),(Obj.cls_mapFields ..).trans ci,by rw[xhg di];simp[rawInt]⟩
  refine xba (xdg (xba (wpAny_isOneOf_keyiter (s:={st with heap:=st.heap.update it (Obj.mapFields (·.setIfInBounds 1 (rawInt ((k:Int)+1))))}) hi'.typeIs ?_)));show wpAny _ _ (pure en.key) _ _ _;exact xbd (xbd ⟨_,rfl,xbd (fin _ hi' (xin ..))⟩)
theorem zxj {W:Option Value->Shared->Prop}(hh:B.handled=none)(hi:st.heap.IsKeyIter it d k es.size ep)(x:Raw st.heap d es ep)(hk:es.size<=k)
  (fin:∀g:Heap,Heap.ExtBut it st.heap g->W none {st with heap:=g}):wpAny (model P w) B (pyNext (.ref it)) W E st:=by
 obtain⟨oi,ei,ci,di⟩:=id hi;obtain⟨ob,e,c,dt⟩:=id x;unfold pyNext;refine xba (xhd (wpAny_callSpecial?_slot (name:=Str.ofString "__next__") hi.typeIs xeq (xff xeq hi.typeIs F.entry_dict_keyiterator_next ?body (F.args_dict_keyiterator_next_1 _))))
 case body =>
  refine xba (xbd (xba (xba (xba (xfw hi.typeIs (xbd (xba (wpAny_fieldsOf ei di ?_))))))));simp only[show Builtin.Dict_items.ownsTuple "dict_keyiterator"=false from by decide, xct, ite_false]
  show wpAny _ _ (if(Value.ref d==Value.none)=true then _ else _) _ _ st;have nn:¬ (Value.ref d==Value.none)=true:=xfh;rw[if_neg nn];refine xba (xbd (xba (xhs e dt ?_)));rw[if_neg (by simp)];refine xba (xbd (xba (wpAny_dictEpoch e dt ?_)));rw[if_neg (by simp)];refine xbd ?_;simp only[show ¬ ((k:Int) < 0) from by lia,ite_false,xgo,Array.getElem?_eq_none hk];refine xba (xba (xfw hi.typeIs (xbd ?_)));show wpAny _ _ (setField (.ref it) 0 .none >>= _) _ _ st;refine xba (xhy ei di (by simp) ?_);show wpAny _ _ (newExc (.type "StopIteration") [] >>= _) _ _ _
  refine xba ?_;simp only[newExc,newTuple];refine xba (xdp (xba (m:=firstArgMember _ _) (wpAny_of_eq (a:=Value.none) (by first | rfl | (simp only[firstArgMember];rfl)) (xdp ?_ (by size_fits)))) (by size_fits));simp only[raiseNew];refine xba (wpAny_handled ?_);rw[show B.in1.handled=none from hh];refine xba (xbd (wpAny_throw ?_));refine xba (wpAny_isInstance (T:="StopIteration") (b:=true) ?_ isSubtype_stop (xbd (fin _ (((xin ..).extBut.push _).push _))))
  exact⟨_,xbv _ rfl,rfl⟩
theorem zvb (hh:B.handled=none)(ne:d≠it)(es:Array DictEntry)(ep:Nat) :
  Walks P w B it [it,d] [it] es.size (fun i v=>∃en,es[i]?=some en/\v=en.key) (fun i h=>h.IsKeyIter it d i es.size ep/\Raw h d es ep) where
 sub:=fun b hb=>xbx.mpr (.inl (xbn.mp hb))
 frame:=fun _ _ _ z hk=>⟨z.1.at fun o e=>hk it xch o e,z.2.kept fun o e=>hk d (xci _ (xbn.mpr rfl)) o e⟩
 item:=fun i sh W' E' hi z hQ=>by
  have hx:es[i]?=some es[i]:=xip hi;exact zsb z.1 z.2 hx fun g a b=>hQ es[i].key g sh.toks ⟨_,hx,rfl⟩ ⟨a,z.2.kept fun o e=>b.extBut d o ne e⟩ fun c o hc e=>b.extBut c o (fun q=>hc (xbn.mpr q)) e
 done:=fun sh W' E' z hQ=>zxj hh z.1 z.2 (xbf _) fun g b=>hQ g sh.toks fun c o hc e=>b c o (fun q=>hc (xbn.mpr q)) e
 self:=fun _ _ _ _ z hQ=>wpAny_pyIter_keyiter z.1 hQ
theorem zbct (ns:(d==sysModules)=false)(es:Array DictEntry)(ep:Nat):KdlSrc P w "dict" d d es.size (fun i v=>∃ en, es[i]?=some en/\v=en.key) (fun h=>Raw h d es ep) where
 type:=fun _ x=>x.is
 there:=fun _ x=>⟨x.lt,x.lt⟩
 keep:=fun _ _ x hk=>x.kept fun o e=>hk d (.inl rfl) o e
 notList:=by decide
 notTuple:=by decide
 hint:=fun _ _ _ _ x hq=>kdl_hint_dict x.is hq
 iter:=fun _ sh hh x=>⟨_,_,fun _ _ hq=>zsc ns x hq,zvb hh (xca x.lt) es ep,⟨⟨_,xbv _ rfl,rfl,rfl⟩,x.kept fun o e=>xbc _ e⟩⟩
end
end Dct
namespace Srt
open PySem PySem.W PyProof.Rows
section
variable {P:Program}{w:World}{B:Around}{E:Value->Shared->Prop}{st:Shared}
end
end Srt
namespace L2
open PySem PySem.Spec PyProof.Rows
theorem ObjOk.ob {P:Program}{w:World}{H:Hp}{h:Heap}{a:Addr}{o:HO}(x:ObjOk P w H h a o):∃ob,h.get? a=some ob:=by
 cases o with
 | lst xs=>obtain⟨_,_,_,_,e⟩:=x;exact⟨_,e⟩
 | tup xs=>obtain⟨_,_,_,ob,e,_⟩:=x;exact⟨_,e⟩
 | dK kvs=>obtain⟨_,_,_,_,ob,_,_,e,_⟩:=x;exact⟨_,e⟩
 | dT kvs=>obtain⟨_,_,_,_,ob,_,_,e,_⟩:=x;exact⟨_,e⟩
 | set S n=>obtain⟨ob,_,_,_,e,_⟩:=x;exact⟨_,e⟩
 | ins C dx fs=>obtain⟨_,_,_,e,_⟩:=x;exact⟨_,e⟩
 | own y=>obtain⟨_,e⟩:=x;exact⟨_,e⟩
 | xd fs=>obtain⟨_,⟨_,_,_,e,_⟩,_⟩:=x;exact⟨_,e⟩
 | rng lo hi=>obtain⟨_,_,_,e⟩:=x;exact⟨_,e⟩
 | frz ob u=>obtain⟨e,_⟩:=x;exact⟨_,e⟩
 | tbl ps=>exact⟨_,(show h.get? a=some _ from x)⟩
 | met f y=>exact⟨_,(show h.get? a=some _ from x)⟩
 | ext φ=>obtain⟨_,⟨_,e⟩,_⟩:=x;exact⟨_,e⟩
section
variable {X:Cx}{aA:List (Addr×Obj)}{σ:St}{H:Hp}{s:Shared}
theorem Inv.away (I:Inv X aA σ H s){q:Addr}(ne:∀b ob,s.heap.get? b=some ob->b≠q):H q=none:=by
 cases e:H q with
 | none=>rfl
 | some o =>
  obtain⟨ob,z⟩:=(I.hok q o e).ob;exact absurd rfl (ne q ob z)
theorem Inv.laidN {q:Addr}{o:HO}{g:Heap}{t':Nat}(I:Inv X aA σ H s)(k:∀b u,s.heap.get? b=some u->g.get? b=some u)(ne:∀b ob,s.heap.get? b=some ob->b≠q)(new:ObjOk X.prog X.w (upd H q o) g q o) :
  Inv X aA σ (upd H q o) {s with heap:=g,toks:=t'}:=by
 have hn:=I.away ne;have off:∀{b:Addr} {u:HO},H b=some u->upd H q o b=some u:=fun {b u} e=>by rw[zm (zh e hn)];exact e
 refine I.un ⟨fun b u e _ _ _=>k b u e,fun b u e _ _ _=>⟨u.slots,k b u e⟩,fun b u e n _=>by rw[zm (ne b u e)];exact n,fun b u e _=>⟨u,k b u e⟩,fun b xs e=>off e,fun b ob u e=>off e,fun b ps e=>⟨#[],by rw[off e];simp⟩⟩ fun b u e=>?_
 by_cases hb:b=q
 ·subst hb;rw[zj] at e;cases e;exact new
 ·rw[zm hb] at e;exact(I.hok b u e).stay (fun c v _ z=>k c v z) (fun c z=>off z) fun c xs z=>off z
end
theorem zxo (ns:List Int):(ns.map (Sum.inl:Int->Key)).map kV=ns.map V.int:=by rw[xez];rfl
theorem zmn {P:Program}{w:World}{H:Hp}{kvs:List (List Key×V)}:∀{ks:List (List Int)} {xs:List (List Key×Addr×Value)},
  Paired (fun(p:List Key×V) (q:List Key×Addr×Value)=>p.1=q.1/\H q.2.1=some (.tup (p.1.map kV))/\RelV p.2 q.2.2) kvs xs->kvs.map (·.1)=ks.map (fun ns=>ns.map Sum.inl) ->
   ∃ps:List (Addr×List Int),ps.map (·.2)=ks/\(∀p∈ps,H p.1=some (.tup (p.2.map V.int)))/\xs.map (fun q=>(entryOfKey (tupleKind (mixKind P w)) q).key)=ps.map fun p=>Value.ref p.1:=by
 induction kvs with
 | nil =>
  intro ks xs r e;cases r;cases ks with
  | nil=>exact⟨[],rfl,fun p hp=>(nomatch hp),rfl⟩
  | cons x ks=>cases e
 | cons kv kvs ih =>
  intro ks xs r e;cases r with
  | cons r rs =>
   cases ks with
   | nil=>cases e
   | cons ns ks =>
    rw[xbp,xbp] at e;injection e with e1 e2
    obtain⟨ps,a1,a2,a3⟩:=ih rs e2;rename_i b _;obtain⟨r1,r2,r3⟩:=r;refine⟨(b.2.1,ns)::ps,by rw[xbp,a1],fun p hp=>?_,by rw[xbp,xbp,a3];rfl⟩;rcases xbx.mp hp with z | z
    ·subst z;rw[e1,zxo] at r2;exact r2
    ·exact a2 p z
open PySem.W in
theorem zbbp {P:Program}{w:World}{B:Around}{sg:Shared}{ps:List (Addr×List Int)}(h2:2<=ps.length)
  (tup:∀(i:Nat) (p:Addr×List Int), ps[i]?=some p->∃(us:List Value) (o:Obj) (n:Nat), IntsAre us p.2/\sg.heap.get? p.1=some o/\o.cls=.type "tuple"/\o.data=.seq us.toArray n/\p.2≠[]) :
  Srt.Answers P w B (Srt.rank (ps.map (·.2))) (ps.map fun p=>Value.ref p.1) sg:=by
 refine⟨tuples' true,fun R hq=>?_,fun i j C hi hj hC=>?_⟩
 ·have kt:∀(l:List (Addr×List Int)),(∀p∈l,∃i:Nat,ps[i]?=some p)->∃fs:List Value,KatTups sg.heap (l.map fun p=>Value.ref p.1) fs/\fs.length=l.length/\∀v∈fs,∃i t,v=Value.int i t:=fun l=>by
   induction l with
   | nil=>intro _;exact⟨[],KatTups.nil,rfl,fun v hv=>(nomatch hv)⟩
   | cons p l ih =>
    intro hp;obtain⟨fs,b1,b2,b3⟩:=ih fun p' hp'=>hp p' (xci _ hp')
    obtain⟨i,hi⟩:=hp p xch;obtain⟨us,o,n,a1,a2,a3,a4,a5⟩:=tup i p hi;obtain⟨pa,pn⟩:=p;dsimp only at a1 a2 a3 a4 a5;cases a1 with
    | nil=>exact absurd rfl a5
    | cons x t r=>exact⟨Value.int x t::fs,KatTups.cons a2 a3 a4 rfl b1,by rw[xcg,xcg,b2],fun v hv=>(xbx.mp hv).elim (fun z=>⟨x,t,z⟩) (b3 v)⟩
  obtain⟨fs,b1,b2,b3⟩:=kt ps fun p hp=>List.mem_iff_getElem?.mp hp
  exact kat_kind (T:=.type "int") b1 (by lia) (fun v hv=>by
   obtain⟨i,t,rfl⟩:=b3 v hv
   exact Looks.of_pure rfl) rfl hq
 ·rw[xbe] at hi hj;have ei:ps[i]?=some ps[i]:=xbh hi;have ej:ps[j]?=some ps[j]:=xbh hj;obtain⟨us,o,n,a1,a2,a3,a4,a5⟩:=tup i _ ei;obtain⟨us2,o2,n2,c1,c2,c3,c4,c5⟩:=tup j _ ej;unfold kas_ask;rw[zv (fun p:Addr×List Int=>Value.ref p.1) _ ei,zv (fun p:Addr×List Int=>Value.ref p.1) _ ej];refine kat_lt a2 a4 c2 c4 (Srt.zta 0 a1 c1 ?_);rw[Srt.zsd (by rw[xbe];exact hi) (by rw[xbe];exact hj),zv (fun p:Addr×List Int=>p.2) _ ei,zv (fun p:Addr×List Int=>p.2) _ ej] at hC;exact hC
theorem zsk {ps:List (Addr×List Int)}{p:Array Nat}(p1:p.Perm (List.toArray (List.range ps.length)))(p2:Srt.Up (Srt.rank (ps.map (·.2))) p ps.length) :
  ∃qs:List (Addr×List Int),qs.Perm ps/\(qs.map (·.2)).Pairwise (fun x y=>HT.lexLt y x=false)/\Srt.outOf (ps.map fun p=>Value.ref p.1) p=(qs.map fun p=>Value.ref p.1).toArray:=by
 have hps:p.size=ps.length:=by rw[p1.size_eq];simp
 have sm:∀i∈p.toList,i < ps.length:=fun i hi=>by
  have h3:=(p1.mem_iff (a:=i)).mp (by rw[← Array.mem_toList_iff];exact hi);exact xdz.mp (List.mem_toArray.mp h3)
 refine⟨p.toList.map fun i=>ps.getD i (0,[]),?_,?_,?_⟩
 ·have e1:p.toList.Perm (List.range ps.length):=by
   have:=xfc.mp p1
   simpa using this
  have e2:=e1.map fun i=>ps.getD i (0,[])
  have e3:((List.range ps.length).map fun i=>ps.getD i (0,[]))=ps:=by
   apply List.ext_getElem
   ·simp
   ·intro i h1 h2;simp[xbo,h2]
  rw[e3] at e2;exact e2
 ·rw[xez,xiq];intro i j hi hj hij;rw[List.getElem_map,List.getElem_map];rw[xbe] at hi hj;have hi':i < p.size:=by simpa using hi
  have hj':j < p.size:=by simpa using hj
  have hu:=p2 i j (xbr hij) (by lia);have g:∀k,(hk:k < p.toList.length)->p.getD k 0=p.toList[k]:=fun k hk=>by
   have hk':k < p.size:=by simpa using hk
   rw[Array.getD_eq_getD_getElem?,xip hk'];simp
  have si:=sm _ (xdm hi);have sj:=sm _ (xdm hj);have lk:=Srt.zsd (ks:=ps.map (·.2)) (i:=p.toList[j]) (j:=p.toList[i]) (by rw[xbe];exact sj) (by rw[xbe];exact si);have hno:Srt.lt (Srt.rank (ps.map (·.2))) p.toList[j] p.toList[i]=false:=by
   refine xbm fun z=>?_
   unfold Srt.At at hu;rw[g i hi,g j hj] at hu;lia
  rw[hno] at lk;have v:∀k,k < ps.length->(ps.map (·.2)).getD k []=(ps.getD k (0,[])).2:=fun k hk=>by
   have ek:ps[k]?=some ps[k]:=xbh hk;rw[zv (fun p:Addr×List Int=>p.2) _ ek,xbo,ek]
   rfl
  rw[v _ sj,v _ si] at lk;exact lk.symm
 ·unfold Srt.outOf;rw[xez]
  congr 1
  refine List.map_congr_left fun i hi=>?_
  have hi2:=sm i hi;have ei:ps[i]?=some ps[i]:=xbh hi2;rw[zv (fun p:Addr×List Int=>Value.ref p.1) _ ei];show _=Value.ref (ps.getD i (0,[])).1;rw[xbo,ei]
  rfl
section
variable {X:Cx}
end
section
variable {X:Cx}{aA:List (Addr×Obj)}{σ:St}{H:Hp}{s:Shared}
theorem Inv.freeze {a:Addr}{kvs:List (List Key×V)}{ob:Obj}(I:Inv X aA σ H s)(h:H a=some (.dT kvs))(e:s.heap.get? a=some ob):Inv X aA σ (upd H a (.frz ob (.dT kvs))) s:=by
 have off:∀{b:Addr} {u:HO},H b=some u->(∀l,u≠.dT l)->upd H a (.frz ob (.dT kvs)) b=some u:=fun {b u} q n=>by
  rw[zm (by rintro rfl;rw[h] at q;cases q;exact n _ rfl)];exact q
 have z:=I.un (h':=s.heap) (t':=s.toks) (H':=upd H a (.frz ob (.dT kvs))) ⟨fun b u q _ _ _=>q,fun b u q _ _ _=>⟨u.slots,q⟩,fun b u q n _=>by
   rw[zm (by rintro rfl;rw[h] at n;cases n)];exact n,fun b u q _=>⟨u,q⟩,fun b xs q=>off q (fun l z=>by cases z),fun b o u q=>off q (fun l z=>by cases z),fun b ps q=>⟨#[],by rw[off q (fun l z=>by cases z)];simp⟩⟩ (fun b u q=>by
   by_cases hb:b=a
   ·subst hb;rw[zj] at q;cases q;exact⟨e,(I.hok b _ h).stay (fun c v _ r=>r) (fun c r=>off r (fun l z=>by cases z)) fun c xs r=>off r (fun l z=>by cases z)⟩
   ·rw[zm hb] at q
    exact(I.hok b u q).stay (fun c v _ r=>r) (fun c r=>off r (fun l z=>by cases z)) fun c xs r=>off r (fun l z=>by cases z))
 exact z
end
noncomputable def Itd (a:Addr) (ob:Obj) (kvs:List (List Key×V)) (ps:List (Addr×List Int)):It :=
 ⟨fun i H=>i < ps.length/\H a=some (.frz ob (.dT kvs)),fun i H x H'=>H'=H/\∃p,ps[i]?=some p/\x=.ref p.1,fun i H=>ps.length<=i/\H a=some (.frz ob (.dT kvs))⟩
theorem zut {P:Program}{w:World}{K:Fg}{tg:Expr}{a it:Addr}{ob:Obj}{kvs:List (List Key×V)}{ps:List (Addr×List Int)}{es:Array DictEntry}{ep:Nat}(ex:ob.ExactDict)(dt:ob.data=.dict es ep)
  (hk:es.toList.map (·.key)=ps.map fun p=>Value.ref p.1):Turn P w K tg (Itd a ob kvs ps) [it] it (fun i h=>h.IsKeyIter it a i es.size ep) where
 mem:=xbn.mpr rfl
 obj:=fun i h st b hb=>by
  have e:b=it:=xbn.mp hb;subst e;obtain⟨o,e,c,d⟩:=st;exact⟨o,e,fun v z=>by rw[d] at z;cases z⟩
 keep:=fun i h h' st k=>st.at fun o e=>k it (xbn.mpr rfl) o e
 item:=by
  intro Y hP hw hK hc i aA s σ H E I hf st hg;subst hP hw hK;obtain⟨hi,hz⟩:=hg;have hsz:es.size=ps.length:=by
   have:=congrArg List.length hk
   rwa [xbe,xbe,xcb] at this
  obtain⟨eo,_⟩:=(show ObjOk Y.prog Y.w H s.heap a (.frz ob (.dT kvs)) from I.hok a _ hz)
  obtain⟨f0,f1,f2,f3,f4,f5⟩:=hf it (xbn.mpr rfl);have hen:es[i]?=some es[i]:=xip (by lia);have hpi:ps[i]?=some ps[i]:=xbh hi;have hkey:es[i].key=Value.ref ps[i].1:=by
   have q:=congrArg (fun l=>l[i]?) hk;simp only[xcl,xck,hen,hpi] at q;exact xbw q
  refine Dct.zsb st ⟨ob,eo,ex,dt⟩ hen fun g st' sb=>?_
  have I1:Inv Y aA σ H {s with heap:=g}:=I.turned (t':=s.toks) (fun b o hb e=>sb.extBut b o hb e) f0 f1 f3 f4 f5;obtain⟨o,e,c,d⟩:=id st';exact⟨_,rfl,zbgu (s:={s with heap:=g}) e c d (by decide) ⟨.ref ps[i].1,H,I1,hkey,⟨rfl,ps[i],hpi,rfl⟩,st',fun b hb=>(hf b hb).1⟩⟩
 done:=by
  intro Y hP hw hK hc i aA s σ H E I hf st hg;subst hP hw hK;obtain⟨hi,hz⟩:=hg;have hsz:es.size=ps.length:=by
   have:=congrArg List.length hk
   rwa [xbe,xbe,xcb] at this
  obtain⟨eo,_⟩:=(show ObjOk Y.prog Y.w H s.heap a (.frz ob (.dT kvs)) from I.hok a _ hz)
  obtain⟨f0,f1,f2,f3,f4,f5⟩:=hf it (xbn.mpr rfl);exact Dct.zxj (I.ok.hd hc) st ⟨ob,eo,ex,dt⟩ (by lia) fun g eb=>⟨rfl,I.turned (t':=s.toks) (fun b o hb e=>eb b o hb e) f0 f1 f3 f4 f5⟩
 self:=fun _ _ _ _ _ st h=>wpAny_pyIter_keyiter st h
noncomputable def iDct (td:TE):TI:=fun σ H R=>td σ H fun x H1=>∃(a:Addr) (kvs:List (List Key×V)) (ks:List (List Int)),x=.ref a/\H1 a=some (.dT kvs)/\kvs.map (·.1)=ks.map (fun ns=>ns.map Sum.inl) /\
 ∀(ob:Obj) (ps:List (Addr×List Int)),ps.map (·.2)=ks->(∀p∈ps,H1 p.1=some (.tup (p.2.map V.int)))->R (Itd a ob kvs ps) (upd H1 a (.frz ob (.dT kvs)))
theorem zbdh {X:Cx}{tg l:Expr}{td:TE}(hl:PE X l td):PI X tg l (iDct td):=by
 intro aA s σ H R I h;refine thn (hl aA s σ H _ I h) fun v s1 hq0=>?_
 obtain⟨x,H1,I1,r1,q1⟩:=hq0;obtain⟨a,kvs,ks,rfl,hd,ek,q⟩:=q1;cases r1;obtain⟨z,ns,ys,rel,ob,es,ep,e1,e2,e3,e4,e5⟩:=(show ObjOk X.prog X.w H1 s1.heap a (.dT kvs) from I1.hok a _ hd)
 obtain⟨ps,a1,a2,a3⟩:=zmn (P:=X.prog) (w:=X.w) rel ek;have hes:es.toList.map (·.key)=ps.map fun p=>Value.ref p.1:=by rw[e4,xez];exact a3
 refine Dct.zsc ns ⟨ob,e1,e2,e3⟩ ?_;have I2:=I1.freeze hd e1;refine⟨s1.heap.objs.size,[s1.heap.objs.size],_,_,_,rfl,I2.kept (t':=s1.toks) fun b o e=>xbc _ e,zut e2 e3 hes,⟨_,xbv _ rfl,rfl,rfl⟩,fun b hb=>?_,q ob ps a1 a2⟩;have e:b=s1.heap.objs.size:=xbn.mp hb;subst e;exact I2.fpOk (xbf _) (I2.hok.fresh (xbf _))
section
variable {g:TG}{tc:TT}{te:TE}{Q:VK}{σ:St}{H:Hp}{p:Addr}
end
end L2
namespace L2
open PySem PySem.Spec PyProof.Rows PySem.W
noncomputable def TupsG (g:Heap) (ps:List (Addr×List Int)):Prop:=∀ p∈ps, ∃(us:List Value) (o:Obj) (n:Nat), IntsAre us p.2/\g.get? p.1=some o/\o.cls=.type "tuple"/\o.data=.seq us.toArray n
section
variable {P:Program}{w:World}{B:Around}{E:Value->Shared->Prop}{sg:Shared}
theorem zpl:∀{ps:List (Addr×List Int)},TupsG sg.heap ps->∃fs:List (Option Value),fs.map Option.isSome=ps.map (fun p=>!p.2.isEmpty)/\∀(W:List (Option Value)->Shared->Prop),W fs sg->wpAny (model P w) B ((ps.map fun p=>Value.ref p.1).mapM firstOfTuple') W E sg
 | [],_=>⟨[],rfl,fun W h=>by rw[xkz,List.mapM_nil];exact xbd h⟩
 | p::ps,h=>by
  obtain⟨fs,f1,f2⟩:=zpl (ps:=ps) fun q hq=>h q (xci _ hq)
  obtain⟨us,o,n,a1,a2,a3,a4⟩:=h p xch;refine⟨us.toArray[0]?::fs,?_,fun W hW=>?_⟩
  ·rw[xbp,xbp,f1]
   congr 1
   obtain⟨pa,pn⟩:=p;dsimp only at a1 ⊢;cases a1 with
   | nil=>rfl
   | cons x t r=>rfl
  ·rw[xbp,List.mapM_cons];have ty:Looks (model P w) sg.heap (typeOf (.ref p.1)) o.cls:=(Looks.ld a2).andThen .now;refine xba ?_;rw[kas_first_eq];refine xba (Looks.here ty ?_);rw[a3,if_neg (by first | decide | simp)];exact xba (listItems_at a2 a4 (xbd (xba (f2 _ (xbd hW)))))
theorem zsz (x y:Value):keyLt' general' x y=oneLt' false x y:=rfl
theorem zbbo {κ:SortKind}(hκ:κ=general'\/κ=oneType')(hu:B.units < cLine){a b:Addr×List Int}(ha:TupsG sg.heap [a])(hb:TupsG sg.heap [b]){C:Bool->Shared->Prop}(hC:C (HT.lexLt a.2 b.2) sg) :
  wpAny (model P w) B (keyLt' κ (.ref a.1) (.ref b.1)) C E sg:=by
 obtain⟨us,o,n,a1,a2,a3,a4⟩:=ha a xch;obtain⟨us2,o2,n2,b1,b2,b3,b4⟩:=hb b xch;rcases hκ with rfl | rfl
 ·rw[zsz];exact kat_one _ _ (HT.zme (items:=us.toArray) (items2:=us2.toArray) ⟨o,a2,a3,n,a4⟩ ⟨o2,b2,b3,n2,b4⟩ a1 b1 hu hC)
 ·rw[keyLt'_oneType,oneLt'_eq];simp only[ite_true];refine xba (wpAny_cRoomFor hu (xba (wpAny_callSpecialIfBound?_slot (T:="tuple") ⟨o, a2, a3⟩ xjt ?_)))
  obtain⟨cls,dd,data,sl⟩:=o;obtain⟨cls2,dd2,data2,sl2⟩:=o2;dsimp only at a3 a4 b3 b4;subst a3 a4 b3 b4;exact xii xjt ⟨_,a2,rfl⟩ F.entry_tuple_lt (F.args_tuple_lt_2 _ _) (HT.zgz a.1 b.1 us.toArray us2.toArray n n2 dd dd2 sl sl2 a.2 b.2 a1 b1) ⟨a2,b2,xeg hC⟩
theorem zbbq {ps:List (Addr×List Int)}(hu:B.units < cLine)(tup:TupsG sg.heap ps)(emp:∃p∈ps,p.2=[]):Srt.Answers P w B (Srt.rank (ps.map (·.2))) (ps.map fun p=>Value.ref p.1) sg:=by
 obtain⟨fs,f1,f2⟩:=zpl (P:=P) (w:=w) (B:=B) (E:=fun _ _=>False) tup;have notAll:¬ (fs.toArray.all fun x=>x.isSome)=true:=fun z=>by
  have z':fs.all (fun x=>x.isSome)=true:=by simpa using z
  obtain⟨p,hp,he⟩:=emp;have m:(!p.2.isEmpty)∈fs.map Option.isSome:=by rw[f1];exact List.mem_map_of_mem (f:=fun p:Addr×List Int=>!p.2.isEmpty) hp
  obtain⟨o,ho,e⟩:=xdj.mp m;have:=xgv.mp z' o ho;rw[e,he] at this;cases this
 have cmp:∀{κ:SortKind},κ=general'\/κ=oneType'->∀i j C,i < (ps.map fun p=>Value.ref p.1).length->j < (ps.map fun p=>Value.ref p.1).length->C (Srt.lt (Srt.rank (ps.map (·.2))) i j) sg->kas_ask P w B κ (ps.map fun p=>Value.ref p.1) i j C sg:=fun {κ} hκ i j C hi hj hC=>by
  rw[xbe] at hi hj;have ei:ps[i]?=some ps[i]:=xbh hi;have ej:ps[j]?=some ps[j]:=xbh hj;unfold kas_ask;rw[zv (fun p:Addr×List Int=>Value.ref p.1) _ ei,zv (fun p:Addr×List Int=>Value.ref p.1) _ ej];rw[Srt.zsd (by rw[xbe];exact hi) (by rw[xbe];exact hj),zv (fun p:Addr×List Int=>p.2) _ ei,zv (fun p:Addr×List Int=>p.2) _ ej] at hC;have one:∀k,(hk:k < ps.length)->TupsG sg.heap [ps[k]]:=fun k hk q hq=>by
   rw[xbn.mp hq];exact tup _ (xdm hk)
  exact zbbo hκ hu (one i hi) (one j hj) hC
 by_cases fst:(fs.toArray[0]?.bind id).isSome=true
 ·refine⟨general',fun R hR=>?_,cmp (.inl rfl)⟩;rw[kat_kind_eq,xkt,xlc];refine xba (xba (f2 _ (xbd ?_)));rw[if_neg notAll,if_pos fst];exact xbd hR
 ·refine⟨oneType',fun R hR=>?_,cmp (.inr rfl)⟩;rw[kat_kind_eq,xkt,xlc];refine xba (xba (f2 _ (xbd ?_)));rw[if_neg notAll,if_neg fst,oneTypeOnly'_eq,xkt,xlc];have ty:∀ v∈(ps.map fun p=>Value.ref p.1), ∀ W:Value->Shared->Prop, W (.type "tuple") sg->wpAny (model P w) B (typeOf v) W (fun _ _=>False) sg:=fun v hv W hW=>by
   obtain⟨p,hp,rfl⟩:=xdj.mp hv;obtain⟨us,o,n,a1,a2,a3,a4⟩:=tup p hp;have lk:Looks (model P w) sg.heap (typeOf (.ref p.1)) o.cls:=(Looks.ld a2).andThen .now;rw[a3] at lk;exact lk.here hW
  refine xba (xba (xba (kas_mapM (r:=Value.type "tuple") _ ty (xbd ?_))))
  obtain⟨p,hp,_⟩:=emp;obtain⟨p0,rest,rfl⟩:∃p0 rest,ps=p0::rest:=by
   cases ps with
   | nil=>exact nomatch hp
   | cons p0 rest=>exact⟨p0,rest,rfl⟩
  have all:((List.map (fun _=>Value.type "tuple") ((p0::rest).map fun p=>Value.ref p.1)).toArray.all fun x=>x==Value.type "tuple")=true:=by
   rw[List.all_toArray,xgv];intro x hx;obtain⟨_,_,rfl⟩:=xdj.mp hx
   rfl
  have zero:(List.map (fun _=>Value.type "tuple") ((p0::rest).map fun p=>Value.ref p.1)).toArray[0]?=some (Value.type "tuple"):=by simp
  rw[zero];simp only[all,ite_true];exact xbd (xbd hR)
theorem zyi {ps:List (Addr×List Int)}(hu:B.units < cLine)(h2:2<=ps.length)(tup:TupsG sg.heap ps):Srt.Answers P w B (Srt.rank (ps.map (·.2))) (ps.map fun p=>Value.ref p.1) sg:=by
 by_cases c:∃p∈ps,p.2=[]
 ·exact zbbq hu tup c
 ·refine zbbp h2 fun i p hi=>?_
  have hp:=xcj hi;obtain⟨us,o,n,a1,a2,a3,a4⟩:=tup p hp;exact⟨us,o,n,a1,a2,a3,a4,fun z=>c ⟨p,hp,z⟩⟩
end
theorem zht (z:List (Addr×List Int)):Vals (z.map fun p=>V.ref p.1) (z.map fun p=>Value.ref p.1):=by
 induction z with
 | nil=>exact .nil
 | cons x z ih=>exact .cons rfl ih
section
variable {X:Cx}
end
end L2
namespace TS
open PySem PyProof.Rows
noncomputable def kA (R:Keyed->Nat) (xs:Array Keyed) (i:Nat):Nat:=match xs[i]? with
 | some p=>R p
 | none=>0
theorem zdu {R:Keyed->Nat}{xs ys:Array Keyed}{i j:Nat}(h:xs[i]?=ys[j]?):kA R xs i=kA R ys j:=by unfold kA;rw[h]
theorem zea {R:Keyed->Nat}{xs:Array Keyed}{i:Nat}{x:Keyed}(h:xs[i]?=some x):kA R xs i=R x:=by unfold kA;rw[h]
noncomputable def UpA (R:Keyed->Nat) (xs:Array Keyed) (a b:Nat):Prop:=∀i j,a<=i->i<=j->j < b->kA R xs i<=kA R xs j
noncomputable def DnA (R:Keyed->Nat) (xs:Array Keyed) (a b:Nat):Prop:=∀i j,a<=i->i<=j->j < b->kA R xs j<=kA R xs i
section
variable {prog:Program}{w:World}{A:Around}{E:Value->Shared->Prop}{s:Shared}{κ:SortKind}{a₀:Array Keyed}{R:Keyed->Nat}
noncomputable def Orc (prog:Program) (w:World) (A:Around) (s:Shared) (κ:SortKind) (a₀:Array Keyed) (R:Keyed->Nat):Prop :=
 ∀x,x∈a₀.toList->∀y,y∈a₀.toList->∀(C:Bool->Shared->Prop),C (decide (R x < R y)) s->wpAny (model prog w) A (keyLt' κ x.1 y.1) C (fun _ _=>False) s
structure B (κ:SortKind) (a₀:Array Keyed) (st:SortSt):Prop where
 perm:(arrOf st).Perm a₀
 kind:kindOf st=κ
 failed:failedOf st=none
theorem B.size {st:SortSt}(h:B κ a₀ st):(arrOf st).size=a₀.size:=h.perm.size_eq
theorem B.set {st:SortSt}(h:B κ a₀ st){xs:Array Keyed}(hp:xs.Perm (arrOf st)):B κ a₀ (setArr st xs):=⟨hp.trans h.perm,h.kind,h.failed⟩
theorem B.mem {st:SortSt}(h:B κ a₀ st){i:Nat}(hi:i < a₀.size):∃x,(arrOf st)[i]?=some x/\x∈a₀.toList:=by
 have hi':i < (arrOf st).size:=by rw[h.size];exact hi
 exact⟨_,getElem?_pos _ i hi',(xfc.mp h.perm).mem_iff.mp (by simp)⟩
theorem w_lt {x y:Keyed}{st:SortSt}{Q:Option Bool->SortSt->Prop}(O:Orc prog w A s κ a₀ R)(hk:kindOf st=κ)(hx:x∈a₀.toList)(hy:y∈a₀.toList)(h:Q (some (decide (R x < R y))) st):wpS (model prog w) A E s (lt' x y) Q st:=by
 rw[lt'_eq];refine xbi (xhe ?_);rw[hk];refine xbi (xjs (xhd (xdd (O x hx y hy (fun b s'=>s'=s/\b=decide (R x < R y)) ⟨rfl,rfl⟩) (fun b s' hb=>?_) fun _ _ f=>f.elim)));obtain⟨rfl,rfl⟩:=hb;exact⟨rfl,xbj h⟩
theorem zlq {arr:Array Keyed}{i:Nat}{x:Keyed}{st:SortSt}{Q:Keyed->SortSt->Prop}(e:arr[i]?=some x)(h:Q x st):wpS (model prog w) A E s (elem' arr i) Q st:=by
 rw[elem'_eq,e];exact xbj h
theorem zmz {i j:Nat}{st:SortSt}{Q:Option Bool->SortSt->Prop}(O:Orc prog w A s κ a₀ R)(b:B κ a₀ st)(hi:i < a₀.size)(hj:j < a₀.size)(h:Q (some (decide (kA R (arrOf st) i < kA R (arrOf st) j))) st):wpS (model prog w) A E s (ltAt' i j) Q st:=by
 obtain⟨x,e1,m1⟩:=b.mem hi;obtain⟨y,e2,m2⟩:=b.mem hj;rw[zea e1,zea e2] at h;rw[ltAt'_eq];exact xbi (xhe (xbi (zlq e1 (xbi (zlq e2 (w_lt O b.kind m1 m2 h))))))
theorem zun {i j:Nat}{st:SortSt}{Q:Unit->SortSt->Prop}(h:Q () (setArr st (mirror (arrOf st) i j ((j - i) / 2)))):wpS (model prog w) A E s (reverseSlice' i j) Q st:=by
 rw[reverseSlice'_eq];exact xgg h
theorem zbgy {i j:Nat}{st:SortSt}{Q:Unit->SortSt->Prop}(h:Q () (setArr st (bubble (arrOf st) i (i - j)))):wpS (model prog w) A E s (moveDown' i j) Q st:=by
 rw[moveDown'_eq];exact xgg h
theorem zbbz {lo x n N:Nat}(h:x < n)(hn:lo+n<=N):lo+x < N:=xbg (xdo h lo) hn
theorem zbby {lo x n N:Nat}(h:x < n)(hn:lo+n<=N):lo+x - 1 < N:=xcn (xgd _ _) (zbbz h hn)
theorem ztb {lo n:Nat}(h:1<=n):lo+n - 1 < lo+n:=xhh (xbg h (xld _ _)) Nat.one_pos
theorem zbgs {j lo n:Nat}(h:j < lo+(n+1))(e:¬j=lo+n):j < lo+n:=xcu (xcs h) e
theorem zbea {i j k:Nat}(c2:k < j):i<=i+j - 1 - k:=Nat.le_sub_of_add_le (xcx (xdo c2 i))
theorem zbeb {i j k:Nat}(c1:i<=k)(c2:k < j):i+j - 1 - k < j:=xcn (xgy c1 _) (by rw[Nat.sub_right_comm,xcq];exact xhh (xjj c2) Nat.one_pos)
theorem zlb {xs:Array Keyed}{i j:Nat}(hj:j<=xs.size)(k:Nat):kA R (mirror xs i j ((j - i) / 2)) k=if i<=k/\k < j then kA R xs (i+j - 1 - k) else kA R xs k:=by
 have e:=getElem?_mirror_all (i:=i) hj k;split
 ·rename_i c;rw[if_pos c] at e;exact zdu e
 ·rename_i c;rw[if_neg c] at e;exact zdu e
noncomputable def Out (xs ys:Array Keyed) (a b:Nat):Prop:=∀k,k < a\/b<=k->xs[k]?=ys[k]?
theorem Out.refl (xs:Array Keyed)(a b:Nat):Out xs xs a b:=fun _ _=>rfl
theorem Out.trans {xs ys zs:Array Keyed}{a b:Nat}(h1:Out xs ys a b)(h2:Out ys zs a b):Out xs zs a b:=fun k hk=>(h1 k hk).trans (h2 k hk)
theorem Out.mirror {xs:Array Keyed}{i j a b:Nat}(hj:j<=xs.size)(hi:a<=i)(hb:j<=b):Out (mirror xs i j ((j - i) / 2)) xs a b:=fun k hk=>by
 rw[getElem?_mirror_all (i:=i) hj k,if_neg fun z=>hk.elim (fun h=>xdx (xbb hi z.1) h) fun h=>xdx (xbb hb h) z.2]
theorem Out.bubble {xs:Array Keyed}{src d a b:Nat}(hs:src < xs.size)(hd:d<=src)(ha:a<=src - d)(hb:src < b):Out (bubble xs src d) xs a b:=fun k hk=>by
 rw[getElem?_bubble hs d hd k,if_neg fun z=>hk.elim (fun h=>xdx (xbb ha (xdb z.symm)) h) fun h=>xdx h (xcn (xbb (xdb z) (xgd _ _)) hb),if_neg fun z=>hk.elim (fun h=>xdx (xbb ha (xbr z.1)) h) fun h=>xdx h (xcn z.2 hb)]
structure Sm (st st':SortSt) (a b:Nat):Prop where
 out:Out (arrOf st') (arrOf st) a b
 pend:pendingOf st'=pendingOf st
theorem zbcj {lo a nrem:Nat}{st:SortSt}{Q:Option (Option Nat)×Nat->SortSt->Prop}(O:Orc prog w A s κ a₀ R)(b:B κ a₀ st)(hn:lo+nrem<=a₀.size)(ha:1<=a)(han:a<=nrem)(hs:UpA R (arrOf st) lo (lo+a))
  (h:∀n,a<=n->n<=nrem->UpA R (arrOf st) lo (lo+n)->(n=nrem\/kA R (arrOf st) (lo+n) < kA R (arrOf st) (lo+n - 1))->Q (none,n) st) :
  wpS (model prog w) A E s (forIn [a:nrem] ((none,a):Option (Option Nat)×Nat) fun _ r=>do
   let x ← ltAt' (lo+r.2) (lo+r.2 - 1)
   match x with
   | some smaller=>if smaller=true then pure (ForInStep.done (none,r.2)) else pure (ForInStep.yield (none,r.2+1))
   | _=>pure (ForInStep.done (some none,r.2))) Q st:=by
 refine xde (I:=fun x c st'=>st'=st/\c=(none,x)/\UpA R (arrOf st) lo (lo+x)) ?_ ?_ ⟨rfl,rfl,hs⟩
 ·rintro x c st' h1 h2 ⟨rfl,rfl,h3⟩;dsimp only;refine xbi (zmz O b (zbbz h2 hn) (zbby h2 hn) ?_);by_cases c:kA R (arrOf st') (lo+x) < kA R (arrOf st') (lo+x - 1)
  ·simp only[c,xgt,xfu];exact xbj (h x h1 (xbr h2) h3 (.inr c))
  ·simp only[c,xhz,xct,xeo];refine xbj ⟨rfl,rfl,fun i j hi hij hj=>?_⟩;by_cases e:j=lo+x
   ·subst e;by_cases e2:i=lo+x
    ·rw[e2];exact xbf _
    ·exact xbb (h3 i (lo+x - 1) hi (xcx (xcu hij e2)) (ztb (xbb ha h1))) (xbz c)
   ·exact h3 i j hi hij (zbgs hj e)
 ·rintro c st' ⟨rfl,rfl,h3⟩;rw[xla han] at h3 ⊢;exact h nrem han (xbf _) h3 (.inl rfl)
theorem zix {xs:Array Keyed}{i j:Nat}(hj:j<=xs.size)(he:∀k,i<=k->k < j->kA R xs k=kA R xs (j - 1))(k:Nat):kA R (mirror xs i j ((j - i) / 2)) k=kA R xs k:=by
 rw[zlb hj];split
 ·rename_i c;rw[he _ (zbea c.2) (zbeb c.1 c.2),he k c.1 c.2]
 ·rfl
structure Fl (κ:SortKind) (a₀:Array Keyed) (R:Keyed->Nat) (st₀ st:SortSt) (lo n neq b:Nat):Prop where
 base:B κ a₀ st
 same:Sm st₀ st lo b
 dn:DnA R (arrOf st) lo (lo+n)
 hq:neq+1<=n
 eqs:∀i,lo+n - (neq+1)<=i->i < lo+n->kA R (arrOf st) i=kA R (arrOf st) (lo+n - 1)
theorem Fl.turn {st₀ st:SortSt}{lo n neq b:Nat}(h:Fl κ a₀ R st₀ st lo n neq b)(hb:lo+n<=b)(hs:b<=a₀.size) :
  Fl κ a₀ R st₀ (setArr st (mirror (arrOf st) (lo+n - (neq+1)) (lo+n) ((lo+n - (lo+n - (neq+1))) / 2))) lo n neq b/\∀k,kA R (mirror (arrOf st) (lo+n - (neq+1)) (lo+n) ((lo+n - (lo+n - (neq+1))) / 2)) k=kA R (arrOf st) k:=by
 have hz:=h.base.size;have hq:=h.hq;have hle:lo+n<=(arrOf st).size:=by rw[hz];exact xbb hb hs
 have e:=zix (R:=R) (xs:=arrOf st) (i:=lo+n - (neq+1)) (j:=lo+n) hle h.eqs;refine⟨⟨h.base.set (mirror_perm _ _ _ _),⟨(Out.mirror hle (Nat.le_sub_of_add_le (xcc hq lo)) hb).trans h.same.out,h.same.pend⟩,fun i j a1 a2 a3=>?_,h.hq,fun i a1 a2=>?_⟩,e⟩
 ·show kA R (mirror _ _ _ _) j<=kA R (mirror _ _ _ _) i;rw[e,e];exact h.dn i j a1 a2 a3
 ·show kA R (mirror _ _ _ _) i=kA R (mirror _ _ _ _) _;rw[e,e];exact h.eqs i a1 a2
theorem Fl.less {st₀ st:SortSt}{lo n neq b:Nat}(h:Fl κ a₀ R st₀ st lo n neq b)(c:kA R (arrOf st) (lo+n)<=kA R (arrOf st) (lo+n - 1)):DnA R (arrOf st) lo (lo+(n+1)):=fun i j a1 a2 a3=>by
 have hq:=h.hq;by_cases e:j=lo+n
 ·subst e;by_cases e2:i=lo+n
  ·rw[e2];exact xbf _
  ·exact xbb c (h.dn i (lo+n - 1) a1 (xcx (xcu a2 e2)) (ztb (xbb (xld 1 neq) hq)))
 ·exact h.dn i j a1 a2 (zbgs a3 e)
theorem Fl.fresh {st₀ st:SortSt}{lo n neq b:Nat}(h:Fl κ a₀ R st₀ st lo n neq b)(c:kA R (arrOf st) (lo+n)<=kA R (arrOf st) (lo+n - 1)):Fl κ a₀ R st₀ st lo (n+1) 0 b:=⟨h.base,h.same,h.less c,xen (xec _),fun i g1 g2=>by
 have:i=lo+(n+1) - 1:=xdh (xcs g2) g1
 rw[this]⟩
theorem Fl.more {st₀ st:SortSt}{lo n neq b:Nat}(h:Fl κ a₀ R st₀ st lo n neq b)(c:kA R (arrOf st) (lo+n)=kA R (arrOf st) (lo+n - 1)):Fl κ a₀ R st₀ st lo (n+1) (neq+1) b:=by
 have hq:=h.hq;refine⟨h.base,h.same,h.less (xdb c),xen hq,fun i g1 g2=>?_⟩;rw[show lo+(n+1) - 1=lo+n from rfl];by_cases e:i=lo+n
 ·rw[e]
 ·rw[c];exact h.eqs i (xbb (xdb (Nat.succ_sub_succ (lo+n) (neq+1)).symm) g1) (zbgs g2 e)
theorem zbci {lo nrem:Nat}{st:SortSt}{Q:Option Nat->SortSt->Prop}(O:Orc prog w A s κ a₀ R)(b:B κ a₀ st)(hn:lo+nrem<=a₀.size)(h1:1<=nrem)
  (h:∀m st',1<=m->m<=nrem->B κ a₀ st'->Sm st st' lo (lo+nrem)->UpA R (arrOf st') lo (lo+m)->Q (some m) st'):wpS (model prog w) A E s (countRun' lo nrem) Q st:=by
 have sm0:Sm st st lo (lo+nrem):=⟨Out.refl _ _ _,rfl⟩
 have one:∀xs:Array Keyed,UpA R xs lo (lo+1):=fun xs i j a1 a2 a3=>by
  have:i=j:=xdh a2 (xbb (xcs a3) a1);subst this;exact xbf _
 have oneD:∀xs:Array Keyed,DnA R xs lo (lo+1):=fun xs i j a1 a2 a3=>by
  have:i=j:=xdh a2 (xbb (xcs a3) a1);subst this;exact xbf _
 rw[countRun'_eq];dsimp only;refine xbi (zbcj O b hn (xbf _) h1 (one _) fun n n1 n2 hu hlast=>?_);dsimp only;split
 ·exact xbj (h n st n1 n2 b sm0 hu)
 rename_i hne;have hne':n≠nrem:=fun z=>hne (by simp[z])
 have hlt:n < nrem:=xcu n2 hne';have hl:kA R (arrOf st) (lo+n) < kA R (arrOf st) (lo+n - 1):=by
  rcases hlast with z | z
  ·exact absurd z hne'
  ·exact z
 have hz:=b.size;have fin:∀(n:Nat) (st1:SortSt),B κ a₀ st1->Sm st st1 lo (lo+nrem)->1<=n->n<=nrem->DnA R (arrOf st1) lo (lo+n) ->
   B κ a₀ (setArr st1 (mirror (arrOf st1) lo (lo+n) ((lo+n - lo) / 2)))/\Sm st (setArr st1 (mirror (arrOf st1) lo (lo+n) ((lo+n - lo) / 2))) lo (lo+nrem)/\UpA R (mirror (arrOf st1) lo (lo+n) ((lo+n - lo) / 2)) lo (lo+n):=fun n st1 b1 sm1 m1 m2 dn1=>by
  have hz:=b1.size;have hm:=xcc m2 lo;have hle:lo+n<=(arrOf st1).size:=by rw[hz];exact xbb hm hn
  refine⟨b1.set (mirror_perm _ _ _ _),⟨(Out.mirror hle (xbf _) hm).trans sm1.out,sm1.pend⟩,fun i j a1 a2 a3=>?_⟩;have hi:=xcn a2 a3;rw[zlb hle,zlb hle,if_pos ⟨a1,hi⟩,if_pos ⟨xbb a1 a2,a3⟩];exact dn1 _ _ (zbea a3) (xgy a2 _) (zbeb a1 hi)
 have eqs:¬ kA R (arrOf st) lo < kA R (arrOf st) (lo+n - 1)->∀k,lo<=k->k < lo+n->kA R (arrOf st) k=kA R (arrOf st) (lo+n - 1):=fun c k k1 k2=>by
  have g1:=hu lo k (xbf _) k1 k2;have g2:=hu k (lo+n - 1) k1 (xcx k2) (ztb n1);exact xdh g2 (xbb (xbz c) g1)
 have dnx:∀xs:Array Keyed,(∀k,kA R xs k=kA R (arrOf st) k)->¬ kA R (arrOf st) lo < kA R (arrOf st) (lo+n - 1)->DnA R xs lo (lo+(n+1)):=fun xs e c i j a1 a2 a3=>by
  rw[e,e];by_cases e2:j=lo+n
  ·subst e2;by_cases e3:i=lo+n
   ·rw[e3];exact xbf _
   ·rw[eqs c i a1 (xcu a2 e3)];exact xbr hl
  ·have jn:=zbgs a3 e2;rw[eqs c i a1 (xcn a2 jn),eqs c j (xbb a1 a2) jn];exact xbf _
 split
 ·have hle:lo+n<=(arrOf st).size:=by rw[hz];exact xbb (xcc n2 lo) hn
  refine xbi (zmz O b (xbg (xhc h1) hn) (zbby hlt hn) ?_);by_cases c:kA R (arrOf st) lo < kA R (arrOf st) (lo+n - 1)
  ·simp only[c,xgt,xfu];exact xbj (h n st n1 n2 b sm0 hu)
  ·simp only[c,xhz,xct,xeo];refine xbi (zun ?_);have b1:B κ a₀ (setArr st (mirror (arrOf st) lo (lo+n) ((lo+n - lo) / 2))):=b.set (mirror_perm _ _ _ _);have sm1:Sm st (setArr st (mirror (arrOf st) lo (lo+n) ((lo+n - lo) / 2))) lo (lo+nrem):=⟨Out.mirror hle (xbf _) (xcc n2 lo),rfl⟩
   have dn1:DnA R (arrOf (setArr st (mirror (arrOf st) lo (lo+n) ((lo+n - lo) / 2)))) lo (lo+(n+1)):=dnx _ (zix hle (eqs c)) c;generalize (setArr st (mirror (arrOf st) lo (lo+n) ((lo+n - lo) / 2)))=st1 at b1 sm1 dn1 ⊢;refine xbi (xjs (xhn ⟨rfl,?_⟩));refine xbi (xep (xde (I:=fun x c st'=>∃neq,c=(none,x,neq)/\Fl κ a₀ R st st' lo x neq (lo+nrem)) (Q:=fun c st'=>∃m neq,c=(none,m,neq)/\n+1<=m/\m<=nrem/\Fl κ a₀ R st st' lo m neq (lo+nrem)) ?_ ?_ ?_) ?_)
   ·rintro x c st' a1 a2 ⟨neq,rfl,f⟩;dsimp only;refine xbi (zmz O f.base (zbbz a2 hn) (zbby a2 hn) ?_);by_cases c:kA R (arrOf st') (lo+x) < kA R (arrOf st') (lo+x - 1)
    ·simp only[c,xgt,xfu];split
     ·obtain⟨f2,e⟩:=f.turn (xcc (xbr a2) lo) hn;refine xbi (zun (xbj ⟨0,rfl,f2.fresh ?_⟩));refine xbr (?_:kA R (mirror _ _ _ _) _ < kA R (mirror _ _ _ _) _);rw[e,e];exact c
     ·exact xbj ⟨0,rfl,f.fresh (xbr c)⟩
    ·simp only[c,xhz,xct,xeo];refine xbi (zmz O f.base (zbby a2 hn) (zbbz a2 hn) ?_);by_cases c2:kA R (arrOf st') (lo+x - 1) < kA R (arrOf st') (lo+x)
     ·simp only[c2,xgt,xfu];exact xbj ⟨x,neq,rfl,a1,xbr a2,f⟩
     ·simp only[c2,xhz,xct,xeo];exact xbj ⟨neq+1,rfl,f.more (xdh (xbz c2) (xbz c))⟩
   ·rintro c st' ⟨neq,rfl,f⟩;rw[xla hlt] at f ⊢;exact⟨nrem,neq,rfl,hlt,xbf _,f⟩
   ·exact⟨0,rfl,b1,sm1,dn1,xen (xec _),fun i g1 g2=>by
     have:i=lo+(n+1) - 1:=xdh (xcs g2) g1
     rw[this]⟩
   ·rintro c st' ⟨m,neq,rfl,a1,a2,f⟩;dsimp only;split
    ·obtain⟨f2,e⟩:=f.turn (xcc a2 lo) hn;refine xbi (zun (xbi (zun ?_)));obtain⟨b3,s3,u3⟩:=fin m _ f2.base f2.same (xdc a1) a2 f2.dn;exact xbi (zbcj O b3 hn (xdc a1) a2 u3 fun m' m1 m2 hu' _=>xbj (h m' _ (xbb (xdc a1) m1) m2 b3 s3 hu'))
    ·refine xbi (zun ?_);obtain⟨b3,s3,u3⟩:=fin m _ f.base f.same (xdc a1) a2 f.dn;exact xbi (zbcj O b3 hn (xdc a1) a2 u3 fun m' m1 m2 hu' _=>xbj (h m' _ (xbb (xdc a1) m1) m2 b3 s3 hu'))
 ·rename_i hn1;have b1:=b;have sm1:=sm0
  have dn1:DnA R (arrOf st) lo (lo+(n+1)):=dnx _ (fun _=>rfl) (by
   have:n=1:=xdh (xbz hn1) n1;subst this
   simp)
  refine xbi (xjs (xhn ⟨rfl,?_⟩));refine xbi (xep (xde (I:=fun x c st'=>∃neq,c=(none,x,neq)/\Fl κ a₀ R st st' lo x neq (lo+nrem)) (Q:=fun c st'=>∃m neq,c=(none,m,neq)/\n+1<=m/\m<=nrem/\Fl κ a₀ R st st' lo m neq (lo+nrem)) ?_ ?_ ?_) ?_)
  ·rintro x c st' a1 a2 ⟨neq,rfl,f⟩;dsimp only;refine xbi (zmz O f.base (zbbz a2 hn) (zbby a2 hn) ?_);by_cases c:kA R (arrOf st') (lo+x) < kA R (arrOf st') (lo+x - 1)
   ·simp only[c,xgt,xfu];split
    ·obtain⟨f2,e⟩:=f.turn (xcc (xbr a2) lo) hn;refine xbi (zun (xbj ⟨0,rfl,f2.fresh ?_⟩));refine xbr (?_:kA R (mirror _ _ _ _) _ < kA R (mirror _ _ _ _) _);rw[e,e];exact c
    ·exact xbj ⟨0,rfl,f.fresh (xbr c)⟩
   ·simp only[c,xhz,xct,xeo];refine xbi (zmz O f.base (zbby a2 hn) (zbbz a2 hn) ?_);by_cases c2:kA R (arrOf st') (lo+x - 1) < kA R (arrOf st') (lo+x)
    ·simp only[c2,xgt,xfu];exact xbj ⟨x,neq,rfl,a1,xbr a2,f⟩
    ·simp only[c2,xhz,xct,xeo];exact xbj ⟨neq+1,rfl,f.more (xdh (xbz c2) (xbz c))⟩
  ·rintro c st' ⟨neq,rfl,f⟩;rw[xla hlt] at f ⊢;exact⟨nrem,neq,rfl,hlt,xbf _,f⟩
  ·exact⟨0,rfl,b1,sm1,dn1,xen (xec _),fun i g1 g2=>by
    have:i=lo+(n+1) - 1:=xdh (xcs g2) g1
    rw[this]⟩
  ·rintro c st' ⟨m,neq,rfl,a1,a2,f⟩;dsimp only;split
   ·obtain⟨f2,e⟩:=f.turn (xcc a2 lo) hn;refine xbi (zun (xbi (zun ?_)));obtain⟨b3,s3,u3⟩:=fin m _ f2.base f2.same (xdc a1) a2 f2.dn;exact xbi (zbcj O b3 hn (xdc a1) a2 u3 fun m' m1 m2 hu' _=>xbj (h m' _ (xbb (xdc a1) m1) m2 b3 s3 hu'))
   ·refine xbi (zun ?_);obtain⟨b3,s3,u3⟩:=fin m _ f.base f.same (xdc a1) a2 f.dn;exact xbi (zbcj O b3 hn (xdc a1) a2 u3 fun m' m1 m2 hu' _=>xbj (h m' _ (xbb (xdc a1) m1) m2 b3 s3 hu'))
end
section
variable {prog:Program}{w:World}{A:Around}{E:Value->Shared->Prop}{s:Shared}{κ:SortKind}{a₀:Array Keyed}{R:Keyed->Nat}
theorem zpe {xs:Array Keyed}{src d:Nat}(hs:src < xs.size)(hd:d<=src)(k:Nat):kA R (bubble xs src d) k=if k=src - d then kA R xs src else if src - d < k/\k<=src then kA R xs (k - 1) else kA R xs k:=by
 have e:=getElem?_bubble hs d hd k;split
 ·rename_i c;rw[if_pos c] at e;exact zdu e
 ·rename_i c;rw[if_neg c] at e;split
  ·rename_i c2;rw[if_pos c2] at e;exact zdu e
  ·rename_i c2;rw[if_neg c2] at e;exact zdu e
theorem zkz {a b n:Nat}(h1:a<=b)(h:b - a<=n - max 0 n):b=a:=by
 rw[Nat.zero_max,xhu] at h;exact xdh (Nat.le_of_sub_eq_zero (Nat.le_zero.mp h)) h1
theorem zbjc {l r:Nat}(h:¬l ≥ r):l<=(l+r) / 2:=(Nat.le_div_iff_mul_le xlf).mpr (by rw[Nat.mul_two];exact xcc (xbr (xfe h)) l)
theorem zbgt {l r:Nat}(h:¬l ≥ r):(l+r) / 2 < r:=(Nat.div_lt_iff_lt_mul xlf).mpr (by rw[Nat.mul_two];exact Nat.add_lt_add_right (xfe h) r)
theorem hf_l {l r k x:Nat}(h:¬l ≥ r)(g:r - l<=k - x):(l+r) / 2 - l<=k - (x+1):=xbb (xcx (xds (zbjc h) (zbgt h))) (xer g 1)
theorem hf_r {l r k x:Nat}(h:¬l ≥ r)(g:r - l<=k - x):r - ((l+r) / 2+1)<=k - (x+1):=xbb (xgy (xen (zbjc h)) r) (xer g 1)
theorem zzi {p j q:Nat}(h:p < j)(h2:j<=q):j - 1 < q:=xbg (xhh (xjj h) Nat.one_pos) h2
theorem zblx {lo n ok:Nat}{st:SortSt}{Q:Bool->SortSt->Prop}(O:Orc prog w A s κ a₀ R)(b:B κ a₀ st)(hn:lo+n<=a₀.size)(h1:1<=ok)(h2:ok<=n)(up:UpA R (arrOf st) lo (lo+ok))
  (h:∀st',B κ a₀ st'->Sm st st' lo (lo+n)->UpA R (arrOf st') lo (lo+n)->Q true st'):wpS (model prog w) A E s (binarySort' lo n ok) Q st:=by
 rw[binarySort'_eq]
 refine xbi (xep (xde (I:=fun k c st'=>c=(none,())/\B κ a₀ st'/\Sm st st' lo (lo+n)/\UpA R (arrOf st') lo (lo+min k n))
  (Q:=fun c st'=>c=(none,())/\B κ a₀ st'/\Sm st st' lo (lo+n)/\UpA R (arrOf st') lo (lo+n)) ?_ ?_ ?_) ?_)
 ·rintro k c st' k1 k2 ⟨rfl,b1,sm1,up1⟩;rw[xdt (xbr k2)] at up1;have hz:=b1.size;have hk:lo+k < a₀.size:=xbg (xdo k2 lo) hn
  refine xbi (xep (xde (I:=fun x c st2=>st2=st'/\∃l r,c=(none,l,r)/\l<=r/\r<=k/\r - l<=k - x/\(∀i,i < l->kA R (arrOf st') (lo+i)<=kA R (arrOf st') (lo+k))/\(∀i,r<=i->i < k->kA R (arrOf st') (lo+k)<=kA R (arrOf st') (lo+i)))
   (Q:=fun c st2=>st2=st'/\∃l r,c=(none,l,r)/\l<=k/\(∀i,i < l->kA R (arrOf st') (lo+i)<=kA R (arrOf st') (lo+k))/\(∀i,l<=i->i < k->kA R (arrOf st') (lo+k)<=kA R (arrOf st') (lo+i))) ?_ ?_ ?_) ?_)
  ·rintro x c st2 x1 x2 ⟨rfl,l,r,rfl,g1,g2,g3,g4,g5⟩;dsimp only;by_cases hge:l ≥ r
   ·rw[if_pos hge];have e:l=r:=xdh g1 hge;subst e;exact xbj ⟨rfl,l,l,rfl,g2,g4,g5⟩
   ·have hm:lo+(l+r) / 2 < lo+k:=xdo (xbg (zbgt hge) g2) lo;rw[if_neg hge];refine xbi (zmz O b1 hk (xht hm hk) ?_);by_cases c:kA R (arrOf st2) (lo+k) < kA R (arrOf st2) (lo+(l+r) / 2)
    ·simp only[c,xgt,xfu];exact xbj ⟨rfl,l,(l+r) / 2,rfl,zbjc hge,xbb (xbr (zbgt hge)) g2,hf_l hge g3,g4,fun i a1 a2=>xbb (xbr c) (up1 _ _ (xbu _ _) (xcc a1 lo) (xdo a2 lo))⟩
    ·simp only[c,xhz,xct,xeo];exact xbj ⟨rfl,(l+r) / 2+1,r,rfl,zbgt hge,g2,hf_r hge g3,fun i a1=>xbb (up1 (lo+i) (lo+(l+r) / 2) (xbu _ _) (xcc (xcs a1) lo) hm) (xbz c),g5⟩
  ·rintro c st2 ⟨rfl,l,r,rfl,g1,g2,g3,g4,g5⟩;have e:=zkz g1 g3;subst e;exact⟨rfl,_,_,rfl,g2,g4,g5⟩
  ·exact⟨rfl,0,k,rfl,xec _,xbf _,xbf _,fun i hi=>absurd hi (Nat.not_lt_zero _),fun i a1 a2=>absurd a2 (xdx a1)⟩
  ·rintro c st2 ⟨rfl,l,r,rfl,g1,g2,g3⟩;dsimp only;have hd:lo+k - (lo+k - (lo+l))=lo+l:=Nat.sub_sub_self (xcc g1 lo);have hs:lo+k < (arrOf st2).size:=by rw[hz];exact hk
   refine xbi (zbgy (xbj ⟨rfl,b1.set (bubble_perm _ _ _),⟨(Out.bubble hs (xgd _ _) (by rw[hd];exact xbu _ _) (xdo k2 lo)).trans sm1.out,sm1.pend⟩,fun i j a1 a2 a3=>?_⟩));show kA R (bubble (arrOf st2) (lo+k) (lo+k - (lo+l))) i<=kA R (bubble (arrOf st2) (lo+k) (lo+k - (lo+l))) j;rw[zpe hs (xgd _ _),zpe hs (xgd _ _),hd];rw[xdt k2] at a3;have hj:j<=lo+k:=xcs a3;have low:∀q,lo<=q->q < lo+l->kA R (arrOf st2) q<=kA R (arrOf st2) (lo+k):=fun q q1 q2=>by
    have:=g2 (q - lo) (xdf q1 q2);rw[xce q1] at this;exact this
   have hig:∀q,lo+l<=q->q < lo+k->kA R (arrOf st2) (lo+k)<=kA R (arrOf st2) q:=fun q q1 q2=>by
    have q0:=xbb (xbu _ _) q1;have:=g3 (q - lo) (xea q1) (xdf q0 q2);rw[xce q0] at this;exact this
   by_cases i1:i=lo+l
   ·rw[if_pos i1];by_cases j1:j=lo+l
    ·rw[if_pos j1];exact xbf _
    ·have jj:=xcu (i1 ▸ a2) (xgb j1);rw[if_neg j1,if_pos ⟨jj,hj⟩];exact hig _ (xcx jj) (zzi jj hj)
   ·rw[if_neg i1];by_cases i2:lo+l < i/\i<=lo+k
    ·have jj:=xbg i2.1 a2;rw[if_pos i2,if_neg (xjy jj),if_pos ⟨jj,hj⟩];exact up1 _ _ (xbb (xbu lo l) (xcx i2.1)) (xer a2 1) (zzi jj hj)
    ·have il:i < lo+l:=xcu (xbz fun z=>i2 ⟨z,xbb a2 hj⟩) i1;rw[if_neg i2];by_cases j1:j=lo+l
     ·rw[if_pos j1];exact low i a1 il
     ·rw[if_neg j1];by_cases j2:lo+l < j/\j<=lo+k
      ·rw[if_pos j2];exact up1 _ _ a1 (xcx (xht il j2.1)) (zzi j2.1 hj)
      ·rw[if_neg j2];exact up1 _ _ a1 a2 (xbg (xcu (xbz fun z=>j2 ⟨z,hj⟩) j1) (xcc g1 lo))
 ·rintro c st' ⟨rfl,b1,sm1,up1⟩;rw[xid (Nat.le_max_right _ _)] at up1;exact⟨rfl,b1,sm1,up1⟩
 ·refine⟨rfl,b,⟨Out.refl _ _ _,rfl⟩,fun i j a1 a2 a3=>up i j a1 a2 (xbg a3 (xcc (xbb (xfo _ _) (xdb (Nat.max_eq_left h1))) lo))⟩
 ·rintro c st' ⟨rfl,b1,sm1,up1⟩;exact xbj (h st' b1 sm1 up1)
noncomputable def gallop':Bool->Keyed->Array Keyed->Nat->Nat->Nat->StateT SortSt Sem (Option Nat):=sortPriv% PySem.Builtin.gallop
noncomputable def Cut (left:Bool) (R:Keyed->Nat) (key:Keyed) (arr:Array Keyed) (base n h:Nat):Prop:=h<=n/\(∀i,i < h->if left then kA R arr (base+i) < R key else kA R arr (base+i)<=R key)/\(∀i,h<=i->i < n->if left then R key<=kA R arr (base+i) else R key < kA R arr (base+i))
noncomputable def ahead (left:Bool) (R:Keyed->Nat) (key:Keyed) (arr:Array Keyed) (base i:Nat):Bool:=if left then decide (kA R arr (base+i) < R key) else decide (kA R arr (base+i)<=R key)
theorem zlr {left:Bool}{key:Keyed}{arr:Array Keyed}{base i:Nat}{st:SortSt}{Q:Option Bool->SortSt->Prop}(O:Orc prog w A s κ a₀ R)(hk:kindOf st=κ)(mk:key∈a₀.toList)(ma:∃x,arr[base+i]?=some x/\x∈a₀.toList)(h:Q (some (ahead left R key arr base i)) st) :
  wpS (model prog w) A E s (do
   let x ← elem' arr (base+i)
   if left=true then lt' x key else do
    let y ← lt' key x
    pure (Option.map (fun x=>!x) y)) Q st:=by
 obtain⟨x,e,m⟩:=ma;refine xbi (zlq e ?_);unfold ahead at h;rw[zea e] at h;cases left with
 | true =>
  rw[if_pos rfl] at h ⊢;exact w_lt O hk m mk h
 | false =>
  rw[if_neg (by decide)] at h ⊢;refine xbi (w_lt O hk mk m (xbj ?_));have q:(!decide (R key < R x))=decide (R x<=R key):=by
   by_cases c:R key < R x
   ·rw[xcf c,xbm (Nat.not_le_of_lt c)];rfl
   ·rw[xbm c,xcf (xbz c)];rfl
  show Q (some (!decide (R key < R x))) st;rw[q];exact h
theorem zug {left:Bool}{key:Keyed}{arr:Array Keyed}{base n i j:Nat}(up:UpA R arr base (base+n))(hij:i<=j)(hj:j < n)(h:ahead left R key arr base j=true):ahead left R key arr base i=true:=by
 have:=up (base+i) (base+j) (xbu _ _) (xcc hij _) (xdo hj _);unfold ahead at h ⊢;cases left with
 | true=>rw[if_pos rfl] at h ⊢;exact xcf (xcn this (xeh h))
 | false=>rw[if_neg (by decide)] at h ⊢;exact xcf (xbb this (xeh h))
theorem zbfw {left:Bool}{key:Keyed}{arr:Array Keyed}{base n h:Nat}(h0:h<=n)(h1:∀i,i < h->ahead left R key arr base i=true)(h2:∀i,h<=i->i < n->ahead left R key arr base i=false):Cut left R key arr base n h:=by
 refine⟨h0,fun i hi=>?_,fun i a1 a2=>?_⟩
 ·have:=h1 i hi;unfold ahead at this;cases left with
  | true=>rw[if_pos rfl] at this ⊢;exact xeh this
  | false=>rw[if_neg (by decide)] at this ⊢;exact xeh this
 ·have:=h2 i a1 a2;unfold ahead at this;cases left with
  | true=>rw[if_pos rfl] at this ⊢;exact xbz (of_decide_eq_false this)
  | false=>rw[if_neg (by decide)] at this ⊢;exact xfe (of_decide_eq_false this)
theorem zxt {a b:Nat}(c:¬a ≥ b):(b - a) / 2 < b - a:=Nat.div_lt_self (xet (xfe c)) (xbf 2)
theorem zbiq {a b:Nat}(c:¬a ≥ b):a+(b - a) / 2 < b:=xdi (zxt c)
theorem zbbs {a b n:Nat}(c:¬a ≥ b)(h:b<=n):a+(b - a) / 2 < n:=xbg (zbiq c) h
theorem zbed {a b n x:Nat}(h:b - a<=n - x):b - (a+(b - a) / 2+1)<=n - (x+1):=xbb (xgy (xen (xbu a _)) b) (xer h 1)
theorem zbec {a b n x:Nat}(c:¬a ≥ b)(h:b - a<=n - x):a+(b - a) / 2 - a<=n - (x+1):=by
 rw[xcq];exact xbb (xcx (zxt c)) (xer h 1)
theorem zbfl (o:Nat):o < 2 * o+1:=Nat.lt_succ_of_le (Nat.le_mul_of_pos_left o xlf)
theorem zbfm {x o:Nat}(h:x+1<=o):x+1+1<=2 * o+1:=xen (xbb h (Nat.le_mul_of_pos_left o xlf))
theorem zbck {a b n:Nat}(h:a+b < n):b < n - a:=Nat.lt_sub_of_add_lt (Nat.add_comm a b ▸ h)
inductive GI (f:Nat->Bool) (n:Nat) (st:SortSt) (x:Nat):Option (Option Nat)×Nat×Nat->SortSt->Prop where
 | mk {a b:Nat} (q1:a<=b) (q2:b<=n) (q3:b - a<=n - x) (q4:∀i,i < a->f i=true) (q5:∀i,b<=i->i < n->f i=false):GI f n st x (none,a,b) st
inductive GE (f:Nat->Bool) (n:Nat) (st:SortSt):Option (Option Nat)×Nat×Nat->SortSt->Prop where
 | mk {b:Nat} (q2:b<=n) (q4:∀i,i < b->f i=true) (q5:∀i,b<=i->i < n->f i=false):GE f n st (none,b,b) st
inductive GU (f:Nat->Bool) (n hint:Nat) (P:Nat->Prop) (st:SortSt):Option (Option Nat)×Nat×Nat->SortSt->Prop where
 | mk {l o:Nat} (g1:l < o) (g2:hint+l < n) (g3:f (hint+l)=true) (g4:P o):GU f n hint P st (none,l,o) st
inductive GD (f:Nat->Bool) (hint:Nat) (P:Nat->Prop) (st:SortSt):Option (Option Nat)×Nat×Nat->SortSt->Prop where
 | mk {l o:Nat} (g1:l < o) (g2:l<=hint) (g3:f (hint - l)=false) (g4:P o):GD f hint P st (none,l,o) st
theorem zgi {left:Bool}{key:Keyed}{arr:Array Keyed}{base n hint:Nat}{st:SortSt}{Q:Option Nat->SortSt->Prop}(O:Orc prog w A s κ a₀ R)(hk:kindOf st=κ)(mk:key∈a₀.toList)(ma:∀i,i < n->∃x,arr[base+i]?=some x/\x∈a₀.toList)(hh:hint < n)
  (up:UpA R arr base (base+n))(h:∀k,Cut left R key arr base n k->Q (some k) st):wpS (model prog w) A E s (gallop' left key arr base n hint) Q st:=by
 have mono:∀i j,i<=j->j < n->ahead left R key arr base j=true->ahead left R key arr base i=true:=fun i j a1 a2=>zug up a1 a2
 have monoF:∀i j,i<=j->j < n->ahead left R key arr base i=false->ahead left R key arr base j=false:=fun i j a1 a2 e=>by
  cases c:ahead left R key arr base j with
  | false=>rfl
  | true=>rw[mono i j a1 a2 c] at e;cases e
 refine xbi (zlr O hk mk (ma hint hh) ?_);dsimp only;cases hr:ahead left R key arr base hint with
 | true =>
  rw[if_pos rfl];refine xbi (xep (xde (I:=fun x=>GU (ahead left R key arr base) n hint (x+1<=·) st) (Q:=GU (ahead left R key arr base) n hint (fun o=>n - hint<=o\/(hint+o < n/\ahead left R key arr base (hint+o)=false)) st) ?_ ?_ ?_) ?_)
  ·rintro x c st' x1 x2 @⟨l,o,g1,g2,g3,g4⟩;dsimp only;by_cases c:o ≥ n - hint
   ·rw[if_pos c];exact xbj (.mk g1 g2 g3 (.inl c))
   ·have c3:hint+o < n:=xdi (xfe c);rw[if_neg c];refine xbi (zlr O hk mk (ma (hint+o) c3) ?_);dsimp only;cases c2:ahead left R key arr base (hint+o) with
    | true=>exact xbj (.mk (zbfl o) c3 c2 (zbfm g4))
    | false=>exact xbj (.mk g1 g2 g3 (.inr ⟨c3,c2⟩))
  ·rintro c st' @⟨l,o,g1,g2,g3,g4⟩;rw[Nat.zero_max] at g4;exact .mk g1 g2 g3 (.inl (xbb (xgd _ _) (xcz g4)))
  ·exact .mk Nat.one_pos hh hr (xbf _)
  ·rintro c st' @⟨l,o,g1,g2,g3,g4⟩;dsimp only;have f1:∀i,i < hint+l+1->ahead left R key arr base i=true:=fun i hi=>mono i (hint+l) (xcs hi) g2 g3
   have f2:∀i,hint+min o (n - hint)<=i->i < n->ahead left R key arr base i=false:=fun i a1 a2=>by
    rcases g4 with g | ⟨ga,gb⟩
    ·rw[xid g,xce (xbr hh)] at a1;exact absurd a2 (xdx a1)
    ·rw[xdt (xbr (zbck ga))] at a1;exact monoF (hint+o) i a1 a2 gb
   have f3:hint+l+1<=hint+min o (n - hint):=xcc (Nat.le_min.mpr ⟨g1,zbck g2⟩) hint;have f4:hint+min o (n - hint)<=n:=xbb (xcc (xia _ _) hint) (xdb (xce (xbr hh)));generalize hint+l+1=lo at f1 f3 ⊢;generalize hint+min o (n - hint)=hi at f2 f3 f4 ⊢;refine xbi (xep (xde (I:=GI (ahead left R key arr base) n st) (Q:=GE (ahead left R key arr base) n st) ?_ ?_ (.mk f3 f4 (xbb (xgd _ _) f4) f1 f2)) ?_)
   ·rintro x c st2 x1 x2 @⟨a,b,q1,q2,q3,q4,q5⟩;dsimp only;by_cases c:a ≥ b
    ·rw[if_pos c];have e:b=a:=xdh c q1;subst e;exact xbj (.mk q2 q4 q5)
    ·rw[if_neg c];refine xbi (zlr O hk mk (ma (a+(b - a) / 2) (zbbs c q2)) ?_);dsimp only;cases c2:ahead left R key arr base (a+(b - a) / 2) with
     | true=>exact xbj (.mk (zbiq c) q2 (zbed q3) (fun i hi=>mono i (a+(b - a) / 2) (xcs hi) (zbbs c q2) c2) q5)
     | false=>exact xbj (.mk (xbu _ _) (xbr (zbbs c q2)) (zbec c q3) q4 fun i a1 a2=>monoF (a+(b - a) / 2) i a1 a2 c2)
   ·rintro c st2 @⟨a,b,q1,q2,q3,q4,q5⟩;have e:=zkz q1 q3;subst e;exact .mk q2 q4 q5
   ·rintro c st2 @⟨b,q2,q4,q5⟩;exact xbj (h b (zbfw q2 q4 q5))
 | false =>
  rw[if_neg (by decide)];refine xbi (xep (xde (I:=fun x=>GD (ahead left R key arr base) hint (x+1<=·) st) (Q:=GD (ahead left R key arr base) hint (fun o=>hint+1<=o\/(o<=hint/\ahead left R key arr base (hint - o)=true)) st) ?_ ?_ ?_) ?_)
  ·rintro x c st' x1 x2 @⟨l,o,g1,g2,g3,g4⟩;dsimp only;by_cases c:o ≥ hint+1
   ·rw[if_pos c];exact xbj (.mk g1 g2 g3 (.inl c))
   ·rw[if_neg c];refine xbi (zlr O hk mk (ma (hint - o) (xcn (xgd _ _) hh)) ?_);dsimp only;cases c2:ahead left R key arr base (hint - o) with
    | true=>exact xbj (.mk g1 g2 g3 (.inr ⟨xcs (xfe c),c2⟩))
    | false=>exact xbj (.mk (zbfl o) (xcs (xfe c)) c2 (zbfm g4))
  ·rintro c st' @⟨l,o,g1,g2,g3,g4⟩;rw[Nat.zero_max] at g4;exact .mk g1 g2 g3 (.inl (xbb hh (xcz g4)))
  ·exact .mk Nat.one_pos (xec _) hr (xbf _)
  ·rintro c st' @⟨l,o,g1,g2,g3,g4⟩;dsimp only;have f1:∀i,i < hint+1 - min o (hint+1)->ahead left R key arr base i=true:=fun i hi=>by
    rcases g4 with g | ⟨ga,gb⟩
    ·rw[xid g,xhu] at hi;exact absurd hi (Nat.not_lt_zero _)
    ·rw[xdt (xeu ga),Nat.succ_sub ga] at hi;exact mono i (hint - o) (xcs hi) (xcn (xgd _ _) hh) gb
   have f2:∀i,hint - l<=i->i < n->ahead left R key arr base i=false:=fun i a1 a2=>monoF (hint - l) i a1 a2 g3
   have f3:hint+1 - min o (hint+1)<=hint - l:=xbb (xgy (Nat.le_min.mpr ⟨g1,xen g2⟩) _) (xdb (Nat.succ_sub_succ hint l));have f4:hint - l<=n:=xbb (xgd _ _) (xbr hh);generalize hint+1 - min o (hint+1)=lo at f1 f3 ⊢;generalize hint - l=hi at f2 f3 f4 ⊢;refine xbi (xep (xde (I:=GI (ahead left R key arr base) n st) (Q:=GE (ahead left R key arr base) n st) ?_ ?_ (.mk f3 f4 (xbb (xgd _ _) f4) f1 f2)) ?_)
   ·rintro x c st2 x1 x2 @⟨a,b,q1,q2,q3,q4,q5⟩;dsimp only;by_cases c:a ≥ b
    ·rw[if_pos c];have e:b=a:=xdh c q1;subst e;exact xbj (.mk q2 q4 q5)
    ·rw[if_neg c];refine xbi (zlr O hk mk (ma (a+(b - a) / 2) (zbbs c q2)) ?_);dsimp only;cases c2:ahead left R key arr base (a+(b - a) / 2) with
     | true=>exact xbj (.mk (zbiq c) q2 (zbed q3) (fun i hi=>mono i (a+(b - a) / 2) (xcs hi) (zbbs c q2) c2) q5)
     | false=>exact xbj (.mk (xbu _ _) (xbr (zbbs c q2)) (zbec c q3) q4 fun i a1 a2=>monoF (a+(b - a) / 2) i a1 a2 c2)
   ·rintro c st2 @⟨a,b,q1,q2,q3,q4,q5⟩;have e:=zkz q1 q3;subst e;exact .mk q2 q4 q5
   ·rintro c st2 @⟨b,q2,q4,q5⟩;exact xbj (h b (zbfw q2 q4 q5))
end
section
variable {prog:Program}{w:World}{A:Around}{E:Value->Shared->Prop}{s:Shared}{κ:SortKind}{a₀:Array Keyed}{R:Keyed->Nat}
noncomputable abbrev Ord (R:Keyed->Nat) (l:List Keyed):Prop:=l.Pairwise fun x y=>R x<=R y
structure SmG (st st':SortSt):Prop where
 arr:arrOf st'=arrOf st
 pend:pendingOf st'=pendingOf st
 kind:kindOf st'=kindOf st
 failed:failedOf st'=failedOf st
theorem SmG.refl (st:SortSt):SmG st st:=⟨rfl,rfl,rfl,rfl⟩
theorem SmG.trans {a b c:SortSt}(x:SmG a b)(y:SmG b c):SmG a c:=⟨y.arr.trans x.arr,y.pend.trans x.pend,y.kind.trans x.kind,y.failed.trans x.failed⟩
noncomputable def mergeLo':Array Keyed->Array Keyed->StateT SortSt Sem (Array Keyed):=sortPriv% PySem.Builtin.mergeLo
noncomputable def mergeHi':Array Keyed->Array Keyed->StateT SortSt Sem (Array Keyed):=sortPriv% PySem.Builtin.mergeHi
structure ML (R:Keyed->Nat) (all out rest:List Keyed):Prop where
 perm:(out++rest).Perm all
 ord:Ord R out
 le:∀x∈out,∀y∈rest,R x<=R y
theorem ML.grow {all out rest xs rest':List Keyed}(m:ML R all out rest)(p:rest.Perm (xs++rest'))(o:Ord R xs)(h:∀x∈xs,∀y∈rest',R x<=R y):ML R all (out++xs) rest':=by
 refine⟨?_,xfp.mpr ⟨m.ord,o,fun x hx y hy=>m.le x hx y (p.mem_iff.mpr (xgr _ hy))⟩,fun x hx y hy=>?_⟩
 ·rw[xcm];exact(xgk out p.symm).trans m.perm
 ·rcases xby.mp hx with hx | hx
  ·exact m.le x hx y (p.mem_iff.mpr (xda _ hy))
  ·exact h x hx y hy
theorem ML.fin {all out rest rest':List Keyed}(m:ML R all out rest)(p:rest'.Perm rest)(o:Ord R rest'):(out++rest').Perm all/\Ord R (out++rest') :=
 ⟨(xgk out p).trans m.perm,xfp.mpr ⟨m.ord,o,fun x hx y hy=>m.le x hx y (p.mem_iff.mp hy)⟩⟩
theorem Ord.at {l:List Keyed}(h:Ord R l){i j:Nat}{x y:Keyed}(hi:l[i]?=some x)(hj:l[j]?=some y)(hij:i<=j):R x<=R y:=by
 obtain⟨h1,e1⟩:=xbk.mp hi;obtain⟨h2,e2⟩:=xbk.mp hj;by_cases c:i=j
 ·subst c;rw[← e1,← e2];exact xbf _
 ·rw[← e1,← e2];exact xiq.mp h i j h1 h2 (xcu hij c)
theorem Ord.drop {l:List Keyed}(h:Ord R l)(n:Nat):Ord R (l.drop n):=List.Pairwise.sublist (List.drop_sublist _ _) h
theorem Ord.take {l:List Keyed}(h:Ord R l)(n:Nat):Ord R (l.take n):=List.Pairwise.sublist (xks _ _) h
theorem zbr {l:List Keyed}{n:Nat}{y:Keyed}(h:y∈l.drop n):∃j,n<=j/\l[j]?=some y:=by
 obtain⟨i,hi,e⟩:=xfz h;refine⟨n+i,xbu _ _,?_⟩;rw[← e,List.getElem_drop];exact xbh _
theorem zbc {l:List Keyed}{n:Nat}{y:Keyed}(h:y∈l.take n):∃j,j < n/\l[j]?=some y:=by
 obtain⟨i,hi,e⟩:=xfz h;have hi2:i < n/\i < l.length:=by rw[xcy] at hi;exact Nat.lt_min.mp hi
 refine⟨i,hi2.1,?_⟩;rw[← e,List.getElem_take];exact xbh _
theorem zjb {l:List Keyed}{i:Nat}{x:Keyed}(h:l[i]?=some x):l.drop i=x::l.drop (i+1):=by
 obtain⟨h1,rfl⟩:=xbk.mp h;exact xej h1
theorem zmm (l:List Keyed)(i k:Nat):l.drop i=(l.drop i).take k++l.drop (i+k):=by
 rw[← xlh,xfj]
structure Two (R:Keyed->Nat) (la lb:List Keyed):Prop where
 oa:Ord R la
 ob:Ord R lb
 last:∀x,la[la.length - 1]?=some x->∀y∈lb,R y<=R x
noncomputable def Fin (R:Keyed->Nat) (la lb:List Keyed) (r:Array Keyed):Prop:=r.toList.Perm (la++lb)/\Ord R r.toList
variable {la lb:List Keyed}{out:Array Keyed}{ia ib:Nat}
theorem ML.pushB {R:Keyed->Nat}{all:List Keyed}(T:Two R la lb)(m:ML R all out.toList (la.drop ia++lb.drop ib)){y:Keyed}(hy:lb[ib]?=some y)(h:∀z∈la.drop ia,R y<=R z):ML R all (out.push y).toList (la.drop ia++lb.drop (ib+1)):=by
 rw[xev];refine m.grow ?_ (xjd _ _) fun x hx z hz=>?_
 ·rw[zjb hy];exact List.perm_middle
 ·simp at hx;subst hx
  rcases xby.mp hz with hz | hz
  ·exact h z hz
  ·obtain⟨j,hj,e⟩:=zbr hz;exact T.ob.at hy e (xcz hj)
theorem ML.pushA {R:Keyed->Nat}{all:List Keyed}(T:Two R la lb)(m:ML R all out.toList (la.drop ia++lb.drop ib)){x:Keyed}(hx:la[ia]?=some x)(h:∀z∈lb.drop ib,R x<=R z):ML R all (out.push x).toList (la.drop (ia+1)++lb.drop ib):=by
 rw[xev];refine m.grow ?_ (xjd _ _) fun w hw z hz=>?_
 ·rw[zjb hx];exact .refl _
 ·simp at hw;subst hw
  rcases xby.mp hz with hz | hz
  ·obtain⟨j,hj,e⟩:=zbr hz;exact T.oa.at hx e (xcz hj)
  ·exact h z hz
theorem zcm (xs:Array Keyed)(i j:Nat):(xs.extract i j).toList=(xs.toList.drop i).take (j - i):=by
 rw[Array.toList_extract,List.extract_eq_take_drop]
theorem zpm (xs:Array Keyed)(i:Nat):(xs.extract i).toList=xs.toList.drop i:=by
 rw[zcm];exact xge (by simp)
theorem zcf {xs:Array Keyed}{i:Nat}{x:Keyed}(h:xs.toList[i]?=some x):kA R xs i=R x:=zea (by rw[← xck];exact h)
end
section
variable {prog:Program}{w:World}{A:Around}{E:Value->Shared->Prop}{s:Shared}{κ:SortKind}{a₀:Array Keyed}{R:Keyed->Nat}{a b out:Array Keyed}{ia ib k:Nat}{y x:Keyed}{all:List Keyed}
theorem ML.galA (T:Two R a.toList b.toList)(m:ML R all out.toList (a.toList.drop ia++b.toList.drop ib))(hy:b.toList[ib]?=some y)(c:Cut false R y a ia (a.size - ia) k):ML R all (out++a.extract ia (ia+k)).toList (a.toList.drop (ia+k)++b.toList.drop ib)/\∀z∈a.toList.drop (ia+k),R y<=R z:=by
 have up:∀z∈a.toList.drop (ia+k),R y<=R z:=fun z hz=>by
  obtain⟨j,hj,e⟩:=zbr hz;have hj2:j < a.size:=by have:=(xbk.mp e).1;simpa using this
  have h0:=xbb (xbu _ _) hj;have:=c.2.2 (j - ia) (xea hj) (xds h0 hj2);rw[xce h0,zcf e] at this;exact xbr this
 have low:∀z∈(a.toList.drop ia).take k,R z<=R y:=fun z hz=>by
  obtain⟨j,hj,e⟩:=zbc hz;rw[xfk] at e;have:=c.2.1 j hj;rw[zcf e] at this;exact this
 refine⟨?_,up⟩;rw[xcv,zcm,xcq];refine m.grow ?_ ((T.oa.drop ia).take k) fun z hz v hv=>?_
 ·conv=>lhs;rw[zmm a.toList ia k]
  rw[xcm]
 ·rcases xby.mp hv with hv | hv
  ·exact xbb (low z hz) (up v hv)
  ·obtain⟨j,hj,e⟩:=zbr hv;exact xbb (low z hz) (T.ob.at hy e hj)
theorem ML.galB (T:Two R a.toList b.toList)(m:ML R all out.toList (a.toList.drop ia++b.toList.drop ib))(hx:a.toList[ia]?=some x)(c:Cut true R x b ib (b.size - ib) k):ML R all (out++b.extract ib (ib+k)).toList (a.toList.drop ia++b.toList.drop (ib+k))/\∀z∈b.toList.drop (ib+k),R x<=R z:=by
 have up:∀z∈b.toList.drop (ib+k),R x<=R z:=fun z hz=>by
  obtain⟨j,hj,e⟩:=zbr hz;have hj2:j < b.size:=by have:=(xbk.mp e).1;simpa using this
  have h0:=xbb (xbu _ _) hj;have:=c.2.2 (j - ib) (xea hj) (xds h0 hj2);rw[xce h0,zcf e] at this;exact this
 have low:∀z∈(b.toList.drop ib).take k,R z<=R x:=fun z hz=>by
  obtain⟨j,hj,e⟩:=zbc hz;rw[xfk] at e;have:=c.2.1 j hj;rw[zcf e] at this;exact xbr this
 refine⟨?_,up⟩;rw[xcv,zcm,xcq];refine m.grow ?_ ((T.ob.drop ib).take k) fun z hz v hv=>?_
 ·conv=>lhs;rw[zmm b.toList ib k]
  rw[← xcm,← xcm];exact xho _ xgl
 ·rcases xby.mp hv with hv | hv
  ·obtain⟨j,hj,e⟩:=zbr hv;exact xbb (low z hz) (T.oa.at hx e hj)
  ·exact xbb (low z hz) (up v hv)
theorem ML.done (T:Two R a.toList b.toList)(m:ML R (a.toList++b.toList) out.toList (a.toList.drop ia++b.toList.drop ib))(h:ia=a.size\/ib=b.size):Fin R a.toList b.toList (out++a.extract ia++b.extract ib):=by
 unfold Fin;rw[xcv,xcv,zpm,zpm,xcm];refine m.fin (.refl _) ?_;rcases h with rfl | rfl
 ·rw[xhp (by simp),xle];exact T.ob.drop _
 ·rw[xhp (as:=b.toList) (by simp),xdr];exact T.oa.drop _
theorem ML.lastA (T:Two R a.toList b.toList)(m:ML R (a.toList++b.toList) out.toList (a.toList.drop ia++b.toList.drop ib))(h:ia+1=a.size):Fin R a.toList b.toList (out++b.extract ib++a.extract ia):=by
 unfold Fin;rw[xcv,xcv,zpm,zpm,xcm];refine m.fin xgl (xfp.mpr ⟨T.ob.drop _,T.oa.drop _,fun v hv z hz=>?_⟩);obtain⟨j,hj,e⟩:=zbr hz;have hj2:j < a.size:=by have:=(xbk.mp e).1;simpa using this
 have:j=a.toList.length - 1:=xdh (xcx (by rw[xcb];exact hj2)) (by rw[xcb,← h];exact hj);subst this;exact T.last z e v (xkc hv)
noncomputable def setG':Nat->StateT SortSt Sem Unit:=sortPriv% PySem.Builtin.setMinGallop
theorem zum {g:Nat}{st:SortSt}{Q:Unit->SortSt->Prop}(h:∀st',SmG st st'->Q () st'):wpS (model prog w) A E s (setG' g) Q st :=
 xgg (h _ ⟨rfl,rfl,rfl,rfl⟩)
theorem zbld {α:Type}{K:Nat->StateT SortSt Sem α}{Q:α->SortSt->Prop}{st:SortSt}(h:∀v,wpS (model prog w) A E s (K v) Q st):∀y x:Nat,wpS (model prog w) A E s (if y > 1 then K x else K y) Q st:=fun y x=>by
 by_cases e:y > 1
 ·rw[if_pos e];exact h x
 ·rw[if_neg e];exact h y
theorem zblf {α:Type}{c c2:Prop}[Decidable c][Decidable c2]{X Y Y':StateT SortSt Sem α}{Q:α->SortSt->Prop}{st:SortSt}(hY:¬c->Y'=Y)(h1:c->c2->wpS (model prog w) A E s X Q st)(h2:(c->¬c2)->wpS (model prog w) A E s Y Q st):wpS (model prog w) A E s (if c then(if c2 then X else Y) else Y') Q st:=by
 by_cases e:c
 ·rw[if_pos e];by_cases e2:c2
  ·rw[if_pos e2];exact h1 e e2
  ·rw[if_neg e2];exact h2 fun _=>e2
 ·rw[if_neg e,hY e];exact h2 fun z=>absurd z e
theorem zbch {α:Type}{c c2 c3:Prop}[Decidable c][Decidable c2][Decidable c3]{X X3 Y Y':StateT SortSt Sem α}{Q:α->SortSt->Prop}{st:SortSt}(hY:¬c->Y'=Y)(h1:c->c2->wpS (model prog w) A E s X Q st)(h3:c->c3->wpS (model prog w) A E s X3 Q st)(h2:(c->¬c2/\¬c3)->wpS (model prog w) A E s Y Q st):wpS (model prog w) A E s (if c then(if c2 then X else if c3 then X3 else Y) else Y') Q st:=by
 by_cases e:c
 ·rw[if_pos e];by_cases e2:c2
  ·rw[if_pos e2];exact h1 e e2
  ·rw[if_neg e2];by_cases e3:c3
   ·rw[if_pos e3];exact h3 e e3
   ·rw[if_neg e3];exact h2 fun _=>⟨e2,e3⟩
 ·rw[if_neg e,hY e];exact h2 fun z=>absurd z e
theorem zble {α:Type}{c c2:Prop}[Decidable c][Decidable c2]{X X2 Y:StateT SortSt Sem α}{Q:α->SortSt->Prop}{st:SortSt}(h1:c->wpS (model prog w) A E s X Q st)(h2:c2->wpS (model prog w) A E s X2 Q st)(h3:¬c->¬c2->wpS (model prog w) A E s Y Q st):wpS (model prog w) A E s (if c then X else if c2 then X2 else Y) Q st:=by
 by_cases e:c
 ·rw[if_pos e];exact h1 e
 ·rw[if_neg e];by_cases e2:c2
  ·rw[if_pos e2];exact h2 e2
  ·rw[if_neg e2];exact h3 e e2
theorem w_if {α:Type}{c:Prop}[Decidable c]{X Y:StateT SortSt Sem α}{Q:α->SortSt->Prop}{st:SortSt}(h1:c->wpS (model prog w) A E s X Q st)(h2:¬c->wpS (model prog w) A E s Y Q st):wpS (model prog w) A E s (if c then X else Y) Q st:=by
 by_cases e:c
 ·rw[if_pos e];exact h1 e
 ·rw[if_neg e];exact h2 e
theorem w_el {α:Type}{arr:Array Keyed}{i:Nat}{x:Keyed}{f:Keyed->StateT SortSt Sem α}{Q:α->SortSt->Prop}{st:SortSt}(e:arr[i]?=some x)(h:wpS (model prog w) A E s (f x) Q st):wpS (model prog w) A E s (elem' arr i >>= f) Q st:=xbi (zlq e h)
theorem zbcg {α:Type}{x y:Keyed}{f:Option Bool->StateT SortSt Sem α}{Q:α->SortSt->Prop}{st:SortSt}(O:Orc prog w A s κ a₀ R)(hk:kindOf st=κ)(hx:x∈a₀.toList)(hy:y∈a₀.toList)(h1:R x < R y->wpS (model prog w) A E s (f (some true)) Q st)(h2:R y<=R x->wpS (model prog w) A E s (f (some false)) Q st):wpS (model prog w) A E s (lt' x y >>= f) Q st:=by
 refine xbi (w_lt O hk hx hy ?_);by_cases c:R x < R y
 ·rw[xcf c];exact h1 c
 ·rw[xbm c];exact h2 (xbz c)
inductive Dn {β:Type} (R:Keyed->Nat) (a b:Array Keyed) (st:SortSt):Option (Array Keyed)×β->SortSt->Prop where
 | mk {r:Array Keyed} {z:β} {st':SortSt} (sm:SmG st st') (f:Fin R a.toList b.toList r):Dn R a b st (some r,z) st'
inductive L1 (R:Keyed->Nat) (a b:Array Keyed) (st:SortSt) (x:Nat):Option (Array Keyed)×Array Keyed×Nat×Nat×Nat->SortSt->Prop where
 | mk {out:Array Keyed} {ia ib g:Nat} {st':SortSt} (sm:SmG st st') (m:ML R (a.toList++b.toList) out.toList (a.toList.drop ia++b.toList.drop ib)) (ha:ia+1 < a.size) (hb:ib < b.size) (hx:x < ia+ib):L1 R a b st x (none,out,ia,ib,g) st'
inductive L2' (R:Keyed->Nat) (a b:Array Keyed) (st:SortSt) (x:Nat):Option (Array Keyed)×Array Keyed×Nat×Nat×Nat×Nat->SortSt->Prop where
 | mk {out:Array Keyed} {ia ib ac bc:Nat} {st':SortSt} (sm:SmG st st') (m:ML R (a.toList++b.toList) out.toList (a.toList.drop ia++b.toList.drop ib)) (ha:ia+1 < a.size) (hb:ib < b.size) (hx:x<=ia+ib):L2' R a b st x (none,out,ia,ib,ac,bc) st'
inductive L3 (R:Keyed->Nat) (a b:Array Keyed) (st:SortSt) (x:Nat):Option (Array Keyed)×Array Keyed×Nat×Nat×Nat×Nat×Nat->SortSt->Prop where
 | mk {out:Array Keyed} {ia ib g ac bc:Nat} {st':SortSt} (sm:SmG st st') (m:ML R (a.toList++b.toList) out.toList (a.toList.drop ia++b.toList.drop ib)) (ha:ia+1 < a.size) (hb:ib < b.size) (hx:x<=ia+ib):L3 R a b st x (none,out,ia,ib,g,ac,bc) st'
theorem zuo {st:SortSt}{Q:Array Keyed->SortSt->Prop}(O:Orc prog w A s κ a₀ R)(hk:kindOf st=κ)(ma:∀x∈a.toList,x∈a₀.toList)(mb:∀x∈b.toList,x∈a₀.toList)(T:Two R a.toList b.toList)(ha:1<=a.size)(hb:1<=b.size)
  (fst:∀y,b.toList[0]?=some y->∀x∈a.toList,R y<=R x)(h:∀r st',SmG st st'->Fin R a.toList b.toList r->Q r st'):wpS (model prog w) A E s (mergeLo' a b) Q st:=by
 have atA:∀(i:Nat) (hi:i < a.size),a[i]?=some a[i]/\a.toList[i]?=some a[i]/\a[i]∈a₀.toList:=fun i hi=>⟨getElem?_pos a i hi,by rw[xck];exact getElem?_pos a i hi,ma _ (by simp)⟩
 have atB:∀(i:Nat) (hi:i < b.size),b[i]?=some b[i]/\b.toList[i]?=some b[i]/\b[i]∈a₀.toList:=fun i hi=>⟨getElem?_pos b i hi,by rw[xck];exact getElem?_pos b i hi,mb _ (by simp)⟩
 have upA:∀i,UpA R a i (i+(a.size - i)):=fun i p q a1 a2 a3=>by
  have hq:q < a.size:=by lia
  have e1:=(atA p (by lia)).2.1;have e2:=(atA q hq).2.1;rw[zcf e1,zcf e2];exact T.oa.at e1 e2 a2
 have upB:∀i,UpA R b i (i+(b.size - i)):=fun i p q a1 a2 a3=>by
  have hq:q < b.size:=by lia
  have e1:=(atB p (by lia)).2.1;have e2:=(atB q hq).2.1;rw[zcf e1,zcf e2];exact T.ob.at e1 e2 a2
 obtain⟨y0,f0,f1⟩:∃x,b[0]?=some x/\b.toList[0]?=some x:=⟨_,(atB 0 hb).1,(atB 0 hb).2.1⟩
 have start:ML R (a.toList++b.toList) (#[y0]:Array Keyed).toList (a.toList.drop 0++b.toList.drop 1):=by
  have z:ML R (a.toList++b.toList) (#[]:Array Keyed).toList (a.toList.drop 0++b.toList.drop 0):=⟨by simp,List.Pairwise.nil,by simp⟩
  exact z.pushB T f1 fun x hx=>fst y0 f1 x (xkc hx)
 refine xbi (xjs (xhn ⟨rfl,xbi (zlq f0 (zble (fun c1=>?_) (fun c2=>?_) fun c1 c2=>?_))⟩))
 ·exact xbj (h _ _ (.refl _) (start.done T (.inr (by simpa using c1))))
 ·exact xbj (h _ _ (.refl _) (start.lastA T (by simpa using c2)))
 simp only[xfd] at c1 c2;refine xbi (xhe ?_);refine xbi (xep (xde (I:=L1 R a b st) (Q:=Dn R a b st) ?_ ?_ (.mk (.refl _) start (by lia) (by lia) (by lia))) ?_)
 ·rintro x c st1 x1 x2 @⟨out,ia,ib,g,st1,sm1,m,ha1,hb1,hx⟩;dsimp only;refine xbi (xep (xde (I:=fun _=>L2' R a b st (ia+ib)) (Q:=fun c st'=>Dn R a b st c st'\/L2' R a b st (ia+ib) c st') ?_ ?_ (.mk sm1 m ha1 hb1 (xbf _))) ?_)
  ·rintro x' c st2 _ _ @⟨out,ia',ib',ac,bc,st2,sm2,m,ha2,hb2,hp⟩;dsimp only;have ea:=(atA ia' (xef ha2)).1;have ela:=(atA ia' (xef ha2)).2.1;have mea:=(atA ia' (xef ha2)).2.2;have eb:=(atB ib' hb2).1;have elb:=(atB ib' hb2).2.1;have meb:=(atB ib' hb2).2.2;refine w_el eb (w_el ea (zbcg O (sm2.kind.trans hk) meb mea (fun cw=>w_el eb ?_) fun cw=>w_el ea ?_))
   ·skip
    have m2:=m.pushB T elb fun z hz=>by
     obtain⟨j,hj,e⟩:=zbr hz;exact xbb (xbr cw) (T.oa.at ela e hj)
    refine w_if (fun c5=>xbj (.inl (.mk sm2 (m2.done T (.inr (eq_of_beq c5)))))) fun c5=>?_
    rw[xfd] at c5;have hb3:ib'+1 < b.size:=xcu hb2 c5;have hp3:ia+ib<=ia'+(ib'+1):=xeu hp;exact w_if (fun _=>xbj (.inr (.mk sm2 m2 ha2 hb3 hp3))) fun _=>xbj (.mk sm2 m2 ha2 hb3 hp3)
   ·skip
    have m2:=m.pushA T ela fun z hz=>by
     obtain⟨j,hj,e⟩:=zbr hz;exact xbb cw (T.ob.at elb e hj)
    refine w_if (fun c5=>xbj (.inl (.mk sm2 (m2.lastA T (eq_of_beq c5))))) fun c5=>?_
    rw[xfd] at c5;have ha3:ia'+1+1 < a.size:=xcu ha2 c5;have hp3:ia+ib<=ia'+1+ib':=Nat.succ_add ia' ib' ▸ xeu hp
    exact w_if (fun _=>xbj (.inr (.mk sm2 m2 ha3 hb2 hp3))) fun _=>xbj (.mk sm2 m2 ha3 hb2 hp3)
  ·exact fun c st2 k=>.inr k
  ·rintro c st2 (⟨sm2,f⟩ | @⟨out,ia',ib',ac,bc,st2,sm2,m,ha2,hb2,hp⟩)
   ·exact xbj (.mk sm2 f)
   ·dsimp only;refine xbi (xjs (xhn ⟨rfl,?_⟩));refine xbi (xep (xde (I:=fun x'=>L3 R a b st (ia+ib+x')) (Q:=fun c st'=>Dn R a b st c st'\/L3 R a b st (ia+ib+1) c st') ?_ ?_ (.mk sm2 m ha2 hb2 hp)) ?_)
    ·rintro x' c st3 _ x2' @⟨out,ia',ib',g',ac,bc,st3,sm3,m,ha2,hb2,hp⟩;dsimp only;have eb:=(atB ib' hb2).1;have elb:=(atB ib' hb2).2.1;have meb:=(atB ib' hb2).2.2;generalize g' - 1=g1;generalize g'=y;revert g1;revert y
     refine zbld ?_;intro gg;refine xbi (zum fun st4 sg=>?_);have sm4:=sm3.trans sg;refine w_el eb (xbi (zgi O (sm4.kind.trans hk) meb (fun i hi=>⟨_,(atA (ia'+i) (xdi hi)).1,(atA (ia'+i) (xdi hi)).2.2⟩) (xet (xef ha2)) (upA ia') fun k1 cut1=>?_));have m5:=(m.galA T elb cut1).1;have u5:=(m.galA T elb cut1).2;have hk1:=cut1.1;dsimp only;refine zbch (fun c6=>?_) (fun c6 c7=>?_) (fun c6 c8=>?_) fun hh=>?_
     ·have z:k1=0:=Nat.le_zero.mp (xbz c6);subst z;simp only[xkd,xhv (xfo _ _),xhi]
     ·exact xbj (.inl (.mk sm4 (m5.lastA T (eq_of_beq c7))))
     ·exact xbj (.inl (.mk sm4 (m5.done T (.inl (eq_of_beq c8)))))
     have ha5:ia'+k1+1 < a.size:=by
      by_cases c6:k1 > 0
      ·have:=hh c6;simp at this;lia
      ·lia
     have hp5:ia+ib+x'<=ia'+k1+ib':=xbb hp (Nat.add_le_add_right (xbu _ _) _);clear hh;generalize ia'+k1=ia5 at m5 u5 ha5 hp5 ⊢;generalize out++a.extract ia' ia5=out5 at m5 ⊢;have m6:=m5.pushB T elb u5;have ea:=(atA _ (xef ha5)).1;have ela:=(atA _ (xef ha5)).2.1;have mea:=(atA _ (xef ha5)).2.2;refine w_el eb (w_if (fun c9=>xbj (.inl (.mk sm4 (m6.done T (.inr (eq_of_beq c9)))))) fun c9=>w_el ea ?_);rw[xfd] at c9;refine xbi (zgi O (sm4.kind.trans hk) mea (fun i hi=>⟨_,(atB (ib'+1+i) (xdi hi)).1,(atB (ib'+1+i) (xdi hi)).2.2⟩) (xet (xcu hb2 c9)) (upB (ib'+1)) fun k2 cut2=>?_);have m7:=(m6.galB T ela cut2).1;have u7:=(m6.galB T ela cut2).2;have hk2:=cut2.1;dsimp only;refine zblf (fun d6=>?_) (fun d6 d7=>?_) fun hh=>?_
     ·have z2:k2=0:=Nat.le_zero.mp (xbz d6);subst z2;simp only[xkd,xhv (xfo _ _),xhi]
     ·exact xbj (.inl (.mk sm4 (m7.done T (.inr (eq_of_beq d7)))))
     have h20:ib'+1+k2≠b.size:=by
      by_cases d6:k2 > 0
      ·have:=hh d6;simp at this;lia
      ·lia
     have m8:=m7.pushA T ela u7;refine w_el ea (w_if (fun d8=>xbj (.inl (.mk sm4 (m8.lastA T (eq_of_beq d8))))) fun d8=>?_);rw[xfd] at d8;have ha9:ia5+1+1 < a.size:=xcu ha5 d8;have hb9:ib'+1+k2 < b.size:=by lia
     have hp9:ia+ib+(x'+1)<=ia5+1+(ib'+1+k2):=by lia
     exact w_if (fun _=>xbj (.inr (.mk sm4 m8 ha9 hb9 (xbb (xcc (xld 1 x') _) hp9)))) fun _=>xbj (.mk sm4 m8 ha9 hb9 hp9)
    ·rintro c st3 ⟨sm3,m,ha2,hb2,hp⟩;exact .inr (.mk sm3 m ha2 hb2 (by lia))
    ·rintro c st3 (⟨sm3,f⟩ | ⟨sm3,m,ha2,hb2,hp⟩)
     ·exact xbj (.mk sm3 f)
     ·exact xbi (zum fun st4 sg=>xbj (.mk (sm3.trans sg) m ha2 hb2 (xbg (Nat.succ_lt_succ hx) hp)))
 ·rintro c st1 ⟨sm1,m,ha1,hb1,hx⟩;lia
 ·rintro c st1 ⟨sm1,f⟩;exact xbj (h _ st1 sm1 f)
end
structure MH (R:Keyed->Nat) (all out rest:List Keyed):Prop where
 perm:(rest++out.reverse).Perm all
 ord:Ord R out.reverse
 le:∀x∈rest,∀y∈out,R x<=R y
section
variable {R:Keyed->Nat}
theorem MH.grow {all out rest xs rest':List Keyed}(m:MH R all out rest)(p:rest.Perm (rest'++xs.reverse))(o:Ord R xs.reverse)(h:∀x∈rest',∀y∈xs,R x<=R y):MH R all (out++xs) rest':=by
 refine⟨?_,?_,fun x hx y hy=>?_⟩
 ·rw[List.reverse_append,← xcm];exact(xho _ p.symm).trans m.perm
 ·rw[List.reverse_append];exact xfp.mpr ⟨o,m.ord,fun x hx y hy=>m.le x (p.mem_iff.mpr (xda _ hx)) y (xjq.mp hy)⟩
 ·rcases xby.mp hy with hy | hy
  ·exact m.le x (p.mem_iff.mpr (xgr _ hx)) y hy
  ·exact h x hx y hy
theorem MH.fin {all out rest rest':List Keyed}(m:MH R all out rest)(p:rest'.Perm rest)(o:Ord R rest'):(rest'++out.reverse).Perm all/\Ord R (rest'++out.reverse) :=
 ⟨(xho _ p).trans m.perm,xfp.mpr ⟨o,m.ord,fun x hx y hy=>m.le x (p.mem_iff.mp hx) y (xjq.mp hy)⟩⟩
theorem zhw {l:List Keyed}{i:Nat}{x:Keyed}(h:l[i]?=some x):l.take (i+1)=l.take i++[x]:=by
 obtain⟨h1,rfl⟩:=xbk.mp h;exact xgw h1
structure TwoH (R:Keyed->Nat) (la lb:List Keyed):Prop where
 oa:Ord R la
 ob:Ord R lb
 first:∀y,lb[0]?=some y->∀x∈la,R y<=R x
variable {la lb all:List Keyed}{out:Array Keyed}{na nb:Nat}
theorem MH.pushB (T:TwoH R la lb)(m:MH R all out.toList (la.take na++lb.take (nb+1))){y:Keyed}(hy:lb[nb]?=some y)(h:∀z∈la.take na,R z<=R y):MH R all (out.push y).toList (la.take na++lb.take nb):=by
 rw[xev];refine m.grow ?_ (by simp) fun z hz w hw=>?_
 ·rw[zhw hy];simp
 ·simp at hw;subst hw
  rcases xby.mp hz with hz | hz
  ·exact h z hz
  ·obtain⟨j,hj,e⟩:=zbc hz;exact T.ob.at e hy (by lia)
theorem MH.pushA (T:TwoH R la lb)(m:MH R all out.toList (la.take (na+1)++lb.take nb)){x:Keyed}(hx:la[na]?=some x)(h:∀z∈lb.take nb,R z<=R x):MH R all (out.push x).toList (la.take na++lb.take nb):=by
 rw[xev];refine m.grow ?_ (by simp) fun z hz w hw=>?_
 ·rw[zhw hx];simp only[List.reverse_singleton,xcm];exact xgk _ xgl
 ·simp at hw;subst hw
  rcases xby.mp hz with hz | hz
  ·obtain⟨j,hj,e⟩:=zbc hz;exact T.oa.at e hx (by lia)
  ·exact h z hz
end
section
variable {prog:Program}{w:World}{A:Around}{E:Value->Shared->Prop}{s:Shared}{κ:SortKind}{a₀:Array Keyed}{R:Keyed->Nat}{a b out:Array Keyed}{na nb k:Nat}{y x:Keyed}{all:List Keyed}
theorem ztq (l:List Keyed){k n:Nat}(h:k<=n):l.take n=l.take k++(l.drop k).take (n - k):=by
 conv=>lhs;rw[show n=k+(n - k) by lia,List.take_add]
theorem MH.galA (T:TwoH R a.toList b.toList)(m:MH R all out.toList (a.toList.take na++b.toList.take (nb+1)))(hy:b.toList[nb]?=some y)(hn:na<=a.size)(c:Cut false R y a 0 na k):MH R all (out++(a.extract k na).reverse).toList (a.toList.take k++b.toList.take (nb+1))/\∀z∈a.toList.take k,R z<=R y:=by
 have low:∀z∈a.toList.take k,R z<=R y:=fun z hz=>by
  obtain⟨j,hj,e⟩:=zbc hz;have:=c.2.1 j hj;rw[xdu,zcf e] at this;exact this
 have up:∀z∈(a.toList.drop k).take (na - k),R y<=R z:=fun z hz=>by
  obtain⟨j,hj,e⟩:=zbc hz;rw[xfk] at e;have:=c.2.2 (k+j) (by lia) (by lia);rw[xdu,zcf e] at this;exact xbr this
 refine⟨?_,low⟩;rw[xcv,xie,zcm];refine m.grow ?_ (by rw[xif];exact(T.oa.drop k).take _) fun v hv z hz=>?_
 ·rw[xif,ztq a.toList c.1,xcm,xcm];exact xgk _ xgl
 ·have hz:=up z (xjq.mp hz);rcases xby.mp hv with hv | hv
  ·exact xbb (low v hv) hz
  ·obtain⟨j,hj,e⟩:=zbc hv;exact xbb (T.ob.at e hy (by lia)) hz
theorem MH.galB (T:TwoH R a.toList b.toList)(m:MH R all out.toList (a.toList.take (na+1)++b.toList.take nb))(hx:a.toList[na]?=some x)(hn:nb<=b.size)(c:Cut true R x b 0 nb k):MH R all (out++(b.extract k nb).reverse).toList (a.toList.take (na+1)++b.toList.take k)/\∀z∈b.toList.take k,R z<=R x:=by
 have low:∀z∈b.toList.take k,R z<=R x:=fun z hz=>by
  obtain⟨j,hj,e⟩:=zbc hz;have:=c.2.1 j hj;rw[xdu,zcf e] at this;exact xbr this
 have up:∀z∈(b.toList.drop k).take (nb - k),R x<=R z:=fun z hz=>by
  obtain⟨j,hj,e⟩:=zbc hz;rw[xfk] at e;have:=c.2.2 (k+j) (by lia) (by lia);rw[xdu,zcf e] at this;exact this
 refine⟨?_,low⟩;rw[xcv,xie,zcm];refine m.grow ?_ (by rw[xif];exact(T.ob.drop k).take _) fun v hv z hz=>?_
 ·rw[xif,ztq b.toList c.1,xcm]
 ·have hz:=up z (xjq.mp hz);rcases xby.mp hv with hv | hv
  ·obtain⟨j,hj,e⟩:=zbc hv;exact xbb (T.oa.at e hx (by lia)) hz
  ·exact xbb (low v hv) hz
theorem zlg (xs:Array Keyed)(n:Nat):(xs.extract 0 n).toList=xs.toList.take n:=by
 rw[zcm,List.drop_zero,Nat.sub_zero]
theorem MH.done (T:TwoH R a.toList b.toList)(m:MH R (a.toList++b.toList) out.toList (a.toList.take na++b.toList.take nb))(h:na=0\/nb=0):Fin R a.toList b.toList (a.extract 0 na++b.extract 0 nb++out.reverse):=by
 unfold Fin;rw[xcv,xcv,zlg,zlg,xie];refine m.fin (.refl _) ?_;rcases h with rfl | rfl
 ·rw[List.take_zero,xle];exact T.ob.take _
 ·rw[List.take_zero,xdr];exact T.oa.take _
theorem MH.firstB (T:TwoH R a.toList b.toList)(m:MH R (a.toList++b.toList) out.toList (a.toList.take na++b.toList.take nb))(h:nb=1):Fin R a.toList b.toList (b.extract 0 nb++a.extract 0 na++out.reverse):=by
 unfold Fin;rw[xcv,xcv,zlg,zlg,xie];refine m.fin xgl (xfp.mpr ⟨T.ob.take _,T.oa.take _,fun v hv z hz=>?_⟩);obtain⟨j,hj,e⟩:=zbc hv;have:j=0:=by lia
 subst this;exact T.first v e z (xke hz)
inductive H1 (R:Keyed->Nat) (a b:Array Keyed) (st:SortSt) (x:Nat):Option (Array Keyed)×Nat×Nat×Array Keyed×Nat->SortSt->Prop where
 | mk {na nb:Nat} {out:Array Keyed} {g:Nat} {st':SortSt} (sm:SmG st st') (m:MH R (a.toList++b.toList) out.toList (a.toList.take na++b.toList.take nb)) (a1:1<=na) (a2:na<=a.size) (b1:2<=nb) (b2:nb<=b.size) (hx:x+na+nb < a.size+b.size):H1 R a b st x (none,na,nb,out,g) st'
inductive H2 (R:Keyed->Nat) (a b:Array Keyed) (st:SortSt) (x:Nat):Option (Array Keyed)×Nat×Nat×Array Keyed×Nat×Nat->SortSt->Prop where
 | mk {na nb:Nat} {out:Array Keyed} {ac bc:Nat} {st':SortSt} (sm:SmG st st') (m:MH R (a.toList++b.toList) out.toList (a.toList.take na++b.toList.take nb)) (a1:1<=na) (a2:na<=a.size) (b1:2<=nb) (b2:nb<=b.size) (hx:na+nb<=x):H2 R a b st x (none,na,nb,out,ac,bc) st'
inductive H3 (R:Keyed->Nat) (a b:Array Keyed) (st:SortSt) (x y:Nat):Option (Array Keyed)×Nat×Nat×Array Keyed×Nat×Nat×Nat->SortSt->Prop where
 | mk {na nb:Nat} {out:Array Keyed} {g ac bc:Nat} {st':SortSt} (sm:SmG st st') (m:MH R (a.toList++b.toList) out.toList (a.toList.take na++b.toList.take nb)) (a1:1<=na) (a2:na<=a.size) (b1:2<=nb) (b2:nb<=b.size) (hx:y+na+nb<=x):H3 R a b st x y (none,na,nb,out,g,ac,bc) st'
theorem zup {st:SortSt}{Q:Array Keyed->SortSt->Prop}(O:Orc prog w A s κ a₀ R)(hk:kindOf st=κ)(ma:∀x∈a.toList,x∈a₀.toList)(mb:∀x∈b.toList,x∈a₀.toList)(T:TwoH R a.toList b.toList)(ha:1<=a.size)(hb:1<=b.size)
  (lst:∀x,a.toList[a.size - 1]?=some x->∀y∈b.toList,R y<=R x)(h:∀r st',SmG st st'->Fin R a.toList b.toList r->Q r st'):wpS (model prog w) A E s (mergeHi' a b) Q st:=by
 have atA:∀(i:Nat) (hi:i < a.size),a[i]?=some a[i]/\a.toList[i]?=some a[i]/\a[i]∈a₀.toList:=fun i hi=>⟨getElem?_pos a i hi,by rw[xck];exact getElem?_pos a i hi,ma _ (by simp)⟩
 have atB:∀(i:Nat) (hi:i < b.size),b[i]?=some b[i]/\b.toList[i]?=some b[i]/\b[i]∈a₀.toList:=fun i hi=>⟨getElem?_pos b i hi,by rw[xck];exact getElem?_pos b i hi,mb _ (by simp)⟩
 have upA:∀n,n<=a.size->UpA R a 0 (0+n):=fun n hn p q a1 a2 a3=>by
  have hq:q < a.size:=xbg a3 (xbb (xdb (xdu n)) hn);have e1:=(atA p (xcn a2 hq)).2.1;have e2:=(atA q hq).2.1;rw[zcf e1,zcf e2];exact T.oa.at e1 e2 a2
 have upB:∀n,n<=b.size->UpA R b 0 (0+n):=fun n hn p q a1 a2 a3=>by
  have hq:q < b.size:=xbg a3 (xbb (xdb (xdu n)) hn);have e1:=(atB p (xcn a2 hq)).2.1;have e2:=(atB q hq).2.1;rw[zcf e1,zcf e2];exact T.ob.at e1 e2 a2
 obtain⟨x0,f0,f1⟩:∃x,a[a.size - 1]?=some x/\a.toList[a.size - 1]?=some x:=⟨_,(atA (a.size - 1) (xhh ha Nat.one_pos)).1,(atA (a.size - 1) (xhh ha Nat.one_pos)).2.1⟩
 have start:MH R (a.toList++b.toList) (#[x0]:Array Keyed).toList (a.toList.take (a.size - 1)++b.toList.take b.size):=by
  have z:MH R (a.toList++b.toList) (#[]:Array Keyed).toList (a.toList.take (a.size - 1+1)++b.toList.take b.size):=by
   refine⟨?_,List.Pairwise.nil,by simp⟩;rw[xgh ha,xge (by simp),xge (by simp)];simp
  exact z.pushA T f1 fun y hy=>lst x0 f1 y (xke hy)
 refine xbi (xjs (xhn ⟨rfl,xbi (zlq f0 (zble (fun c1=>?_) (fun c2=>?_) fun c1 c2=>?_))⟩))
 ·exact xbj (h _ _ (.refl _) (start.done T (.inl (by simpa using c1))))
 ·exact xbj (h _ _ (.refl _) (start.firstB T (by simpa using c2)))
 simp only[xfd] at c1 c2;refine xbi (xhe ?_);refine xbi (xep (xde (I:=H1 R a b st) (Q:=Dn R a b st) ?_ ?_ (.mk (.refl _) start (by lia) (by lia) (by lia) (xbf _) (by lia))) ?_)
 ·rintro x c st1 x1 x2 @⟨na,nb,out,g,st1,sm1,m,a1,a2,b1,b2,hx⟩;dsimp only;refine xbi (xep (xde (I:=fun _=>H2 R a b st (na+nb)) (Q:=fun c st'=>Dn R a b st c st'\/H2 R a b st (na+nb) c st') ?_ ?_ (.mk sm1 m a1 a2 b1 b2 (xbf _))) ?_)
  ·rintro x' c st2 _ _ @⟨na',nb',out,ac,bc,st2,sm2,m,g1,g2,g3,g4,hp⟩;obtain⟨p,rfl⟩:∃p,na'=p+1:=⟨na' - 1,(xgh g1).symm⟩
   obtain⟨q,rfl⟩:∃q,nb'=q+1:=⟨nb' - 1,(xgh (xcz g3)).symm⟩
   dsimp only;have ea:=(atA p g2).1;have ela:=(atA p g2).2.1;have mea:=(atA p g2).2.2;have eb:=(atB q g4).1;have elb:=(atB q g4).2.1;have meb:=(atB q g4).2.2;refine w_el eb (w_el ea (zbcg O (sm2.kind.trans hk) meb mea (fun cw=>w_el ea ?_) fun cw=>w_el eb ?_))
   ·skip
    have m2:=m.pushA T ela fun z hz=>by
     obtain⟨j,hj,e⟩:=zbc hz;exact xbb (T.ob.at e elb (xcs hj)) (xbr cw)
    refine w_if (fun c5=>xbj (.inl (.mk sm2 (m2.done T (.inl (eq_of_beq c5)))))) fun c5=>?_
    rw[xfd] at c5;have a3:1<=p:=xkk c5;have a4:p<=a.size:=xcz g2;have a5:p+(q+1)<=na+nb:=xbb (Nat.add_le_add_right (xlg p) _) hp;exact w_if (fun _=>xbj (.inr (.mk sm2 m2 a3 a4 g3 g4 a5))) fun _=>xbj (.mk sm2 m2 a3 a4 g3 g4 a5)
   ·skip
    have m2:=m.pushB T elb fun z hz=>by
     obtain⟨j,hj,e⟩:=zbc hz;exact xbb (T.oa.at e ela (xcs hj)) cw
    refine w_if (fun c5=>xbj (.inl (.mk sm2 (m2.firstB T (eq_of_beq c5))))) fun c5=>?_
    rw[xfd] at c5;have a3:2<=q:=xcu (Nat.le_of_succ_le_succ g3) (xgb c5);have a4:q<=b.size:=xcz g4;have a5:p+1+q<=na+nb:=xcz hp;exact w_if (fun _=>xbj (.inr (.mk sm2 m2 g1 g2 a3 a4 a5))) fun _=>xbj (.mk sm2 m2 g1 g2 a3 a4 a5)
  ·exact fun c st2 k=>.inr k
  ·rintro c st2 (⟨sm2,f⟩ | @⟨na',nb',out,ac,bc,st2,sm2,m,g1,g2,g3,g4,hp⟩)
   ·exact xbj (.mk sm2 f)
   ·dsimp only;refine xbi (xjs (xhn ⟨rfl,?_⟩));refine xbi (xep (xde (I:=H3 R a b st (na+nb)) (Q:=fun c st'=>Dn R a b st c st'\/H3 R a b st (na+nb) 1 c st') ?_ ?_ (.mk sm2 m g1 g2 g3 g4 (by rw[xdu];exact hp))) ?_)
    ·rintro x' c st3 _ x2' @⟨na',nb',out,g',ac,bc,st3,sm3,m,g1,g2,g3,g4,hp⟩;obtain⟨q,rfl⟩:∃q,nb'=q+1:=⟨nb' - 1,(xgh (xcz g3)).symm⟩
     dsimp only;have eb:=(atB q g4).1;have elb:=(atB q g4).2.1;have meb:=(atB q g4).2.2;generalize g' - 1=g1;generalize g'=y;revert g1;revert y
     refine zbld ?_;intro gg;refine xbi (zum fun st4 sg=>?_);have sm4:=sm3.trans sg;refine w_el eb (xbi (zgi O (sm4.kind.trans hk) meb (fun i hi=>⟨_,(atA (0+i) (by lia)).1,(atA (0+i) (by lia)).2.2⟩) (by lia) (upA na' g2) fun k1 cut1=>?_));have m5:=(m.galA T elb g2 cut1).1;have u5:=(m.galA T elb g2 cut1).2;have hk1:=cut1.1;dsimp only;refine zblf (fun c6=>?_) (fun c6 c7=>?_) fun hh=>?_
     ·have z:k1=na':=by lia
      subst z;rw[show out++(a.extract k1 k1).reverse=out by simp[xfo]]
     ·exact xbj (.inl (.mk sm4 (m5.done T (.inl (eq_of_beq c7)))))
     have g5:1<=k1:=by
      by_cases c6:na' - k1 > 0
      ·have:=hh c6;simp at this;lia
      ·lia
     have g6:k1<=a.size:=xbb hk1 g2;have hp5:x'+k1+(q+1)<=na+nb:=by lia
     clear hh hk1 cut1;generalize out++(a.extract k1 na').reverse=out5 at m5 ⊢;obtain⟨p,rfl⟩:∃p,k1=p+1:=⟨k1 - 1,(xgh g5).symm⟩
     simp only[Nat.add_sub_cancel];have m6:=m5.pushB T elb u5;have ea:=(atA p g6).1;have ela:=(atA p g6).2.1;have mea:=(atA p g6).2.2;refine w_el eb (w_if (fun c9=>xbj (.inl (.mk sm4 (m6.firstB T (eq_of_beq c9))))) fun c9=>w_el ea ?_);rw[xfd] at c9;refine xbi (zgi O (sm4.kind.trans hk) mea (fun i hi=>⟨_,(atB (0+i) (by lia)).1,(atB (0+i) (by lia)).2.2⟩) (by lia) (upB q (xcz g4)) fun k2 cut2=>?_);have m7:=(m6.galB T ela (xcz g4) cut2).1;have u7:=(m6.galB T ela (xcz g4) cut2).2;have hk2:=cut2.1;dsimp only;refine zbch (fun d6=>?_) (fun d6 d7=>?_) (fun d6 d9=>?_) fun hh=>?_
     ·have z2:k2=q:=by lia
      subst z2;simp only[xhv (xbb (xfo _ _) (xbf _)),Array.reverse_empty,xhi]
     ·exact xbj (.inl (.mk sm4 (m7.firstB T (eq_of_beq d7))))
     ·exact xbj (.inl (.mk sm4 (m7.done T (.inr (eq_of_beq d9)))))
     have h20:2<=k2:=by
      by_cases d6:q - k2 > 0
      ·have:=hh d6;simp at this;lia
      ·lia
     have m8:=m7.pushA T ela u7;refine w_el ea (w_if (fun d8=>xbj (.inl (.mk sm4 (m8.done T (.inl (eq_of_beq d8)))))) fun d8=>?_);rw[xfd] at d8;have a3:1<=p:=xkk d8;have a4:p<=a.size:=xcz g6;have a5:k2<=b.size:=xbb hk2 (xcz g4);have a6:x'+1+p+k2<=na+nb:=by lia
     exact w_if (fun _=>xbj (.inr (.mk sm4 m8 a3 a4 h20 a5 (by lia)))) fun _=>xbj (.mk sm4 m8 a3 a4 h20 a5 a6)
    ·rintro c st3 ⟨sm3,m,g1,g2,g3,g4,hp⟩;exact .inr (.mk sm3 m g1 g2 g3 g4 (by lia))
    ·rintro c st3 (⟨sm3,f⟩ | @⟨na',nb',out,g',ac,bc,st3,sm3,m,g1,g2,g3,g4,hp⟩)
     ·exact xbj (.mk sm3 f)
     ·have h9:x+1+na'+nb' < a.size+b.size:=by lia
      exact xbi (zum fun st4 sg=>xbj (.mk (sm3.trans sg) m g1 g2 g3 g4 h9))
 ·rintro c st1 ⟨sm1,m,a1,a2,b1,b2,hx⟩;lia
 ·rintro c st1 ⟨sm1,f⟩;exact xbj (h _ st1 sm1 f)
end
theorem zse:∀(l:List Keyed) (n off:Nat) (xs:Array Keyed),off+n+l.length<=xs.size->∀i,((l.zipIdx n).foldl (fun a p=>a.setIfInBounds (off+p.2) p.1) xs)[i]?=if off+n<=i/\i < off+n+l.length then l[i - (off+n)]? else xs[i]?
 | [],n,off,xs,h,i=>by
  rw[if_neg (by simp)]
  rfl
 | x::l,n,off,xs,h,i=>by
  rw[List.zipIdx_cons,xir];rw[xcg] at h;have e1:off+(n+1)+l.length=off+n+(l.length+1):=Nat.succ_add_eq_add_succ (off+n) l.length;rw[zse l (n+1) off _ (by rw[Array.size_setIfInBounds];exact xbb (xdb e1) h) i];rw[xcg];by_cases c:off+(n+1)<=i/\i < off+(n+1)+l.length
  ·rw[if_pos c,if_pos ⟨xcz c.1,xfl c.2 e1⟩,show i - (off+n)=i - (off+(n+1))+1 from(xgh (xet c.1)).symm,xje]
  ·rw[if_neg c];by_cases c2:i=off+n
   ·rw[if_pos ⟨xdb c2.symm,xcn (xdb c2) (xhc (Nat.succ_pos _))⟩,c2,xhu,xjf];exact Array.getElem?_setIfInBounds_self_of_lt (xbg (xhc (Nat.succ_pos l.length)) h)
   ·rw[if_neg fun z=>c ⟨xcu z.1 (xgb c2),xfl z.2 e1.symm⟩];exact xjx (fun z=>c2 z.symm)
theorem zzc {m xs:Array Keyed}{off:Nat}(h:off+m.size<=xs.size):(m.toList.zipIdx.foldl (fun a p=>a.setIfInBounds (off+p.2) p.1) xs).toList=xs.toList.take off++m.toList++xs.toList.drop (off+m.size):=by
 apply xku;intro i;rw[xck,zse m.toList 0 off xs (by simpa using h) i];simp only[xkd,xcb];have l1:(xs.toList.take off).length=off:=by rw[xcy,xcb];exact xdt (xbb (xbu _ _) h)
 by_cases c:off<=i/\i < off+m.size
 ·rw[if_pos c,xcm,xcd (xbb (xdb l1) c.1),l1,xbs (by rw[xcb];exact xdf c.1 c.2)]
 ·rw[if_neg c];by_cases c2:i < off
  ·rw[xcm,xbs (xfl c2 l1.symm),List.getElem?_take,if_pos c2,xck]
  ·have h3:off+m.size<=i:=xbz fun z=>c ⟨xbz c2,z⟩
   rw[xcd (by rw[xbq,l1,xcb];exact h3),xfk];simp only[xbq,l1,xcb];rw[xce h3,xck]
section
variable {prog:Program}{w:World}{A:Around}{E:Value->Shared->Prop}{s:Shared}{κ:SortKind}{a₀:Array Keyed}{R:Keyed->Nat}
theorem zxl {xs:Array Keyed}{i j:Nat}(up:UpA R xs i j)(hj:j<=xs.size):Ord R (xs.extract i j).toList:=by
 rw[zcm];refine xiq.mpr fun p q hp hq hpq=>?_
 simp only[xcy,xed,xcb] at hp hq;simp only[List.getElem_take,List.getElem_drop,Array.getElem_toList];have:=up (i+p) (i+q) (xbu _ _) (xcc (xbr hpq) i) (xdi (xbg hq (xfo _ _)));rw[zea (getElem?_pos xs (i+p) (xdi (xbg hp (xia _ _)))),zea (getElem?_pos xs (i+q) (xdi (xbg hq (xia _ _))))] at this;exact this
theorem zkh {xs:Array Keyed}{i j:Nat}{x:Keyed}(h:x∈(xs.extract i j).toList):∃q,i<=q/\q < j/\xs[q]?=some x:=by
 rw[zcm] at h;obtain⟨q,hq,e⟩:=zbc h;rw[xfk,xck] at e;exact⟨i+q,xbu _ _,xdi hq,e⟩
theorem zber {xs:Array Keyed}{i j q:Nat}(h:q < j - i):(xs.extract i j).toList[q]?=xs[i+q]?:=by
 rw[zcm,List.getElem?_take,if_pos h,xfk,xck]
structure Mg (R:Keyed->Nat) (xs ys:Array Keyed) (lo hi:Nat):Prop where
 perm:ys.Perm xs
 out:Out ys xs lo hi
 up:UpA R ys lo hi
theorem zvu {xs m:Array Keyed}{sa sb ea k nb':Nat}{y0 xl:Keyed}(hsb:sb<=ea)(hea:ea<=xs.size)(hk:sa+k < sb)(hnb:sb+nb'<=ea)(hnb1:1<=nb')(upA:UpA R xs sa sb)(upB:UpA R xs sb ea)
  (e0:xs[sb]?=some y0)(el:xs[sb - 1]?=some xl)(c1:Cut false R y0 xs sa (sb - sa) k)(c2:Cut true R xl xs sb (ea - sb) nb')
  (f:Fin R (xs.extract (sa+k) sb).toList (xs.extract sb (sb+nb')).toList m):Mg R xs (m.toList.zipIdx.foldl (fun a p=>a.setIfInBounds (sa+k+p.2) p.1) xs) sa ea:=by
 have lx:(xs.extract (sa+k) sb).toList.length=sb - (sa+k):=by rw[zcm,xcy,xed,xcb];exact xdt (xer (xbb hsb hea) _)
 have ly:(xs.extract sb (sb+nb')).toList.length=nb':=by rw[zcm,xcy,xed,xcb,xcq];exact xdt (xea (xbb hnb hea))
 have lm:m.size=sb+nb' - (sa+k):=by
  have:=f.1.length_eq;rw[xbq,lx,ly,xcb] at this;exact this.trans (Nat.sub_add_comm (xbr hk)).symm
 have he:sa+k+m.size=sb+nb':=by rw[lm];exact xce (xbb (xbr hk) (xbu _ _))
 have hsz:sa+k+m.size<=xs.size:=by rw[he];exact xbb hnb hea
 have hs1:=xcx hk;have s1:sb - 1 < sb:=xhh (xjj hk) Nat.one_pos;have g:∀i,(m.toList.zipIdx.foldl (fun a p=>a.setIfInBounds (sa+k+p.2) p.1) xs)[i]?=if sa+k<=i/\i < sb+nb' then m.toList[i - (sa+k)]? else xs[i]?:=fun i=>by
  have:=zse m.toList 0 (sa+k) xs (by simpa using hsz) i;simp only[xkd,xcb] at this;rw[he] at this;exact this
 have mid:∀v∈m.toList,R y0<=R v/\R v<=R xl:=fun v hv=>by
  rcases xby.mp (f.1.mem_iff.mp hv) with hv | hv
  ·obtain⟨q,q1,q2,e⟩:=zkh hv;have q0:=xbb (xbu _ _) q1;have h1:=c1.2.2 (q - sa) (xea q1) (xds q0 q2);rw[xce q0,zea e] at h1;have h2:=upA q (sb - 1) q0 (xcx q2) s1;rw[zea e,zea el] at h2;have h1':R y0 < R v:=h1;exact⟨xbr h1',h2⟩
  ·obtain⟨q,q1,q2,e⟩:=zkh hv;have h1:=upB sb q (xbf _) q1 (xbg q2 hnb);rw[zea e,zea e0] at h1;have h2:=c2.2.1 (q - sb) (xdf q1 q2);rw[xce q1,zea e] at h2;have h2':R v < R xl:=h2;exact⟨h1,xbr h2'⟩
 have low:∀i,sa<=i->i < sa+k->kA R xs i<=R y0:=fun i a1 a2=>by
  have:=c1.2.1 (i - sa) (xdf a1 a2);rw[xce a1] at this;exact this
 have hig:∀i,sb+nb'<=i->i < ea->R xl<=kA R xs i:=fun i a1 a2=>by
  have i0:=xbb (xbu _ _) a1;have:=c2.2.2 (i - sb) (xea a1) (xds i0 a2);rw[xce i0] at this;exact this
 have kk:∀i,kA R (m.toList.zipIdx.foldl (fun a p=>a.setIfInBounds (sa+k+p.2) p.1) xs) i=if sa+k<=i/\i < sb+nb' then kA R m (i - (sa+k)) else kA R xs i:=fun i=>by
  have:=g i;split
  ·rename_i c;rw[if_pos c,xck] at this;exact zdu this
  ·rename_i c;rw[if_neg c] at this;exact zdu this
 have mm:∀i,i < m.size->∃v,m.toList[i]?=some v/\v∈m.toList:=fun i hi=>⟨m.toList[i]'(by simpa using hi),xbh _,xdm _⟩
 refine⟨?_,fun i hi=>?_,fun i j a1 a2 a3=>?_⟩
 ·refine xfc.mpr ?_;rw[zzc hsz,he];have split:xs.toList=xs.toList.take (sa+k)++((xs.extract (sa+k) sb).toList++(xs.extract sb (sb+nb')).toList)++xs.toList.drop (sb+nb'):=by
   rw[zcm,zcm];rw[xcq]
   conv=>lhs;rw[← xfj (sa+k) xs.toList,← xfj (sb - (sa+k)) (xs.toList.drop (sa+k)),xlh,xce (xbr hk),← xfj nb' (xs.toList.drop sb),xlh]
   simp only[xcm]
  conv=>rhs;rw[split]
  exact xho _ (xgk _ f.1)
 ·rw[g i,if_neg fun z=>hi.elim (fun h=>xdx (xbb (xbu sa k) z.1) h) fun h=>xdx h (xbg z.2 hnb)]
 ·rw[kk,kk];by_cases ci:sa+k<=i/\i < sb+nb'
  ·rw[if_pos ci];obtain⟨v,ev,mv⟩:=mm (i - (sa+k)) (by rw[lm];exact xds ci.1 ci.2);rw[zcf ev];by_cases cj:sa+k<=j/\j < sb+nb'
   ·rw[if_pos cj];obtain⟨u,eu,mu⟩:=mm (j - (sa+k)) (by rw[lm];exact xds cj.1 cj.2);rw[zcf eu];exact f.2.at ev eu (xer a2 _)
   ·rw[if_neg cj];exact xbb (mid v mv).2 (hig j (xbz fun z=>cj ⟨xbb ci.1 a2,z⟩) a3)
  ·rw[if_neg ci];by_cases ci2:i < sa+k
   ·have h1:=low i a1 ci2;by_cases cj:sa+k<=j/\j < sb+nb'
    ·rw[if_pos cj];obtain⟨u,eu,mu⟩:=mm (j - (sa+k)) (by rw[lm];exact xds cj.1 cj.2);rw[zcf eu];exact xbb h1 (mid u mu).1
    ·rw[if_neg cj];by_cases cj2:j < sa+k
     ·exact upA i j a1 a2 (xht cj2 hk)
     ·have h2:=hig j (xbz fun z=>cj ⟨xbz cj2,z⟩) a3;have h3:R y0<=R xl:=by
       have s0:=xbb (xbu _ _) hs1;have h4:=c1.2.2 (sb - 1 - sa) (xea hs1) (xds s0 s1);rw[xce s0,zea el] at h4;exact xbr h4
      exact xbb h1 (xbb h3 h2)
   ·have hi2:sb+nb'<=i:=xbz fun z=>ci ⟨xbz ci2,z⟩
    rw[if_neg fun z=>xdx (xbb hi2 a2) z.2];exact upB i j (xbb (xbu _ _) hi2) a2 a3
end
section
variable {prog:Program}{w:World}{A:Around}{E:Value->Shared->Prop}{s:Shared}{κ:SortKind}{a₀:Array Keyed}{R:Keyed->Nat}
theorem zblw {x st:SortSt}{Q:Unit->SortSt->Prop}(h:Q () x):wpS (model prog w) A E s (set x:StateT SortSt Sem PUnit) Q st:=by
 unfold wpS;rw[StateT.run_set];exact xbd ⟨rfl,h⟩
theorem zuq {i sa na pw sb nb pw':Nat}{st:SortSt}{Q:Bool->SortSt->Prop}(O:Orc prog w A s κ a₀ R)(b:B κ a₀ st)(p1:(pendingOf st)[i]?=some (sa,na,pw))(p2:(pendingOf st)[i+1]?=some (sb,nb,pw'))(hsb:sb=sa+na)(hna:1<=na)(hnb:1<=nb)(hz:sb+nb<=a₀.size)
  (upA:UpA R (arrOf st) sa sb)(upB:UpA R (arrOf st) sb (sb+nb))
  (h:∀st',B κ a₀ st'->pendingOf st'=((pendingOf st).setIfInBounds i (sa,na+nb,pw)).eraseIdxIfInBounds (i+1)->Out (arrOf st') (arrOf st) sa (sb+nb)->UpA R (arrOf st') sa (sb+nb)->Q true st'):wpS (model prog w) A E s (mergeAt' i) Q st:=by
 have hsz:=b.size;have bs:sb < a₀.size:=xbg (xhc hnb) hz;refine xbi (xhe ?_);dsimp only;have q1:(sortPriv% PySem.Builtin.SortState.pending) st=pendingOf st:=rfl;rw[q1,p1,p2];dsimp only;refine xbi (zblw ?_);obtain⟨y0,e0,my0⟩:=b.mem (i:=sb) bs;have inA:∀q,q < a₀.size->∃x,(arrOf st)[q]?=some x/\x∈a₀.toList:=fun q hq=>b.mem hq
 refine xbi (zlq e0 ?_);refine xbi (zgi O b.kind my0 (fun q hq=>inA (sa+q) (xht (xfl (xdo hq sa) hsb.symm) bs)) hna (by rw[← hsb];exact upA) fun k c1=>?_);dsimp only;have hk:=c1.1;have c1':Cut false R y0 (arrOf st) sa (sb - sa) k:=by rw[show sb - sa=na from by rw[hsb,xcq]];exact c1
 by_cases d1:na - k=0
 ·rw[if_pos (by simpa using d1)];refine xbj (h _ ⟨b.perm,b.kind,b.failed⟩ rfl (Out.refl _ _ _) fun p q a1 a2 a3=>?_);by_cases z1:q < sb
  ·exact upA p q a1 a2 z1
  ·by_cases z2:p < sb
   ·have h1:=c1.2.1 (p - sa) (xbg (xdf a1 (xfl z2 hsb)) (Nat.le_of_sub_eq_zero d1));rw[xce a1] at h1;have h2:=upB sb q (xbf _) (xbz z1) a3;rw[zea e0] at h2;exact xbb h1 h2
   ·exact upB p q (xbz z2) a2 a3
 ·rw[if_neg (by simpa using d1)];have hk2:sa+k < sb:=xfl (xdo (xfe fun z=>d1 (Nat.sub_eq_zero_of_le z)) sa) hsb.symm;have s1:sb - 1 < sb:=xhh (xjj hk2) Nat.one_pos;obtain⟨xl,el,mxl⟩:=inA (sb - 1) (xht s1 bs);have el':(arrOf st)[sa+k+(na - k) - 1]?=some xl:=by rw[Nat.add_assoc,xce hk,← hsb];exact el
  refine xbi (zlq el' ?_);refine xbi (zgi O b.kind mxl (fun q hq=>inA (sb+q) (xbg (xdo hq sb) hz)) (xhh hnb Nat.one_pos) upB fun nb' c2=>?_);dsimp only;have hn2:=c2.1;have c2':Cut true R xl (arrOf st) sb (sb+nb - sb) nb':=by rw[xcq];exact c2
  by_cases d2:nb'=0
  ·rw[if_pos (by simpa using d2)];refine xbj (h _ ⟨b.perm,b.kind,b.failed⟩ rfl (Out.refl _ _ _) fun p q a1 a2 a3=>?_);subst d2;by_cases z1:q < sb
   ·exact upA p q a1 a2 z1
   ·by_cases z2:p < sb
    ·have h1:=upA p (sb - 1) a1 (xcx z2) s1;rw[zea el] at h1;have h2:=c2.2.2 (q - sb) (xec _) (xdf (xbz z1) a3);rw[xce (xbz z1)] at h2;exact xbb h1 h2
    ·exact upB p q (xbz z2) a2 a3
  ·rw[if_neg (by simpa using d2)];have hn1:1<=nb':=xkk d2;have hez:sb<=(arrOf st).size:=by rw[hsz];exact xbr bs
   have hbz:sb+nb<=(arrOf st).size:=by rw[hsz];exact hz
   have hb2:sb+nb'<=sb+nb:=xcc hn2 sb;have oa:Ord R ((arrOf st).extract (sa+k) sb).toList:=zxl (fun p q a1 a2 a3=>upA p q (xbb (xbu _ _) a1) a2 a3) hez;have ob:Ord R ((arrOf st).extract sb (sb+nb')).toList:=zxl (fun p q a1 a2 a3=>upB p q a1 a2 (xbg a3 hb2)) (xbb hb2 hbz);have ma:∀x∈((arrOf st).extract (sa+k) sb).toList,x∈a₀.toList:=fun x hx=>by
    obtain⟨q,q1,q2,e⟩:=zkh hx;obtain⟨x',e',m'⟩:=inA q (xht q2 bs);rw[e] at e';cases e';exact m'
   have mb:∀x∈((arrOf st).extract sb (sb+nb')).toList,x∈a₀.toList:=fun x hx=>by
    obtain⟨q,q1,q2,e⟩:=zkh hx;obtain⟨x',e',m'⟩:=inA q (xbg q2 (xbb hb2 hz));rw[e] at e';cases e';exact m'
   have sx:((arrOf st).extract (sa+k) sb).size=sb - (sa+k):=by rw[Array.size_extract,xdt hez]
   have sy:((arrOf st).extract sb (sb+nb')).size=nb':=by rw[Array.size_extract,xdt (xbb hb2 hbz),xcq]
   have fst:∀y,((arrOf st).extract sb (sb+nb')).toList[0]?=some y->∀x∈((arrOf st).extract (sa+k) sb).toList,R y<=R x:=fun y hy x hx=>by
    rw[zber (by rw[xcq];exact hn1),xkd,e0] at hy;cases hy;obtain⟨q,q1,q2,e⟩:=zkh hx;have q0:=xbb (xbu _ _) q1;have:=c1.2.2 (q - sa) (xea q1) (xdf q0 (xfl q2 hsb));rw[xce q0,zea e] at this;exact xbr this
   have lst:∀x,((arrOf st).extract (sa+k) sb).toList[sb - (sa+k) - 1]?=some x->∀y∈((arrOf st).extract sb (sb+nb')).toList,R y<=R x:=fun x hx y hy=>by
    rw[zber (xhh (xet hk2) Nat.one_pos),show sa+k+(sb - (sa+k) - 1)=sb - 1 from by rw[← Nat.add_sub_assoc (xet hk2),xce (xbr hk2)],el] at hx;cases hx;obtain⟨q,q1,q2,e⟩:=zkh hy;have:=c2.2.1 (q - sb) (xdf q1 q2);rw[xce q1,zea e] at this;exact xbr this
   have post:∀m st2,SmG st st2\/True->Fin R ((arrOf st).extract (sa+k) sb).toList ((arrOf st).extract sb (sb+nb')).toList m->Mg R (arrOf st) (m.toList.zipIdx.foldl (fun a p=>a.setIfInBounds (sa+k+p.2) p.1) (arrOf st)) sa (sb+nb):=fun m _ _ f =>
    zvu (xbu _ _) hbz hk2 hb2 hn1 upA upB e0 el c1' c2' f
   by_cases d3:na - k<=nb'
   ·rw[if_pos d3];refine xbi (zuo O b.kind ma mb ⟨oa,ob,fun x hx=>lst x (by rw[xcb,sx] at hx;exact hx)⟩ (by show 1<=((arrOf st).extract (sa+k) sb).size;rw[sx];exact xet hk2) (by show 1<=((arrOf st).extract sb (sb+nb')).size;rw[sy];exact hn1) fst fun m st2 sg f=>?_);have mg:=post m st2 (.inr trivial) f;refine xbi (xgg (xbi (xhe ?_)));have a2:arrOf st2=arrOf st:=sg.arr;have f2:failedOf st2=none:=sg.failed.trans b.failed;refine xbj (?_:Q ((failedOf st2).isNone) (setArr st2 (m.toList.zipIdx.foldl (fun a p=>a.setIfInBounds (sa+k+p.2) p.1) (arrOf st2))));rw[f2,a2];exact h _ ⟨mg.perm.trans b.perm,sg.kind.trans b.kind,f2⟩ sg.pend mg.out mg.up
   ·rw[if_neg d3];refine xbi (zup O b.kind ma mb ⟨oa,ob,fst⟩ (by show 1<=((arrOf st).extract (sa+k) sb).size;rw[sx];exact xet hk2) (by show 1<=((arrOf st).extract sb (sb+nb')).size;rw[sy];exact hn1) (fun x hx=>lst x (by rw[sx] at hx;exact hx)) fun m st2 sg f=>?_);have mg:=post m st2 (.inr trivial) f;refine xbi (xgg (xbi (xhe ?_)));have a2:arrOf st2=arrOf st:=sg.arr;have f2:failedOf st2=none:=sg.failed.trans b.failed;refine xbj (?_:Q ((failedOf st2).isNone) (setArr st2 (m.toList.zipIdx.foldl (fun a p=>a.setIfInBounds (sa+k+p.2) p.1) (arrOf st2))));rw[f2,a2];exact h _ ⟨mg.perm.trans b.perm,sg.kind.trans b.kind,f2⟩ sg.pend mg.out mg.up
end
noncomputable def Segs (R:Keyed->Nat) (xs:Array Keyed):Nat->List (Nat×Nat×Nat)->Nat->Prop
 | s,[],e=>s=e
 | s,p::r,e=>p.1=s/\1<=p.2.1/\UpA R xs s (s+p.2.1)/\Segs R xs (s+p.2.1) r e
section
variable {R:Keyed->Nat}{xs ys:Array Keyed}
theorem Segs.le:∀{l:List (Nat×Nat×Nat)} {s e:Nat},Segs R xs s l e->s+l.length<=e
 | [],s,e,h=>by cases h;simp
 | p::r,s,e,h=>by
  have:=Segs.le h.2.2.2;have:=h.2.1;simp;lia
theorem Segs.append:∀{l m:List (Nat×Nat×Nat)} {s e:Nat},Segs R xs s (l++m) e↔∃k,Segs R xs s l k/\Segs R xs k m e
 | [],m,s,e=>⟨fun h=>⟨s,rfl,h⟩,fun⟨k,h1,h2⟩=>by cases h1;exact h2⟩
 | p::r,m,s,e=>by
  constructor
  ·rintro⟨h1,h2,h3,h4⟩;obtain⟨k,g1,g2⟩:=Segs.append.mp h4;exact⟨k,⟨h1,h2,h3,g1⟩,g2⟩
  ·rintro⟨k,⟨h1,h2,h3,h4⟩,g2⟩;exact⟨h1,h2,h3,Segs.append.mpr ⟨k,h4,g2⟩⟩
theorem UpA.same {a b:Nat}(h:UpA R xs a b)(e:∀i,a<=i->i < b->ys[i]?=xs[i]?):UpA R ys a b:=fun i j a1 a2 a3=>by
 rw[zdu (e i a1 (xcn a2 a3)),zdu (e j (xbb a1 a2) a3)];exact h i j a1 a2 a3
theorem Segs.same:∀{l:List (Nat×Nat×Nat)} {s e:Nat},Segs R xs s l e->(∀i,s<=i->i < e->ys[i]?=xs[i]?)->Segs R ys s l e
 | [],s,e,h,_=>h
 | p::r,s,e,h,k=>by
  have:=Segs.le h.2.2.2;exact⟨h.1,h.2.1,h.2.2.1.same fun i a1 a2=>k i a1 (xbg a2 (xbb (xbu _ _) this)),Segs.same h.2.2.2 fun i a1 a2=>k i (xbb (xbu _ _) a1) a2⟩
theorem Segs.power {s e:Nat}:∀{l m:List (Nat×Nat×Nat)},l.map (fun p=>(p.1,p.2.1))=m.map (fun p=>(p.1,p.2.1))->Segs R xs s l e->Segs R xs s m e:=by
 intro l
 induction l generalizing s with
 | nil=>intro m h k;cases m with
  | nil=>exact k
  | cons=>cases h
 | cons p r ih=>intro m h k;cases m with
  | nil=>cases h
  | cons q t =>
   rw[xbp,xbp] at h;obtain⟨h1,h2⟩:=List.cons.inj h;obtain⟨g1,g2⟩:=Prod.mk.inj h1;obtain⟨k1,k2,k3,k4⟩:=k;rw[g2] at k2 k3 k4;exact⟨g1.symm.trans k1,k2,k3,ih h2 k4⟩
end
section
variable {prog:Program}{w:World}{A:Around}{E:Value->Shared->Prop}{s:Shared}{κ:SortKind}{a₀:Array Keyed}{R:Keyed->Nat}
theorem zbab {l:List (Nat×Nat×Nat)}{i:Nat}(h:i+1 < l.length):∃pre p q post,l=pre++p::q::post/\pre.length=i:=by
 refine⟨l.take i,l[i],l[i+1],l.drop (i+2),?_,by rw[xcy];exact xdt (xbr (xef h))⟩
 conv=>lhs;rw[← xfj i l,xej (xef h),xej h]
theorem w_at {i e:Nat}{st:SortSt}{Q:Bool->SortSt->Prop}(O:Orc prog w A s κ a₀ R)(b:B κ a₀ st)(sg:Segs R (arrOf st) 0 (pendingOf st).toList e)(he:e<=a₀.size)(hi:i+1 < (pendingOf st).size)
  (h:∀st',B κ a₀ st'->Segs R (arrOf st') 0 (pendingOf st').toList e->(pendingOf st').size+1=(pendingOf st).size->(∀k,e<=k->(arrOf st')[k]?=(arrOf st)[k]?)->Q true st'):wpS (model prog w) A E s (mergeAt' i) Q st:=by
 obtain⟨pre,p,q,post,el,hl⟩:=zbab (l:=(pendingOf st).toList) (i:=i) (by simpa using hi);obtain⟨sa,na,pw⟩:=p;obtain⟨sb,nb,pw'⟩:=q;rw[el] at sg;obtain⟨k,g1,g2⟩:=Segs.append.mp sg;obtain⟨h1,h2,h3,h4,h5,h6,h7⟩:=g2;dsimp only at h1 h2 h3 h4 h5 h6 h7;subst h1;have l7:=Segs.le h7;have l1:=Segs.le g1;have p1:(pendingOf st)[i]?=some (sa,na,pw):=by rw[← xck,el,xcd (xdb hl),hl,xhu];rfl
 have p2:(pendingOf st)[i+1]?=some (sb,nb,pw'):=by rw[← xck,el,xcd (xbb (xdb hl) (xbu i 1)),hl,xcq];rfl
 refine zuq O b p1 p2 h4 h2 h5 (by lia) (by rw[h4];exact h3) (by rw[h4];exact h6) fun st' b' pe ou up=>?_
 have pl:(pendingOf st').toList=pre++(sa,na+nb,pw)::post:=by
  rw[pe];rw[Array.toList_eraseIdxIfInBounds,Array.toList_setIfInBounds,el];rw[List.set_append_right _ _ (xdb hl),hl,xhu,List.set_cons_zero,List.eraseIdx_append_of_length_le (xbb (xdb hl) (xbu i 1)),hl,xcq]
  rfl
 have keep:∀j,j < sa\/sb+nb<=j->(arrOf st')[j]?=(arrOf st)[j]?:=ou
 refine h st' b' ?_ ?_ fun j hj=>keep j (.inr (by lia))
 ·rw[pl];refine Segs.append.mpr ⟨sa,g1.same fun j a1 a2=>keep j (.inl a2),rfl,by show 1<=na+nb;lia,?_,?_⟩
  ·show UpA R (arrOf st') sa (sa+(na+nb));rw[show sa+(na+nb)=sb+nb by lia];exact up
  ·show Segs R (arrOf st') (sa+(na+nb)) post e;rw[show sa+(na+nb)=sa+na+nb by lia];exact h7.same fun j a1 a2=>keep j (.inr (by lia))
 ·have e1:(pendingOf st').size=(pendingOf st').toList.length:=by simp
  have e2:(pendingOf st).size=(pendingOf st).toList.length:=by simp
  rw[e1,e2,pl,el];simp only[xbq,xcg];lia
theorem zbir {c:Prop}[Decidable c]{a b n:Nat}(h1:a+1 < n)(h2:b+1 < n):(if c then a else b)+1 < n:=by split<;>assumption
theorem zxn {g:Nat×Nat×Nat->Nat×Nat}{f:Nat×Nat×Nat->Nat×Nat×Nat}(h:∀x,g (f x)=g x):∀(l:List (Nat×Nat×Nat)) (i:Nat),(l.modify i f).map g=l.map g
 | [],i=>by simp
 | x::l,0=>by simp[h]
 | x::l,i+1=>by simp[zxn h l i]
theorem Segs.mod {xs:Array Keyed}{s e:Nat}{l:List (Nat×Nat×Nat)}(h:Segs R xs s l e)(i c:Nat):Segs R xs s (l.modify i fun x=>(x.1,x.2.1,c)) e :=
 h.power (zxn (g:=fun p=>(p.1,p.2.1)) (f:=fun x=>(x.1,x.2.1,c)) (fun _=>rfl) l i).symm
theorem zbgx {st:SortSt}{Q:Unit->SortSt->Prop}(O:Orc prog w A s κ a₀ R)(b:B κ a₀ st)(pe:pendingOf st=#[])(h2:2<=a₀.size)
  (h:∀st',B κ a₀ st'->UpA R (arrOf st') 0 a₀.size->Q () st'):wpS (model prog w) A E s sortRuns' Q st:=by
 have hz:=b.size;rw[sortRuns'_eq];refine xbi (xhe ?_);dsimp only;rw[hz]
 refine xbi (xep (xde (I:=fun x c st'=>∃lo,c=(none,lo)/\B κ a₀ st'/\Segs R (arrOf st') 0 (pendingOf st').toList lo/\lo<=a₀.size/\x<=lo)
  (Q:=fun c st'=>c=(none,a₀.size)/\B κ a₀ st'/\Segs R (arrOf st') 0 (pendingOf st').toList a₀.size) ?_ ?_ ⟨0,rfl,b,by rw[pe];rfl,by lia,by lia⟩) ?_)
 ·rintro x c st1 x1 x2 ⟨lo,rfl,b1,sg1,hlo,hx⟩;dsimp only;by_cases c1:lo ≥ a₀.size
  ·rw[if_pos c1];have:lo=a₀.size:=by lia
   subst this;exact xbj ⟨rfl,b1,sg1⟩
  rw[if_neg c1];refine xbi (zbci O b1 (by lia) (by lia) fun m st2 m1 m2 b2 sm2 up2=>?_);dsimp only;have sg2:Segs R (arrOf st2) 0 (pendingOf st2).toList lo:=by
   rw[sm2.pend];exact sg1.same fun i a1 a2=>sm2.out i (.inl a2)
  by_cases c2:m < minRun' a₀.size a₀.size 0
  ·rw[if_pos c2];refine xbi (xjs (xhn ⟨rfl,?_⟩));refine xbi (zblx O b2 (by lia) m1 (by lia) up2 fun st3 b3 sm3 up3=>?_);have sg3:Segs R (arrOf st3) 0 (pendingOf st3).toList lo:=by
    rw[sm3.pend];exact sg2.same fun i a1 a2=>sm3.out i (.inl a2)
   have hn1:1<=min (a₀.size - lo) (minRun' a₀.size a₀.size 0):=by lia
   have hn2:lo+min (a₀.size - lo) (minRun' a₀.size a₀.size 0)<=a₀.size:=by lia
   simp only[xkq,xct,xeo];generalize min (a₀.size - lo) (minRun' a₀.size a₀.size 0)=n at up3 hn1 hn2 sm3 ⊢;refine xbi (xhe ?_);cases hb:(pendingOf st3).back? with
   | none =>
    dsimp only;refine xbi (xgg (xbj ⟨lo+n,rfl,⟨b3.perm,b3.kind,b3.failed⟩,?_,hn2,by lia⟩));show Segs R (arrOf st3) 0 ((pendingOf st3).push (lo,n,0)).toList (lo+n);rw[xev];exact Segs.append.mpr ⟨lo,sg3,rfl,hn1,up3,rfl⟩
   | some p =>
    obtain⟨s1,n1,p1⟩:=p;dsimp only;refine xbi (xep (xde (I:=fun _ c st'=>c=(none,())/\B κ a₀ st'/\Segs R (arrOf st') 0 (pendingOf st').toList lo/\UpA R (arrOf st') lo (lo+n)) (Q:=fun c st'=>c=(none,())/\B κ a₀ st'/\Segs R (arrOf st') 0 (pendingOf st').toList lo/\UpA R (arrOf st') lo (lo+n)) ?_ (fun _ _ hh=>hh) ⟨rfl,b3,sg3,up3⟩) ?_)
    ·rintro x' c st4 _ _ ⟨rfl,b4,sg4,up4⟩;refine xbi (xhe ?_);by_cases hs:(pendingOf st4).size > 1
     ·rw[if_pos hs,getElem?_pos (pendingOf st4) ((pendingOf st4).size - 2) (by lia)];obtain⟨s2,n2,p2⟩:=(pendingOf st4)[(pendingOf st4).size - 2]'(by lia);dsimp only;split
      ·exact xbj ⟨rfl,b4,sg4,up4⟩
      ·refine xbi (w_at O b4 sg4 hlo (by lia) fun st5 b5 sg5 _ k5=>?_);exact xbj ⟨rfl,b5,sg5,up4.same fun i a1 a2=>k5 i a1⟩
     ·rw[if_neg hs];exact xbj ⟨rfl,b4,sg4,up4⟩
    ·rintro c st4 ⟨rfl,b4,sg4,up4⟩;dsimp only;refine xbi (xgg (xbi (xgg (xbj ⟨lo+n,rfl,⟨b4.perm,b4.kind,b4.failed⟩,?_,hn2,by lia⟩))));refine(?_:Segs R (arrOf st4) 0 (((pendingOf st4).modify ((pendingOf st4).size - 1) fun x=>(x.1,x.2.1,_)).push (lo,n,0)).toList (lo+n));rw[xev,Array.toList_modify];exact Segs.append.mpr ⟨lo,sg4.mod _ _,rfl,hn1,up4,rfl⟩
  ·rw[if_neg c2];have b3:=b2;have sg3:=sg2;have up3:=up2;have hn1:=m1;have hn2:lo+m<=a₀.size:=by lia
   generalize st2=st3 at b3 sg3 up3 ⊢;generalize m=n at up3 hn1 hn2 ⊢;refine xbi (xhe ?_);cases hb:(pendingOf st3).back? with
   | none =>
    dsimp only;refine xbi (xgg (xbj ⟨lo+n,rfl,⟨b3.perm,b3.kind,b3.failed⟩,?_,hn2,by lia⟩));show Segs R (arrOf st3) 0 ((pendingOf st3).push (lo,n,0)).toList (lo+n);rw[xev];exact Segs.append.mpr ⟨lo,sg3,rfl,hn1,up3,rfl⟩
   | some p =>
    obtain⟨s1,n1,p1⟩:=p;dsimp only;refine xbi (xep (xde (I:=fun _ c st'=>c=(none,())/\B κ a₀ st'/\Segs R (arrOf st') 0 (pendingOf st').toList lo/\UpA R (arrOf st') lo (lo+n)) (Q:=fun c st'=>c=(none,())/\B κ a₀ st'/\Segs R (arrOf st') 0 (pendingOf st').toList lo/\UpA R (arrOf st') lo (lo+n)) ?_ (fun _ _ hh=>hh) ⟨rfl,b3,sg3,up3⟩) ?_)
    ·rintro x' c st4 _ _ ⟨rfl,b4,sg4,up4⟩;refine xbi (xhe ?_);by_cases hs:(pendingOf st4).size > 1
     ·rw[if_pos hs,getElem?_pos (pendingOf st4) ((pendingOf st4).size - 2) (by lia)];obtain⟨s2,n2,p2⟩:=(pendingOf st4)[(pendingOf st4).size - 2]'(by lia);dsimp only;split
      ·exact xbj ⟨rfl,b4,sg4,up4⟩
      ·refine xbi (w_at O b4 sg4 hlo (by lia) fun st5 b5 sg5 _ k5=>?_);exact xbj ⟨rfl,b5,sg5,up4.same fun i a1 a2=>k5 i a1⟩
     ·rw[if_neg hs];exact xbj ⟨rfl,b4,sg4,up4⟩
    ·rintro c st4 ⟨rfl,b4,sg4,up4⟩;dsimp only;refine xbi (xgg (xbi (xgg (xbj ⟨lo+n,rfl,⟨b4.perm,b4.kind,b4.failed⟩,?_,hn2,by lia⟩))));refine(?_:Segs R (arrOf st4) 0 (((pendingOf st4).modify ((pendingOf st4).size - 1) fun x=>(x.1,x.2.1,_)).push (lo,n,0)).toList (lo+n));rw[xev,Array.toList_modify];exact Segs.append.mpr ⟨lo,sg4.mod _ _,rfl,hn1,up4,rfl⟩
 ·rintro c st1 ⟨lo,rfl,b1,sg1,hlo,hx⟩;have:lo=a₀.size:=by lia
  subst this;exact⟨rfl,b1,sg1⟩
 ·rintro c st1 ⟨rfl,b1,sg1⟩;dsimp only
  refine xbi (xep (xde (I:=fun x c st'=>c=(none,())/\B κ a₀ st'/\Segs R (arrOf st') 0 (pendingOf st').toList a₀.size/\(pendingOf st').size+x<=a₀.size)
   (Q:=fun c st'=>c=(none,())/\B κ a₀ st'/\Segs R (arrOf st') 0 (pendingOf st').toList a₀.size/\(pendingOf st').size<=1) ?_ ?_ ⟨rfl,b1,sg1,by have:=sg1.le;simp at this;lia⟩) ?_)
  ·rintro x c st2 x1 x2 ⟨rfl,b2,sg2,hp⟩;refine xbi (xhe ?_);by_cases c1:(pendingOf st2).size<=1
   ·rw[if_pos c1];exact xbj ⟨rfl,b2,sg2,c1⟩
   rw[if_neg c1];refine xbi (w_at O b2 sg2 (xbf _) ?_ fun st3 b3 sg3 p3 _=>xbj ⟨rfl,b3,sg3,by lia⟩);exact zbir (by lia) (by lia)
  ·rintro c st2 ⟨rfl,b2,sg2,hp⟩;exact⟨rfl,b2,sg2,by lia⟩
  ·rintro c st2 ⟨rfl,b2,sg2,hp⟩;refine xbj (h st2 b2 ?_);cases hl:(pendingOf st2).toList with
   | nil=>rw[hl] at sg2;have:0=a₀.size:=sg2;lia
   | cons p r =>
    have:r=[]:=by
     have e2:(pendingOf st2).size=(pendingOf st2).toList.length:=by simp
     rw[e2,hl,xcg] at hp;exact List.length_eq_zero_iff.mp (by lia)
    subst this;rw[hl] at sg2;obtain⟨_,_,g3,g4⟩:=sg2;have g4':0+p.2.1=a₀.size:=g4;rw[g4'] at g3;exact g3
end
end TS
namespace Srt
open PySem PySem.W PyProof.Rows
theorem zqo {α β:Type}(f:α->β):∀{l m':List β},l.Perm m'->∀m:List α,m'=m.map f->∃p:List α,p.Perm m/\l=p.map f:=by
 intro l m' h
 induction h with
 | nil=>exact fun m e=>⟨[],by rw[List.map_eq_nil_iff.mp e.symm],rfl⟩
 | cons x _ ih =>
  intro m e;cases m with
  | nil=>cases e
  | cons y m =>
   rw[xbp] at e;injection e with e1 e2
   obtain⟨p,p1,p2⟩:=ih m e2;exact⟨y::p,p1.cons y,by rw[xbp,← p2,e1]⟩
 | swap x y l =>
  intro m e
  match m,e with
  | a::b::m,e =>
   rw[xbp,xbp] at e;injection e with e1 e2
   injection e2 with e2 e3
   exact⟨b::a::m,.swap _ _ _,by rw[xbp,xbp,e1,e2,e3]⟩
 | trans _ _ ih1 ih2 =>
  intro m e;obtain⟨p,p1,p2⟩:=ih2 m e;obtain⟨q,q1,q2⟩:=ih1 p p2;exact⟨q,q1.trans p1,q2⟩
noncomputable def Coh (r:Nat->Nat) (xs:List Value):Prop:=∀i j,i < xs.length->j < xs.length->xs.getD i Value.none=xs.getD j Value.none->r i=r j
open Classical in
noncomputable def rankV (r:Nat->Nat) (xs:List Value) (x:Keyed):Nat:=if h:∃i,i < xs.length/\xs.getD i Value.none=x.1 then r h.choose else 0
theorem znh {r:Nat->Nat}{xs:List Value}(coh:Coh r xs){x:Keyed}{i:Nat}(hi:i < xs.length)(e:xs.getD i Value.none=x.1):rankV r xs x=r i:=by
 have h:∃i,i < xs.length/\xs.getD i Value.none=x.1:=⟨i,hi,e⟩
 unfold rankV;rw[dif_pos h];exact coh _ _ h.choose_spec.1 hi (h.choose_spec.2.trans e.symm)
theorem zri (xs:List Value):(xs.toArray.zip xs.toArray).toList=(List.range xs.length).map fun i=>((xs.getD i Value.none,xs.getD i Value.none):Keyed):=by
 rw[Array.toList_zip];apply List.ext_getElem
 ·simp
 ·intro i h1 h2;have h3:i < xs.length:=by simpa using h2
  simp[xbo,h3]
section
variable {P:Program}{w:World}{B:Around}{E:Value->Shared->Prop}{st:Shared}
theorem zbaa {r:Nat->Nat}{xs:List Value}{κ:SortKind}{sg:Shared}(h2:2<=xs.length)(coh:Coh r xs)
  (cmp:∀i j C,i < xs.length->j < xs.length->C (lt r i j) sg->kas_ask P w B κ xs i j C sg) :
  wpAny (model P w) B ((sortRuns').run (SortSt.mk' κ (xs.toArray.zip xs.toArray) #[] 7 none)) (fun y z=>∃p:Array Nat,(p.Perm (List.toArray (List.range xs.length))/\Up r p xs.length)/\(arrOf y.2).map (·.2)=outOf xs p/\failedOf y.2=none/\z=sg) E sg:=by
 have sz:(xs.toArray.zip xs.toArray).size=xs.length:=by simp
 have O:TS.Orc P w B sg κ (xs.toArray.zip xs.toArray) (rankV r xs):=fun x hx y hy C hC=>by
  rw[zri] at hx hy;obtain⟨i,hi,rfl⟩:=xdj.mp hx;obtain⟨j,hj,rfl⟩:=xdj.mp hy;rw[xdz] at hi hj;rw[znh coh hi rfl,znh coh hj rfl] at hC;exact cmp i j C hi hj hC
 have run:=TS.zbgx (E:=E) (Q:=fun _ y=>∃p:Array Nat,(p.Perm (List.toArray (List.range xs.length))/\Up r p xs.length)/\(arrOf y).map (·.2)=outOf xs p/\failedOf y=none) O (st:=SortSt.mk' κ (xs.toArray.zip xs.toArray) #[] 7 none) ⟨.refl _,rfl,rfl⟩ rfl (by rw[sz];exact h2) fun y b up=>by
  obtain⟨l,l1,l2⟩:=zqo (fun i=>((xs.getD i Value.none,xs.getD i Value.none):Keyed)) (xfc.mp b.perm) _ (zri xs);have ll:l.length=xs.length:=by rw[l1.length_eq,xkv]
  have mem:∀k,(hk:k < l.length)->l[k] < xs.length:=fun k hk=>xdz.mp (l1.mem_iff.mp (xdm hk))
  have key:∀k,k < xs.length->TS.kA (rankV r xs) (arrOf y) k=At r l.toArray k:=fun k hk=>by
   have hk':k < l.length:=by lia
   have e:(arrOf y)[k]?=some (xs.getD l[k] Value.none,xs.getD l[k] Value.none):=by
    rw[← xck,l2,xcl,xbh hk']
    rfl
   rw[TS.zea e,znh coh (mem k hk') rfl];unfold At;simp[hk']
  refine⟨l.toArray,⟨?_,fun i j hij hj=>?_⟩,?_,b.failed⟩
  ·exact xfc.mpr (by simpa using l1)
  ·rw[← key i (by lia),← key j hj];exact up i j (xec _) hij (by rw[sz];exact hj)
  ·unfold outOf;apply Array.toList_inj.mp;rw[Array.toList_map,l2,xez]
   rfl
 exact xdd run (fun y z hz=>by
  obtain⟨rfl,p,a,b,c⟩:=hz
  exact⟨p,a,b,c,rfl⟩) fun _ _ x=>x
theorem zlt (r:Nat->Nat){d:Addr}{xs:List Value}{k:Nat}{W:Fin->Shared->Prop}(e0:st.heap.get? d=some (seqObj "list" xs.toArray k))(few:xs.length<=sizeLine)(coh:Coh r xs)
  (ask:2<=xs.length->Answers P w B r xs {st with heap:=midHeap st.heap d xs})
  (fin:∀p:Array Nat,p.Perm (List.toArray (List.range xs.length))->Up r p xs.length->W (.done (.ret .none)) {st with heap:=sortedHeap st.heap d xs (outOf xs p)}) :
  wpAny (model P w) B (Builtin.«list.sort» ⟨[.ref d],[]⟩) W E st:=by
 obtain⟨c, ec⟩:∃ c,(st.heap.update d (Obj.mapSeq fun _=>(#[]:Array Value))).get? d=some (seqObj "list" #[] c):=⟨_, get?_update_seq e0 fun _=>#[]⟩
 have em:(midHeap st.heap d xs).get? d=some (seqObj "list" #[] c):=xbc _ (xbc _ ec)
 have szs:xs.toArray.size=xs.length:=xbt;rw[list_sort_plain];refine xba (listItems_at e0 rfl (xba (listUpdate_at e0 rfl (xba (seqEpoch_at ec rfl (xba (wpAny_newTuple (xba (wpAny_newList (xdg ?_) (xec _))) (few))))) (by rw[szs];exact few) (xec _))));show wpAny (model P w) B _ W E {st with heap:=midHeap st.heap d xs};dsimp only;by_cases two:xs.toArray.size < 2
 ·rw[if_pos two,if_pos two];rw[szs] at two;have eo:((arrOf (SortSt.mk' general' (xs.toArray.zip xs.toArray) #[] 7 none)).map (·.2))=outOf xs (List.toArray (List.range xs.length)):=zuw two
  refine xba (xbd (by
   rw[StateT.run_pure];refine xba (xbd (xba (seqEpoch_at em rfl (xba (listUpdate_at em rfl ?_ (xec _) ?_)))))
   ·rw[if_neg (by simp)];refine xbd ?_;rw[eo];exact fin _ (.refl _) fun i j hij hj=>xdb (congrArg (At r _) (by lia))
   ·rw[eo];refine xeu (xbb (xdb ?_) (few));unfold outOf
    simp))
 ·rw[if_neg two,if_neg two];rw[szs] at two;obtain⟨κ,kd,cmp⟩:=ask (by lia);refine xba (xdd (kd (fun κ' z=>κ'=κ/\z={st with heap:=midHeap st.heap d xs}) ⟨rfl,rfl⟩) (fun κ' z hz=>?_) fun _ _ x=>x.elim);obtain⟨rfl,rfl⟩:=hz;have run:=zbaa (E:=E) (r:=r) (xs:=xs) (κ:=κ') (sg:={st with heap:=midHeap st.heap d xs}) (by lia) coh cmp;refine xba (xdd run (fun yy z hz=>?_) fun _ _ x=>x);obtain⟨⟨⟩,y⟩:=yy;obtain⟨p,hp,ho,hf,rfl⟩:=hz;dsimp only at ho hf ⊢;refine xba (seqEpoch_at em rfl (xba (listUpdate_at em rfl ?_ (xec _) ?_)))
  ·rw[hf,if_neg (by simp),ho];exact xbd (fin p hp.1 hp.2)
  ·rw[ho];refine xeu (xbb (xdb ?_) (few));unfold outOf;rw[xbt,xbe,xcb,hp.1.size_eq];simp
theorem znc (r:Nat->Nat){d:Addr}{xs:List Value}{W:Value->Shared->Prop}(isl:st.heap.IsList d xs.toArray)(few:xs.length<=sizeLine)(coh:Coh r xs)
  (ask:2<=xs.length->∀g:Heap,(∀b ob,st.heap.get? b=some ob->g.get? b=some ob)->Answers P w B.in1.in1 r xs {st with heap:=g})
  (fin:∀p:Array Nat,p.Perm (List.toArray (List.range xs.length))->Up r p xs.length->W (.ref (st.heap.objs.size+1)) {st with heap:=sortedAll st.heap xs (outOf xs p)}) :
  wpAny (model P w) B (call (.builtin "sorted") [.ref d]) W E st:=by
 let g0:Heap:=(st.heap.push (seqObj "list" #[] 0)).update st.heap.objs.size (Obj.mapSeq (·++xs.toArray))
 have sz:g0.objs.size=st.heap.objs.size+1:=(Heap.size_update ..).trans (size_push' _ _);have new:(g0.push (seqObj "list" xs.toArray 0)).get? (st.heap.objs.size + 1)=some (seqObj "list" xs.toArray 0):=by
  have z:=xbv g0 (o:=seqObj "list" xs.toArray 0) rfl
  rw[sz] at z;exact z
 have old:∀ b ob, st.heap.get? b=some ob->(g0.push (seqObj "list" xs.toArray 0)).get? b=some ob:=fun b ob e=>by
  have lt:=xbl e;exact xbc _ ((xim _ _ _ _ (xca lt)).trans (xbc _ e))
 have ar:argsOk "sorted" ⟨[.ref d],[]⟩:=args_sorted1 _
 refine Calls.call_function_entry kind_sorted plain_sorted entry_sorted ar ?_;unfold Builtin.«sorted»;refine xba (m:=checkCount "sorted" 1 1 _) (xbd (xba (collect_list isl (xba (wpAny_newList ?_ (few))) (few))))
 show wpAny _ _ _ _ _ { st with heap:=g0.push (seqObj "list" xs.toArray 0) }
 have esz:(Value.ref g0.objs.size)=Value.ref (st.heap.objs.size+1):=by rw[sz]
 rw[show((st.heap.push (seqObj "list" #[] 0)).update st.heap.objs.size (Obj.mapSeq (·++xs.toArray))).objs.size=st.heap.objs.size + 1 from sz]
 refine xba (xdg (xff slot_list_sort ⟨_, new, rfl⟩ entry_list_sort (zlt r (st:={ st with heap:=g0.push (seqObj "list" xs.toArray 0) }) new few coh (fun two=>?_) fun p p1 p2=>⟨_, rfl, xbd ⟨_, rfl, fin p p1 p2⟩⟩) (args_list_sort _)))
 exact ask two _ fun b ob e=>zkg (xca (xhq (xbl e))) (old b ob e)
theorem zqi {T:String}{a d:Addr}{n:Nat}{It:Nat->Value->Prop}{OK:Heap->Prop}(S:KdlSrc P w T a d n It OK)(hh:B.handled=none)(ok:OK st.heap)(few:n<=sizeLine){W:Value->Shared->Prop}
  (ask:∀xs:List Value,xs.length=n->(∀(j:Nat) (v:Value),xs[j]?=some v->It j v)->∃r:Nat->Nat,Coh r xs/\(2<=n->∀(g:Heap) (tk:Nat),(∀b ob,st.heap.get? b=some ob->g.get? b=some ob)->Answers P w B.in1.in1 r xs {st with heap:=g,toks:=tk}) /\
   ∀(p:Array Nat) (q:Addr) (g:Heap) (tk c:Nat), p.Perm (List.toArray (List.range xs.length))->Up r p xs.length->(∀ b ob, st.heap.get? b=some ob->g.get? b=some ob)->(∀ b ob, st.heap.get? b=some ob->b≠q)->g.get? q=some (seqObj "list" (outOf xs p) c)->W (.ref q) { st with heap:=g, toks:=tk }) :
  wpAny (model P w) B (call (.builtin "sorted") [.ref a]) W E st:=by
 have ar:argsOk "sorted" ⟨[.ref a],[]⟩:=args_sorted1 _
 refine Calls.call_function_entry kind_sorted plain_sorted entry_sorted ar ?_;unfold Builtin.«sorted»;refine xba (m:=checkCount "sorted" 1 1 _) (xbd (xba (kdu_collect (A:=B.in1) S hh ok (few) fun g tk acc keep items=>?_)))
 have len:acc.toList.length=n:=by rw[xcb];exact items.1
 obtain⟨r,coh,an,fin⟩:=ask acc.toList len (fun j v e=>items.2 j v (by rw[← xck];exact e));refine xba (wpAny_newList ?_ (by rw[len];exact few));have new:(g.push (seqObj "list" acc.toList.toArray 0)).get? g.objs.size=some (seqObj "list" acc.toList.toArray 0):=xbv g rfl
 have old:∀ b ob, st.heap.get? b=some ob->(g.push (seqObj "list" acc.toList.toArray 0)).get? b=some ob:=fun b ob e=>xbc _ (keep b ob e)
 have lt:∀b ob,st.heap.get? b=some ob->b≠g.objs.size:=fun b ob e=>xca (xbl (keep b ob e))
 show wpAny _ _ _ _ _ { st with heap:=g.push (seqObj "list" acc.toList.toArray 0), toks:=tk }
 refine xba (xdg (xff slot_list_sort ⟨_, new, rfl⟩ entry_list_sort (zlt r (st:={ st with heap:=g.push (seqObj "list" acc.toList.toArray 0), toks:=tk }) new (by rw[len]; exact few) coh (fun two=>?_) fun p p1 p2=>⟨_, rfl, xbd ⟨_, rfl, ?_⟩⟩) (args_list_sort _)))
 ·exact an (by lia) _ tk fun b ob e=>zkg (lt b ob e) (old b ob e)
 ·obtain⟨c,ec⟩:=sortedHeap_at (n:=0) (vs:=acc.toList) (out:=outOf acc.toList p) new;refine fin p g.objs.size _ tk c p1 p2 (fun b ob e=>?_) ?_ ec
  ·rw[sortedHeap_old (lt b ob e) (xbl (old b ob e))];exact old b ob e
  ·exact lt
end
end Srt
namespace L2
open PySem PySem.Spec PyProof.Rows PySem.W
theorem small10000 {n:Nat}(h:n<=1000000):n<=sizeLine:=xbb h (by rw[xee];lia)
theorem zkk:∀{us:List Value} {a b:List Int},IntsAre us a->IntsAre us b->a=b
 | _,_,_,.nil,.nil=>rfl
 | _,_,_,.cons x t r,.cons _ _ r'=>by rw[zkk r r']
theorem zts {g:Heap}{ps:List (Addr×List Int)}(tup:TupsG g ps):Srt.Coh (Srt.rank (ps.map (·.2))) (ps.map fun p=>Value.ref p.1):=fun i j hi hj e=>by
 rw[xbe] at hi hj;have ei:ps[i]?=some ps[i]:=xbh hi;have ej:ps[j]?=some ps[j]:=xbh hj;rw[zv (fun p:Addr×List Int=>Value.ref p.1) _ ei,zv (fun p:Addr×List Int=>Value.ref p.1) _ ej] at e;injection e with e
 obtain⟨us,o,n,a1,a2,a3,a4⟩:=tup _ (xdm hi);obtain⟨us2,o2,n2,b1,b2,b3,b4⟩:=tup _ (xdm hj);rw[e,b2] at a2;injection a2 with a2
 subst a2;rw[b4] at a4;injection a4 with a4 _
 have a5:us2=us:=by simpa using a4
 subst a5;have d:=zkk a1 b1;unfold Srt.rank;rw[zv (fun p:Addr×List Int=>p.2) _ ei,zv (fun p:Addr×List Int=>p.2) _ ej,d]
noncomputable def rSortedAL (K:Fg):List V->Hp->VK->Prop:=fun xs H Q=>∃(l:Addr) (ps:List (Addr×List Int)),xs=[.ref l]/\SqL K H l (ps.map fun p=>V.ref p.1)/\ps.length<=1000000/\TupsAt K H ps /\
 ∀(q:Addr) (qs:List (Addr×List Int)),H q=none->qs.Perm ps->(qs.map (·.2)).Pairwise (fun a b=>HT.lexLt b a=false)->Q (.ref q) (upd H q (.lst (qs.map fun p=>V.ref p.1)))
noncomputable def rSortedDAL:List V->Hp->VK->Prop:=fun xs H Q=>∃(a:Addr) (kvs:List (List Key×V)) (ks:List (List Int)),xs=[.ref a]/\Rd H a (.dT kvs)/\kvs.map (·.1)=ks.map (fun ns=>ns.map Sum.inl)/\ks.length<=1000000 /\
 ∀(q:Addr) (qs:List (Addr×List Int)),H q=none->(qs.map (·.2)).Perm ks->(qs.map (·.2)).Pairwise (fun x y=>HT.lexLt y x=false)->(∀p∈qs,H p.1=some (.tup (p.2.map V.int)))->Q (.ref q) (upd H q (.lst (qs.map fun p=>V.ref p.1)))
section
variable {X:Cx}
theorem zmr (hu:X.A.units + 64 < cLine):CallR X (.builtin "sorted") (rSortedAL X.K):=by
 intro aA s σ H xs us Q I r h;obtain⟨l,ps,rfl,hl,h64,ht,q⟩:=h;obtain⟨u,rfl,ru⟩:=vals1 r;cases ru;obtain⟨its,rv,pl,hz⟩:=I.list hl;have eits:its=ps.map fun p=>Value.ref p.1:=by
  have e:(ps.map fun p=>V.ref p.1)=(ps.map (·.1)).map V.ref:=by rw[xez];rfl
  rw[e] at rv;rw[zom rv,xez]
  rfl
 subst eits;have tup:∀g:Heap,(∀b o,s.heap.get? b=some o->g.get? b=some o)->TupsG g ps:=fun g keep p hp=>by
  obtain⟨us,rv',⟨o,b2,b3,n,b4⟩,_⟩:=I.tuple (ht p hp);exact⟨us,o,n,zfz rv',keep _ _ b2,b3,b4⟩
 refine Srt.znc (Srt.rank (ps.map (·.2))) pl.isList (by rw[xbe];exact small10000 h64) (zts (tup s.heap fun _ _ z=>z)) (fun h2 g keep=>zyi (by show X.A.units+1+1 < cLine;lia) (by rw[xbe] at h2;exact h2) (tup g keep)) (fun p p1 p2=>?_);rw[xbe] at p1 p2;obtain⟨qs,q1,q2,q3⟩:=zsk p1 p2;obtain⟨e,he⟩:=sortedAll_at s.heap (ps.map fun p=>Value.ref p.1) (Srt.outOf (ps.map fun p=>Value.ref p.1) p);rw[q3] at he ⊢;refine⟨.ref (s.heap.objs.size+1),_,I.laid (a:=s.heap.objs.size+1) (o:=.lst (qs.map fun p=>V.ref p.1)) (t':=s.toks) (fun _ _ z=>sortedAll_old z) (xlg _) ⟨?_,_,e,zht qs,he⟩,rfl,q _ _ (I.hok.fresh (xlg _)) q1 q2⟩;rw[xbe,q1.length_eq];exact small10000 (by lia)
theorem zlm (hc:X.calm=true)(hu:X.A.units + 64 < cLine):CallR X (.builtin "sorted") rSortedDAL:=by
 intro aA s σ H xs us Q I r h;obtain⟨a,kvs,ks,rfl,hd,ek,few,q⟩:=h;obtain⟨u,rfl,ru⟩:=vals1 r;cases ru;obtain⟨z,ns,ys,rel,ob,es,ep,e1,e2,e3,e4,e5⟩:=(show ObjOk X.prog X.w H s.heap a (.dT kvs) from hd.ok I.hok)
 obtain⟨ps,a1,a2,a3⟩:=zmn (P:=X.prog) (w:=X.w) rel ek;have hpl:ps.length=ks.length:=by rw[← a1,xbe]
 have hes:es.toList.map (·.key)=ps.map fun p=>Value.ref p.1:=by rw[e4,xez];exact a3
 have hsz:es.size=ps.length:=by
  have:=congrArg List.length hes;rw[xbe,xbe,xcb] at this;exact this
 have tup:∀g:Heap,(∀b o,s.heap.get? b=some o->g.get? b=some o)->TupsG g ps:=fun g keep p hp=>by
  obtain⟨us,rv,⟨o,b2,b3,n,b4⟩,_⟩:=I.tuple (SqT.of (a2 p hp));exact⟨us,o,n,zfz rv,keep _ _ b2,b3,b4⟩
 refine Srt.zqi (Dct.zbct ns es ep) (I.ok.hd hc) ⟨ob,e1,e2,e3⟩ (small10000 (by lia)) fun vs hl hv=>?_
 have evs:vs=ps.map fun p=>Value.ref p.1:=by
  rw[← hes];apply xku;intro i;by_cases hi:i < es.size
  ·have h1:vs[i]?=some vs[i]:=xbh (by lia);obtain⟨en,h2,h3⟩:=hv i _ h1;rw[h1,h3,xcl,xck,h2]
   rfl
  ·rw[xjv (by lia),xjv (by rw[xbe,xcb];lia)]
 subst evs;refine⟨Srt.rank (ps.map (·.2)),zts (tup s.heap fun _ _ z=>z),fun h2 g tk keep=>zyi (by show X.A.units+1+1 < cLine;lia) (by lia) (tup g keep),fun p t g tk c p1 p2 keep ne eg=>?_⟩;rw[xbe] at p1 p2;obtain⟨qs,q1,q2,q3⟩:=zsk p1 p2;rw[q3] at eg;refine⟨.ref t,_,I.laidN (o:=.lst (qs.map fun p=>V.ref p.1)) keep ne ⟨?_,_,c,zht qs,eg⟩,rfl,q t qs (I.away ne) ((q1.map _).trans (by rw[a1])) q2 fun p hp=>a2 p (q1.mem_iff.mp hp)⟩;rw[xbe,q1.length_eq];exact small10000 (by lia)
end
end L2
namespace L2
open PySem PySem.Spec PyProof.Rows
theorem ziz {κ β:Type}[DecidableEq κ]{k:κ}:∀{xs:List (κ×β)} {j:Nat} {p:β},(xs.map (·.1)).Nodup->xs[j]?=some (k,p)->xs.eraseIdx j=xs.filter fun x=>decide (x.1≠k)
 | [],_,_,_,e=>by simp at e
 | x::r,0,p,nd,e=>by
  simp at e;subst e;rw[xbp,xhf] at nd;rw[List.eraseIdx_cons_zero,xfx (by simp)]
  symm
  rw[List.filter_eq_self];intro y hy;refine xcf fun z=>nd.1 ?_
  rw[← z];exact xdj.mpr ⟨y,hy,rfl⟩
 | x::r,j+1,p,nd,e=>by
  rw[xbp,xhf] at nd;have e':r[j]?=some (k,p):=by simpa using e
  have hx:x.1≠k:=fun z=>nd.1 (by rw[z];exact xdj.mpr ⟨_,xcj e',rfl⟩)
  rw[xjg,xfy (by simpa using hx),ziz nd.2 e']
theorem zpn {α β:Type}(f:α->β):∀(l:List α) (j:Nat),(l.map f).eraseIdx j=(l.eraseIdx j).map f
 | [],_=>rfl
 | _::_,0=>rfl
 | x::l,j+1=>by rw[xbp,xjg,xjg,xbp,zpn f l j]
section
variable {prog:Program}{w:World}{κ:Type}[DecidableEq κ]{knd:HeapKind prog w κ}{A:Around}{E:Value->Shared->Prop}{s:Shared}{d a:Addr}{k:κ}{xs:List (κ×Addr×Value)}{p:Addr×Value}
theorem zuu {W:Option DictEntry->Shared->Prop}(hu:knd.room A)(hkey:knd.is s.heap k a)(hm:s.heap.DictOfH knd d xs)(hp:atKey xs k=some p)(hsz:xs.length<=sizeLine)
  (fin:∀e h',e.val=p.2->h'.DictOfH knd d (xs.filter fun x=>decide (x.1≠k))->Heap.SameBut d s.heap h'->W (some e) {s with heap:=h',toks:=s.toks+knd.draws k}) :
  wpAny (model prog w) A (Builtin.Dict.takeOut d (.ref a)) W E s:=by
 obtain⟨o,es,ep,ho,hc,hd,he,his,hn⟩:=hm;unfold Builtin.Dict.takeOut;refine xdg ?_;refine xba (knd.pyHash hu hkey ?_);refine xba (wpAny_dictFind_heap (s:={s with toks:=s.toks+knd.draws k}) hu hkey ho hd he his hn (fun z=>?_) fun j q hj=>?_)
 ·rw[atKey_none_of_get z] at hp;cases hp
 ·have hq:q=p:=by
   have z:=atKey_of_get hn hj;rw[hp] at z;exact(xbw z).symm
  subst hq;refine xba (xhs (s:={s with toks:=s.toks+knd.draws k}) ho hd ?_);rw[entry_at he j,hj];have big:es.size<=sizeLine:=by have:=size_of_entries he;lia
  refine xba (wpAny_updateDictKeys (hz:=big) (s:={s with toks:=s.toks+knd.draws k}) ho hd (xbd (fin _ _ rfl ⟨_,_,ep+1,xel _ ho (Obj.isFreed_of_dict (Obj.data_mapDictKeys hd _)),hc.mapDictKeys _,Obj.data_mapDictKeys hd _,?_,fun x hx=>?_,?_⟩ (xin ..))))
  ·rw[← ziz hn hj];obtain⟨l⟩:=es;have he':l=xs.map (entryOfKey knd):=he;subst he';simp[zpn]
  ·exact knd.keeps (his x (xgi.mp hx).1) ho hd (xin ..)
  ·exact List.Sublist.nodup (List.Sublist.map (fun x:κ×Addr×Value=>x.1) List.filter_sublist) hn
theorem zzj {W:Value->Shared->Prop}(hu:knd.room A.in1)(hkey:knd.is s.heap k a)(hm:s.heap.DictOfH knd d xs)(hp:atKey xs k=some p)(hsz:xs.length<=sizeLine)
  (fin:∀h',h'.DictOfH knd d (xs.filter fun x=>decide (x.1≠k))->Heap.SameBut d s.heap h'->W p.2 {s with heap:=h',toks:=s.toks+knd.draws k}) :
  wpAny (model prog w) A (call (.builtin "dict.pop") [.ref d, .ref a]) W E s:=by
 have M:MeetsIn prog w (Builtin.«dict.pop» ⟨[.ref d,.ref a],[]⟩) (fun B R g=>B=A/\g=s/\∀h',h'.DictOfH knd d (xs.filter fun x=>decide (x.1≠k))->Heap.SameBut d s.heap h'->R (.ok (.ret p.2)) {s with heap:=h',toks:=s.toks+knd.draws k}) :=
  .of_wp fun B R g hq0=>by
   obtain⟨hB,hg,q⟩:=hq0;subst hB hg;unfold Builtin.«dict.pop» Builtin.Dict.keyAndDefault;refine xba (xba (wpAny_notOrdered_dict hm.typeIs (xbd ?_)));obtain⟨o,es,ep,ho,hc,hd,he,his,hn⟩:=id hm;have ne:es.isEmpty=false:=by
    have:=size_of_entries he;cases xs with
    | nil=>cases hp
    | cons x r =>
     rw[xcg] at this;rw[Array.isEmpty_eq_false_iff];intro z;rw[z] at this;simp at this
   simp only[keyPart,Option.isSome_none,xct,xeo];refine xba (xhs ho hd (xba (xbd ?_)));rw[ne];simp only[xct,xeo];refine xba (zuu hu hkey hm hp hsz fun e h' hv dd hs=>?_);simp only[Option.isNone_some,xct,xeo];exact xba (wpAny_letGo (xbd ⟨e.val,rfl,by rw[hv];exact q h' dd hs⟩))
 exact call_meetsIn F.slot_dict_pop hm.typeIs F.entry_dict_pop (F.args_dict_pop_2 _ _) M ⟨rfl,rfl,fin⟩
end
theorem KT.drop {H:Hp}{kvs:List (List Key×V)}{xs:List (List Key×Addr×Value)}(r:KT H kvs xs)(k:List Key):KT H (dropK kvs k) (xs.filter fun x=>decide (x.1≠k)):=by
 unfold dropK
 induction r with
 | nil=>exact .nil
 | @cons p q ps qs h t ih =>
  by_cases e:p.1=k
  ·rw[xfx (by simp[e]),xfx (by simp[← h.1,e])];exact ih
  ·rw[xfy (by simp[e]),xfy (by simp[← h.1,e])];exact .cons h ih
section
variable {X:Cx}{aA:List (Addr×Obj)}{σ:St}{H:Hp}{s:Shared}{a b:Addr}{kvs:List (List Key×V)}{k:List Key}
theorem zbkb {v:V}{Q:Value->Shared->Prop}{E:Value->Shared->Prop}(hu:X.A.units+1 < cLine)(I:Inv X aA σ H s)(e:H a=some (.dT kvs))(eb:H b=some (.tup (k.map kV)))(l:valV kvs k=some v)
  (h:∀ w' s', Inv X aA σ (upd H a (.dT (dropK kvs k))) s'->RelV v w'->Q w' s'):wpAny (model X.prog X.w) X.A (call (.builtin "dict.pop") [.ref a, .ref b]) Q E s:=by
 obtain⟨z,hd,xs,rel,dd⟩:=zblt I.hok e;obtain⟨w',hw,rw'⟩:=RelO.some_of (v:=v) (o:=(atKey xs k).map (·.2)) (by rw[← l];exact rel.val k);cases hp:atKey xs k with
 | none=>rw[hp] at hw;cases hw
 | some p =>
  rw[hp] at hw;have hw':p.2=w':=xbw hw;subst hw';refine zzj (xhm hu) (zrd I.hok eb) dd hp (by rw[← xik rel];exact z) fun h' dd' hs=>h _ _ ?_ rw'
  obtain⟨q,es,ep,hq,h2,h3,h4,_,h5⟩:=dd';refine zto I (by rw[e];exact True.intro) hs ⟨q,hq⟩ ⟨xbb (xjw _ _) z,hd,_,(rel.drop k).keeps fun c ys ec=>?_,q,es,ep,hq,h2,h3,h4,h5⟩;rw[zm (zblo ec e (fun z=>nomatch z))];exact ec
end
noncomputable def tDPopT (td ty:TE):TE:=fun σ H Q=>td σ H fun x H1=>∃a,x=.ref a/\IsD H1 a/\ty σ H1 fun y H2=>∃kvs k v b,H2 a=some (.dT kvs)/\y=.ref b/\H2 b=some (.tup (k.map kV))/\valV kvs k=some v/\Q v (upd H2 a (.dT (dropK kvs k)))
section
variable {X:Cx}{o e:Expr}{apos cpos:Pos}{td ty:TE}
theorem zzp (hu:X.A.units + 1 < cLine)(ho:PE X o td)(he:PE X e ty)(m:M1 X o "pop" apos e cpos):PE X (.Call (.Attribute o "pop" apos) [e] [] cpos) (tDPopT td ty):=by
 intro aA s σ H Q I h;refine wpAny_Call_method m.base m.few m.line F.plainAttrs_dict F.slot_dict_pop F.type_dict_pop (thn (ho aA s σ H _ I h) fun u s1 hq0=>?_);obtain⟨x,H1,I1,rx,a,ex,d,q1⟩:=hq0;subst ex;obtain rfl:u=Value.ref a:=rx;obtain⟨t1,t2,_⟩:=zbei I1 d;refine⟨t1,t2,?_⟩;rw[m.trees];refine xjn rfl (xib (xiu (thn (he aA s1 σ H1 _ I1 q1) fun iv s2 ⟨y,H2,I2,ry,kvs,k,v,b,ea,ey,eb,l,q2⟩=>xkr ?_)));subst ey;cases(show iv=Value.ref b from ry);exact zbkb hu I2 ea eb l fun w' s3 I3 rw'=>⟨v,_,I3,rw',q2⟩
end
noncomputable def rCatA (K:Fg):R2:=fun x y H Q=>∃a b xs ys,x=.ref a/\y=.ref b/\SqT K H a xs/\SqT K H b ys/\xs.length+ys.length<=sizeLine /\
 (xs=[]->Q (.ref b) H)/\(xs≠[]->ys=[]->Q (.ref a) H)/\(xs≠[]->ys≠[]->∀p,H p=none->Q (.ref p) (upd H p (.tup (xs++ys))))
section
variable {X:Cx}
theorem zbdt:OpR X (binaryOp .Add) (rCatA X.K):=by
 intro aA s σ H x y v u Q I rx ry h;obtain⟨a,b,xs,ys,rfl,rfl,ha,hb,hz,q0,q1,q2⟩:=h;by_cases hx:xs=[]
 ·cases rx;cases ry;obtain⟨its,r1,p1,_⟩:=I.tuple ha;obtain⟨its2,r2,p2,_⟩:=I.tuple hb;obtain⟨⟨cls,dd,data,sl⟩,ho,hc,n,hd⟩:=id p1;obtain⟨⟨cls2,dd2,data2,sl2⟩,ho2,hc2,n2,hd2⟩:=id p2;simp only at hc hd hc2 hd2;subst hc hd hc2 hd2;have e:its=[]:=r1.nil_iff.mpr hx;exact concat_meets ⟨_,ho,rfl⟩ ⟨_,ho2,rfl⟩ noFill_tuple_add seq_tuple_add xjm xjb (xix _ _)
   (tuple_addW0 a b its.toArray its2.toArray n n2 dd dd2 sl sl2 (by simp[e])) ⟨ho,ho2,⟨.ref b,H,I,rfl,q0 hx⟩⟩
 ·exact zbds aA s σ H _ _ v u Q I rx ry ⟨a,b,xs,ys,rfl,rfl,ha,hb,hx,hz,fun z=>q1 hx z,fun z=>q2 hx z⟩
end
section
variable {prog:Program}{w:World}{A:Around}{E:Value->Shared->Prop}{s:Shared}
theorem zwv {t sl:Addr}{its:Array Value}{vl vu:Value}{lo hi:Option Int}{W:Value->Shared->Prop}(ht:IsTup s.heap t its)(hs:s.heap.IsSliceOf sl vl vu .none)(pl:IsPart vl lo)(pu:IsPart vu hi)
  (h0:HT.sIx its.size 0 lo=0)(h1:HT.sIx its.size its.size hi=its.size)(fin:W (.ref t) s):wpAny (model prog w) A (getItem (.ref t) (.ref sl)) W E s:=by
 obtain⟨os,hos,hcs,hds⟩:=id hs;unfold getItem
 try with_reducible refine xdg ?_
 first | refine xba (xbd ?_) | skip
 refine xba (wpAny_sequenceKey ht.typeIs (by decide) ?_);refine xba (wpAny_callSpecial?_slot (name:=Str.ofString "__getitem__") ht.typeIs xiz (xff xiz ht.typeIs entry_tuple_getitem ?_ (args_tuple_getitem _ _)))
 show wpAny _ _ (Builtin.Tuple.tupleItemsOf (.ref t) >>= _) _ _ s;refine xba (tupleItemsOf_ ht ?_);have hTs:s.TypeIs (.ref sl) "slice":=⟨os, hos, hcs⟩
 refine xba (wpAny_typeOf hTs ?_);rw[if_pos (by decide)];refine xba (HT.zed hs pl pu ?_);have yes:(((HT.sIx its.size 0 lo:Nat):Int)==0&&(1:Int)==1&&(HT.sIx its.size its.size hi - HT.sIx its.size 0 lo)==its.size)=true:=by
  rw[h0,h1];simp
 show wpAny _ _ (if(((HT.sIx its.size 0 lo:Nat):Int)==0&&(1:Int)==1&&(HT.sIx its.size its.size hi - HT.sIx its.size 0 lo)==its.size)=true then _ else _) _ _ s;rw[if_pos yes];refine xba (?_:wpAny _ _ (Builtin.Tuple.tupleIsExact (.ref t)) _ _ s);unfold Builtin.Tuple.tupleIsExact;refine xba (wpAny_typeOf ht.typeIs (xbd ?_));rw[if_pos (by decide)];exact xba (xhn (xbd ⟨_,rfl,xbd fin⟩))
end
noncomputable def rSlA (K:Fg):V->Option Int->Option Int->Hp->VK->Prop:=fun x lo hi H Q=>∃a xs,x=.ref a/\SqT K H a xs/\(cutV xs lo hi=xs->Q (.ref a) H)/\∀p,H p=none->Q (.ref p) (upd H p (.tup (cutV xs lo hi)))
theorem zbcm {X:Cx}:SlR X (rSlA X.K):=by
 intro aA s σ H x v vl vu lo hi sl Q I rx hs pl pu h;obtain⟨a,xs,rfl,hx,q1,q2⟩:=h;by_cases hw:HT.sIx xs.length 0 lo=0/\HT.sIx xs.length xs.length hi=xs.length
 ·cases rx;obtain⟨its,r,ht,hz⟩:=I.tuple hx;have hlen:its.toArray.size=xs.length:=by rw[xbt];exact r.length.symm
  refine⟨"tuple", _, xiz.lookup, ht.typeIs, ?_⟩
  refine zwv ht hs pl pu (by rw[hlen];exact hw.1) (by rw[hlen];exact hw.2) ⟨.ref a,H,I,rfl,q1 ?_⟩;unfold cutV;rw[hw.1,hw.2];simp
 ·exact zbhe aA s σ H _ v vl vu lo hi sl Q I rx hs pl pu ⟨a,xs,rfl,hx,hw,q2⟩
theorem zjz (ns:List Int):∀k,k<=ns.length->preSum (fun i=>ns.getD i 0) k=(ns.take k).sum
 | 0,_=>rfl
 | k+1,h=>by
  show preSum (fun i=>ns.getD i 0) k+ns.getD k 0=_;rw[zjz ns k (by lia),xgw (by lia),xfq,xbo,xbh (by lia)];simp
theorem ztd:∀{ns:List Int} {us:List Value} {i:Nat} {v:Value},Vals (ns.map V.int) us->us[i]?=some v->∃t,v=.int (ns.getD i 0) t
 | [],_,_,_,.nil,e=>by simp at e
 | n::ns,_,0,_,.cons r _,e=>by
  simp at e;subst e
  obtain⟨t,rfl⟩:=r;exact⟨t,rfl⟩
 | n::ns,_,i+1,v,.cons _ t,e=>by
  have:=ztd (i:=i) t (by simpa using e)
  simpa using this
noncomputable def rSum (K:Fg):List V->Hp->VK->Prop:=fun xs H Q=>∃(a:Addr) (ns:List Int),xs=[.ref a]/\(SqL K H a (ns.map V.int)\/SqT K H a (ns.map V.int))/\Q (.int ns.sum) H
theorem zwy {X:Cx}(hc:X.calm=true):CallR X (.builtin "sum") (rSum X.K):=by
 intro aA s σ H xs us Q I r h;obtain⟨a,ns,rfl,hs,q⟩:=h;obtain⟨u,rfl,ru⟩:=vals1 r;cases ru;have key:∀{its:List Value} (h':Heap) (tk:Nat) (t':Tok) (nn:Nat),nn=ns.length->(∀b o,b≠s.heap.objs.size->s.heap.get? b=some o->h'.get? b=some o) ->
   EP X aA σ Q (.int (preSum (fun i=>ns.getD i 0) nn) t') {s with heap:=h',toks:=tk}:=fun h' tk t' nn hn hk=>by
  subst hn;rw[zjz ns _ (xbf _),xdn];exact⟨.int ns.sum,H,I.kept (t':=tk) fun b o e=>hk b o (xca (xbl e)) e,⟨_,rfl⟩,q⟩
 refine call_sum_walkG ?_;rcases hs with hs | hs
 ·obtain⟨its,rv,pl,hz⟩:=I.list hs;have hlt:a < s.heap.objs.size:=by obtain⟨o,n,e,_⟩:=pl;exact xbl e
  have hl:=rv.length;rw[xbe] at hl;refine xjk pl.isList ?_;refine⟨s.heap.objs.size,_,[s.heap.objs.size],_,_,_,fun i=>ns.getD i 0,rfl,Walks.list (A:=X.A.in1) (I.ok.hd hc) _ a (xca hlt) its.toArray,⟨⟨_,xbv _ rfl,rfl,rfl⟩,pl.isList.push _⟩,?_,fun i v e=>ztd rv (by simpa using e),fun h' tk t' hk=>?_⟩
  ·intro b hb;show b < (s.heap.push _).objs.size;rw[show ∀o:Obj,(s.heap.push o).objs.size=s.heap.objs.size+1 from fun o=>by simp[Heap.push]];rcases xbx.mp hb with rfl | hb
   ·exact xlb _
   ·rcases xbx.mp hb with rfl | hb
    ·exact xhq hlt
    ·cases hb
  ·exact key (its:=its) h' tk t' _ (by simp[hl]) fun b o hb e=>hk b o (by simpa using hb) (xbc _ e)
 ·obtain⟨its,rv,pl,hz⟩:=I.tuple hs;have hlt:a < s.heap.objs.size:=pl.lt;have hl:=rv.length;rw[xbe] at hl;have pt:s.heap.IsTuple a its.toArray:=pl;refine wpAny_pyIter_tuple pt ?_;refine⟨s.heap.objs.size,_,[s.heap.objs.size],_,_,_,fun i=>ns.getD i 0,rfl,Walks.tuple (A:=X.A.in1) (I.ok.hd hc) _ a (xca hlt) its.toArray,⟨⟨_,xbv _ rfl,rfl,rfl⟩,pt.push _⟩,?_,fun i v e=>ztd rv (by simpa using e),fun h' tk t' hk=>?_⟩
  ·intro b hb;show b < (s.heap.push _).objs.size;rw[show ∀o:Obj,(s.heap.push o).objs.size=s.heap.objs.size+1 from fun o=>by simp[Heap.push]];rcases xbx.mp hb with rfl | hb
   ·exact xlb _
   ·rcases xbx.mp hb with rfl | hb
    ·exact xhq hlt
    ·cases hb
  ·exact key (its:=its) h' tk t' _ (by simp[hl]) fun b o hb e=>hk b o (by simpa using hb) (xbc _ e)
section
variable {X:Cx}{aA:List (Addr×Obj)}{σ:St}{H:Hp}{s:Shared}{h':Heap}
end
section
variable {X:Cx}
end
noncomputable def bestI (gt:Bool) (n:Int) (ns:List Int):Int:=ns.foldl (fun i j=>if(if gt then decide (j > i) else decide (j < i))=true then j else i) n
section
variable {X:Cx}
end
section
variable {prog:Program}{w:World}{A:Around}{E:Value->Shared->Prop}{s:Shared}{z TI TO i1 i2 t1 t2:Addr}{xs ys:Array Value}{j:Nat}
end
section
variable {prog:Program}{w:World}{A:Around}{E:Value->Shared->Prop}{s:Shared}{z TI TO i1 i2 t1 t2:Addr}{xs ys:Array Value}{j:Nat}
end
section
variable {prog:Program}{w:World}{A:Around}{E:Value->Shared->Prop}{s:Shared}
end
section
variable {X:Cx}
end
end L2
namespace Dd
open PySem L2
set_option genInjectivity true in
inductive D where
 | non | bl (b:Bool) | int (i:Int) | str (x:Str) | ty (n:String) | ref (n:Nat) | tup (ds:List D) | lst (ds:List D) | scr (ds:List D) | exn (c:Str) (l:List Int)
set_option genInjectivity true in
inductive O where
 /-- a list that may change;a dict by tuples of ints;one that is only read;gone -/
 | lst (xs:List D) | dT (kvs:List (List Int×D)) | fT (kvs:List (List Int×D)) | dead
 /-- the law's table of codes -/
 | tab
noncomputable abbrev Store:=List O
structure Exc where
 cls:Str
 at_:List Int
set_option genInjectivity true in
inductive Res (α:Type) where
 | ok (a:α) (st:Store) | exc (x:Exc) (st:Store) | stuck
noncomputable def Res.bind {α β:Type}:Res α->(α->Store->Res β)->Res β
 | .ok a st,f=>f a st
 | .exc x st,_=>.exc x st
 | .stuck,_=>.stuck
@[simp] theorem zbe {α β:Type} (a:α) (st:Store) (f:α->Store->Res β):(Res.ok a st).bind f=f a st:=rfl
@[simp] theorem zbkq {α β:Type} (x:Exc) (st:Store) (f:α->Store->Res β):(Res.exc x st:Res α).bind f=.exc x st:=rfl
@[simp] theorem zbgg {α β:Type} (f:α->Store->Res β):(Res.stuck:Res α).bind f=.stuck:=rfl
theorem zd {α β:Type}{r:Res α}{f:α->Store->Res β}{b:β}{st':Store}(h:r.bind f=.ok b st'):∃a st,r=.ok a st/\f a st=.ok b st':=by
 cases r with
 | ok a st=>exact⟨a,st,rfl,h⟩
 | exc x st=>cases h
 | stuck=>cases h
noncomputable abbrev DS:=List (Option D)
noncomputable abbrev SE:=DS->Store->Res D
noncomputable abbrev ST:=DS->Store->Res Bool
noncomputable abbrev SA:=DS->Store->Res (List D)
set_option genInjectivity true in
inductive Fl where
 | nx (σ:DS) | ret (v:D) | brk (σ:DS) | ct (σ:DS)
noncomputable abbrev SS:=DS->Store->Res Fl
noncomputable abbrev DFn:=List D->Store->Res D
structure Loc where
 m:List (Option Addr)
 g:List Addr
noncomputable def Out (ρ:Loc) (a:Addr):Prop:=some a∉ρ.m/\a∉ρ.g
noncomputable def Ls (K:Fg) (ρ:Loc) (H:Hp) (a:Addr) (vs:List V):Prop:=(Rd H a (.lst vs)/\Out ρ a)\/∀H':Hp,SqL K H' a vs
noncomputable def XAt (K:Fg) (ρ:Loc) (H:Hp) (c:Str) (l:List Int) (a:Addr):Prop:=∃C o,W.nsIn K mainGlobals c=some (some (.ref C))/\(H a=some (.frz o (.ext fun _=>True))/\Out ρ a)/\o.cls=.ref C/\(∃vs,o.data=.fields vs/\vs[2]?=some .none) /\
 ((l=[]/\o.dict=none)\/∃ i dx od, l=[i]/\o.dict=some dx/\H dx=some (.frz od (.xd [("at", .int i)]))/\Out ρ dx)
theorem XAt.map {K:Fg}{ρ ρ':Loc}{H H':Hp}{c:Str}{l:List Int}{a:Addr}(h:XAt K ρ H c l a)(f:∀b ob u,H b=some (.frz ob u)->Out ρ b->H' b=some (.frz ob u)/\Out ρ' b):XAt K ρ' H' c l a:=by
 obtain⟨C,o,h1,h2,h3,h4,h5⟩:=h;refine⟨C,o,h1,f _ _ _ h2.1 h2.2,h3,h4,?_⟩;rcases h5 with h5 | ⟨i,dx,od,h6,h7,h8,h9⟩
 ·exact .inl h5
 ·exact .inr ⟨i,dx,od,h6,h7,(f _ _ _ h8 h9).1,(f _ _ _ h8 h9).2⟩
mutual
inductive At (K:Fg) (ρ:Loc) (H:Hp):D->V->Prop
 | non:At K ρ H .non .non
 | bl (b:Bool):At K ρ H (.bl b) (.bl b)
 | int (i:Int):At K ρ H (.int i) (.int i)
 | str (x:Str):At K ρ H (.str x) (.str x)
 | ty (n:String):At K ρ H (.ty n) (.ty n)
 | ref {n:Nat} {v:V}:n < ρ.m.length->(∀a,ρ.m[n]?=some (some a)->v=.ref a)->At K ρ H (.ref n) v
 | tup {a:Addr} {ds:List D} {vs:List V}:H a=some (.tup vs)->Out ρ a->AtAll K ρ H ds vs->At K ρ H (.tup ds) (.ref a)
 | lst {a:Addr} {ds:List D} {vs:List V}:H a=some (.lst vs)->Out ρ a->AtAll K ρ H ds vs->At K ρ H (.lst ds) (.ref a)
 | scr {a:Addr} {ds:List D} {vs:List V}:Ls K ρ H a vs->AtAll K ρ H ds vs->At K ρ H (.scr ds) (.ref a)
 | exn {c:Str} {l:List Int} {a:Addr}:XAt K ρ H c l a->At K ρ H (.exn c l) (.ref a)
inductive AtAll (K:Fg) (ρ:Loc) (H:Hp):List D->List V->Prop
 | nil:AtAll K ρ H [] []
 | cons {d:D} {ds:List D} {v:V} {vs:List V}:At K ρ H d v->AtAll K ρ H ds vs->AtAll K ρ H (d::ds) (v::vs)
end
structure Mv (ρ:Loc) (H:Hp) (ρ':Loc) (H':Hp):Prop where
 out:∀{a:Addr} {o:HO},H a=some o->Out ρ a->H' a=some o/\Out ρ' a
 len:ρ.m.length<=ρ'.m.length
 old:∀(n:Nat) (a:Addr),n < ρ.m.length->ρ'.m[n]?=some (some a)->ρ.m[n]?=some (some a)
theorem Ls.mv {K:Fg}{ρ ρ':Loc}{H H':Hp}{a:Addr}{vs:List V}(x:Mv ρ H ρ' H')(h:Ls K ρ H a vs):Ls K ρ' H' a vs:=by
 rcases h with⟨h | ⟨o,h⟩,n⟩ | h
 ·exact .inl ⟨.inl (x.out h n).1,(x.out h n).2⟩
 ·exact .inl ⟨.inr ⟨o,(x.out h n).1⟩,(x.out h n).2⟩
 ·exact .inr h
theorem At.mv {K:Fg}{ρ ρ':Loc}{H H':Hp}(x:Mv ρ H ρ' H'){d:D}{v:V}(h:At K ρ H d v):At K ρ' H' d v :=
 At.rec (motive_1:=fun d v _=>At K ρ' H' d v) (motive_2:=fun d v _=>AtAll K ρ' H' d v) .non .bl .int .str .ty (fun h e=>.ref (xbg h x.len) fun a q=>e a (x.old _ a h q)) (fun h n _ ih=>.tup (x.out h n).1 (x.out h n).2 ih) (fun h n _ ih=>.lst (x.out h n).1 (x.out h n).2 ih) (fun h _ ih=>.scr (h.mv x) ih) (fun h=>.exn (h.map fun _ _ _ e n=>x.out e n)) .nil (fun _ _ a b=>.cons a b) h
theorem AtAll.mv {K:Fg}{ρ ρ':Loc}{H H':Hp}(x:Mv ρ H ρ' H'){d:List D}{v:List V}(h:AtAll K ρ H d v):AtAll K ρ' H' d v :=
 AtAll.rec (motive_1:=fun _ _ _=>True) (motive_2:=fun d v _=>AtAll K ρ' H' d v) trivial (fun _=>trivial) (fun _=>trivial) (fun _=>trivial) (fun _=>trivial) (fun _ _=>trivial) (fun _ _ _ _=>trivial) (fun _ _ _ _=>trivial) (fun _ _ _=>trivial) (fun _=>trivial) .nil (fun a _ _ b=>.cons (a.mv x) b) h
structure Ext (ρ:Loc) (H:Hp) (ρ':Loc) (H':Hp):Prop where
 len:ρ.m.length<=ρ'.m.length
 old:∀(n:Nat) (a:Addr),n < ρ.m.length->ρ'.m[n]?=some (some a)->ρ.m[n]?=some (some a)
 keep:∀a o,H a=some o->some a∉ρ.m->H' a=some o/\some a∉ρ'.m
 gho:ρ'.g=ρ.g
 frz:∀a ob u,H a=some (.frz ob u)->H' a=some (.frz ob u)
theorem Ext.out {ρ ρ':Loc}{H H':Hp}(x:Ext ρ H ρ' H'){a:Addr}{o:HO}(h:H a=some o)(n:Out ρ a):H' a=some o/\Out ρ' a :=
 ⟨(x.keep a o h n.1).1,(x.keep a o h n.1).2,by rw[x.gho];exact n.2⟩
theorem Ext.mv {ρ ρ':Loc}{H H':Hp}(x:Ext ρ H ρ' H'):Mv ρ H ρ' H':=⟨fun h n=>x.out h n,x.len,x.old⟩
theorem Ls.sq {K:Fg}{ρ:Loc}{H:Hp}{a:Addr}{vs:List V}(h:Ls K ρ H a vs):SqL K H a vs:=by
 rcases h with h | h
 ·exact .inl h.1
 ·exact h H
section
variable {K:Fg}
theorem Ext.refl (ρ:Loc)(H:Hp):Ext ρ H ρ H:=⟨xbf _,fun _ _ _ e=>e,fun _ _ e n=>⟨e,n⟩,rfl,fun _ _ _ e=>e⟩
theorem Ext.trans {ρ ρ1 ρ2:Loc}{H H1 H2:Hp}(a:Ext ρ H ρ1 H1)(b:Ext ρ1 H1 ρ2 H2):Ext ρ H ρ2 H2 :=
 ⟨xbb a.len b.len,fun n c h e=>a.old n c h (b.old n c (xbg h a.len) e),fun c o e n=>by
  obtain⟨e1,n1⟩:=a.keep c o e n
  exact b.keep c o e1 n1,b.gho.trans a.gho,fun c ob u e=>b.frz c ob u (a.frz c ob u e)⟩
theorem At.ext {ρ ρ':Loc}{H H':Hp}(x:Ext ρ H ρ' H'){d:D}{v:V}(h:At K ρ H d v):At K ρ' H' d v:=h.mv x.mv
theorem AtAll.ext {ρ ρ':Loc}{H H':Hp}(x:Ext ρ H ρ' H'){d:List D}{v:List V}(h:AtAll K ρ H d v):AtAll K ρ' H' d v:=h.mv x.mv
theorem AtAll.length {ρ:Loc}{H:Hp}:∀{ds:List D} {vs:List V},AtAll K ρ H ds vs->vs.length=ds.length
 | _,_,.nil=>rfl
 | _,_,.cons _ t=>by rw[xcg,xcg,AtAll.length t]
theorem AtAll.get {ρ:Loc}{H:Hp}:∀{ds:List D} {vs:List V} {i:Nat} {d:D},AtAll K ρ H ds vs->ds[i]?=some d->∃v,vs[i]?=some v/\At K ρ H d v
 | _,_,_,_,.nil,e=>by simp at e
 | _,_,0,_,.cons a _,e=>by simp at e;subst e;exact⟨_,rfl,a⟩
 | _,_,i+1,d,.cons _ t,e=>by
  obtain⟨u,h1,h2⟩:=AtAll.get (i:=i) (d:=d) t (by simpa using e);exact⟨u,by simpa using h1,h2⟩
theorem AtAll.append {ρ:Loc}{H:Hp}:∀{ds es:List D} {vs us:List V},AtAll K ρ H ds vs->AtAll K ρ H es us->AtAll K ρ H (ds++es) (vs++us)
 | _,_,_,_,.nil,b=>b
 | _,_,_,_,.cons a t,b=>.cons a (AtAll.append t b)
theorem AtAll.take {ρ:Loc}{H:Hp}:∀{ds:List D} {vs:List V} (n:Nat),AtAll K ρ H ds vs->AtAll K ρ H (ds.take n) (vs.take n)
 | _,_,0,_=>.nil
 | _,_,_+1,.nil=>.nil
 | _,_,n+1,.cons a t=>.cons a (AtAll.take n t)
theorem AtAll.drop {ρ:Loc}{H:Hp}:∀{ds:List D} {vs:List V} (n:Nat),AtAll K ρ H ds vs->AtAll K ρ H (ds.drop n) (vs.drop n)
 | _,_,0,h=>h
 | _,_,_+1,.nil=>.nil
 | _,_,n+1,.cons a t=>AtAll.drop n t
theorem AtAll.set {ρ:Loc}{H:Hp}{d:D}{v:V}(a:At K ρ H d v):∀{ds:List D} {vs:List V} (n:Nat),AtAll K ρ H ds vs->AtAll K ρ H (ds.set n d) (vs.set n v)
 | _,_,_,.nil=>.nil
 | _,_,0,.cons _ t=>.cons a t
 | _,_,n+1,.cons b t=>.cons b (AtAll.set a n t)
noncomputable def KvAt (K:Fg) (ρ:Loc) (H:Hp):List (List Int×D)->List (List Key×V)->Prop:=Paired fun p q=>q.1=p.1.map Sum.inl/\At K ρ H p.2 q.2
theorem KvAt.ext {ρ ρ':Loc}{H H':Hp}(x:Ext ρ H ρ' H'){a:List (List Int×D)}{b:List (List Key×V)}(h:KvAt K ρ H a b):KvAt K ρ' H' a b:=Paired.mapP h fun p q z=>⟨z.1,z.2.ext x⟩
noncomputable abbrev lamQ:Str:=(("law" : Str)++".<locals>.")++"<lambda>"
noncomputable def TabOk (H:Hp) (ps:Array Value):Prop:=TriplesOk ps.toList/\∀pos cv,codeAmong pos ps.toList=some cv->∃c oc vs t,cv=.ref c/\H c=some (.frz oc (.ext fun _=>True))/\oc.data=.fields vs/\vs[1]?=some (.str lamQ t)
theorem TabOk.map {H H':Hp}{ps:Array Value}(h:TabOk H ps)(f:∀b ob u,H b=some (.frz ob u)->H' b=some (.frz ob u)):TabOk H' ps :=
 ⟨h.1,fun pos cv e=>by obtain⟨c,oc,vs,t,e1,e2,e3⟩:=h.2 pos cv e;exact⟨c,oc,vs,t,e1,f _ _ _ e2,e3⟩⟩
noncomputable def OAt (K:Fg) (ρ:Loc) (H:Hp):O->Addr->Prop
 | .lst xs,a=>∃vs,H a=some (.lst vs)/\AtAll K ρ H xs vs
 | .dT kvs,a=>∃vs,H a=some (.dT vs)/\KvAt K ρ H kvs vs
 | .fT kvs,a=>∃vs ob,H a=some (.frz ob (.dT vs))/\KvAt K ρ H kvs vs
 | .dead,_=>False
 | .tab, a=>(∃ c, W.tabIn K "law"=some (c, a))/\∃ ps, H a=some (.tbl ps)/\TabOk H ps
structure Rep (K:Fg) (ρ:Loc) (st:Store) (H:Hp):Prop where
 len:ρ.m.length=st.length
 inj:∀(n m:Nat) (a:Addr),ρ.m[n]?=some (some a)->ρ.m[m]?=some (some a)->n=m
 obj:∀(n:Nat) (a:Addr) (o:O),ρ.m[n]?=some (some a)->st[n]?=some o->OAt K ρ H o a
 gh:∀a∈ρ.g,(∃vs,H a=some (.lst vs))/\some a∉ρ.m
 live:∀(n:Nat) (o:O),st[n]?=some o->o≠.dead->∃a,ρ.m[n]?=some (some a)
noncomputable def AtO (K:Fg) (ρ:Loc) (H:Hp) (o:Option D) (v:Option V):Prop:=∀d,o=some d->∃u,v=some u/\At K ρ H d u
noncomputable abbrev AtS (K:Fg) (ρ:Loc) (H:Hp):DS->St->Prop:=Paired (AtO K ρ H)
theorem AtS.ext {ρ ρ':Loc}{H H':Hp}(x:Ext ρ H ρ' H'){σ:DS}{τ:St}(h:AtS K ρ H σ τ):AtS K ρ' H' σ τ:=Paired.mapP h fun o v z d e=>by
 obtain⟨u,e1,a⟩:=z d e;exact⟨u,e1,a.ext x⟩
theorem AtS.get {ρ:Loc}{H:Hp}:∀{σ:DS} {τ:St} {i:Nat} {d:D},AtS K ρ H σ τ->σ[i]?=some (some d)->∃u,τ[i]?=some (some u)/\At K ρ H d u
 | _,_,_,_,.nil,e=>by simp at e
 | _,_,0,_,.cons a _,e=>by
  simp at e;subst e
  obtain⟨u,e1,h⟩:=a _ rfl;exact⟨u,by simp[e1],h⟩
 | _,_,i+1,d,.cons _ t,e=>by
  obtain⟨u,h1,h2⟩:=AtS.get (i:=i) (d:=d) t (by simpa using e);exact⟨u,by simpa using h1,h2⟩
theorem AtS.set {ρ:Loc}{H:Hp}{d:D}{v:V}(a:At K ρ H d v):∀{σ:DS} {τ:St} (i:Nat),AtS K ρ H σ τ->AtS K ρ H (σ.set i (some d)) (τ.set i (some v))
 | _,_,_,.nil=>.nil
 | _,_,0,.cons _ t=>.cons (fun d' e=>by cases e;exact⟨v,rfl,a⟩) t
 | _,_,i+1,.cons q t=>.cons q (AtS.set a i t)
end
noncomputable def tD (K:Fg) (f:SE):TE:=fun τ H Q=>∃ρ σ st v st',AtS K ρ H σ τ/\Rep K ρ st H/\f σ st=.ok v st'/\∀ρ' H' u,Ext ρ H ρ' H'->Rep K ρ' st' H'->At K ρ' H' v u->Q u H'
noncomputable def tDT (K:Fg) (f:ST):TT:=fun τ H Q=>∃ρ σ st v st',AtS K ρ H σ τ/\Rep K ρ st H/\f σ st=.ok v st'/\∀ρ' H',Ext ρ H ρ' H'->Rep K ρ' st' H'->Q v H'
noncomputable def tDA (K:Fg) (f:SA):TA:=fun τ H Q=>∃ρ σ st v st',AtS K ρ H σ τ/\Rep K ρ st H/\f σ st=.ok v st'/\∀ρ' H' u,Ext ρ H ρ' H'->Rep K ρ' st' H'->AtAll K ρ' H' v u->Q u H'
noncomputable def FlOk (K:Fg) (ρ:Loc) (H:Hp) (st':Store) (E:Ends):Fl->Prop
 | .nx σ=>∀ρ' H' τ,Ext ρ H ρ' H'->Rep K ρ' st' H'->AtS K ρ' H' σ τ->E.nx τ H'
 | .brk σ=>∀ρ' H' τ,Ext ρ H ρ' H'->Rep K ρ' st' H'->AtS K ρ' H' σ τ->E.bk τ H'
 | .ct σ=>∀ρ' H' τ,Ext ρ H ρ' H'->Rep K ρ' st' H'->AtS K ρ' H' σ τ->E.ct τ H'
 | .ret v=>∀ρ' H' u,Ext ρ H ρ' H'->Rep K ρ' st' H'->At K ρ' H' v u->E.rt u H'
theorem FlOk.ext {K:Fg}{ρ ρ1:Loc}{H H1:Hp}{st':Store}{E:Ends}{fl:Fl}(x:Ext ρ H ρ1 H1)(h:FlOk K ρ H st' E fl):FlOk K ρ1 H1 st' E fl:=by
 cases fl with
 | nx σ=>exact fun ρ' H' τ e=>h ρ' H' τ (x.trans e)
 | brk σ=>exact fun ρ' H' τ e=>h ρ' H' τ (x.trans e)
 | ct σ=>exact fun ρ' H' τ e=>h ρ' H' τ (x.trans e)
 | ret v=>exact fun ρ' H' τ e=>h ρ' H' τ (x.trans e)
noncomputable def tDS (K:Fg) (f:SS):TS:=fun E τ H=>∃ρ σ st fl st',AtS K ρ H σ τ/\Rep K ρ st H/\f σ st=.ok fl st'/\FlOk K ρ H st' E fl
noncomputable abbrev DE (X:Cx) (e:Expr) (f:SE):Prop:=PE X e (tD X.K f)
noncomputable abbrev DT (X:Cx) (e:Expr) (f:ST):Prop:=PT X e (tDT X.K f)
noncomputable abbrev DW (X:Cx) (e:Expr) (f:ST):Prop:=PW X e (tDT X.K f)
noncomputable abbrev DA (X:Cx) (es:List Expr) (f:SA):Prop:=PA X es (tDA X.K f)
noncomputable abbrev DSt (X:Cx) (s:Stmt) (f:SS):Prop:=PS X s (tDS X.K f)
noncomputable abbrev DSs (X:Cx) (s:List Stmt) (f:SS):Prop:=PSs X s (tDS X.K f)
section
variable {X:Cx}{e:Expr}{es:List Expr}{s:Stmt}{ss:List Stmt}
theorem zgh {t t':TE}(h:PE X e t)(k:∀σ H Q,t' σ H Q->t σ H Q):PE X e t':=fun aA s σ H Q I q=>h aA s σ H Q I (k _ _ _ q)
theorem zbcu {t t':TT}(h:PT X e t)(k:∀σ H Q,t' σ H Q->t σ H Q):PT X e t':=fun aA s σ H Q I q=>h aA s σ H Q I (k _ _ _ q)
theorem pw_to {t t':TT}(h:PW X e t)(k:∀σ H Q,t' σ H Q->t σ H Q):PW X e t':=fun wh aA s σ H Q I q=>h wh aA s σ H Q I (k _ _ _ q)
theorem zbll {t t':TA}(h:PA X es t)(k:∀σ H Q,t' σ H Q->t σ H Q):PA X es t':=fun pos aA s σ H Q I q=>h pos aA s σ H Q I (k _ _ _ q)
theorem zox {t t':TS}(h:PS X s t)(k:∀E σ H,t' E σ H->t E σ H):PS X s t':=fun aA z σ H E I q=>h aA z σ H E I (k _ _ _ q)
theorem zsf {t t':TS}(h:PSs X ss t)(k:∀E σ H,t' E σ H->t E σ H):PSs X ss t':=fun aA z σ H E I q=>h aA z σ H E I (k _ _ _ q)
end
noncomputable def eVar (i:Nat):SE:=fun σ st=>match σ[i]? with
 | some (some d)=>.ok d st
 | _=>.stuck
noncomputable def eC (d:D):SE:=fun _ st=>.ok d st
section
variable {X:Cx}
theorem zbna {e:Expr}{i:Nat}(h:PE X e (tVar i)):DE X e (eVar i):=zgh h fun τ H Q hq0=>by
 obtain⟨ρ,σ,st,v,st',a,r,e,q⟩:=hq0;unfold eVar at e;split at e
 ·rename_i d hd;cases e;obtain⟨u,e1,e2⟩:=a.get hd;exact⟨u,e1,q ρ H u (.refl _ _) r e2⟩
 ·cases e
theorem zbft {e:Expr}{v:V}{d:D}(h:PE X e (tC v))(k:∀ρ H,At X.K ρ H d v):DE X e (eC d):=zgh h fun τ H Q hq0=>by
 obtain⟨ρ,σ,st,v,st',a,r,e,q⟩:=hq0;cases e;exact q ρ H _ (.refl _ _) r (k _ _)
theorem zbni {i j pos}:DE X (.Constant (.int i) j pos) (eC (.int i)):=zbft zbid fun _ _=>.int i
theorem d_bl {b j pos}:DE X (.Constant (.bool b) j pos) (eC (.bl b)):=zbft zbmf fun _ _=>.bl b
theorem zbnf {j pos}:DE X (.Constant .none j pos) (eC .non):=zbft zbib fun _ _=>.non
theorem zbnc {x j pos}:DE X (.Constant (.str x) j pos) (eC (.str x)):=zbft zbhy fun _ _=>.str x
end
noncomputable def eOp (g:D->D->Store->Res D) (f f':SE):SE:=fun σ st=>(f σ st).bind fun x st1=>(f' σ st1).bind fun y st2=>g x y st2
noncomputable def eUn (g:D->Store->Res D) (f:SE):SE:=fun σ st=>(f σ st).bind fun x st1=>g x st1
noncomputable def OpD (K:Fg) (g:D->D->Store->Res D) (r:R2):Prop :=
 ∀ρ H st x y u v z st' (Q:VK),Rep K ρ st H->At K ρ H x u->At K ρ H y v->g x y st=.ok z st'->(∀ρ' H' w,Ext ρ H ρ' H'->Rep K ρ' st' H'->At K ρ' H' z w->Q w H')->r u v H Q
theorem zbgr {K:Fg}{g:D->D->Store->Res D}{r:R2}(hr:OpD K g r){f f':SE}:∀τ H Q,tD K (eOp g f f') τ H Q->tOp r (tD K f) (tD K f') τ H Q:=fun τ H Q hq0=>by
 obtain⟨ρ,σ,st,v,st',a,rp,e,q⟩:=hq0;obtain⟨x,st1,e1,e⟩:=zd e;obtain⟨y,st2,e2,e⟩:=zd e;refine⟨ρ,σ,st,x,st1,a,rp,e1,fun ρ1 H1 u x1 rp1 a1=>?_⟩;refine⟨ρ1,σ,st1,y,st2,a.ext x1,rp1,e2,fun ρ2 H2 w x2 rp2 a2=>?_⟩;exact hr ρ2 H2 st2 x y u w v st' Q rp2 (a1.ext x2) a2 e fun ρ' H' z x3 rp3 a3=>q ρ' H' z (x1.trans (x2.trans x3)) rp3 a3
section
variable {X:Cx}{a b c:Expr}{f f' f'':SE}{pos:Pos}
theorem d_op {op:Operator}{r:R2}{g:D->D->Store->Res D}(ho:OpR X (binaryOp op) r)(hr:OpD X.K g r)(ha:DE X a f)(hb:DE X b f'):DE X (.BinOp a op b pos) (eOp g f f'):=zgh (zbmd ho ha hb) (zbgr hr)
theorem zbnl {op:CmpOp}{r:R2}{g:D->D->Store->Res D}(ho:OpR X (compareOp op) r)(hr:OpD X.K g r)(ha:DE X a f)(hb:DE X b f')(hm:behindInMarks op b=false):DE X (.Compare a [op] [b] pos) (eOp g f f'):=zgh (zbdn ho ha hb hm) (zbgr hr)
noncomputable def eB (f:SE):ST:=fun σ st=>(f σ st).bind fun v st1=>match v with
 | .bl b=>.ok b st1
 | _=>.stuck
theorem eB_t {K:Fg}{f:SE}:∀τ H Q,tDT K (eB f) τ H Q->tD K f τ H fun x H1=>∃c,x=.bl c/\Q c H1:=fun τ H Q hq0=>by
 obtain⟨ρ,σ,st,v,st',a,rp,e,q⟩:=hq0;obtain⟨x,st1,e1,e⟩:=zd e;refine⟨ρ,σ,st,x,st1,a,rp,e1,fun ρ1 H1 u x1 rp1 a1=>?_⟩;cases x<;>try (cases e;done)
 cases e;cases a1;exact⟨_,rfl,q _ _ x1 rp1⟩
theorem zbjo {op:CmpOp}{r:R2}{g:D->D->Store->Res D}(ho:OpR X (compareOp op) r)(hr:OpD X.K g r)(ha:DE X a f)(hb:DE X b f')(hm:behindInMarks op b=false):DT X (.Compare a [op] [b] pos) (eB (eOp g f f')) :=
 zbcu (zbcv ho ha hb hm) fun τ H Q h=>zbgr hr _ _ _ (eB_t _ _ _ h)
noncomputable def eChain (g g':D->D->Store->Res D) (f f' f'':SE):SE:=fun σ st=>(f σ st).bind fun x st1=>(f' σ st1).bind fun y st2=>(g x y st2).bind fun z st3=>match z with
 | .bl true=>(f'' σ st3).bind fun w st4=>g' y w st4
 | .bl false=>.ok (.bl false) st3
 | _=>.stuck
theorem zbfy {K:Fg}{g g':D->D->Store->Res D}{r r':R2}(hr:OpD K g r)(hr':OpD K g' r'){f f' f'':SE}:∀τ H Q,tD K (eChain g g' f f' f'') τ H Q->tChain r r' (tD K f) (tD K f') (tD K f'') τ H Q:=fun τ H Q hq0=>by
 obtain⟨ρ,σ,st,v,st',a,rp,e,q⟩:=hq0;obtain⟨x,st1,e1,e⟩:=zd e;obtain⟨y,st2,e2,e⟩:=zd e;obtain⟨z,st3,e3,e⟩:=zd e;refine⟨ρ,σ,st,x,st1,a,rp,e1,fun ρ1 H1 u x1 rp1 a1=>?_⟩;refine⟨ρ1,σ,st1,y,st2,a.ext x1,rp1,e2,fun ρ2 H2 w x2 rp2 a2=>?_⟩;refine hr ρ2 H2 st2 x y u w z st3 _ rp2 (a1.ext x2) a2 e3 fun ρ3 H3 zz x3 rp3 a3=>?_
 have X3:=x1.trans (x2.trans x3);cases z<;>try (cases e;done)
 rename_i b;cases a3;refine⟨b,rfl,?_⟩;cases b with
 | true =>
  obtain⟨t,st4,e4,e⟩:=zd e;rw[if_pos rfl];refine⟨ρ3,σ,st3,t,st4,a.ext X3,rp3,e4,fun ρ4 H4 tt x4 rp4 a4=>?_⟩;exact hr' ρ4 H4 st4 y t w tt v st' Q rp4 (a2.ext (x3.trans x4)) a4 e fun ρ' H' zz x5 rp5 a5=>q ρ' H' zz (X3.trans (x4.trans x5)) rp5 a5
 | false =>
  cases e;rw[if_neg (by decide)];exact q ρ3 H3 _ X3 rp3 (.bl false)
end
end Dd
namespace Dd
open PySem L2
section
variable {K:Fg}{ρ:Loc}{st:Store}{H:Hp}{p a:Addr}{o:HO}{n:Nat}
theorem Ext.new (hp:H p=none)(o:HO):Ext ρ H ρ (upd H p o):=⟨xbf _,fun _ _ _ e=>e,fun b u e m=>⟨by rw[zm (zh e hp)];exact e,m⟩,rfl,fun b ob u e=>by rw[zm (zh e hp)];exact e⟩
theorem zla {vs:List V}(h:H a=some (.lst vs)):∀ob u,H a≠some (.frz ob u):=fun ob u z=>by rw[h] at z;cases z
theorem zkf {vs:List (List Key×V)}(h:H a=some (.dT vs)):∀ob u,H a≠some (.frz ob u):=fun ob u z=>by rw[h] at z;cases z
theorem Ext.wr (h:ρ.m[n]?=some (some a))(hz:∀ob u,H a≠some (.frz ob u))(o:HO):Ext ρ H ρ (upd H a o):=⟨xbf _,fun _ _ _ e=>e,fun b u e m=>⟨by
 rw[zm]
 ·exact e
 ·rintro rfl
  exact m (xcj h),m⟩,rfl,fun b ob u e=>by
 rw[zm]
 ·exact e
 ·rintro rfl
  exact hz _ _ e⟩
theorem OAt.has {x:O}(h:OAt K ρ H x a):∃u,H a=some u:=by
 cases x with
 | lst xs=>obtain⟨vs,e,_⟩:=h;exact⟨_,e⟩
 | dT kvs=>obtain⟨vs,e,_⟩:=h;exact⟨_,e⟩
 | fT kvs=>obtain⟨vs,ob,e,_⟩:=h;exact⟨_,e⟩
 | dead=>exact h.elim
 | tab=>obtain⟨_,ps,e,_⟩:=h;exact⟨_,e⟩
theorem OAt.ext {ρ':Loc}{H':Hp}{x:O}(e:Ext ρ H ρ' H')(same:H' a=H a)(h:OAt K ρ H x a):OAt K ρ' H' x a:=by
 cases x with
 | lst xs=>obtain⟨vs,q,r⟩:=h;exact⟨vs,by rw[same];exact q,r.ext e⟩
 | dT kvs=>obtain⟨vs,q,r⟩:=h;exact⟨vs,by rw[same];exact q,r.ext e⟩
 | fT kvs=>obtain⟨vs,ob,q,r⟩:=h;exact⟨vs,ob,by rw[same];exact q,r.ext e⟩
 | dead=>exact h.elim
 | tab=>obtain⟨c,ps,q,r⟩:=h;exact⟨c,ps,by rw[same];exact q,r.map e.frz⟩
theorem Rep.has (r:Rep K ρ st H)(h:ρ.m[n]?=some (some a)):∃x,st[n]?=some x/\OAt K ρ H x a:=by
 have hn:n < st.length:=by rw[← r.len];exact(xbk.mp h).1
 exact⟨st[n],xbh hn,r.obj n a _ h (xbh hn)⟩
theorem Rep.new (r:Rep K ρ st H)(hp:H p=none)(o:HO):Rep K ρ st (upd H p o):=⟨r.len,r.inj,fun m b x e1 e2=>by
 have q:=r.obj m b x e1 e2;obtain⟨u,hu⟩:=q.has;exact q.ext (Ext.new hp o) (zm (zh hu hp)),fun b hb=>by
 obtain⟨⟨u,hu⟩,n⟩:=r.gh b hb
 exact⟨⟨u,by rw[zm (zh hu hp)];exact hu⟩,n⟩,r.live⟩
theorem Rep.wr (r:Rep K ρ st H)(h:ρ.m[n]?=some (some a))(hz:∀ob u,H a≠some (.frz ob u)){x:O}{o:HO}(q:OAt K ρ (upd H a o) x a):Rep K ρ (st.set n x) (upd H a o):=⟨by rw[r.len,xeb],r.inj,fun m b y e1 e2=>by
 by_cases hm:m=n
 ·subst hm;have hb:b=a:=by rw[h] at e1;exact(xbw (xbw e1)).symm
  subst hb;have hl:m < st.length:=by rw[← r.len];exact(xbk.mp h).1
  rw[xgc hl] at e2;cases e2;exact q
 ·rw[xdq (xgb hm)] at e2;refine(r.obj m b y e1 e2).ext (Ext.wr h hz o) (zm fun z=>hm ?_);subst z;exact r.inj m n b e1 h,fun b hb=>by
 obtain⟨⟨u,hu⟩,n1⟩:=r.gh b hb;refine⟨⟨u,?_⟩,n1⟩;rw[zm]
 ·exact hu
 ·rintro rfl;exact n1 (xcj h),fun m y e ne=>by
 by_cases hm:m=n
 ·subst hm;exact⟨a,h⟩
 ·rw[xdq (xgb hm)] at e
  exact r.live m y e ne⟩
theorem Rep.alloc (r:Rep K ρ st H)(hp:H p=none){x:O}{o:HO}(q:Ext ρ H ⟨ρ.m++[some p],ρ.g⟩ (upd H p o)->OAt K ⟨ρ.m++[some p],ρ.g⟩ (upd H p o) x p):Ext ρ H ⟨ρ.m++[some p],ρ.g⟩ (upd H p o)/\Rep K ⟨ρ.m++[some p],ρ.g⟩ (st++[x]) (upd H p o):=by
 have hn:∀(m:Nat) (b:Addr),(ρ.m++[some p])[m]?=some (some b)->(m < ρ.m.length/\ρ.m[m]?=some (some b))\/(m=ρ.m.length/\b=p):=fun m b e=>by
  rcases xgu m ρ.m.length with z | z
  ·rw[xbs z] at e;exact .inl ⟨z,e⟩
  ·rw[xcd z] at e;have z2:m - ρ.m.length=0:=by
    have:=(xbk.mp e).1;simp at this;lia
   rw[z2] at e;simp at e;exact .inr ⟨by lia,e.symm⟩
 have nl:∀(m:Nat),ρ.m[m]?≠some (some p):=fun m e=>by
  obtain⟨x,_,q⟩:=r.has e;obtain⟨u,hu⟩:=q.has;rw[hp] at hu;cases hu
 have E:Ext ρ H ⟨ρ.m++[some p],ρ.g⟩ (upd H p o):=⟨by rw[xbq];lia,fun m b h e=>by
   rw[xbs h] at e;exact e,fun b u e m=>⟨by rw[zm (zh e hp)];exact e,fun z=>by
   rcases xby.mp z with z | z
   ·exact m z
   ·simp at z;subst z;rw[hp] at e;cases e⟩,rfl,fun b ob u e=>by rw[zm (zh e hp)];exact e⟩
 refine⟨E,⟨by rw[xbq,xbq,r.len];rfl,fun m k b e1 e2=>?_,fun m b y e1 e2=>?_,fun b hb=>?_,fun m y e ne=>?_⟩⟩
 ·rcases hn m b e1 with⟨h1,q1⟩ | ⟨h1,rfl⟩
  ·rcases hn k b e2 with⟨h2,q2⟩ | ⟨h2,rfl⟩
   ·exact r.inj m k b q1 q2
   ·exact absurd q1 (nl m)
  ·rcases hn k b e2 with⟨h2,q2⟩ | ⟨h2,_⟩
   ·exact absurd q2 (nl k)
   ·lia
 ·rcases hn m b e1 with⟨h1,q1⟩ | ⟨h1,rfl⟩
  ·rw[xbs (by rw[← r.len];exact h1)] at e2;have q:=r.obj m b y q1 e2;obtain⟨u,hu⟩:=q.has;exact q.ext E (zm (zh hu hp))
  ·rw[h1,r.len,xcd (xbf _)] at e2;simp at e2;subst e2;exact q E
 ·obtain⟨⟨u,hu⟩,n1⟩:=r.gh b hb;refine⟨⟨u,by rw[zm (zh hu hp)];exact hu⟩,fun z=>?_⟩;rcases xby.mp z with z | z
  ·exact n1 z
  ·simp at z;subst z;rw[hp] at hu;cases hu
 ·rcases xgu m st.length with z | z
  ·rw[xbs z] at e;obtain⟨b,hb⟩:=r.live m y e ne;exact⟨b,by rw[xbs (by rw[r.len];exact z)];exact hb⟩
  ·have z2:=(xbk.mp e).1;simp at z2;have z3:m=ρ.m.length:=by rw[r.len];lia
   exact⟨p,by rw[z3,xcd (xbf _)];simp⟩
theorem zfx (r:Rep K ρ st H)(hp:H p=none):Out ρ p:=by
 refine⟨fun z=>?_,fun z=>?_⟩
 ·obtain⟨i,hi,e⟩:=xfz z;obtain⟨x,_,q⟩:=r.has (n:=i) (a:=p) (by rw[xbh hi,e]);obtain⟨u,hu⟩:=q.has;rw[hp] at hu;cases hu
 ·obtain⟨⟨u,hu⟩,_⟩:=r.gh p z;rw[hp] at hu;cases hu
theorem At.newT (r:Rep K ρ st H)(hp:H p=none){ds:List D}{vs:List V}(h:AtAll K ρ H ds vs):At K ρ (upd H p (.tup vs)) (.tup ds) (.ref p):=.tup zj (zfx r hp) (h.ext (Ext.new hp _))
theorem At.newL (r:Rep K ρ st H)(hp:H p=none){ds:List D}{vs:List V}(h:AtAll K ρ H ds vs):At K ρ (upd H p (.lst vs)) (.lst ds) (.ref p):=.lst zj (zfx r hp) (h.ext (Ext.new hp _))
end
noncomputable def eAnd (f f':SE):SE:=fun σ st=>(f σ st).bind fun v st1=>match v with
 | .bl true=>f' σ st1
 | .bl false=>.ok (.bl false) st1
 | _=>.stuck
noncomputable def eOr (f f':SE):SE:=fun σ st=>(f σ st).bind fun v st1=>match v with
 | .bl true=>.ok (.bl true) st1
 | .bl false=>f' σ st1
 | _=>.stuck
noncomputable def eNot (f:SE):SE:=fun σ st=>(f σ st).bind fun v st1=>match v with
 | .bl b=>.ok (.bl (!b)) st1
 | _=>.stuck
noncomputable def bAnd (f f':ST):ST:=fun σ st=>(f σ st).bind fun b st1=>if b=true then f' σ st1 else .ok false st1
noncomputable def bOr (f f':ST):ST:=fun σ st=>(f σ st).bind fun b st1=>if b=true then .ok true st1 else f' σ st1
noncomputable def bNot (f:ST):ST:=fun σ st=>(f σ st).bind fun b st1=>.ok (!b) st1
noncomputable def eIf (c:ST) (f f':SE):SE:=fun σ st=>(c σ st).bind fun b st1=>if b=true then f σ st1 else f' σ st1
section
variable {X:Cx}{a b:Expr}{rest:List Expr}{f f':SE}{t t':ST}{pos:Pos}
theorem zbnd {op}(h:DE X a f):DE X (.BoolOp op [a] pos) f:=zbhz h
theorem zbnn (ha:DE X a f)(hb:DE X (.BoolOp .And (b::rest) pos) f'):DE X (.BoolOp .And (a::b::rest) pos) (eAnd f f'):=zgh (zbif ha hb) fun τ H Q hq0=>by
 obtain⟨ρ,σ,st,v,st',at',rp,e,q⟩:=hq0;obtain⟨x,st1,e1,e⟩:=zd e;refine⟨ρ,σ,st,x,st1,at',rp,e1,fun ρ1 H1 u x1 rp1 a1=>?_⟩;cases x<;>try (cases e;done)
 rename_i bb;cases a1;refine⟨bb,rfl,?_⟩;cases bb with
 | true =>
  rw[if_pos rfl];exact⟨ρ1,σ,st1,v,st',at'.ext x1,rp1,e,fun ρ' H' u x2=>q ρ' H' u (x1.trans x2)⟩
 | false =>
  rw[if_neg (by decide)];cases e;exact q _ _ _ x1 rp1 (.bl false)
theorem zbne (ha:DE X a f):DE X (.UnaryOp .Not a pos) (eNot f):=zgh (zbia ha) fun τ H Q hq0=>by
 obtain⟨ρ,σ,st,v,st',at',rp,e,q⟩:=hq0;obtain⟨x,st1,e1,e⟩:=zd e;refine⟨ρ,σ,st,x,st1,at',rp,e1,fun ρ1 H1 u x1 rp1 a1=>?_⟩;cases x<;>try (cases e;done)
 rename_i bb;cases a1;cases e;exact⟨bb,rfl,q _ _ _ x1 rp1 (.bl _)⟩
theorem zbjj {op}(h:DT X a t)(hop:op=.And\/op=.Or):DW X (.BoolOp op [a] pos) t:=by
 rcases hop with rfl | rfl
 ·exact pw_and1 h
 ·exact pw_or1 h
theorem zbjk (ha:DT X a t)(hb:DW X (.BoolOp .And (b::rest) pos) t'):DW X (.BoolOp .And (a::b::rest) pos) (bAnd t t'):=pw_to (pw_and ha hb) fun τ H Q hq0=>by
 obtain⟨ρ,σ,st,v,st',at',rp,e,q⟩:=hq0;obtain⟨x,st1,e1,e⟩:=zd e;refine⟨ρ,σ,st,x,st1,at',rp,e1,fun ρ1 H1 x1 rp1=>?_⟩;cases x with
 | true=>exact iteT ⟨ρ1,σ,st1,v,st',at'.ext x1,rp1,e,fun ρ' H' x2=>q ρ' H' (x1.trans x2)⟩
 | false=>cases e;exact iteF (q _ _ x1 rp1)
theorem zbmw (ha:DT X a t)(hb:DW X (.BoolOp .Or (b::rest) pos) t'):DW X (.BoolOp .Or (a::b::rest) pos) (bOr t t'):=pw_to (pw_or ha hb) fun τ H Q hq0=>by
 obtain⟨ρ,σ,st,v,st',at',rp,e,q⟩:=hq0;obtain⟨x,st1,e1,e⟩:=zd e;refine⟨ρ,σ,st,x,st1,at',rp,e1,fun ρ1 H1 x1 rp1=>?_⟩;cases x with
 | false=>exact iteF ⟨ρ1,σ,st1,v,st',at'.ext x1,rp1,e,fun ρ' H' x2=>q ρ' H' (x1.trans x2)⟩
 | true=>cases e;exact iteT (q _ _ x1 rp1)
theorem zbjm (ha:DT X a t):DT X (.UnaryOp .Not a pos) (bNot t):=zbcu (zbho ha) fun τ H Q hq0=>by
 obtain⟨ρ,σ,st,v,st',at',rp,e,q⟩:=hq0;obtain⟨x,st1,e1,e⟩:=zd e;cases e;exact⟨ρ,σ,st,x,_,at',rp,e1,fun ρ1 H1 x1 rp1=>q _ _ x1 rp1⟩
theorem d_if {c:Expr}(hc:DT X c t)(ha:DE X a f)(hb:DE X b f'):DE X (.IfExp c a b pos) (eIf t f f'):=zgh (zzo hc ha hb) fun τ H Q hq0=>by
 obtain⟨ρ,σ,st,v,st',at',rp,e,q⟩:=hq0;obtain⟨x,st1,e1,e⟩:=zd e;refine⟨ρ,σ,st,x,st1,at',rp,e1,fun ρ1 H1 x1 rp1=>?_⟩;cases x with
 | true=>exact iteT ⟨ρ1,σ,st1,v,st',at'.ext x1,rp1,e,fun ρ' H' u x2=>q ρ' H' u (x1.trans x2)⟩
 | false=>exact iteF ⟨ρ1,σ,st1,v,st',at'.ext x1,rp1,e,fun ρ' H' u x2=>q ρ' H' u (x1.trans x2)⟩
end
noncomputable def aNil:SA:=fun _ st=>.ok [] st
noncomputable def aCons (f:SE) (g:SA):SA:=fun σ st=>(f σ st).bind fun x st1=>(g σ st1).bind fun xs st2=>.ok (x::xs) st2
noncomputable def eTup (g:SA):SE:=fun σ st=>(g σ st).bind fun xs st1=>if xs.length<=sizeLine then .ok (.tup xs) st1 else .stuck
noncomputable def eLst (g:SA):SE:=fun σ st=>(g σ st).bind fun xs st1=>if xs.length<=sizeLine then .ok (.lst xs) st1 else .stuck
noncomputable def eLstM (g:SA):SE:=fun σ st=>(g σ st).bind fun xs st1=>if xs.length<=sizeLine then .ok (.ref st1.length) (st1++[.lst xs]) else .stuck
section
variable {X:Cx}{e:Expr}{es:List Expr}{f:SE}{g:SA}{pos:Pos}
theorem zbjz:DA X [] aNil:=zbll zvi fun τ H Q hq0=>by
 obtain⟨ρ,σ,st,v,st',a,rp,e,q⟩:=hq0;cases e;exact q _ _ _ (.refl _ _) rp .nil
theorem zbfn (ha:DE X e f)(hr:DA X es g)(hs:starEach (e::es) X.env=(false,eval e X.env)::starEach es X.env:=by rfl):DA X (e::es) (aCons f g):=zbll (zkc ha hr hs) fun τ H Q hq0=>by
 obtain⟨ρ,σ,st,v,st',a,rp,e,q⟩:=hq0;obtain⟨x,st1,e1,e⟩:=zd e;obtain⟨y,st2,e2,e⟩:=zd e;cases e;refine⟨ρ,σ,st,x,st1,a,rp,e1,fun ρ1 H1 u x1 rp1 a1=>?_⟩;exact⟨ρ1,σ,st1,y,_,a.ext x1,rp1,e2,fun ρ2 H2 w x2 rp2 a2=>q _ _ _ (x1.trans x2) rp2 (.cons (a1.ext x2) a2)⟩
theorem zbnb {x1}(h:DA X es g):DE X (.Tuple es x1 pos) (eTup g):=zgh (zbhx h) fun τ H Q hq0=>by
 obtain⟨ρ,σ,st,v,st',a,rp,e,q⟩:=hq0;obtain⟨x,st1,e1,e⟩:=zd e;split at e
 ·rename_i hl;cases e;refine⟨ρ,σ,st,x,_,a,rp,e1,fun ρ1 H1 u x1 rp1 a1=>⟨by rw[a1.length];exact hl,fun p hp=>?_⟩⟩;exact q ρ1 _ _ (x1.trans (Ext.new hp _)) (rp1.new hp _) (.newT rp1 hp a1)
 ·cases e
theorem zbnh (h:DA X es g):DE X (.List es pos) (eLst g):=zgh (zbdj h) fun τ H Q hq0=>by
 obtain⟨ρ,σ,st,v,st',a,rp,e,q⟩:=hq0;obtain⟨x,st1,e1,e⟩:=zd e;split at e
 ·rename_i hl;cases e;refine⟨ρ,σ,st,x,_,a,rp,e1,fun ρ1 H1 u x1 rp1 a1=>⟨by rw[a1.length];exact hl,fun p hp=>?_⟩⟩;exact q ρ1 _ _ (x1.trans (Ext.new hp _)) (rp1.new hp _) (.newL rp1 hp a1)
 ·cases e
theorem At.last {K:Fg}{ρ:Loc}{H:Hp}{p:Addr}{n:Nat}(h:n=ρ.m.length):At K ⟨ρ.m++[some p],ρ.g⟩ H (.ref n) (.ref p):=by
 subst h;refine .ref (by simp) fun a e=>?_
 simp at e;rw[e]
theorem zbkc (h:DA X es g):DE X (.List es pos) (eLstM g):=zgh (zbdj h) fun τ H Q hq0=>by
 obtain⟨ρ,σ,st,v,st',a,rp,e,q⟩:=hq0;obtain⟨x,st1,e1,e⟩:=zd e;split at e
 ·rename_i hl;cases e;refine⟨ρ,σ,st,x,_,a,rp,e1,fun ρ1 H1 u x1 rp1 a1=>⟨by rw[a1.length];exact hl,fun p hp=>?_⟩⟩;obtain⟨E,R⟩:=rp1.alloc hp (x:=.lst x) (o:=.lst u) fun E=>⟨u,zj,a1.ext E⟩
  exact q _ _ _ (x1.trans E) R (.last rp1.len.symm)
 ·cases e
end
noncomputable def asL (st:Store):D->Option (List D)
 | .lst xs=>some xs
 | .ref n=>match st[n]? with
  | some (.lst xs)=>some xs
  | _=>none
 | _=>none
section
variable {K:Fg}{ρ:Loc}{st:Store}{H:Hp}{d:D}{u:V}{xs:List D}
theorem zji (rp:Rep K ρ st H){n:Nat}{o:O}(a:At K ρ H (.ref n) u)(e:st[n]?=some o)(hd:o≠.dead):∃p,u=.ref p/\ρ.m[n]?=some (some p)/\OAt K ρ H o p:=by
 cases a with
 | ref h1 h2 =>
  obtain⟨p,hp⟩:=rp.live n o e hd;exact⟨p,h2 p hp,hp,rp.obj n p o hp e⟩
theorem zhl (rp:Rep K ρ st H)(a:At K ρ H d u)(e:asL st d=some xs):∃p vs,u=.ref p/\H p=some (.lst vs)/\AtAll K ρ H xs vs:=by
 cases d<;>try (cases e;done)
 ·rename_i n;unfold asL at e;dsimp only at e;split at e
  ·rename_i ys hys;cases e;obtain⟨p,rfl,hp,vs,q1,q2⟩:=zji rp a hys (by intro z;cases z);exact⟨p,vs,rfl,q1,q2⟩
  ·cases e
 ·cases e;cases a with
  | lst h1 h2 h3=>exact⟨_,_,rfl,h1,h3⟩
end
noncomputable def oI (C:Int->Int->Prop) [DecidableRel C] (h:Int->Int->D) (x y:D) (st:Store):Res D:=match x,y with
 | .int i,.int j=>if C i j then .ok (h i j) st else .stuck
 | _,_=>.stuck
theorem oI_D {K:Fg}{C:Int->Int->Prop}[DecidableRel C]{h:Int->Int->D}{g:Int->Int->V}(k:∀i j ρ H,At K ρ H (h i j) (g i j)):OpD K (oI C h) (rI C g):=fun ρ H st x y u v z st' Q rp a b e q=>by
 unfold oI at e;split at e
 ·cases a;cases b;split at e
  ·rename_i hc;cases e;exact⟨_,_,rfl,rfl,hc,q _ _ _ (.refl _ _) rp (k _ _ _ _)⟩
  ·cases e
 ·cases e
theorem zhc {K:Fg}{h:Int->Int->D}{g:Int->Int->V}(k:∀i j ρ H,At K ρ H (h i j) (g i j)):OpD K (oI (fun _ _=>True) h) (rI0 g):=fun ρ H st x y u v z st' Q rp a b e q=>by
 obtain⟨i,j,e1,e2,_,e3⟩:=oI_D (C:=fun _ _=>True) k ρ H st x y u v z st' Q rp a b e q;exact⟨i,j,e1,e2,e3⟩
noncomputable instance:DecidableRel CMul:=fun i j=>by unfold CMul;infer_instance
noncomputable instance:DecidableRel CDivP:=fun i j=>by unfold CDivP;infer_instance
noncomputable instance:DecidableRel CPow:=fun i j=>by unfold CPow;infer_instance
noncomputable abbrev oSub:=oI (fun _ _=>True) fun i j=>.int (i - j)
noncomputable abbrev oFdiv:=oI CDivP fun i j=>.int (i / j)
noncomputable abbrev oMod:=oI (fun _ j=>0 < j) fun i j=>.int (i % j)
noncomputable abbrev oAndI:=oI (fun _ _=>True) fun i j=>.int (Builtin.bitAnd i j)
noncomputable abbrev oPow:=oI CPow fun i j=>.int (i ^ j.toNat)
noncomputable abbrev oMulI:=oI CMul fun i j=>.int (i * j)
noncomputable def oAdd (x y:D) (st:Store):Res D:=match x,y with
 | .int i,.int j=>.ok (.int (i+j)) st
 | .tup a,.tup b=>if a.length+b.length<=sizeLine then .ok (.tup (a++b)) st else .stuck
 | .str a,.str b=>if a.length+b.length<=sizeLine then .ok (.str (a++b)) st else .stuck
 | x,y=>match asL st x,asL st y with
  | some a,some b=>if a.length+b.length<=sizeLine then .ok (.lst (a++b)) st else .stuck
  | _,_=>.stuck
noncomputable abbrev rAddA (K:Fg):R2:=fun x y H Q=>rI0 (fun i j=>.int (i+j)) x y H Q\/rCatA K x y H Q\/(∃i j,x=.str i/\y=.str j/\i.length+j.length<=sizeLine/\Q (.str (i++j)) H)\/rCat x y H Q
section
variable {X:Cx}
theorem zt:OpR X (binaryOp .Add) (rAddA X.K):=zbim.or (zbdt.or (zsn.or zbik))
theorem zbg {K:Fg}:OpD K oAdd (rAddA K):=fun ρ H st x y u v z st' Q rp a b e q=>by
 unfold oAdd at e;split at e
 ·cases a;cases b;cases e;exact .inl ⟨_,_,rfl,rfl,q _ _ _ (.refl _ _) rp (.int _)⟩
 ·rename_i ds es;split at e
  ·rename_i hl;cases e;refine .inr (.inl ?_);cases a with
   | tup h1 h2 h3 =>
    cases b with
    | tup k1 k2 k3 =>
     refine⟨_,_,_,_,rfl,rfl,SqT.of h1,SqT.of k1,by rw[h3.length,k3.length];exact hl,fun z=>?_,fun z1 z2=>?_,fun z1 z2 p hp=>?_⟩
     ·subst z;cases h3;exact q _ _ _ (.refl _ _) rp (.tup k1 k2 k3)
     ·subst z2;cases k3;rw[xdr] at q;exact q _ _ _ (.refl _ _) rp (.tup h1 h2 h3)
     ·exact q _ _ _ (Ext.new hp _) (rp.new hp _) (.newT rp hp (h3.append k3))
  ·cases e
 ·split at e
  ·rename_i hl;cases a;cases b;cases e;exact .inr (.inr (.inl ⟨_,_,rfl,rfl,hl,q _ _ _ (.refl _ _) rp (.str _)⟩))
  ·cases e
 ·split at e
  ·rename_i h1 h2;split at e
   ·rename_i hl;cases e;obtain⟨p,vs,rfl,g1,g2⟩:=zhl rp a h1;obtain⟨p',ws,rfl,k1,k2⟩:=zhl rp b h2;exact .inr (.inr (.inr ⟨_,_,_,_,rfl,rfl,g1,k1,by rw[g2.length,k2.length];exact hl,fun t ht=>q _ _ _ (Ext.new ht _) (rp.new ht _) (.newL rp ht (g2.append k2))⟩))
   ·cases e
  ·cases e
end
noncomputable abbrev oLe:=oI (fun _ _=>True) fun i j=>.bl (decide (i<=j))
noncomputable abbrev oGt:=oI (fun _ _=>True) fun i j=>.bl (decide (j < i))
mutual
noncomputable def toData:D->Option PyData
 | .non=>some .none
 | .bl b=>some (.bool b)
 | .int i=>some (.int i)
 | .str x=>some (.str x)
 | .tup ds=>(toDatas ds).map .tuple
 | .lst ds=>(toDatas ds).map .list
 | _=>none
noncomputable def toDatas:List D->Option (List PyData)
 | []=>some []
 | d::ds=>(toData d).bind fun x=>(toDatas ds).map fun xs=>x::xs
end
mutual
theorem zya {K:Fg}{ρ:Loc}{H:Hp}:∀{d:D} {v:V} {p:PyData},At K ρ H d v->toData d=some p->DAt K H v p
 | _,_,_,.non,e=>by cases e;exact .non
 | _,_,_,.bl b,e=>by cases e;exact .bl b
 | _,_,_,.int i,e=>by cases e;exact .int i
 | _,_,_,.str x,e=>by cases e;exact .str x
 | _,_,_,.ty n,e=>by cases e
 | _,_,_,.exn _,e=>by cases e
 | _,_,_,.ref _ _,e=>by cases e
 | _,_,_,.tup h _ al,e=>by
  rw[toData] at e;obtain⟨ps,e1,rfl⟩:=xcw.mp e;exact .tup (SqT.of h) (zlj al e1)
 | _,_,_,.lst h _ al,e=>by
  rw[toData] at e;obtain⟨ps,e1,rfl⟩:=xcw.mp e;exact .lst (SqL.of h) (zlj al e1)
 | _,_,_,.scr _ _,e=>by cases e
theorem zlj {K:Fg}{ρ:Loc}{H:Hp}:∀{d:List D} {v:List V} {p:List PyData},AtAll K ρ H d v->toDatas d=some p->DAll K H v p
 | _,_,_,.nil,e=>by cases e;exact .nil
 | _,_,_,.cons a b,e=>by
  rw[toDatas] at e;obtain⟨x,e1,e⟩:=xes.mp e;obtain⟨xs,e2,rfl⟩:=xcw.mp e;exact .cons (zya a e1) (zlj b e2)
end
noncomputable def now (st:Store) (d:D):D:=match asL st d with
 | some xs=>.lst xs
 | none=>d
noncomputable def dataOf (st:Store) (d:D):Option PyData:=toData (now st d)
theorem zex {K:Fg}{ρ:Loc}{st:Store}{H:Hp}(rp:Rep K ρ st H){d:D}{u:V}{p:PyData}(a:At K ρ H d u)(e:dataOf st d=some p):DAt K H u p:=by
 unfold dataOf now at e;split at e
 ·rename_i xs hx;obtain⟨q,vs,rfl,h1,h2⟩:=zhl rp a hx;rw[toData] at e;obtain⟨ps,e1,rfl⟩:=xcw.mp e;exact .lst (SqL.of h1) (zlj h2 e1)
 ·exact zya a e
noncomputable def oEqG (neg:Bool) (x y:D) (st:Store):Res D:=match dataOf st x,dataOf st y with
 | some a,some b=>if PySem.SeqAt.shaped a=true/\PySem.SeqAt.shaped b=true then .ok (.bl (if neg then !PyData.eqv a b else PyData.eqv a b)) st else .stuck
 | _,_=>.stuck
theorem zvn {K:Fg}{neg:Bool}:OpD K (oEqG neg) (rEqX K neg):=fun ρ H st x y u v z st' Q rp a b e q=>by
 unfold oEqG at e;split at e
 ·rename_i p1 p2 h1 h2;split at e
  ·rename_i hs;cases e;exact⟨_,_,zex rp a h1,zex rp b h2,hs.1,hs.2,q _ _ _ (.refl _ _) rp (.bl _)⟩
  ·cases e
 ·cases e
noncomputable abbrev oEq:=oEqG false
noncomputable abbrev oNe:=oEqG true
noncomputable def asInts:List D->Option (List Int)
 | []=>some []
 | .int i::r=>(asInts r).map (i::·)
 | _::_=>none
theorem zey {K:Fg}{ρ:Loc}{H:Hp}:∀{ds:List D} {vs:List V} {ns:List Int},AtAll K ρ H ds vs->asInts ds=some ns->vs=ns.map V.int
 | _,_,_,.nil,e=>by cases e;rfl
 | _,_,_,.cons (d:=d) a b,e=>by
  cases d<;>try (cases e;done)
  rw[asInts] at e;obtain⟨ms,e1,rfl⟩:=xcw.mp e;cases a;rw[zey b e1]
  rfl
noncomputable def oLtT (x y:D) (st:Store):Res D:=match x,y with
 | .int i,.int j=>.ok (.bl (decide (i < j))) st
 | .tup a,.tup b=>match asInts a,asInts b with
  | some ns,some ms=>.ok (.bl (HT.lexLt ns ms)) st
  | _,_=>.stuck
 | _,_=>.stuck
noncomputable abbrev rLtA (K:Fg):R2:=fun x y H Q=>rI0 (fun i j=>.bl (decide (i < j))) x y H Q\/rLtT K x y H Q
theorem zly {X:Cx}(hu:X.A.units < cLine):OpR X (compareOp .Lt) (rLtA X.K):=zbmi.or (zbii hu)
theorem zma {K:Fg}:OpD K oLtT (rLtA K):=fun ρ H st x y u v z st' Q rp a b e q=>by
 unfold oLtT at e;split at e
 ·cases a;cases b;cases e
  exact .inl ⟨_,_,rfl,rfl,q _ _ _ (.refl _ _) rp (.bl _)⟩
 ·split at e
  ·rename_i h1 h2;cases e;cases a with
   | tup g1 g2 g3 =>
    cases b with
    | tup k1 k2 k3 =>
     have e1:=zey g3 h1;have e2:=zey k3 h2;subst e1 e2;exact .inr ⟨_,_,_,_,rfl,rfl,SqT.of g1,SqT.of k1,q _ _ _ (.refl _ _) rp (.bl _)⟩
  ·cases e
 ·cases e
noncomputable def seqOf (st:Store):D->Option (List D)
 | .tup xs=>some xs
 | .scr xs=>some xs
 | d=>asL st d
theorem zks {K:Fg}{ρ:Loc}{st:Store}{H:Hp}(rp:Rep K ρ st H){d:D}{u:V}{xs:List D}(a:At K ρ H d u)(e:seqOf st d=some xs) :
  ∃p vs,u=.ref p/\(SqL K H p vs\/SqT K H p vs)/\AtAll K ρ H xs vs:=by
 unfold seqOf at e;split at e
 ·cases e;cases a with
  | tup h1 h2 h3=>exact⟨_,_,rfl,.inr (SqT.of h1),h3⟩
 ·cases e;cases a with
  | scr h1 h3=>exact⟨_,_,rfl,.inl h1.sq,h3⟩
 ·obtain⟨p,vs,rfl,h1,h2⟩:=zhl rp a e;exact⟨p,vs,rfl,.inl (SqL.of h1),h2⟩
theorem AtAll.atI {K:Fg}{ρ:Loc}{H:Hp}{ds:List D}{vs:List V}{i:Int}{d:D}(h:AtAll K ρ H ds vs)(e:L2.atI ds i=some d):∃v,L2.atI vs i=some v/\At K ρ H d v:=by
 unfold L2.atI at e ⊢;rw[h.length];cases hi:ixN ds.length i with
 | none=>rw[hi] at e;cases e
 | some j =>
  rw[hi] at e;obtain⟨v,e1,e2⟩:=h.get (i:=j) e;exact⟨v,e1,e2⟩
noncomputable def oIx (x y:D) (st:Store):Res D:=match seqOf st x,y with
 | some xs,.int i=>match L2.atI xs i with
  | some v=>.ok v st
  | none=>.stuck
 | _,_=>.stuck
theorem zbmn {K:Fg}:OpD K oIx (rIx K):=fun ρ H st x y u v z st' Q rp a b e q=>by
 unfold oIx at e;split at e
 ·rename_i h1;split at e
  ·rename_i w hw;cases e;cases b;obtain⟨p,vs,rfl,h2,h3⟩:=zks rp a h1;obtain⟨w',e2,a2⟩:=h3.atI hw;rcases h2 with h2 | h2
   ·exact .inl ⟨_,_,_,_,rfl,rfl,h2,e2,q _ _ _ (.refl _ _) rp a2⟩
   ·exact .inr (.inl ⟨_,_,_,_,rfl,rfl,h2,e2,q _ _ _ (.refl _ _) rp a2⟩)
  ·cases e
 ·cases e
noncomputable def cutD (xs:List D) (lo hi:Option Int):List D:=(xs.drop (HT.sIx xs.length 0 lo)).take (HT.sIx xs.length xs.length hi - HT.sIx xs.length 0 lo)
theorem AtAll.cut {K:Fg}{ρ:Loc}{H:Hp}{ds:List D}{vs:List V}(h:AtAll K ρ H ds vs)(lo hi:Option Int):AtAll K ρ H (cutD ds lo hi) (cutV vs lo hi):=by
 unfold cutD cutV;rw[h.length];exact(h.drop _).take _
noncomputable def pNone:DS->Store->Res (Option Int):=fun _ st=>.ok none st
noncomputable def pSome (f:SE):DS->Store->Res (Option Int):=fun σ st=>(f σ st).bind fun v st1=>match v with
 | .int i=>.ok (some i) st1
 | _=>.stuck
noncomputable def eSl (f:SE) (lo hi:DS->Store->Res (Option Int)):SE:=fun σ st=>(f σ st).bind fun x st1=>(lo σ st1).bind fun l st2=>(hi σ st2).bind fun h st3=>match x with
 | .tup xs=>.ok (.tup (cutD xs l h)) st3
 | x=>match asL st3 x with
  | some xs=>.ok (.lst (cutD xs l h)) st3
  | none=>.stuck
noncomputable def tDO (K:Fg) (f:DS->Store->Res (Option Int)):TO:=fun τ H Q=>∃ρ σ st v st',AtS K ρ H σ τ/\Rep K ρ st H/\f σ st=.ok v st'/\∀ρ' H',Ext ρ H ρ' H'->Rep K ρ' st' H'->Q v H'
noncomputable abbrev DO (X:Cx) (e:Option Expr) (f:DS->Store->Res (Option Int)):Prop:=PO X e (tDO X.K f)
section
variable {X:Cx}{a b e:Expr}{f f':SE}{pos:Pos}{lo hi:Option Expr}{l h:DS->Store->Res (Option Int)}
theorem zblk {t t':TO}{e:Option Expr}(h:PO X e t)(k:∀σ H Q,t' σ H Q->t σ H Q):PO X e t':=fun aA s σ H Q I q=>h aA s σ H Q I (k _ _ _ q)
theorem zbfg:DO X none pNone:=zblk zbdd fun τ H Q hq0=>by
 obtain⟨ρ,σ,st,v,st',a,rp,e,q⟩:=hq0;cases e;exact q _ _ (.refl _ _) rp
theorem zbff (he:DE X e f):DO X (some e) (pSome f):=zblk (zbdc he) fun τ H Q hq0=>by
 obtain⟨ρ,σ,st,v,st',a,rp,e,q⟩:=hq0;obtain⟨x,st1,e1,e⟩:=zd e;refine⟨ρ,σ,st,x,st1,a,rp,e1,fun ρ1 H1 u x1 rp1 a1=>?_⟩;cases x<;>try (cases e;done)
 cases e;cases a1;exact⟨_,rfl,q _ _ x1 rp1⟩
theorem d_ix (ha:DE X a f)(hb:DE X b f')(hs:PlainIx b):DE X (.Subscript a b pos) (eOp oIx f f'):=zgh (zbme zbiz ha hb hs) (zbgr zbmn)
theorem d_sl {p2:Pos}(he:DE X e f)(hl:DO X lo l)(hu:DO X hi h):DE X (.Subscript e (.Slice lo hi none p2) pos) (eSl f l h):=zgh (zzm (zbcm.or zbcn) he hl hu) fun τ H Q hq0=>by
 obtain⟨ρ,σ,st,v,st',a,rp,e,q⟩:=hq0;obtain⟨x,st1,e1,e⟩:=zd e;obtain⟨y,st2,e2,e⟩:=zd e;obtain⟨z,st3,e3,e⟩:=zd e;refine⟨ρ,σ,st,x,st1,a,rp,e1,fun ρ1 H1 u x1 rp1 a1=>?_⟩;refine⟨ρ1,σ,st1,y,st2,a.ext x1,rp1,e2,fun ρ2 H2 x2 rp2=>?_⟩;refine⟨ρ2,σ,st2,z,st3,a.ext (x1.trans x2),rp2,e3,fun ρ3 H3 x3 rp3=>?_⟩;have a3:=a1.ext (x2.trans x3);have X3:=x1.trans (x2.trans x3);split at e
 ·cases e;refine .inl ?_;cases a3 with
  | tup h1 h2 h3 =>
   refine⟨_,_,rfl,SqT.of h1,fun ec=>?_,fun p hp=>?_⟩
   ·refine q _ _ _ X3 rp3 (.tup h1 h2 ?_);have:=h3.cut y z;rw[ec] at this;exact this
   ·exact q _ _ _ (X3.trans (Ext.new hp _)) (rp3.new hp _) (.newT rp3 hp (h3.cut y z))
 ·split at e
  ·rename_i xs hx;cases e;obtain⟨p,vs,rfl,g1,g2⟩:=zhl rp3 a3 hx;exact .inr ⟨_,_,rfl,SqL.of g1,fun p hp=>q _ _ _ (X3.trans (Ext.new hp _)) (rp3.new hp _) (.newL rp3 hp (g2.cut y z))⟩
  ·cases e
end
end Dd
namespace Dd
open PySem L2
noncomputable def eCall (g:List D->Store->Res D) (f:SA):SE:=fun σ st=>(f σ st).bind fun xs st1=>g xs st1
noncomputable def CaD (K:Fg) (g:List D->Store->Res D) (r:List V->Hp->VK->Prop):Prop :=
 ∀ρ H st xs us z st' (Q:VK),Rep K ρ st H->AtAll K ρ H xs us->g xs st=.ok z st'->(∀ρ' H' w,Ext ρ H ρ' H'->Rep K ρ' st' H'->At K ρ' H' z w->Q w H')->r us H Q
theorem zblu {K:Fg}{g:List D->Store->Res D}{r:List V->Hp->VK->Prop}(hr:CaD K g r){f:SA}:∀τ H Q,tD K (eCall g f) τ H Q->tCB r (tDA K f) τ H Q:=fun τ H Q hq0=>by
 obtain⟨ρ,σ,st,v,st',a,rp,e,q⟩:=hq0;obtain⟨x,st1,e1,e⟩:=zd e;exact⟨ρ,σ,st,x,st1,a,rp,e1,fun ρ1 H1 u x1 rp1 a1=>hr ρ1 H1 st1 x u v st' Q rp1 a1 e fun ρ' H' w x2=>q ρ' H' w (x1.trans x2)⟩
section
variable {X:Cx}{x:Str}{p pos:Pos}{e:Expr}{es:List Expr}{f:SA}{id T:String}{r:List V->Hp->VK->Prop}{g:List D->Store->Res D}
theorem zbfu (hc:CallR X (.builtin id) r)(hr:CaD X.K g r)(hg:Gl X x)(hm:X.mg x=none)(hv:bootBuiltins x=some (.builtin id))(ha:DA X (e::es) f)(hn:x≠"__name__":=by decide)(hdb:(x==("__debug__" : Str))=false:=by decide)
 (he:starEach (e::es) X.env=(false,eval e X.env)::starEach es X.env:=by rfl)(hpl:(backTo pos (starEach es X.env)).any (·.1)=false:=by rfl):DE X (.Call (.Name x p) (e::es) [] pos) (eCall g f):=zgh (zsi hc hg hm hv ha hn hdb he hpl) (zblu hr)
theorem zbbb (hc:CallR X (.type T) r)(hr:CaD X.K g r)(hg:Gl X x)(hm:X.mg x=none)(hv:bootBuiltins x=some (.type T))(ha:DA X (e::es) f)(hn:x≠"__name__":=by decide)(hdb:(x==("__debug__" : Str))=false:=by decide)
 (he:starEach (e::es) X.env=(false,eval e X.env)::starEach es X.env:=by rfl)(hpl:(backTo pos (starEach es X.env)).any (·.1)=false:=by rfl):DE X (.Call (.Name x p) (e::es) [] pos) (eCall g f):=zgh (zvh hc hg hm hv ha hn hdb he hpl) (zblu hr)
end
theorem AtAll.one {K:Fg}{ρ:Loc}{H:Hp}{d:D}{us:List V}(h:AtAll K ρ H [d] us):∃u,us=[u]/\At K ρ H d u:=by
 cases h with
 | cons a b=>cases b;exact⟨_,rfl,a⟩
theorem AtAll.two {K:Fg}{ρ:Loc}{H:Hp}{d e:D}{us:List V}(h:AtAll K ρ H [d,e] us):∃u v,us=[u,v]/\At K ρ H d u/\At K ρ H e v:=by
 cases h with
 | cons a b =>
  obtain⟨v,rfl,c⟩:=b.one;exact⟨_,_,rfl,a,c⟩
noncomputable def bLen:List D->Store->Res D:=fun xs st=>match xs with
 | [x]=>match seqOf st x with
  | some ys=>.ok (.int ys.length) st
  | none=>.stuck
 | _=>.stuck
theorem zlo {K:Fg}:CaD K bLen (fun xs H Q=>∃p ys,xs=[.ref p]/\(SqL K H p ys\/SqT K H p ys)/\Q (.int ys.length) H):=fun ρ H st xs us z st' Q rp aa e q=>by
 unfold bLen at e;split at e
 ·split at e
  ·rename_i h;cases e;obtain⟨u,rfl,a⟩:=aa.one;obtain⟨p,vs,rfl,h1,h2⟩:=zks rp a h;refine⟨p,vs,rfl,h1,?_⟩;rw[h2.length];exact q _ _ _ (.refl _ _) rp (.int _)
  ·cases e
 ·cases e
noncomputable def bAbs:List D->Store->Res D:=fun xs st=>match xs with
 | [.int i]=>.ok (.int (if i < 0 then -i else i)) st
 | _=>.stuck
theorem zbkz {K:Fg}:CaD K bAbs (fun xs H Q=>∃i,xs=[.int i]/\Q (.int (if i < 0 then -i else i)) H):=fun ρ H st xs us z st' Q rp aa e q=>by
 unfold bAbs at e;split at e
 ·cases e;obtain⟨u,rfl,a⟩:=aa.one;cases a;exact⟨_,rfl,q _ _ _ (.refl _ _) rp (.int _)⟩
 ·cases e
noncomputable def b2I (g:Int->Int->Int):List D->Store->Res D:=fun xs st=>match xs with
 | [.int i,.int j]=>.ok (.int (g i j)) st
 | _=>.stuck
theorem zbbx {K:Fg}{g:Int->Int->Int}:CaD K (b2I g) (fun xs H Q=>∃i j,xs=[.int i,.int j]/\Q (.int (g i j)) H):=fun ρ H st xs us z st' Q rp aa e q=>by
 unfold b2I at e;split at e
 ·cases e;obtain⟨u,v,rfl,a,b⟩:=aa.two;cases a;cases b;exact⟨_,_,rfl,q _ _ _ (.refl _ _) rp (.int _)⟩
 ·cases e
noncomputable abbrev bMin2:=b2I fun i j=>if j < i then j else i
noncomputable abbrev bMax2:=b2I fun i j=>if j > i then j else i
noncomputable def bSum:List D->Store->Res D:=fun xs st=>match xs with
 | [x]=>match (seqOf st x).bind asInts with
  | some ns=>.ok (.int ns.sum) st
  | none=>.stuck
 | _=>.stuck
theorem zbkt {K:Fg}:CaD K bSum (rSum K):=fun ρ H st xs us z st' Q rp aa e q=>by
 unfold bSum at e;split at e
 ·split at e
  ·rename_i ns h;cases e;obtain⟨ys,h0,h⟩:=xes.mp h;obtain⟨u,rfl,a⟩:=aa.one;obtain⟨p,vs,rfl,h1,h2⟩:=zks rp a h0;have e:=zey h2 h;subst e;exact⟨p,ns,rfl,h1,q _ _ _ (.refl _ _) rp (.int _)⟩
  ·cases e
 ·cases e
noncomputable def asBools:List D->Option (List Bool)
 | []=>some []
 | .bl i::r=>(asBools r).map (i::·)
 | _::_=>none
theorem zjf {K:Fg}{ρ:Loc}{H:Hp}:∀{ds:List D} {vs:List V} {ns:List Bool},AtAll K ρ H ds vs->asBools ds=some ns->vs=ns.map V.bl
 | _,_,_,.nil,e=>by cases e;rfl
 | _,_,_,.cons (d:=d) a b,e=>by
  cases d<;>try (cases e;done)
  rw[asBools] at e;obtain⟨ms,e1,rfl⟩:=xcw.mp e;cases a;rw[zjf b e1]
  rfl
noncomputable def bAny (al:Bool):List D->Store->Res D:=fun xs st=>match xs with
 | [x]=>match (asL st x).bind asBools with
  | some bs=>.ok (.bl (if al then bs.all id else bs.any id)) st
  | none=>.stuck
 | _=>.stuck
theorem zbbl {K:Fg}{al:Bool}:CaD K (bAny al) (rAny K al):=fun ρ H st xs us z st' Q rp aa e q=>by
 unfold bAny at e;split at e
 ·split at e
  ·rename_i ns h;cases e;obtain⟨ys,h0,h⟩:=xes.mp h;obtain⟨u,rfl,a⟩:=aa.one;obtain⟨p,vs,rfl,h1,h2⟩:=zhl rp a h0;have e:=zjf h2 h;subst e;exact⟨p,ns,rfl,SqL.of h1,q _ _ _ (.refl _ _) rp (.bl _)⟩
  ·cases e
 ·cases e
noncomputable def tyName (st:Store):D->Option String
 | .non=>some "NoneType"
 | .bl _=>some "bool"
 | .int _=>some "int"
 | .str _=>some "str"
 | .tup _=>some "tuple"
 | .lst _=>some "list"
 | .ref n=>match st[n]? with
  | some (.lst _)=>some "list"
  | some (.dT _)=>some "dict"
  | _=>none
 | _=>none
noncomputable def isTy (t T:String):Bool:=t==T||(t=="bool"&&T=="int")
noncomputable def bIsinst:List D->Store->Res D:=fun xs st=>match xs with
 | [x,.ty T]=>match tyName st x with
  | some t=>if["int", "bool", "str", "tuple", "list", "dict"].contains T=true then .ok (.bl (isTy t T)) st else .stuck
  | none=>.stuck
 | _=>.stuck
theorem zur {K:Fg}{ρ:Loc}{st:Store}{H:Hp}(rp:Rep K ρ st H){d:D}{u:V}{t:String}(a:At K ρ H d u)(e:tyName st d=some t):TyOf K H u (.type t)/\t∈["NoneType", "bool", "int", "str", "tuple", "list", "dict"]:=by
 cases d<;>try (cases e;done)
 ·cases e;cases a;exact⟨.non,by simp⟩
 ·cases e;cases a;exact⟨.bl _,by simp⟩
 ·cases e;cases a;exact⟨.int _,by simp⟩
 ·cases e;cases a;exact⟨.str _,by simp⟩
 ·unfold tyName at e;dsimp only at e;split at e
  ·rename_i h;cases e;obtain⟨p,rfl,hp,vs,q1,q2⟩:=zji rp a h (by intro z;cases z);exact⟨.lst q1,by simp⟩
  ·rename_i h;cases e;obtain⟨p,rfl,hp,vs,q1,q2⟩:=zji rp a h (by intro z;cases z);exact⟨.dT q1,by simp⟩
  ·cases e
 ·cases e;cases a with
  | tup h1 h2 h3=>exact⟨.tup h1,by simp⟩
 ·cases e;cases a with
  | lst h1 h2 h3=>exact⟨.lst h1,by simp⟩
theorem zbis {K:Fg}{t T:String}(ht:t∈["NoneType", "bool", "int", "str", "tuple", "list", "dict"])(hT:T∈["int", "bool", "str", "tuple", "list", "dict"]):W.kitOne K (.type t) (.type T)=some (isTy t T):=by
 simp only[xbx,xig,or_false] at ht hT;rcases ht with rfl | rfl | rfl | rfl | rfl | rfl | rfl<;>rcases hT with rfl | rfl | rfl | rfl | rfl | rfl<;>rfl
theorem zdw {K:Fg}:CaD K bIsinst (fun xs H Q=>∃x T t b,xs=[x,.ty T]/\TyOf K H x t/\W.kitOne K t (.type T)=some b/\Q (.bl b) H):=fun ρ H st xs us z st' Q rp aa e q=>by
 unfold bIsinst at e;split at e
 ·split at e
  ·rename_i h;split at e
   ·rename_i hT;cases e;obtain⟨u,v,rfl,a,b⟩:=aa.two;cases b;obtain⟨h1,h2⟩:=zur rp a h;exact⟨_,_,_,_,rfl,h1,zbis h2 (by simpa using hT),q _ _ _ (.refl _ _) rp (.bl _)⟩
   ·cases e
  ·cases e
 ·cases e
noncomputable def bTuple:List D->Store->Res D:=fun xs st=>match xs with
 | [.tup ys]=>.ok (.tup ys) st
 | [x]=>match asL st x with
  | some ys=>.ok (.tup ys) st
  | none=>.stuck
 | _=>.stuck
theorem zjc {K:Fg}:CaD K bTuple (fun xs H Q=>∃p ys,xs=[.ref p]/\((SqL K H p ys/\∀l,H l=none->Q (.ref l) (upd H l (.tup ys)))\/(SqT K H p ys/\Q (.ref p) H))):=fun ρ H st xs us z st' Q rp aa e q=>by
 unfold bTuple at e;split at e
 ·cases e;obtain⟨u,rfl,a⟩:=aa.one;cases a with
  | tup h1 h2 h3=>exact⟨_,_,rfl,.inr ⟨SqT.of h1,q _ _ _ (.refl _ _) rp (.tup h1 h2 h3)⟩⟩
 ·split at e
  ·rename_i h;cases e;obtain⟨u,rfl,a⟩:=aa.one;obtain⟨p,vs,rfl,h1,h2⟩:=zhl rp a h;exact⟨_,_,rfl,.inl ⟨SqL.of h1,fun l hl=>q _ _ _ (Ext.new hl _) (rp.new hl _) (.newT rp hl h2)⟩⟩
  ·cases e
 ·cases e
noncomputable def bList:List D->Store->Res D:=fun xs st=>match xs with
 | [x]=>match seqOf st x with
  | some ys=>.ok (.lst ys) st
  | none=>.stuck
 | _=>.stuck
theorem zuc {K:Fg}:CaD K bList (fun xs H Q=>∃p ys,xs=[.ref p]/\(SqL K H p ys\/SqT K H p ys)/\∀l,H l=none->Q (.ref l) (upd H l (.lst ys))):=fun ρ H st xs us z st' Q rp aa e q=>by
 unfold bList at e;split at e
 ·split at e
  ·rename_i h;cases e;obtain⟨u,rfl,a⟩:=aa.one;obtain⟨p,vs,rfl,h1,h2⟩:=zks rp a h;exact⟨_,_,rfl,h1,fun l hl=>q _ _ _ (Ext.new hl _) (rp.new hl _) (.newL rp hl h2)⟩
  ·cases e
 ·cases e
noncomputable abbrev rowD (ns:List Int):D:=.tup (ns.map .int)
noncomputable abbrev rowsD (l:List (List Int)):List D:=l.map rowD
noncomputable def insR (a:List Int):List (List Int)->List (List Int)
 | []=>[a]
 | b::r=>if HT.lexLt b a=true then b::insR a r else a::b::r
noncomputable def sortR:List (List Int)->List (List Int)
 | []=>[]
 | a::r=>insR a (sortR r)
noncomputable abbrev UpR (l:List (List Int)):Prop:=l.Pairwise fun a b=>HT.lexLt b a=false
theorem zld (a:List Int):∀l,(insR a l).Perm (a::l)
 | []=>.refl _
 | b::r=>by
  unfold insR;split
  ·exact(List.Perm.cons b (zld a r)).trans (.swap a b r)
  ·exact .refl _
theorem zbx:∀l,(sortR l).Perm l
 | []=>.refl _
 | a::r=>(zld a _).trans (.cons a (zbx r))
theorem znv {a b c:List Int}(h1:HT.lexLt b a=false)(h2:HT.lexLt c b=false):HT.lexLt c a=false:=by
 cases h:HT.lexLt c a with
 | false=>rfl
 | true =>
  rcases Srt.zpc a b with z | z | z
  ·have:=Srt.zhn h z;rw[h2] at this;cases this
  ·subst z;rw[h2] at h;cases h
  ·rw[h1] at z;cases z
theorem zxq (a:List Int):∀l,UpR l->UpR (insR a l)
 | [],_=>xjd _ _
 | b::r,h=>by
  obtain⟨h1,h2⟩:=xhj.mp h;unfold insR;split
  ·rename_i c;refine xhj.mpr ⟨fun x hx=>?_,zxq a r h2⟩;rcases xbx.mp ((zld a r).mem_iff.mp hx) with rfl | hx
   ·exact Srt.zvw c
   ·exact h1 x hx
  ·rename_i c;have c':HT.lexLt b a=false:=by simpa using c
   refine xhj.mpr ⟨fun x hx=>?_,h⟩;rcases xbx.mp hx with rfl | hx
   ·exact c'
   ·exact znv c' (h1 x hx)
theorem zhz:∀l,UpR (sortR l)
 | []=>.nil
 | a::r=>zxq a _ (zhz r)
theorem zoo:∀{l m:List (List Int)},l.Perm m->UpR l->UpR m->l=m
 | [],m,p,_,_=>by rw[List.nil_perm.mp p]
 | a::l,[],p,_,_=>by cases List.perm_nil.mp p
 | a::l,b::m,p,h1,h2=>by
  obtain⟨p1,p2⟩:=xhj.mp h1;obtain⟨q1,q2⟩:=xhj.mp h2;have e:a=b:=by
   rcases xbx.mp (p.mem_iff.mp xch) with z | z
   ·exact z
   ·rcases xbx.mp (p.mem_iff.mpr (xch (a:=b) (l:=m))) with y | y
    ·exact y.symm
    ·have e1:=q1 a z;have e2:=p1 b y;rcases Srt.zpc a b with w | w | w
     ·rw[e1] at w;cases w
     ·exact w
     ·rw[e2] at w;cases w
  subst e;rw[zoo (List.Perm.cons_inv p) p2 q2]
theorem zkq {l m:List (List Int)}(p:m.Perm l)(h:UpR m):m=sortR l:=zoo (p.trans (zbx l).symm) h (zhz l)
theorem zdl (l:List (List Int)):(sortR l).length=l.length:=(zbx l).length_eq
noncomputable def asRows:List D->Option (List (List Int))
 | []=>some []
 | .tup ds::r=>(asInts ds).bind fun ns=>(asRows r).map (ns::·)
 | _::_=>none
theorem zqe {K:Fg}{ρ:Loc}{H:Hp}:∀{ds:List D} {vs:List V} {l:List (List Int)},AtAll K ρ H ds vs->asRows ds=some l ->
  ∃ps:List (Addr×List Int),vs=ps.map (fun p=>V.ref p.1)/\ps.map (·.2)=l/\∀p∈ps,H p.1=some (.tup (p.2.map V.int))/\Out ρ p.1
 | _,_,_,.nil,e=>by cases e;exact⟨[],rfl,rfl,fun _ h=>nomatch h⟩
 | _,_,_,.cons (d:=d) a b,e=>by
  cases d<;>try (cases e;done)
  rw[asRows] at e;obtain⟨ns,e1,e⟩:=xes.mp e;obtain⟨l,e2,rfl⟩:=xcw.mp e;obtain⟨ps,h1,h2,h3⟩:=zqe b e2;cases a with
  | tup g1 g2 g3 =>
   rename_i ad ws;have ew:=zey g3 e1;subst ew;refine⟨(ad,ns)::ps,by rw[h1];rfl,by rw[← h2];rfl,fun p hp=>?_⟩;rcases xbx.mp hp with rfl | hp
   ·exact⟨g1,g2⟩
   ·exact h3 p hp
theorem zlc {K:Fg}{ρ:Loc}{H:Hp}:∀ns:List Int,AtAll K ρ H (ns.map .int) (ns.map V.int)
 | []=>.nil
 | n::ns=>.cons (.int n) (zlc ns)
theorem znf {K:Fg}{ρ:Loc}{H:Hp}:∀ps:List (Addr×List Int),(∀p∈ps,H p.1=some (.tup (p.2.map V.int))/\Out ρ p.1)->AtAll K ρ H (rowsD (ps.map (·.2))) (ps.map fun p=>V.ref p.1)
 | [],_=>.nil
 | p::ps,h=>.cons (.tup (h p xch).1 (h p xch).2 (zlc _)) (znf ps fun q hq=>h q (xci _ hq))
theorem zpa {K:Fg}{ρ:Loc}{st:Store}{H:Hp}(r:Rep K ρ st H){p:Addr}{vs:List V}(hp:H p=some (.tup vs)):Out ρ p:=by
 refine⟨fun z=>?_,fun z=>?_⟩
 ·obtain⟨i,hi,e⟩:=xfz z;obtain⟨x,_,q⟩:=r.has (n:=i) (a:=p) (by rw[xbh hi,e]);cases x with
  | lst xs=>obtain⟨_,e,_⟩:=q;rw[hp] at e;cases e
  | dT kvs=>obtain⟨_,e,_⟩:=q;rw[hp] at e;cases e
  | fT kvs=>obtain⟨_,_,e,_⟩:=q;rw[hp] at e;cases e
  | dead=>exact q
  | tab=>obtain⟨_,_,e,_⟩:=q;rw[hp] at e;cases e
 ·obtain⟨⟨u,hu⟩,_⟩:=r.gh p z;rw[hp] at hu;cases hu
noncomputable def valD (kvs:List (List Int×D)) (k:List Int):Option D:=(kvs.find? fun kv=>decide (kv.1=k)).map (·.2)
noncomputable def putD (kvs:List (List Int×D)) (k:List Int) (v:D):List (List Int×D) :=
 if(kvs.any fun kv=>decide (kv.1=k))=true then kvs.map (fun kv=>if kv.1=k then(kv.1,v) else kv) else kvs++[(k,v)]
noncomputable def dropD (kvs:List (List Int×D)) (k:List Int):List (List Int×D):=kvs.filter fun kv=>decide (kv.1≠k)
theorem zpj {a b:List Int}:a.map (Sum.inl:Int->Key)=b.map Sum.inl↔a=b:=by
 constructor
 ·intro h;exact(List.map_inj_right (f:=(Sum.inl:Int->Key)) fun x y e=>Sum.inl.inj e).mp h
 ·rintro rfl;rfl
section
variable {K:Fg}{ρ:Loc}{H:Hp}{kvs:List (List Int×D)}{vs:List (List Key×V)}
theorem KvAt.val (h:KvAt K ρ H kvs vs)(k:List Int):match valD kvs k with
  | some d=>∃v,valV vs (k.map Sum.inl)=some v/\At K ρ H d v
  | none=>valV vs (k.map Sum.inl)=none:=by
 induction h with
 | nil=>rfl
 | @cons p q ps qs h t ih =>
  obtain⟨h1,h2⟩:=h;by_cases e:p.1=k
  ·have e1:valD (p::ps) k=some p.2:=by simp[valD,xei,e]
   rw[e1];exact⟨q.2,zkn (by rw[h1,e]),h2⟩
  ·have e1:valD (p::ps) k=valD ps k:=by simp[valD,xei,e]
   have e2:valV (q::qs) (k.map Sum.inl)=valV qs (k.map Sum.inl):=zko (by rw[h1,zpj];exact e);rw[e1,e2];exact ih
theorem KvAt.keys (h:KvAt K ρ H kvs vs):vs.map (·.1)=(kvs.map (·.1)).map fun ns=>ns.map Sum.inl:=by
 induction h with
 | nil=>rfl
 | @cons p q ps qs h t ih=>rw[xbp,xbp,xbp,ih,h.1]
theorem KvAt.put (h:KvAt K ρ H kvs vs)(k:List Int){d:D}{v:V}(a:At K ρ H d v):KvAt K ρ H (putD kvs k d) (putK vs (k.map Sum.inl) v):=by
 have any:∀{kvs:List (List Int×D)} {vs:List (List Key×V)},KvAt K ρ H kvs vs->(kvs.any fun kv=>decide (kv.1=k))=(vs.any fun kv=>decide (kv.1=k.map Sum.inl)):=fun h=>by
  induction h with
  | nil=>rfl
  | @cons p q ps qs h t ih =>
   rw[xjo,xjo,ih,h.1]
   congr 1
   simp only[zpj]
 unfold putD putK;rw[any h];split
 ·rename_i hh;clear hh any
  induction h with
  | nil=>exact .nil
  | @cons p q ps qs h t ih =>
   refine .cons ?_ ih;obtain⟨h1,h2⟩:=h;dsimp only;by_cases e:p.1=k
   ·rw[if_pos e,if_pos (by rw[h1,e])];exact⟨h1,a⟩
   ·rw[if_neg e,if_neg (by rw[h1,zpj];exact e)];exact⟨h1,h2⟩
 ·have app:∀{kvs:List (List Int×D)} {vs:List (List Key×V)},KvAt K ρ H kvs vs->KvAt K ρ H (kvs++[(k,d)]) (vs++[(k.map Sum.inl,v)]):=fun h=>by
   induction h with
   | nil=>exact .cons ⟨rfl,a⟩ .nil
   | cons h t ih=>exact .cons h ih
  exact app h
theorem KvAt.drop (h:KvAt K ρ H kvs vs)(k:List Int):KvAt K ρ H (dropD kvs k) (dropK vs (k.map Sum.inl)):=by
 unfold dropD dropK
 induction h with
 | nil=>exact .nil
 | @cons p q ps qs h t ih =>
  by_cases e:p.1=k
  ·rw[xfx (by simp[e]),xfx (by simp[h.1,e])];exact ih
  ·rw[xfy (by simp[e]),xfy (by simp[h.1,zpj,e])];exact .cons h ih
theorem KvAt.length (h:KvAt K ρ H kvs vs):kvs.length=vs.length:=xik h
end
noncomputable def pairsOf (st:Store):D->Option (List (List Int×D))
 | .ref n=>match st[n]? with
  | some (.dT kvs)=>some kvs
  | some (.fT kvs)=>some kvs
  | _=>none
 | _=>none
theorem zni {K:Fg}{ρ:Loc}{st:Store}{H:Hp}(rp:Rep K ρ st H){d:D}{u:V}{kvs:List (List Int×D)}(a:At K ρ H d u)(e:pairsOf st d=some kvs):∃p vs,u=.ref p/\Rd H p (.dT vs)/\KvAt K ρ H kvs vs:=by
 unfold pairsOf at e;split at e
 ·split at e
  ·rename_i h;cases e;obtain⟨p,rfl,hp,vs,q1,q2⟩:=zji rp a h (by intro z;cases z);exact⟨p,vs,rfl,.inl q1,q2⟩
  ·rename_i h;cases e;obtain⟨p,rfl,hp,vs,ob,q1,q2⟩:=zji rp a h (by intro z;cases z);exact⟨p,vs,rfl,.inr ⟨ob,q1⟩,q2⟩
  ·cases e
 ·cases e
noncomputable def keyOf:D->Option (List Int)
 | .tup ds=>asInts ds
 | _=>none
theorem zbae {K:Fg}{ρ:Loc}{H:Hp}{d:D}{u:V}{k:List Int}(a:At K ρ H d u)(e:keyOf d=some k):∃p,u=.ref p/\H p=some (.tup ((k.map (Sum.inl:Int->Key)).map kV)):=by
 unfold keyOf at e;split at e
 ·cases a with
  | tup h1 h2 h3 =>
   have:=zey h3 e;subst this;exact⟨_,rfl,by rw[zxo];exact h1⟩
 ·cases e
theorem ztn {K:Fg}{ρ:Loc}{st:Store}{H:Hp}(rp:Rep K ρ st H){d y:D}{u w:V}{kvs:List (List Int×D)}{k:List Int}(a:At K ρ H d u)(b:At K ρ H y w)(e:pairsOf st d=some kvs)(e2:keyOf y=some k) :
  ∃p o,u=.ref p/\DGet H p w o/\match valD kvs k with
   | some z=>∃v,o=some v/\At K ρ H z v
   | none=>o=none:=by
 obtain⟨p,vs,rfl,h1,h2⟩:=zni rp a e;obtain⟨q,rfl,h3⟩:=zbae b e2;refine⟨p,valV vs (k.map Sum.inl),rfl,.inr ⟨vs,_,q,h1,rfl,h3,rfl⟩,?_⟩;have:=h2.val k;cases hv:valD kvs k with
 | none=>rw[hv] at this;exact this
 | some z=>rw[hv] at this;exact this
noncomputable def oDIn (neg:Bool) (y x:D) (st:Store):Res D:=match keyOf y,pairsOf st x with
 | some k,some kvs=>.ok (.bl (if neg then !(valD kvs k).isSome else(valD kvs k).isSome)) st
 | _,_=>.stuck
noncomputable def oDGet (x y:D) (st:Store):Res D:=match pairsOf st x,keyOf y with
 | some kvs,some k=>match valD kvs k with
  | some v=>.ok v st
  | none=>.stuck
 | _,_=>.stuck
noncomputable def eDGet2 (f g h:SE):SE:=fun σ st=>(f σ st).bind fun x st1=>match pairsOf st1 x with
 | some _=>(g σ st1).bind fun y st2=>(h σ st2).bind fun z st3=>match pairsOf st3 x,keyOf y with
  | some kvs,some k=>.ok ((valD kvs k).getD z) st3
  | _,_=>.stuck
 | none=>.stuck
noncomputable def eDPop (f g:SE):SE:=fun σ st=>(f σ st).bind fun x st1=>match pairsOf st1 x with
 | some _=>(g σ st1).bind fun y st2=>match x,keyOf y with
  | .ref n,some k=>match st2[n]? with
   | some (.dT kvs)=>match valD kvs k with
    | some v=>.ok v (st2.set n (.dT (dropD kvs k)))
    | none=>.stuck
   | _=>.stuck
  | _,_=>.stuck
 | none=>.stuck
noncomputable def sDPut (f g h:SE):SS:=fun σ st=>(h σ st).bind fun v st1=>(f σ st1).bind fun x st2=>(g σ st2).bind fun y st3=>match x,keyOf y with
 | .ref n,some k=>match st3[n]? with
  | some (.dT kvs)=>if kvs.length < sizeLine then .ok (.nx σ) (st3.set n (.dT (putD kvs k v))) else .stuck
  | _=>.stuck
 | _,_=>.stuck
noncomputable def eDNew:SE:=fun _ st=>.ok (.ref st.length) (st++[.dT []])
section
variable {X:Cx}{a b c o i e value f':Expr}{f g h:SE}{pos pos' apos cpos:Pos}
theorem zbeh {K:Fg}{ρ:Loc}{st:Store}{H:Hp}(rp:Rep K ρ st H){d:D}{u:V}{kvs:List (List Int×D)}(a:At K ρ H d u)(e:pairsOf st d=some kvs):∃p,u=.ref p/\IsD H p:=by
 obtain⟨p,vs,rfl,h1,_⟩:=zni rp a e;exact⟨p,rfl,.inr ⟨vs,h1⟩⟩
theorem zbkf:DE X (.Dict [] [] pos) eDNew:=zgh zzq fun τ H Q hq0 p hp=>by
 obtain⟨ρ,σ,st,v,st',a,rp,e,q⟩:=hq0;cases e;obtain⟨E,R⟩:=rp.alloc hp (x:=.dT []) (o:=.dT []) fun E=>⟨[],zj,.nil⟩
 exact q _ _ _ E R (.last rp.len.symm)
theorem zbmh (hu:X.A.units+1 < cLine)(hi:DE X i g)(ho:DE X o f):PC X .In i o (tD X.K (eOp (oDIn false) g f)):=fun aA s σ H Q I hq=>by
 refine zbig hu hi ho aA s σ H Q I ?_;obtain⟨ρ,σ',st,v,st',a,rp,e,q⟩:=hq;obtain⟨x,st1,e1,e⟩:=zd e;obtain⟨y,st2,e2,e⟩:=zd e;refine⟨ρ,σ',st,x,st1,a,rp,e1,fun ρ1 H1 u x1 rp1 a1=>?_⟩;refine⟨ρ1,σ',st1,y,st2,a.ext x1,rp1,e2,fun ρ2 H2 w x2 rp2 a2=>?_⟩;unfold oDIn at e;split at e
 ·rename_i kk vv h1 h2;cases e;obtain⟨p,oo,rfl,g1,g2⟩:=ztn rp2 a2 (a1.ext x2) h2 h1;refine⟨p,oo,rfl,g1,?_⟩;have:oo.isSome=(valD vv kk).isSome:=by
   revert g2;split
   ·rename_i hv;rintro⟨v,rfl,_⟩;rw[hv];rfl
   ·rename_i hv;rintro rfl;rw[hv];rfl
  rw[this];exact q _ _ _ (x1.trans x2) rp2 (.bl _)
 ·cases e
theorem d_in {op:CmpOp}{t:SE}(h:PC X op a b (tD X.K t))(h1:behindInMarks op b=false:=by first | exact nobehind _ (by decide) (by decide) | rfl):DE X (.Compare a [op] [b] pos) t:=zbie h h1
theorem zbmx {op:CmpOp}{t:SE}(h:PC X op a b (tD X.K t))(h1:behindInMarks op b=false:=by first | exact nobehind _ (by decide) (by decide) | rfl):DT X (.Compare a [op] [b] pos) (eB t):=zbcu (zbhp h h1) fun τ H Q hh=>eB_t _ _ _ hh
theorem zbkg (hu:X.A.units+1 < cLine)(ho:DE X o f)(hi:DE X i g)(hs:NoSl i):DE X (.Subscript o i pos) (eOp oDGet f g):=zgh (zbdl hu ho hi hs) fun τ H Q hq0=>by
 obtain⟨ρ,σ,st,v,st',a,rp,e,q⟩:=hq0;obtain⟨x,st1,e1,e⟩:=zd e;obtain⟨y,st2,e2,e⟩:=zd e;refine⟨ρ,σ,st,x,st1,a,rp,e1,fun ρ1 H1 u x1 rp1 a1=>?_⟩;refine⟨ρ1,σ,st1,y,st2,a.ext x1,rp1,e2,fun ρ2 H2 w x2 rp2 a2=>?_⟩;unfold oDGet at e;split at e
 ·rename_i h1 h2;split at e
  ·rename_i z hv;cases e;obtain⟨p,oo,rfl,g1,g2⟩:=ztn rp2 (a1.ext x2) a2 h1 h2;rw[hv] at g2;obtain⟨vv,rfl,g3⟩:=g2;exact⟨p,vv,rfl,g1,q _ _ _ (x1.trans x2) rp2 g3⟩
  ·cases e
 ·cases e
theorem zbfs (hu:X.A.units + 1 < cLine)(ho:DE X o f)(he:DE X e g)(hf:DE X f' h)(m:M2 X o "get" apos e f' cpos):DE X (.Call (.Attribute o "get" apos) [e, f'] [] cpos) (eDGet2 f g h):=zgh (zzr hu ho he hf m) fun τ H Q hq0=>by
 obtain⟨ρ,σ,st,v,st',a,rp,e,q⟩:=hq0;obtain⟨x,st1,e1,e⟩:=zd e;refine⟨ρ,σ,st,x,st1,a,rp,e1,fun ρ1 H1 u x1 rp1 a1=>?_⟩;split at e
 ·rename_i h0;obtain⟨p,rfl,hd⟩:=zbeh rp1 a1 h0;obtain⟨y,st2,e2,e⟩:=zd e;obtain⟨z,st3,e3,e⟩:=zd e;refine⟨p,rfl,hd,?_⟩;refine⟨ρ1,σ,st1,y,st2,a.ext x1,rp1,e2,fun ρ2 H2 w x2 rp2 a2=>?_⟩;refine⟨ρ2,σ,st2,z,st3,a.ext (x1.trans x2),rp2,e3,fun ρ3 H3 t x3 rp3 a3=>?_⟩;split at e
  ·rename_i h1 h2;cases e;obtain⟨p',oo,ep,g1,g2⟩:=ztn rp3 (a1.ext (x2.trans x3)) (a2.ext x3) h1 h2;cases ep;refine⟨oo,g1,q _ _ _ (x1.trans (x2.trans x3)) rp3 ?_⟩;revert g2;split
   ·rename_i hv;rintro⟨vv,rfl,g3⟩;rw[hv];exact g3
   ·rename_i hv;rintro rfl;rw[hv];exact a3
  ·cases e
 ·cases e
theorem zbke (hu:X.A.units + 1 < cLine)(ho:DE X o f)(he:DE X e g)(m:M1 X o "pop" apos e cpos):DE X (.Call (.Attribute o "pop" apos) [e] [] cpos) (eDPop f g):=zgh (zzp hu ho he m) fun τ H Q hq0=>by
 obtain⟨ρ,σ,st,v,st',a,rp,e,q⟩:=hq0;obtain⟨x,st1,e1,e⟩:=zd e;refine⟨ρ,σ,st,x,st1,a,rp,e1,fun ρ1 H1 u x1 rp1 a1=>?_⟩;split at e
 ·rename_i h0;obtain⟨p,rfl,hd⟩:=zbeh rp1 a1 h0;obtain⟨y,st2,e2,e⟩:=zd e;refine⟨p,rfl,hd,?_⟩;refine⟨ρ1,σ,st1,y,st2,a.ext x1,rp1,e2,fun ρ2 H2 w x2 rp2 a2=>?_⟩;split at e
  ·rename_i n k hk _;split at e
   ·rename_i kvs hn;split at e
    ·rename_i z hv;cases e;obtain⟨p',ep,hp,vs,g1,g2⟩:=zji rp2 (a1.ext x2) hn (by intro z;cases z);cases ep;obtain⟨b,rfl,g3⟩:=zbae a2 hk;have g4:=g2.val k;rw[hv] at g4;obtain⟨vv,g5,g6⟩:=g4;have E:Ext ρ2 H2 ρ2 (upd H2 p (.dT (dropK vs (k.map Sum.inl)))):=Ext.wr hp (zkf g1) _;exact⟨vs,_,vv,b,g1,rfl,g3,g5,q _ _ _ ((x1.trans x2).trans E) (rp2.wr hp (zkf g1) ⟨_,zj,(g2.drop k).ext E⟩) (g6.ext E)⟩
    ·cases e
   ·cases e
  ·cases e
 ·cases e
theorem zbfd (hu:X.A.units+1 < cLine)(ho:DE X o f)(hi:DE X i g)(hv:DE X value h)(hs:swapsWith value (some (.Subscript o i pos')) pos.line X.env=pure false) :
  DSt X (.Assign [.Subscript o i pos'] value pos) (sDPut f g h):=zox (zbdb hu ho hi hv hs) fun E τ H hq0=>by
 obtain⟨ρ,σ,st,fl,st',a,rp,e,q⟩:=hq0;obtain⟨v,st1,e1,e⟩:=zd e;obtain⟨x,st2,e2,e⟩:=zd e;obtain⟨y,st3,e3,e⟩:=zd e;refine⟨ρ,σ,st,v,st1,a,rp,e1,fun ρ1 H1 u x1 rp1 a1=>?_⟩;refine⟨ρ1,σ,st1,x,st2,a.ext x1,rp1,e2,fun ρ2 H2 w x2 rp2 a2=>?_⟩;refine⟨ρ2,σ,st2,y,st3,a.ext (x1.trans x2),rp2,e3,fun ρ3 H3 t x3 rp3 a3=>?_⟩;split at e
 ·rename_i n k hk _;split at e
  ·rename_i kvs hn;split at e
   ·rename_i hl;cases e;obtain⟨p,rfl,hp,vs,g1,g2⟩:=zji rp3 (a2.ext x3) hn (by intro z;cases z);obtain⟨b,rfl,g3⟩:=zbae a3 hk;have E:Ext ρ3 H3 ρ3 (upd H3 p (.dT (putK vs (k.map Sum.inl) u))):=Ext.wr hp (zkf g1) _;refine⟨p,_,rfl,DPut.t g1 g3 (by rw[← g2.length];exact hl),?_⟩;exact q _ _ _ ((x1.trans (x2.trans x3)).trans E) (rp3.wr hp (zkf g1) ⟨_,zj,(g2.put k (a1.ext (x2.trans x3))).ext E⟩) (a.ext ((x1.trans (x2.trans x3)).trans E))
   ·cases e
  ·cases e
 ·cases e
end
noncomputable def bSorted:List D->Store->Res D:=fun xs st=>match xs with
 | [x]=>match (asL st x).bind asRows with
  | some l=>if l.length<=1000000 then .ok (.lst (rowsD (sortR l))) st else .stuck
  | none=>match pairsOf st x with
   | some kvs=>if kvs.length<=1000000 then .ok (.lst (rowsD (sortR (kvs.map (·.1))))) st else .stuck
   | none=>.stuck
 | _=>.stuck
theorem zhs {K:Fg}:CaD K bSorted (fun xs H Q=>rSortedAL K xs H Q\/rSortedDAL xs H Q):=fun ρ H st xs us z st' Q rp aa e q=>by
 unfold bSorted at e;split at e
 ·obtain⟨u,rfl,a⟩:=aa.one;split at e
  ·rename_i l hl;obtain⟨ys,h0,hl⟩:=xes.mp hl;split at e
   ·rename_i few;cases e;obtain⟨p,vs,rfl,h1,h2⟩:=zhl rp a h0;obtain⟨ps,rfl,rfl,h3⟩:=zqe h2 hl;rw[xbe] at few;refine .inl ⟨p,ps,rfl,SqL.of h1,few,fun x hx=>SqT.of (h3 x hx).1,fun t qs ht hp hs=>?_⟩;have e2:qs.map (·.2)=sortR (ps.map (·.2)):=zkq (hp.map _) hs;refine q _ _ _ (Ext.new ht _) (rp.new ht _) (.newL rp ht ?_);rw[← e2];exact znf qs fun x hx=>h3 x (hp.mem_iff.mp hx)
   ·cases e
  ·split at e
   ·rename_i kvs hk;split at e
    ·rename_i few;cases e;obtain⟨p,vs,rfl,h1,h2⟩:=zni rp a hk;refine .inr ⟨p,vs,kvs.map (·.1),rfl,h1,h2.keys,by rw[xbe];exact few,fun t qs ht hp hs hq=>?_⟩;have e2:qs.map (·.2)=sortR (kvs.map (·.1)):=zkq hp hs;refine q _ _ _ (Ext.new ht _) (rp.new ht _) (.newL rp ht ?_);rw[← e2];exact znf qs fun x hx=>⟨hq x hx,zpa rp (hq x hx)⟩
    ·cases e
   ·cases e
 ·cases e
theorem zdv {X:Cx}(hc:X.calm=true)(hu:X.A.units + 64 < cLine):CallR X (.builtin "sorted") (fun xs H Q=>rSortedAL X.K xs H Q\/rSortedDAL xs H Q):=(zmr hu).or (zlm hc hu)
noncomputable def eAppend (f:SE) (g:SA):SE:=fun σ st=>(f σ st).bind fun x st1=>match x,asL st1 x with
 | .ref n,some _=>(g σ st1).bind fun ys st2=>match ys,st2[n]? with
  | [y],some (.lst xs)=>if xs.length < sizeLine then .ok .non (st2.set n (.lst (xs++[y]))) else .stuck
  | _,_=>.stuck
 | _,_=>.stuck
noncomputable def eExtend (f:SE) (g:SA):SE:=fun σ st=>(f σ st).bind fun x st1=>match x,asL st1 x with
 | .ref n,some _=>(g σ st1).bind fun ys st2=>match ys,st2[n]? with
  | [y],some (.lst xs)=>match asL st2 y with
   | some zs=>if xs.length+zs.length<=sizeLine then .ok .non (st2.set n (.lst (xs++zs))) else .stuck
   | none=>.stuck
  | _,_=>.stuck
 | _,_=>.stuck
section
variable {X:Cx}{o e i value:Expr}{es:List Expr}{f g h:SE}{ga:SA}{pos apos cpos:Pos}
theorem zbbc (ho:DE X o f)(ha:DA X (e::es) ga)(hbase:attributeBase o "append" X.env (eval o X.env)=eval o X.env:=by rfl)
  (hfew:((backTo cpos (starEach (e::es) X.env)).all (fun x=>!x.1)&&(backToKw cpos (keywordEach [] X.env)).all (fun x=>x.1.isSome)
   && decide ((e::es).length+([]:List Keyword).length+(if([]:List Keyword).isEmpty then 0 else 1) < 30))=true:=by rfl)
  (hline:(apos.endLine==cpos.line)=true:=by rfl)(hs:starEach (e::es) X.env=(false,eval e X.env)::starEach es X.env:=by rfl)(hplain:(backTo cpos (starEach es X.env)).any (·.1)=false:=by rfl) :
  DE X (.Call (.Attribute o "append" apos) (e::es) [] cpos) (eAppend f ga):=zgh (zbgq xjh F.slot_list_append F.type_list_append zpb ho ha hbase hfew hline hs hplain) fun τ H Q hq0=>by
 obtain⟨ρ,σ,st,v,st',a,rp,e,q⟩:=hq0;obtain⟨x,st1,e1,e⟩:=zd e;refine⟨ρ,σ,st,x,st1,a,rp,e1,fun ρ1 H1 u x1 rp1 a1=>?_⟩;split at e
 ·rename_i n _ hL;obtain⟨ys,st2,e2,e⟩:=zd e;obtain⟨p,vs,rfl,g1,g2⟩:=zhl rp1 a1 hL;refine⟨.inl ⟨rfl,_,SqL.of g1⟩,ρ1,σ,st1,ys,st2,a.ext x1,rp1,e2,fun ρ2 H2 ws x2 rp2 a2=>?_⟩;split at e
  ·rename_i y xs hn;split at e
   ·rename_i hl;cases e;obtain⟨w,rfl,a3⟩:=a2.one;obtain⟨p',ep,hp,vs2,k1,k2⟩:=zji rp2 (a1.ext x2) hn (by intro z;cases z);cases ep;have E:Ext ρ2 H2 ρ2 (upd H2 p (.lst (vs2++[w]))):=Ext.wr hp (zla k1) _;exact⟨p,vs2,w,rfl,rfl,k1,by rw[k2.length];exact hl,q _ _ _ ((x1.trans x2).trans E) (rp2.wr hp (zla k1) ⟨_,zj,(k2.append (.cons a3 .nil)).ext E⟩) .non⟩
   ·cases e
  ·cases e
 ·cases e
noncomputable def eFz (f:SE):SE:=fun σ st=>(f σ st).bind fun x st1=>match x with
 | .ref n=>match st1[n]? with
  | some (.lst xs)=>.ok (.lst xs) (st1.set n .dead)
  | _=>.stuck
 | _=>.stuck
end
noncomputable def sNx:SS:=fun σ st=>.ok (.nx σ) st
noncomputable def sBrk:SS:=fun σ st=>.ok (.brk σ) st
noncomputable def sCt:SS:=fun σ st=>.ok (.ct σ) st
noncomputable def sRet (f:SE):SS:=fun σ st=>(f σ st).bind fun v st1=>.ok (.ret v) st1
noncomputable def sRetN:SS:=fun _ st=>.ok (.ret .non) st
noncomputable def sDrop (f:SE):SS:=fun σ st=>(f σ st).bind fun _ st1=>.ok (.nx σ) st1
noncomputable def sSet (i:Nat) (f:SE):SS:=fun σ st=>(f σ st).bind fun v st1=>.ok (.nx (σ.set i (some v))) st1
noncomputable def sSeq (s t:SS):SS:=fun σ st=>match s σ st with
 | .ok (.nx σ1) st1=>t σ1 st1
 | r=>r
noncomputable def sIf (c:ST) (s t:SS):SS:=fun σ st=>(c σ st).bind fun b st1=>if b=true then s σ st1 else t σ st1
noncomputable def sAug (i:Nat) (g:D->D->Store->Res D) (f:SE):SS:=fun σ st=>match σ[i]? with
 | some (some x)=>(f σ st).bind fun y st1=>(g x y st1).bind fun z st2=>.ok (.nx (σ.set i (some z))) st2
 | _=>.stuck
noncomputable def sSetIx (f g h:SE):SS:=fun σ st=>(h σ st).bind fun v st1=>(f σ st1).bind fun x st2=>(g σ st2).bind fun y st3=>match x,y with
 | .ref n,.int k=>match st3[n]? with
  | some (.lst xs)=>match ixN xs.length k with
   | some j=>.ok (.nx σ) (st3.set n (.lst (xs.set j v)))
   | none=>.stuck
  | _=>.stuck
 | _,_=>.stuck
section
variable {X:Cx}{e c o i value:Expr}{sm:Stmt}{rest:List Stmt}{f g h:SE}{s t:SS}{b:ST}{pos pos':Pos}
theorem zbjt:DSs X [] sNx:=zsf zbcx fun E τ H hq0=>by
 obtain⟨ρ,σ,st,fl,st',a,rp,e,q⟩:=hq0;cases e;exact q _ _ _ (.refl _ _) rp a
theorem zbjr (he:DE X e f):DSt X (.Return (some e) pos) (sRet f):=zox (zbhr he) fun E τ H hq0=>by
 obtain⟨ρ,σ,st,fl,st',a,rp,e,q⟩:=hq0;obtain⟨x,st1,e1,e⟩:=zd e;cases e;exact⟨ρ,σ,st,x,_,a,rp,e1,fun ρ1 H1 u x1 rp1 a1=>q _ _ _ x1 rp1 a1⟩
theorem zbfc (he:DE X e f)(hs:swapsWith e none pos.line X.env=pure false:=by rfl):DSt X (.Expr e pos) (sDrop f):=zox (zoy he hs) fun E τ H hq0=>by
 obtain⟨ρ,σ,st,fl,st',a,rp,e,q⟩:=hq0;obtain⟨x,st1,e1,e⟩:=zd e;cases e;exact⟨ρ,σ,st,x,_,a,rp,e1,fun ρ1 H1 u x1 rp1 a1=>q _ _ _ x1 rp1 (a.ext x1)⟩
theorem zbly {K:Fg}{i:Nat}{f:SE}:∀E τ H,tDS K (sSet i f) E τ H->tAsg (tD K f) (gName i) E τ H:=fun E τ H hq0=>by
 obtain⟨ρ,σ,st,fl,st',a,rp,e,q⟩:=hq0;obtain⟨x,st1,e1,e⟩:=zd e;cases e;exact⟨ρ,σ,st,x,_,a,rp,e1,fun ρ1 H1 u x1 rp1 a1=>q _ _ _ x1 rp1 ((a.ext x1).set a1 i)⟩
theorem zbjq {i:Nat}{x:Str}(hN:X.N.Nodup)(hi:X.N[i]?=some x)(hx:L2.Loc X.env.scope x)(he:DE X e f)(hs:swapsWith e (some (.Name x pos')) pos.line X.env=pure false:=by rfl)(hf:X.fn x=true\/X.env.scope.names.lookup x=some .local:=by first | exact .inl rfl | exact .inr rfl | assumption) :
 DSt X (.Assign [.Name x pos'] e pos) (sSet i f):=zox (zbhq hN hi hx he hs hf) zbly
theorem zbjs (h1:DSt X sm s):DSs X [sm] s:=zow h1
theorem zbfe (h1:DSt X sm s)(h2:DSs X rest t):DSs X (sm::rest) (sSeq s t):=zsf (zkv h1 h2) fun E τ H hq0=>by
 obtain⟨ρ,σ,st,fl,st',a,rp,e,q⟩:=hq0;unfold sSeq at e;split at e
 ·rename_i σ1 st1 e1;exact⟨ρ,σ,st,_,st1,a,rp,e1,fun ρ1 H1 τ1 x1 rp1 a1=>⟨ρ1,σ1,st1,fl,st',a1,rp1,e,q.ext x1⟩⟩
 ·rename_i hne;refine⟨ρ,σ,st,fl,st',a,rp,e,?_⟩;cases fl with
  | nx σ'=>exact absurd e (hne σ' st')
  | brk σ'=>exact q
  | ct σ'=>exact q
  | ret v=>exact q
theorem zbmy {a' b':List Stmt}(hc:DT X c b)(ha:DSs X a' s)(hb:DSs X b' t):DSt X (.If c a' b' pos) (sIf b s t):=zox (zblj hc ha hb) fun E τ H hq0=>by
 obtain⟨ρ,σ,st,fl,st',a,rp,e,q⟩:=hq0;obtain⟨x,st1,e1,e⟩:=zd e;refine⟨ρ,σ,st,x,st1,a,rp,e1,fun ρ1 H1 x1 rp1=>?_⟩;cases x with
 | true=>exact iteT ⟨ρ1,σ,st1,fl,st',a.ext x1,rp1,e,q.ext x1⟩
 | false=>exact iteF ⟨ρ1,σ,st1,fl,st',a.ext x1,rp1,e,q.ext x1⟩
theorem zbas (he:DE X value h)(ho:DE X o f)(hi:DE X i g)(ha:∀v,assign (.Subscript o i pos') X.env v=(do
   let ov ← holding [v] (eval o X.env)
   let iv ← holding [v,ov] (eval i X.env)
   standAt pos'
   holding [v,ov,iv] (setItem ov iv v)
   release [v,ov,iv] []):=by intro _;rfl)
  (hs:swapsWithSole [.Subscript o i pos'] value pos.line X.env=pure false:=by rfl)(hw:swappedStores [.Subscript o i pos'] value X.env=pure none:=by rfl)
  (h1:(assignEach [.Subscript o i pos'] X.env).map (·.2)=[assign (.Subscript o i pos') X.env]:=by rfl):DSt X (.Assign [.Subscript o i pos'] value pos) (sSetIx f g h) :=
 zox (zbht he (zbhw ho hi zyt ha) hs hw h1) fun E τ H hq0=>by
 obtain⟨ρ,σ,st,fl,st',a,rp,e,q⟩:=hq0;obtain⟨v,st1,e1,e⟩:=zd e;obtain⟨x,st2,e2,e⟩:=zd e;obtain⟨y,st3,e3,e⟩:=zd e;refine⟨ρ,σ,st,v,st1,a,rp,e1,fun ρ1 H1 u x1 rp1 a1=>?_⟩;refine⟨ρ1,σ,st1,x,st2,a.ext x1,rp1,e2,fun ρ2 H2 w x2 rp2 a2=>?_⟩;refine⟨ρ2,σ,st2,y,st3,a.ext (x1.trans x2),rp2,e3,fun ρ3 H3 t x3 rp3 a3=>?_⟩;split at e
 ·rename_i n k _;split at e
  ·rename_i xs hn;split at e
   ·rename_i j hj;cases e;cases a3;obtain⟨p,rfl,hp,vs,g1,g2⟩:=zji rp3 (a2.ext x3) hn (by intro z;cases z);have E:Ext ρ3 H3 ρ3 (upd H3 p (.lst (vs.set j u))):=Ext.wr hp (zla g1) _;refine⟨p,vs,k,j,rfl,rfl,g1,by rw[g2.length];exact hj,?_⟩;exact q _ _ _ ((x1.trans (x2.trans x3)).trans E) (rp3.wr hp (zla g1) ⟨_,zj,(g2.set (a1.ext (x2.trans x3)) j).ext E⟩) (a.ext ((x1.trans (x2.trans x3)).trans E))
   ·cases e
  ·cases e
 ·cases e
end
noncomputable abbrev SG:=D->DS->Option DS
noncomputable def gN (i:Nat):SG:=fun d σ=>some (σ.set i (some d))
noncomputable def gD (K:Fg) (b:SG):TG:=fun v τ H Q=>∃ρ σ d σ',AtS K ρ H σ τ/\At K ρ H d v/\b d σ=some σ'/\∀τ',AtS K ρ H σ' τ'->Q τ' H
noncomputable abbrev DG (X:Cx) (tg:Expr) (b:SG):Prop:=PG X tg (gD X.K b)
section
variable {X:Cx}{pos:Pos}{e:Expr}{es:List Expr}{t:SG}{u:List D->DS->Option DS}
theorem zbmb {g g':TG}(h:PG X e g)(k:∀v τ H Q,g' v τ H Q->g v τ H Q):PG X e g':=fun aA s σ H v u Q I r q=>h aA s σ H v u Q I r (k _ _ _ _ q)
theorem zbfk {i:Nat}{x:Str}(hN:X.N.Nodup)(hi:X.N[i]?=some x)(hx:L2.Loc X.env.scope x)(hf:X.fn x=true\/X.env.scope.names.lookup x=some .local:=by first | exact .inl rfl | exact .inr rfl | assumption):DG X (.Name x pos) (gN i) :=
 zbmb (zbdi hN hi hx hf) fun v τ H Q hq0=>by
 obtain⟨ρ,σ,d,σ',a,b,e,q⟩:=hq0;cases e;exact q _ (a.set b i)
end
structure ExtG (ρ:Loc) (H:Hp) (ρ':Loc) (H':Hp):Prop where
 len:ρ.m.length<=ρ'.m.length
 old:∀(n:Nat) (a:Addr),n < ρ.m.length->ρ'.m[n]?=some (some a)->ρ.m[n]?=some (some a)
 keep:∀a o,H a=some o->some a∉ρ.m->H' a=some o/\some a∉ρ'.m
 gho:∀a∈ρ'.g,a∈ρ.g\/H a=none
 frz:∀a ob u,H a=some (.frz ob u)->H' a=some (.frz ob u)
theorem Ext.toG {ρ ρ':Loc}{H H':Hp}(x:Ext ρ H ρ' H'):ExtG ρ H ρ' H':=⟨x.len,x.old,x.keep,fun a h=>.inl (by rw[← x.gho];exact h),x.frz⟩
theorem ExtG.then {ρ ρ1 ρ2:Loc}{H H1 H2:Hp}(a:ExtG ρ H ρ1 H1)(b:Ext ρ1 H1 ρ2 H2):ExtG ρ H ρ2 H2 :=
 ⟨xbb a.len b.len,fun n c h e=>a.old n c h (b.old n c (xbg h a.len) e),fun c o e n=>by
  obtain⟨e1,n1⟩:=a.keep c o e n
  exact b.keep c o e1 n1,fun c h=>a.gho c (by rw[← b.gho];exact h),fun c ob u e=>b.frz c ob u (a.frz c ob u e)⟩
theorem ExtG.out {ρ ρ':Loc}{H H':Hp}(x:ExtG ρ H ρ' H'){a:Addr}{o:HO}(h:H a=some o)(n:Out ρ a):H' a=some o/\Out ρ' a :=
 ⟨(x.keep a o h n.1).1,(x.keep a o h n.1).2,fun z=>by
  rcases x.gho a z with q | q
  ·exact n.2 q
  ·rw[h] at q;cases q⟩
theorem ExtG.mv {ρ ρ':Loc}{H H':Hp}(x:ExtG ρ H ρ' H'):Mv ρ H ρ' H':=⟨fun h n=>x.out h n,x.len,x.old⟩
theorem At.extG {K:Fg}{ρ ρ':Loc}{H H':Hp}(x:ExtG ρ H ρ' H'){d:D}{v:V}(h:At K ρ H d v):At K ρ' H' d v:=h.mv x.mv
theorem Ls.extG {K:Fg}{ρ ρ':Loc}{H H':Hp}{a:Addr}{vs:List V}(x:ExtG ρ H ρ' H')(h:Ls K ρ H a vs):Ls K ρ' H' a vs:=h.mv x.mv
structure ItOk (K:Fg) (ρ:Loc) (H:Hp) (J:It) (xs:List D):Prop where
 item:∀ρ2 H2,ExtG ρ H ρ2 H2->∀(i:Nat) (x:D),xs[i]?=some x->J.go i H2/\∀y H3,J.yld i H2 y H3->Ext ρ2 H2 ρ2 H3/\∀st,Rep K ρ2 st H2->Rep K ρ2 st H3/\At K ρ2 H3 x y
 done:∀ρ2 H2,ExtG ρ H ρ2 H2->∀i:Nat,xs.length<=i->J.stop i H2
noncomputable def iD (K:Fg) (f:SA):TI:=fun τ H R=>∃ρ σ st xs st',AtS K ρ H σ τ/\Rep K ρ st H/\f σ st=.ok xs st'/\∀ρ' H' J,Ext ρ H ρ' H'->Rep K ρ' st' H'->ItOk K ρ' H' J xs->R J H'
noncomputable abbrev DI (X:Cx) (tg iter:Expr) (f:SA):Prop:=PI X tg iter (iD X.K f)
noncomputable def seqV:D->Option (List D)
 | .tup xs=>some xs
 | .lst xs=>some xs
 | .scr xs=>some xs
 | _=>none
noncomputable def iSeq (f:SE):SA:=fun σ st=>(f σ st).bind fun x st1=>match seqV x with
 | some xs=>.ok xs st1
 | none=>.stuck
noncomputable def rng (lo:Int) (n:Nat):List D:=(List.range n).map fun(i:Nat)=>D.int (lo+i)
noncomputable def iR1 (g:SA):SA:=fun σ st=>(g σ st).bind fun xs st1=>match xs with
 | [.int j]=>if -(2 ^ 62)<=j/\j < 2 ^ 62 then .ok (rng 0 j.toNat) st1 else .stuck
 | _=>.stuck
noncomputable def iR2 (g:SA):SA:=fun σ st=>(g σ st).bind fun xs st1=>match xs with
 | [.int i,.int j]=>if -(2 ^ 62)<=i/\i < 2 ^ 62/\-(2 ^ 62)<=j/\j < 2 ^ 62 then .ok (rng i (j - i).toNat) st1 else .stuck
 | _=>.stuck
theorem zry {lo:Int}{n i:Nat}{x:D}(h:(rng lo n)[i]?=some x):i < n/\x=.int (lo+i):=by
 unfold rng at h;rw[xcl] at h;rcases xgu i n with z | z
 ·rw[List.getElem?_range z] at h;exact⟨z,(xbw h).symm⟩
 ·rw[xjv (by rw[xkv];exact z)] at h;cases h
theorem zbja {K:Fg}{ρ:Loc}{H:Hp}{lo:Int}{n:Nat}:ItOk K ρ H (Itr lo n) (rng lo n) where
 item:=fun ρ2 H2 x i d e=>by
  obtain⟨h1,rfl⟩:=zry e;refine⟨h1,fun y H3 hy=>?_⟩;obtain⟨rfl,rfl⟩:=hy;exact⟨.refl _ _,fun _ r=>⟨r,.int _⟩⟩
 done:=fun ρ2 H2 x i h=>by
  unfold rng at h;rw[xbe,xkv] at h;exact h
section
variable {X:Cx}{tg l a b:Expr}{f:SE}{g:SA}{p pos:Pos}
theorem zbhv {t t':TI}(h:PI X tg l t)(k:∀τ H R,t' τ H R->t τ H R):PI X tg l t':=fun aA s σ H R I q=>h aA s σ H R I (k _ _ _ q)
theorem zbma {t t':TI}(h:PI X tg l t)(h':PI X tg l t'):PI X tg l (fun τ H R=>t τ H R\/t' τ H R):=fun aA s σ H R I q=>by
 rcases q with q | q
 ·exact h aA s σ H R I q
 ·exact h' aA s σ H R I q
theorem zyj {K:Fg}{ρ:Loc}{H:Hp}{p:Addr}{xs:List D}{vs:List V}(hs:∀ρ2 H2,ExtG ρ H ρ2 H2->SqL K H2 p vs)(al:AtAll K ρ H xs vs):ItOk K ρ H (Itl K p) xs where
 item:=fun ρ2 H2 x i d e=>by
  obtain⟨v,hv,a⟩:=al.get e;refine⟨⟨vs,v,hs _ _ x,hv⟩,fun y H3 hy=>?_⟩;obtain⟨rfl,h2⟩:=hy;have:=h2 vs (hs _ _ x);rw[hv] at this;cases this;exact⟨.refl _ _,fun _ r=>⟨r,a.extG x⟩⟩
 done:=fun ρ2 H2 x i h=>⟨vs,hs _ _ x,by rw[al.length];exact h⟩
theorem zblb {K:Fg}{ρ:Loc}{H:Hp}{p:Addr}{xs:List D}{vs:List V}(hs:∀ρ2 H2,ExtG ρ H ρ2 H2->SqT K H2 p vs)(al:AtAll K ρ H xs vs):ItOk K ρ H (Itt K p) xs where
 item:=fun ρ2 H2 x i d e=>by
  obtain⟨v,hv,a⟩:=al.get e;refine⟨⟨vs,v,hs _ _ x,hv⟩,fun y H3 hy=>?_⟩;obtain⟨rfl,h2⟩:=hy;have:=h2 vs (hs _ _ x);rw[hv] at this;cases this;exact⟨.refl _ _,fun _ r=>⟨r,a.extG x⟩⟩
 done:=fun ρ2 H2 x i h=>⟨vs,hs _ _ x,by rw[al.length];exact h⟩
theorem zbjy (hl:DE X l f):DI X tg l (iSeq f):=zbhv (zbma (zbdg hl) (zbhu hl)) fun τ H R hq0=>by
 obtain⟨ρ,σ,st,xs,st',a,rp,e,q⟩:=hq0;obtain⟨x,st1,e1,e⟩:=zd e;cases x with
 | tup ys =>
  cases e;refine .inr ⟨ρ,σ,st,_,_,a,rp,e1,fun ρ1 H1 u x1 rp1 a1=>?_⟩;cases a1 with
  | tup h1 h2 h3=>exact⟨_,rfl,⟨_,SqT.of h1⟩,q _ _ _ x1 rp1 (zblb (fun ρ2 H2 x2=>SqT.of (x2.out h1 h2).1) h3)⟩
 | lst ys =>
  cases e;refine .inl ⟨ρ,σ,st,_,_,a,rp,e1,fun ρ1 H1 u x1 rp1 a1=>?_⟩;cases a1 with
  | lst h1 h2 h3=>exact⟨_,rfl,⟨_,SqL.of h1⟩,q _ _ _ x1 rp1 (zyj (fun ρ2 H2 x2=>SqL.of (x2.out h1 h2).1) h3)⟩
 | scr ys =>
  cases e;refine .inl ⟨ρ,σ,st,_,_,a,rp,e1,fun ρ1 H1 u x1 rp1 a1=>?_⟩;cases a1 with
  | scr h1 h3=>exact⟨_,rfl,⟨_,h1.sq⟩,q _ _ _ x1 rp1 (zyj (fun ρ2 H2 x2=>(h1.extG x2).sq) h3)⟩
 | _=>cases e
theorem zwl (hg:Gl X "range")(hm:X.mg "range"=none)(ha:DA X [a] g)(hs:starEach [a] X.env=[(false, eval a X.env)]:=by rfl):DI X tg (.Call (.Name "range" p) [a] [] pos) (iR1 g) :=
 zbhv (zvg hg hm ha hs) fun τ H R hq0=>by
 obtain⟨ρ,σ,st,xs,st',a,rp,e,q⟩:=hq0;obtain⟨x,st1,e1,e⟩:=zd e;split at e
 ·split at e
  ·rename_i hj;cases e;refine⟨ρ,σ,st,_,_,a,rp,e1,fun ρ1 H1 u x1 rp1 a1=>?_⟩;obtain⟨w,rfl,a2⟩:=a1.one;cases a2;exact⟨_,rfl,hj.1,hj.2,q _ _ _ x1 rp1 zbja⟩
  ·cases e
 ·cases e
end
noncomputable def iDict (f:SE):SA:=fun σ st=>(f σ st).bind fun x st1=>match x with
 | .ref n=>match st1[n]? with
  | some (.dT kvs)=>.ok (rowsD (kvs.map (·.1))) (st1.set n (.fT kvs))
  | _=>.stuck
 | _=>.stuck
section
variable {X:Cx}{tg l:Expr}{f:SE}
theorem zbfj (hl:DE X l f):DI X tg l (iDict f):=zbhv (zbdh hl) fun τ H R hq0=>by
 obtain⟨ρ,σ,st,xs,st',a,rp,e,q⟩:=hq0;obtain⟨x,st1,e1,e⟩:=zd e;refine⟨ρ,σ,st,x,st1,a,rp,e1,fun ρ1 H1 u x1 rp1 a1=>?_⟩;split at e
 ·rename_i n;split at e
  ·rename_i kvs hn;cases e;obtain⟨p,rfl,hp,vs,g1,g2⟩:=zji rp1 a1 hn (by intro z;cases z);refine⟨p,vs,kvs.map (·.1),rfl,g1,g2.keys,fun ob ps h1 h2=>?_⟩;have E:Ext ρ1 H1 ρ1 (upd H1 p (.frz ob (.dT vs))):=Ext.wr hp (zkf g1) _;have R:Rep X.K ρ1 (st1.set n (.fT kvs)) (upd H1 p (.frz ob (.dT vs))):=rp1.wr hp (zkf g1) ⟨vs,ob,zj,g2.ext E⟩;refine q _ _ _ (x1.trans E) R ⟨fun ρ2 H2 x2 i d e=>?_,fun ρ2 H2 x2 i h=>?_⟩
   ·have e2:(ps.map (·.2))[i]?=(kvs.map (·.1))[i]?:=by rw[h1]
    unfold rowsD at e;rw[xcl,← e2,xcl] at e;cases hi:ps[i]? with
    | none=>rw[hi] at e;cases e
    | some x =>
     rw[hi] at e;cases e;refine⟨⟨(xbk.mp hi).1,x2.frz _ _ _ zj⟩,fun y H3 hy=>?_⟩;obtain⟨rfl,x',hx',rfl⟩:=hy;rw[hi] at hx';cases hx';have ht:=h2 x (xcj hi);have a3:At X.K ρ1 H1 (rowD x.2) (.ref x.1):=.tup ht (zpa rp1 ht) (zlc _);exact⟨.refl _ _,fun _ r=>⟨r,(a3.ext E).extG x2⟩⟩
   ·have e2:=congrArg List.length h1;rw[xbe] at e2;unfold rowsD at h;rw[xbe,← e2] at h;exact⟨h,x2.frz _ _ _ zj⟩
  ·cases e
 ·cases e
end
noncomputable def forF (bd:SG) (body:SS):List D->SS
 | [],σ,st=>.ok (.nx σ) st
 | x::xs,σ,st=>match bd x σ with
  | none=>.stuck
  | some σ1=>match body σ1 st with
   | .ok (.nx σ2) st2=>forF bd body xs σ2 st2
   | .ok (.ct σ2) st2=>forF bd body xs σ2 st2
   | .ok (.brk σ2) st2=>.ok (.nx σ2) st2
   | r=>r
noncomputable def sFor (it:SA) (bd:SG) (body:SS):SS:=fun σ st=>(it σ st).bind fun xs st1=>forF bd body xs σ st1
noncomputable def whileF (c:ST) (body:SS):Nat->SS
 | 0,_,_=>.stuck
 | n+1,σ,st=>(c σ st).bind fun b st1=>if b=true then(match body σ st1 with
  | .ok (.nx σ2) st2=>whileF c body n σ2 st2
  | .ok (.ct σ2) st2=>whileF c body n σ2 st2
  | .ok (.brk σ2) st2=>.ok (.nx σ2) st2
  | r=>r) else .ok (.nx σ) st1
noncomputable def wCap:Nat:=1000000
noncomputable def sWhile (c:ST) (body:SS):SS:=whileF c body wCap
theorem zxy {α:Type}{xs:List α}{i:Nat}(h:i < xs.length):∃x,xs[i]?=some x/\xs.drop i=x::xs.drop (i+1):=⟨xs[i],xbh h,xej h⟩
section
variable {X:Cx}{tg iter c:Expr}{body:List Stmt}{it:SA}{bd:SG}{b:SS}{t:ST}{pos:Pos}
theorem zbju (hp:PassesOwn (model X.prog X.w) X.A X.env X.xe)(hc:X.calm=true)(hi:DI X tg iter it)(hg:DG X tg bd)(hb:DSs X body b)(hs:∀x,foldedSetIterable iter X.env x=pure x:=by intro _;rfl) :
  DSt X (.For tg iter body [] pos) (sFor it bd b):=zox (zbhs hp hc hi hg hb hs) fun E τ H hq0=>by
 obtain⟨ρ,σ,st,fl,st',a,rp,e,q⟩:=hq0;obtain⟨xs,st1,e1,e⟩:=zd e;refine⟨ρ,σ,st,xs,st1,a,rp,e1,fun ρ1 H1 J x1 rp1 ok=>?_⟩;have q1:=q.ext x1;refine⟨fun i m τ' H'=>i+m=xs.length/\∃ρ2 σ2 st2,Ext ρ1 H1 ρ2 H'/\AtS X.K ρ2 H' σ2 τ'/\Rep X.K ρ2 st2 H'/\forF bd b (xs.drop i) σ2 st2=.ok fl st',⟨xs.length,by lia,ρ1,σ,st1,.refl _ _,a.ext x1,rp1,e⟩,?_⟩;rintro i m τ' H' ⟨him,ρ2,σ2,st2,x2,a2,rp2,e2⟩;rcases xgu i xs.length with hlt | hge
 ·obtain⟨x,hx,hd⟩:=zxy hlt;rw[hd] at e2;obtain⟨go,yl⟩:=ok.item ρ2 H' x2.toG i x hx;refine .inr ⟨go,fun τ3 H3=>∃ρ3 σ3 st3,Ext ρ1 H1 ρ3 H3/\AtS X.K ρ3 H3 σ3 τ3/\Rep X.K ρ3 st3 H3/\forF bd b (xs.drop (i+1)) σ3 st3=.ok fl st',fun τ3 H3 ⟨ρ3,σ3,st3,n1,n2,n3,n4⟩=>⟨m - 1,by lia,by lia,ρ3,σ3,st3,n1,n2,n3,n4⟩,fun y H3 hy=>?_⟩;obtain⟨y1,y4⟩:=yl y H3 hy;obtain⟨y2,y3⟩:=y4 _ rp2;unfold forF at e2;cases hbd:bd x σ2 with
  | none=>rw[hbd] at e2;cases e2
  | some σ1 =>
   rw[hbd] at e2;dsimp only at e2;have X3:=x2.trans y1;refine⟨ρ2,σ2,x,σ1,a2.ext y1,y3,hbd,fun τ4 a4=>?_⟩;cases hr:b σ1 st2 with
   | stuck=>rw[hr] at e2;cases e2
   | exc z w=>rw[hr] at e2;cases e2
   | ok fb st3 =>
    rw[hr] at e2;refine⟨ρ2,σ1,st2,fb,st3,a4,y2,hr,?_⟩;cases fb with
    | nx σ3=>exact fun ρ' H'' τ5 x5 rp5 a5=>⟨ρ',σ3,st3,X3.trans x5,a5,rp5,e2⟩
    | ct σ3=>exact fun ρ' H'' τ5 x5 rp5 a5=>⟨ρ',σ3,st3,X3.trans x5,a5,rp5,e2⟩
    | brk σ3 =>
     dsimp only at e2;cases e2;exact fun ρ' H'' τ5 x5 rp5 a5=>q1 _ _ _ (X3.trans x5) rp5 a5
    | ret v =>
     dsimp only at e2;cases e2;exact fun ρ' H'' u x5 rp5 a5=>q1 _ _ _ (X3.trans x5) rp5 a5
 ·rw[xhp hge] at e2;unfold forF at e2;cases e2;exact .inl ⟨ok.done ρ2 H' x2.toG i hge,q1 _ _ _ x2 rp2 a2⟩
theorem zbar (hp:PassesOwn (model X.prog X.w) X.A X.env X.xe)(hc:DT X c t)(hb:DSs X body b):DSt X (.While c body [] pos) (sWhile t b):=zox (zzf hp hc hb) fun E τ H hq0=>by
 obtain⟨ρ,σ,st,fl,st',a,rp,e,q⟩:=hq0;unfold sWhile at e;generalize wCap=n at e;refine⟨fun m τ' H'=>∃ρ2 σ2 st2,Ext ρ H ρ2 H'/\AtS X.K ρ2 H' σ2 τ'/\Rep X.K ρ2 st2 H'/\whileF t b m σ2 st2=.ok fl st',⟨n,ρ,σ,st,.refl _ _,a,rp,e⟩,?_⟩;rintro m τ' H' ⟨ρ2,σ2,st2,x2,a2,rp2,e2⟩;cases m with
 | zero=>unfold whileF at e2;cases e2
 | succ m =>
  unfold whileF at e2;obtain⟨x,st3,e3,e4⟩:=zd e2;refine⟨ρ2,σ2,st2,x,st3,a2,rp2,e3,fun ρ3 H3 x3 rp3=>?_⟩;have X3:=x2.trans x3;cases x with
  | false =>
   rw[if_neg (by decide)] at e4;cases e4;exact iteF (q _ _ _ X3 rp3 (a2.ext x3))
  | true =>
   rw[if_pos rfl] at e4;refine iteT ⟨fun τ4 H4=>∃ρ4 σ4 st4,Ext ρ H ρ4 H4/\AtS X.K ρ4 H4 σ4 τ4/\Rep X.K ρ4 st4 H4/\whileF t b m σ4 st4=.ok fl st',fun τ4 H4 hh=>⟨m,xlb m,hh⟩,?_⟩;cases hr:b σ2 st3 with
   | stuck=>rw[hr] at e4;cases e4
   | exc z w=>rw[hr] at e4;cases e4
   | ok fb st5 =>
    rw[hr] at e4;refine⟨ρ3,σ2,st3,fb,st5,a2.ext x3,rp3,hr,?_⟩;cases fb with
    | nx σ3=>exact fun ρ' H'' τ5 x5 rp5 a5=>⟨ρ',σ3,st5,X3.trans x5,a5,rp5,e4⟩
    | ct σ3=>exact fun ρ' H'' τ5 x5 rp5 a5=>⟨ρ',σ3,st5,X3.trans x5,a5,rp5,e4⟩
    | brk σ3 =>
     dsimp only at e4;cases e4;exact fun ρ' H'' τ5 x5 rp5 a5=>q _ _ _ (X3.trans x5) rp5 a5
    | ret v =>
     dsimp only at e4;cases e4;exact fun ρ' H'' u x5 rp5 a5=>q _ _ _ (X3.trans x5) rp5 a5
end
noncomputable def compF (bd:SG) (c:ST) (f:SE):List D->DS->Store->Res (List D)
 | [],_,st=>.ok [] st
 | x::xs,σ,st=>match bd x σ with
  | none=>.stuck
  | some σ1=>(c σ1 st).bind fun b st1=>if b=true then(f σ1 st1).bind fun y st2=>(compF bd c f xs σ1 st2).bind fun ys st3=>.ok (y::ys) st3 else compF bd c f xs σ1 st1
noncomputable def startD (k:Nat) (is:List Nat) (σ:DS):DS:=List.replicate k none++is.map fun i=>(σ[i]?).getD none
noncomputable def eComp (it:SA) (k:Nat) (is:List Nat) (bd:SG) (c:ST) (f:SE):SE:=fun σ st=>(it σ st).bind fun xs st1=>if xs.length<=sizeLine then(compF bd c f xs (startD k is σ) st1).bind fun ys st2=>.ok (.lst ys) st2 else .stuck
noncomputable def bYes:ST:=fun _ st=>.ok true st
theorem AtS.start {K:Fg}{ρ:Loc}{H:Hp}{σ:DS}{τ:St}(h:AtS K ρ H σ τ)(k:Nat)(is:List Nat):AtS K ρ H (startD k is σ) (startC k is τ):=by
 have app:∀{a c:DS} {b d:St},AtS K ρ H a b->AtS K ρ H c d->AtS K ρ H (a++c) (b++d):=fun h1 h2=>by
  induction h1 with
  | nil=>exact h2
  | cons r t ih=>exact .cons r ih
 refine app ?_ ?_
 ·induction k with
  | zero=>exact .nil
  | succ k ih=>exact .cons (fun d e=>nomatch e) ih
 ·induction is with
  | nil=>exact .nil
  | cons i is ih =>
   refine .cons (fun d e=>?_) ih;have e:(σ[i]?).getD none=some d:=e;have e':σ[i]?=some (some d):=by
    cases q:σ[i]? with
    | none=>rw[q] at e;cases e
    | some o=>rw[q] at e;exact congrArg some e
   obtain⟨u,hu,a⟩:=h.get e';exact⟨u,by show(τ[i]?).getD none=some u;rw[hu];rfl,a⟩
noncomputable def Loc.with (ρ:Loc) (p:Addr):Loc:=⟨ρ.m,p::ρ.g⟩
theorem zbce {ρ:Loc}{H:Hp}{p:Addr}{o:HO}(hp:H p=none):Mv ρ H (ρ.with p) (upd H p o):=⟨fun e n=>⟨by rw[zm (zh e hp)];exact e,n.1,fun z=>by
 rcases xbx.mp z with z | z
 ·exact zh e hp z
 ·exact n.2 z⟩,xbf _,fun _ _ _ e=>e⟩
theorem At.with {K:Fg}{ρ:Loc}{H:Hp}{p:Addr}{o:HO}(hp:H p=none){d:D}{v:V}(h:At K ρ H d v):At K (ρ.with p) (upd H p o) d v:=h.mv (zbce hp)
theorem zxu {ρ ρ':Loc}{H:Hp}{p:Addr}{o:HO}(hm:ρ'.m=ρ.m)(hg:p∈ρ.g)(hs:∀a,a∈ρ'.g->a∈ρ.g):Mv ρ H ρ' (upd H p o):=⟨fun e n=>⟨by rw[zm (by rintro rfl;exact n.2 hg)];exact e,by rw[hm];exact n.1,fun z=>n.2 (hs _ z)⟩,by rw[hm];exact xbf _,fun _ _ _ e=>by rw[hm] at e;exact e⟩
theorem At.grow {K:Fg}{ρ ρ':Loc}{H:Hp}{p:Addr}{o:HO}(hm:ρ'.m=ρ.m)(hg:p∈ρ.g)(hs:∀a,a∈ρ'.g->a∈ρ.g){d:D}{v:V}(h:At K ρ H d v):At K ρ' (upd H p o) d v:=h.mv (zxu hm hg hs)
theorem AtAll.grow {K:Fg}{ρ ρ':Loc}{H:Hp}{p:Addr}{o:HO}(hm:ρ'.m=ρ.m)(hg:p∈ρ.g)(hs:∀a,a∈ρ'.g->a∈ρ.g){d:List D}{v:List V}(h:AtAll K ρ H d v):AtAll K ρ' (upd H p o) d v:=h.mv (zxu hm hg hs)
theorem OAt.map {K:Fg}{ρ ρ':Loc}{H H':Hp}{a:Addr}{x:O}(k:∀d v,At K ρ H d v->At K ρ' H' d v)(fz:∀b ob u,H b=some (.frz ob u)->H' b=some (.frz ob u))(same:H' a=H a)(h:OAt K ρ H x a):OAt K ρ' H' x a:=by
 have ka:∀{d:List D} {v:List V},AtAll K ρ H d v->AtAll K ρ' H' d v:=fun {d v} h=>by
  induction d generalizing v with
  | nil=>cases h;exact .nil
  | cons x xs ih=>cases h with | cons a b=>exact .cons (k _ _ a) (ih b)
 cases x with
 | lst xs=>obtain⟨vs,q,r⟩:=h;exact⟨vs,by rw[same];exact q,ka r⟩
 | dT kvs=>obtain⟨vs,q,r⟩:=h;exact⟨vs,by rw[same];exact q,Paired.mapP r fun p q z=>⟨z.1,k _ _ z.2⟩⟩
 | fT kvs=>obtain⟨vs,ob,q,r⟩:=h;exact⟨vs,ob,by rw[same];exact q,Paired.mapP r fun p q z=>⟨z.1,k _ _ z.2⟩⟩
 | dead=>exact h.elim
 | tab=>obtain⟨c,ps,q,r⟩:=h;exact⟨c,ps,by rw[same];exact q,r.map fz⟩
theorem Rep.with {K:Fg}{ρ:Loc}{st:Store}{H:Hp}{p:Addr}(r:Rep K ρ st H)(hp:H p=none)(vs:List V):Rep K (ρ.with p) st (upd H p (.lst vs)) :=
 ⟨r.len,r.inj,fun m b y e1 e2=>by
  have q:=r.obj m b y e1 e2;obtain⟨u,hu⟩:=q.has;exact q.map (fun d v h=>h.with hp) (fun b ob u e=>by rw[zm (zh e hp)];exact e) (zm (zh hu hp)),fun a ha=>by
  rcases xbx.mp ha with rfl | ha
  ·exact⟨⟨vs,zj⟩,(zfx r hp).1⟩
  ·obtain⟨⟨ws,h1⟩,h2⟩:=r.gh a ha
   exact⟨⟨ws,by rw[zm (zh h1 hp)];exact h1⟩,h2⟩,r.live⟩
theorem Rep.grow {K:Fg}{ρ ρ':Loc}{st:Store}{H:Hp}{p:Addr}(r:Rep K ρ st H)(hm:ρ'.m=ρ.m)(hg:p∈ρ.g)(hs:∀a,a∈ρ'.g->a∈ρ.g)(vs:List V):Rep K ρ' st (upd H p (.lst vs)) :=
 ⟨by rw[hm];exact r.len,by rw[hm];exact r.inj,fun m b y e1 e2=>by
  rw[hm] at e1;refine(r.obj m b y e1 e2).map (fun d v h=>h.grow hm hg hs) (fun b ob u e=>by rw[zm (by rintro rfl;obtain⟨⟨_,z⟩,_⟩:=r.gh _ hg;rw[e] at z;cases z)];exact e) (zm ?_);rintro rfl;exact(r.gh b hg).2 (xcj e1),fun a ha=>by
  obtain⟨⟨ws,h1⟩,h2⟩:=r.gh a (hs a ha);refine⟨?_,by rw[hm];exact h2⟩;by_cases e:a=p
  ·subst e;exact⟨vs,zj⟩
  ·exact⟨ws,by rw[zm e];exact h1⟩,by rw[hm];exact r.live⟩
theorem AtS.map {K:Fg}{ρ ρ':Loc}{H H':Hp}{σ:DS}{τ:St}(k:∀d v,At K ρ H d v->At K ρ' H' d v)(h:AtS K ρ H σ τ):AtS K ρ' H' σ τ:=Paired.mapP h fun o v z d e=>by
 obtain⟨u,e1,a⟩:=z d e;exact⟨u,e1,k _ _ a⟩
section
variable {X:Cx}{tg iter elt:Expr}{ifs:List Expr}{it:SA}{bd:SG}{c:ST}{f:SE}{N:List Str}{k:Nat}{is:List Nat}{scope:Scope}{pos:Pos}
inductive CI (K:Fg) (bd:SG) (c:ST) (f:SE) (xs ys:List D) (st2:Store) (ρ1:Loc) (H1:Hp) (p:Addr) (i:Nat) (τ:St) (H':Hp):Prop where
 | mk {ρ2:Loc} {σ2:DS} {st3:Store} {acc:List D} {accV:List V} {zs:List D} (x2:ExtG ρ1 H1 ρ2 H') (hg:ρ2.g=p::ρ1.g) (hpp:H' p=some (.lst accV)) (hal:AtAll K ρ2 H' acc accV) (hli:acc.length<=i) (a2:AtS K ρ2 H' σ2 τ) (rp2:Rep K ρ2 st3 H') (e3:compF bd c f (xs.drop i) σ2 st3=.ok zs st2) (hac:acc++zs=ys):CI K bd c f xs ys st2 ρ1 H1 p i τ H'
theorem zbkk {K:Fg}{τ:St}{H:Hp}{Q:V->Hp->Prop}{ρ:Loc}{σ:DS}{st st1 st2:Store}{xs ys:List D}(a:AtS K ρ H σ τ)(rp:Rep K ρ st H)(e1:it σ st=.ok xs st1)(hlen:xs.length<=sizeLine)(e2:compF bd c f xs (startD k is σ) st1=.ok ys st2)
 (fin:∀ρ1 H1 p ρ2 H' accV,Ext ρ H ρ1 H1->Rep K ρ1 st1 H1->H1 p=none->ExtG ρ1 H1 ρ2 H'->ρ2.g=p::ρ1.g->H' p=some (.lst accV)->AtAll K ρ2 H' ys accV->Rep K ρ2 st2 H'->Q (.ref p) H'):tComp (iD K it) k is (gD K bd) (tDT K c) (tD K f) τ H Q:=by
 refine⟨ρ,σ,st,xs,st1,a,rp,e1,fun ρ1 H1 J x1 rp1 ok p hp=>?_⟩
 refine⟨fun i m τ' H'=>i+m=xs.length/\CI K bd c f xs ys st2 ρ1 H1 p i τ' H',
  ⟨xs.length,by lia,.mk ?_ rfl zj .nil (xec _) (((a.ext x1).start k is).map fun d v h=>h.with hp) (rp1.with hp []) e2 rfl⟩,?_⟩
 ·have E:Ext ρ1 H1 ρ1 (upd H1 p (.lst [])):=Ext.new hp _
  exact⟨E.len,E.old,E.keep,fun a h=>by
   rcases xbx.mp h with rfl | h
   ·exact .inr hp
   ·exact .inl h,E.frz⟩
 rintro i m τ' H' ⟨him,@⟨ρ2,σ2,st3,acc,accV,zs,x2,hg,hpp,hal,hli,a2,rp2,e3,hac⟩⟩;have hpg:p∈ρ2.g:=by rw[hg];exact xch
 rcases xgu i xs.length with hlt | hge
 ·obtain⟨x,hx,hd⟩:=zxy hlt;rw[hd] at e3;obtain⟨go,yl⟩:=ok.item ρ2 H' x2 i x hx
  refine .inr ⟨go,CI K bd c f xs ys st2 ρ1 H1 p (i+1),
   fun τ4 H4 hh=>⟨m - 1,by lia,by lia,hh⟩,fun y H3 hy=>?_⟩
  obtain⟨y1,y4⟩:=yl y H3 hy;obtain⟨y2,y3⟩:=y4 _ rp2;unfold compF at e3;cases hbd:bd x σ2 with
  | none=>rw[hbd] at e3;cases e3
  | some σ1 =>
   rw[hbd] at e3;dsimp only at e3;obtain⟨bb,st4,e4,e5⟩:=zd e3;refine⟨ρ2,σ2,x,σ1,a2.ext y1,y3,hbd,fun τ4 a4=>?_⟩;have hpm:some p∉ρ2.m:=(rp2.gh p hpg).2;have hpp3:=(y1.keep p _ hpp hpm).1;refine⟨ρ2,σ1,st3,bb,st4,a4,y2,e4,fun ρ5 H5 x5 rp5=>?_⟩;have hpp5:=(x5.keep p _ hpp3 hpm).1;have hal5:=(hal.ext y1).ext x5;have g5:ρ5.g=p::ρ1.g:=x5.gho.trans hg;cases bb with
   | false =>
    rw[if_neg (by decide)] at e5;exact iteF (.mk ((x2.then y1).then x5) g5 hpp5 hal5 (xeu hli) (a4.ext x5) rp5 e5 hac)
   | true =>
    rw[if_pos rfl] at e5;obtain⟨w,st6,e6,e7⟩:=zd e5;obtain⟨zs',st7,e8,e9⟩:=zd e7;cases e9;refine iteT ⟨ρ5,σ1,st4,w,st6,a4.ext x5,rp5,e6,fun ρ6 H6 u x6 rp6 a6=>?_⟩;have hpm5:some p∉ρ5.m:=(x5.keep p _ hpp3 hpm).2;have hpp6:=(x6.keep p _ hpp5 hpm5).1;have g6:ρ6.g=p::ρ1.g:=x6.gho.trans g5;have hp6:p∈ρ6.g:=by rw[g6];exact xch
    have hl6:accV.length<=i:=by rw[hal.length];exact hli
    refine⟨accV,hpp6,xcn hl6 (xbg hlt hlen),.mk (acc:=acc++[w]) (accV:=accV++[u]) ?_ g6 zj ?_ (by rw[xbq];exact xen hli) ?_ (rp6.grow rfl hp6 (fun _ h=>h) _) e8 (by rw[← hac,xcm];rfl)⟩
    ·have G:=((x2.then y1).then x5).then x6;refine⟨G.len,G.old,fun b o e n=>?_,G.gho,fun b ob uu e=>?_⟩
     ·rw[zm (zh e hp)];exact G.keep b o e n
     ·rw[zm (zh e hp)];exact G.frz b ob uu e
    ·exact((hal5.ext x6).append (.cons a6 .nil)).grow rfl hp6 (fun _ h=>h)
    ·exact(a4.ext (x5.trans x6)).map fun d v h=>h.grow rfl hp6 (fun _ h=>h)
 ·rw[xhp hge] at e3;unfold compF at e3;cases e3;rw[xdr] at hac;subst hac;exact .inl ⟨ok.done _ _ x2 i hge,fin _ _ _ _ _ _ x1 rp1 hp x2 hg hpp hal rp2⟩
theorem zbfx {K:Fg}:∀τ H Q,tD K (eComp it k is bd c f) τ H Q->tComp (iD K it) k is (gD K bd) (tDT K c) (tD K f) τ H Q:=fun τ H Q hq0=>by
 obtain⟨ρ,σ,st,v,st',a,rp,e,q⟩:=hq0;obtain⟨xs,st1,e1,e⟩:=zd e;split at e
 ·rename_i hlen;obtain⟨ys,st2,e2,e⟩:=zd e;cases e;refine zbkk a rp e1 hlen e2 fun ρ1 H1 p ρ2 H' accV x1 rp1 hp x2 hg hpp hal rp2=>?_
  have hpg:p∈ρ2.g:=by rw[hg];exact xch
  have hpm:some p∉ρ2.m:=(rp2.gh p hpg).2;have self:upd H' p (.lst accV)=H':=zrm hpp;have sub:∀a,a∈(⟨ρ2.m,ρ1.g⟩:Loc).g->a∈ρ2.g:=fun b hb=>by rw[hg];exact xci _ hb
  have E:Ext ρ1 H1 ⟨ρ2.m,ρ1.g⟩ H':=⟨x2.len,x2.old,x2.keep,rfl,x2.frz⟩
  have R:=rp2.grow (ρ':=⟨ρ2.m,ρ1.g⟩) rfl hpg sub accV;have L:=AtAll.grow (ρ:=ρ2) (ρ':=⟨ρ2.m,ρ1.g⟩) (o:=.lst accV) rfl hpg sub hal;rw[self] at R L;refine q _ _ _ (x1.trans E) R (.lst hpp ⟨hpm,fun z=>?_⟩ L);obtain⟨⟨ws,h1⟩,_⟩:=rp1.gh p z;rw[hp] at h1;cases h1
 ·cases e
theorem zbkh (hcalm:X.calm=true)(hi:DI X tg iter it)(hg:∀cl C fp s H,DG (cxC X N scope cl C fp s H) tg bd)(hc:∀cl C fp s H,PIf (cxC X N scope cl C fp s H) ifs (tDT X.K c))(he:∀cl C fp s H,DE (cxC X N scope cl C fp s H) elt f)
 (S:CompScope X N k is scope)(hs:∀x,foldedSetIterable iter X.env x=pure x:=by intro _;rfl):DE X (.ListComp elt [⟨tg,iter,ifs,0⟩] scope pos) (eComp it k is bd c f):=zgh (zbdm hcalm hi hg hc he S hs) zbfx
theorem zbfb {i:Nat}{x:Str}{pos' spos:Pos}(hcalm:X.calm=true)(hN:X.N.Nodup)(hxi:X.N[i]?=some x)(hx:L2.Loc X.env.scope x)(hi:DI X tg iter it)(hg:∀cl C fp s H,DG (cxC X N scope cl C fp s H) tg bd)
  (hc:∀cl C fp s H,PIf (cxC X N scope cl C fp s H) ifs (tDT X.K c))(he:∀cl C fp s H,DE (cxC X N scope cl C fp s H) elt f)(S:CompScope X N k is scope)
  (hsw:swapsWith (.ListComp elt [⟨tg,iter,ifs,0⟩] scope pos) (some (.Name x pos')) spos.line X.env=pure true:=by rfl)
  (hf:X.fn x=true\/X.env.scope.names.lookup x=some .local:=by first | exact .inl rfl | exact .inr rfl | assumption)
  (hs:∀x,foldedSetIterable iter X.env x=pure x:=by intro _;rfl):DSt X (.Assign [.Name x pos'] (.ListComp elt [⟨tg,iter,ifs,0⟩] scope pos) spos) (sSet i (eComp it k is bd c f)) :=
 zox (zbda hcalm hN hxi hx hi hg hc he S hsw hf hs) fun E τ H h=>by
  obtain⟨ρ,σ,st,fl,st',a,rp,e,q⟩:=h;obtain⟨v,st1,e1,e⟩:=zd e;cases e;exact zbfx τ H _ ⟨ρ,σ,st,v,_,a,rp,e1,fun ρ' H' u x r t=>q _ _ _ x r ((a.ext x).set t i)⟩
theorem zbfi {X:Cx}:PIf X [] (tDT X.K bYes):=fun aA s σ H Q I hq0=>by
 obtain⟨ρ,σ',st,v,st',a,rp,e,q⟩:=hq0;cases e;exact zbdf aA s σ H Q I (q _ _ (.refl _ _) rp)
theorem zbfh {X:Cx}{c:Expr}{t:ST}(h:DT X c t):PIf X [c] (tDT X.K t):=zbde h
end
end Dd
namespace Dd
open PySem L2 PyProof.Rows
noncomputable def spD (K:Fg) (np:Nat) (F:DFn):Sp:=fun vs H Q _=>∃ρ ds st v st',AtAll K ρ H ds vs/\Rep K ρ st H/\F ds st=.ok v st'/\vs.length=np/\∀ρ' H' u,Ext ρ H ρ' H'->Rep K ρ' st' H'->At K ρ' H' v u->Q u H'
noncomputable def CalD (P:Program) (w:World) (K:Fg) (mg:Str->Option Value) (base:Heap) (x:Str) (k:Nat) (ps:List Str) (F:DFn):Prop:=Callee P w K mg base x k ps (spD K ps.length F)
noncomputable def fnD (n np:Nat) (body:SS):DFn:=fun ds st=>if ds.length=np then(match body (ds.map some++List.replicate (n - np) none) st with
 | .ok (.ret v) st'=>.ok v st'
 | .ok (.nx _) st'=>.ok .non st'
 | .exc x st'=>.exc x st'
 | _=>.stuck) else .stuck
section
variable {X:Cx}{x:Str}{k:Nat}{ps:List Str}{F:DFn}{p pos:Pos}{e:Expr}{es:List Expr}{g:SA}
theorem zbkl {K:Fg}{np:Nat}{f:SA}(hn:∀ds st v st',F ds st=.ok v st'->ds.length=np):∀τ H Q,tD K (eCall F f) τ H Q->tCall (spD K np F) [] E0 (tDA K f) τ H Q:=fun τ H Q hq0=>by
 obtain⟨ρ,σ,st,v,st',a,rp,e,q⟩:=hq0;obtain⟨x,st1,e1,e⟩:=zd e;refine⟨ρ,σ,st,x,st1,a,rp,e1,fun ρ1 H1 u x1 rp1 a1=>?_⟩;show spD K np F (u++[]) H1 Q E0;rw[xdr];exact⟨ρ1,x,st1,v,st',a1,rp1,e,by rw[a1.length];exact hn _ _ _ _ e,fun ρ' H' w x2=>q ρ' H' w (x1.trans x2)⟩
theorem zbki (c:CalD X.prog X.w X.K X.mg X.base x k ps F)(hn:∀ ds st v st', F ds st=.ok v st'->ds.length=ps.length)(hr:Room k X.A)(hg:Gl X x)(ha:DA X (e::es) g)(hdb:(x==("__debug__" : Str))=false:=by decide)
 (he:starEach (e::es) X.env=(false,eval e X.env)::starEach es X.env:=by rfl)(hpl:(backTo pos (starEach es X.env)).any (·.1)=false:=by rfl) :
 DE X (.Call (.Name x p) (e::es) [] pos) (eCall F g):=zgh (zzs c hr hg ha hdb he hpl) (zbkl hn)
theorem zo {n np:Nat}{b:SS}{ds:List D}{st st':Store}{v:D}(h:fnD n np b ds st=.ok v st'):ds.length=np:=by
 unfold fnD at h;split at h
 ·assumption
 ·cases h
end
theorem AtAll.some {K:Fg}{ρ:Loc}{H:Hp}:∀{ds:List D} {vs:List V},AtAll K ρ H ds vs->AtS K ρ H (ds.map Option.some) (vs.map Option.some)
 | _,_,.nil=>.nil
 | _,_,.cons a b=>.cons (fun d e=>by cases e;exact⟨_,rfl,a⟩) (AtAll.some b)
theorem AtS.append {K:Fg}{ρ:Loc}{H:Hp}:∀{a c:DS} {b d:L2.St},AtS K ρ H a b->AtS K ρ H c d->AtS K ρ H (a++c) (b++d)
 | _,_,_,_,.nil,h=>h
 | _,_,_,_,.cons r t,h=>.cons r (AtS.append t h)
theorem AtS.nones {K:Fg}{ρ:Loc}{H:Hp}:∀n,AtS K ρ H (List.replicate n none) (List.replicate n none)
 | 0=>.nil
 | n+1=>.cons (fun d e=>nomatch e) (AtS.nones n)
theorem zbgf {K:Fg}{N:List Str}{np:Nat}{b:SS}{vs:List V}{H:Hp}{Q:VK}{E:XK}(h:spD K np (fnD N.length np b) vs H Q E):tDS K b {nx:=fun _ H'=>Q .non H',rt:=Q} (L2.start N vs) H:=by
 obtain⟨ρ,ds,st,v,st',a,rp,e,hl,q⟩:=h;have hd:ds.length=np:=by rw[← a.length];exact hl
 unfold fnD at e;rw[if_pos hd] at e;have as:AtS K ρ H (ds.map Option.some++List.replicate (N.length - np) none) (L2.start N vs):=by
  unfold L2.start;rw[hl];exact a.some.append (.nones _)
 refine⟨ρ,ds.map Option.some++List.replicate (N.length - np) none,st,?_⟩;cases hr:b (ds.map Option.some++List.replicate (N.length - np) none) st with
 | stuck=>rw[hr] at e;cases e
 | exc z w=>rw[hr] at e;cases e
 | ok fl st1 =>
  rw[hr] at e;cases fl with
  | ret w =>
   dsimp only at e;cases e;exact⟨.ret v,st',as,rp,rfl,fun ρ' H' u x r t=>q ρ' H' u x r t⟩
  | nx σ =>
   dsimp only at e;cases e;exact⟨.nx σ,st',as,rp,rfl,fun ρ' H' τ x r t=>q ρ' H' .non x r .non⟩
  | brk σ=>cases e
  | ct σ=>cases e
theorem zbgc {P:Program}{w:World}{K:Fg}{mg:Str->Option Value}{base h:Heap}{x:Str}{st:Stmt}{N ps:List Str}{k:Nat}{b:SS}(T:TopF K x st)(X:K.In h)(G:h.Ns mainGlobals mg)(S:FnScope N ps (defScope st))
  (bd:∀(kV doc pm:Value) (an:Option Addr) (cdv ct:Value) (us:List Value),us.length=ps.length->bindArgs (W.fnOf x x (defArgs st) (defBody st) (defScope st) .none kV doc pm an cdv ct) ⟨us,[]⟩=pure (ps.zip us))
  (hbody:∀(f:Addr) (cdv:Value) (A:Around) (outer:List Env) (s:Shared) (H:Hp) (E:XK),Room k (A.deeper (envOfC x (defScope st) s.heap.objs.size f cdv)) ->
   DSs (cxOf CX0 P w K mg base N x (defScope st) f cdv A outer s H E).nox (defBody st) b):CalD P w K mg base x (k+1) ps (fnD N.length ps.length b) :=
 zwx T X G S bd (fun vs H Q E hh=>by obtain⟨ρ,ds,st,v,st',a,rp,e,hl,q⟩:=hh;exact hl) fun f cdv A outer s H vs Q E hr hh=>⟨_,hbody f cdv A outer s H E hr,zbgf hh⟩
end Dd
namespace Dd
open PySem L2
noncomputable def oNeg:D->Store->Res D:=fun x st=>match x with
 | .int i=>.ok (.int (-i)) st
 | _=>.stuck
noncomputable def sStuck:SS:=fun _ _=>.stuck
noncomputable def tru (st:Store):D->Option Bool
 | .non=>some false
 | .bl b=>some b
 | .int i=>some (i != 0)
 | .tup xs=>some !xs.isEmpty
 | d=>(asL st d).map fun xs=>!xs.isEmpty
noncomputable def eTru (f:SE):ST:=fun σ st=>(f σ st).bind fun v st1=>match tru st1 v with
 | some b=>.ok b st1
 | none=>.stuck
theorem zmh {K:Fg}{ρ:Loc}{H:Hp}{ds:List D}{vs:List V}(h:AtAll K ρ H ds vs):ds.isEmpty=vs.isEmpty:=by
 cases h<;>rfl
theorem zbhc {K:Fg}{ρ:Loc}{st:Store}{H:Hp}(rp:Rep K ρ st H){d:D}{u:V}{b:Bool}(a:At K ρ H d u)(e:tru st d=some b):TruV K u H b:=by
 unfold tru at e;split at e
 ·cases a;cases e;exact rfl
 ·cases a;cases e;exact rfl
 ·cases a;cases e;exact rfl
 ·cases e;cases a with
  | tup h1 h2 h3=>exact .inr (.inl ⟨_,SqT.of h1,by rw[zmh h3]⟩)
 ·obtain⟨xs,h0,rfl⟩:=xcw.mp e;obtain⟨p,vs,rfl,h1,h2⟩:=zhl rp a h0;exact .inl ⟨_,SqL.of h1,by rw[zmh h2]⟩
section
variable {X:Cx}{a b c e:Expr}{f f' f'':SE}{pos:Pos}{sm:Stmt}
theorem zbng (h:DE X a f):DE X (.UnaryOp .USub a pos) (eUn oNeg f):=zgh (zbmc zbgz h) fun τ H Q hq0=>by
 obtain⟨ρ,σ,st,v,st',at',rp,e,q⟩:=hq0;obtain⟨x,st1,e1,e⟩:=zd e;refine⟨ρ,σ,st,x,st1,at',rp,e1,fun ρ1 H1 u x1 rp1 a1=>?_⟩;cases x<;>try (cases e;done)
 cases e;cases a1;exact⟨_,rfl,q _ _ _ x1 rp1 (.int _)⟩
theorem zbaq {op op':CmpOp}{r r':R2}{g g':D->D->Store->Res D}(ho:OpR X (compareOp op) r)(ho':OpR X (compareOp op') r')(hr:OpD X.K g r)(hr':OpD X.K g' r')(ha:DE X a f)(hb:DE X b f')(hc:DE X c f'')
 (hm:lastMarks [op,op'] [b,c]=false:=by with_unfolding_all rfl):DT X (.Compare a [op,op'] [b,c] pos) (eB (eChain g g' f f' f'')):=zbcu (zze ho ho' ha hb hc hm) fun τ H Q h=>zbfy hr hr' _ _ _ (eB_t _ _ _ h)
theorem zbjl (h:DE X a f)(he:∀whole,isTrue a X.env whole=(do let v ← whole;standAt a.pos;holding [v] (truthy v)):=by intro _;rfl):DT X a (eTru f):=zbcu (zzd h he) fun τ H Q hq0=>by
 obtain⟨ρ,σ,st,v,st',at',rp,e,q⟩:=hq0;obtain⟨x,st1,e1,e⟩:=zd e;refine⟨ρ,σ,st,x,st1,at',rp,e1,fun ρ1 H1 u x1 rp1 a1=>?_⟩;split at e
 ·rename_i bb hb;cases e;exact⟨_,zbhc rp1 a1 hb,q _ _ x1 rp1⟩
 ·cases e
end
end Dd
namespace Dd
open PySem PySem.Spec PyProof.Rows L2
section
variable {X:Cx}{l:Expr}{f:SE}{elts:List Expr}{k j:Nat}{tpos p pos kpos cpos:Pos}
end
end Dd
namespace Dd
open PySem L2
noncomputable def bInt:List D->Store->Res D:=fun xs st=>match xs with
 | [.int i]=>.ok (.int i) st
 | [.bl k]=>.ok (.int (if k then 1 else 0)) st
 | _=>.stuck
theorem zbkx {K:Fg}:CaD K bInt (fun xs H Q=>(∃i,xs=[.int i]/\Q (.int i) H)\/∃k,xs=[.bl k]/\Q (.int (if k then 1 else 0)) H):=fun ρ H st xs us z st' Q rp aa e q=>by
 unfold bInt at e;split at e
 ·cases e;obtain⟨u,rfl,a⟩:=aa.one;cases a;exact .inl ⟨_,rfl,q _ _ _ (.refl _ _) rp (.int _)⟩
 ·cases e;obtain⟨u,rfl,a⟩:=aa.one;cases a;exact .inr ⟨_,rfl,q _ _ _ (.refl _ _) rp (.int _)⟩
 ·cases e
noncomputable def eCompM (it:SA) (k:Nat) (is:List Nat) (bd:SG) (c:ST) (f:SE):SE:=fun σ st=>(it σ st).bind fun xs st1=>if xs.length<=sizeLine then(compF bd c f xs (startD k is σ) st1).bind fun ys st2=>.ok (.ref st2.length) (st2++[.lst ys]) else .stuck
section
variable {X:Cx}{tg iter elt:Expr}{ifs:List Expr}{it:SA}{bd:SG}{c:ST}{f:SE}{N:List Str}{k:Nat}{is:List Nat}{scope:Scope}{pos:Pos}
end
noncomputable def plainE:Expr->Bool
 | .Starred _ _=>false
 | _=>true
theorem zrq {e:Expr}{es:List Expr}{env:Env}(h:plainE e=true):starEach (e::es) env=(false,eval e env)::starEach es env:=by
 cases e<;>first | rfl | cases h
theorem zbax {X:Cx}{e:Expr}{es:List Expr}{f:SE}{g:SA}(ha:DE X e f)(hr:DA X es g)(hp:plainE e=true:=by rfl):DA X (e::es) (aCons f g):=zbfn ha hr (zrq hp)
noncomputable def bBest (gt:Bool):List D->Store->Res D:=fun xs st=>match xs with
 | [x]=>match (seqOf st x).bind asInts with
  | some (n::ns)=>.ok (.int (bestI gt n ns)) st
  | _=>.stuck
 | _=>.stuck
noncomputable def pairsF:List D->List D->List D
 | x::xs,y::ys=>.tup [x,y]::pairsF xs ys
 | _,_=>[]
noncomputable def iZipT (g:SA):SA:=fun σ st=>(g σ st).bind fun xs st1=>match xs with
 | [.tup a,.tup b]=>.ok (pairsF a b) st1
 | _=>.stuck
section
variable {X:Cx}{a b:Expr}{g:SA}{elts:List Expr}{k:Nat}{tpos p pos:Pos}
end
noncomputable def sSetG (bd:SG) (f:SE):SS:=fun σ st=>(f σ st).bind fun v st1=>match bd v σ with
 | some σ1=>.ok (.nx σ1) st1
 | none=>.stuck
end Dd
namespace Dd
open PySem L2 PyProof.Rows
structure JE (X:Cx) (e:Expr) (f:SE):Prop where out:DE X e f
structure JT (X:Cx) (e:Expr) (f:ST):Prop where out:DT X e f
structure JW (X:Cx) (e:Expr) (f:ST):Prop where out:DW X e f
structure JA (X:Cx) (e:List Expr) (f:SA):Prop where out:DA X e f
structure JS (X:Cx) (s:Stmt) (f:SS):Prop where out:DSt X s f
structure JB (X:Cx) (s:List Stmt) (f:SS):Prop where out:DSs X s f
structure JO (X:Cx) (e:Option Expr) (f:DS->Store->Res (Option Int)):Prop where out:DO X e f
structure JG (X:Cx) (e:Expr) (b:SG):Prop where out:DG X e b
structure JI (X:Cx) (tg iter:Expr) (f:SA):Prop where out:DI X tg iter f
structure JIf (X:Cx) (ifs:List Expr) (c:ST):Prop where out:PIf X ifs (tDT X.K c)
structure JC (X:Cx) (op:CmpOp) (a b:Expr) (f:SE):Prop where out:PC X op a b (tD X.K f)
theorem JW.pt {X:Cx}{e:Expr}{t:ST}(h:JW X e t):JT X e t:=⟨PW.pt h.out⟩
section
variable {X:Cx}
theorem zb {e:Expr}{i:Nat}(h:PE X e (tVar i)):JE X e (eVar i):=⟨zbna h⟩
theorem zoc {e:Expr}{v:V}{d:D}(h:PE X e (tC v))(k:∀ρ H,At X.K ρ H d v):JE X e (eC d):=⟨zbft h k⟩
theorem zg {i j pos}:JE X (.Constant (.int i) j pos) (eC (.int i)):=⟨zbni⟩
theorem zmx {b j pos}:JE X (.Constant (.bool b) j pos) (eC (.bl b)):=⟨d_bl⟩
theorem zwq {j pos}:JE X (.Constant .none j pos) (eC .non):=⟨zbnf⟩
theorem zeb {x j pos}:JE X (.Constant (.str x) j pos) (eC (.str x)):=⟨zbnc⟩
end
section
variable {X:Cx}{a b c:Expr}{f f' f'':SE}{pos:Pos}
theorem zbf {op:Operator}{r:R2}{g:D->D->Store->Res D}(ho:OpR X (binaryOp op) r)(hr:OpD X.K g r)(ha:JE X a f)(hb:JE X b f'):JE X (.BinOp a op b pos) (eOp g f f'):=⟨d_op ho hr ha.out hb.out⟩
theorem zbaz {op:CmpOp}{r:R2}{g:D->D->Store->Res D}(ho:OpR X (compareOp op) r)(hr:OpD X.K g r)(ha:JE X a f)(hb:JE X b f')(hm:behindInMarks op b=false):JE X (.Compare a [op] [b] pos) (eOp g f f'):=⟨zbnl ho hr ha.out hb.out hm⟩
theorem zcd {op:CmpOp}{r:R2}{g:D->D->Store->Res D}(ho:OpR X (compareOp op) r)(hr:OpD X.K g r)(ha:JE X a f)(hb:JE X b f')(hm:behindInMarks op b=false):JT X (.Compare a [op] [b] pos) (eB (eOp g f f')):=⟨zbjo ho hr ha.out hb.out hm⟩
end
section
variable {X:Cx}{a b:Expr}{rest:List Expr}{f f':SE}{t t':ST}{pos:Pos}
theorem zwo {op}(h:JE X a f):JE X (.BoolOp op [a] pos) f:=⟨zbnd h.out⟩
theorem ztp (ha:JE X a f)(hb:JE X (.BoolOp .And (b::rest) pos) f'):JE X (.BoolOp .And (a::b::rest) pos) (eAnd f f'):=⟨zbnn ha.out hb.out⟩
theorem zwp (ha:JE X a f):JE X (.UnaryOp .Not a pos) (eNot f):=⟨zbne ha.out⟩
theorem zml {op}(h:JT X a t)(hop:op=.And\/op=.Or):JW X (.BoolOp op [a] pos) t:=⟨zbjj h.out hop⟩
theorem zbey (ha:JT X a t)(hb:JW X (.BoolOp .And (b::rest) pos) t'):JW X (.BoolOp .And (a::b::rest) pos) (bAnd t t'):=⟨zbjk ha.out hb.out⟩
theorem zti (ha:JT X a t)(hb:JW X (.BoolOp .Or (b::rest) pos) t'):JW X (.BoolOp .Or (a::b::rest) pos) (bOr t t'):=⟨zbmw ha.out hb.out⟩
theorem zja (ha:JT X a t):JT X (.UnaryOp .Not a pos) (bNot t):=⟨zbjm ha.out⟩
theorem zbnk {c:Expr}(hc:JT X c t)(ha:JE X a f)(hb:JE X b f'):JE X (.IfExp c a b pos) (eIf t f f'):=⟨d_if hc.out ha.out hb.out⟩
end
section
variable {X:Cx}{e:Expr}{es:List Expr}{f:SE}{g:SA}{pos:Pos}
theorem zc :JA X [] aNil:=⟨zbjz⟩
theorem zdh {x1}(h:JA X es g):JE X (.Tuple es x1 pos) (eTup g):=⟨zbnb h.out⟩
theorem zec (h:JA X es g):JE X (.List es pos) (eLst g):=⟨zbnh h.out⟩
theorem zps (h:JA X es g):JE X (.List es pos) (eLstM g):=⟨zbkc h.out⟩
end
section
variable {X:Cx}{a b e:Expr}{f f':SE}{pos:Pos}{lo hi:Option Expr}{l h:DS->Store->Res (Option Int)}
theorem zgx :JO X none pNone:=⟨zbfg⟩
theorem zgw (he:JE X e f):JO X (some e) (pSome f):=⟨zbff he.out⟩
theorem zhq (ha:JE X a f)(hb:JE X b f')(hs:PlainIx b):JE X (.Subscript a b pos) (eOp oIx f f'):=⟨d_ix ha.out hb.out hs⟩
theorem zbbw {p2:Pos}(he:JE X e f)(hl:JO X lo l)(hu:JO X hi h):JE X (.Subscript e (.Slice lo hi none p2) pos) (eSl f l h):=⟨d_sl he.out hl.out hu.out⟩
end
section
variable {X:Cx}{x:Str}{p pos:Pos}{e:Expr}{es:List Expr}{f:SA}{id T:String}{r:List V->Hp->VK->Prop}{g:List D->Store->Res D}
theorem zx (hc:CallR X (.builtin id) r)(hr:CaD X.K g r)(hg:Gl X x)(hm:X.mg x=none)(hv:bootBuiltins x=some (.builtin id))(ha:JA X (e::es) f)(hn:x≠"__name__":=by decide)(hdb:(x==("__debug__" : Str))=false:=by decide)(he:starEach (e::es) X.env=(false, eval e X.env)::starEach es X.env:=by rfl)(hpl:(backTo pos (starEach es X.env)).any (·.1)=false:=by rfl):JE X (.Call (.Name x p) (e::es) [] pos) (eCall g f):=⟨zbfu hc hr hg hm hv ha.out hn hdb he hpl⟩
theorem zch (hc:CallR X (.type T) r)(hr:CaD X.K g r)(hg:Gl X x)(hm:X.mg x=none)(hv:bootBuiltins x=some (.type T))(ha:JA X (e::es) f)(hn:x≠"__name__":=by decide)(hdb:(x==("__debug__" : Str))=false:=by decide)(he:starEach (e::es) X.env=(false, eval e X.env)::starEach es X.env:=by rfl)(hpl:(backTo pos (starEach es X.env)).any (·.1)=false:=by rfl):JE X (.Call (.Name x p) (e::es) [] pos) (eCall g f):=⟨zbbb hc hr hg hm hv ha.out hn hdb he hpl⟩
end
section
variable {X:Cx}{a b c o i e value f':Expr}{f g h:SE}{pos pos' apos cpos:Pos}
theorem zyb :JE X (.Dict [] [] pos) eDNew:=⟨zbkf⟩
theorem zbdo (hu:X.A.units+1 < cLine)(hi:JE X i g)(ho:JE X o f):JC X .In i o (eOp (oDIn false) g f):=⟨zbmh hu hi.out ho.out⟩
theorem zbnj {op:CmpOp}{t:SE}(h:JC X op a b t)(h1:behindInMarks op b=false:=by first | exact nobehind _ (by decide) (by decide) | rfl):JE X (.Compare a [op] [b] pos) t:=⟨d_in h.out h1⟩
theorem zbjn {op:CmpOp}{t:SE}(h:JC X op a b t)(h1:behindInMarks op b=false:=by first | exact nobehind _ (by decide) (by decide) | rfl):JT X (.Compare a [op] [b] pos) (eB t):=⟨zbmx h.out h1⟩
theorem zbfr (hu:X.A.units+1 < cLine)(ho:JE X o f)(hi:JE X i g)(hs:NoSl i):JE X (.Subscript o i pos) (eOp oDGet f g):=⟨zbkg hu ho.out hi.out hs⟩
theorem zbay (hu:X.A.units + 1 < cLine)(ho:JE X o f)(he:JE X e g)(hf:JE X f' h)(m:M2 X o "get" apos e f' cpos):JE X (.Call (.Attribute o "get" apos) [e, f'] [] cpos) (eDGet2 f g h):=⟨zbfs hu ho.out he.out hf.out m⟩
theorem zbfq (hu:X.A.units + 1 < cLine)(ho:JE X o f)(he:JE X e g)(m:M1 X o "pop" apos e cpos):JE X (.Call (.Attribute o "pop" apos) [e] [] cpos) (eDPop f g):=⟨zbke hu ho.out he.out m⟩
theorem znz (hu:X.A.units+1 < cLine)(ho:JE X o f)(hi:JE X i g)(hv:JE X value h)(hs:swapsWith value (some (.Subscript o i pos')) pos.line X.env=pure false):JS X (.Assign [.Subscript o i pos'] value pos) (sDPut f g h):=⟨zbfd hu ho.out hi.out hv.out hs⟩
end
section
variable {X:Cx}{o e i value:Expr}{es:List Expr}{f g h:SE}{ga:SA}{pos apos cpos:Pos}
theorem zll (ho:JE X o f)(ha:JA X (e::es) ga)(hbase:attributeBase o "append" X.env (eval o X.env)=eval o X.env:=by rfl)(hfew:((backTo cpos (starEach (e::es) X.env)).all (fun x=>!x.1)&&(backToKw cpos (keywordEach [] X.env)).all (fun x=>x.1.isSome)
 && decide ((e::es).length + ([]:List Keyword).length + (if([]:List Keyword).isEmpty then 0 else 1) < 30))=true:=by rfl) (hline:(apos.endLine==cpos.line)=true:=by rfl) (hs:starEach (e::es) X.env=(false, eval e X.env)::starEach es X.env:=by rfl) (hplain:(backTo cpos (starEach es X.env)).any (·.1)=false:=by rfl):JE X (.Call (.Attribute o "append" apos) (e::es) [] cpos) (eAppend f ga):=⟨zbbc ho.out ha.out hbase hfew hline hs hplain⟩
end
section
variable {X:Cx}{e c o i value:Expr}{sm:Stmt}{rest:List Stmt}{f g h:SE}{s t:SS}{b:ST}{pos pos':Pos}
theorem zby :JB X [] sNx:=⟨zbjt⟩
theorem zy (he:JE X e f):JS X (.Return (some e) pos) (sRet f):=⟨zbjr he.out⟩
theorem zgv (he:JE X e f)(hs:swapsWith e none pos.line X.env=pure false:=by rfl):JS X (.Expr e pos) (sDrop f):=⟨zbfc he.out hs⟩
theorem zu {i:Nat}{x:Str}(hN:X.N.Nodup)(hi:X.N[i]?=some x)(hx:L2.Loc X.env.scope x)(he:JE X e f)(hs:swapsWith e (some (.Name x pos')) pos.line X.env=pure false:=by rfl)(hf:X.fn x=true\/X.env.scope.names.lookup x=some .local:=by first | exact .inl rfl | exact .inr rfl | assumption):JS X (.Assign [.Name x pos'] e pos) (sSet i f):=⟨zbjq hN hi hx he.out hs hf⟩
theorem zk (h1:JS X sm s):JB X [sm] s:=⟨zbjs h1.out⟩
theorem zf (h1:JS X sm s)(h2:JB X rest t):JB X (sm::rest) (sSeq s t):=⟨zbfe h1.out h2.out⟩
theorem zdg {a' b':List Stmt}(hc:JT X c b)(ha:JB X a' s)(hb:JB X b' t):JS X (.If c a' b' pos) (sIf b s t):=⟨zbmy hc.out ha.out hb.out⟩
theorem zpq (he:JE X value h)(ho:JE X o f)(hi:JE X i g)(ha:∀v,assign (.Subscript o i pos') X.env v=(do
 let ov ← holding [v] (eval o X.env)
 let iv ← holding [v,ov] (eval i X.env)
 standAt pos'
 holding [v,ov,iv] (setItem ov iv v)
 release [v,ov,iv] []):=by intro _;rfl) (hs:swapsWithSole [.Subscript o i pos'] value pos.line X.env=pure false:=by rfl) (hw:swappedStores [.Subscript o i pos'] value X.env=pure none:=by rfl) (h1:(assignEach [.Subscript o i pos'] X.env).map (·.2)=[assign (.Subscript o i pos') X.env]:=by rfl):JS X (.Assign [.Subscript o i pos'] value pos) (sSetIx f g h):=⟨zbas he.out ho.out hi.out ha hs hw h1⟩
end
section
variable {X:Cx}{pos:Pos}{e:Expr}{es:List Expr}{t:SG}{u:List D->DS->Option DS}
theorem zbj {i:Nat}{x:Str}(hN:X.N.Nodup)(hi:X.N[i]?=some x)(hx:L2.Loc X.env.scope x)(hf:X.fn x=true\/X.env.scope.names.lookup x=some .local:=by first | exact .inl rfl | exact .inr rfl | assumption):JG X (.Name x pos) (gN i):=⟨zbfk hN hi hx hf⟩
end
section
variable {X:Cx}{tg l a b:Expr}{f:SE}{g:SA}{p pos:Pos}
theorem zgb (hl:JE X l f):JI X tg l (iSeq f):=⟨zbjy hl.out⟩
theorem zcg (hg:Gl X "range")(hm:X.mg "range"=none)(ha:JA X [a] g)(hs:starEach [a] X.env=[(false, eval a X.env)]:=by rfl):JI X tg (.Call (.Name "range" p) [a] [] pos) (iR1 g):=⟨zwl hg hm ha.out hs⟩
end
section
variable {X:Cx}{tg l:Expr}{f:SE}
theorem zbav (hl:JE X l f):JI X tg l (iDict f):=⟨zbfj hl.out⟩
end
section
variable {X:Cx}{tg iter c:Expr}{body:List Stmt}{it:SA}{bd:SG}{b:SS}{t:ST}{pos:Pos}
theorem zff (hp:PassesOwn (model X.prog X.w) X.A X.env X.xe)(hc:X.calm=true)(hi:JI X tg iter it)(hg:JG X tg bd)(hb:JB X body b)(hs:∀x,foldedSetIterable iter X.env x=pure x:=by intro _;rfl):JS X (.For tg iter body [] pos) (sFor it bd b):=⟨zbju hp hc hi.out hg.out hb.out hs⟩
theorem zwk (hp:PassesOwn (model X.prog X.w) X.A X.env X.xe)(hc:JT X c t)(hb:JB X body b):JS X (.While c body [] pos) (sWhile t b):=⟨zbar hp hc.out hb.out⟩
end
section
variable {X:Cx}{tg iter elt:Expr}{ifs:List Expr}{it:SA}{bd:SG}{c:ST}{f:SE}{N:List Str}{k:Nat}{is:List Nat}{scope:Scope}{pos:Pos}
theorem zhe (hcalm:X.calm=true)(hi:JI X tg iter it)(hg:∀cl C fp s H,JG (cxC X N scope cl C fp s H) tg bd)(hc:∀cl C fp s H,JIf (cxC X N scope cl C fp s H) ifs c)(he:∀cl C fp s H,JE (cxC X N scope cl C fp s H) elt f)(S:CompScope X N k is scope)(hs:∀x,foldedSetIterable iter X.env x=pure x:=by intro _;rfl):JE X (.ListComp elt [⟨tg,iter,ifs,0⟩] scope pos) (eComp it k is bd c f):=⟨zbkh hcalm hi.out (fun cl C fp s H=>(hg cl C fp s H).out) (fun cl C fp s H=>(hc cl C fp s H).out) (fun cl C fp s H=>(he cl C fp s H).out) S hs⟩
theorem zbat {i:Nat}{x:Str}{pos' spos:Pos}(hcalm:X.calm=true)(hN:X.N.Nodup)(hxi:X.N[i]?=some x)(hx:L2.Loc X.env.scope x)(hi:JI X tg iter it)(hg:∀cl C fp s H,JG (cxC X N scope cl C fp s H) tg bd)(hc:∀cl C fp s H,JIf (cxC X N scope cl C fp s H) ifs c)(he:∀cl C fp s H,JE (cxC X N scope cl C fp s H) elt f)(S:CompScope X N k is scope)(hsw:swapsWith (.ListComp elt [⟨tg,iter,ifs,0⟩] scope pos) (some (.Name x pos')) spos.line X.env=pure true:=by rfl)(hf:X.fn x=true\/X.env.scope.names.lookup x=some .local:=by first | exact .inl rfl | exact .inr rfl | assumption)(hs:∀x,foldedSetIterable iter X.env x=pure x:=by intro _;rfl):JS X (.Assign [.Name x pos'] (.ListComp elt [⟨tg,iter,ifs,0⟩] scope pos) spos) (sSet i (eComp it k is bd c f)):=⟨zbfb hcalm hN hxi hx hi.out (fun cl C fp s H=>(hg cl C fp s H).out) (fun cl C fp s H=>(hc cl C fp s H).out) (fun cl C fp s H=>(he cl C fp s H).out) S hsw hf hs⟩
theorem zgy {X:Cx}:JIf X [] bYes:=⟨zbfi⟩
theorem zoa {X:Cx}{c:Expr}{t:ST}(h:JT X c t):JIf X [c] t:=⟨zbfh h.out⟩
end
section
variable {X:Cx}{x:Str}{k:Nat}{ps:List Str}{F:DFn}{p pos:Pos}{e:Expr}{es:List Expr}{g:SA}
theorem zp (c:CalD X.prog X.w X.K X.mg X.base x k ps F)(hn:∀ ds st v st', F ds st=.ok v st'->ds.length=ps.length)(hr:Room k X.A)(hg:Gl X x)(ha:JA X (e::es) g)(hdb:(x==("__debug__" : Str))=false:=by decide)(he:starEach (e::es) X.env=(false, eval e X.env)::starEach es X.env:=by rfl)(hpl:(backTo pos (starEach es X.env)).any (·.1)=false:=by rfl):JE X (.Call (.Name x p) (e::es) [] pos) (eCall F g):=⟨zbki c hn hr hg ha.out hdb he hpl⟩
end
section
theorem zbd {P:Program}{w:World}{K:Fg}{mg:Str->Option Value}{base h:Heap}{x:Str}{st:Stmt}{N ps:List Str}{k:Nat}{b:SS}(T:TopF K x st)(X:K.In h)(G:h.Ns mainGlobals mg)(S:FnScope N ps (defScope st))(bd:∀(kV doc pm:Value) (an:Option Addr) (cdv ct:Value) (us:List Value),us.length=ps.length->bindArgs (W.fnOf x x (defArgs st) (defBody st) (defScope st) .none kV doc pm an cdv ct) ⟨us,[]⟩=pure (ps.zip us))(hbody:∀(f:Addr) (cdv:Value) (A:Around) (outer:List Env) (s:Shared) (H:Hp) (E:XK),Room k (A.deeper (envOfC x (defScope st) s.heap.objs.size f cdv)) ->
 JB (cxOf CX0 P w K mg base N x (defScope st) f cdv A outer s H E).nox (defBody st) b):CalD P w K mg base x (k+1) ps (fnD N.length ps.length b):=zbgc T X G S bd (fun f cdv A outer s H E rr=>(hbody f cdv A outer s H E rr).out)
end
section
end
section
variable {X:Cx}{a b c e:Expr}{f f' f'':SE}{pos:Pos}{sm:Stmt}
theorem zrg (h:JE X a f):JE X (.UnaryOp .USub a pos) (eUn oNeg f):=⟨zbng h.out⟩
theorem zwi {op op':CmpOp}{r r':R2}{g g':D->D->Store->Res D}(ho:OpR X (compareOp op) r)(ho':OpR X (compareOp op') r')(hr:OpD X.K g r)(hr':OpD X.K g' r')(ha:JE X a f)(hb:JE X b f')(hc:JE X c f'')(hm:lastMarks [op,op'] [b,c]=false:=by with_unfolding_all rfl):JT X (.Compare a [op,op'] [b,c] pos) (eB (eChain g g' f f' f'')):=⟨zbaq ho ho' hr hr' ha.out hb.out hc.out hm⟩
theorem zel (h:JE X a f)(he:∀whole,isTrue a X.env whole=(do let v ← whole;standAt a.pos;holding [v] (truthy v)):=by intro _;rfl):JT X a (eTru f):=⟨zbjl h.out he⟩
end
section
variable {X:Cx}{l:Expr}{f:SE}{elts:List Expr}{k j:Nat}{tpos p pos kpos cpos:Pos}
end
section
variable {X:Cx}{tg iter elt:Expr}{ifs:List Expr}{it:SA}{bd:SG}{c:ST}{f:SE}{N:List Str}{k:Nat}{is:List Nat}{scope:Scope}{pos:Pos}
end
section
theorem za {X:Cx}{e:Expr}{es:List Expr}{f:SE}{g:SA}(ha:JE X e f)(hr:JA X es g)(hp:plainE e=true:=by rfl):JA X (e::es) (aCons f g):=⟨zbax ha.out hr.out hp⟩
end
section
variable {X:Cx}{a b:Expr}{g:SA}{elts:List Expr}{k:Nat}{tpos p pos:Pos}
end
section
end
end Dd
namespace L2
open PySem PySem.Spec PyProof.Rows
section
variable {prog:Program}{w:World}{A:Around}{R:Result->Shared->Prop}{I:Addr}{fp wr:List Addr}{n:Nat}{P:Nat->Value->Prop}{St:Nat->Heap->Prop}
end
section
variable {prog:Program}{w:World}{A:Around}{E:Value->Shared->Prop}{s:Shared}
end
section
variable {X:Cx}{p pos cpos kpos:Pos}{l:Expr}{t:TA}{d:Int}{j:Nat}
end
section
open PySem.AutoSeq1
end
end L2
namespace Dd
open PySem L2
section
variable {X:Cx}{p pos cpos kpos:Pos}{l:Expr}{f:SA}{d:Int}{j:Nat}
end
section
variable {X:Cx}{o e:Expr}{es:List Expr}{f:SE}{ga:SA}{apos cpos:Pos}
end
end Dd
namespace L2
open PySem PySem.Spec PyProof.Rows
section
variable {X:Cx}{p pos cpos kpos upos:Pos}{l:Expr}{t:TA}{d:Int}{j:Nat}
end
end L2
namespace Dd
open PySem L2 PyProof.Rows
section
variable {X:Cx}{p pos cpos kpos upos:Pos}{l:Expr}{f:SA}{d:Int}{j:Nat}
end
end Dd
namespace L2
open PySem PySem.Spec PyProof.Rows
noncomputable def rInX (K:Fg) (neg:Bool):R2:=fun x c H Q=>∃d p xs,DAt K H x d/\DAt K H c p/\(p=.tuple xs\/p=.list xs)/\PySem.SeqAt.shaped d=true/\PySem.SeqAt.shaped p=true/\Q (.bl (if neg then !xs.any fun y=>PyData.eqv y d else xs.any fun y=>PyData.eqv y d)) H
section
variable {X:Cx}
theorem zbco {p:PyData}{xs:List PyData}(h:p=.tuple xs\/p=.list xs)(s:PySem.SeqAt.shaped p=true):PyData.canLayAll0 xs=true/\PyData.depthAll xs<=63:=by
 have:(PyData.canLayAll0 xs&&decide (PyData.depthAll xs+1<=64))=true:=by rcases h with rfl | rfl<;>exact s
 rw[xem] at this;exact⟨this.1,by have:=xeh this.2;lia⟩
theorem zor {d:PyData}(s:PySem.SeqAt.shaped d=true):d.canLay0=true:=by
 unfold PySem.SeqAt.shaped at s;rw[xem] at s;exact s.1
theorem zbij (hu:X.A.units+64 < cLine):OpR X (compareOp .In) (rInX X.K false):=by
 intro aA s σ H x y v u Q I r1 r2 h;obtain⟨d,p,xs,a1,a2,a3,a4,a5,q⟩:=h;obtain⟨as,ra⟩:=zdr I a1 r1;obtain⟨bs,rb⟩:=zdr I a2 r2;obtain⟨l1,l2⟩:=zbco a3 a5;have hu':X.A.units+1+min (PyData.depthAll xs) d.depth < cLine:=by have:=xfo (PyData.depthAll xs) d.depth;lia
 rcases a3 with rfl | rfl
 ·exact SeqAt.in_tuple_reads rb ra l1 (zor a4) hu' ⟨.bl _,H,I,rfl,q⟩
 ·exact SeqAt.in_list_reads rb ra l1 (zor a4) hu' ⟨.bl _,H,I,rfl,q⟩
theorem zvj (hu:X.A.units+64 < cLine):OpR X (compareOp .NotIn) (rInX X.K true):=by
 intro aA s σ H x y v u Q I r1 r2 h;obtain⟨d,p,xs,a1,a2,a3,a4,a5,q⟩:=h;obtain⟨as,ra⟩:=zdr I a1 r1;obtain⟨bs,rb⟩:=zdr I a2 r2;obtain⟨l1,l2⟩:=zbco a3 a5;have hu':X.A.units+1+min (PyData.depthAll xs) d.depth < cLine:=by have:=xfo (PyData.depthAll xs) d.depth;lia
 rcases a3 with rfl | rfl
 ·exact SeqAt.notIn_tuple_reads rb ra l1 (zor a4) hu' ⟨.bl _,H,I,rfl,q⟩
 ·exact SeqAt.notIn_list_reads rb ra l1 (zor a4) hu' ⟨.bl _,H,I,rfl,q⟩
end
theorem zmc:fillsNumberSlot (.type "tuple") "mul"=pure false :=
 PySem.fillsNumberSlot_seq (id:="tuple.__mul__") (r:=some (.builtin "tuple.__rmul__")) xih.lookup (by decide +kernel) F.slot_tuple_rmul.lookup (by decide +kernel)
theorem zbcs:seqRepeat? (.type "tuple")=pure (some (.builtin "tuple.__mul__")):=by
 unfold seqRepeat?;rw[PySem.seqSlot_of (T:="tuple") (name:="__mul__") (id:="tuple.__mul__") xih.lookup (by decide +kernel), PySem.seqSlot_of (T:="tuple") (name:="__rmul__") (id:="tuple.__rmul__") F.slot_tuple_rmul.lookup (by decide +kernel)]
 rfl
theorem zyy (a:Int)(t:Tok)(l:Addr)(items:Array Value)(n:Nat)(dd:Option Addr)(sl:Array (Option Value)) :
  Meets (Builtin.«int.__rmul__» ⟨[.int a t, .ref l],[]⟩) (fun _ R s=>s.heap.get? l=some { cls:=.type "tuple", dict:=dd, data:=.seq items n, slots:=sl }/\R (.ok (.ret Value.notImplemented)) s) :=
 .of_wp fun prog w A R s h=>by
  obtain⟨hp,g,d,tk,os⟩:=s;obtain⟨hl,h⟩:=h
  wp_walk
  exact⟨_,rfl,h⟩
theorem nb {b:Bool}(h:b=false):decide (b=true)=false:=by rw[h];rfl
section
open PySem.AutoSeq1
variable (l:Addr)(items:Array Value)(n:Nat)(dd:Option Addr)(sl:Array (Option Value))(x:Int)(u:Tok)
theorem zvq (lo:-1000000<=x)(hx:x<=0)(ne:items.isEmpty=false) :
  Meets (Builtin.«tuple.__mul__» ⟨[.ref l, .int x u],[]⟩) (fun _ R s=>s.heap.get? l=some { cls:=.type "tuple", dict:=dd, data:=.seq items n, slots:=sl }/\R (.ok (.ret (.ref s.heap.objs.size))) { s with heap:=s.heap.push { cls:=.type "tuple", data:=.seq #[] } }) :=
 .of_wp fun prog w A R s h=>by
  obtain⟨hp,g,d,tk,os⟩:=s;obtain⟨hl,h⟩:=h
  wp_walk
  try
   refine xex ?c1 ?_
   case c1=>exact nb (by rw[xfr];exact⟨xbm (by lia),xbm (by lia)⟩)
   wp_walk
  try
   refine xex ?c1 ?_
   case c1=>exact nb (by rw[xfr];exact⟨ne,beq_false_of_ne (by lia)⟩)
   wp_walk
  try
   refine wpAny_ite_true ?c1 ?_
   case c1=>exact yb (by rw[Bool.or_eq_true];exact .inl (xcf hx))
   wp_walk
  exact⟨_,rfl,h⟩
theorem zzz (hx:x=1) :
  Meets (Builtin.«tuple.__mul__» ⟨[.ref l, .int x u],[]⟩) (fun _ R s=>s.heap.get? l=some { cls:=.type "tuple", dict:=dd, data:=.seq items n, slots:=sl }/\R (.ok (.ret (.ref l))) s) :=
 .of_wp fun prog w A R s h=>by
  obtain⟨hp,g,d,tk,os⟩:=s;obtain⟨hl,h⟩:=h
  wp_walk
  try
   refine xex ?c1 ?_
   case c1=>exact nb (by rw[xfr];exact⟨xbm (by lia),xbm (by lia)⟩)
   wp_walk
  try
   refine wpAny_ite_true ?c1 ?_
   case c1=>exact yb (by rw[Bool.or_eq_true];exact .inr (by rw[hx];rfl))
   wp_walk
  exact⟨_,rfl,h⟩
theorem zvr (hx:2<=x)(hi:x<=1000000)(ne:items.isEmpty=false)(hz:((items.size:Nat):Int) * x<=1000000)(c4:Builtin.Tuple.tupleTooMany (((items.size:Nat):Int) * x)=false)
  (hsz:(List.foldl (fun x1 x2=>x1++x2) #[] (List.replicate x.toNat items)).size<=sizeLine) :
  Meets (Builtin.«tuple.__mul__» ⟨[.ref l, .int x u],[]⟩) (fun _ R s=>s.heap.get? l=some { cls:=.type "tuple", dict:=dd, data:=.seq items n, slots:=sl }/\R (.ok (.ret (.ref s.heap.objs.size))) { s with heap:=s.heap.push { cls:=.type "tuple", data:=.seq (List.foldl (fun x1 x2=>x1++x2) #[] (List.replicate x.toNat items)) } }) :=
 .of_wp fun prog w A R s h=>by
  obtain⟨hp,g,d,tk,os⟩:=s;obtain⟨hl,h⟩:=h
  wp_walk
  try
   refine xex ?c1 ?_
   case c1=>exact nb (by rw[xfr];exact⟨xbm (by lia),xbm (by lia)⟩)
   wp_walk
  try
   refine xex ?c1 ?_
   case c1=>exact nb (by rw[xfr];exact⟨ne,beq_false_of_ne (by lia)⟩)
   wp_walk
  try
   refine xex ?c1 ?_
   case c1=>exact nb (by rw[xfr];exact⟨xbm (by lia),ne⟩)
   wp_walk
  try
   refine xex ?c1 ?_
   case c1=>exact xbm (by lia)
   wp_walk
  try
   refine xex ?c1 ?_
   case c1=>exact nb c4
   wp_walk
  try (refine xex (xbm (Nat.not_lt.mpr hsz)) ?_;wp_walk)
  exact⟨_,rfl,h⟩
end
noncomputable def timesL {α:Type} (xs:List α) (n:Int):List α:=(List.replicate n.toNat xs).flatten
theorem zmj {α:Type}(xs:List α):∀(n:Nat) (acc:List α),(List.foldl (fun(x1 x2:Array α)=>x1++x2) acc.toArray (List.replicate n xs.toArray))=(acc++(List.replicate n xs).flatten).toArray
 | 0,acc=>by simp
 | n+1,acc=>by
  rw[xey,xir,xey,xgp,← xcm,← zmj xs n (acc++xs)]
  congr 1
  simp
theorem Vals.times {xs:List V}{us:List Value}(r:Vals xs us):∀n:Nat,Vals (List.replicate n xs).flatten (List.replicate n us).flatten
 | 0=>.nil
 | n+1=>by
  rw[xey,xgp,xey,xgp];exact r.append (Vals.times r n)
noncomputable def rMulT (K:Fg):R2:=fun x y H Q=>∃t xs n,x=.ref t/\y=.int n/\SqT K H t xs/\xs≠[]/\-1000000<=n/\n<=1000000/\(xs.length:Int) * n<=1000000/\(n=1->Q (.ref t) H)/\(n≠1->∀p,H p=none->Q (.ref p) (upd H p (.tup (timesL xs n))))
theorem zkp {α:Type}(xs:List α):∀n:Nat,(List.replicate n xs).flatten.length=n * xs.length
 | 0=>by simp
 | n+1=>by rw[xey,xgp,xbq,zkp xs n,Nat.succ_mul];lia
theorem zbdq {X:Cx}:OpR X (binaryOp .Mult) (rMulT X.K):=by
 intro aA s σ H x y v u Q I r1 r2 h;obtain⟨t,xs,n,rfl,rfl,ht,ne,lo,hi,hz,q1,q2⟩:=h;cases r1;obtain⟨tk,rfl⟩:=r2;obtain⟨its,r,⟨o,e,ty,m,dt⟩,z⟩:=I.tuple ht;obtain⟨cls,dd,data,sl⟩:=o;dsimp only at ty dt;subst ty dt;have len:=r.length;have ne':its.toArray.isEmpty=false:=by
  cases its with
  | nil=>cases r;exact absurd rfl ne
  | cons a l=>rfl
 have road:∀{Q':Value->Shared->Prop}, wpAny (model X.prog X.w) X.A (call (.builtin "tuple.__mul__") [.ref t, .int n tk]) Q' X.xe s->wpAny (model X.prog X.w) X.A (binaryOp .Mult (.ref t) (.int n tk)) Q' X.xe s:=fun {Q'} hq =>
  wpAny_binaryOp_repeat_ref (T:="tuple") (U:="int") (by decide) ⟨_, e, rfl⟩ (fun s'=>typeIs_int s' n tk) zmc F.fills_int_mul F.slot_int_rmul zbcs F.slot_int_index.lookup
   (xii F.slot_int_rmul (typeIs_int s n tk) F.entry_int_rmul (F.args_int_rmul_2 _ _) (zyy n tk t its.toArray m dd sl) ⟨e,rfl,⟨_,e,rfl⟩,hq⟩)
 refine road ?_;by_cases c:n=1
 ·exact xii xih ⟨_,e,rfl⟩ xkw (xkl _ _) (zzz t its.toArray m dd sl n tk c) ⟨e,.ref t,H,I,rfl,q1 c⟩
 have done:∀ ts:List Value, Vals (timesL xs n) ts->(timesL xs n).length<=sizeLine->EP X aA σ Q (.ref s.heap.objs.size) { s with heap:=s.heap.push { cls:=.type "tuple", data:=.seq ts.toArray } }:=fun ts rt hl =>
  ⟨.ref s.heap.objs.size,_,I.laid (t':=s.toks) (o:=.tup (timesL xs n)) (fun b ob hb=>xbc _ hb) (xbf _) ⟨hl,ts,rt,IsTup.new s.heap _⟩,rfl,q2 c _ (I.hok.fresh (xbf _))⟩
 have lenT:(timesL xs n).length=n.toNat * xs.length:=zkp xs n.toNat;by_cases c2:n<=0
 ·refine xii xih ⟨_,e,rfl⟩ xkw (xkl _ _) (zvq t its.toArray m dd sl n tk lo c2 ne') ⟨e,?_⟩;have e0:timesL xs n=[]:=by unfold timesL;rw[show n.toNat=0 by lia];rfl
  exact done [] (by rw[e0];exact .nil) (by rw[e0];exact xec _)
 ·have hz2:n.toNat * xs.length<=1000000:=by
   have:((n.toNat * xs.length:Nat):Int)=(xs.length:Int) * n:=by rw[Int.natCast_mul,xgz (by lia),Int.mul_comm]
   lia
  have hsl:n.toNat * xs.length<=sizeLine:=by rw[xee];lia
  have ef:List.foldl (fun(x1 x2:Array Value)=>x1++x2) #[] (List.replicate n.toNat its.toArray)=((List.replicate n.toNat its).flatten).toArray:=by
   have:=zmj its n.toNat []
   simpa using this
  have zi:((its.toArray.size:Nat):Int) * n<=1000000:=by rw[xbt,← len];exact hz
  refine xii xih ⟨_,e,rfl⟩ xkw (xkl _ _) (zvr t its.toArray m dd sl n tk (by lia) hi ne' zi (xbm (by rw[xee];lia)) (by rw[ef,xbt,zkp,← len];exact hsl)) ⟨e,?_⟩;rw[ef];exact done _ (r.times n.toNat) (by rw[lenT];exact hsl)
end L2
namespace Dd
open PySem L2 PyProof.Rows
noncomputable def oInG (neg:Bool) (x c:D) (st:Store):Res D:=match dataOf st x,dataOf st c with
 | some d,some (.tuple xs)=>if PySem.SeqAt.shaped d=true/\PySem.SeqAt.shaped (.tuple xs)=true then .ok (.bl (if neg then !xs.any fun y=>PyData.eqv y d else xs.any fun y=>PyData.eqv y d)) st else .stuck
 | some d,some (.list xs)=>if PySem.SeqAt.shaped d=true/\PySem.SeqAt.shaped (.list xs)=true then .ok (.bl (if neg then !xs.any fun y=>PyData.eqv y d else xs.any fun y=>PyData.eqv y d)) st else .stuck
 | _,_=>.stuck
theorem zbln {K:Fg}{neg:Bool}:OpD K (oInG neg) (rInX K neg):=fun ρ H st x y u v z st' Q rp a b e q=>by
 unfold oInG at e;split at e
 ·rename_i d xs h1 h2;split at e
  ·rename_i hs;cases e;exact⟨_,_,xs,zex rp a h1,zex rp b h2,.inl rfl,hs.1,hs.2,q _ _ _ (.refl _ _) rp (.bl _)⟩
  ·cases e
 ·rename_i d xs h1 h2;split at e
  ·rename_i hs;cases e;exact⟨_,_,xs,zex rp a h1,zex rp b h2,.inr rfl,hs.1,hs.2,q _ _ _ (.refl _ _) rp (.bl _)⟩
  ·cases e
 ·cases e
noncomputable def oMulT (x y:D) (st:Store):Res D:=match x,y with
 | .tup xs,.int n=>if xs≠[]/\-1000000<=n/\n<=1000000/\(xs.length:Int) * n<=1000000 then .ok (.tup (timesL xs n)) st else .stuck
 | _,_=>.stuck
theorem AtAll.times {K:Fg}{ρ:Loc}{H:Hp}{ds:List D}{vs:List V}(h:AtAll K ρ H ds vs):∀n:Nat,AtAll K ρ H (List.replicate n ds).flatten (List.replicate n vs).flatten
 | 0=>.nil
 | n+1=>by
  rw[xey,xgp,xey,xgp];exact h.append (AtAll.times h n)
theorem zbdw {K:Fg}:OpD K oMulT (rMulT K):=fun ρ H st x y u v z st' Q rp a b e q=>by
 unfold oMulT at e;split at e
 ·rename_i xs n;split at e
  ·rename_i hs;cases e;cases b;cases a with
   | tup h1 h2 h3 =>
    have hl:=h3.length;refine⟨_,_,n,rfl,rfl,SqT.of h1,fun z=>?_,hs.2.1,hs.2.2.1,by rw[hl];exact hs.2.2.2,fun z=>?_,fun z p hp=>?_⟩
    ·subst z;cases h3;exact hs.1 rfl
    ·subst z;refine q _ _ _ (.refl _ _) rp ?_;have e1:timesL xs 1=xs:=by simp[timesL]
     rw[e1];exact .tup h1 h2 h3
    ·exact q _ _ _ (Ext.new hp _) (rp.new hp _) (.newT rp hp (h3.times n.toNat))
  ·cases e
 ·cases e
end Dd
namespace L2
open PySem PySem.Spec PyProof.Rows PySem.W
section
variable {P:Program}{w:World}{B:Around}{sg:Shared}
end
end L2
namespace Dd
open PySem L2 PyProof.Rows
end Dd
namespace L2
open PySem PySem.Spec PyProof.Rows
end L2
namespace Dd
open PySem L2 PyProof.Rows
section
variable {X:Cx}{o e:Expr}{es:List Expr}{f:SE}{ga:SA}{apos cpos:Pos}
end
end Dd
namespace Dd
variable {α:Type}{motive:List α->Prop}
@[elab_as_elim] theorem len0 (us:List α) (hl:us.length=0) (h:motive []):motive us:=by rw[List.eq_nil_of_length_eq_zero hl];exact h
@[elab_as_elim] theorem lenS {n:Nat} (us:List α) (hl:us.length=n+1) (h:∀a us,us.length=n->motive (a::us)):motive us:=by
 cases us with
 | nil=>cases hl
 | cons a us=>exact h a us (Nat.succ.inj hl)
@[elab_as_elim] theorem len1 (us:List α) (hl:us.length=1) (h:∀a,motive [a]):motive us:=lenS us hl fun a us hl=>len0 us hl (h a)
@[elab_as_elim] theorem len2 (us:List α) (hl:us.length=2) (h:∀a b,motive [a,b]):motive us:=lenS us hl fun a us hl=>len1 us hl (h a)
@[elab_as_elim] theorem len3 (us:List α) (hl:us.length=3) (h:∀a b c,motive [a,b,c]):motive us:=lenS us hl fun a us hl=>len2 us hl (h a)
@[elab_as_elim] theorem len4 (us:List α) (hl:us.length=4) (h:∀a b c d,motive [a,b,c,d]):motive us:=lenS us hl fun a us hl=>len3 us hl (h a)
end Dd
namespace Dd
open PySem L2
end Dd
namespace L2
open PySem PySem.Spec PyProof.Rows
end L2
namespace Dd
open PySem L2 PyProof.Rows
end Dd
namespace L2
open PySem PySem.Spec PyProof.Rows
section
variable {X:Cx}{tg:Expr}
end
end L2
namespace Dd
open PySem L2
section
variable {X:Cx}{tg a b c:Expr}{g:SA}{p pos:Pos}
end
end Dd
namespace Dd
open PySem L2 PyProof.Rows
section
variable {X:Cx}{o e:Expr}{es:List Expr}{f:SE}{ga:SA}{apos cpos:Pos}
end
end Dd
namespace L2
open PySem PySem.Spec PyProof.Rows
variable {X:Cx}{e es:Expr}{te ts:TE}{pos p2:Pos}
end L2
namespace Dd
open PySem L2
section
variable {X:Cx}{e es:Expr}{f g:SE}{pos p2:Pos}
end
end Dd
namespace L2
open PySem PySem.Spec PyProof.Rows
section
variable {prog:Program}{w:World}{A:Around}{E:Value->Shared->Prop}{s:Shared}
end
variable {X:Cx}{e es:Expr}{te ts:TE}{pos p2:Pos}
end L2
namespace Dd
open PySem L2
section
variable {X:Cx}{e es:Expr}{f g:SE}{pos p2:Pos}
end
end Dd
namespace L2
open PySem PySem.Spec PyProof.Rows
theorem zpy {X:Cx}:CallR X (.type "str") (fun xs H Q=>∃ i:Int, xs=[.int i]/\-(2 ^ 60) < i/\i < 2 ^ 60/\Q (.str (toString i)) H):=by
 intro aA s σ H xs us Q I r h;obtain⟨i,rfl,h1,h2,q⟩:=h;obtain⟨u,rfl,t,rfl⟩:=vals1 r;exact str_of_int_fit (N:=2 ^ 60) (by split<;>lia) (by decide) fun _=>⟨.str (toString i),H,I.tok _,⟨_,rfl⟩,q⟩
end L2
namespace Dd
open PySem L2
noncomputable def bStrI:List D->Store->Res D:=fun xs st=>match xs with
 | [.int i]=>if -(2 ^ 60) < i/\i < 2 ^ 60 then .ok (.str (toString i)) st else .stuck
 | _=>.stuck
theorem zyh {K:Fg}:CaD K bStrI (fun xs H Q=>∃i:Int,xs=[.int i]/\-(2 ^ 60) < i/\i < 2 ^ 60/\Q (.str (toString i)) H):=fun ρ H st xs us z st' Q rp aa e q=>by
 unfold bStrI at e;split at e
 ·split at e
  ·rename_i hi;cases e;obtain⟨u,rfl,a⟩:=aa.one;cases a;exact⟨_,rfl,hi.1,hi.2,q _ _ _ (.refl _ _) rp (.str _)⟩
  ·cases e
 ·cases e
end Dd
namespace L2
open PySem PySem.Spec PyProof.Rows
noncomputable def tRaise (X:Cx) (aA:List (Addr×Obj)) (C:Addr) (ta:TA):TS:=fun _ σ H=>ta σ H fun vs H1=>vs.length<=sizeLine /\
 ∀(s:Shared) (us:List Value) (h':Heap) (e:Addr),Inv X aA σ H1 s->Vals vs us->Heap.MadeExcOf s.heap h' e (.ref C) us->X.xe (.ref e) {s with heap:=h'}
section
variable {X:Cx}{x:Str}{C:Addr}{bmB bmN:List Value}{newId nid initId inN B Bn:String}{e:Expr}{es:List Expr}{ta:TA}{np cpos pos:Pos}
theorem zzh (O:OwnCls x C bmB newId X.mg X.base)(Fn:ExcBaseFacts Bn newId inN bmN)(hBn:bmB.contains (.type Bn)=true)(FB:ExcBaseFacts B nid initId bmB)(hc:X.calm=true)(hg:Gl X x)(ha:PA X (e::es) ta)
  (hd:(x==("__debug__" : Str))=false:=by decide)(he:starEach (e::es) X.env=(false, eval e X.env)::starEach es X.env:=by rfl)(hpl:(backTo cpos (starEach es X.env)).any (·.1)=false:=by rfl)
  {aA:List (Addr×Obj)}{s:Shared}{σ:St}{H:Hp}{D:Ends}(I:Inv X aA σ H s)(h:tRaise X aA C ta D σ H) :
  wpAny (model X.prog X.w) X.A (exec (.Raise (some (.Call (.Name x np) (e::es) [] cpos)) none pos) X.env) (SP X aA D) X.xe s:=by
 obtain⟨tl,N,nm,q,bs,hdct,sn,sub,ab,col,dd,k0,k1,k2,k3,k5,mN,hC,hN,hni,T⟩:=O.obj;refine wpAny_Raise_call_subU (C:=C) (nm:=nm) (q:=q) (N:=N) (bs:=bs) (bm:=tl) (hdct:=hdct) (sn:=sn) (sub:=sub) (ab:=ab) (col:=col) (dd:=dd) (k0:=k0) (k1:=k1) (k2:=k2) (k3:=k3) (k5:=k5)
  Fn hBn FB (mN:=mN) (T.hasType FB.hasBase) (I.ok.hd hc) (by rw[he];show(false||(backTo cpos (starEach es X.env)).any (·.1))=false;rw[hpl];rfl) hni (ziw I hg O.bound ⟨rfl,?_⟩ hd)
 have h2:=ha cpos aA s σ H _ I h;rw[he] at h2 ⊢;refine xib (xdd h2 (fun us s2 hq=>?_) fun _ _ y=>y);obtain⟨vs,H1,I1,rv,hz,q⟩:=hq;exact⟨rfl,by rw[← rv.length];exact hz,I1.bk _ _ hC,hN.keeps I1.bk,T.keeps I1.bk,fun h' e hm=>q s2 us h' e I1 rv hm⟩
end
noncomputable def Rec (h:Heap) (e:Addr) (cls:Value) (dx:Option Addr) (tb:Value):Prop:=∃oe vs,h.get? e=some oe/\oe.cls=cls/\oe.dict=dx/\oe.data=.fields vs/\vs[1]?=some tb/\vs[2]?=some .none
noncomputable def RecT (h:Heap) (T:Addr) (x:Value):Prop:=∃o ts,h.get? T=some o/\o.data=.fields ts/\ts[3]?=some x
structure Mv (ch fs:List Addr) (h h':Heap):Prop where
 keep:∀b o,b∉ch->b∉fs->h.get? b=some o->h'.get? b=some o
 slot:∀b o,b∉ch->b∈fs->h.get? b=some o->∃sl,h'.get? b=some {o with slots:=sl}
theorem Mv.trans {ch fs:List Addr}{h h1 h2:Heap}(a:Mv ch fs h h1)(b:Mv ch fs h1 h2):Mv ch fs h h2 :=
 ⟨fun c o x y e=>b.keep c o x y (a.keep c o x y e),fun c o x y e=>let ⟨_,e1⟩:=a.slot c o x y e;let ⟨sl,e2⟩:=b.slot c _ x y e1;⟨sl,e2⟩⟩
theorem Mv.mono {ch ch' fs:List Addr}{h h':Heap}(a:Mv ch fs h h')(k:∀b∈ch,b∈ch'):Mv ch' fs h h' :=
 ⟨fun b o x y e=>a.keep b o (fun z=>x (k b z)) y e,fun b o x y e=>a.slot b o (fun z=>x (k b z)) y e⟩
theorem Mv.set {fs:List Addr}{h:Heap}{a:Addr}{f:Obj->Obj}:Mv [a] fs h (h.update a f) :=
 ⟨fun b o x _ e=>by rw[xcp _ _ (by rintro rfl;exact x (xbn.mpr rfl))];exact e,
  fun b o x _ e=>⟨o.slots,by rw[xcp _ _ (by rintro rfl;exact x (xbn.mpr rfl))];exact e⟩⟩
theorem zsa {h:Heap}{e:Addr}{o:Obj}{vs:Array Value}{i:Nat}{x:Value}(he:h.get? e=some o)(hd:o.data=.fields vs) :
 (h.update e (Obj.mapFields (·.setIfInBounds i x))).get? e=some (o.mapFields (·.setIfInBounds i x)):=xel _ he (Obj.isFreed_of_fields (xhg hd _))
theorem zsw (o:Obj)(f:Array Value->Array Value):(o.mapFields f).cls=o.cls/\(o.mapFields f).dict=o.dict:=by
 obtain⟨a,b,c,d⟩:=o;cases c<;>exact⟨rfl,rfl⟩
section
variable {M:Model}{A:Around}{E:Value->Shared->Prop}{s:Shared}
theorem zga {e T:Addr}{cls x:Value}{dx:Option Addr}{fs:List Addr}{Q:Unit->Shared->Prop}(r:Rec s.heap e cls dx (.ref T))(t:RecT s.heap T x)(hne:T≠e)
  (h:∀h',Mv [T] fs s.heap h'->Rec h' e cls dx (.ref T)->RecT h' T .none->Q () {s with heap:=h'}):wpAny M A (setFlight (.ref e) none) Q E s:=by
 obtain⟨oe,vs,e1,e2,e3,e4,e5,e6⟩:=r;obtain⟨o,ts,t1,t2,t3⟩:=t;have sz:=(xfb.mp t3).1;unfold setFlight;refine xba (xgf e1 e4 e5 ?_);rw[if_pos (by simp)];refine xhy t1 t2 sz (h _ .set ⟨oe,vs,?_,e2,e3,e4,e5,e6⟩ ⟨_,_,zsa t1 t2,xhg t2 _,?_⟩)
 ·rw[xcp _ _ hne];exact e1
 ·simp[sz]
theorem zsr {base:Heap}{env:Env}{outer:List Env}{L e:Addr}{oe:Obj}{vs:Array Value}{head:Value}{nx:Bool}{Q:Unit->Shared->Prop}(hfr:A.frames=some (env::outer))(hl:s.heap.FunFrames base (env::outer))(hf:env.frame=some L)
  (he:s.heap.get? e=some oe)(hd:oe.data=.fields vs)(hz:1 < vs.size)(h2:vs[2]?=some .none)
  (h:∀h',Mv [e] (frs (env::outer)) s.heap h'->Rec h' e oe.cls oe.dict (.ref s.heap.objs.size)->RecT h' s.heap.objs.size (rawInt L)->Q () {s with heap:=h'}) :
  wpAny M A (do setField (.ref e) 1 (← EntryCells.newEntry head (← frameOf env) .none (rawInt L) .none (← entryPlaceOf L nx))) Q E s:=by
 have ne:e∉frs (env::outer):=fun hm=>by
  obtain⟨_,o,ho,hn⟩:=hl.mem hm;rw[he] at ho;cases ho;exact hn vs hd
 refine xba (wpAny_frameOf_fun hfr hl hf fun h1 q1=>xba (wpAny_entryPlaceOf fun pl hp=>?_));unfold EntryCells.newEntry newFields;refine xba (xdp ?_ (by exact hp.sizeOk5 _ _ _ _ _));have e1:h1.get? e=some oe:=(q1.2.1 e ne).trans he;have sz:h1.objs.size=s.heap.objs.size:=q1.1;have e2:=fun ob:Obj=>xbc (h:=h1) ob e1
 refine xhy (e2 _) hd hz (h _ ⟨fun b o x y q=>?_,fun b o x y q=>?_⟩ ⟨_,_,zsa (e2 _) hd,(zsw _ _).1,(zsw _ _).2,xhg hd _,by rw[sz];simp[hz],by rw[xjx (by decide)];exact h2⟩ ?_)
 ·rw[xcp _ _ (by rintro rfl;exact x (xbn.mpr rfl))];exact xbc _ ((q1.2.1 b y).trans q)
 ·obtain⟨sl,z⟩:=q1.2.2 b o q;refine⟨sl,?_⟩;rw[xcp _ _ (by rintro rfl;exact x (xbn.mpr rfl))];exact xbc _ z
 ·have ne2:e≠h1.objs.size:=xca (xbl e1);rw[← sz];refine⟨_,_,(xcp _ _ ne2).trans (xbv h1 rfl),rfl,?_⟩
  ·first
    | (simp;done)
    | (rcases hp with rfl | ⟨_,_,_,_,_,_,_,rfl⟩<;>simp)
theorem zmb {base:Heap}{env:Env}{outer:List Env}{L e:Addr}{cls:Value}{dx:Option Addr}{Q:Unit->Shared->Prop}(hfr:A.frames=some (env::outer))(hl:s.heap.FunFrames base (env::outer))(hf:env.frame=some L)
  (r:Rec s.heap e cls dx .none)(h:∀h',Mv [e] (frs (env::outer)) s.heap h'->Rec h' e cls dx (.ref s.heap.objs.size)->RecT h' s.heap.objs.size (rawInt L)->Q () {s with heap:=h'}) :
  wpAny M A (noteFrame (.ref e) env) Q E s:=by
 obtain⟨oe,vs,e1,e2,e3,e4,e5,e6⟩:=r;subst e2 e3;unfold noteFrame;simp only[hf];refine xba (xgf e1 e4 e5 ?_);rw[if_neg (by decide)];exact zsr hfr hl hf e1 e4 (xfb.mp e5).1 e6 h
theorem zvo {base:Heap}{env:Env}{outer:List Env}{L e T:Addr}{cls:Value}{dx:Option Addr}{Q:Unit->Shared->Prop}(hfr:A.frames=some (env::outer))(hl:s.heap.FunFrames base (env::outer))(hf:env.frame=some L)
  (r:Rec s.heap e cls dx (.ref T))(t:RecT s.heap T .none)(hne:T≠e)
  (h:∀h' T',s.heap.get? T'=none->(∃o,h'.get? T=some o)->Mv [e,T] (frs (env::outer)) s.heap h'->Rec h' e cls dx (.ref T')->RecT h' T' (rawInt L)->Q () {s with heap:=h'}) :
  wpAny M A (noteFrame (.ref e) env) Q E s:=by
 obtain⟨oe,vs,e1,e2,e3,e4,e5,e6⟩:=r;obtain⟨o,ts,t1,t2,t3⟩:=t;subst e2 e3;unfold noteFrame;simp only[hf];refine xba (xgf e1 e4 e5 ?_);rw[if_pos (by simp)];refine xba (xgf t1 t2 t3 ?_);rw[if_neg (by simp[rawInt])];refine xba (xhy t1 t2 (xfb.mp t3).1 ?_);have mv:Mv [e,T] (frs (env::outer)) s.heap (s.heap.update T (Obj.mapFields (·.setIfInBounds 3 .none))):=Mv.set.mono fun b z=>by
  rw[xbn] at z;subst z;exact xci _ xch
 have e1':(s.heap.update T (Obj.mapFields (·.setIfInBounds 3 .none))).get? e=some oe:=by rw[xcp _ _ hne];exact e1
 have nf:T∉frs (env::outer):=fun hm=>by
  obtain⟨_,ob,hb,hn⟩:=hl.mem hm;rw[t1] at hb;cases hb;exact hn ts t2
 have sz:(s.heap.update T (Obj.mapFields (·.setIfInBounds 3 Value.none))).objs.size=s.heap.objs.size:=by simp[Heap.update]
 refine zsr (s:={s with heap:=_}) (base:=base) hfr (hl.of_keeps fun b ob hb hn=>?_) hf e1' e4 (xfb.mp e5).1 e6 fun h' m1 r1 t1'=>h h' s.heap.objs.size (xfn (xbf _)) ⟨_,m1.keep T _ (fun z=>hne (xbn.mp z)) nf (zsa t1 t2)⟩ (mv.trans (m1.mono fun b z=>?_)) (by rw[← sz];exact r1) (by rw[← sz];exact t1')
 ·refine⟨ob,?_,rfl⟩;rw[xcp _ _ (by rintro rfl;rw[t1] at hb;cases hb;exact hn _ t2)];exact hb
 ·rw[xbn] at z;subst z;exact xch
end
noncomputable def HX:HO:=.ext fun _=>True
noncomputable def trk2 (H:Hp) (ea T:Addr):Hp:=upd (upd H T HX) ea HX
structure Flies (H:Hp) (h:Heap) (ea T:Addr) (cls:Value) (dx:Option Addr):Prop where
 r:Rec h ea cls dx (.ref T)
 t:RecT h T .none
 ne:T≠ea
 fe:H ea=none
 ft:H T=none
theorem zct {H:Hp}{ea T b:Addr}:trk2 H ea T b=some HX/\(b=ea\/b=T)\/(b≠ea/\b≠T/\trk2 H ea T b=H b):=by
 unfold trk2;by_cases h1:b=ea
 ·exact .inl ⟨by rw[h1,zj],.inl h1⟩
 ·by_cases h2:b=T
  ·exact .inl ⟨by rw[zm h1,h2,zj],.inr h2⟩
  ·exact .inr ⟨h1,h2,by rw[zm h1,zm h2]⟩
theorem zxr {P:Program}{w:World}{H:Hp}{h:Heap}{a:Addr}(e:∃o,h.get? a=some o):ObjOk P w H h a HX:=⟨trivial,e,fun _ _ _ _=>trivial⟩
theorem ObjOk.here {P:Program}{w:World}{H:Hp}{h:Heap}{a:Addr}{o:HO}(x:ObjOk P w H h a o):∃ob,h.get? a=some ob:=by
 cases o with
 | lst xs=>obtain⟨_,_,_,_,e⟩:=x;exact⟨_,e⟩
 | tup xs=>obtain⟨_,_,_,p⟩:=x;obtain⟨_,e,_⟩:=p;exact⟨_,e⟩
 | dK kvs=>obtain⟨_,_,_,_,_,_,_,e,_⟩:=x;exact⟨_,e⟩
 | dT kvs=>obtain⟨_,_,_,_,_,_,_,e,_⟩:=x;exact⟨_,e⟩
 | set S n=>obtain⟨_,_,_,_,e,_⟩:=x;exact⟨_,e⟩
 | ins C dx fs=>exact⟨_,x.2.2.2.1⟩
 | own y=>exact x
 | xd fs=>obtain⟨_,⟨_,_,_,e,_⟩,_⟩:=x;exact⟨_,e⟩
 | rng lo hi=>obtain⟨_,_,_,e⟩:=x;exact⟨_,e⟩
 | frz ob u=>exact⟨_,x.1⟩
 | tbl ps=>exact⟨_,x⟩
 | met f y=>exact⟨_,x⟩
 | ext φ=>exact x.2.1
theorem Inv.flew {X:Cx}{aA:List (Addr×Obj)}{τ:St}{H H0:Hp}{s:Shared}{h':Heap}{ea T:Addr}(I:Inv X aA τ H0 s)(sub:∀b,H0 b=H b\/(H0 b=some HX/\H b=none))
  (new:∀b,b=ea\/b=T->s.heap.get? b=none\/H0 b=some HX)(keep:∀b o,H0 b≠some HX->b∉frs X.stack->s.heap.get? b=some o->h'.get? b=some o)
  (slot:∀b o,H0 b≠some HX->b∈frs X.stack->s.heap.get? b=some o->∃sl,h'.get? b=some {o with slots:=sl})(there:∀b o,s.heap.get? b=some o->∃o',h'.get? b=some o')
  (xe:∃o,h'.get? ea=some o)(xt:∃o,h'.get? T=some o):Inv X aA τ (trk2 H ea T) {s with heap:=h'}:=by
 have same:∀b o,H0 b=some o->o≠HX->trk2 H ea T b=some o:=fun b o e n=>by
  obtain⟨ob,hb⟩:∃ob,s.heap.get? b=some ob:=by
   have:=I.hok.lt e;exact(I.hok b o e).here
  rcases zct (H:=H) (ea:=ea) (T:=T) (b:=b) with⟨_,z⟩ | ⟨_,_,z⟩
  ·rcases new b z with y | y
   ·rw[hb] at y;cases y
   ·rw[e] at y;exact absurd (xbw y) n
  ·rw[z];rcases sub b with y | ⟨y,_⟩
   ·rw[← y];exact e
   ·rw[e] at y;exact absurd (xbw y) n
 refine I.call (g':=s.gens) (t':=s.toks) (d':=s.drawn) (ch:=[]) ⟨fun b o e n hb _=>keep b o (by rw[n];intro z;cases z) hb e,fun b o e n hb _=>slot b o (by rw[n];intro z;cases z) hb e,fun b o e n _=>?_,fun b o e _=>there b o e,fun b xs e=>same b _ e (by intro z;cases z),fun b o u e=>same b _ e (by intro z;cases z),fun b ps e=>⟨#[],by rw[xhi];exact same b _ e (by intro z;cases z)⟩⟩ (fun b o e=>?_) I.bare (fun _ z=>nomatch z)
 ·rcases zct (H:=H) (ea:=ea) (T:=T) (b:=b) with⟨_,z⟩ | ⟨_,_,z⟩
  ·rcases new b z with y | y
   ·rw[e] at y;cases y
   ·rw[n] at y;cases y
  ·rw[z];rcases sub b with y | ⟨y,_⟩
   ·rw[← y];exact n
   ·rw[n] at y;cases y
 ·rcases zct (H:=H) (ea:=ea) (T:=T) (b:=b) with⟨z,y⟩ | ⟨_,_,z⟩
  ·rw[z] at e;cases e
   rcases y with rfl | rfl
   ·exact zxr xe
   ·exact zxr xt
  ·rw[z] at e;have e0:H0 b=some o:=by
    rcases sub b with y | ⟨_,y⟩
    ·rw[y];exact e
    ·rw[e] at y;cases y
   by_cases hn:o=HX
   ·subst hn;obtain⟨ob,hb⟩:=(I.hok b _ e0).here;exact zxr (there b ob hb)
   ·have nx:∀c,c=b\/H0 c=some (.own b)->H0 c≠some HX/\c∉frs X.stack:=fun c hc=>by
     rcases hc with rfl | hc
     ·exact⟨by rw[e0];exact fun z=>hn (xbw z),fun z=>by rw[I.stkFree c z] at e0;cases e0⟩
     ·exact⟨by rw[hc];exact fun z=>(nomatch z),fun z=>by rw[I.stkFree c z] at hc;cases hc⟩
    exact(I.hok b o e0).stay (fun c u hc q=>keep c u (nx c hc).1 (nx c hc).2 q) (fun c hc=>same c _ hc (by intro z;cases z)) (fun c xs hc=>same c _ hc (by intro z;cases z))
theorem zny {X:Cx}{aA:List (Addr×Obj)}{τ:St}{H:Hp}{ea T:Addr}{cls:Value}{dx:Option Addr}{s:Shared}{M:Model}{E':Value->Shared->Prop}(st:X.stack=X.env::X.outer)(fr:X.env.frame=some X.env.locals)(F:Flies H s.heap ea T cls dx)(I:Inv X aA τ (trk2 H ea T) s) :
  wpAny M X.A (noteFrame (.ref ea) X.env) (fun _ s2=>∀(A':Around) (E:Value->Shared->Prop),wpAny M A' (setFlight (.ref ea) none) (fun _ s3=>∃T1,Flies H s3.heap ea T1 cls dx/\Inv X aA τ (trk2 H ea T1) s3) E s2) E' s:=by
 have hs:=I.stack;rw[st] at hs;have nx:∀b,trk2 H ea T b≠some HX->b∉[ea,T]:=fun b h z=>by
  simp only[xbx,xig,or_false] at z;rcases zct (H:=H) (ea:=ea) (T:=T) (b:=b) with⟨y,_⟩ | ⟨y1,y2,_⟩
  ·exact h y
  ·rcases z with z | z
   ·exact y1 z
   ·exact y2 z
 refine zvo (base:=X.base) (I.ok.frames.trans (by rw[st])) hs fr F.r F.t F.ne fun h1 T1 nT oT m1 r1 t1 A' E=>?_
 rw[← st] at m1;have ne1:T1≠ea:=by
  rintro rfl;obtain⟨_,_,q,_⟩:=F.r;rw[nT] at q;cases q
 refine zga (fs:=frs X.stack) r1 t1 ne1 fun h2 m2 r2 t2=>?_
 have nT1:∀b o,s.heap.get? b=some o->b∉[T1]:=fun b o q z=>by
  rw[xbn] at z;subst z;rw[nT] at q;cases q
 have I2:=I.flew (h':=h2) (H:=H) (ea:=ea) (T:=T1) (fun b=>by
   rcases zct (H:=H) (ea:=ea) (T:=T) (b:=b) with⟨y,z⟩ | ⟨_,_,y⟩
   ·exact .inr ⟨y,by rcases z with rfl | rfl<;>first | exact F.fe | exact F.ft⟩
   ·exact .inl y) (fun b hb=>by
   rcases hb with rfl | rfl
   ·exact .inr (by unfold trk2;rw[zj])
   ·exact .inl nT) (fun b o hb hf q=>m2.keep b o (nT1 b o q) hf (m1.keep b o (nx b hb) hf q)) (fun b o hb hf q=>by
   obtain⟨sl,q1⟩:=m1.slot b o (nx b hb) hf q;obtain⟨sl2,q2⟩:=m2.slot b _ (nT1 b o q) hf q1;exact⟨sl2,q2⟩) (fun b o q=>by
   have q1:∃o',h1.get? b=some o':=by
    by_cases hb:b∈[ea,T]
    ·simp only[xbx,xig,or_false] at hb;rcases hb with rfl | rfl
     ·obtain⟨_,_,y,_⟩:=r1;exact⟨_,y⟩
     ·exact oT
    ·by_cases hf:b∈frs X.stack
     ·obtain⟨sl,q1⟩:=m1.slot b o hb hf q;exact⟨_,q1⟩
     ·exact⟨_,m1.keep b o hb hf q⟩
   obtain⟨o1,q1⟩:=q1;by_cases hf:b∈frs X.stack
   ·obtain⟨sl,q2⟩:=m2.slot b _ (nT1 b o q) hf q1;exact⟨_,q2⟩
   ·exact⟨_,m2.keep b _ (nT1 b o q) hf q1⟩) (by obtain⟨_,_,y,_⟩:=r2;exact⟨_,y⟩) (by obtain⟨_,_,y,_⟩:=t2;exact⟨_,y⟩)
 have fT1:H T1=none:=by
  cases q:H T1 with
  | none=>rfl
  | some o =>
   have q':trk2 H ea T T1=some o:=by
    rcases zct (H:=H) (ea:=ea) (T:=T) (b:=T1) with⟨_,z⟩ | ⟨_,_,y⟩
    ·rcases z with z | z
     ·exact absurd z ne1
     ·rw[z,F.ft] at q;cases q
    ·rw[y];exact q
   obtain⟨ob,hb⟩:=(I.hok T1 o q').here;rw[nT] at hb;cases hb
 exact⟨T1,⟨r2,t2,ne1,F.fe,fT1⟩,I2⟩
theorem zbeo {X:Cx}{aA:List (Addr×Obj)}{τ:St}{H:Hp}{ea T:Addr}{cls:Value}{dx:Option Addr}{s:Shared}{M:Model}{A:Around}{E':Value->Shared->Prop}{Q:Unit->Shared->Prop}(F:Flies H s.heap ea T cls dx)(I:Inv X aA τ (trk2 H ea T) s)
  (h:∀s3,Flies H s3.heap ea T cls dx->Inv X aA τ (trk2 H ea T) s3->Q () s3):wpAny M A (setFlight (.ref ea) none) Q E' s:=by
 refine zga (fs:=frs X.stack) F.r F.t F.ne fun h2 m2 r2 t2=>?_
 have hT:trk2 H ea T T=some HX:=by unfold trk2;rw[zm F.ne,zj]
 have nT:∀b,trk2 H ea T b≠some HX->b∉[T]:=fun b h z=>by
  rw[xbn] at z;subst z;exact h hT
 refine h _ ⟨r2,t2,F.ne,F.fe,F.ft⟩ (I.flew (h':=h2) (H:=H) (ea:=ea) (T:=T) (fun b=>?_) (fun b hb=>.inr ?_) (fun b o hb hf q=>m2.keep b o (nT b hb) hf q) (fun b o hb hf q=>m2.slot b o (nT b hb) hf q) (fun b o q=>?_) (by obtain⟨_,_,y,_⟩:=r2;exact⟨_,y⟩) (by obtain⟨_,_,y,_⟩:=t2;exact⟨_,y⟩))
 ·rcases zct (H:=H) (ea:=ea) (T:=T) (b:=b) with⟨y,z⟩ | ⟨_,_,y⟩
  ·exact .inr ⟨y,by rcases z with rfl | rfl<;>first | exact F.fe | exact F.ft⟩
  ·exact .inl y
 ·rcases hb with rfl | rfl
  ·unfold trk2;rw[zj]
  ·exact hT
 ·by_cases hb:b∈[T]
  ·rw[xbn] at hb;subst hb
   obtain⟨_,_,y,_⟩:=t2;exact⟨_,y⟩
  ·by_cases hf:b∈frs X.stack
   ·obtain⟨sl,q2⟩:=m2.slot b _ hb hf q;exact⟨_,q2⟩
   ·exact⟨_,m2.keep b _ hb hf q⟩
noncomputable def CX1 (P:Program) (w:World):CXT:=fun outer H s E e s'=>∃ea T C dx H',e=.ref ea/\s'.os=s.os/\AllBare s'.gens/\Un (frs outer) [] H (trk2 H' ea T) s.heap s'.heap/\HOk P w (trk2 H' ea T) s'.heap/\Flies H' s'.heap ea T (.ref C) dx/\E (.ref C) dx H'
noncomputable def Wish (X:Cx) (R:St->Value->Option Addr->Hp->Prop):Prop:=∀(aA:List (Addr×Obj)) (τ:St) (H:Hp) (ea T C:Addr) (dx:Option Addr) (s:Shared),Flies H s.heap ea T (.ref C) dx->Inv X aA τ (trk2 H ea T) s->R τ (.ref C) dx H->X.xe (.ref ea) s
noncomputable def WishR (X:Cx) (R:St->Value->Option Addr->Hp->Prop):Prop:=∀(aA:List (Addr×Obj)) (τ:St) (H:Hp) (ea C:Addr) (dx:Option Addr) (s0 s:Shared),Inv X aA τ H s0->(∀b o,s0.heap.get? b=some o->s.heap.get? b=some o)->s={s0 with heap:=s.heap,toks:=s.toks}->s0.heap.get? ea=none->Rec s.heap ea (.ref C) dx .none->R τ (.ref C) dx H->X.xe (.ref ea) s
section
variable {P:Program}{w:World}{K:Fg}{mg:Str->Option Value}{base:Heap}{N:List Str}{qual:Str}{scope:Scope}{f:Addr}{cd:Value}{A:Around}{outer:List Env}{s₀:Shared}{H₀:Hp}{E:XK}
theorem zbcf:Wish (cxOf (CX1 P w) P w K mg base N qual scope f cd A outer s₀ H₀ E) (fun _ c dx H=>E c dx H):=by
 intro aA τ H ea T C dx s F I hE;show wpAny _ _ (leaving _ _) _ _ s;unfold leaving;refine xba (thn (zny rfl rfl F I) fun _ s2 h2=>thn (h2 _ _) fun _ s3 hq0=>?_);obtain⟨T1,F1,I2⟩:=hq0;exact⟨ea,T1,C,dx,H,rfl,I2.os,I2.bare,I2.base,I2.hok,F1,hE⟩
theorem zym:WishR (cxOf (CX1 P w) P w K mg base N qual scope f cd A outer s₀ H₀ E) (fun _ c dx H=>E c dx H):=by
 intro aA τ H ea C dx s0 s I kp es ne r hE;have hs:s.heap.FunFrames base (cxOf (CX1 P w) P w K mg base N qual scope f cd A outer s₀ H₀ E).stack:=I.stack.of_keeps fun b o q _=>⟨o,kp b o q,rfl⟩
 show wpAny _ _ (leaving _ _) _ _ s;unfold leaving;refine xba (zmb (base:=base) I.ok.frames hs rfl r fun h1 m1 r1 t1=>?_);have oe:∃o,s.heap.get? ea=some o:=by obtain⟨_,_,q,_⟩:=r;exact⟨_,q⟩
 have ne1:s.heap.objs.size≠ea:=by
  obtain⟨_,q⟩:=oe;exact xgb (xca (xbl q))
 have nT:s0.heap.get? s.heap.objs.size=none:=by
  cases q:s0.heap.get? s.heap.objs.size with
  | none=>rfl
  | some o=>exact absurd (xbl (kp _ _ q)) (xfa _)
 refine zga (fs:=frs (cxOf (CX1 P w) P w K mg base N qual scope f cd A outer s₀ H₀ E).stack) r1 t1 ne1 fun h2 m2 r2 t2=>?_
 have ne0:∀b o,s0.heap.get? b=some o->b∉[ea]/\b∉[s.heap.objs.size]:=fun b o q=>by
  refine⟨fun z=>?_,fun z=>?_⟩
  ·rw[xbn] at z;subst z;rw[ne] at q;cases q
  ·rw[xbn] at z;subst z;rw[nT] at q;cases q
 have I2:=I.flew (h':=h2) (H:=H) (ea:=ea) (T:=s.heap.objs.size) (fun b=>.inl rfl) (fun b hb=>by
   rcases hb with rfl | rfl
   ·exact .inl ne
   ·exact .inl nT) (fun b o _ hf q=>m2.keep b o (ne0 b o q).2 hf (m1.keep b o (ne0 b o q).1 hf (kp b o q))) (fun b o _ hf q=>by
   obtain⟨sl,q1⟩:=m1.slot b o (ne0 b o q).1 hf (kp b o q);obtain⟨sl2,q2⟩:=m2.slot b _ (ne0 b o q).2 hf q1;exact⟨sl2,q2⟩) (fun b o q=>by
   by_cases hf:b∈frs (cxOf (CX1 P w) P w K mg base N qual scope f cd A outer s₀ H₀ E).stack
   ·obtain⟨sl,q1⟩:=m1.slot b o (ne0 b o q).1 hf (kp b o q);obtain⟨sl2,q2⟩:=m2.slot b _ (ne0 b o q).2 hf q1;exact⟨_,q2⟩
   ·exact⟨_,m2.keep b o (ne0 b o q).2 hf (m1.keep b o (ne0 b o q).1 hf (kp b o q))⟩) (by obtain⟨_,_,y,_⟩:=r2;exact⟨_,y⟩) (by obtain⟨_,_,y,_⟩:=t2;exact⟨_,y⟩)
 have nH:∀b,s0.heap.get? b=none->H b=none:=fun b hb=>by
  cases q:H b with
  | none=>rfl
  | some o=>obtain⟨ob,z⟩:=(I.hok b o q).here;rw[hb] at z;cases z
 refine⟨ea,s.heap.objs.size,C,dx,H,rfl,?_,?_,I2.base,I2.hok,⟨r2,t2,ne1,nH _ ne,nH _ nT⟩,hE⟩
 ·show s.os=_;rw[es];exact I2.os
 ·show AllBare s.gens;rw[es];exact I2.bare
end
noncomputable def bmV:List Value:=[.type "ValueError", .type "Exception", .type "BaseException", .type "object"]
noncomputable def ErrCls (K:Fg) (x:Str) (C:Addr):Prop:=W.nsIn K mainGlobals x=some (some (.ref C))/\W.excIn K C bmV "ValueError.__new__"=true
theorem zbeu {K:Fg}{h:Heap}{mg:Str->Option Value}{x:Str}{C:Addr}(X:K.In h)(G:h.Ns mainGlobals mg)(e:ErrCls K x C):OwnCls x C bmV "ValueError.__new__" mg h:=by
 obtain⟨e1,q⟩:=e;refine⟨xcr X G e1,?_⟩;unfold W.excIn at q;cases hl:K.lookup C with
 | none=>rw[hl] at q;cases q
 | some o =>
  rw[hl] at q;split at q
  ·next _ dd cd sl ho =>
   obtain rfl:=xbw ho;split at q
   ·next _ _ C' bm k0 k1 k2 k3 n k5 hm hs =>
    simp only[xem,xfd,Bool.not_eq_true'] at q;obtain⟨⟨⟨⟨⟨c1,c2⟩,c3⟩,c4⟩,c5⟩,c6⟩:=q;obtain⟨nm,bs,mro,ns,qn,hd,sn,sub,ab,col,del⟩:=cd;dsimp only at hm c3 c5 c6;obtain⟨l⟩:=sl;dsimp only at hs;subst c1 c2 c3 hm hs;exact⟨_,_,_,_,_,_,_,_,_,_,_,_,_,_,_,_,_,X _ _ hl,.of_isNs (W.isNs_of_in X c5),W.nsMap_none_of_in X c5 c6,xhk X c4⟩
   ·cases q
  ·cases q
section
variable {X:Cx}
end
noncomputable abbrev Cx.tryc (X:Cx) (E:Value->Shared->Prop) (pn:List (Addr×Obj)):Cx:={X with xe:=E,pn:=X.pn++pn}
noncomputable abbrev Cx.caught (X:Cx) (e:Value):Cx:={X with A:=X.A.mark (some e),calm:=false,xe:=fun _ _=>False}
section
variable {X:Cx}{aA pins':List (Addr×Obj)}{σ:St}{H:Hp}{s:Shared}{E:Value->Shared->Prop}{e:Value}
theorem Cx.Ok.tryc (ok:X.Ok):(X.tryc E aA).Ok:=⟨ok.mod,ok.kind,ok.glob,ok.blt,ok.above,ok.inj,ok.has,ok.cab,ok.hd,ok.frames,ok.stk,ok.exf,ok.bs,ok.bsz,ok.noex,ok.exfs,ok.funs,ok.frf⟩
theorem Cx.Ok.untryc (ok:(X.tryc E aA).Ok):X.Ok:=⟨ok.mod,ok.kind,ok.glob,ok.blt,ok.above,ok.inj,ok.has,ok.cab,ok.hd,ok.frames,ok.stk,ok.exf,ok.bs,ok.bsz,ok.noex,ok.exfs,ok.funs,ok.frf⟩
theorem Cx.Ok.caught (ok:X.Ok):(X.caught e).Ok:=⟨ok.mod,ok.kind,ok.glob,ok.blt,ok.above,ok.inj,ok.has,ok.cab,(fun z=>Bool.noConfusion (show false=true from z)),ok.frames,ok.stk,ok.exf,ok.bs,ok.bsz,ok.noex,ok.exfs,ok.funs,ok.frf⟩
theorem Inv.tryc (I:Inv X aA σ H s):Inv (X.tryc E aA) [] σ H s:=⟨I.ok.tryc,I.os,I.bare,I.base,I.loc,I.cell,I.free,I.freeC,fun p hp=>I.pin p (by rw[xdr] at hp;exact hp),I.hok,I.len,I.hnd⟩
theorem Inv.untryc (I:Inv (X.tryc E aA) pins' σ H s):Inv X aA σ H s:=⟨I.ok.untryc,I.os,I.bare,I.base,I.loc,I.cell,I.free,I.freeC,fun p hp=>I.pin p (xgr _ hp),I.hok,I.len,I.hnd⟩
theorem Inv.caught (I:Inv X aA σ H s)(he:Hnd (X.A.mark (some e)) H):Inv (X.caught e) aA σ H s:=⟨I.ok.caught,I.os,I.bare,I.base,I.loc,I.cell,I.free,I.freeC,I.pin,I.hok,I.len,he⟩
theorem Inv.uncaught (ok:X.Ok)(hc:X.calm=true)(I:Inv (X.caught e) aA σ H s):Inv X aA σ H s:=⟨ok,I.os,I.bare,I.base,I.loc,I.cell,I.free,I.freeC,I.pin,I.hok,I.len,Hnd.none (ok.hd hc)⟩
theorem SP.untryc {D:Ends}{f:Flow}(h:SP (X.tryc E aA) pins' D f s):SP X aA D f s:=by
 cases f with
 | next=>obtain⟨σ',H',I,q⟩:=h;exact⟨σ',H',I.untryc,q⟩
 | brk=>obtain⟨σ',H',I,q⟩:=h;exact⟨σ',H',I.untryc,q⟩
 | cont=>obtain⟨σ',H',I,q⟩:=h;exact⟨σ',H',I.untryc,q⟩
 | ret u=>obtain⟨v,σ',H',I,r,q⟩:=h;exact⟨v,σ',H',I.untryc,r,q⟩
theorem Inv.forget {h':Heap}{m:Str->Option Value}{t':Nat}(I:Inv X aA σ H s)(hn:h'.Ns X.env.locals m)(hs:Heap.SameBut X.env.locals s.heap h'):Inv X aA (σ.map fun _=>none) H {s with heap:=h',toks:=t'}:=by
 have kp:∀b o,b≠X.env.locals->s.heap.get? b=some o->h'.get? b=some o:=fun b o n q=>by rw[hs.2 b n];exact q
 have nL:∀b o,X.s₀.heap.get? b=some o->b≠X.env.locals:=fun b o q=>xca (xbg (xbl q) I.ok.above)
 have nH:∀b u,H b=some u->b≠X.env.locals:=fun b u q z=>by rw[z,I.free] at q;cases q
 refine⟨I.ok,I.os,I.bare,⟨fun b o q n f x=>kp b o (nL b o q) (I.base.keep b o q n f x),fun b o q n f x=>?_,I.base.free,fun b o q x=>?_,I.base.tups,I.base.frzs,I.base.tbls⟩,⟨m,hn,fun i x v _ q _=>?_⟩,fun x c q=>?_,I.free,I.freeC,fun p hp=>?_,fun b u q=>?_,by rw[xbe];exact I.len,I.hnd⟩
 ·obtain⟨sl,z⟩:=I.base.slot b o q n f x;exact⟨sl,kp b _ (nL b o q) z⟩
 ·obtain⟨o',z⟩:=I.base.there b o q x;exact⟨o',kp b _ (nL b o q) z⟩
 ·rw[xcl] at q;cases z:σ[i]?<;>rw[z] at q<;>cases q
 ·obtain⟨v,o,ho,hd⟩:=I.cell x c q;exact⟨v,o,kp c o (I.cne x c q) ho,hd⟩
 ·obtain⟨a,b,c,d⟩:=I.pin p hp;exact⟨kp _ _ c a,b,c,d⟩
 ·exact(I.hok b u q).stay (fun c v hc z=>kp c v (by rcases hc with rfl | hc;exact nH _ _ q;exact nH _ _ hc) z) (fun _ z=>z) fun _ _ z=>z
end
noncomputable def RH (K:Fg) (B:Addr) (i:Nat) (ts:TS) (rt:VK):St->Value->Option Addr->Hp->Prop:=fun τ cls dx H=>W.exmOne K cls (.ref B)=some true /\
 ∀ea T o,H ea=none->H T=none->T≠ea->o.cls=cls->o.dict=dx->(∃vs,o.data=.fields vs/\vs[2]?=some .none)->ts {nx:=fun _ _=>False,rt:=rt} (τ.set i (some (.ref ea))) (upd (upd H T HX) ea (.frz o HX))
section
variable {X:Cx}{body:List Stmt}{x n:Str}{B:Addr}{i:Nat}{b0:Stmt}{suite:List Stmt}{xp hp pos:Pos}{tb:(St->Value->Option Addr->Hp->Prop)->TS}{ts:TS}
theorem zbcz (hc:X.calm=true)(st:X.stack=X.env::X.outer)(fr:X.env.frame=some X.env.locals)(hN:X.N.Nodup)(hi:X.N[i]?=some n)(hn:X.env.kindOf n=some .local)(hg:Gl X x)(hB:W.nsIn X.K mainGlobals x=some (some (.ref B)))
  (hb:∀(R:St->Value->Option Addr->Hp->Prop) (E:Value->Shared->Prop) (pn:List (Addr×Obj)), Wish (X.tryc E pn) R->PSs (X.tryc E pn) body (tb R))(hs:∀ e, PSs (X.caught e) (b0::suite) ts)(hd:(x==("__debug__" : Str))=false:=by decide) :
  PS X (.Try body [.ExceptHandler (some (.Name x xp)) (some n) (b0::suite) hp] [] [] pos) (fun D σ H=>tb (RH X.K B i ts D.rt) D σ H):=by
 intro aA s σ H D I h;have ok:=I.ok;refine wpAny_Try_except ?_;refine xdd (hb _ (fun e s1=>wpAny (model X.prog X.w) X.A (noteFrame e X.env) (fun _ s2=>wpAny (model X.prog X.w) X.A (setFlight e none) (fun _ s3=>wpAny (model X.prog X.w) X.A (handleBy e X.env [.ExceptHandler (some (.Name x xp)) (some n) (b0::suite) hp]) (SP X aA D) X.xe s3) X.xe s2) X.xe s1) aA ?_ [] s σ H D I.tryc h) (fun f s1 q=>?_) fun _ _ q=>q
 rotate_left
 ·cases f with
  | next=>obtain⟨σ',H',I',q'⟩:=q;exact xit ⟨σ',H',I'.untryc,q'⟩
  | brk=>exact SP.untryc q
  | cont=>exact SP.untryc q
  | ret u=>exact SP.untryc q
 intro pins' τ H' ea T C dx s' F I' hR;obtain⟨hm,hR⟩:=hR;refine thn (zny st fr F I'.untryc) fun _ s2 h2=>thn (h2 X.A X.xe) fun _ s3 hq0=>?_
 obtain⟨T1,F1,I3⟩:=hq0;refine wpAny_handleBy_cons (codeAny_handlers_test ?_) (by intro z;cases z);refine xil I3.ok.kind hg (Calls.loadGlobal_global (by rw[I3.ok.glob];exact I3.mod.glob.keeps I3.bk) (xcr I3.mod.kin I3.mod.glob hB) ?_) hd;obtain⟨h3,g3,d3,t3,os3⟩:=s3;obtain⟨oe,vs,r1,r2,r3,r4,r5,r6⟩:=id F1.r;refine(W.exm_one (M:=model X.prog X.w) I3.kIn (r2 ▸ (W.Looks.ld r1).andThen .now) hm).at ?_;rw[if_pos rfl];refine codeAny_handlers_suite_as ?_;refine zbeo F1 I3 fun s4 F4 I4=>?_
 obtain⟨o,ws,q1,q2,q3,q4,q5,q6⟩:=id F4.r;have I5:Inv X aA τ (upd (upd H' T1 HX) ea (.frz o HX)) s4:=by
  have z:=I4.write (h':=s4.heap) (t':=s4.toks) (x:=ea) (e:=ea) (o:=.frz o HX) (by unfold trk2;rw[zj];trivial) (.inl rfl) (fun _ _ _ q=>q) ⟨_,q1⟩ ⟨q1,zxr ⟨_,q1⟩⟩;unfold trk2 at z;rw[zxe] at z;exact z
 refine zna (v:=.ref ea) I5 hN hi (.inl hn) rfl (fun s5 I6=>?_) (.inr hn);refine xdd (hs (.ref ea) aA s5 _ _ _ (I6.caught fun v z=>⟨ea,o,(xbw z).symm,zj,ws,q4,q6⟩) (hR ea T1 o F4.fe F4.ft F4.ne q2 q3 ⟨_,q4,q6⟩)) (fun f s6 q=>?_) fun _ _ z=>z.elim
 cases f with
 | next=>obtain⟨_,_,_,z⟩:=q;exact z.elim
 | brk=>obtain⟨_,_,_,z⟩:=q;exact z.elim
 | cont=>obtain⟨_,_,_,z⟩:=q;exact z.elim
 | ret u =>
  obtain⟨v,σ',H6,I7,rv,q⟩:=q;obtain⟨m,hm6,_⟩:=id I7.loc;refine wpAny_nameGoes hn hm6 (by rw[ok.kind];rfl) fun h7 m7 n7 s7=>?_
  exact⟨v,_,H6,(I7.uncaught ok hc).forget n7 s7,rv,q⟩
end
section
variable {prog:Program}{w:World}{A:Around}{E:Value->Shared->Prop}
end
section
variable {X:Cx}{pos:Pos}
end
theorem zbgb {CX:CXT}{P:Program}{w:World}{K:Fg}{mg:Str->Option Value}{base:Heap}{k:Nat}{f:Addr}{name qual:Str}{params:Arguments}{body:List Stmt}{scope:Scope}{dV kV doc pm cdv ct oc:Value}{an od:Option Addr}
  {osl:Array (Option Value)}{N ps:List Str}(lk:K.lookup f=some ⟨oc,od,.func (W.fnOf name qual params body scope dV kV doc pm an cdv ct),osl⟩)(hcd:W.codeIn K cdv qual=true)(S:FnScope N ps scope)
  {A:Around}{outer:List Env}{s:Shared}{H:Hp}{args:Args}{us:List Value}{vs:List V}{Q:VK}{E:XK}(hr:Room (k+1) A)(e0:Env0 P w K mg base A outer s H)(hb:BindsTo s (W.fnOf name qual params body scope dV kV doc pm an cdv ct) args (ps.zip us))(r:Vals vs us)(hl:vs.length=ps.length)
  {t:TS}(ht:PSs (cxOf CX P w K mg base N qual scope f cdv A outer s H E) body t)(hq:t {nx:=fun _ H'=>Q .non H',rt:=Q} (start N vs) H):codeAny (model P w) A (.call (.ref f) args) (CR CX outer P w H s Q E) s:=by
 have KX:K.In s.heap:=e0.mod.kin.keeps fun b o e=>(e0.bs b o e).1
 have lim:s.heap.NoLimit:=e0.mod.nolimit.keeps fun b o e=>(e0.bs b o e).1
 refine codeAny_call_function hr.depth (KX _ _ lk) rfl S.co S.gen rfl (W.codeRec_of KX hcd) (hb _ _ _ _ (wpAny_newFunctionEnv_cells S.kind (fun y hy=>?_) fun env he s1 x=>?_))
 ·rcases S.par y.1 (xjz (a:=y.1) (b:=y.2) hy).1 with q | q
  ·exact .inl q
  ·exact .inr ⟨q,xjl _ _ _ (.inl q)⟩
 subst he;refine⟨lim.keeps x.toInCall.keep,codeAny_func ?_⟩;have I:Inv (cxOf CX P w K mg base N qual scope f cdv A outer s H E) [] (start N vs) H s1:=zph S hr.hd e0 hl r x;refine xdd (ht [] s1 (start N vs) H _ I hq) (fun fl s' hs=>?_) fun e s' hs=>hs
 cases fl with
 | ret u=>obtain⟨v,σ',H',J,rv,q⟩:=hs;exact⟨v,H',J.os,J.bare,J.base,J.hok,rv,q⟩
 | next=>obtain⟨σ',H',J,q⟩:=hs;exact⟨.non,H',J.os,J.bare,J.base,J.hok,rfl,q⟩
 | brk=>obtain⟨_,_,_,q⟩:=hs;exact False.elim q
 | cont=>obtain⟨_,_,_,q⟩:=hs;exact False.elim q
noncomputable def cxL (P:Program) (w:World) (K:Fg) (mg:Str->Option Value) (base:Heap) (N:List Str) (qual:Str) (scope:Scope) (f:Addr) (cd:Value) (cl:List (Str×Addr)) (A:Around) (outer:List Env) (s:Shared) (H:Hp) (E:XK):Cx where
 prog:=P
 w:=w
 K:=K
 mg:=mg
 base:=base
 A:=A.deeper (W.envX qual scope s.heap.objs.size f cd cl)
 N:=N
 s₀:=s
 H₀:=H
 env:=W.envX qual scope s.heap.objs.size f cd cl
 outer:=outer
 stack:=W.envX qual scope s.heap.objs.size f cd cl::outer
 ex:=[]
 calm:=true
 fn:=fun _=>false
 pn:=[]
 xe:=fun e s'=>wpAny (model P w) (A.deeper (W.envX qual scope s.heap.objs.size f cd cl)) (leaving (W.envX qual scope s.heap.objs.size f cd cl) e) (fun _ s''=>CX1 P w outer H s E e s'') (fun e' s''=>CX1 P w outer H s E e' s'') s'
structure LamScope (scope:Scope):Prop where
 kind:scope.kind=.function
 co:scope.isCoroutine=false
 gen:scope.isGenerator=false
 nocell:∀y∈scope.names,y.2≠.cell
structure KeptL (scope:Scope) (N:List Str) (cl:List (Str×Addr)) (τ:St) (s:Shared) (H:Hp):Prop where
 inj:∀x y c,cl.lookup x=some c->cl.lookup y=some c->x=y
 has:∀x,(x,NameKind.free)∈scope.names->∃c,cl.lookup x=some c
 cell:∀x c,cl.lookup x=some c->(∃v,s.heap.IsCell c v)/\H c=none
 val:∀(i:Nat) (x:Str) (v:V),N[i]?=some x->τ[i]?=some (some v)->scope.names.lookup x=some .free/\∃c u,cl.lookup x=some c/\s.heap.IsCell c (some u)/\RelV v u
 len:τ.length=N.length
section
variable {P:Program}{w:World}{K:Fg}{mg:Str->Option Value}{base:Heap}{N:List Str}{name qual:Str}{params:Arguments}{body:Expr}{scope:Scope}{f:Addr}{cd pm ct:Value}{cl:List (Str×Addr)}{A:Around}{outer:List Env}{s:Shared}{H:Hp}{E:XK}{τ:St}
theorem zbej {h1:Heap}{tk:Nat}(S:LamScope scope)(hd:A.handled=none)(e0:Env0 P w K mg base A outer s H)(kp:KeptL scope N cl τ s H)(ns:h1.Ns s.heap.objs.size fun _=>none)(hk:∀b o,s.heap.get? b=some o->h1.get? b=some o) :
  Inv (cxL P w K mg base N qual scope f cd cl A outer s H E) [] τ H {s with heap:=h1,toks:=tk}:=by
 have noA:∀b:Addr,b∉(cxL P w K mg base N qual scope f cd cl A outer s H E).ex:=fun b z=>absurd (show b∈([]:List Addr) from z) (by simp)
 have ck:∀{c:Addr} {v:Option Value},s.heap.IsCell c v->h1.IsCell c v:=fun⟨o,a,b⟩=>⟨o,hk _ _ a,b⟩
 refine⟨⟨e0.mod,S.kind,rfl,rfl,xbf _,kp.inj,fun y hy=>?_,fun y c z=>(nomatch z),fun _=>hd,Around.frames_deeper e0.frames,.inr ⟨rfl,rfl⟩,fun b z=>absurd z (noA b),e0.bs,e0.bsz,fun b _ _=>noA b,fun b z=>absurd z (noA b),e0.funs,e0.frf⟩,
  rfl,e0.bare,Un.kept hk,⟨_,ns,fun i y v a b _=>?_⟩,fun y c a=>?_,e0.hok.fresh (xbf _),fun y c a=>(kp.cell y c a).2,fun p hp=>absurd (show p∈([]:List (Addr×Obj)) from hp) (by simp),e0.hok.kept hk,kp.len,Hnd.none hd⟩
 ·have hy:scope.names.lookup y=some .cell\/scope.names.lookup y=some .free:=hy;rcases hy with q | q
  ·exact absurd rfl (S.nocell _ (xdy q))
  ·exact kp.has y (xdy q)
 ·obtain⟨q,c,u,e1,e2,rv⟩:=kp.val i y v a b;exact⟨u,rv,.inr ⟨.inr q,c,e1,ck e2⟩⟩
 ·obtain⟨v,e⟩:=(kp.cell y c a).1;exact⟨v,ck e⟩
theorem zbad {k:Nat}{o:Obj}{te:TE}{Q:VK}(S:LamScope scope)(hr:Room (k+1) A)(e0:Env0 P w K mg base A outer s H)(kp:KeptL scope N cl τ s H)(ho:s.heap.get? f=some o)(hd:o.data=.func (W.kla_fn name qual params body scope cl pm cd ct))(hcd:s.heap.CodeRec cd qual)
  (hb:bindArgs (W.kla_fn name qual params body scope cl pm cd ct) ⟨[],[]⟩=pure [])(he:PE (cxL P w K mg base N qual scope f cd cl A outer s H E) body te)(hq:te τ H Q):codeAny (model P w) A (.call (.ref f) ⟨[],[]⟩) (CR (CX1 P w) outer P w H s Q E) s:=by
 have lim:s.heap.NoLimit:=e0.mod.nolimit.keeps fun b o e=>(e0.bs b o e).1
 refine W.kla_callFunE hr.depth ho hd S.co S.gen rfl hcd ?_;rw[hb];refine xbd (wpAny_newFunctionEnv S.nocell (fun y hy=>absurd (show y∈([]:List (Str×Value)) from hy) (by simp)) (fun h1 hns hsb=>?_) S.kind);have hk:∀b o,s.heap.get? b=some o->h1.get? b=some o:=fun b o e=>hsb.extBut b o (xca (xbl e)) (xbc _ e)
 refine⟨lim.keeps hk,W.kla_codeExpr ?_⟩;have I:Inv (cxL P w K mg base N qual scope f cd cl A outer s H E) [] τ H {s with heap:=h1,toks:=s.toks+([]:List (Str×Value)).length}:=zbej S hr.hd e0 kp hns hk;refine xdd (he [] _ τ H Q I hq) (fun u s' hs=>?_) fun e s' hs=>hs
 obtain⟨v,H',J,rv,q⟩:=hs;exact⟨v,H',J.os,J.bare,J.base,J.hok,rv,q⟩
theorem zyl:Wish (cxL P w K mg base N qual scope f cd cl A outer s H E) (fun _ c dx H=>E c dx H):=by
 intro aA τ H ea T C dx s F I hE;show wpAny _ _ (leaving _ _) _ _ s;unfold leaving;refine xba (thn (zny rfl rfl F I) fun _ s2 h2=>thn (h2 _ _) fun _ s3 hq0=>?_);obtain⟨T1,F1,I2⟩:=hq0;exact⟨ea,T1,C,dx,H,rfl,I2.os,I2.bare,I2.base,I2.hok,F1,hE⟩
end
theorem zhv:∀{l:List Value} {a b:Nat} {v:Value},TriplesOk l->TriplesOk (l++[rawInt a,rawInt b,v])
 | [],_,_,_,_=>trivial
 | .int _ _::.int _ _::_::r,_,_,_,h=>zhv (l:=r) h
theorem zmw {pos':Pos}{cv v:Value}{a b:Nat}:∀{l:List Value},TriplesOk l->codeAmong pos' (l++[rawInt a,rawInt b,v])=some cv->codeAmong pos' l=some cv\/cv=v
 | [],_,e=>by
  unfold codeAmong at e;simp only[xle,rawInt] at e;split at e
  ·exact .inr (xbw e).symm
  ·exact absurd e (by simp[codeAmong])
 | .int i t::.int j u::x::r,h,e=>by
  simp only[List.cons_append,codeAmong] at e ⊢;split at e
  ·rename_i q;rw[if_pos q];exact .inl e
  ·rename_i q;rw[if_neg q];exact zmw (l:=r) h e
noncomputable def BmOk (mg:Str->Option Value) (base:Heap):Prop:=∃ bm ob, mg "__builtins__"=some (.ref bm)/\bm≠builtinsNs/\base.get? bm=some ob/\ob.cls=.type "module"/\ob.dict=some builtinsNs/\ob.data=.plain
section
variable {X:Cx}{aA:List (Addr×Obj)}{τ:St}{H:Hp}{s:Shared}{c T:Addr}{ps:Array Value}{params:Arguments}{body:Expr}{scope:Scope}{cl:List (Str×Addr)}{pos:Pos}{Q:Value->Shared->Prop}
noncomputable abbrev lamO (mg:Str->Option Value) (params:Arguments) (body:Expr) (scope:Scope) (cl:List (Str×Addr)) (c':Addr) (ctv:Value):Obj:={ cls:=.type "function", data:=.func (W.kla_fn "<lambda>" Dd.lamQ params body scope cl ((mg "__name__").getD .none) (.ref c') ctv) }
structure Grew (T:Addr) (H H':Hp):Prop where
 tab:∃ps,H' T=some (.tbl ps)/\Dd.TabOk H' ps
 old:∀a o,H a=some o->a≠T->H' a=some o
 new:∀a,a≠T->H a=none->H' a≠none->∃o,H' a=some (.frz o HX)
theorem zbac (I:Inv X aA τ H s)(C:W.CodeHd X.base c T)(B:BmOk X.mg X.base)(hcode:X.env.code=.ref c)(hT:H T=some (.tbl ps))(ok:Dd.TabOk H ps)(hqu:X.env.qual++"<lambda>"=Dd.lamQ)(hcl:closureFor scope X.env=pure cl)(hdef:defaultsOf params X.env=([],[]))
  (k:∀f c' ctv s' H',Inv X aA τ H' s'->Grew T H H'->H' f=some (.frz (lamO X.mg params body scope cl c' ctv) HX)->H f=none->(∃oc vs t,H' c'=some (.frz oc HX)/\oc.data=.fields vs/\vs[1]?=some (.str Dd.lamQ t))->Q (.ref f) s') :
  wpAny (model X.prog X.w) X.A (eval (.Lambda params body scope pos) X.env) Q X.xe s:=by
 refine W.kla_eval hdef ?_;rw[hqu];have hg:s.heap.Ns mainGlobals X.mg:=I.mod.glob.keeps I.bk;have tb:s.heap.get? T=some (W.tabObj ps):=I.hok T _ hT;have neT:∀b o,X.base.get? b=some o->b≠T:=fun b o e z=>by
  have:=(I.bs b o e).2;rw[z,hT] at this;cases this
 have hgT:mainGlobals≠T:=by
  obtain⟨o,_,_,e,_⟩:=I.mod.glob;exact neT _ o e
 have CH:W.CodeHd s.heap c T:=C.keeps I.bk;have hb:s.heap.BuiltinsAt X.mg T:=by
  obtain⟨bm,ob,b1,b2,b3,b4,b5,b6⟩:=B;refine⟨bm,ob,b1,b2,fun z=>?_,neT _ _ b3,I.bk _ _ b3,b4,b5,b6⟩;obtain⟨o,es,ep,e,hd,_⟩:=I.mod.glob;rw[z,e] at b3;cases b3;rw[hd] at b6;cases b6
 have ltT:T < s.heap.objs.size:=xbl tb;cases hf:codeAmong pos ps.toList with
 | some cv =>
  obtain⟨c',oc,vs,t,rfl,h1,h2,h3⟩:=ok.2 pos cv hf;refine W.kla_makeFunctionHit (mg:=X.mg) hcl I.ok.glob hg hcode CH tb ok.1 hf hb fun ctv h' tk hk hsz=>?_
  have hk2:∀(ob:Obj) b o,s.heap.get? b=some o->(h'.push ob).get? b=some o:=fun ob b o e=>xbc _ (hk b o e)
  have nf:H h'.objs.size=none:=I.hok.fresh hsz;have gf:(h'.push (lamO X.mg params body scope cl c' ctv)).get? h'.objs.size=some (lamO X.mg params body scope cl c' ctv):=xbv _ rfl;refine k h'.objs.size c' ctv _ (upd H h'.objs.size (.frz (lamO X.mg params body scope cl c' ctv) HX)) (I.un (t':=tk) (Un.laid (hk2 _) hsz nf) (I.hok.laid (hk2 _) hsz ⟨gf,zxr ⟨_,gf⟩⟩)) ⟨⟨ps,?_,ok.map fun b ob u e=>?_⟩,fun a o e _=>?_,fun a _ n1 n2=>?_⟩ zj nf ⟨oc,vs,t,?_,h2,h3⟩
  ·rw[zm (zh hT nf)];exact hT
  ·rw[zm (zh e nf)];exact e
  ·rw[zm (zh e nf)];exact e
  ·by_cases z:a=h'.objs.size
   ·subst z;exact⟨_,zj⟩
   ·rw[zm z] at n2;exact absurd n1 n2
  ·rw[zm (zh h1 nf)];exact h1
 | none =>
  refine W.kla_makeFunction (mg:=X.mg) hcl I.ok.glob hg hcode CH tb ok.1 hf hgT hb fun c' ctv h' tk hx hge hlt hrec htb=>?_
  obtain⟨c2,oc,vs,t,ec,hoc,hd,hv⟩:=hrec;cases ec;have nc:H c'=none:=I.hok.fresh hge;have hsz:s.heap.objs.size<=h'.objs.size:=xbb hge (xbr hlt);have nf:H h'.objs.size=none:=I.hok.fresh hsz;have cT:c'≠T:=fun z=>by rw[z,hT] at nc;cases nc
  have fT:h'.objs.size≠T:=fun z=>by rw[z,hT] at nf;cases nf
  have fc:h'.objs.size≠c':=xjy hlt;generalize hH:upd (upd (upd H T (.tbl (ps++#[rawInt pos.line,rawInt pos.col,.ref c']))) c' (.frz oc HX)) h'.objs.size (.frz (lamO X.mg params body scope cl c' ctv) HX)=H';have gf:(h'.push (lamO X.mg params body scope cl c' ctv)).get? h'.objs.size=some (lamO X.mg params body scope cl c' ctv):=xbv _ rfl;have hk2:∀b o,b≠T->s.heap.get? b=some o->(h'.push (lamO X.mg params body scope cl c' ctv)).get? b=some o:=fun b o n e=>xbc _ (hx b o n e)
  have old:∀b o,H b=some o->b≠T->H' b=some o:=fun b o e n=>by
   rw[← hH,zm (zh e nf),zm (zh e nc),zm n];exact e
  have hT':H' T=some (.tbl (ps++#[rawInt pos.line,rawInt pos.col,.ref c'])):=by rw[← hH,zm fT.symm,zm cT.symm,zj]
  have hc':H' c'=some (.frz oc HX):=by rw[← hH,zm fc.symm,zj]
  have hf':H' h'.objs.size=some (.frz (lamO X.mg params body scope cl c' ctv) HX):=by rw[← hH,zj]
  have nT:∀b,H b=none->b≠T:=fun b n z=>by rw[z,hT] at n;cases n
  have oT:∀{b:Addr} {o:HO},H b=some o->(∀qs,o≠.tbl qs)->b≠T:=fun {b o} e n z=>by rw[z,hT] at e;cases e;exact n _ rfl
  have els:∀b,b≠T->b≠c'->b≠h'.objs.size->H' b=H b:=fun b a1 a2 a3=>by rw[← hH,zm a3,zm a2,zm a1]
  have nw:Inv X aA τ H' {s with heap:=h'.push (lamO X.mg params body scope cl c' ctv),toks:=tk}:=by
   refine I.step (g':=s.gens) (d':=s.drawn) (ch:=[]) (fun _ z=>nomatch z) (fun b o _ _ _ e n=>hk2 b o (nT b n) e) (fun b o _ _ _ e n=>⟨o.slots,hk2 b o (nT b n) e⟩) (fun b o _ e n=>?_) (fun b o _ e=>?_) (fun b xs e=>old b _ e (oT e nofun)) (fun b o u e=>old b _ e (oT e nofun)) (fun b qs e=>?_) (fun m hm=>?_) (fun b o e=>?_) I.bare
   ·rw[els b (nT b n) (xca (xbg (xbl e) hge)) (xca (xbg (xbl e) hsz))];exact n
   ·by_cases z:b=T
    ·subst z;exact⟨_,xbc _ htb⟩
    ·exact⟨o,hk2 b o z e⟩
   ·by_cases z:b=T
    ·subst z;rw[hT] at e;cases e;exact⟨_,hT'⟩
    ·exact⟨#[],by rw[xhi];exact old b _ e z⟩
   ·obtain⟨o,es,ep,e,r⟩:=hm;exact⟨o,es,ep,hk2 _ o (nT _ I.free) e,r⟩
   ·by_cases z1:b=c'
    ·subst z1;rw[hc'] at e;cases e
     exact⟨xbc _ hoc,zxr ⟨_,xbc _ hoc⟩⟩
    ·by_cases z2:b=T
     ·subst z2;rw[hT'] at e;cases e
      exact(xbc _ htb:(h'.push _).get? b=_)
     ·by_cases z3:b=h'.objs.size
      ·subst z3;rw[hf'] at e;cases e
       exact⟨gf,zxr ⟨_,gf⟩⟩
      ·rw[els b z2 z1 z3] at e
       exact(I.hok b o e).stay (fun a u ha q=>hk2 a u (by
        rcases ha with rfl | ha
        ·exact z2
        ·exact oT ha nofun) q) (fun a ha=>old a _ ha (oT ha nofun)) fun a xs ha=>old a _ ha (oT ha nofun)
  refine k h'.objs.size c' ctv _ H' nw ⟨⟨_,hT',?_,fun pos' cv e=>?_⟩,old,fun a n1 n2 n3=>?_⟩ hf' nf ⟨oc,vs,t,hc',hd,hv⟩
  ·rw[xcv];exact zhv ok.1
  ·rw[xcv] at e;rcases zmw ok.1 e with q | q
   ·obtain⟨c2,oc2,vs2,t2,e1,e2,e3⟩:=ok.2 pos' cv q;exact⟨c2,oc2,vs2,t2,e1,old _ _ e2 (oT e2 nofun),e3⟩
   ·exact⟨c',oc,vs,t,q,hc',hd,hv⟩
  ·by_cases z:a=c'
   ·subst z;exact⟨oc,hc'⟩
   ·by_cases z3:a=h'.objs.size
    ·subst z3;exact⟨_,hf'⟩
    ·rw[els a n1 z z3] at n3;exact absurd n2 n3
noncomputable def tLam (X:Cx) (T:Addr) (params:Arguments) (body:Expr) (scope:Scope):TE:=fun _ H Q=>∃ps,H T=some (.tbl ps)/\Dd.TabOk H ps/\∀f c' ctv cl H',(∀x c,cl.lookup x=some c->X.env.cells.lookup x=some c)->(∀x,(x,NameKind.free)∈scope.names->∃c,cl.lookup x=some c)->Grew T H H'->H' f=some (.frz (lamO X.mg params body scope cl c' ctv) HX)->H f=none->(∃oc vs t,H' c'=some (.frz oc HX)/\oc.data=.fields vs/\vs[1]?=some (.str Dd.lamQ t))->Q (.ref f) H'
theorem zbic {N:List Str}{is:List Nat}(S:CompScope X N 0 is scope)(C:W.CodeHd X.base c T)(B:BmOk X.mg X.base)(hcode:X.env.code=.ref c)(hqu:X.env.qual++"<lambda>"=Dd.lamQ)(hdef:defaultsOf params X.env=([],[])):PE X (.Lambda params body scope pos) (tLam X T params body scope):=by
 intro aA s σ H Q I ⟨ps,hT,ok,h⟩;obtain⟨cl,e,c1,c2⟩:=zfm S I;exact zbac I C B hcode hT ok hqu e hdef fun f c' ctv s' H' I' g h1 h2 h3=>⟨.ref f,H',I',rfl,h f c' ctv cl H' c1 c2 g h1 h2 h3⟩
end
structure ErrLook (K:Fg) (C:Addr):Prop where
 ga:W.findIn K (.ref C) "__getattribute__"=some (some (.builtin "BaseException.__getattribute__"))
 gt:W.findIn K (.ref C) "__getattr__"=some none
 mb:W.mroIn K C (.type "BaseException")=some true
 cls:(W.clsIn K C).isSome=true
 fi:W.findIn K (.ref C) "__class__"=some (some (.builtin "object.__class__"))
 sp:W.specialIn K (.builtin "object.__class__") "__get__"=some (some (.builtin "getset_descriptor.__get__"))
 tk:W.takesIn K (.builtin "object.__class__")=some true
 mr:W.mroIn K C (.type "object")=some true
theorem zbak {K:Fg}{C:Addr}{od:Option Obj}(L:ErrLook K C):W.findObj K C od "__class__"=some (.bind (.builtin "getset_descriptor.__get__") (.builtin "object.__class__")):=by
 obtain⟨cd,hc⟩:=xiw.mp L.cls;unfold W.findObj;rw[hc,xjr,L.fi,xjr];simp[L.sp,L.tk]
theorem zbjb {K:Fg}{C:Addr}(h:(W.clsIn K C).isSome=true):∃o cd,K.lookup C=some o/\o.data=.cls cd:=by
 obtain⟨cd,hc⟩:=xiw.mp h;unfold W.clsIn at hc;split at hc
 ·next ho=>cases hc;exact⟨_,_,ho,rfl⟩
 ·cases hc
theorem ztu {K:Fg}{M:Model}{A:Around}{E:Value->Shared->Prop}{s:Shared}{x D:Addr}{ox:Obj}{odo:Option Obj}{nameV:Value}{Q:Unit->Shared->Prop}(X:K.In s.heap)(I:W.InstAt s.heap x ox D odo)(hmb:W.mroIn K D (.type "BaseException")=some true)
  (h:Q () s):wpAny M A (checkBuiltinCall "BaseException.__getattribute__" ⟨[.ref x, nameV],[]⟩) Q E s:=by
 have hk:builtinKind "BaseException.__getattribute__"=some .slot:=by decide +kernel
 have hsplit:splitId "BaseException.__getattribute__"=some ("BaseException", "__getattribute__"):=by decide +kernel
 have L0:=I.type (M:=M);have L4:=W.looks_mroIn (M:=M) X hmb;have ha:=F.args_bexc_ga (.ref x) nameV;simp only[checkBuiltinCall,hk,hsplit];refine xba ?_;unfold isInstance;refine xba (L0.at (L4.at ?_))
 repeat (first | assumption | wp_step)
theorem zwf {K:Fg}{prog:Program}{w:World}{A:Around}{E:Value->Shared->Prop}{s:Shared}{x D:Addr}{ox:Obj}{odo:Option Obj}{Q:Option Value->Shared->Prop}(X:K.In s.heap)(I:W.InstAt s.heap x ox D odo)
  (L:ErrLook K D)(h:Q (some (.ref D)) { s with toks:=s.toks + 1 }):wpAny (model prog w) A (getAttr? (.ref x) "__class__") Q E s:=by
 obtain⟨hh,g,d,t,os⟩:=s;have L0:=I.type (M:=model prog w);have L1:=xfs (M:=model prog w) X L.ga;have L2:=xfs (M:=model prog w) X L.gt;have L3:=W.looks_find (M:=model prog w) X I (zbak L);have hx2:(Value.builtin "BaseException.__getattribute__"==Value.builtin "object.__getattribute__")=false:=by decide +kernel
 unfold getAttr? getAttrBy? getAttrBy;refine xba (wpAny_mkText (xba (xhd (xdg (xba (L0.at (xba (L1.at ?_))))))));dsimp only;rw[hx2,xli,if_neg (by decide)];unfold getAttrByItsOwn;refine xba (show wpAny _ _ (typeLookup (.ref D) "__getattr__") _ _ _ from L2.at ?_)
 refine xba (xhd (xdg ?_));show wpAny _ _ (boundAndCalled _ _ _) _ _ _;unfold boundAndCalled;rw[xgn.ga.bind];refine xba (xbd ?_);refine xgs (xij xgn.ga.plain F.entry_bexc_ga (ztu (s:=⟨hh,g,d,t+1,os⟩) X I L.mb ?_));unfold Builtin.«object.__getattribute__»;refine xba (xbd (xba (xbd (xba (L0.at (xba (L3.at ?_)))))));dsimp only;show wpAny _ _ (holding [Value.builtin "object.__class__"] (call (Value.builtin "getset_descriptor.__get__") [Value.builtin "object.__class__", Value.ref x, Value.ref D]) >>= ret) _ _ _
 refine xba (xdg (xgs (W.class_get (s:=⟨hh,g,d,t+1,os⟩) X I L.mr ?_)));refine xbd ?_;exact W.handed_on rfl (xbd h)
section
variable {X:Cx}
end
theorem zmk:entryFor table "proto.unchain"=some Builtin.«proto.unchain»:=entryFor_of_fast (by kernel_rfl)
theorem zvp {prog:Program}{w:World}{A:Around}{E:Value->Shared->Prop}{s:Shared}{it l ea:Addr}{i:Nat}{items:Array Value}{oe:Obj}{vs:Array Value}{Q:Option Value->Shared->Prop}(hh:A.handled=some (.ref ea))(he:s.heap.get? ea=some oe)(hv:oe.data=.fields vs)(h2:vs[2]?=some .none)(ne:ea≠it)
  (hit:s.heap.IsListIter it l i)(hl:s.heap.IsList l items)(hx:items[i]?=none)(hQ:∀h',Heap.ExtBut it s.heap h'->Q none {s with heap:=h'}):wpAny (model prog w) A (pyNext (.ref it)) Q E s:=by
 obtain⟨o,ho,hc,hd⟩:=id hit;obtain⟨ol,hol,_,nl,hdl⟩:=hl;unfold pyNext;refine xba (xhd (wpAny_callSpecial?_slot (name:=Str.ofString "__next__") hit.typeIs slot_listiter_next (xff slot_listiter_next hit.typeIs entry_listiter_next ?_ (args_listiter_next _))))
 refine xba (m:=field (.ref it) 0) (xgf ho hd (x:=.ref l) rfl ?_);rw[if_neg (fun z:(Value.ref l==Value.none)=true=>Bool.noConfusion z)];refine xba (m:=field (.ref it) 1) (xgf ho hd (x:=.int i 0) rfl ?_);refine xba (m:=seqItems? (.ref l)) (wpAny_seqItems hol hdl ?_);simp only[xgo,hx];refine xba (xhn (xba (xhy ho hd (by simp) (xba (m:=newExc (.type "StopIteration") []) ?_))))
 simp only[newExc,newTuple];refine xba (xdp (xba (m:=firstArgMember _ _) (wpAny_of_eq (a:=Value.none) (by first | rfl | (simp only[firstArgMember];rfl)) (xdp ?_ (by size_fits)))) (by size_fits));simp only[raiseNew];refine xba (wpAny_handled ?_);rw[show A.in1.handled=some (.ref ea) from hh];dsimp only;have hz:∀ob:Obj,((s.heap.update it (Obj.mapFields fun x=>x.setIfInBounds 0 Value.none)).push ob).objs.size=s.heap.objs.size+1:=fun ob=>by simp[Heap.push,Heap.update]
 have lt:=xbl he;have keep:∀(ob ob2:Obj) b o,b≠it->s.heap.get? b=some o->(((s.heap.update it (Obj.mapFields fun x=>x.setIfInBounds 0 Value.none)).push ob).push ob2).get? b=some o:=fun ob ob2 b o n e=>xbc _ (xbc _ (by rw[xcp _ _ n.symm];exact e))
 have nN:∀ob:Obj,ea≠((s.heap.update it (Obj.mapFields fun x=>x.setIfInBounds 0 Value.none)).push ob).objs.size:=fun ob=>by rw[hz];exact xca (xhq lt)
 have nq:∀n:Addr,ea≠n->(Value.ref ea != Value.ref n)=true:=fun n h=>bne_iff_ne.mpr fun z=>h (Value.ref.inj z)
 rw[if_pos (nq _ (nN _))];refine xba (xdg (wpAny_runValue (codeAny_builtin zmk ?_)));refine xba (m:=field (.ref ea) 2) (xgf (keep _ _ ea oe ne he) hv h2 ?_);rw[if_pos (show(Value.none==Value.none)=true from rfl)];refine xba (xbd (xbd ?_));unfold updateField;refine xba (xba (wpAny_load (xbv _ rfl) ?_));dsimp only;rw[if_pos (by rw[Array.size_append];exact xbg (show 2 < 6 by decide) (xbu 6 _))];refine wpAny_update (xbv _ rfl) ?_;refine wpAny_throw (xba (wpAny_isInstance (T:="StopIteration") (b:=true) ⟨_, xel _ (xbv _ rfl) rfl, rfl⟩ isSubtype_stop ?_))
 refine xbd (hQ _ fun b o' n e=>?_);rw[xcp _ _ (xjy (by rw[hz];exact xhq (xbl e)))];exact keep _ _ b o' n e
theorem walksH {prog:Program}{w:World}{A:Around}{ea:Addr}{oe:Obj}{vs:Array Value}(hh:A.handled=some (.ref ea))(hv:oe.data=.fields vs)(h2:vs[2]?=some .none)(I ax:Addr)(hne:ax≠I)(hne2:ea≠I)(items:Array Value) :
  Walks prog w A I [I,ax,ea] [I] items.size (fun i v=>items[i]?=some v) (fun i h=>(h.IsListIter I ax i/\h.IsList ax items)/\h.get? ea=some oe):=by
 refine⟨fun b hb=>by simp at hb;simp[hb],fun _ _ _ st hk=>⟨⟨st.1.1.at fun o e=>hk I (by simp) o e,st.1.2.at fun o e=>hk ax (by simp) o e⟩,hk ea (by simp) _ st.2⟩,fun i s Q E hi st hQ=>?_,fun s Q E st hQ=>?_,fun _ _ _ _ st hQ=>wpAny_pyIter_listiter st.1.1 hQ⟩
 ·refine wpAny_pyNext_list_item st.1.1 st.1.2 (x:=items[i]) (by simp[hi]) fun h' hit' hs'=>hQ _ h' s.toks (by simp[hi]) ⟨⟨hit',st.1.2.extBut hs'.extBut hne⟩,hs'.extBut _ _ hne2 st.2⟩ fun b o hb e=>hs'.extBut b o (fun h=>hb (by simp[h])) e
 ·exact zvp hh st.2 hv h2 hne2 st.1.1 st.1.2 (by simp) fun h' he'=>hQ h' s.toks fun b o hb e=>he' b o (fun h=>hb (by simp[h])) e
section
variable {X:Cx}
theorem zxc:CallR X (.builtin "any") (rAny X.K false):=by
 intro aA s σ H xs us Q I r h;obtain⟨l,bs,rfl,hl,q⟩:=h;obtain⟨u,rfl,ru⟩:=vals1 r;cases ru;obtain⟨its,rv,pl,hz⟩:=I.list hl;have e:=zhu rv;subst e;have hlt:l < s.heap.objs.size:=by obtain⟨o,n,e,_⟩:=pl;exact xbl e
 have e2:(bs.map Value.bool).toArray.size=bs.length:=by simp
 have fin:∀(h':Heap) tk,(∀b o,s.heap.get? b=some o->h'.get? b=some o)->EP X aA σ Q (.bool ((List.range (bs.map Value.bool).toArray.size).any fun i=>bs.getD i false)) {s with heap:=h',toks:=tk}:=fun h' tk hk=>by
  refine⟨.bl _,H,I.kept (t':=tk) hk,rfl,?_⟩;rw[e2,zou];exact q
 have nw:∀(ob:Obj) (h':Heap),(∀b o,b∉[s.heap.objs.size]->(s.heap.push ob).get? b=some o->h'.get? b=some o)->∀b o,s.heap.get? b=some o->h'.get? b=some o:=fun ob h' hk b o e=>hk b o (fun z=>by
  have z':b=s.heap.objs.size:=by simpa using z
  have z2:=xbl e;rw[z'] at z2
  exact absurd z2 (xfa _)) (xbc _ e)
 refine call_any_walk (xjk pl.isList ?_);cases hh:X.A.handled with
 | none=>exact⟨s.heap.objs.size,_,[s.heap.objs.size],_,_,_,_,rfl,Walks.list (A:=X.A.in1) hh _ l (xca hlt) (bs.map Value.bool).toArray,⟨⟨_,xbv _ rfl,rfl,rfl⟩,pl.isList.push _⟩,zgj bs,fun h' tk hk=>fin h' tk (nw _ h' hk)⟩
 | some v =>
  obtain⟨ea,o,rfl,hf,vs,hd,h2⟩:=I.hnd v hh;have he:s.heap.get? ea=some o:=(I.hok ea _ hf).1;exact⟨s.heap.objs.size,_,[s.heap.objs.size],_,_,_,_,rfl,walksH (A:=X.A.in1) hh hd h2 _ l (xca hlt) (xca (xbl he)) (bs.map Value.bool).toArray,⟨⟨⟨_,xbv _ rfl,rfl,rfl⟩,pl.isList.push _⟩,xbc _ he⟩,zgj bs,fun h' tk hk=>fin h' tk (nw _ h' hk)⟩
end
end L2
namespace L2
open PySem
namespace St
end St
namespace St
/- the leaps meet all places -/
end St
namespace St
/- laid anew -/
end St
namespace St
end St
end L2
namespace L2
open PySem PySem.W PyProof.Rows PySem.Spec
namespace St
section
variable {P:Program}{w:World}{B:Around}{E:Value->Shared->Prop}{s:Shared}{a:Addr}
end
end St
namespace St
section
variable {P:Program}{w:World}{B:Around}{R:Result->Shared->Prop}{it:Addr}{fp wr:List Addr}{G:Array GenState->Array GenState->Prop}{N:Nat}{It:Nat->Value->Prop}{St:Nat->Shared->Prop}
end
section
variable {P:Program}{w:World}{B:Around}{E:Value->Shared->Prop}{s:Shared}
end
end St
namespace St
section
variable {P:Program}{w:World}{B:Around}{E:Value->Shared->Prop}{s:Shared}{a it:Addr}{es:Array (Int×Value)}{ep:Nat}{t:SetTable}{ks:List Nat}
end
end St
end L2
namespace L2
open PySem PySem.Spec PyProof.Rows PySem.W
end L2
namespace Dd
open PySem L2 PyProof.Rows
section
variable {X:Cx}{x y:Str}{p p2 pos pos2:Pos}{e:Expr}{f:SA}{g:List D->Store->Res D}
end
end Dd
namespace L2
open PySem PySem.Spec PyProof.Rows PySem.W
end L2
namespace Dd
open PySem L2 PyProof.Rows
section
variable {X:Cx}{p p2 pos pos2 cpos apos:Pos}{e o:Expr}{f:SA}{g:SE}
end
noncomputable abbrev RXT:=L2.St->Value->Option Addr->Hp->Prop
noncomputable def XIs (K:Fg) (ρ:Loc) (H:Hp) (x:Exc) (C:Addr) (dx:Option Addr):Prop:=W.nsIn K mainGlobals x.cls=some (some (.ref C)) /\
 ((x.at_=[]/\dx=none)\/∃ i d od, x.at_=[i]/\dx=some d/\H d=some (.frz od (.xd [("at", .int i)]))/\Out ρ d)
noncomputable def XOk (K:Fg) (ρ:Loc) (H:Hp) (st':Store) (x:Exc) (R:XK):Prop:=∀ρ' H' C dx,Ext ρ H ρ' H'->Rep K ρ' st' H'->XIs K ρ' H' x C dx->R (.ref C) dx H'
theorem XOk.ext {K:Fg}{ρ ρ1:Loc}{H H1:Hp}{st':Store}{x:Exc}{R:XK}(e:Ext ρ H ρ1 H1)(h:XOk K ρ H st' x R):XOk K ρ1 H1 st' x R:=fun ρ' H' C dx a=>h ρ' H' C dx (e.trans a)
noncomputable def tX (K:Fg) (R:RXT) (f:SE):TE:=fun τ H Q=>∃ρ σ st,AtS K ρ H σ τ/\Rep K ρ st H/\((∃v st',f σ st=.ok v st'/\∀ρ' H' u,Ext ρ H ρ' H'->Rep K ρ' st' H'->At K ρ' H' v u->Q u H')\/∃x st',f σ st=.exc x st'/\XOk K ρ H st' x (R τ))
noncomputable def tXS (K:Fg) (R:RXT) (f:SS):TS:=fun E τ H=>∃ρ σ st,AtS K ρ H σ τ/\Rep K ρ st H/\((∃fl st',f σ st=.ok fl st'/\FlOk K ρ H st' E fl)\/∃x st',f σ st=.exc x st'/\XOk K ρ H st' x (R τ))
structure JX (X:Cx) (R:RXT) (e:Expr) (f:SE):Prop where out:PE X e (tX X.K R f)
structure JXS (X:Cx) (R:RXT) (s:Stmt) (f:SS):Prop where out:PS X s (tXS X.K R f)
structure JXB (X:Cx) (R:RXT) (s:List Stmt) (f:SS):Prop where out:PSs X s (tXS X.K R f)
noncomputable def noX {α:Type} (f:DS->Store->Res α):DS->Store->Res α:=fun σ st=>match f σ st with
 | .exc _ _=>.stuck
 | r=>r
theorem zst {α:Type}{f:DS->Store->Res α}{σ:DS}{st st':Store}{v:α}(h:noX f σ st=.ok v st'):f σ st=.ok v st':=by
 unfold noX at h;split at h
 ·cases h
 ·exact h
theorem zsu {α:Type}{f:DS->Store->Res α}{σ:DS}{st st':Store}{x:Exc}(h:noX f σ st=.exc x st'):False:=by
 unfold noX at h;split at h
 ·cases h
 ·rename_i hn;exact hn x st' h
theorem zgf {α β:Type}{f:DS->Store->Res α}{g:α->Store->Res β}{σ:DS}{st st':Store}{x:Exc}(h:(noX f σ st).bind g=.exc x st'):∃v st1,f σ st=.ok v st1/\g v st1=.exc x st':=by
 cases e:noX f σ st with
 | ok v st1=>rw[e] at h;exact⟨v,st1,zst e,h⟩
 | exc y w=>exact(zsu e).elim
 | stuck=>rw[e] at h;cases h
noncomputable def CalX (P:Program) (w:World) (K:Fg) (mg:Str->Option Value) (base:Heap) (x:Str) (k:Nat) (ps:List Str) (F:DFn):Prop :=
 ∃f fd,FnOk P w K mg base (CX1 P w) k f fd ps (fun vs H Q E=>∃ρ ds st,AtAll K ρ H ds vs/\Rep K ρ st H/\vs.length=ps.length/\((∃v st',F ds st=.ok v st'/\∀ρ' H' u,Ext ρ H ρ' H'->Rep K ρ' st' H'->At K ρ' H' v u->Q u H')\/∃x st',F ds st=.exc x st'/\XOk K ρ H st' x E))/\Binds K fd ps []/\W.keepIn K (.ref f)=true/\mg x=some (.ref f)
section
variable {X:Cx}{R:RXT}{e:Expr}{es:List Expr}{f:SE}{g:SA}{sm:Stmt}{rest body:List Stmt}{s t:SS}{pos p:Pos}{x:Str}{k:Nat}{ps:List Str}{F:DFn}
theorem zbjp (h:JS X sm s):JXS X R sm (noX s):=⟨zox h.out fun E τ H hq0=>by
 obtain⟨ρ,σ,st,a,rp,q⟩:=hq0;rcases q with⟨v,st',e1,q⟩ | ⟨x,st',e1,_⟩
 ·exact⟨ρ,σ,st,v,st',a,rp,zst e1,q⟩
 ·exact(zsu e1).elim⟩
theorem zpp (h:JB X body s):JXB X R body (noX s):=⟨zsf h.out fun E τ H hq0=>by
 obtain⟨ρ,σ,st,a,rp,q⟩:=hq0;rcases q with⟨v,st',e1,q⟩ | ⟨x,st',e1,_⟩
 ·exact⟨ρ,σ,st,v,st',a,rp,zst e1,q⟩
 ·exact(zsu e1).elim⟩
theorem zth (c:CalX X.prog X.w X.K X.mg X.base x k ps F)(hw:Wish X R)(hn:∀ ds st, ds.length≠ps.length->F ds st=.stuck)(hr:Room k X.A)(hg:Gl X x)(ha:JA X (e::es) g)(hdb:(x==("__debug__" : Str))=false:=by decide)
  (he:starEach (e::es) X.env=(false,eval e X.env)::starEach es X.env:=by rfl)(hpl:(backTo pos (starEach es X.env)).any (·.1)=false:=by rfl):JX X R (.Call (.Name x p) (e::es) [] pos) (eCall F (noX g)):=by
 obtain⟨fa,fd,G,b,kp,m⟩:=c;refine⟨fun aA s τ H Q I ⟨ρ,σ,st,a,rp,h⟩=>?_⟩;obtain⟨ds,st1,e1,h1⟩:∃ds st1,g σ st=.ok ds st1/\((∃v st',F ds st1=.ok v st'/\∀ρ' H' u,Ext ρ H ρ' H'->Rep X.K ρ' st' H'->At X.K ρ' H' v u->Q u H')\/∃x st',F ds st1=.exc x st'/\XOk X.K ρ H st' x (R τ)):=by
  rcases h with⟨v,st',e1,q⟩ | ⟨x,st',e1,q⟩
  ·obtain⟨ds,st1,e2,e3⟩:=zd e1;exact⟨ds,st1,zst e2,.inl ⟨v,st',e3,q⟩⟩
  ·obtain⟨ds,st1,e2,e3⟩:=zgf e1;exact⟨ds,st1,e2,.inr ⟨x,st',e3,q⟩⟩
 refine xfm (ziw I hg m ?_ hdb);refine xiv (h₀:=X.base) I.ok.mod.kin kp (thn (ha.out pos aA s τ H (fun vs H1=>∃ρ1,Ext ρ H ρ1 H1/\Rep X.K ρ1 st1 H1/\AtAll X.K ρ1 H1 ds vs) I ⟨ρ,σ,st,ds,st1,a,rp,e1,fun ρ1 H1 u x1 rp1 a1=>⟨ρ1,x1,rp1,a1⟩⟩) fun us s1 ⟨vs,H1,I1,r,ρ1,x1,rp1,a1⟩=>⟨I1.kIn,?_⟩) he hpl;have hlen:vs.length=ps.length:=by
  rw[a1.length];by_cases hl:ds.length=ps.length
  ·exact hl
  ·rcases h1 with⟨v,st',e3,_⟩ | ⟨x,st',e3,_⟩<;>(rw[hn ds st1 hl] at e3;cases e3)
 have r2:Vals vs (us++[]):=by rw[xdr];exact r
 refine xgs (xhx (G.run X.A X.stack s1 H1 ⟨us,[]⟩ (us++[]) vs Q (R τ) hr I1.env0 (b s1 us I1.kIn (by rw[xdr,← r.length];exact hlen)) r2 ⟨ρ1,ds,st1,a1,rp1,hlen,?_⟩) fun r s' hq=>?_)
 ·rcases h1 with⟨v,st',e3,q⟩ | ⟨x,st',e3,q⟩
  ·exact .inl ⟨v,st',e3,fun ρ' H' u x2=>q ρ' H' u (x1.trans x2)⟩
  ·exact .inr ⟨x,st',e3,q.ext x1⟩
 ·cases r with
  | error er =>
   obtain⟨ea,T,C,dx,H',rfl,os,bare,un,hok,Fl,hR⟩:=hq;exact hw aA τ H' ea T C dx s' Fl (I1.call' (ch:=[]) os un hok bare (fun _ z=>nomatch z)) hR
  | ok fl =>
   cases fl with
   | ret u=>exact I1.after hq
   | next=>exact False.elim hq
   | brk=>exact False.elim hq
   | cont=>exact False.elim hq
theorem ztl (he:JX X R e f)(hs:swapsWith e none pos.line X.env=pure false:=by rfl):JXS X R (.Expr e pos) (sDrop f):=⟨zox (zoy he.out hs) fun E τ H hq0=>by
 obtain⟨ρ,σ,st,a,rp,q⟩:=hq0;refine⟨ρ,σ,st,a,rp,?_⟩;rcases q with⟨fl,st',e1,q⟩ | ⟨x,st',e1,q⟩
 ·obtain⟨v,st1,e2,e3⟩:=zd e1;cases e3;exact .inl ⟨v,_,e2,fun ρ1 H1 u x1 rp1 a1=>q _ _ _ x1 rp1 (a.ext x1)⟩
 ·cases e2:f σ st with
  | ok v st1=>unfold sDrop at e1;rw[e2] at e1;cases e1
  | exc y w=>unfold sDrop at e1;rw[e2] at e1;cases e1;exact .inr ⟨_,_,rfl,q⟩
  | stuck=>unfold sDrop at e1;rw[e2] at e1;cases e1⟩
theorem ztk (h1:JXS X R sm s):JXB X R [sm] s:=⟨zow h1.out⟩
noncomputable def Cst (R:RXT):Prop:=∀τ τ',R τ=R τ'
theorem zli (hR:Cst R)(h1:JXS X R sm s)(h2:JXB X R rest t):JXB X R (sm::rest) (sSeq s t):=⟨zsf (zkv h1.out h2.out) fun E τ H hq0=>by
 obtain⟨ρ,σ,st,a,rp,q⟩:=hq0;refine⟨ρ,σ,st,a,rp,?_⟩;cases e0:s σ st with
 | stuck=>rcases q with⟨fl,st',e1,q⟩ | ⟨x,st',e1,q⟩<;>(unfold sSeq at e1;rw[e0] at e1;cases e1)
 | exc y w =>
  rcases q with⟨fl,st',e1,q⟩ | ⟨x,st',e1,q⟩
  ·unfold sSeq at e1;rw[e0] at e1;cases e1
  ·unfold sSeq at e1;rw[e0] at e1;cases e1;exact .inr ⟨_,_,rfl,q⟩
 | ok fl st1 =>
  refine .inl ⟨fl,st1,rfl,?_⟩;cases fl with
  | nx σ1 =>
   refine fun ρ1 H1 τ1 x1 rp1 a1=>⟨ρ1,σ1,st1,a1,rp1,?_⟩
   rcases q with⟨fl,st',e1,q⟩ | ⟨x,st',e1,q⟩
   ·unfold sSeq at e1;rw[e0] at e1;exact .inl ⟨fl,st',e1,q.ext x1⟩
   ·unfold sSeq at e1;rw[e0] at e1;exact .inr ⟨x,st',e1,by rw[hR τ1 τ];exact q.ext x1⟩
  | brk σ1=>rcases q with⟨fl,st',e1,q⟩ | ⟨x,st',e1,q⟩<;>(unfold sSeq at e1;rw[e0] at e1;cases e1);exact q
  | ct σ1=>rcases q with⟨fl,st',e1,q⟩ | ⟨x,st',e1,q⟩<;>(unfold sSeq at e1;rw[e0] at e1;cases e1);exact q
  | ret v=>rcases q with⟨fl,st',e1,q⟩ | ⟨x,st',e1,q⟩<;>(unfold sSeq at e1;rw[e0] at e1;cases e1);exact q⟩
theorem zbez {c:Expr}{b:ST}{a' b':List Stmt}(hc:JT X c b)(ha:JXB X R a' s)(hb:JXB X R b' t):JXS X R (.If c a' b' pos) (sIf (noX b) s t):=⟨zox (zblj hc.out ha.out hb.out) fun E τ H hq0=>by
 obtain⟨ρ,σ,st,a,rp,q⟩:=hq0;obtain⟨v,st1,e1,q⟩:∃v st1,b σ st=.ok v st1/\((∃fl st',(if v=true then s σ st1 else t σ st1)=.ok fl st'/\FlOk X.K ρ H st' E fl)\/∃x st',(if v=true then s σ st1 else t σ st1)=.exc x st'/\XOk X.K ρ H st' x (R τ)):=by
  rcases q with⟨fl,st',e1,q⟩ | ⟨x,st',e1,q⟩
  ·obtain⟨v,st1,e2,e3⟩:=zd e1;exact⟨v,st1,zst e2,.inl ⟨fl,st',e3,q⟩⟩
  ·obtain⟨v,st1,e2,e3⟩:=zgf e1;exact⟨v,st1,e2,.inr ⟨x,st',e3,q⟩⟩
 refine⟨ρ,σ,st,v,st1,a,rp,e1,fun ρ1 H1 x1 rp1=>?_⟩;have q2:((∃fl st',(if v=true then s σ st1 else t σ st1)=.ok fl st'/\FlOk X.K ρ1 H1 st' E fl)\/∃x st',(if v=true then s σ st1 else t σ st1)=.exc x st'/\XOk X.K ρ1 H1 st' x (R τ)):=by
  rcases q with⟨fl,st',e2,q⟩ | ⟨x,st',e2,q⟩
  ·exact .inl ⟨fl,st',e2,q.ext x1⟩
  ·exact .inr ⟨x,st',e2,q.ext x1⟩
 cases v with
 | true=>exact iteT ⟨ρ1,σ,st1,a.ext x1,rp1,q2⟩
 | false=>exact iteF ⟨ρ1,σ,st1,a.ext x1,rp1,q2⟩⟩
noncomputable def sRaise (c:Str) (g:SA):SS:=fun σ st=>(g σ st).bind fun xs st1=>if xs.length<=sizeLine then .exc ⟨c,[]⟩ st1 else .stuck
theorem zwj {C:Addr}{np cpos:Pos}(hw:WishR X R)(hx:ErrCls X.K x C)(hc:X.calm=true)(hg:Gl X x)(ha:JA X (e::es) g)(hd:(x==("__debug__" : Str))=false:=by decide)(he:starEach (e::es) X.env=(false, eval e X.env)::starEach es X.env:=by rfl)
  (hpl:(backTo cpos (starEach es X.env)).any (·.1)=false:=by rfl):JXS X R (.Raise (some (.Call (.Name x np) (e::es) [] cpos)) none pos) (sRaise x (noX g)):=by
 refine⟨fun aA s τ H E I ⟨ρ,σ,st,a,rp,q⟩=>?_⟩;obtain⟨xs,st1,e1,hl,q⟩:∃xs st1,g σ st=.ok xs st1/\xs.length<=sizeLine/\XOk X.K ρ H st1 ⟨x,[]⟩ (R τ):=by
  rcases q with⟨fl,st',e1,q⟩ | ⟨y,st',e1,q⟩
  ·obtain⟨v,st1,e2,e3⟩:=zd e1;split at e3<;>cases e3
  ·obtain⟨v,st1,e2,e3⟩:=zgf e1;split at e3
   ·cases e3;exact⟨v,_,e2,by assumption,q⟩
   ·cases e3
 refine zzh (zbeu I.mod.kin I.mod.glob hx) xdv (by decide) xdv hc hg ha.out hd he hpl I ⟨ρ,σ,st,xs,st1,a,rp,e1,fun ρ1 H1 u x1 rp1 a1=>⟨by rw[a1.length];exact hl,fun s1 us h' ee I1 rv hm=>?_⟩⟩;obtain⟨t,h1,h2,h3⟩:=hm.there;exact hw aA τ H1 ee C none s1 _ I1 hm.keeps rfl hm.new ⟨_,_,h1,rfl,rfl,rfl,rfl,rfl⟩ (q ρ1 H1 C none x1 rp1 ⟨hx.1,.inl ⟨rfl,rfl⟩⟩)
noncomputable def sTry (i:Nat) (cs:List Str) (b u:SS):SS:=fun σ st=>match b σ st with
 | .exc x st1=>if x.cls∈cs then(match u (σ.set i (some (.exn x.cls x.at_))) st1 with
  | .ok (.ret v) st2=>.ok (.ret v) st2
  | _=>.stuck) else .stuck
 | r=>r
theorem zxf {K:Fg}{B:Addr}{i:Nat}{cs:List Str}{u:SS}{E:Ends}{ρ:Loc}{σ:DS}{τ:L2.St}{H:Hp}{st1 st':Store}{y:Exc}{fl:Fl}(hcs:∀c∈cs,∀C,W.nsIn K mainGlobals c=some (some (.ref C))->W.exmOne K (.ref C) (.ref B)=some true)(a:AtS K ρ H σ τ)
  (e:(if y.cls∈cs then(match u (σ.set i (some (.exn y.cls y.at_))) st1 with
  | .ok (.ret v) st2=>Res.ok (Fl.ret v) st2
  | _=>.stuck) else .stuck)=.ok fl st') (q:FlOk K ρ H st' E fl):XOk K ρ H st1 y (RH K B i (tDS K u) E.rt τ):=by
 split at e
 ·next hmem =>
  refine fun ρ1 H1 C dx x1 rp1 xi=>⟨hcs _ hmem C xi.1,fun ea T o h1 h2 h3 h4 h5 h6=>?_⟩
  have hT:upd H1 T HX ea=none:=by rw[zm h3.symm];exact h1
  have x2:=x1.trans ((Ext.new h2 HX).trans (Ext.new hT (.frz o HX)));have rp2:=(rp1.new h2 HX).new hT (.frz o HX);have oe:Out ρ1 ea:=zfx (rp1.new h2 HX) hT;refine⟨ρ1,σ.set i (some (.exn y.cls y.at_)),st1,?_⟩;cases e3:u (σ.set i (some (.exn y.cls y.at_))) st1 with
  | stuck=>rw[e3] at e;cases e
  | exc _ _=>rw[e3] at e;cases e
  | ok fl2 st2 =>
   rw[e3] at e;cases fl2 with
   | ret v =>
    cases e;refine⟨.ret v,_,(a.ext x2).set (.exn ⟨C,o,xi.1,⟨zj,oe⟩,h4,h6,?_⟩) i,rp2,rfl,fun ρ' H' w x3=>q ρ' H' w (x2.trans x3)⟩;rcases xi.2 with⟨z1,z2⟩ | ⟨j,d,od,z1,z2,z3,z4⟩
    ·exact .inl ⟨z1,by rw[h5,z2]⟩
    ·refine .inr ⟨j,d,od,z1,by rw[h5,z2],?_,z4⟩;rw[zm (zh (by rw[zm (zh z3 h2)];exact z3) hT),zm (zh z3 h2)];exact z3
   | nx _=>cases e
   | brk _=>cases e
   | ct _=>cases e
 ·cases e
theorem zbfa {i:Nat}{n:Str}{B:Addr}{cs:List Str}{b0:Stmt}{suite:List Stmt}{xp hp:Pos}{b u:SS}(hc:X.calm=true)(st0:X.stack=X.env::X.outer)(fr:X.env.frame=some X.env.locals)(hN:X.N.Nodup)(hi:X.N[i]?=some n)(hn:X.env.kindOf n=some .local)(hg:Gl X x)(hB:W.nsIn X.K mainGlobals x=some (some (.ref B)))
  (hcs:∀c∈cs,∀C,W.nsIn X.K mainGlobals c=some (some (.ref C))->W.exmOne X.K (.ref C) (.ref B)=some true)
  (hb:∀(R:RXT) (E:Value->Shared->Prop) (pn:List (Addr×Obj)), Wish (X.tryc E pn) R->JXB (X.tryc E pn) R body b)(hs:∀ e, JB (X.caught e) (b0::suite) u)(hd:(x==("__debug__" : Str))=false:=by decide) :
  JS X (.Try body [.ExceptHandler (some (.Name x xp)) (some n) (b0::suite) hp] [] [] pos) (sTry i cs b u):=⟨zox (zbcz hc st0 fr hN hi hn hg hB (tb:=fun R=>tXS X.K R b) (ts:=tDS X.K u) (fun R E pn hw=>(hb R E pn hw).out) (fun e=>(hs e).out) hd) fun E τ H hq0=>by
 obtain⟨ρ,σ,st,fl,st',a,rp,e,q⟩:=hq0;refine⟨ρ,σ,st,a,rp,?_⟩;unfold sTry at e;cases e0:b σ st with
 | stuck=>rw[e0] at e;cases e
 | ok fl1 st1=>rw[e0] at e;cases e;exact .inl ⟨_,_,rfl,q⟩
 | exc y st1 =>
  rw[e0] at e
  exact .inr ⟨y,st1,rfl,zxf hcs a e q⟩⟩
end
section
variable {P:Program}{w:World}{K:Fg}{mg:Str->Option Value}{base h:Heap}{x:Str}{st:Stmt}{N ps:List Str}{k:Nat}{b:SS}
theorem zyf (T:TopF K x st)(X:K.In h)(G:h.Ns mainGlobals mg)(S:FnScope N ps (defScope st))
  (bd:∀(kV doc pm:Value) (an:Option Addr) (cdv ct:Value) (us:List Value),us.length=ps.length->bindArgs (W.fnOf x x (defArgs st) (defBody st) (defScope st) .none kV doc pm an cdv ct) ⟨us,[]⟩=pure (ps.zip us))
  (hbody:∀(f:Addr) (cdv:Value) (A:Around) (outer:List Env) (s:Shared) (H:Hp) (E:XK),Room k (A.deeper (envOfC x (defScope st) s.heap.objs.size f cdv)) ->
   JXB (cxOf (CX1 P w) P w K mg base N x (defScope st) f cdv A outer s H E) (fun _ c dx H=>E c dx H) (defBody st) b):CalX P w K mg base x (k+1) ps (fnD N.length ps.length b):=by
 obtain⟨f,fd,a,F⟩:=T;refine⟨f,fd,?_,F.binds bd,F.kp,xcr X G a⟩;obtain⟨oc,od,kV,doc,pm,an,cdv,ct,osl,rfl,lk,hcd⟩:=F.ex;refine zbjd lk hcd S (fun vs H Q E h=>by obtain⟨_,_,_,_,_,hl,_⟩:=h;exact hl) fun A outer s H vs Q E hr hsp=>⟨_,(hbody f cdv A outer s H E hr).out,?_⟩
 obtain⟨ρ,ds,st1,al,rp,hl,q⟩:=hsp;have hd:ds.length=ps.length:=by rw[← al.length];exact hl
 have as:AtS K ρ H (ds.map Option.some++List.replicate (N.length - ps.length) none) (L2.start N vs):=by
  unfold L2.start;rw[hl];exact al.some.append (.nones _)
 unfold fnD at q;rw[if_pos hd] at q;refine⟨ρ,_,st1,as,rp,?_⟩;cases hr:b (ds.map Option.some++List.replicate (N.length - ps.length) none) st1 with
 | stuck=>rw[hr] at q;rcases q with⟨_,_,z,_⟩ | ⟨_,_,z,_⟩<;>cases z
 | exc y w1 =>
  rw[hr] at q;rcases q with⟨_,_,z,_⟩ | ⟨_,_,z,q⟩
  ·cases z
  ·cases z;exact .inr ⟨_,_,rfl,q⟩
 | ok fl st2 =>
  rw[hr] at q;refine .inl ⟨fl,st2,rfl,?_⟩;cases fl with
  | ret w1=>rcases q with⟨_,_,z,q⟩ | ⟨_,_,z,_⟩<;>cases z;exact fun ρ' H' u x r t=>q ρ' H' u x r t
  | nx σ=>rcases q with⟨_,_,z,q⟩ | ⟨_,_,z,_⟩<;>cases z;exact fun ρ' H' τ x r t=>q ρ' H' .non x r .non
  | brk σ=>rcases q with⟨_,_,z,_⟩ | ⟨_,_,z,_⟩<;>cases z
  | ct σ=>rcases q with⟨_,_,z,_⟩ | ⟨_,_,z,_⟩<;>cases z
theorem zlf {n np:Nat}{b:SS}(ds:List D)(st:Store)(h:ds.length≠np):fnD n np b ds st=.stuck:=by unfold fnD;rw[if_neg h]
end
theorem zbbe {K:Fg}{P:Addr->Prop}:∀c∈([]:List Str),∀C,W.nsIn K mainGlobals c=some (some (.ref C))->P C:=fun _ h=>nomatch h
theorem zpw {K:Fg}{P:Addr->Prop}{c:Str}{cs:List Str}{C0:Addr}(h:W.nsIn K mainGlobals c=some (some (.ref C0)))(p:P C0)(r:∀c∈cs,∀C,W.nsIn K mainGlobals c=some (some (.ref C))->P C) :
  ∀c'∈c::cs,∀C,W.nsIn K mainGlobals c'=some (some (.ref C))->P C:=fun c' hc C e=>by
 rcases xbx.mp hc with rfl | hc
 ·rw[h] at e;cases e;exact p
 ·exact r c' hc C e
theorem zbba {X:Cx}{x:Str}{k:Nat}{ps:List Str}{F:DFn}{p pos:Pos}{e:Expr}{es:List Expr}{g:SA}(c:CalX X.prog X.w X.K X.mg X.base x k ps F)(hn:∀ ds st v st', F ds st=.ok v st'->ds.length=ps.length)(hr:Room k X.A)(hg:Gl X x)(ha:JA X (e::es) g)(hdb:(x==("__debug__" : Str))=false:=by decide)
  (he:starEach (e::es) X.env=(false,eval e X.env)::starEach es X.env:=by rfl)(hpl:(backTo pos (starEach es X.env)).any (·.1)=false:=by rfl):JE X (.Call (.Name x p) (e::es) [] pos) (eCall F g):=by
 obtain⟨f,fd,G,b,kp,m⟩:=c;refine⟨zgh (zxk G hr hg m kp b .nil (E:=E0) (fun _ _ _ _ _ _ _ ⟨_,_,_,_,_,_,_,_,_,_,_,z⟩=>z.elim) ha.out hdb he hpl) fun τ H Q ⟨ρ,σ,st,v,st',a,rp,e,q⟩=>?_⟩;obtain⟨ds,st1,e1,e⟩:=zd e;refine⟨ρ,σ,st,ds,st1,a,rp,e1,fun ρ1 H1 u x1 rp1 a1=>?_⟩;show ∃_,_
 rw[xdr];exact⟨ρ1,ds,st1,a1,rp1,by rw[a1.length];exact hn _ _ _ _ e,.inl ⟨v,st',e,fun ρ' H' w x2=>q ρ' H' w (x1.trans x2)⟩⟩
structure Thk (X:Cx) (f:Addr) (τL:L2.St) (g:SE):Prop where
 there:∀aA τ H s,Inv X aA τ H s->W.FnAt f s.heap
 run:∀aA τ H s (E:XK) (Q:VK),Inv X aA τ H s->tX X.K (fun _ c dx H=>E c dx H) g τL H Q->codeAny (model X.prog X.w) X.A (.call (.ref f) ⟨[],[]⟩) (CR (CX1 X.prog X.w) X.stack X.prog X.w H s Q E) s
noncomputable def tThk (K:Fg) (R:RXT) (f:Addr) (σL:DS) (τL:L2.St) (g:SE):TE:=fun τ H Q=>τ[0]?=some (some (.ref f))/\∃ρ σ st,AtS K ρ H σ τ/\AtS K ρ H σL τL/\Rep K ρ st H/\((∃v st',g σL st=.ok v st'/\∀ρ' H' u,Ext ρ H ρ' H'->Rep K ρ' st' H'->At K ρ' H' v u->Q u H')\/∃x st',g σL st=.exc x st'/\XOk K ρ H st' x (R τ))
noncomputable def tRef (K:Fg) (f:Addr) (σL:DS) (τL:L2.St) (b:SS):TS:=fun E τ H=>τ[0]?=some (some (.ref f))/\∃ρ σ st fl st',AtS K ρ H σ τ/\AtS K ρ H σL τL/\Rep K ρ st H/\b σ st=.ok fl st'/\FlOk K ρ H st' E fl
section
variable {X:Cx}{R:RXT}{f:Addr}{σL:DS}{τL:L2.St}{g:SE}{x n y:Str}{p pos pos2 xp hp:Pos}{B:Addr}{i:Nat}{cs:List Str}{b0:Stmt}{suite rest:List Stmt}{u t:SS}
theorem zbhn (hw:Wish X R)(T:Thk X f τL g)(hv:PE X (.Name x p) (tVar 0)):PE X (.Call (.Name x p) [] [] pos) (tThk X.K R f σL τL g):=by
 intro aA s τ H Q I ⟨h0,ρ,σ,st,a,aL,rp,h⟩;refine xfm (xdd (hv aA s τ H (fun v H'=>v=.ref f/\H'=H) I ⟨_,h0,rfl,rfl⟩) (fun w s1 h1=>?_) fun _ _ z=>z);obtain⟨v,H1,I1,rv,rfl,rfl⟩:=h1;obtain rfl:w=Value.ref f:=rv;refine W.callWith_F0 (T.there aA τ H1 s1 I1) ?_;refine xgs (xhx (T.run aA τ H1 s1 (R τ) Q I1 ⟨ρ,σL,st,aL,rp,h⟩) fun r s' hq=>?_);cases r with
 | error er =>
  obtain⟨ea,T1,C,dx,H',rfl,os,bare,un,hok,Fl,hR⟩:=hq;exact hw aA τ H' ea T1 C dx s' Fl (I1.call' (ch:=[]) os un hok bare (fun _ z=>nomatch z)) hR
 | ok fl =>
  cases fl with
  | ret u=>exact I1.after hq
  | next=>exact False.elim hq
  | brk=>exact False.elim hq
  | cont=>exact False.elim hq
theorem zbcy (hc:X.calm=true)(st0:X.stack=X.env::X.outer)(fr:X.env.frame=some X.env.locals)(hN:X.N.Nodup)(hi:X.N[i]?=some n)(hn:X.env.kindOf n=some .local)(hg:Gl X y)(hB:W.nsIn X.K mainGlobals y=some (some (.ref B)))
  (hcs:∀c∈cs,∀C,W.nsIn X.K mainGlobals c=some (some (.ref C))->W.exmOne X.K (.ref C) (.ref B)=some true)(T:∀E pn,Thk (X.tryc E pn) f τL g)(hv:∀E pn,PE (X.tryc E pn) (.Name x p) (tVar 0))
  (hs:∀ e, JB (X.caught e) (b0::suite) u)(hd:(y==("__debug__" : Str))=false:=by decide)(hsw:swapsWith (.Call (.Name x p) [] [] pos) none pos2.line X.env=pure false:=by rfl){tp:Pos} :
  PS X (.Try [.Expr (.Call (.Name x p) [] [] pos) pos2] [.ExceptHandler (some (.Name y xp)) (some n) (b0::suite) hp] [] [] tp) (tRef X.K f σL τL (sTry i cs (sDrop fun _=>g σL) u)) :=
 zox (zbcz hc st0 fr hN hi hn hg hB (tb:=fun R E τ H=>tThk X.K R f σL τL g τ H fun _ H'=>E.nx τ H') (ts:=tDS X.K u) (fun R E pn hw=>zow (zoy (zbhn hw (T E pn) (hv E pn)) hsw)) (fun e=>(hs e).out) hd) fun E τ H hq0=>by
  obtain⟨h0,ρ,σ,st,fl,st',a,aL,rp,e,q⟩:=hq0;refine⟨h0,ρ,σ,st,a,aL,rp,?_⟩;unfold sTry sDrop at e;rw[show((fun _=>g σL:SE) σ st)=g σL st from rfl] at e;cases e0:g σL st with
  | stuck=>rw[e0] at e;cases e
  | ok v st1=>rw[e0] at e;cases e;exact .inl ⟨v,_,rfl,fun ρ1 H1 w x1 rp1 _=>q _ _ _ x1 rp1 (a.ext x1)⟩
  | exc z st1=>rw[e0] at e;exact .inr ⟨z,st1,rfl,zxf hcs a e q⟩
theorem zbcw {tr:Stmt}{s:SS}(h1:PS X tr (tRef X.K f σL τL s))(h2:JB X rest t):PSs X (tr::rest) (tRef X.K f σL τL (sSeq s t)):=zsf (zkv h1 h2.out) fun E τ H hq0=>by
 obtain⟨h0,ρ,σ,st,fl,st',a,aL,rp,e,q⟩:=hq0;refine⟨h0,ρ,σ,st,?_⟩;unfold sSeq at e;split at e
 ·rename_i σ1 st1 e1;exact⟨_,st1,a,aL,rp,e1,fun ρ1 H1 τ1 x1 rp1 a1=>⟨ρ1,σ1,st1,fl,st',a1,rp1,e,q.ext x1⟩⟩
 ·rename_i hne;refine⟨fl,st',a,aL,rp,e,?_⟩;cases fl with
  | nx σ'=>exact absurd e (hne σ' st')
  | brk σ'=>exact q
  | ct σ'=>exact q
  | ret w=>exact q
end
noncomputable def eRefd (F:(Store->Res D)->DFn) (is:List Nat) (lam:SE):SE:=fun σ st=>match (st[0]?:Option O) with
 | some O.tab=>F (lam (startD 0 is σ)) [.ref st.length] (st++[.dead])
 | _=>.stuck
theorem Rep.more {K:Fg}{ρ:Loc}{st:Store}{H:Hp}(r:Rep K ρ st H):Ext ρ H ⟨ρ.m++[none],ρ.g⟩ H/\Rep K ⟨ρ.m++[none],ρ.g⟩ (st++[.dead]) H:=by
 have sub:∀{n:Nat} {a:Addr},(ρ.m++[none])[n]?=some (some a)->ρ.m[n]?=some (some a):=fun {n a} e=>by
  rcases xgu n ρ.m.length with h | h
  ·rwa [xbs h] at e
  ·rw[xcd h] at e;cases z:n - ρ.m.length with
   | zero=>rw[z] at e;cases e
   | succ k=>rw[z] at e;cases e
 have E:Ext ρ H ⟨ρ.m++[none],ρ.g⟩ H:=⟨by simp,fun n a _ e=>sub e,fun a o e m=>⟨e,fun z=>by
  rcases xby.mp z with z | z
  ·exact m z
  ·cases xbn.mp z⟩,rfl,fun _ _ _ e=>e⟩
 refine⟨E,by simp[r.len],fun n m a e1 e2=>r.inj n m a (sub e1) (sub e2),fun n a o e1 e2=>?_,fun a ha=>?_,fun n o e1 e2=>?_⟩
 ·have hn:n < st.length:=by rw[← r.len];exact(xbk.mp (sub e1)).1
  rw[xbs hn] at e2;exact(r.obj n a o (sub e1) e2).ext E rfl
 ·obtain⟨h1,h2⟩:=r.gh a ha
  exact⟨h1,fun z=>by
   rcases xby.mp z with z | z
   ·exact h2 z
   ·cases xbn.mp z⟩
 ·rcases xgu n st.length with h | h
  ·rw[xbs h] at e1;obtain⟨a,q⟩:=r.live n o e1 e2;exact⟨a,by rw[xbs (by rw[r.len];exact h)];exact q⟩
  ·rw[xcd h] at e1;cases z:n - st.length with
   | zero=>rw[z] at e1;cases e1;exact absurd rfl e2
   | succ k=>rw[z] at e1;cases e1
theorem Rep.grew {K:Fg}{ρ:Loc}{st:Store}{H H':Hp}{c T:Addr}(r:Rep K ρ st H)(ht:W.tabIn K "law"=some (c, T))(h0:ρ.m[0]?=some (some T))(h1:st[0]?=some .tab)(hT:∃ ps, H T=some (.tbl ps))(g:Grew T H H'):Ext ρ H ρ H'/\Rep K ρ st H':=by
 obtain⟨ps,hT⟩:=hT;have E:Ext ρ H ρ H':=⟨xbf _,fun _ _ _ e=>e,fun a o e m=>⟨g.old a o e (by rintro rfl;exact m (xcj h0)),m⟩,rfl,fun a ob u e=>g.old a _ e (by rintro rfl;rw[hT] at e;cases e)⟩
 refine⟨E,r.len,r.inj,fun n a o e1 e2=>?_,fun a ha=>?_,r.live⟩
 ·by_cases z:a=T
  ·subst z;obtain rfl:=r.inj n 0 a e1 h0;rw[h1] at e2;cases e2
   exact⟨⟨c,ht⟩,g.tab⟩
  ·have q:=r.obj n a o e1 e2;obtain⟨w,hw⟩:=q.has;exact q.ext E (by rw[hw];exact g.old a w hw z)
 ·obtain⟨⟨vs,e⟩,m⟩:=r.gh a ha;exact⟨⟨vs,g.old a _ e (by rintro rfl;rw[hT] at e;cases e)⟩,m⟩
section
variable {X:Cx}{y:Str}{p pos lp:Pos}{params:Arguments}{body:Expr}{scope stS:Scope}{N NL:List Str}{is:List Nat}{c T fr:Addr}{fdR:FuncData}{stR:Stmt}{x:Str}{k:Nat}{lam:SE}{b:(Store->Res D)->SS}
theorem zbhd {X':Cx}{aA:List (Addr×Obj)}{τ:L2.St}{H:Hp}{s:Shared}{f c':Addr}{ctv:Value}{cl:List (Str×Addr)}(I:Inv X aA τ H s)(S:CompScope X NL 0 is scope)(SL:LamScope scope)(c1:∀x c,cl.lookup x=some c->X.env.cells.lookup x=some c)(c2:∀x,(x,NameKind.free)∈scope.names->∃c,cl.lookup x=some c)(hf:H f=some (.frz (lamO X.mg params body scope cl c' ctv) HX))(hc:∃oc vs t,H c'=some (.frz oc HX)/\oc.data=.fields vs/\vs[1]?=some (.str lamQ t))
  (e1:X'.s₀=s)(e2:X'.H₀=H)(e3:X'.prog=X.prog)(e4:X'.w=X.w)(e5:X'.K=X.K)(e6:X'.mg=X.mg)(e7:X'.base=X.base)(e8:X'.ex=[])(hr:Room (k + 1) X'.A)(hb:∀ pm cd ct, bindArgs (W.kla_fn "<lambda>" lamQ params body scope cl pm cd ct) ⟨[],[]⟩=pure [])
  (hlam:∀f cd cl A outer s H E,Room k (A.deeper (W.envX lamQ scope s.heap.objs.size f cd cl))->JX (cxL X.prog X.w X.K X.mg X.base NL lamQ scope f cd cl A outer s H E) (fun _ c dx H=>E c dx H) body lam):Thk X' f (startC 0 is τ) lam:=by
 have get:∀{aA τ' H' s'},Inv X' aA τ' H' s'->∀{a o},H a=some (.frz o HX)->s'.heap.get? a=some o:=fun J a o e=>by
  have e':X'.H₀ a=some (.frz o HX):=by rw[e2];exact e
  exact(J.hok a _ (J.base.frzs a o HX e')).1
 refine⟨fun pins' τ' H' s' J=>?_,fun pins' τ' H' s' E Q J hq=>?_⟩
 ·exact⟨_,_,_,_,get J hf⟩
 obtain⟨oc,vs,t,h1,h2,h3⟩:=hc;have kp:KeptL scope NL cl (startC 0 is τ) s' H':=by
  have cel:∀{c v},s.heap.IsCell c v->H c=none->s'.heap.IsCell c v/\H' c=none:=fun {c v} hq0 n=>by
   obtain⟨o,a,d⟩:=hq0;obtain⟨sl,z⟩:=J.base.any (b:=c) (ob:=o) (by rw[e1];exact a) (by rw[e2];exact n) (by rw[e8];simp);exact⟨⟨_,z,d⟩,J.base.free c o (by rw[e1];exact a) (by rw[e2];exact n) (by rw[e8];simp)⟩
  refine⟨fun x y c h1 h2=>I.ok.inj x y c (c1 x c h1) (c1 y c h2),c2,fun x c h=>?_,fun i x v a b=>?_,?_⟩
  ·obtain⟨v,z⟩:=I.cell x c (c1 x c h);have w:=cel z (I.freeC x c (c1 x c h));exact⟨⟨v,w.1⟩,w.2⟩
  ·have b':(is.map fun i=>(τ[i]?).getD none)[i]?=some (some v):=b;rw[xcl] at b';cases ej:is[i]? with
   | none=>rw[ej] at b';cases b'
   | some j =>
    rw[ej] at b';have b2:(τ[j]?).getD none=some v:=xbw b';obtain⟨z,y1,y2,y3⟩:=S.own i j ej;rw[xdu,a] at y1;cases y1;have b3:τ[j]?=some (some v):=by
     cases q:τ[j]? with
     | none=>rw[q] at b2;cases b2
     | some o=>rw[q] at b2;exact congrArg some b2
    have kd:=S.frees _ (zdd y3) rfl;obtain⟨m,_,hl⟩:=I.loc;obtain⟨u,r,lk⟩:=hl j x v y2 b3 (.inr kd);refine⟨y3,?_⟩;rcases lk with⟨q,_⟩ | ⟨_,c,e5',cc⟩
    ·rcases kd with w | w<;>(rw[w] at q;cases q)
    ·obtain⟨c'',e6'⟩:=c2 x (zdd y3);have z:=c1 x c'' e6';rw[e5'] at z;cases z;exact⟨c,u,e6',(cel cc (I.freeC x c e5')).1,r⟩
  ·show(is.map fun i=>(τ[i]?).getD none).length=NL.length;rw[xbe,S.len,xdu]
 have hcr:s'.heap.CodeRec (.ref c') lamQ:=⟨c',oc,vs,t,rfl,get J h1,h2,h3⟩
 have e0:=J.env0;rw[e3,e4,e5,e6,e7] at e0;rw[e3,e4];rw[e5] at hq;exact zbad SL hr e0 kp (get J hf) rfl hcr (hb _ _ _) (hlam f (.ref c') cl X'.A X'.stack s' H' E (hr.deeper _)).out hq
theorem zbfo (C:W.CodeHd X.base c T)(ht:W.tabIn X.K "law"=some (c, T))(Bm:BmOk X.mg X.base)(hcode:X.env.code=.ref c)(hqu:X.env.qual++"<lambda>"=lamQ)(hg:Gl X y)(hm:X.mg y=some (.ref fr))(F:Fun X.K y y stR fr fdR)(SF:FnScope N [x] (defScope stR))
  (bd:∀(kV doc pm:Value) (an:Option Addr) (cdv ct:Value) (us:List Value),us.length=[x].length->bindArgs (W.fnOf y y (defArgs stR) (defBody stR) (defScope stR) .none kV doc pm an cdv ct) ⟨us,[]⟩=pure ([x].zip us))
  (hr:Room (k + 2) X.A)(hdef:defaultsOf params X.env=([],[]))(S:CompScope X NL 0 is scope)(SL:LamScope scope)(hb:∀ cl pm cd ct, bindArgs (W.kla_fn "<lambda>" lamQ params body scope cl pm cd ct) ⟨[],[]⟩=pure [])
  (hbody:∀(cdv:Value) (A:Around) (outer:List Env) (s:Shared) (H:Hp) (E:XK) (f:Addr) (σL:DS) (τL:L2.St) (g:SE),Room (k+1) (A.deeper (envOfC y (defScope stR) s.heap.objs.size fr cdv)) ->
   (∀E' pn,Thk ((cxOf CX0 X.prog X.w X.K X.mg X.base N y (defScope stR) fr cdv A outer s H E).nox.tryc E' pn) f τL g)->PSs (cxOf CX0 X.prog X.w X.K X.mg X.base N y (defScope stR) fr cdv A outer s H E).nox (defBody stR) (tRef X.K f σL τL (b (g σL))))
  (hlam:∀f cd cl A outer s H E,Room k (A.deeper (W.envX lamQ scope s.heap.objs.size f cd cl))->JX (cxL X.prog X.w X.K X.mg X.base NL lamQ scope f cd cl A outer s H E) (fun _ c dx H=>E c dx H) body lam)
  (hdb:(y==("__debug__" : Str))=false:=by decide)(he:starEach [.Lambda params body scope lp] X.env=(false, eval (.Lambda params body scope lp) X.env)::starEach [] X.env:=by rfl)(hpl:(backTo pos (starEach [] X.env)).any (·.1)=false:=by rfl) :
  JE X (.Call (.Name y p) [.Lambda params body scope lp] [] pos) (eRefd (fun g=>fnD N.length 1 (b g)) is lam):=by
 refine⟨fun aA s τ H Q I ⟨ρ,σ,st,v,st',a,rp,e,q⟩=>?_⟩;unfold eRefd at e;split at e
 case h_2=>cases e
 case h_1 h0 =>
 obtain⟨T',m0⟩:=rp.live 0 .tab h0 (by intro z;cases z);obtain⟨⟨c2,ht2⟩,ps,hT,ok⟩:=rp.obj 0 T' .tab m0 h0;rw[ht] at ht2;cases ht2;refine xfm (ziw I hg hm ?_ hdb)
 refine xiv (h₀:=X.base) I.ok.mod.kin F.kp (thn ((zkc (zbic S C Bm hcode hqu hdef) zvi he:PA X [.Lambda params body scope lp] _) pos aA s τ H (fun vs H1=>∃f c' ctv cl,vs=[.ref f]/\(∀x c,cl.lookup x=some c->X.env.cells.lookup x=some c)/\(∀x,(x,NameKind.free)∈scope.names->∃c,cl.lookup x=some c)/\Grew T H H1/\H1 f=some (.frz (lamO X.mg params body scope cl c' ctv) HX)/\∃oc vs t,H1 c'=some (.frz oc HX)/\oc.data=.fields vs/\vs[1]?=some (.str lamQ t)) I
  ⟨ps,hT,ok,fun f c' ctv cl H' c1 c2 gr h1 _ h3=>⟨f,c',ctv,cl,rfl,c1,c2,gr,h1,h3⟩⟩) fun us s1 ⟨vs,H1,I1,r,f,c',ctv,cl,hvs,c1,c2,gr,hf,hc⟩=>⟨I1.kIn,?_⟩) he hpl
 subst hvs;obtain⟨x1,rp1⟩:=rp.grew ht m0 h0 ⟨ps,hT⟩ gr;obtain⟨x2,rp2⟩:=rp1.more;obtain⟨oc,od,kV,doc,pm,an,cdv,ct,osl,rfl,lk,hcd⟩:=F.ex;have aL:AtS X.K ⟨ρ.m++[none],ρ.g⟩ H1 (startD 0 is σ) (startC 0 is τ):=((a.ext x1).ext x2).start 0 is;have thk:∀E' pn,Thk ((cxOf CX0 X.prog X.w X.K X.mg X.base N y (defScope stR) fr cdv X.A X.stack s1 H1 E0).nox.tryc E' pn) f (startC 0 is τ) lam:=fun E' pn=>zbhd (k:=k) I1 S SL c1 c2 hf hc rfl rfl rfl rfl rfl rfl rfl rfl (hr.deeper _) (hb cl) hlam
 have bod:=hbody cdv X.A X.stack s1 H1 E0 f (startD 0 is σ) (startC 0 is τ) lam (hr.deeper _) thk;have hl:us.length=1:=by have:=r.length;simpa using this.symm
 replace e:fnD N.length 1 (b (lam (startD 0 is σ))) [D.ref st.length] (st++[.dead])=.ok v st':=e;unfold fnD at e;rw[if_pos (show[D.ref st.length].length=1 from rfl)] at e;have as:AtS X.K ⟨ρ.m++[none],ρ.g⟩ H1 ([D.ref st.length].map Option.some++List.replicate (N.length - 1) none) (L2.start N [.ref f]):=by
  unfold L2.start;refine AtS.append (AtAll.some (.cons (.ref ?_ fun a z=>?_) .nil)) (.nones _)
  ·rw[← rp.len];simp
  ·rw[← rp.len,xcd (xbf _),xhu] at z;cases z
 refine xgs (xhx (zbgb (k:=k+1) (E:=E0) (Q:=Q) lk hcd SF hr I1.env0 (.of_eq (bd kV doc pm an cdv ct us hl)) r rfl bod.nox ?_) fun r s' hq=>?_)
 ·refine⟨by unfold L2.start;rfl,⟨ρ.m++[none],ρ.g⟩,[D.ref st.length].map Option.some++List.replicate (N.length - 1) none,st++[.dead],?_⟩;cases hres:b (lam (startD 0 is σ)) ([D.ref st.length].map Option.some++List.replicate (N.length - 1) none) (st++[.dead]) with
  | stuck=>rw[hres] at e;cases e
  | exc z w=>rw[hres] at e;cases e
  | ok fl st1 =>
   rw[hres] at e;have xx:=x1.trans x2;cases fl with
   | ret w=>dsimp only at e;cases e;exact⟨.ret v,_,as,aL,rp2,rfl,fun ρ' H' u x r t=>q ρ' H' u (xx.trans x) r t⟩
   | nx σ2=>dsimp only at e;cases e;exact⟨.nx σ2,_,as,aL,rp2,rfl,fun ρ' H' τ x r t=>q ρ' H' .non (xx.trans x) r .non⟩
   | brk σ=>cases e
   | ct σ=>cases e
 ·cases r with
  | error er=>exact False.elim hq
  | ok fl =>
   cases fl with
   | ret u=>exact I1.after hq
   | next=>exact False.elim hq
   | brk=>exact False.elim hq
   | cont=>exact False.elim hq
end
end Dd
namespace L2
open PySem PySem.Spec PyProof.Rows
noncomputable def isT:Value->Bool
 | .bool b=>b==true
 | _=>false
theorem zrk:∀{bs:List Bool} {us:List Value},Vals (bs.map V.bl) us->us=bs.map Value.bool
 | [],_,.nil=>rfl
 | b::bs,_,.cons r t=>by rw[zrk t];cases(show _=Value.bool b from r);rfl
theorem zpg:∀bs:List Bool,(bs.map Value.bool).countP isT=bs.count true
 | []=>rfl
 | b::bs=>by rw[xbp,List.countP_cons,List.count_cons,zpg bs];rfl
theorem eqT {A:Around}{s:Shared}{bs:List Bool}:∀y,y∈(bs.map Value.bool).toArray->SeqAt.EqAt A s y (.bool true) (isT y):=fun y hy=>by
 obtain⟨b,_,rfl⟩:=xdj.mp (by simpa using hy:y∈bs.map Value.bool);exact SeqAt.EqAt.bool_bool b true
noncomputable def rCountB (K:Fg):V->List V->Hp->VK->Prop:=fun x vs H Q=>∃(l:Addr) (bs:List Bool),x=.ref l/\vs=[.bl true]/\SqL K H l (bs.map V.bl)/\Q (.int (bs.count true:Nat)) H
theorem zvt {X:Cx}:MtM X "list.count" (rCountB X.K):=by
 intro aA s σ H x vs v us Q I rx rv h;obtain⟨l,bs,rfl,rfl,hl,q⟩:=h;cases rx;obtain⟨u,rfl,ru⟩:=rv.one;cases(show u=Value.bool true from ru);obtain⟨its,r,pl,_⟩:=I.list hl;obtain rfl:=zrk r;obtain⟨⟨cls,dd,data,sl⟩,ho,hc,n,hd⟩:=id pl.isList;simp only at hc hd;subst hc hd;refine xii F.slot_list_count ⟨_,ho,rfl⟩ F.entry_list_count (F.args_list_count_2 _ _) (SeqAt.list_countAt l (bs.map Value.bool).toArray n dd sl (.bool true) isT) ⟨ho,eqT,?_⟩;rw[show(bs.map Value.bool).toArray.toList=bs.map Value.bool from rfl,zpg];exact⟨.int _,H,I.tok _,⟨_,rfl⟩,q⟩
noncomputable def rIndexB (K:Fg):V->List V->Hp->VK->Prop:=fun x vs H Q=>∃(l:Addr) (bs:List Bool),x=.ref l/\vs=[.bl true]/\SqL K H l (bs.map V.bl)/\true∈bs/\bs.length<=1000/\Q (.int (bs.idxOf true:Nat)) H
theorem zvs {X:Cx}:MtM X "list.index" (rIndexB X.K):=by
 intro aA s σ H x vs v us Q I rx rv h;obtain⟨l,bs,rfl,rfl,hl,hm,hz,q⟩:=h;cases rx;obtain⟨u,rfl,ru⟩:=rv.one;cases(show u=Value.bool true from ru);obtain⟨its,r,pl,_⟩:=I.list hl;obtain rfl:=zrk r;obtain⟨⟨cls,dd,data,sl⟩,ho,hc,n,hd⟩:=id pl.isList;simp only at hc hd;subst hc hd;have hj:bs.idxOf true < bs.length:=List.idxOf_lt_length_iff.mpr hm;refine xii F.slot_list_index ⟨_,ho,rfl⟩ F.entry_list_index (F.args_list_index_2 _ _) (SeqAt.list_indexAt l (bs.map Value.bool).toArray n dd sl (.bool true) isT (bs.idxOf true) (by simpa using hj) (by lia) ?_ ?_) ⟨ho,eqT,⟨.int _,H,I.tok _,⟨_,rfl⟩,q⟩⟩
 ·have e:bs[bs.idxOf true]=true:=List.getElem_idxOf hj;simp[isT,e]
 ·intro j hjs hlt;have e:=List.not_of_lt_findIdx (p:=(·==true)) (xs:=bs) (i:=j) hlt;simp[isT]
  simpa using e
end L2
namespace Dd
open PySem L2 PyProof.Rows
noncomputable def eWithB (k:List Bool->Res D->Res D) (c:List Bool->Nat) (f:SE) (g:SA):SE:=fun σ st=>(f σ st).bind fun x st1=>match asL st1 x with
 | some _=>(g σ st1).bind fun ys st2=>match ys,(asL st2 x).bind asBools with
  | [.bl true],some bs=>k bs (.ok (.int (c bs:Nat)) st2)
  | _,_=>.stuck
 | _=>.stuck
noncomputable abbrev eCountB:SE->SA->SE:=eWithB (fun _ r=>r) (fun bs=>bs.count true)
noncomputable abbrev eIndexB:SE->SA->SE:=eWithB (fun bs r=>if true∈bs/\bs.length<=1000 then r else .stuck) (fun bs=>bs.idxOf true)
section
variable {X:Cx}{o e:Expr}{es:List Expr}{f:SE}{ga:SA}{apos cpos:Pos}
theorem zxd {K:Fg}{k:List Bool->Res D->Res D}{c:List Bool->Nat}{r:V->List V->Hp->VK->Prop}(hk:∀bs st v st',k bs (.ok (.int (c bs:Nat)) st)=.ok v st'->v=.int (c bs:Nat)/\st'=st/\∀p H (Q:VK),SqL K H p (bs.map V.bl)->Q (.int (c bs:Nat)) H->r (.ref p) [.bl true] H Q) :
  ∀ τ H Q, tD K (eWithB k c f ga) τ H Q->tBM K "list" r (tD K f) (tDA K ga) τ H Q:=fun τ H Q hq0=>by
 obtain⟨ρ,σ,st,v,st',a,rp,e,q⟩:=hq0;obtain⟨x,st1,e1,e⟩:=zd e;refine⟨ρ,σ,st,x,st1,a,rp,e1,fun ρ1 H1 u x1 rp1 a1=>?_⟩;split at e
 ·rename_i hL;obtain⟨ys,st2,e2,e⟩:=zd e;obtain⟨p,vs,rfl,g1,g2⟩:=zhl rp1 a1 hL;refine⟨.inl ⟨rfl,_,SqL.of g1⟩,ρ1,σ,st1,ys,st2,a.ext x1,rp1,e2,fun ρ2 H2 ws x2 rp2 a2=>?_⟩;split at e
  ·rename_i bs hn;obtain⟨rfl,rfl,hr⟩:=hk _ _ _ _ e;obtain⟨zs,h0,hn⟩:=xes.mp hn;obtain⟨w,rfl,a3⟩:=a2.one;cases a3;obtain⟨p',vs2,ep,k1,k2⟩:=zhl rp2 (a1.ext x2) h0;cases ep;have e:=zjf k2 hn;subst e;exact hr p H2 _ (SqL.of k1) (q _ _ _ (x1.trans x2) rp2 (.int _))
  ·cases e
 ·cases e
theorem zwt (ho:JE X o f)(ha:JA X (e::es) ga)(hbase:attributeBase o "count" X.env (eval o X.env)=eval o X.env:=by rfl)
 (hfew:((backTo cpos (starEach (e::es) X.env)).all (fun x=>!x.1)&&(backToKw cpos (keywordEach [] X.env)).all (fun x=>x.1.isSome)
  && decide ((e::es).length+([]:List Keyword).length+(if([]:List Keyword).isEmpty then 0 else 1) < 30))=true:=by rfl)
 (hline:(apos.endLine==cpos.line)=true:=by rfl)(hs:starEach (e::es) X.env=(false,eval e X.env)::starEach es X.env:=by rfl)(hplain:(backTo cpos (starEach es X.env)).any (·.1)=false:=by rfl) :
 JE X (.Call (.Attribute o "count" apos) (e::es) [] cpos) (eCountB f ga):=⟨zgh (zbgq xjh F.slot_list_count F.type_list_count zvt ho.out ha.out hbase hfew hline hs hplain) (zxd fun bs st v st' h=>by cases h; exact⟨rfl, rfl, fun p H Q hs q=>⟨p, bs, rfl, rfl, hs, q⟩⟩)⟩
theorem zwr (ho:JE X o f)(ha:JA X (e::es) ga)(hbase:attributeBase o "index" X.env (eval o X.env)=eval o X.env:=by rfl)
  (hfew:((backTo cpos (starEach (e::es) X.env)).all (fun x=>!x.1)&&(backToKw cpos (keywordEach [] X.env)).all (fun x=>x.1.isSome)
   && decide ((e::es).length+([]:List Keyword).length+(if([]:List Keyword).isEmpty then 0 else 1) < 30))=true:=by rfl)
  (hline:(apos.endLine==cpos.line)=true:=by rfl)(hs:starEach (e::es) X.env=(false,eval e X.env)::starEach es X.env:=by rfl)(hplain:(backTo cpos (starEach es X.env)).any (·.1)=false:=by rfl) :
  JE X (.Call (.Attribute o "index" apos) (e::es) [] cpos) (eIndexB f ga):=⟨zgh (zbgq xjh F.slot_list_index F.type_list_index zvs ho.out ha.out hbase hfew hline hs hplain) (zxd fun bs st v st' h=>by
 split at h
 ·next z=>cases h;exact⟨rfl,rfl,fun p H Q hs q=>⟨p,bs,rfl,rfl,hs,z.1,z.2,q⟩⟩
 ·cases h)⟩
end
end Dd
namespace L2
open PySem PySem.Spec PyProof.Rows
theorem zvz {P:Program}{w:World}{K:Fg}{mg mb:Str->Option Value}{k:Nat}{fa a T c:Addr}{fd:FuncData}{x:Str}{sp:Sp}{s₁:Shared}{vs:List Value}{ns:List Int}
  (KX:K.In s₁.heap)(hns:s₁.heap.Ns mainGlobals mg)(hb:s₁.heap.Ns builtinsNs mb)(hbb:∀ x:Str, x≠"__name__"->mb x=bootBuiltins x)(hlim:s₁.heap.NoLimit)(hg:s₁.gens=#[])
  (ha:s₁.heap.get? a=some { cls:=.type "list", data:=.seq vs.toArray })(hi:IntsAre vs ns)(hl:ns.length<=sizeLine)(hr:Room k callerA)(CT:W.CodeHd s₁.heap c T)(hT:s₁.heap.get? T=some (W.tabObj #[]))(hKT:K.lookup T=none)(hbm:BmOk mg s₁.heap)
  (F:∀base:Heap,K.In base->base.Ns mainGlobals mg->W.CodeHd base c T->BmOk mg base->FnOk P w K mg base CX0 k fa fd [x] sp)(hbind:∀(s:Shared) (u:Value),BindsTo s fd ⟨[u],[]⟩ [(x,u)])
  (hsp:∀H:Hp,H T=some (.tbl #[])->SqL K H a (ns.map V.int)->sp [.ref a] H (fun v _=>v=.bl true) fun _ _ _=>False) :
  codeAny (model P w) callerA (.call (.ref fa) ⟨[.ref a],[]⟩) (fun r s'=>r=.ok (.ret (.bool true))/\OldK s₁.heap s'.heap/\s'.os=s₁.os/\AllBare s'.gens) s₁:=by
 have rv:=zon hi;have lenV:=hi.length;have aT:a≠T:=by rintro rfl;rw[ha] at hT;cases hT
 have core:∀H:Hp,H T=some (.tbl #[])->SqL K H a (ns.map V.int)->HOk P w H s₁.heap->(∀b,H b≠none->b=T\/(b=a/\K.lookup a=none/\∃o xs,H a=some (.frz o (.lst xs)))) ->
   codeAny (model P w) callerA (.call (.ref fa) ⟨[.ref a],[]⟩) (fun r s'=>r=.ok (.ret (.bool true))/\OldK s₁.heap s'.heap/\s'.os=s₁.os/\AllBare s'.gens) s₁:=by
  intro H hHT hS hok hA;have none_of:∀{b:Addr} {o:Obj},s₁.heap.get? b=some o->(∀z,o.data≠.fields z)->(∀z n,o.data≠.seq z n)->H b=none:=fun {b o} e n1 n2=>by
   cases q:H b with
   | none=>rfl
   | some u =>
    rcases hA b (by rw[q];simp) with rfl | ⟨rfl,_⟩
    ·rw[hT] at e;cases e;exact absurd rfl (n1 _)
    ·rw[ha] at e;cases e;exact absurd rfl (n2 _ _)
  have base_of:∀{b:Addr} {o:Obj},s₁.heap.get? b=some o->H b=none->(hidT s₁.heap H).get? b=some o:=fun e n=>zbaj e n
  have nsK:∀{b:Addr} {m:Str->Option Value},s₁.heap.Ns b m->(hidT s₁.heap H).Ns b m:=fun {b m} ⟨o,es,ep,e,d,r⟩=>⟨o,es,ep,base_of e (none_of e (by intro z q;rw[d] at q;cases q) (by intro z n q;rw[d] at q;cases q)),d,r⟩
  have hKb:K.In (hidT s₁.heap H):=fun b o e=>base_of (KX b o e) (by
   cases q:H b with
   | none=>rfl
   | some u =>
    rcases hA b (by rw[q];simp) with rfl | ⟨rfl,n,_⟩
    ·rw[hKT] at e;cases e
    ·rw[n] at e;cases e)
  have hM:Mod K mg (hidT s₁.heap H):=⟨hKb,nsK hns,⟨mb,nsK hb,hbb⟩,let ⟨mc,h1,h2⟩:=hlim;⟨mc,nsK h1,h2⟩⟩
  have e0:Env0 P w K mg (hidT s₁.heap H) callerA [] s₁ H:=⟨rfl,hM,fun b o e=>zbdv e,xdb (zwe _ _),trivial,fun b hb=>absurd (show b∈([]:List Addr) from hb) (by simp),hok,.of_eq hg⟩
  have CT':W.CodeHd (hidT s₁.heap H) c T:=by
   obtain⟨o,vs',file,tf,flags,tg,inF,text,tt,e1,r1,r2,r3,r4,r5,r6,r7,r8,hne⟩:=CT;refine⟨o,vs',file,tf,flags,tg,inF,text,tt,base_of e1 ?_,r1,r2,r3,r4,r5,r6,r7,r8,hne⟩;cases q:H c with
   | none=>rfl
   | some u =>
    rcases hA c (by rw[q];simp) with z | ⟨z,_⟩
    ·exact absurd z hne
    ·rw[z,ha] at e1;cases e1;cases r2
  have bm':BmOk mg (hidT s₁.heap H):=by
   obtain⟨bm,ob,b1,b2,b3,b4,b5,b6⟩:=hbm;exact⟨bm,ob,b1,b2,base_of b3 (none_of b3 (by intro z q;rw[b6] at q;cases q) (by intro z n q;rw[b6] at q;cases q)),b4,b5,b6⟩
  refine xhx ((F _ hKb (nsK hns) CT' bm').run callerA [] s₁ H ⟨[.ref a],[]⟩ [.ref a] [.ref a] _ _ hr e0 (hbind s₁ (.ref a)) (.cons rfl .nil) (hsp H hHT hS)) fun r s' h=>?_
  cases r with
  | error e=>exact False.elim h
  | ok fl =>
   cases fl with
   | next=>exact False.elim h
   | brk=>exact False.elim h
   | cont=>exact False.elim h
   | ret u =>
    obtain⟨v,H',os,bare,un,hok',r',q⟩:=h;have q':v=.bl true:=q;subst q';obtain rfl:u=Value.bool true:=r';have key:∀b o,s₁.heap.get? b=some o->b≠T->s'.heap.get? b=some o:=fun b o e n=>by
     cases q:H b with
     | none=>exact un.keep b o e q (by intro z;exact absurd (show b∈([]:List Addr) from z) (by simp)) (by simp)
     | some u =>
      rcases hA b (by rw[q];simp) with z | ⟨rfl,_,ob,xs,z⟩
      ·exact absurd z n
      ·have z2:=un.frzs b ob _ z;obtain⟨e1,_⟩:=hok b _ z;obtain⟨e2,_⟩:=hok' b _ z2;rw[e] at e1;cases e1
       exact e2
    obtain⟨more,z⟩:=un.tbls T #[] hHT;have gT:s'.heap.get? T=some {cls:=.none,data:=.fields (#[]++more)}:=hok' T _ z;refine⟨rfl,⟨fun b o e=>?_,fun b o e=>?_⟩,os,bare⟩
    ·by_cases n:b=T
     ·subst n;rw[hT] at e;cases e
      exact .inr (.inl ⟨(CT.tab hT).isCodeTable,rfl,#[],more,rfl,gT⟩)
     ·exact .inl (key b o e n)
    ·by_cases n:b=T
     ·subst n;exact⟨_,gT⟩
     ·exact⟨o,key b o e n⟩
 have okT:∀H:Hp,ObjOk P w H s₁.heap T (.tbl #[]):=fun H=>hT
 cases hk:K.lookup a with
 | some o =>
  have e:=KX a o hk;rw[ha] at e;cases e;refine core (fun b=>if b=T then some (.tbl #[]) else none) (if_pos rfl) (.inr ⟨_,vs.toArray,_,hk,rfl,rfl,rfl,by rw[xbt,lenV];exact hl,by simpa using rv⟩) (fun b u z=>?_) (fun b z=>?_)
  ·by_cases hb:b=T
   ·have z':=(if_pos hb).symm.trans z;cases z';subst hb;exact okT _
   ·have z':=(if_neg hb).symm.trans z;cases z'
  ·by_cases hb:b=T
   ·exact .inl hb
   ·exact absurd (if_neg hb) z
 | none =>
  have hTn:(fun b=>if b=T then some (.tbl #[]) else if b=a then some (.frz { cls:=.type "list", data:=.seq vs.toArray } (.lst (ns.map V.int))) else none:Hp) a=some (.frz { cls:=.type "list", data:=.seq vs.toArray } (.lst (ns.map V.int))):=by
   show(if a=T then _ else if a=a then _ else _)=_;rw[if_neg aT,if_pos rfl]
  refine core (fun b=>if b=T then some (.tbl #[]) else if b=a then some (.frz { cls:=.type "list", data:=.seq vs.toArray } (.lst (ns.map V.int))) else none) (if_pos rfl) (.inl (.inr ⟨{ cls:=.type "list", data:=.seq vs.toArray }, hTn⟩)) (fun b u z=>?_) (fun b z=>?_)
  ·by_cases hb:b=T
   ·have z':=(if_pos hb).symm.trans z;cases z';subst hb;exact okT _
   ·have z1:=(if_neg hb).symm.trans z;by_cases hb2:b=a
    ·have z':=(if_pos hb2).symm.trans z1;cases z';subst hb2;exact⟨ha,by rw[xbe];exact hl,vs,_,rv,ha⟩
    ·have z':=(if_neg hb2).symm.trans z1;cases z'
  ·by_cases hb:b=T
   ·exact .inl hb
   ·by_cases hb2:b=a
    ·exact .inr ⟨hb2,hk,_,_,hTn⟩
    ·exact absurd ((if_neg hb).trans (if_neg hb2)) z
structure LawTab (K:Fg) (ts:List Addr) (c T:Addr):Prop where
 tin:W.tabIn K "law"=some (c, T)
 hd:W.codeHdIn K c T=true
 mem:T∈ts
 out:K.lookup T=none
theorem zvy {K:Fg}{ts:List Addr}{f c T:Addr}{oc oc2:Value}{od od2:Option Addr}{fd:FuncData}{sl sl2:Array (Option Value)}{vs:Array Value}(a:W.nsIn K mainGlobals "law"=some (some (.ref f)))(l:K.lookup f=some ⟨oc, od, .func fd, sl⟩)(hc:fd.code=.ref c)(lc:K.lookup c=some ⟨oc2, od2, .fields vs, sl2⟩)(hv:vs[11]?=some (.ref T))
  (hd:W.codeHdIn K c T=true)(mem:T∈ts)(out:K.lookup T=none):LawTab K ts c T/\fd.code=.ref c:=by
 refine⟨⟨?_,hd,mem,out⟩,hc⟩;unfold W.tabIn;rw[a];dsimp only;rw[l];dsimp only;rw[hc];dsimp only;rw[lc];dsimp only;rw[hv]
theorem zyo {l:W.OpenLaw}{n k:Nat}{q:Program}{loose:List Str}{XP:(Str->Option Value)->Heap->Prop}{YP:World->Heap->Prop}{d:DefRec}{K:Params->Fg}{ts:List Addr}{sp:Fg->Addr->Sp}{x:Str}
  (hn:l.most=some n)(hn2:n<=sizeLine)(hdf:d.params.defaults=[])(hr:Room k callerA)
  (hY:∀(w:World) (h:Heap),YP w h->(K w.params).In h)(hts:∀(w:World) (h:Heap),YP w h->∀P∈ts,h.get? P=some (W.tabObj #[]))
  (F:∀(w:World) (mg:Str->Option Value) (fa:Addr) (h:Heap),(K w.params).In h->h.Ns mainGlobals mg->mg d.name=some (.ref fa) ->
   ∃(c T:Addr) (fd:FuncData),LawTab (K w.params) ts c T/\(∀(s:Shared) (u:Value),BindsTo s fd ⟨[u],[]⟩ [(x,u)]) /\
    ∀base:Heap,(K w.params).In base->base.Ns mainGlobals mg->W.CodeHd base c T->BmOk mg base->FnOk l.prog w (K w.params) mg base CX0 k fa fd [x] (sp (K w.params) T))
  (hsp:∀(K:Fg) (c T:Addr) (H:Hp) (a:Addr) (ns:List Int), W.tabIn K "law"=some (c, T)->ns.length<=n->H T=some (.tbl #[])->SqL K H a (ns.map V.int)->sp K T [.ref a] H (fun v _=>v=.bl true) fun _ _ _=>False) :
  W.WalkO q loose XP YP l.row.toRowW d [] (fun f vs=>PySem.call f vs):=by
 refine Att.attach_call hn hdf fun w s₀ s₁ mg mb fa o pm cd doc a vs ns G Y ho hd hcd hmg hobj hints hlen hg=>?_
 have KX:=hY w _ Y;obtain⟨c,T,fd,LT,hb,hF⟩:=F w mg fa _ KX G.T.g hmg;exact zvz KX G.T.g G.T.b G.T.builtins G.T.nolimit hg hobj hints (xbb hlen hn2) hr (W.codeHd_of_K KX LT.hd) (hts w _ Y T LT.mem) LT.out G.T.bmain hF hb (fun H hT hS=>hsp _ c T H a ns LT.tin hlen hT hS)
end L2
namespace Dd
open PySem L2 PyProof.Rows
noncomputable def spLawT (K:Fg) (T:Addr):Sp:=fun vs H Q _=>∃(a:Addr) (ns:List Int), vs=[.ref a]/\SqL K H a (ns.map V.int)/\ns.length<=63/\H T=some (.tbl #[])/\(∃ c, W.tabIn K "law"=some (c, T))/\∀ H', Q (.bl true) H'
theorem zbee {P:Program}{w:World}{K:Fg}{mg:Str->Option Value}{base:Heap}{st:Stmt}{N ps:List Str}{k:Nat}{b:SS}{f T:Addr}{fd:FuncData}(F:Fun K "law" "law" st f fd)(S:FnScope N ps (defScope st))(hp:ps.length=1)
  (hbody:∀(cdv:Value) (A:Around) (outer:List Env) (s:Shared) (H:Hp) (E:XK), fd.code=cdv->Room k (A.deeper (envOfC "law" (defScope st) s.heap.objs.size f cdv)) ->
   JB (cxOf CX0 P w K mg base N "law" (defScope st) f cdv A outer s H E).nox (defBody st) b)
  (holds:∀ns:List Int,ns.length<=63->∃st',fnD N.length 1 b [.scr (ns.map .int)] [.tab]=.ok (.bl true) st'):FnOk P w K mg base CX0 (k+1) f fd ps (spLawT K T):=by
 obtain⟨oc,od,kV,doc,pm,an,cdv,ct,osl,rfl,lk,hcd⟩:=F.ex;refine zbjd lk hcd S (fun vs H Q E hh=>?_) fun A outer s H vs Q E hr hh=>⟨_,(hbody cdv A outer s H E rfl hr).out.nox,?_⟩
 ·obtain⟨a,ns,rfl,_⟩:=hh;exact hp.symm
 ·obtain⟨a,ns,rfl,hS,hl,hT,⟨c,ht⟩,q⟩:=hh;obtain⟨st',e⟩:=holds ns hl;refine zbgf (np:=1) (E:=E) ⟨⟨[some T],[]⟩,[.scr (ns.map .int)],[.tab],_,st',.cons (.scr ?_ (zlc ns)) .nil,⟨rfl,fun n m a e1 e2=>?_,fun n a o e1 e2=>?_,fun a h=>(by cases h),fun n o e1 _=>?_⟩,e,rfl,fun ρ' H' u x r t=>?_⟩
  ·rcases hS with h | h
   ·refine .inl ⟨h,?_,by simp⟩;intro z;have z':a=T:=xbw (xbn.mp z);subst z';rcases h with h | ⟨o,h⟩<;>(rw[hT] at h;cases h)
   ·exact .inr fun H'=>.inr h
  ·cases n with
   | zero=>cases m with
    | zero=>rfl
    | succ m=>cases e2
   | succ n=>cases e1
  ·cases n with
   | zero =>
    cases e1;cases e2
    exact⟨⟨c,ht⟩,#[],hT,trivial,fun pos cv z=>by cases z⟩
   | succ n=>cases e1
  ·cases n with
   | zero=>exact⟨T,rfl⟩
   | succ n=>cases e1
  ·cases t;exact q H'
structure JR (X:Cx) (f:Addr) (σL:DS) (τL:L2.St) (s:Stmt) (b:SS):Prop where out:PS X s (tRef X.K f σL τL b)
structure JRB (X:Cx) (f:Addr) (σL:DS) (τL:L2.St) (s:List Stmt) (b:SS):Prop where out:PSs X s (tRef X.K f σL τL b)
section
variable {X:Cx}{R:RXT}{f:Addr}{σL:DS}{τL:L2.St}{g:SE}{x n y:Str}{p pos pos2 xp hp:Pos}{B:Addr}{i:Nat}{cs:List Str}{b0:Stmt}{suite rest:List Stmt}{u t:SS}
theorem zbjv {tp:Pos}{G:Store->Res D}(hc:X.calm=true)(st0:X.stack=X.env::X.outer)(fr:X.env.frame=some X.env.locals)(hN:X.N.Nodup)(hi:X.N[i]?=some n)(hn:X.env.kindOf n=some .local)(hg:Gl X y)(hB:W.nsIn X.K mainGlobals y=some (some (.ref B)))
 (hcs:∀c∈cs,∀C,W.nsIn X.K mainGlobals c=some (some (.ref C))->W.exmOne X.K (.ref C) (.ref B)=some true)(T:∀E pn,Thk (X.tryc E pn) f τL g)(hG:g σL=G)(hv:∀E pn,PE (X.tryc E pn) (.Name x p) (tVar 0))
 (hs:∀ e, JB (X.caught e) (b0::suite) u)(hd:(y==("__debug__" : Str))=false:=by decide)(hsw:swapsWith (.Call (.Name x p) [] [] pos) none pos2.line X.env=pure false:=by rfl) :
 JR X f σL τL (.Try [.Expr (.Call (.Name x p) [] [] pos) pos2] [.ExceptHandler (some (.Name y xp)) (some n) (b0::suite) hp] [] [] tp) (sTry i cs (sDrop fun _=>G) u):=⟨by subst hG;exact zbcy hc st0 fr hN hi hn hg hB hcs T hv hs hd hsw⟩
theorem zbjw {tr:Stmt}{s:SS}(h1:JR X f σL τL tr s)(h2:JB X rest t):JRB X f σL τL (tr::rest) (sSeq s t):=⟨zbcw h1.out h2⟩
end
noncomputable def CalT (P:Program) (w:World) (K:Fg) (mg:Str->Option Value) (base:Heap) (y:Str) (k:Nat) (F:(Store->Res D)->DFn):Prop :=
 ∃(fr:Addr) (fdR:FuncData) (stR:Stmt) (N:List Str) (x:Str) (b:(Store->Res D)->SS),(F=fun g=>fnD N.length 1 (b g))/\mg y=some (.ref fr)/\Fun K y y stR fr fdR/\FnScope N [x] (defScope stR) /\
  (∀(kV doc pm:Value) (an:Option Addr) (cdv ct:Value) (us:List Value),us.length=[x].length->bindArgs (W.fnOf y y (defArgs stR) (defBody stR) (defScope stR) .none kV doc pm an cdv ct) ⟨us,[]⟩=pure ([x].zip us)) /\
  ∀(cdv:Value) (A:Around) (outer:List Env) (s:Shared) (H:Hp) (E:XK) (f:Addr) (σL:DS) (τL:L2.St) (g:SE),Room (k+1) (A.deeper (envOfC y (defScope stR) s.heap.objs.size fr cdv)) ->
   (∀E' pn,Thk ((cxOf CX0 P w K mg base N y (defScope stR) fr cdv A outer s H E).nox.tryc E' pn) f τL g)->PSs (cxOf CX0 P w K mg base N y (defScope stR) fr cdv A outer s H E).nox (defBody stR) (tRef K f σL τL (b (g σL)))
theorem zbga {P:Program}{w:World}{K:Fg}{mg:Str->Option Value}{base h:Heap}{y x:Str}{st:Stmt}{N:List Str}{k:Nat}{b:(Store->Res D)->SS}(T:TopF K y st)(X:K.In h)(G:h.Ns mainGlobals mg)(S:FnScope N [x] (defScope st))
  (bd:∀(kV doc pm:Value) (an:Option Addr) (cdv ct:Value) (us:List Value),us.length=[x].length->bindArgs (W.fnOf y y (defArgs st) (defBody st) (defScope st) .none kV doc pm an cdv ct) ⟨us,[]⟩=pure ([x].zip us))
  (hbody:∀(fr:Addr) (cdv:Value) (A:Around) (outer:List Env) (s:Shared) (H:Hp) (E:XK) (f:Addr) (σL:DS) (τL:L2.St) (g:SE) (G:Store->Res D),g σL=G->Room (k+1) (A.deeper (envOfC y (defScope st) s.heap.objs.size fr cdv)) ->
   (∀E' pn,Thk ((cxOf CX0 P w K mg base N y (defScope st) fr cdv A outer s H E).nox.tryc E' pn) f τL g)->JRB (cxOf CX0 P w K mg base N y (defScope st) fr cdv A outer s H E).nox f σL τL (defBody st) (b G)):CalT P w K mg base y k (fun g=>fnD N.length 1 (b g)):=by
 obtain⟨f,fd,a,F⟩:=T;exact⟨f,fd,st,N,x,b,rfl,xcr X G a,F,S,bd,fun cdv A outer s H E f' σL τL g hr t=>(hbody f cdv A outer s H E f' σL τL g _ rfl hr t).out⟩
theorem zbka {X:Cx}{y:Str}{p pos lp:Pos}{params:Arguments}{body:Expr}{scope:Scope}{NL:List Str}{is:List Nat}{c T:Addr}{k:Nat}{lam:SE}{F:(Store->Res D)->DFn}(cal:CalT X.prog X.w X.K X.mg X.base y k F)(C:W.CodeHd X.base c T)(ht:W.tabIn X.K "law"=some (c, T))(Bm:BmOk X.mg X.base)(hcode:X.env.code=.ref c)(hqu:X.env.qual++"<lambda>"=lamQ)(hg:Gl X y)
  (hr:Room (k + 2) X.A)(hdef:defaultsOf params X.env=([],[]))(S:CompScope X NL 0 is scope)(SL:LamScope scope)(hb:∀ cl pm cd ct, bindArgs (W.kla_fn "<lambda>" lamQ params body scope cl pm cd ct) ⟨[],[]⟩=pure [])
  (hlam:∀f cd cl A outer s H E,Room k (A.deeper (W.envX lamQ scope s.heap.objs.size f cd cl))->JX (cxL X.prog X.w X.K X.mg X.base NL lamQ scope f cd cl A outer s H E) (fun _ c dx H=>E c dx H) body lam)
  (hdb:(y==("__debug__" : Str))=false:=by decide)(he:starEach [.Lambda params body scope lp] X.env=(false, eval (.Lambda params body scope lp) X.env)::starEach [] X.env:=by rfl)(hpl:(backTo pos (starEach [] X.env)).any (·.1)=false:=by rfl) :
  JE X (.Call (.Name y p) [.Lambda params body scope lp] [] pos) (eRefd F is lam):=by
 obtain⟨fr,fdR,stR,N,x,b,rfl,hm,FF,SF,bd,hbody⟩:=cal;exact zbfo C ht Bm hcode hqu hg hm FF SF bd hr hdef S SL hb hbody hlam hdb he hpl
section
variable {K:Fg}{cv:Value}
theorem zfq:∀q∈([]:List (Str×Bool)),∀C,W.nsIn K mainGlobals q.1=some (some (.ref C))->ErrLook K C/\W.kitOne K (.ref C) cv=some q.2:=fun _ h=>nomatch h
theorem zbh {c:Str}{b:Bool}{r:List (Str×Bool)}{C0:Addr}(n:W.nsIn K mainGlobals c=some (some (.ref C0)))(l:ErrLook K C0)(i:W.kitOne K (.ref C0) cv=some b)(t:∀q∈r,∀C,W.nsIn K mainGlobals q.1=some (some (.ref C))->ErrLook K C/\W.kitOne K (.ref C) cv=some q.2) :
  ∀q∈(c,b)::r,∀C,W.nsIn K mainGlobals q.1=some (some (.ref C))->ErrLook K C/\W.kitOne K (.ref C) cv=some q.2:=fun q hq C e=>by
 rcases xbx.mp hq with rfl | hq
 ·have z:=n.symm.trans e;cases z;exact⟨l,i⟩
 ·exact t q hq C e
end
section
variable {X:Cx}{pos:Pos}{es:List Expr}{u:List D->DS->Option DS}
end
end Dd
namespace L2
open PySem PySem.Spec PyProof.Rows
section
variable {prog:Program}{w:World}{A:Around}{R:Result->Shared->Prop}{I:Addr}{fp wr:List Addr}{n:Nat}{P:Nat->Value->Prop}{St:Nat->Heap->Prop}
end
section
variable {prog:Program}{w:World}{A:Around}{E:Value->Shared->Prop}{s:Shared}
end
section
variable {X:Cx}{p pos cpos kpos:Pos}{l:Expr}{t:TA}{d:Int}{j:Nat}
end
section
variable {X:Cx}
end
end L2
namespace Dd
open PySem L2 PyProof.Rows
section
variable {X:Cx}{p pos cpos kpos:Pos}{l:Expr}{f:SA}{j:Nat}
end
end Dd
namespace L2
open PySem PySem.Spec PyProof.Rows
structure InitCls (K:Fg) (C fI:Addr):Prop where
 obj:∃ nm q N bs tl sn sub ab col dd k0 k1 k2 k3 k5, K.lookup C=some (excClassObj nm q C N bs tl true sn sub ab col dd k0 k1 k2 k3 k5 "ValueError.__new__")/\W.tailIn K bmV tl=true
 init:W.findIn K (.ref C) "__init__"=some (some (.ref fI))
 fn:W.typeIn K (.ref fI)=some (.type "function")
section
variable {P:Program}{w:World}{A:Around}{E:Value->Shared->Prop}{s:Shared}{K:Fg}{C fI:Addr}{us:List Value}
theorem zrp (X:K.In s.heap)(k:InitCls K C fI)(few:us.length<=sizeLine){W:Fin->Shared->Prop}
  (fin:∀g ea,Heap.MadeExcOf s.heap g ea (.ref C) us->wpAny (model P w) A (call (.ref fI) (.ref ea::us)) (fun r s'=>r=.none/\W (.done (.ret (.ref ea))) s') E {s with heap:=g}) :
  wpAny (model P w) A (Builtin.«type.__call__» ⟨.ref C::us,[]⟩) W E s:=by
 obtain⟨hp,gs,dr,tk,os⟩:=s;obtain⟨nm,q,N,bs,tl,sn,sub,ab,col,dd,k0,k1,k2,k3,k5,lC,tC⟩:=k.obj;have hC:=X _ _ lC;have own:=xhk X tC
 repeat (first | with_reducible refine xfv hC ?_ | with_reducible refine wpAny_madeBy_exc hC ?_ | wp_step)
 refine codeAny_call_builtin_code (Code.quiet_builtin _ xdv.quiet) (wpAny_check_new_subU xdv (by decide) own hC ?_);refine codeAny_exc_new_subU xdv (by decide) xdv own hC ?_ few;show wpAny _ _ _ _ _ _;have up:∀ b o, hp.get? b=some o->((hp.push { cls:=.type "tuple", data:=.seq us.toArray }).push { cls:=.ref C, data:=.fields #[.ref hp.objs.size, .none, .none, .none, .bool false, .none] }).get? b=some o:=fun b o e=>xbc _ (xbc _ e)
 have X1:=X.keeps up;have at1:((hp.push { cls:=.type "tuple", data:=.seq us.toArray }).push { cls:=.ref C, data:=.fields #[.ref hp.objs.size, .none, .none, .none, .bool false, .none] }).get? (hp.objs.size + 1)=some { cls:=.ref C, data:=.fields #[.ref hp.objs.size, .none, .none, .none, .bool false, .none] }:=xkx (by rw[Heap.size_push]) rfl
 have mine:(Value.ref C::tl).contains (.ref C)=true:=by rw[xkm,xfg,Bool.true_or]
 unfold isInstance
 repeat (first | with_reducible refine xfv at1 ?_ | (with_reducible refine xkg (up _ _ hC) ?_;rw[mine]) | wp_step)
 show wpAny _ _ (typeLookup (.ref C) _) _ _ _;refine(xfs X1 k.init).at ?_;refine xdg (xba ?_);unfold bindSpecial;refine xba ((PySem.W.looks_typeIn X1 k.fn).at ?_);rw[if_pos (by decide)];refine xbd (xba (xdd (fin _ (hp.objs.size+1) ⟨up,xfn (xlg _),hp.objs.size,at1,xfn (xbf _),?_⟩) (fun r s' hr=>?_) fun _ _ z=>z))
 ·exact xbc _ (xkx rfl rfl)
 ·obtain⟨rfl,q'⟩:=hr
  wp_walk
  exact q'
theorem zxb (X:K.In s.heap)(k:InitCls K C fI)(few:us.length<=sizeLine){W:Value->Shared->Prop}
  (fin:∀ g ea, Heap.MadeExcOf s.heap g ea (.ref C) us->wpAny (model P w) (A.under (.builtin "type.__call__" ⟨.ref C::us,[]⟩)) (call (.ref fI) (.ref ea::us)) (fun r s'=>r=.none/\W (.ref ea) s') E { s with heap:=g }) :
  wpAny (model P w) A (call (.ref C) us) W E s:=by
 obtain⟨hp,gs,dr,tk,os⟩:=s;obtain⟨nm,q,N,bs,tl,sn,sub,ab,col,dd,k0,k1,k2,k3,k5,lC,tC⟩:=k.obj;have hC:=X _ _ lC;have g1:=tc_lookup;have g2:=tc_bind (.ref C);have ty:(⟨hp, gs, dr, tk, os⟩:Shared).TypeIs (.ref C) "type":=⟨_, hC, rfl⟩
 refine xgs (codeAny_of_tree ?_);show wpAny _ _ (callAny (.ref C) _) _ _ _
 repeat (any_goals (first | assumption | with_reducible refine xfv hC ?_ | wp_step))
 refine⟨rfl,codeAny_call_builtin_at (Code.quiet_builtin _ (by decide +kernel)) entry_typeCall (wpAny_check_type_call_sub hC (zrp (s:=⟨hp,gs,dr,tk,os⟩) X k few fun g ea hm=>?_))⟩;exact fin g ea hm
end
noncomputable def Fresh (ea C:Addr) (dx:Option Addr):Heap->Prop:=fun h=>∃oe v0,h.get? ea=some oe/\oe.cls=.ref C/\oe.dict=dx/\oe.data=.fields #[.ref v0,.none,.none,.none,.bool false,.none]
theorem znx {P:Program}{w:World}{H:Hp}{h:Heap}{ea C:Addr}{dx:Option Addr}(f:Fresh ea C dx h):ObjOk P w H h ea (.ext (Fresh ea C dx)):=by
 obtain⟨oe,v0,e1,e2,e3,e4⟩:=f;exact⟨⟨oe,v0,e1,e2,e3,e4⟩,⟨oe,e1⟩,fun h1 h2 ⟨o,v,a1,a2⟩ k=>⟨o,v,k o a1,a2⟩⟩
section
variable {X:Cx}{C f:Addr}{fd:FuncData}{ps:List Str}{sp:Sp}{k:Nat}{x:Str}{p pos:Pos}{e:Expr}{es:List Expr}{t:TA}
theorem zuz {aA:List (Addr×Obj)}{σ:St}{H:Hp}{s:Shared}{Q:VK}{us:List Value}{vs:List V}(M:InitCls X.K C f)(G:FnOk X.prog X.w X.K X.mg X.base CX0 k f fd ps sp)(hr:Room (k+1) X.A)(hb:Binds X.K fd ps [])
  (I:Inv X aA σ H s)(r:Vals vs us)(few:vs.length<=sizeLine)
  (h:∀ea,H ea=none->sp (.ref ea::vs) (upd H ea (.ext (Fresh ea C none))) (fun v H2=>v=.non/\Q (.ref ea) H2) E0) :
  wpAny (model X.prog X.w) X.A (call (.ref C) us) (EP X aA σ Q) X.xe s:=by
 refine zxb I.kIn M (by rw[← r.length];exact few) fun g ea hm=>?_
 obtain⟨ti,h1,h2,h3⟩:=hm.there;have away:∀b ob,s.heap.get? b=some ob->b≠ea:=fun b ob e z=>by rw[z,hm.new] at e;cases e
 have I2:=I.laidN (q:=ea) (o:=.ext (Fresh ea C none)) (g:=g) (t':=s.toks) hm.keeps away (znx ⟨_,_,h1,rfl,rfl,rfl⟩);have hq:=h ea (I.away away);have r2:Vals (V.ref ea::vs) (Value.ref ea::us++[]):=by rw[xdr];exact .cons rfl r
 have hl:(Value.ref ea::us++[]).length=ps.length:=by
  have e:=r2.length;rw[G.len _ _ _ _ hq] at e;exact e.symm
 refine xgs (xhx (G.run _ X.stack _ _ ⟨Value.ref ea::us,[]⟩ (Value.ref ea::us++[]) _ _ E0 (hr.make C us []) (I2.env0.make C us []) (hb _ (Value.ref ea::us) I2.kIn hl) r2 hq) fun r s' hq'=>?_);cases r with
 | error e=>exact pass0 (X:=X) aA σ _ _ e s' I2 hq'
 | ok fl =>
  cases fl with
  | ret u =>
   obtain⟨v,H',I3,rv,ev,q3⟩:=I2.after hq';subst ev;exact⟨rv,V.ref ea,H',I3,rfl,q3⟩
  | next=>exact False.elim hq'
  | brk=>exact False.elim hq'
  | cont=>exact False.elim hq'
noncomputable def tMakeX (C:Addr) (sp:Sp) (t:TA):TE:=fun σ H Q=>t σ H fun vs H1=>vs.length<=sizeLine/\∀ea,H1 ea=none->sp (.ref ea::vs) (upd H1 ea (.ext (Fresh ea C none))) (fun v H2=>v=.non/\Q (.ref ea) H2) E0
theorem zzn (M:InitCls X.K C f)(kp:W.keepIn X.K (.ref C)=true)(G:FnOk X.prog X.w X.K X.mg X.base CX0 k f fd ps sp)(hr:Room (k+1) X.A)(hg:Gl X x)(hm:X.mg x=some (.ref C))(hb:Binds X.K fd ps [])
  (ha:PA X (e::es) t)(hdb:(x==("__debug__" : Str))=false:=by decide)(he:starEach (e::es) X.env=(false, eval e X.env)::starEach es X.env:=by rfl)(hpl:(backTo pos (starEach es X.env)).any (·.1)=false:=by rfl) :
  PE X (.Call (.Name x p) (e::es) [] pos) (tMakeX C sp t):=by
 intro aA s σ H Q I h;refine xfm (ziw I hg hm ?_ hdb);exact xiv (h₀:=X.base) I.ok.mod.kin kp (thn (ha pos aA s σ H _ I h) fun us s1 ⟨vs,H1,I1,r,few,q⟩=>⟨I1.kIn,zuz M G hr hb I1 r few q⟩) he hpl
theorem zzb {M:Model}{A:Around}{E:Value->Shared->Prop}{s:Shared}{env:Env}{m:Sem Value}{W:Flow->Shared->Prop}{K:Fg}{f:Addr}(c:InitCls K C f)(hh:A.handled=none)
  (h:wpAny M A m (fun v s1=>∃ea dx,v=.ref ea/\K.In s1.heap/\Fresh ea C dx s1.heap/\E (.ref ea) s1) E s):wpAny M A (raiseStmt env (some m) none) W E s:=by
 unfold raiseStmt;refine xba (thn h fun v s1 hq0=>?_);obtain⟨ea,dx,ev,X1,fr,q⟩:=hq0;subst ev;obtain⟨nm,qn,N,bs,tl,sn,sub,ab,col,dd,k0,k1,k2,k3,k5,lC,tC⟩:=c.obj;have hC:=X1 _ _ lC;have own:=xhk X1 tC;obtain⟨⟨oc,od,odt,osl⟩,v0,e1,e2,e3,e4⟩:=fr;dsimp only at e2 e3 e4;subst e2 e3 e4;have above:(Value.ref C::tl).contains (.type "BaseException")=true:=by rw[xkm, own.hasType (b:=true) (by decide), Bool.or_true]
 obtain⟨hp,g,d,tk,os⟩:=s1
 repeat (first | with_reducible refine xfv e1 ?_ | with_reducible refine xfv hC ?_ | (with_reducible refine xkg hC ?_;rw[above]) | wp_step)
 exact wpAny_raiseNew_none hh q
theorem zvd {te:TE}(c:InitCls X.K C f)(hc:X.calm=true)(he:PE X e te){aA:List (Addr×Obj)}{s:Shared}{σ:St}{H:Hp}{D:Ends}(I:Inv X aA σ H s)
  (h:te σ H fun v H1=>∃ea dx,v=.ref ea/\H1 ea=some (.ext (Fresh ea C dx))/\∀s1,Inv X aA σ H1 s1->X.xe (.ref ea) s1) :
  wpAny (model X.prog X.w) X.A (exec (.Raise (some e) none pos) X.env) (SP X aA D) X.xe s:=by
 rw[arm_exec_Raise];refine xba (xjp ?_);refine zzb c (I.ok.hd hc) (xba (xdd (he aA s σ H _ I h) (fun v s1 ⟨u,H1,I1,ru,ea,dx,eu,e1,q⟩=>xba (xjp (xbd ?_))) fun _ _ z=>z));subst eu;exact⟨ea,dx,ru,I1.kIn,(I1.hok ea _ e1).1,q s1 I1⟩
end
section
variable {X:Cx}{aA:List (Addr×Obj)}{σ:St}{H:Hp}{s:Shared}
theorem Inv.poke {ea:Addr}{φ ψ:Heap->Prop}{g:Heap}{t':Nat}(I:Inv X aA σ H s)(e:H ea=some (.ext φ))(k:∀b o,b≠ea->s.heap.get? b=some o->g.get? b=some o)(new:ObjOk X.prog X.w (upd H ea (.ext ψ)) g ea (.ext ψ)) :
  Inv X aA σ (upd H ea (.ext ψ)) {s with heap:=g,toks:=t'}:=by
 have off:∀{b:Addr} {u:HO},H b=some u->(∀χ,u≠.ext χ)->upd H ea (.ext ψ) b=some u:=fun {b u} q n=>by
  rw[zm (by rintro rfl;rw[e] at q;exact n φ (xbw q).symm)];exact q
 have ne:∀{b:Addr},H b=none->b≠ea:=fun {b} q z=>by rw[z,e] at q;cases q
 refine I.un ⟨fun b u q n _ _=>k b u (ne n) q,fun b u q n _ _=>⟨u.slots,k b u (ne n) q⟩,fun b u _ n _=>by rw[zm (ne n)];exact n,fun b u q _=>?_,fun b xs q=>off q (by intro χ z;cases z),fun b ob u q=>off q (by intro χ z;cases z),fun b ps q=>⟨#[],by rw[off q (by intro χ z;cases z)];simp⟩⟩ fun b u q=>?_
 ·by_cases hb:b=ea
  ·subst hb;exact new.here
  ·exact⟨u,k b u hb q⟩
 ·by_cases hb:b=ea
  ·subst hb;rw[zj] at q;cases q;exact new
  ·rw[zm hb] at q;refine(I.hok b u q).stay (fun c v hc z=>k c v ?_ z) (fun c z=>off z (by intro χ z;cases z)) fun c xs z=>off z (by intro χ z;cases z)
   rcases hc with hc | hc
   ·rw[hc];exact hb
   ·rintro rfl;rw[e] at hc;cases hc
theorem ztw {C f:Addr}(c:InitCls X.K C f):CallR X (.builtin "ValueError.__init__") (fun xs H Q=>∃ ea t dx, xs=[.ref ea, .str t]/\H ea=some (.ext (Fresh ea C dx))/\Q .non H):=by
 intro aA s σ H xs us Q I r h;obtain⟨ea,t,dx,rfl,e1,q⟩:=h;obtain⟨u,w',rfl,ru,rw'⟩:=vals2 r;obtain rfl:u=Value.ref ea:=ru;obtain⟨tk,rfl⟩:∃tk,w'=Value.str t tk:=rw'
 obtain⟨nm,qn,N,bs,tl,sn,sub,ab,col,dd,k0,k1,k2,k3,k5,lC,tC⟩:=c.obj;have hC:=I.kIn _ _ lC;have own:=xhk I.kIn tC;obtain⟨⟨oc,od,odt,osl⟩,v0,f1,f2,f3,f4⟩:=(I.hok ea _ e1).1;dsimp only at f2 f3 f4;subst f2 f3 f4;have fin:∀g tk',(∀b o,b≠ea->s.heap.get? b=some o->g.get? b=some o)->(∃v,g.get? ea=some ⟨.ref C,od,.fields #[.ref v,.none,.none,.none,.bool false,.none],osl⟩)->EP X aA σ Q .none {s with heap:=g,toks:=tk'}:=fun g tk' k hq0=>by
  obtain⟨v,hv⟩:=hq0;have:=I.poke (ψ:=Fresh ea C od) (g:=g) (t':=tk') e1 k (znx ⟨_,v,hv,rfl,rfl,rfl⟩);have self:upd H ea (.ext (Fresh ea C od))=H:=zrm e1;rw[self] at this;exact⟨.non,H,this,rfl,q⟩
 obtain⟨hp,gs,dr,tk0,os⟩:=s;refine xgs (xij xdv.init.plain xdv.initEntry (wpAny_check_init_subU xdv own hC f1 rfl ?_))
 wp_walk
 refine fin _ _ (fun b o hb q=>?_) ⟨hp.objs.size,?_⟩
 ·rw[xcp _ _ hb.symm];exact xbc _ q
 ·rw[xel _ (xbc _ f1) rfl]
  rfl
structure BaseInit (K:Fg) (R:Addr):Prop where
 sp:W.specialIn K (.ref R) "__getattribute__"=some (some (.builtin "type.__getattribute__"))
 rd:W.readsIn K R (.type "type")=true
 fd:W.findCls K (.ref R) (.type "type") "__init__"=some (.val (.builtin "ValueError.__init__"))
noncomputable def rVi (C:Addr):List V->Hp->VK->Prop:=fun xs H Q=>∃ea t dx,xs=[.ref ea,.str t]/\H ea=some (.ext (Fresh ea C dx))/\Q .non H
theorem zzt {C f R:Addr}{xR:Str}{p1 p2 pos:Pos}{e:Expr}{es:List Expr}{t:TA}{pl:Sem Bool}(c:InitCls X.K C f)(B:BaseInit X.K R)(hg:Gl X xR)(hm:X.mg xR=some (.ref R))(ha:PA X (e::es) t)(hdb:(xR==("__debug__" : Str))=false:=by decide)
  (he:starEach (e::es) X.env=(false,eval e X.env)::starEach es X.env:=by rfl)(hpl:(backTo pos (starEach es X.env)).any (·.1)=false:=by rfl)
  (ht:eval (.Call (.Attribute (.Name xR p1) "__init__" p2) (e::es) [] pos) X.env=(do
   let ov ← eval (.Name xR p1) X.env
   standAt p2.atName
   let (f, first) ← holding [ov] (getMethod ov "__init__" pl)
   callWith pos f first (backTo pos (starEach (e::es) X.env)) (backToKw pos (keywordEach [] X.env))):=by rfl) :
  PE X (.Call (.Attribute (.Name xR p1) "__init__" p2) (e::es) [] pos) (tCB (rVi C) t):=by
 intro aA s σ H Q I h;refine W.methodCall_KW (pl:=pl) (ziw I hg hm ?_ hdb) ht;refine W.method_cls I.kIn B.sp (W.cls_value I.kIn B.rd B.fd rfl ?_);exact xka (thn (ha pos aA _ σ H _ (I.tok _) h) fun us s1 ⟨vs,H1,I1,r1,q1⟩=>ztw c aA s1 σ H1 vs us Q I1 r1 q1) he hpl
theorem zbdk {a b:Str}{j1 j2:Nat}{q1 q2 q3 pos:Pos}{v:Expr}{te:TE}(he:PE X v te)(la:a.length<=1000)(lb:b.length<=1000) :
  PE X (.JoinedStr [.Constant (.str a) j1 q1,.FormattedValue v (-1) none q2,.Constant (.str b) j2 q3] pos) (fun σ H Q=>te σ H fun x H1=>∃i:Int,x=.int i/\0<=i/\i<=1000/\∀t,Q (.str t) H1):=by
 intro aA s σ H Q I h;have ap:∀x y:Str,(x++y).length=x.length+y.length:=strLen_append
 have z:(Str.empty).length=0:=rfl;refine JoinedStr_many (joinParts_cons (xki ⟨by rw[ap,z,xee];lia,joinParts_cons (FormattedValue_plain (thn (he aA _ σ H _ (I.tok _) h) fun u s1 ⟨x,H1,I1,rx,i,ex,h0,h1,q⟩=>?_))⟩));subst ex;obtain⟨tk,rfl⟩:∃tk,u=Value.int i tk:=rx
 have len:=len_str_of_int i;have hi:i.natAbs<=1000:=by lia
 refine formatField_int_small (xcn (Nat.log2_le_self _) (by lia)) ⟨?_,joinParts_cons (xki ⟨?_,joinParts_nil ⟨.str (Str.empty++a++toString i++b),H1,((I1.tok _).tok _).tok _,⟨_,rfl⟩,q _⟩ ?_⟩)⟩
 ·rw[ap,ap,z,xee];have e:(toString i:Str).length=(Str.ofString (toString i)).length:=rfl;rw[e];lia
 ·rw[ap,ap,ap,z,xee];have e:(toString i:Str).length=(Str.ofString (toString i)).length:=rfl;rw[e];lia
 ·rw[ap,ap,ap,z,xee];have e:(toString i:Str).length=(Str.ofString (toString i)).length:=rfl;rw[e];lia
end
end L2
namespace L2
open PySem PySem.Spec PyProof.Rows Builtin Builtin.ObjectAttr
theorem zqm {h:Heap}(self:Value):∀{l:List Value}, OwnTail h bmV l->refuseLoop self "__setattr__" l=pure ():=fun {l} T=>by
 induction T with
 | base=>exact F.store_ValueError.passes self
 | own _ _ _ _ ih=>rw[refuseLoop_ref];exact ih
structure AtCls (K:Fg) (C:Addr):Prop where
 sa:W.findIn K (.ref C) "__setattr__"=some (some (.builtin "object.__setattr__"))
 at_:W.findIn K (.ref C) "at"=some none
section
variable {P:Program}{w:World}{A:Around}{E:Value->Shared->Prop}{s:Shared}{K:Fg}{C fI ea:Addr}{v:Value}
theorem zbau {M:Model}{nm q:Str}{N:Addr}{bs bm:List Value}{sn:List Str}{sub:List Value}{ab:Bool}{col:Option Bool}{dd:Option Addr}{k0 k1 k2 k3 k5:Option Value}{newId:String}{vs:Array Value}{sl:Array (Option Value)}{W:Option Addr->Shared->Prop}
  (hC:s.heap.get? C=some (excClassObj nm q C N bs bm true sn sub ab col dd k0 k1 k2 k3 k5 newId))(e:s.heap.get? ea=some ⟨.ref C,none,.fields vs,sl⟩)
  (fin:W (some s.heap.objs.size) { s with heap:=(s.heap.push { cls:=.type "dict", data:=.dict #[] }).update ea fun o=>{ o with dict:=some s.heap.objs.size } }):wpAny M A (instanceDict ea true) W E s:=by
 obtain⟨hp0,gs,dr,tk,os⟩:=s;unfold instanceDict;have e':(hp0.push { cls:=.type "dict", data:=.dict #[] }).get? ea=some ⟨.ref C, none, .fields vs, sl⟩:=xbc _ e
 repeat (first | with_reducible refine xfv e ?_ | with_reducible refine xfv hC ?_ | wp_step)
 exact fin
theorem zux {t0:Addr}{sl:Array (Option Value)}{W:Unit->Shared->Prop}(X:K.In s.heap)(c:InitCls K C fI)(a:AtCls K C)(e:s.heap.get? ea=some ⟨.ref C,none,.fields #[.ref t0,.none,.none,.none,.bool false,.none],sl⟩)
  (fin:∀ g d tk,(∀ b o, b≠ea->s.heap.get? b=some o->g.get? b=some o)->s.heap.get? d=none->g.get? ea=some ⟨.ref C, some d, .fields #[.ref t0, .none, .none, .none, .bool false, .none], sl⟩->g.Ns1 d (fun y=>if y="at" then some v else none)->W () { s with heap:=g, toks:=tk }) :
  wpAny (model P w) A (setAttr (.ref ea) "at" v) W E s:=by
 obtain⟨nm,qn,N,bs,tl,sn,sub,ab,col,dd,k0,k1,k2,k3,k5,lC,tC⟩:=c.obj;have hC:=X _ _ lC;have own:=xhk X tC;have I:PySem.W.InstAt s.heap ea ⟨.ref C,none,.fields #[.ref t0,.none,.none,.none,.bool false,.none],sl⟩ C none:=⟨e,rfl,rfl,trivial⟩
 refine PySem.W.set_plain X I a.sa ?_;have SF:=F.store_ValueError;have hp:∀(M:Model),PySem.W.Looks M s.heap (mroOf (.ref C)) (.ref C::tl):=fun M A' Q' E' s' k q=>wpAny_mroOf_exc (h:=s'.heap) (k _ _ hC) q
 have isObj:PySem.W.Looks (model P w) s.heap (isInstance (.ref ea) (.type "object")) true:=I.type.andThen fun A' Q' E' s' k q=>xkg (h:=s'.heap) (k _ _ hC) (by
  rw[show(Value.ref C::tl).contains (.type "object")=true from by rw[xkm, own.hasType (b:=true) (by decide), Bool.or_true]]; exact q)
 refine xij SF.slot.plain SF.entry (@PySem.W.check_slot (model P w) _ _ { s with toks:=s.toks + 1 } "object.__setattr__" "object" "__setattr__" (.ref ea) [.str "at" s.toks, v] [] _ SF.kind SF.split isObj (SF.args _ _ _) ?_)
 rw[PySem.W.osa_eq,refuse_eq];refine xba (xba (I.type.here (s:={s with toks:=s.toks+1}) (xba ((hp _).here (s:={s with toks:=s.toks+1}) ?_))));rw[refuseLoop_ref,zqm _ own];refine xbd (xba (I.type.here (s:={s with toks:=s.toks+1}) (xba ((xfs X a.at_).here (s:={s with toks:=s.toks+1}) (xba (PySem.W.Looks.now.here (s:={s with toks:=s.toks+1}) ?_))))));show wpAny _ _ (storeInOwnDict (.ref ea) (.ref C) (.str "at" s.toks) "at" v false) _ _ _
 unfold storeInOwnDict ownDictForStores;have nx:ea≠s.heap.objs.size:=xca (xbl e);refine xba (xbd (xba (zbau (s:={s with toks:=s.toks+1}) hC e ?_)));dsimp only;have at1:((s.heap.push { cls:=.type "dict", data:=.dict #[] }).update ea fun o=>{ o with dict:=some s.heap.objs.size }).get? s.heap.objs.size=some { cls:=.type "dict", data:=.dict #[] } :=
  (xim _ _ _ _ nx.symm).trans (xkx rfl rfl)
 have at2:((s.heap.push { cls:=.type "dict", data:=.dict #[] }).update ea fun o=>{ o with dict:=some s.heap.objs.size }).get? ea=some ⟨.ref C, some s.heap.objs.size, .fields #[.ref t0, .none, .none, .none, .bool false, .none], sl⟩ :=
  xel _ (xbc _ e) rfl
 have nsn:((s.heap.push { cls:=.type "dict", data:=.dict #[] }).update ea fun o=>{ o with dict:=some s.heap.objs.size }).Ns s.heap.objs.size (fun _=>none):=⟨_, #[], _, at1, rfl, fun _ z=>absurd z (by simp), fun _=>rfl⟩
 unfold storeInDict newKeyGuard;refine xba (xbd (xba (wpAny_nsSet1 (Heap.Ns1.of_empty nsn) fun g ng sb=>?_)));obtain⟨oD, esD, epD, hoD, hdD, hcD⟩:=ng.count (Within.cons "at" v Within.nil)
 refine xba (wpAny_lookBehind hoD (by rw[hdD];exact pastItsLine_dict (xbb hcD (by rw[xcg,xio,xee];lia))) (xbd ?_));refine fin g s.heap.objs.size _ (fun b o nb q=>?_) (xfn (xbf _)) ((sb.2 ea nx).trans at2) ng;exact(sb.2 b (xca (xbl q))).trans ((xim _ _ _ _ nb).trans (xbc _ q))
end
end L2
namespace L2
open PySem PySem.Spec PyProof.Rows
section
variable {X:Cx}{aA:List (Addr×Obj)}{σ:St}{H:Hp}{s:Shared}
theorem Inv.poke2 {ea d:Addr}{φ ψ:Heap->Prop}{o:HO}{g:Heap}{t':Nat}(I:Inv X aA σ H s)(e:H ea=some (.ext φ))(nd:s.heap.get? d=none)(k:∀b o,b≠ea->s.heap.get? b=some o->g.get? b=some o)
  (newd:ObjOk X.prog X.w (upd (upd H d o) ea (.ext ψ)) g d o)(new:ObjOk X.prog X.w (upd (upd H d o) ea (.ext ψ)) g ea (.ext ψ)):Inv X aA σ (upd (upd H d o) ea (.ext ψ)) {s with heap:=g,toks:=t'}:=by
 have hd:H d=none:=I.away fun b ob q z=>by rw[z,nd] at q;cases q
 have off:∀{b:Addr} {u:HO},H b=some u->(∀χ,u≠.ext χ)->upd (upd H d o) ea (.ext ψ) b=some u:=fun {b u} q n=>by
  rw[zm (by rintro rfl;rw[e] at q;exact n φ (xbw q).symm),zm (zh q hd)];exact q
 have ne:∀{b:Addr},H b=none->b≠ea:=fun {b} q z=>by rw[z,e] at q;cases q
 have nb:∀{b:Addr} {u:Obj},s.heap.get? b=some u->b≠d:=fun {b u} q z=>by rw[z,nd] at q;cases q
 refine I.un ⟨fun b u q n _ _=>k b u (ne n) q,fun b u q n _ _=>⟨u.slots,k b u (ne n) q⟩,fun b u q n _=>by rw[zm (ne n),zm (nb q)];exact n,fun b u q _=>?_,fun b xs q=>off q (by intro χ z;cases z),fun b ob u q=>off q (by intro χ z;cases z),fun b ps q=>⟨#[],by rw[off q (by intro χ z;cases z)];simp⟩⟩ fun b u q=>?_
 ·by_cases hb:b=ea
  ·subst hb;exact new.here
  ·exact⟨u,k b u hb q⟩
 ·by_cases hb:b=ea
  ·subst hb;rw[zj] at q;cases q;exact new
  ·rw[zm hb] at q;by_cases hb2:b=d
   ·subst hb2;rw[zj] at q;cases q;exact newd
   ·rw[zm hb2] at q;refine(I.hok b u q).stay (fun c v hc z=>k c v ?_ z) (fun c z=>off z (by intro χ z;cases z)) fun c xs z=>off z (by intro χ z;cases z)
    rcases hc with hc | hc
    ·rw[hc];exact hb
    ·rintro rfl;rw[e] at hc;cases hc
noncomputable def tSetAt (C:Addr) (ta tv:TE):TS:=fun D σ H=>tv σ H fun y H1=>ta σ H1 fun x H2=>∃ea i,x=.ref ea/\y=.int i/\H2 ea=some (.ext (Fresh ea C none)) /\
 ∀ d od, H2 d=none->d≠ea->D.nx σ (upd (upd H2 d (.frz od (.xd [("at", .int i)]))) ea (.ext (Fresh ea C (some d))))
theorem zzg {C f:Addr}{o value:Expr}{ta tv:TE}{pos pos':Pos}(c:InitCls X.K C f)(a:AtCls X.K C)(ha:PE X o ta)(hv:PE X value tv)(hs:swapsWith value (some (.Attribute o "at" pos')) pos.line X.env=pure false:=by rfl) :
  PS X (.Assign [.Attribute o "at" pos'] value pos) (tSetAt C ta tv):=by
 intro aA s σ H D I h;refine plainObj_wpAny_Assign_Attribute (thn (hv aA s σ H _ I h) fun u s1 ⟨y,H1,I1,ry,q⟩=>thn (ha aA s1 σ H1 _ I1 q) fun ov s2 hq0=>?_) hs;obtain⟨x,H2,I2,rx,ea,i,ex,ey,e2,q2⟩:=hq0;subst ex ey;obtain rfl:ov=Value.ref ea:=rx;obtain⟨tk,rfl⟩:∃tk,u=Value.int i tk:=ry
 obtain⟨⟨oc,od,odt,osl⟩,v0,f1,f2,f3,f4⟩:=(I2.hok ea _ e2).1;dsimp only at f2 f3 f4;subst f2 f3 f4;refine zux I2.kIn c a f1 fun g d tk k nd g1 g2=>?_
 obtain⟨oD,es,ep,hD,rest⟩:=id g2;have hd:H2 d=none:=I2.away fun b ob q z=>by rw[z,nd] at q;cases q
 have ne:d≠ea:=(zh e2 hd).symm;refine⟨σ, _, I2.poke2 (d:=d) (ψ:=Fresh ea C (some d)) (o:=.frz oD (.xd [("at", .int i)])) (t':=tk) e2 nd k ⟨hD, _, g2, fun y=>?_⟩ (znx ⟨_, v0, g1, rfl, rfl, rfl⟩), q2 d oD hd ne⟩
 by_cases hy:y="at"
 ·subst hy;rw[if_pos rfl];exact⟨_,rfl⟩
 ·rw[if_neg hy];have:List.lookup y [(("at" : Str), V.int i)]=none:=by
   rw[xdw,xga.mpr hy];rfl
  rw[this]
  trivial
end
noncomputable def spInit (C:Addr):Sp:=fun vs H Q _=>∃ea i,vs=[.ref ea,.int i]/\0<=i/\i<=1000/\H ea=some (.ext (Fresh ea C none)) /\
 ∀ d od, H d=none->d≠ea->Q .non (upd (upd H d (.frz od (.xd [("at", .int i)]))) ea (.ext (Fresh ea C (some d))))
structure InitBody (st:Stmt) (xR:Str):Prop where
 body:∃(p1 p2 p3 p4 p5 p6 q1 q2 q3 q4 r1 r2 r3 r4:Pos) (a b:Str) (j1 j2:Nat) (pl:Env->Sem Bool), a.length<=1000/\b.length<=1000/\defBody st=[.Expr (.Call (.Attribute (.Name xR p1) "__init__" p2) [.Name "self" p3, .JoinedStr [.Constant (.str a) j1 q1, .FormattedValue (.Name "at" q2) (-1) none q3, .Constant (.str b) j2 q4] p4] [] p5) p6,
  .Assign [.Attribute (.Name "self" r1) "at" r2] (.Name "at" r3) r4] /\
  ∀ env:Env, eval (.Call (.Attribute (.Name xR p1) "__init__" p2) [.Name "self" p3, .JoinedStr [.Constant (.str a) j1 q1, .FormattedValue (.Name "at" q2) (-1) none q3, .Constant (.str b) j2 q4] p4] [] p5) env=(do
   let ov ← eval (.Name xR p1) env
   standAt p2.atName
   let (f, first) ← holding [ov] (getMethod ov "__init__" (pl env))
   callWith p5 f first (backTo p5 (starEach [.Name "self" p3, .JoinedStr [.Constant (.str a) j1 q1, .FormattedValue (.Name "at" q2) (-1) none q3, .Constant (.str b) j2 q4] p4] env)) (backToKw p5 (keywordEach [] env)))
 sc:FnScope ["self", "at"] ["self", "at"] (defScope st)
 gl:(defScope st).names.lookup xR=some .globalImplicit
 nb:(xR==("__debug__" : Str))=false
 bd:∀(qual:Str) (kV doc pm:Value) (an:Option Addr) (cdv ct:Value) (us:List Value), us.length=2->bindArgs (W.fnOf "__init__" qual (defArgs st) (defBody st) (defScope st) .none kV doc pm an cdv ct) ⟨us,[]⟩=pure ((["self", "at"]:List Str).zip us)
section
variable {P:Program}{w:World}{K:Fg}{mg:Str->Option Value}{base h:Heap}{C fI R:Addr}{xR qual:Str}{st:Stmt}{fd:FuncData}
theorem zbel (F:Fun K "__init__" qual st fI fd)(B:InitBody st xR)(c:InitCls K C fI)(a:AtCls K C)(b:BaseInit K R)(hm:mg xR=some (.ref R)):FnOk P w K mg base CX0 1 fI fd ["self", "at"] (spInit C):=by
 refine F.ok (k:=0) B.sc (fun vs H Q E ⟨ea,i,e,_⟩=>by rw[e];rfl) fun cdv A outer s H vs Q E hr hs=>?_
 obtain⟨p1,p2,p3,p4,p5,p6,q1,q2,q3,q4,r1,r2,r3,r4,ta,tb,j1,j2,pl,la,lb,eb,ht⟩:=B.body;rw[eb];have v0:Vis (defScope st) "self":=by
  rcases B.sc.par "self" (by simp) with z | z
  ·exact .inl z
  ·exact .inr (.inl z)
 have v1:Vis (defScope st) "at":=by
  rcases B.sc.par "at" (by simp) with z | z
  ·exact .inl z
  ·exact .inr (.inl z)
 refine⟨_,zkv (zoy (zzt (R:=R) c b B.gl hm (zkc (zsh (i:=0) rfl v0) (zkc (zbdk (zsh (i:=1) rfl v1) la lb) zvi)) B.nb rfl rfl (ht _))) (zow (zzg c a (zsh (i:=0) rfl v0) (zsh (i:=1) rfl v1))),?_⟩;obtain⟨ea,i,rfl,h0,h1,e1,q⟩:=hs;refine⟨_,rfl,_,rfl,i,rfl,h0,h1,fun t=>⟨ea,t,none,rfl,e1,?_⟩⟩;exact⟨_,rfl,_,rfl,ea,i,rfl,rfl,e1,fun d od hd ne=>q d od hd ne⟩
end
section
variable {X:Cx}
end
theorem zbep {K:Fg}{C:Addr}{od:Obj}{v:Value}{cd:ClassData}(hc:W.clsIn K C=some cd)(hd:cd.hasDict=true)(n:W.findIn K (.ref C) "at"=some none)(e:W.lookIn "at" od=some (some v)):W.findObj K C (some od) "at"=some (.value v):=by
 unfold W.findObj W.ownOf;rw[hc,xjr,n,xjr];simp[hd,e]
theorem zbjf {K:Fg}{prog:Program}{w:World}{A:Around}{E:Value->Shared->Prop}{s:Shared}{x D:Addr}{ox od:Obj}{cd:ClassData}{v:Value}{ex:Bool}{Q:Value->Shared->Prop}(X:K.In s.heap)(I:W.InstAt s.heap x ox D (some od))
  (L:ErrLook K D)(hc:W.clsIn K D=some cd)(hd:cd.hasDict=true)(n:W.findIn K (.ref D) "at"=some none)(e:W.lookIn "at" od=some (some v))(hv:W.handedIn v=true)(h:Q v { s with toks:=s.toks + 1 }):wpAny (model prog w) A (getAttr (.ref x) "at" ex) Q E s:=by
 obtain⟨hh,g,d,t,os⟩:=s;have L0:=I.type (M:=model prog w);have L1:=xfs (M:=model prog w) X L.ga;have L2:=xfs (M:=model prog w) X L.gt;have L3:=W.looks_find (M:=model prog w) X I (zbep hc hd n e);have hx2:(Value.builtin "BaseException.__getattribute__"==Value.builtin "object.__getattribute__")=false:=by decide +kernel
 unfold getAttr getAttrBy;refine xba (wpAny_mkText (xdg (xba (L0.at (xba (L1.at ?_))))));dsimp only;rw[hx2,xli,if_neg (by decide)];unfold getAttrByItsOwn;refine xba (show wpAny _ _ (typeLookup (.ref D) "__getattr__") _ _ _ from L2.at ?_)
 refine xba (xhd (xdg ?_));unfold callGetattribute;rw[show(ex&&onTheHeap (Value.builtin "BaseException.__getattribute__"))=false from xli _, if_neg (by decide)]
 unfold boundAndCalled;rw[xgn.ga.bind];refine xba (xbd ?_);refine xgs (xij xgn.ga.plain F.entry_bexc_ga (ztu (s:=⟨hh,g,d,t+1,os⟩) X I L.mb ?_));unfold Builtin.«object.__getattribute__»;refine xba (xbd (xba (xbd (xba (L0.at (xba (L3.at ?_)))))));refine xbd ?_;exact W.handed_on hv h
section
variable {X:Cx}{e:Expr}{pos:Pos}{te:TE}
noncomputable def tAt (X:Cx) (te:TE):TE:=fun σ H Q=>te σ H fun x H1=>∃ a o C i dx od, x=.ref a/\H1 a=some (.frz o (.ext fun _=>True))/\o.cls=.ref C/\(∃ vs, o.data=.fields vs)/\o.dict=some dx/\H1 dx=some (.frz od (.xd [("at", .int i)]))/\(∃ f, InitCls X.K C f)/\AtCls X.K C/\ErrLook X.K C/\Q (.int i) H1
theorem zbmg (he:PE X e te)(hb:attributeBase e "at" X.env (eval e X.env)=eval e X.env:=by rfl):PE X (.Attribute e "at" pos) (tAt X te):=by
 intro aA s σ H Q I h;refine zbgk hb (thn (he aA s σ H _ I h) fun u s1 hq0=>?_);obtain⟨x,H1,I1,rx,a,o,C,i,dx,od,ex,e1,e2,e3,e4,e5,e6,e7,e8,q⟩:=hq0;subst ex;obtain rfl:u=Value.ref a:=rx;obtain⟨f,ic⟩:=e6;obtain⟨nm,qn,N,bs,tl,sn,sub,ab,col,dd,k0,k1,k2,k3,k5,lC,tC⟩:=ic.obj;obtain⟨g1,mA,⟨oD,es,ep,g2,g3,g4,g5,g6⟩,g7⟩:=I1.hok dx _ e5;have ho:od=oD:=by rw[g1] at g2;exact xbw g2
 subst ho;have ra:=g7 "at"
 have lk:List.lookup ("at" : Str) [(("at" : Str), V.int i)]=some (.int i):=by rw[xdw, xfg]
 rw[lk] at ra;obtain⟨v, hv, tk, rfl⟩:∃ v, mA "at"=some v/\∃ tk, v=Value.int i tk:=by
  cases hm:mA "at" with
  | none=>rw[hm] at ra;exact ra.elim
  | some v=>rw[hm] at ra;exact⟨v,rfl,ra⟩
 have lo:W.lookIn "at" od=some (some (.int i tk)):=by
  have z:=g6 "at"
  rw[hv] at z;unfold nsFind findBy at z;obtain⟨en,z1,z2⟩:=xcw.mp z;rw[← Array.find?_toList] at z1;unfold W.lookIn;rw[g3];dsimp only;rw[z1];dsimp only;rw[z2]
 obtain⟨cd,cl,hdc⟩:∃cd,W.clsIn X.K C=some cd/\cd.hasDict=true:=by
  unfold W.clsIn;rw[lC];exact⟨_,rfl,rfl⟩
 obtain⟨vs,e3⟩:=e3;exact zbjf I1.kIn ⟨(I1.hok a _ e1).1,e2,by unfold W.notCls;rw[e3],by rw[e4];exact g1⟩ e8 cl hdc e7.at_ lo rfl ⟨.int i,H1,I1.tok _,⟨_,rfl⟩,q⟩
end
noncomputable def WishM (X:Cx) (R:St->Value->Option Addr->Hp->Prop):Prop:=∀(aA:List (Addr×Obj)) (τ:St) (H:Hp) (ea C:Addr) (dx:Option Addr) (s:Shared),Inv X aA τ (upd H ea HX) s->H ea=none->Rec s.heap ea (.ref C) dx .none->R τ (.ref C) dx H->X.xe (.ref ea) s
section
variable {P:Program}{w:World}{K:Fg}{mg:Str->Option Value}{base:Heap}{N:List Str}{qual:Str}{scope:Scope}{f:Addr}{cd:Value}{A:Around}{outer:List Env}{s₀:Shared}{H₀:Hp}{E:XK}
theorem zyn:WishM (cxOf (CX1 P w) P w K mg base N qual scope f cd A outer s₀ H₀ E) (fun _ c dx H=>E c dx H):=by
 intro aA τ H ea C dx s I ne r hE;show wpAny _ _ (leaving _ _) _ _ s;unfold leaving;refine xba (zmb (base:=base) I.ok.frames I.stack rfl r fun h1 m1 r1 t1=>?_);have oe:∃o,s.heap.get? ea=some o:=by obtain⟨_,_,q,_⟩:=r;exact⟨_,q⟩
 have ne1:s.heap.objs.size≠ea:=by
  obtain⟨_,q⟩:=oe;exact xgb (xca (xbl q))
 have nT:s.heap.get? s.heap.objs.size=none:=xfn (xbf _);refine zga (fs:=frs (cxOf (CX1 P w) P w K mg base N qual scope f cd A outer s₀ H₀ E).stack) r1 t1 ne1 fun h2 m2 r2 t2=>?_
 have nt:∀b o,s.heap.get? b=some o->b∉[s.heap.objs.size]:=fun b o q z=>by
  rw[xbn] at z;subst z;rw[nT] at q;cases q
 have off:∀b,upd H ea HX b≠some HX->b∉[ea]:=fun b h z=>by
  rw[xbn] at z;subst z;exact h zj
 have I2:=I.flew (h':=h2) (H:=H) (ea:=ea) (T:=s.heap.objs.size) (fun b=>by
   by_cases hb:b=ea
   ·subst hb;exact .inr ⟨zj,ne⟩
   ·exact .inl (zm hb)) (fun b hb=>by
   rcases hb with rfl | rfl
   ·exact .inr zj
   ·exact .inl nT) (fun b o hb hf q=>m2.keep b o (nt b o q) hf (m1.keep b o (off b hb) hf q)) (fun b o hb hf q=>by
   obtain⟨sl,q1⟩:=m1.slot b o (off b hb) hf q;obtain⟨sl2,q2⟩:=m2.slot b _ (nt b o q) hf q1;exact⟨sl2,q2⟩) (fun b o q=>by
   have q1:∃o',h1.get? b=some o':=by
    by_cases hb:b∈[ea]
    ·rw[xbn] at hb;subst hb
     obtain⟨_,_,y,_⟩:=r1;exact⟨_,y⟩
    ·by_cases hf:b∈frs (cxOf (CX1 P w) P w K mg base N qual scope f cd A outer s₀ H₀ E).stack
     ·obtain⟨sl,q1⟩:=m1.slot b o hb hf q;exact⟨_,q1⟩
     ·exact⟨_,m1.keep b o hb hf q⟩
   obtain⟨o1,q1⟩:=q1;by_cases hf:b∈frs (cxOf (CX1 P w) P w K mg base N qual scope f cd A outer s₀ H₀ E).stack
   ·obtain⟨sl,q2⟩:=m2.slot b _ (nt b o q) hf q1;exact⟨_,q2⟩
   ·exact⟨_,m2.keep b _ (nt b o q) hf q1⟩) (by obtain⟨_,_,y,_⟩:=r2;exact⟨_,y⟩) (by obtain⟨_,_,y,_⟩:=t2;exact⟨_,y⟩)
 have fT:H s.heap.objs.size=none:=by
  have:upd H ea HX s.heap.objs.size=none:=I.fresh;rw[zm ne1] at this;exact this
 exact⟨ea,s.heap.objs.size,C,dx,H,rfl,I2.os,I2.bare,I2.base,I2.hok,⟨r2,t2,ne1,ne,fT⟩,hE⟩
end
end L2
namespace Dd
open PySem L2 PyProof.Rows
structure ErrInit (K:Fg) (x:Str) (C:Addr):Prop where
 ns:W.nsIn K mainGlobals x=some (some (.ref C))
 kp:W.keepIn K (.ref C)=true
 at_:AtCls K C
 fn:∃ fI fd qual st xR R, InitCls K C fI/\Fun K "__init__" qual st fI fd/\InitBody st xR/\W.nsIn K mainGlobals xR=some (some (.ref R))/\BaseInit K R
noncomputable def sRaiseI (x:Str) (g:SA):SS:=fun σ st=>(g σ st).bind fun xs st1=>match xs with
 | [.int i]=>if 0<=i/\i<=1000 then .exc ⟨x,[i]⟩ st1 else .stuck
 | _=>.stuck
section
variable {X:Cx}{R:RXT}{e:Expr}{es:List Expr}{f:SE}{g:SA}{sm:Stmt}{rest body:List Stmt}{s t:SS}{pos p:Pos}{x:Str}
theorem ztj {C:Addr}{np cpos:Pos}(hw:WishM X R)(hx:ErrInit X.K x C)(hr:Room 2 X.A)(hc:X.calm=true)(hg:Gl X x)(ha:JA X (e::es) g)(hd:(x==("__debug__" : Str))=false:=by decide)(he:starEach (e::es) X.env=(false, eval e X.env)::starEach es X.env:=by rfl)
  (hpl:(backTo cpos (starEach es X.env)).any (·.1)=false:=by rfl):JXS X R (.Raise (some (.Call (.Name x np) (e::es) [] cpos)) none pos) (sRaiseI x (noX g)):=by
 refine⟨fun aA s τ H E I ⟨ρ,σ,st,a,rp,q⟩=>?_⟩;obtain⟨i,st1,e1,h0,h1,q⟩:∃i st1,g σ st=.ok [.int i] st1/\0<=i/\i<=1000/\XOk X.K ρ H st1 ⟨x,[i]⟩ (R τ):=by
  rcases q with⟨fl,st',e1,q⟩ | ⟨y,st',e1,q⟩
  ·obtain⟨v,st1,e2,e3⟩:=zd e1;split at e3
   ·split at e3<;>cases e3
   ·cases e3
  ·obtain⟨v,st1,e2,e3⟩:=zgf e1;split at e3
   ·split at e3
    ·rename_i hi;cases e3;exact⟨_,_,e2,hi.1,hi.2,q⟩
    ·cases e3
   ·cases e3
 obtain⟨fI,fd,qual,st0,xR,Rb,ic,fn,ib,nR,bi⟩:=hx.fn;have mR:X.mg xR=some (.ref Rb):=xcr I.mod.kin I.mod.glob nR;have mC:X.mg x=some (.ref C):=xcr I.mod.kin I.mod.glob hx.ns;refine zvd ic hc (zzn ic hx.kp (zbel (P:=X.prog) (w:=X.w) (mg:=X.mg) (base:=X.base) fn ib ic hx.at_ bi mR) hr hg mC (fn.binds (ib.bd qual)) ha.out hd he hpl) I
  ⟨ρ,σ,st,[.int i],st1,a,rp,e1,fun ρ1 H1 u x1 rp1 a1=>?_⟩
 obtain⟨v,rfl,a2⟩:=a1.one;cases a2;refine⟨by simp[xee],fun ea hea=>⟨ea,i,rfl,h0,h1,zj,fun d od hdn hde=>⟨rfl,ea,some d,rfl,zj,fun s1 I1=>?_⟩⟩⟩;have hd1:H1 d=none:=by rw[zm hde] at hdn;exact hdn
 have hH:upd (upd (upd H1 ea (.ext (Fresh ea C none))) d (.frz od (.xd [("at", .int i)]))) ea (.ext (Fresh ea C (some d)))=upd (upd H1 d (.frz od (.xd [("at", .int i)]))) ea (.ext (Fresh ea C (some d))):=by
  funext b
  by_cases hb:b=ea
  ·rw[hb,zj,zj]
  ·rw[zm hb,zm hb];by_cases hb2:b=d
   ·rw[hb2,zj,zj]
   ·rw[zm hb2,zm hb2,zm hb]
 rw[hH] at I1;have n3:upd H1 d (.frz od (.xd [("at", .int i)])) ea=none:=by rw[zm hde.symm]; exact hea
 have fr:Fresh ea C (some d) s1.heap:=(I1.hok ea _ zj).1;have I2:=I1.poke (ea:=ea) (ψ:=fun _=>True) (g:=s1.heap) (t':=s1.toks) zj (fun _ _ _ z=>z) (zxr (by obtain⟨oe,_,z,_⟩:=fr;exact⟨oe,z⟩));rw[zxe] at I2;obtain⟨oe,v0,f1,f2,f3,f4⟩:=fr;refine hw aA τ _ ea C (some d) s1 I2 n3 ⟨oe,_,f1,f2,f3,f4,rfl,rfl⟩ (q ρ1 _ C (some d) (x1.trans (Ext.new hd1 _)) (rp1.new hd1 _) ⟨hx.ns,.inr ⟨i,d,od,rfl,rfl,zj,zfx rp1 hd1⟩⟩)
end
section
variable {X:Cx}{R:RXT}{e:Expr}{es:List Expr}{f:SE}{g:SA}{sm:Stmt}{rest body:List Stmt}{s t:SS}{pos p:Pos}{x:Str}
noncomputable def eAt (i:Nat) (cs:List Str):SE:=fun σ st=>match σ[i]? with
 | some (some (.exn c [n]))=>if c∈cs then .ok (.int n) st else .stuck
 | _=>.stuck
noncomputable def AtHas (K:Fg) (C:Addr):Prop:=(∃f,InitCls K C f)/\AtCls K C/\ErrLook K C
theorem zbnm {n:Str}{i:Nat}{cs:List Str}{p1:Pos}(hv:PE X (.Name n p1) (tVar i))(hk:∀ c∈cs, ∀ C, W.nsIn X.K mainGlobals c=some (some (.ref C))->AtHas X.K C)(hb:attributeBase (.Name n p1) "at" X.env (eval (.Name n p1) X.env)=eval (.Name n p1) X.env:=by rfl) :
  JE X (.Attribute (.Name n p1) "at" pos) (eAt i cs):=⟨zgh (zbmg hv hb) fun τ H Q hq0=>by
 obtain⟨ρ,σ,st,v,st',a,rp,e,q⟩:=hq0;unfold eAt at e;split at e
 ·next c m hi =>
  split at e
  ·next hc =>
   cases e;obtain⟨u,h1,h2⟩:=a.get hi;cases h2 with
   | exn h2 =>
    obtain⟨C,o,h3,h4,h5,⟨vs,h6,_⟩,h7⟩:=h2;rcases h7 with⟨z,_⟩ | ⟨j,dx,od,z,z2,z3,z4⟩
    ·cases z
    ·cases z;obtain⟨k1,k2,k3⟩:=hk c hc C h3;exact⟨_,h1,_,o,C,m,dx,od,rfl,h4.1,h5,⟨vs,h6⟩,z2,z3,k1,k2,k3,q _ _ _ (.refl _ _) rp (.int m)⟩
  ·cases e
 ·cases e⟩
end
noncomputable def initOf (s:Stmt):Stmt:=match s with
 | .ClassDef _ _ _ body _ _ _ _ _ _ _=>body.getD 0 (.Pass ⟨0,0,0,0⟩)
 | _=>.Pass ⟨0,0,0,0⟩
theorem ztf {K:Fg}{x xR:Str}{C R fI N:Addr}{st:Stmt}{nm q qual:Str}{bs tl:List Value}{sn:List Str}{sub:List Value}{ab:Bool}{col:Option Bool}{dd od an:Option Addr}{k0 k1 k2 k3 k5:Option Value}{sl:Array (Option Value)}{oc kV dc pm cd ct:Value}
  (ib:InitBody st xR)(ns:W.nsIn K mainGlobals x=some (some (.ref C)))(kp:W.keepIn K (.ref C)=true)(lC:K.lookup C=some (excClassObj nm q C N bs tl true sn sub ab col dd k0 k1 k2 k3 k5 "ValueError.__new__"))(tC:W.tailIn K bmV tl=true)
  (nI:W.nsIn K N "__init__"=some (some (.ref fI)))(fi:W.findIn K (.ref C) "__init__"=some (some (.ref fI)))(ft:W.typeIn K (.ref fI)=some (.type "function"))
  (lf:K.lookup fI=some ⟨oc, od, .func (W.fnOf "__init__" qual (defArgs st) (defBody st) (defScope st) .none kV dc pm an cd ct), sl⟩)(cf:W.codeIn K cd qual=true)(kf:W.keepIn K (.ref fI)=true)
  (sa:W.findIn K (.ref C) "__setattr__"=some (some (.builtin "object.__setattr__")))(at0:W.findIn K (.ref C) "at"=some none)(nR:W.nsIn K mainGlobals xR=some (some (.ref R)))
  (b1:W.specialIn K (.ref R) "__getattribute__"=some (some (.builtin "type.__getattribute__")))(b2:W.readsIn K R (.type "type")=true)(b3:W.findCls K (.ref R) (.type "type") "__init__"=some (.val (.builtin "ValueError.__init__"))):ErrInit K x C :=
 ⟨ns,kp,⟨sa,at0⟩,fI,_,qual,st,xR,R,⟨⟨nm,q,N,bs,tl,sn,sub,ab,col,dd,k0,k1,k2,k3,k5,lC,tC⟩,fi,ft⟩,zben lf cf kf,ib,nR,⟨b1,b2,b3⟩⟩
theorem athas {K:Fg}{x:Str}{C:Addr}(e:ErrInit K x C)(l:ErrLook K C):AtHas K C:=let ⟨fI,_,_,_,_,_,ic,_⟩:=e.fn;⟨⟨fI,ic⟩,e.at_,l⟩
end Dd
namespace L2
open PySem PySem.Spec PyProof.Rows
end L2
namespace Dd
open PySem L2 PyProof.Rows
section
variable {X:Cx}{R:RXT}{e:Expr}{es:List Expr}{f:SE}{g:SA}{pos p:Pos}{x:Str}
end
end Dd
namespace L2
open PySem PySem.Spec PyProof.Rows
noncomputable def DictIn (h:Heap) (o:Obj) (od:Option Obj):Prop:=match o.dict,od with
 | some dx,some ob=>h.get? dx=some ob
 | none,none=>True
 | _,_=>False
theorem zpd {K:Fg}{a C:Addr}{o:Obj}{P:Heap->Prop}(L:ErrLook K C)(hP:∀h,P h->h.get? a=some o/\∃od,DictIn h o od)(hn:∃vs,o.data=.fields vs)(hc:o.cls=.ref C):W.KitX K (.ref a) (.ref C) P:=by
 have inst:∀{h:Heap},P h->∃od,W.InstAt h a o C od:=fun e=>by
  obtain⟨e1,od,e2⟩:=hP _ e;exact⟨od,e1,hc,by obtain⟨vs,q⟩:=hn;unfold W.notCls;rw[q],e2⟩
 obtain⟨oc,cd,l1,l2⟩:=zbjb L.cls;refine⟨fun M h _ e=>let ⟨_,i⟩:=inst e;i.type,fun M h X _=>?_,fun h tp dd its n sl X htp=>?_,fun {prog w A E Q s} X e k=>?_⟩
 ·intro A' Q' E' s' k q;unfold isType loadHead;refine xba (wpAny_loadPart (k _ _ (X _ _ l1)) (xbd ?_));rw[l2];exact q
 ·refine Bool.eq_false_iff.mpr fun q=>?_
  have e:C=tp:=Value.ref.inj (xfd.mp q);subst e;have z:=(X _ _ l1).symm.trans htp;cases z;cases l2
 ·obtain⟨od,i⟩:=inst e;exact zwf X i L k
section
variable {X:Cx}
noncomputable def rIse (K:Fg) (xs:List V) (H:Hp) (Q:VK):Prop:=∃a o C c cv b,xs=[.ref a,c]/\RelV c cv/\(∀u,RelV c u->u=cv)/\H a=some (.frz o HX)/\o.cls=.ref C/\ErrLook K C/\(o.dict=none\/∃d od y,o.dict=some d/\H d=some (.frz od y))/\(∃vs,o.data=.fields vs)/\W.kitOne K (.ref C) cv=some b/\Q (.bl b) H
theorem zbbf:CallR X (.builtin "isinstance") (rIse X.K):=by
 intro aA s σ H xs us Q I r h;obtain⟨a,o,C,c,cv,b,rfl,_,un,h1,h2,lk,h3,h4,e,q⟩:=h;obtain⟨u,w',rfl,ru,rw'⟩:=vals2 r;obtain rfl:=un _ rw';cases(show u=Value.ref a from ru);have e1:=(I.hok a _ h1).1;rcases h3 with h3 | ⟨d,od,y,h3,h5⟩
 ·exact xdk (zpd (P:=fun h=>h.get? a=some o) lk (fun h e=>⟨e,none,by unfold DictIn;rw[h3];trivial⟩) h4 h2) I.kIn e1 e (by intro z;cases z) fun tk=>⟨.bl b,H,I.tok tk,rfl,q⟩
 ·exact xdk (zpd (P:=fun h=>h.get? a=some o/\h.get? d=some od) lk (fun h e=>⟨e.1,some od,by unfold DictIn;rw[h3];exact e.2⟩) h4 h2) I.kIn ⟨e1,(I.hok d _ h5).1⟩ e (by intro z;cases z) fun tk=>⟨.bl b,H,I.tok tk,rfl,q⟩
end
end L2
namespace Dd
open PySem L2 PyProof.Rows
noncomputable def eIsE (i:Nat) (tbl:List (Str×Bool)):SE:=fun σ st=>match σ[i]? with
 | some (some (.exn c _))=>match tbl.lookup c with
  | some b=>.ok (.bl b) st
  | none=>.stuck
 | _=>.stuck
theorem zgc {X:Cx}{n d:Str}{i:Nat}{tbl:List (Str×Bool)}{dv:V}{cv:Value}{p p1 p2 pos:Pos}(hg:Gl X "isinstance")(hm:X.mg "isinstance"=none)(hv:PE X (.Name n p1) (tVar i))(hd:PE X (.Name d p2) (tC dv))(r:RelV dv cv)(un:∀ u, RelV dv u->u=cv)
  (hk:∀ q∈tbl, ∀ C, W.nsIn X.K mainGlobals q.1=some (some (.ref C))->ErrLook X.K C/\W.kitOne X.K (.ref C) cv=some q.2):JE X (.Call (.Name "isinstance" p) [.Name n p1, .Name d p2] [] pos) (eIsE i tbl) :=
 ⟨zgh (zsi zbbf hg hm zbi (zkc hv (zkc hd zvi))) fun τ H Q hq0=>by
  obtain⟨ρ,σ,st,v,st',a,rp,e,q⟩:=hq0;unfold eIsE at e;split at e
  ·next c l hi =>
   split at e
   ·next b hb =>
    cases e;obtain⟨u,h1,h2⟩:=a.get hi;cases h2 with
    | exn h2 =>
     obtain⟨C,o,h3,h4,h5,h6,h7⟩:=h2;obtain⟨lk,e1⟩:=hk (c,b) (xdy hb) C h3;have hd0:o.dict=none\/∃d od y,o.dict=some d/\H d=some (.frz od y):=by
      rcases h7 with⟨_,z⟩ | ⟨_,dx,od,_,z,z2,_⟩
      ·exact .inl z
      ·exact .inr ⟨dx,od,_,z,z2⟩
     exact⟨_,h1,_,o,C,dv,cv,b,rfl,r,un,h4.1,h5,lk,hd0,(let ⟨vs,q,_⟩:=h6;⟨vs,q⟩),e1,q _ _ _ (.refl _ _) rp (.bl b)⟩
   ·cases e
  ·cases e⟩
end Dd
namespace L2
open PySem PySem.Spec PyProof.Rows
theorem zol:∀{ts:List Str} {its:List Value},Vals (ts.map V.str) its->∃l:List (Str×Tok),its=strValues l/\l.map (·.1)=ts
 | [],_,h=>by cases h;exact⟨[],rfl,rfl⟩
 | x::ts,_,h=>by
  cases h with
  | cons a b =>
   obtain⟨l,rfl,e⟩:=zol b;obtain⟨t,rfl⟩:=(show ∃t,_=Value.str x t from a)
   exact⟨(x,t)::l,rfl,by rw[xbp,e]⟩
noncomputable def rJoin (K:Fg):V->List V->Hp->VK->Prop:=fun x vs H Q=>∃(sep:Str) (l:Addr) (ts:List Str),x=.str sep/\vs=[.ref l]/\SqL K H l (ts.map V.str)/\JoinOk sep ts=true/\Q (.str (Txt.join sep ts)) H
theorem zbdz {X:Cx}:MtR X "str.join" (rJoin X.K):=by
 intro aA s σ H x vs v us Q I rx rv h;obtain⟨sep,l,ts,rfl,rfl,hl,hok,q⟩:=h;obtain⟨t,rfl⟩:=rx;obtain⟨u,rfl,ru⟩:=rv.one;cases(show u=Value.ref l from ru);obtain⟨its,r,pl,_⟩:=I.list hl;obtain⟨ps,rfl,e⟩:=zol r;exact SC.join pl.isList e hok fun t' k=>⟨.str _,H,I.tok k,⟨t',rfl⟩,q⟩
end L2
namespace Dd
open PySem L2 PyProof.Rows
noncomputable def asStrs:List D->Option (List Str)
 | []=>some []
 | .str x::ds=>(asStrs ds).map (x::·)
 | _::_=>none
theorem zqd {K:Fg}{ρ:Loc}{H:Hp}:∀{ds:List D} {us:List V} {ts:List Str},AtAll K ρ H ds us->asStrs ds=some ts->us=ts.map V.str
 | [],us,ts,a,h=>by cases h;cases a;rfl
 | d::ds,us,ts,a,h=>by
  unfold asStrs at h;split at h
  ·rename_i e;cases e
  ·rename_i x ds' e;cases e;obtain⟨ts',e,rfl⟩:=xcw.mp h;cases a with
   | cons a1 a2=>cases a1;rw[zqd a2 e];rfl
  ·cases h
noncomputable def eJoin (f:SE) (g:SA):SE:=fun σ st=>(f σ st).bind fun x st1=>match x with
 | .str sep=>(g σ st1).bind fun ys st2=>match ys with
  | [.lst ds]=>match asStrs ds with
   | some ts=>if JoinOk sep ts=true then .ok (.str (Txt.join sep ts)) st2 else .stuck
   | none=>.stuck
  | _=>.stuck
 | _=>.stuck
section
variable {X:Cx}{o e:Expr}{es:List Expr}{f:SE}{ga:SA}{apos cpos:Pos}
theorem zbfp (ho:JE X o f)(ha:JA X (e::es) ga)(hbase:attributeBase o "join" X.env (eval o X.env)=eval o X.env:=by rfl)
  (hfew:((backTo cpos (starEach (e::es) X.env)).all (fun x=>!x.1)&&(backToKw cpos (keywordEach [] X.env)).all (fun x=>x.1.isSome)
   && decide ((e::es).length+([]:List Keyword).length+(if([]:List Keyword).isEmpty then 0 else 1) < 30))=true:=by rfl)
  (hline:(apos.endLine==cpos.line)=true:=by rfl)(hs:starEach (e::es) X.env=(false,eval e X.env)::starEach es X.env:=by rfl)(hplain:(backTo cpos (starEach es X.env)).any (·.1)=false:=by rfl) :
  JE X (.Call (.Attribute o "join" apos) (e::es) [] cpos) (eJoin f ga):=⟨zgh (zbgq F.plainAttrs_str F.slot_str_join F.type_str_join zbdz ho.out ha.out hbase hfew hline hs hplain) fun τ H Q hq0=>by
 obtain⟨ρ,σ,st,v,st',a,rp,e,q⟩:=hq0;obtain⟨x,st1,e1,e⟩:=zd e;refine⟨ρ,σ,st,x,st1,a,rp,e1,fun ρ1 H1 u x1 rp1 a1=>?_⟩;split at e
 ·rename_i sep;obtain⟨ys,st2,e2,e⟩:=zd e;cases a1;refine⟨rfl,ρ1,σ,st1,ys,st2,a.ext x1,rp1,e2,fun ρ2 H2 ws x2 rp2 a2=>?_⟩;split at e
  ·rename_i ds;split at e
   ·rename_i ts hn;split at e
    ·rename_i hj;cases e;obtain⟨w,rfl,a3⟩:=a2.one;cases a3 with
     | lst k1 k2 k3 =>
      have e:=zqd k3 hn;subst e;exact⟨sep,_,ts,rfl,rfl,SqL.of k1,hj,q _ _ _ (x1.trans x2) rp2 (.str _)⟩
    ·cases e
   ·cases e
  ·cases e
 ·cases e⟩
end
end Dd
namespace Dd
open PySem L2
noncomputable def zez:DFn:=fnD 5 2 (sSeq (sSet 2 (eC (.int 0)))
 (sSeq (sIf (eB (eOp oLtT (eVar 1) (eCall bLen (aCons (eVar 0) aNil)))) (sSet 2 (eCall bAbs (aCons (eOp oIx (eVar 0) (eVar 1)) aNil))) sNx)
 (sSeq (sSet 3 (eOp oAdd (eOp oMulI (eC (.int 7919)) (eVar 1)) (eC (.int 17))))
 (sSeq (sFor (iR1 (aCons (eCall bMin2 (aCons (eCall bLen (aCons (eVar 0) aNil)) (aCons (eC (.int 60)) aNil))) aNil)) (gN 4) (sSet 3 (eOp oMod (eOp oAdd (eOp oAdd (eOp oMulI (eVar 3) (eC (.int 48271))) (eOp oMod (eOp oIx (eVar 0) (eVar 4)) (eC (.int 2147483647)))) (eVar 4)) (eC (.int 2147483629)))))
 (sSeq (sIf (eB (eOp oLtT (eVar 2) (eOp oPow (eC (.int 10)) (eC (.int 18))))) (sSet 2 (eC (.int 0))) sNx)
 (sRet (eLstM (aCons (eVar 2) (aCons (eVar 3) aNil)))))))))
noncomputable def zl:DFn:=fnD 5 2 (sSeq (sIf (eB (eOp oGt (eOp oIx (eVar 0) (eC (.int 0))) (eC (.int 0)))) (sSeq (sSet 2 (eOp oMod (eOp oIx (eVar 0) (eC (.int 0))) (eVar 1)))
 (sSeq (sSetIx (eVar 0) (eC (.int 0)) (eOp oFdiv (eOp oIx (eVar 0) (eC (.int 0))) (eVar 1)))
 (sRet (eVar 2)))) sNx)
 (sSeq (sSet 3 (eC (.int 0)))
 (sSeq (sSet 4 (eC (.int 1)))
 (sSeq (sWhile (eB (eOp oLtT (eVar 4) (eVar 1))) (sSeq (sSetIx (eVar 0) (eC (.int 1)) (eOp oMod (eOp oAdd (eOp oMulI (eOp oIx (eVar 0) (eC (.int 1))) (eC (.int 48271))) (eC (.int 7919))) (eC (.int 2147483647))))
 (sSeq (sSet 3 (eOp oAdd (eOp oMulI (eVar 3) (eC (.int 1073741789))) (eOp oMod (eOp oMulI (eOp oFdiv (eOp oIx (eVar 0) (eC (.int 1))) (eC (.int 8))) (eC (.int 69621))) (eC (.int 1073741789)))))
 (sSet 4 (eOp oMulI (eVar 4) (eC (.int 1073741789)))))))
 (sRet (eOp oMod (eVar 3) (eVar 1)))))))
noncomputable def zlp:DFn:=fnD 2 2 (sIf (eB (eOp (oDIn false) (eVar 1) (eVar 0))) (sDrop (eDPop (eVar 0) (eVar 1))) (sDPut (eVar 0) (eVar 1) (eC (.bl true))))
noncomputable def zfp:SS:=(sDPut (eVar 1) (eVar 2) (eNot (eDGet2 (eVar 1) (eVar 2) (eC (.bl false)))))
noncomputable def zbp:DFn:=fnD 3 1 (sSeq (sSet 1 eDNew)
 (sSeq (sFor (iSeq (eVar 0)) (gN 2) zfp)
 (sRet (eCall bTuple (aCons (eCall bSorted (aCons (eComp (iDict (eVar 1)) 1 [1] (gN 0) (eTru (eOp oDGet (eVar 1) (eVar 0))) (eVar 0)) aNil)) aNil)))))
noncomputable def zeo:SS:=(sSet 2 (eOp oFdiv (eOp oMulI (eVar 2) (eOp oSub (eVar 0) (eVar 3))) (eOp oAdd (eVar 3) (eC (.int 1)))))
noncomputable def zcw:DFn:=fnD 4 2 (sSeq (sSet 2 (eC (.int 1)))
 (sSeq (sFor (iR1 (aCons (eVar 1) aNil)) (gN 3) zeo)
 (sRet (eVar 2))))
noncomputable def zeq:SS:=(sIf (eB (eOp oEq (eOp oMod (eCall zcw (aCons (eOp oSub (eOp oSub (eVar 1) (eVar 3)) (eC (.int 1))) (aCons (eOp oSub (eVar 0) (eOp oMulI (eC (.int 2)) (eVar 3))) aNil))) (eC (.int 2))) (eC (.int 1)))) (sDrop (eAppend (eVar 2) (aCons (eCall bTuple (aCons (eComp (iSeq (eLst (aCons (eOp oSub (eOp oAdd (eVar 0) (eVar 1)) (eVar 3)) (aCons (eVar 3) aNil)))) 1 [] (gN 0) (eB (eOp oGt (eVar 0) (eC (.int 0)))) (eVar 0)) aNil)) aNil))) sNx)
noncomputable def zdj:DFn:=fnD 4 2 (sSeq (sSet 2 (eLstM aNil))
 (sSeq (sFor (iR1 (aCons (eOp oAdd (eOp oFdiv (eVar 0) (eC (.int 2))) (eC (.int 1))) aNil)) (gN 3) zeq)
 (sRet (eCall bTuple (aCons (eCall bSorted (aCons (eVar 2) aNil)) aNil)))))
noncomputable def zca:DFn:=fnD 4 3 (sSeq (sSet 3 (eComp (iSeq (eCall zdj (aCons (eOp oIx (eVar 1) (eVar 2)) (aCons (eOp oIx (eVar 1) (eOp oAdd (eVar 2) (eC (.int 1)))) aNil)))) 1 [1,2] (gN 0) bYes (eOp oAdd (eOp oAdd (eSl (eVar 1) pNone (pSome (eVar 2))) (eVar 0)) (eSl (eVar 1) (pSome (eOp oAdd (eVar 2) (eC (.int 2)))) pNone))))
 (sRet (eCall zbp (aCons (eOp oAdd (eOp oAdd (eCall bList (aCons (eVar 0) aNil)) (eLst (aCons (eVar 1) aNil))) (eVar 3)) aNil))))
noncomputable def zcx:DFn:=fnD 1 1 (sRet (eComp (iR1 (aCons (eOp oSub (eCall bLen (aCons (eVar 0) aNil)) (eC (.int 1))) aNil)) 1 [0] (gN 0) (eB (eOp oLtT (eOp oIx (eVar 1) (eVar 0)) (eOp oMulI (eC (.int 2)) (eOp oIx (eVar 1) (eOp oAdd (eVar 0) (eC (.int 1))))))) (eVar 0)))
noncomputable def zfo:SS:=(sIf (eB (eOp oGt (eVar 4) (eC (.int 0)))) (sSeq (sDrop (eAppend (eVar 3) (aCons (eOp oAdd (eC (.int 1)) (eCall zl (aCons (eVar 0) (aCons (eOp oIx (eLst (aCons (eVar 4) (aCons (eCall bMin2 (aCons (eVar 4) (aCons (eC (.int 5)) aNil))) (aCons (eCall bMin2 (aCons (eVar 4) (aCons (eC (.int 2)) aNil))) aNil)))) (eCall zl (aCons (eVar 0) (aCons (eC (.int 3)) aNil)))) aNil)))) aNil)))
 (sSet 4 (eOp oSub (eVar 4) (eOp oIx (eVar 3) (eUn oNeg (eC (.int 1))))))) sNx)
noncomputable def zbv:DFn:=fnD 6 3 (sSeq (sSet 3 (eLstM aNil))
 (sSeq (sSet 4 (eVar 1))
 (sSeq (sFor (iR1 (aCons (eCall zl (aCons (eVar 0) (aCons (eOp oAdd (eVar 2) (eC (.int 1))) aNil))) aNil)) (gN 5) zfo)
 (sRet (eCall bTuple (aCons (eVar 3) aNil))))))
noncomputable def zep:DFn:=fnD 4 4 (sRet (eCall zbp (aCons (eComp (iR1 (aCons (eCall zl (aCons (eVar 0) (aCons (eOp oAdd (eVar 1) (eC (.int 1))) aNil))) aNil)) 1 [0,2,3] (gN 0) bYes (eCall zbv (aCons (eVar 1) (aCons (eVar 2) (aCons (eVar 3) aNil))))) aNil)))
noncomputable def zci:DFn:=fnD 5 2 (sSeq (sSet 2 (eOp oAdd (eC (.int 1)) (eCall zl (aCons (eVar 0) (aCons (eOp oFdiv (eVar 1) (eC (.int 2))) aNil)))))
 (sSeq (sSet 3 (eOp oAdd (eC (.int 1)) (eCall zl (aCons (eVar 0) (aCons (eCall bMin2 (aCons (eOp oSub (eOp oMulI (eC (.int 2)) (eVar 2)) (eC (.int 1))) (aCons (eOp oSub (eVar 1) (eVar 2)) aNil))) aNil)))))
 (sSeq (sSet 4 (eCall zbv (aCons (eVar 0) (aCons (eOp oSub (eOp oSub (eVar 1) (eVar 3)) (eVar 2)) (aCons (eC (.int 2)) aNil)))))
 (sRet (eOp oAdd (eOp oAdd (eVar 4) (eTup (aCons (eVar 3) (aCons (eVar 2) aNil)))) (eCall zbv (aCons (eVar 0) (aCons (eOp oSub (eOp oSub (eOp oSub (eVar 1) (eVar 3)) (eVar 2)) (eCall bSum (aCons (eVar 4) aNil))) (aCons (eC (.int 2)) aNil)))))))))
noncomputable def zdx:SS:=(sDPut (eVar 1) (eVar 2) (eC (.bl true)))
noncomputable def zdi:DFn:=fnD 3 1 (sSeq (sSet 1 eDNew)
 (sSeq (sFor (iSeq (eVar 0)) (gN 2) zdx)
 (sRet (eVar 1))))
noncomputable def zen:DFn:=fnD 2 2 (sRet (eOp oEq (eOp oAndI (eVar 0) (eVar 1)) (eVar 1)))
noncomputable def zcq:SS:=(sIf (eTru (eCall zen (aCons (eOp oSub (eOp oSub (eVar 1) (eVar 3)) (eC (.int 1))) (aCons (eOp oSub (eVar 0) (eOp oMulI (eC (.int 2)) (eVar 3))) aNil)))) (sDrop (eAppend (eVar 2) (aCons (eIf (eB (eOp oGt (eVar 3) (eC (.int 0)))) (eTup (aCons (eOp oSub (eOp oAdd (eVar 0) (eVar 1)) (eVar 3)) (aCons (eVar 3) aNil))) (eTup (aCons (eOp oAdd (eVar 0) (eVar 1)) aNil))) aNil))) sNx)
noncomputable def zbu:DFn:=fnD 4 2 (sSeq (sSet 2 (eLstM aNil))
 (sSeq (sFor (iR1 (aCons (eOp oAdd (eOp oFdiv (eVar 0) (eC (.int 2))) (eC (.int 1))) aNil)) (gN 3) zcq)
 (sRet (eCall bSorted (aCons (eVar 2) aNil)))))
noncomputable def zbl:DFn:=fnD 4 2 (sSeq (sSet 2 (eSl (eVar 0) pNone (pSome (eVar 1))))
 (sSeq (sSet 3 (eSl (eVar 0) (pSome (eOp oAdd (eVar 1) (eC (.int 2)))) pNone))
 (sRet (eComp (iSeq (eCall zbu (aCons (eOp oIx (eVar 0) (eVar 1)) (aCons (eOp oIx (eVar 0) (eOp oAdd (eVar 1) (eC (.int 1)))) aNil)))) 1 [3,2] (gN 0) bYes (eOp oAdd (eOp oAdd (eVar 2) (eVar 0)) (eVar 1))))))
noncomputable def zq:DFn:=fnD 1 1 (sRet (eAnd (eCall bIsinst (aCons (eVar 0) (aCons (eC (.ty "int")) aNil))) (eNot (eCall bIsinst (aCons (eVar 0) (aCons (eC (.ty "bool")) aNil))))))
noncomputable def zba:DFn:=fnD 2 2 (sRet (eAnd (eCall bIsinst (aCons (eVar 1) (aCons (eC (.ty "tuple")) aNil))) (eAnd (eCall (bAny true) (aCons (eComp (iSeq (eVar 1)) 1 [] (gN 0) bYes (eCall zq (aCons (eVar 0) aNil))) aNil)) (eOp (oDIn false) (eVar 1) (eVar 0)))))
noncomputable def zcj:DFn:=fnD 2 2 (sRet (eOp oLtT (eVar 0) (eOp oMulI (eC (.int 2)) (eVar 1))))
noncomputable def zbn:DFn:=fnD 2 2 (sSeq (sIf (bOr (bNot (eTru (eCall zq (aCons (eVar 1) aNil)))) (bNot (eB (eChain oLe oLtT (eC (.int 0)) (eVar 1) (eOp oSub (eCall bLen (aCons (eVar 0) aNil)) (eC (.int 1))))))) (sRet (eC (.bl false))) sNx)
 (sRet (eCall zcj (aCons (eOp oIx (eVar 0) (eVar 1)) (aCons (eOp oIx (eVar 0) (eOp oAdd (eVar 1) (eC (.int 1)))) aNil)))))
noncomputable def zck:SS:=(sDrop (eCall zlp (aCons (eVar 0) (aCons (eVar 3) aNil))))
noncomputable def zes:DFn:=fnD 4 3 (sSeq (sIf (bNot (eTru (eCall zba (aCons (eVar 0) (aCons (eVar 1) aNil))))) sStuck sNx)
 (sSeq (sIf (bNot (eTru (eCall zbn (aCons (eVar 1) (aCons (eVar 2) aNil))))) sStuck sNx)
 (sSeq (sDrop (eCall zlp (aCons (eVar 0) (aCons (eVar 1) aNil))))
 (sFor (iSeq (eCall zbl (aCons (eVar 1) (aCons (eVar 2) aNil)))) (gN 3) zck))))
noncomputable def zw:DFn:=fnD 4 3 (sSeq (sIf (noX (bNot (eTru (eCall zba (aCons (eVar 0) (aCons (eVar 1) aNil)))))) (sRaiseI "NoRow" (noX (aCons (eC (.int 0)) aNil))) (noX sNx))
 (sSeq (sIf (noX (bNot (eTru (eCall zbn (aCons (eVar 1) (aCons (eVar 2) aNil)))))) (sRaise "NoExchange" (noX (aCons (eC (.str "no two neighbours to exchange stand at this place")) aNil))) (noX sNx))
 (noX (sSeq (sDrop (eCall zlp (aCons (eVar 0) (aCons (eVar 1) aNil))))
 (sFor (iSeq (eCall zbl (aCons (eVar 1) (aCons (eVar 2) aNil)))) (gN 3) zck)))))
noncomputable def zbb:(Store->Res D)->SS:=fun g=>(sSeq (sTry 3 ["NoExchange", "NoRow"] (sDrop fun _=>g) (sSeq (sIf (bNot (eTru (eIsE 3 [("NoExchange", true),("NoRow", true)]))) (sRet (eC (.str "another"))) sNx)
 (sSeq (sSet 1 (eLst (aCons (eIsE 3 [("NoExchange", true),("NoRow", false)]) (aCons (eIsE 3 [("NoExchange", false),("NoRow", true)]) (aCons (eIsE 3 [("NoExchange", false),("NoRow", false)]) (aCons (eIsE 3 [("NoExchange", false),("NoRow", false)]) aNil))))))
 (sSeq (sSet 2 (eLst (aCons (eIsE 3 [("NoExchange", false),("NoRow", false)]) (aCons (eIsE 3 [("NoExchange", false),("NoRow", false)]) (aCons (eIsE 3 [("NoExchange", false),("NoRow", false)]) (aCons (eIsE 3 [("NoExchange", false),("NoRow", false)]) aNil))))))
 (sSeq (sSet 2 (eOp oAdd (eVar 2) (eLst (aCons (eIsE 3 [("NoExchange", false),("NoRow", false)]) (aCons (eIsE 3 [("NoExchange", false),("NoRow", false)]) (aCons (eIsE 3 [("NoExchange", false),("NoRow", false)]) aNil))))))
 (sSeq (sSet 2 (eOp oAdd (eVar 2) (eLst (aCons (eIsE 3 [("NoExchange", false),("NoRow", false)]) (aCons (eIsE 3 [("NoExchange", false),("NoRow", false)]) aNil)))))
 (sSeq (sIf (bOr (eTru (eCall (bAny false) (aCons (eVar 2) aNil))) (eB (eOp oNe (eCountB (eVar 1) (aCons (eC (.bl true)) aNil)) (eC (.int 1))))) (sRet (eC (.str "another"))) sNx)
 (sRet (eOp oIx (eLst (aCons (eC (.str "exchange")) (aCons (eC (.str "row")) (aCons (eC (.str "many")) (aCons (eC (.str "part")) aNil))))) (eIndexB (eVar 1) (aCons (eC (.bl true)) aNil)))))))))))
 (sRet (eC (.str ""))))
noncomputable def zbw:(Store->Res D)->DFn:=fun g=>fnD 4 1 (zbb g)
noncomputable def zdk:DFn:=fnD 5 2 (sSeq (sSet 2 (eCall zl (aCons (eVar 0) (aCons (eCall bMax2 (aCons (eC (.int 1)) (aCons (eCall bLen (aCons (eVar 1) aNil)) aNil))) aNil))))
 (sSeq (sSet 3 (eOp oIx (eOp oAdd (eVar 1) (eTup (aCons (eC (.int 1)) aNil))) (eVar 2)))
 (sSeq (sSet 4 (eLst (aCons (eC (.bl true)) (aCons (eC (.bl false)) (aCons (eC (.int 0)) (aCons (eUn oNeg (eVar 3)) (aCons (eCall bStrI (aCons (eVar 3) aNil)) (aCons (eC .non) (aCons (eTup (aCons (eVar 3) aNil)) (aCons (eLst (aCons (eVar 3) aNil)) (aCons (eOp oAdd (eVar 3) (eC (.int 16))) (aCons (eOp oPow (eC (.int 10)) (eC (.int 39))) aNil))))))))))))
 (sRet (eOp oAdd (eOp oAdd (eSl (eVar 1) pNone (pSome (eVar 2))) (eTup (aCons (eOp oIx (eVar 4) (eCall zl (aCons (eVar 0) (aCons (eC (.int 10)) aNil)))) aNil))) (eSl (eVar 1) (pSome (eOp oAdd (eVar 2) (eC (.int 1)))) pNone))))))
noncomputable def zbz:DFn:=fnD 5 2 (sSeq (sSet 2 (eCall zl (aCons (eVar 0) (aCons (eC (.int 8)) aNil))))
 (sSeq (sSet 3 (eCall zbv (aCons (eVar 0) (aCons (eC (.int 16)) (aCons (eC (.int 6)) aNil)))))
 (sSeq (sIf (eB (eOp oGt (eCall bLen (aCons (eVar 1) aNil)) (eC (.int 0)))) (sSet 3 (eOp oIx (eVar 1) (eCall zl (aCons (eVar 0) (aCons (eCall bLen (aCons (eVar 1) aNil)) aNil))))) sNx)
 (sSeq (sIf (eB (eOp oLtT (eVar 2) (eC (.int 4)))) (sRet (eVar 3)) sNx)
 (sSeq (sIf (eB (eOp oLtT (eVar 2) (eC (.int 6)))) (sRet (eCall zdk (aCons (eVar 0) (aCons (eVar 3) aNil)))) sNx)
 (sSeq (sSet 4 (eLst (aCons (eCall zbv (aCons (eVar 0) (aCons (eC (.int 16)) (aCons (eC (.int 6)) aNil)))) (aCons (eCall bList (aCons (eVar 3) aNil)) (aCons (eTup (aCons (eVar 3) aNil)) (aCons (eC .non) (aCons (eC (.str "")) (aCons (eC (.bl true)) (aCons (eC (.int 0)) (aCons (eOp oAdd (eVar 3) (eTup (aCons (eC (.int 1)) aNil))) (aCons (eOp oAdd (eTup (aCons (eC (.int 0)) aNil)) (eVar 3)) (aCons (eOp oMulT (eTup (aCons (eC (.int 1)) aNil)) (eC (.int 7))) (aCons (eTup (aCons (eC (.int 17)) aNil)) aNil)))))))))))))
 (sSeq (sSet 4 (eOp oAdd (eVar 4) (eLst (aCons (eTup (aCons (eC (.int 9)) (aCons (eC (.int 8)) aNil))) (aCons (eOp oAdd (eVar 3) (eTup (aCons (eTup aNil) aNil))) (aCons (eJoin (eC (.str ".")) (aCons (eComp (iSeq (eVar 3)) 1 [] (gN 0) bYes (eCall bStrI (aCons (eVar 0) aNil))) aNil)) (aCons (eTup (aCons (eVar 3) (aCons (eVar 3) aNil))) (aCons (eOp oPow (eC (.int 10)) (eC (.int 39))) (aCons (eLst aNil) (aCons (eTup (aCons (eC (.bl true)) (aCons (eC (.int 1)) aNil))) aNil))))))))))
 (sSeq (sSet 4 (eOp oAdd (eVar 4) (eLst (aCons (eTup (aCons (eC (.str "1")) (aCons (eC (.int 1)) aNil))) (aCons (eUn oNeg (eC (.int 1))) aNil)))))
 (sRet (eOp oIx (eVar 4) (eCall zl (aCons (eVar 0) (aCons (eC (.int 20)) aNil)))))))))))))
noncomputable def zbm:DFn:=fnD 3 2 (sSeq (sSet 2 (eLst (aCons (eCall zl (aCons (eVar 0) (aCons (eC (.int 7)) aNil))) (aCons (eC (.bl true)) (aCons (eC (.bl false)) (aCons (eC .non) (aCons (eC (.str "0")) (aCons (eTup aNil) (aCons (eLst (aCons (eC (.int 0)) aNil)) (aCons (eUn oNeg (eC (.int 1))) (aCons (eUn oNeg (eC (.int 2))) (aCons (eC (.int 5)) (aCons (eC (.int 6)) (aCons (eOp oPow (eC (.int 10)) (eC (.int 39))) (aCons (eTup (aCons (eC (.int 0)) aNil)) (aCons (eTup (aCons (eC (.int 0)) (aCons (eC (.int 1)) aNil))) (aCons (eC (.str "")) (aCons (eUn oNeg (eOp oPow (eC (.int 10)) (eC (.int 39)))) aNil))))))))))))))))))
 (sSeq (sIf (bAnd (eTru (eCall bIsinst (aCons (eVar 1) (aCons (eC (.ty "tuple")) aNil)))) (eB (eOp oEq (eCall zl (aCons (eVar 0) (aCons (eC (.int 2)) aNil))) (eC (.int 0))))) (sRet (eCall zl (aCons (eVar 0) (aCons (eOp oAdd (eCall bLen (aCons (eVar 1) aNil)) (eC (.int 1))) aNil)))) sNx)
 (sRet (eOp oIx (eVar 2) (eCall zl (aCons (eVar 0) (aCons (eC (.int 16)) aNil)))))))
noncomputable def zer:DFn:=fnD 3 3 (sSeq (sIf (bOr (bNot (eTru (eCall bIsinst (aCons (eVar 1) (aCons (eC (.ty "tuple")) aNil))))) (bOr (eTru (eCall (bAny false) (aCons (eComp (iSeq (eVar 1)) 1 [] (gN 0) bYes (eNot (eCall zq (aCons (eVar 0) aNil)))) aNil))) (eB (eOp (oInG true) (eVar 1) (eVar 0))))) (sRet (eC (.str "row"))) sNx)
 (sRet (eOp oIx (eLst (aCons (eC (.str "exchange")) (aCons (eC (.str "")) aNil))) (eCall bInt (aCons (eAnd (eCall zq (aCons (eVar 2) aNil)) (eOp (oInG false) (eVar 2) (eCall zcx (aCons (eVar 1) aNil)))) aNil)))))
noncomputable def zbq:DFn:=fnD 4 3 (sSeq (noX (sSet 3 (eCall zdi (aCons (eVar 0) aNil))))
 (sSeq (sDrop (eCall zw (noX (aCons (eVar 3) (aCons (eVar 1) (aCons (eVar 2) aNil))))))
 (noX (sRet (eCall bTuple (aCons (eCall bSorted (aCons (eVar 3) aNil)) aNil))))))
noncomputable def zgg:DFn:=fnD 4 3 (sSeq (sTry 3 ["NoRow"] (sDrop (eCall zbq (noX (aCons (eVar 0) (aCons (eVar 1) (aCons (eVar 2) aNil)))))) (sRet (eAt 3 ["NoRow"])))
 (sRet (eC .non)))
noncomputable def zuj:SS:=(sIf (eB (eOp oNe (eRefd zbw [3,4,5] (eCall zbq (noX (aCons (eVar 0) (aCons (eVar 1) (aCons (eVar 2) aNil)))))) (eVar 6))) (sRet (eC (.bl false))) sNx)
noncomputable def zui:SS:=(sSeq (sSet 2 (eCall zez (aCons (eVar 0) (aCons (eVar 1) aNil))))
 (sSeq (sSet 3 (eCall zbp (aCons (eOp oAdd (eCall bList (aCons (eCall zep (aCons (eVar 2) (aCons (eC (.int 11)) (aCons (eC (.int 16)) (aCons (eC (.int 6)) aNil))))) aNil)) (eLst (aCons (eCall zci (aCons (eVar 2) (aCons (eC (.int 16)) aNil))) aNil))) aNil)))
 (sSeq (sSet 4 (eCall zbz (aCons (eVar 2) (aCons (eVar 3) aNil))))
 (sSeq (sSet 5 (eCall zbm (aCons (eVar 2) (aCons (eVar 4) aNil))))
 (sSeq (sSet 6 (eCall zer (aCons (eVar 3) (aCons (eVar 4) (aCons (eVar 5) aNil)))))
 (sSeq (sFor (iR1 (aCons (eC (.int 2)) aNil)) (gN 7) zuj)
 (sSeq (sIf (eB (eOp oEq (eVar 6) (eC (.str "row")))) (sSeq (sSet 8 (eCall zgg (aCons (eVar 3) (aCons (eVar 4) (aCons (eVar 5) aNil)))))
 (sIf (bOr (bNot (eTru (eCall zq (aCons (eVar 8) aNil)))) (eB (eOp oNe (eVar 8) (eC (.int 0))))) (sRet (eC (.bl false))) sNx)) sNx)
 (sIf (eB (eOp oEq (eVar 6) (eC (.str "")))) (sIf (eB (eOp oNe (eCall zbq (aCons (eVar 3) (aCons (eVar 4) (aCons (eVar 5) aNil)))) (eCall zca (aCons (eVar 3) (aCons (eVar 4) (aCons (eVar 5) aNil)))))) (sRet (eC (.bl false))) sNx) sNx))))))))
noncomputable def zblc:DFn:=fnD 9 1 (sSeq (sFor (iR1 (aCons (eOp oAdd (eCall bMin2 (aCons (eCall bLen (aCons (eVar 0) aNil)) (aCons (eC (.int 20)) aNil))) (eC (.int 3))) aNil)) (gN 1) zui)
 (sRet (eC (.bl true))))
noncomputable def RngOk (j:Int):Prop:=-(2 ^ 62)<=j/\j < 2 ^ 62
noncomputable instance (j:Int):Decidable (RngOk j):=by unfold RngOk;infer_instance
theorem rngOk {j:Int}(h1:-1000000000000<=j)(h2:j<=1000000000000):RngOk j:=⟨by lia,by lia⟩
section
variable {σ:DS}{st:Store}
@[simp] theorem eC_v {d:D}:eC d σ st=.ok d st:=rfl
@[simp] theorem zbev {i:Nat}:eVar i σ st=(match σ[i]? with
 | some (some d)=>.ok d st
 | _=>.stuck):=rfl
@[simp] theorem zxx {g:D->D->Store->Res D} {f f':SE}:eOp g f f' σ st=(f σ st).bind fun x st1=>(f' σ st1).bind fun y st2=>g x y st2:=rfl
@[simp] theorem zbns {g:D->Store->Res D} {f:SE}:eUn g f σ st=(f σ st).bind fun x st1=>g x st1:=rfl
@[simp] theorem zdf {g:List D->Store->Res D} {f:SA}:eCall g f σ st=(f σ st).bind fun xs st1=>g xs st1:=rfl
@[simp] theorem zbla:aNil σ st=.ok [] st:=rfl
@[simp] theorem zfh {f:SE} {g:SA}:aCons f g σ st=(f σ st).bind fun x st1=>(g σ st1).bind fun xs st2=>.ok (x::xs) st2:=rfl
@[simp] theorem eB_v {f:SE}:eB f σ st=(f σ st).bind fun v st1=>(match v with
 | .bl b=>.ok b st1
 | _=>.stuck):=rfl
@[simp] theorem zwh {f:SE}:eTru f σ st=(f σ st).bind fun v st1=>(match tru st1 v with
 | some b=>.ok b st1
 | none=>.stuck):=rfl
@[simp] theorem ztg {f f':SE}:eAnd f f' σ st=(f σ st).bind fun v st1=>(match v with
 | .bl true=>f' σ st1
 | .bl false=>.ok (.bl false) st1
 | _=>.stuck):=rfl
@[simp] theorem zbmt {f f':SE}:eOr f f' σ st=(f σ st).bind fun v st1=>(match v with
 | .bl true=>.ok (.bl true) st1
 | .bl false=>f' σ st1
 | _=>.stuck):=rfl
@[simp] theorem zbew {f:SE}:eNot f σ st=(f σ st).bind fun v st1=>(match v with
 | .bl b=>.ok (.bl (!b)) st1
 | _=>.stuck):=rfl
@[simp] theorem zbky {f f':ST}:bAnd f f' σ st=(f σ st).bind fun b st1=>if b=true then f' σ st1 else .ok false st1:=rfl
@[simp] theorem zbnp {f f':ST}:bOr f f' σ st=(f σ st).bind fun b st1=>if b=true then .ok true st1 else f' σ st1:=rfl
@[simp] theorem zbgj {f:ST}:bNot f σ st=(f σ st).bind fun b st1=>.ok (!b) st1:=rfl
@[simp] theorem zbno:bYes σ st=.ok true st:=rfl
@[simp] theorem zbmu {c:ST} {f f':SE}:eIf c f f' σ st=(c σ st).bind fun b st1=>if b=true then f σ st1 else f' σ st1:=rfl
@[simp] theorem zbjg {g:SA}:eTup g σ st=(g σ st).bind fun xs st1=>if xs.length<=sizeLine then .ok (.tup xs) st1 else .stuck:=rfl
@[simp] theorem zbjh {g:SA}:eLst g σ st=(g σ st).bind fun xs st1=>if xs.length<=sizeLine then .ok (.lst xs) st1 else .stuck:=rfl
@[simp] theorem zbex {g:SA}:eLstM g σ st=(g σ st).bind fun xs st1=>if xs.length<=sizeLine then .ok (.ref st1.length) (st1++[.lst xs]) else .stuck:=rfl
@[simp] theorem zbji {g g':D->D->Store->Res D} {f f' f'':SE}:eChain g g' f f' f'' σ st=(f σ st).bind fun x st1=>(f' σ st1).bind fun y st2=>(g x y st2).bind fun z st3=>(match z with
 | .bl true=>(f'' σ st3).bind fun w st4=>g' y w st4
 | .bl false=>.ok (.bl false) st3
 | _=>.stuck):=rfl
@[simp] theorem zbls:eDNew σ st=.ok (.ref st.length) (st++[.dT []]):=rfl
@[simp] theorem zbnr:sNx σ st=.ok (.nx σ) st:=rfl
@[simp] theorem zblz:sBrk σ st=.ok (.brk σ) st:=rfl
@[simp] theorem zku {f:SE}:sRet f σ st=(f σ st).bind fun v st1=>.ok (.ret v) st1:=rfl
@[simp] theorem zblh:sRetN σ st=.ok (.ret .non) st:=rfl
@[simp] theorem zos {f:SE}:sDrop f σ st=(f σ st).bind fun _ st1=>.ok (.nx σ) st1:=rfl
@[simp] theorem zbcq {i:Nat} {f:SE}:sSet i f σ st=(f σ st).bind fun v st1=>.ok (.nx (σ.set i (some v))) st1:=rfl
@[simp] theorem zbhj {s t:SS}:sSeq s t σ st=(match s σ st with
 | .ok (.nx σ1) st1=>t σ1 st1
 | r=>r):=rfl
@[simp] theorem zyw {c:ST} {s t:SS}:sIf c s t σ st=(c σ st).bind fun b st1=>if b=true then s σ st1 else t σ st1:=rfl
@[simp] theorem zbhl {i:Nat} {g:D->D->Store->Res D} {f:SE}:sAug i g f σ st=(match σ[i]? with
 | some (some x)=>(f σ st).bind fun y st1=>(g x y st1).bind fun z st2=>.ok (.nx (σ.set i (some z))) st2
 | _=>.stuck):=rfl
@[simp] theorem zyx {it:SA} {bd:SG} {body:SS}:sFor it bd body σ st=(it σ st).bind fun xs st1=>forF bd body xs σ st1:=rfl
@[simp] theorem zbem {f:SE}:iSeq f σ st=(f σ st).bind fun x st1=>(match seqV x with
 | some xs=>.ok xs st1
 | none=>.stuck):=rfl
@[simp] theorem zbmr {g:SA}:iR1 g σ st=(g σ st).bind fun xs st1=>(match xs with
 | [.int j]=>if RngOk j then .ok (rng 0 j.toNat) st1 else .stuck
 | _=>.stuck):=rfl
@[simp] theorem zbmq {g:SA}:iR2 g σ st=(g σ st).bind fun xs st1=>(match xs with
  | [.int i, .int j]=>if RngOk i/\RngOk j then .ok (rng i (j - i).toNat) st1 else .stuck
  | _=>.stuck):=by
  show(g σ st).bind _=_
  congr 1
  funext xs st1
  split
  · unfold RngOk
    simp only[and_assoc]
  · rename_i h
    first
      | rfl
      | (split
         · rename_i i j
           exact absurd rfl (h i j)
         · rfl)
@[simp] theorem zblp {f:SE}:iDict f σ st=(f σ st).bind fun x st1=>(match x with
 | .ref n=>(match st1[n]? with
  | some (.dT kvs)=>.ok (rowsD (kvs.map (·.1))) (st1.set n (.fT kvs))
  | _=>.stuck)
 | _=>.stuck):=rfl
@[simp] theorem zhd {it:SA} {k:Nat} {is:List Nat} {bd:SG} {c:ST} {f:SE}:eComp it k is bd c f σ st=(it σ st).bind fun xs st1=>if xs.length<=sizeLine then(compF bd c f xs (startD k is σ) st1).bind fun ys st2=>.ok (.lst ys) st2 else .stuck:=rfl
@[simp] theorem zbmv {f:SE}:eFz f σ st=(f σ st).bind fun x st1=>(match x with
 | .ref n=>(match st1[n]? with
  | some (.lst xs)=>.ok (.lst xs) (st1.set n .dead)
  | _=>.stuck)
 | _=>.stuck):=rfl
@[simp] theorem zblm:pNone σ st=.ok none st:=rfl
@[simp] theorem zbdp {f:SE}:pSome f σ st=(f σ st).bind fun v st1=>(match v with
 | .int i=>.ok (some i) st1
 | _=>.stuck):=rfl
@[simp] theorem zbms {f:SE} {lo hi:DS->Store->Res (Option Int)}:eSl f lo hi σ st=(f σ st).bind fun x st1=>(lo σ st1).bind fun l st2=>(hi σ st2).bind fun h st3=>(match x with
 | .tup xs=>.ok (.tup (cutD xs l h)) st3
 | x=>match asL st3 x with
  | some xs=>.ok (.lst (cutD xs l h)) st3
  | none=>.stuck):=rfl
@[simp] theorem zpo {f:SE} {g:SA}:eAppend f g σ st=(f σ st).bind fun x st1=>(match x,asL st1 x with
 | .ref n,some _=>(g σ st1).bind fun ys st2=>(match ys,st2[n]? with
  | [y],some (.lst xs)=>if xs.length < sizeLine then .ok .non (st2.set n (.lst (xs++[y]))) else .stuck
  | _,_=>.stuck)
 | _,_=>.stuck):=rfl
@[simp] theorem zbgv {f:SE} {g:SA}:eExtend f g σ st=(f σ st).bind fun x st1=>(match x,asL st1 x with
 | .ref n,some _=>(g σ st1).bind fun ys st2=>(match ys,st2[n]? with
  | [y],some (.lst xs)=>(match asL st2 y with
   | some zs=>if xs.length+zs.length<=sizeLine then .ok .non (st2.set n (.lst (xs++zs))) else .stuck
   | none=>.stuck)
  | _,_=>.stuck)
 | _,_=>.stuck):=rfl
@[simp] theorem zyv {f g h:SE}:sSetIx f g h σ st=(h σ st).bind fun v st1=>(f σ st1).bind fun x st2=>(g σ st2).bind fun y st3=>(match x,y with
 | .ref n,.int k=>(match st3[n]? with
  | some (.lst xs)=>(match ixN xs.length k with
   | some j=>.ok (.nx σ) (st3.set n (.lst (xs.set j v)))
   | none=>.stuck)
  | _=>.stuck)
 | _,_=>.stuck):=rfl
@[simp] theorem zbao {f g h:SE}:eDGet2 f g h σ st=(f σ st).bind fun x st1=>(match pairsOf st1 x with
 | some _=>(g σ st1).bind fun y st2=>(h σ st2).bind fun z st3=>(match pairsOf st3 x,keyOf y with
  | some kvs,some k=>.ok ((valD kvs k).getD z) st3
  | _,_=>.stuck)
 | none=>.stuck):=rfl
@[simp] theorem zblr {f g:SE}:eDPop f g σ st=(f σ st).bind fun x st1=>(match pairsOf st1 x with
 | some _=>(g σ st1).bind fun y st2=>(match x,keyOf y with
  | .ref n,some k=>(match st2[n]? with
   | some (.dT kvs)=>(match valD kvs k with
    | some v=>.ok v (st2.set n (.dT (dropD kvs k)))
    | none=>.stuck)
   | _=>.stuck)
  | _,_=>.stuck)
 | none=>.stuck):=rfl
@[simp] theorem zxi {f g h:SE}:sDPut f g h σ st=(h σ st).bind fun v st1=>(f σ st1).bind fun x st2=>(g σ st2).bind fun y st3=>(match x,keyOf y with
 | .ref n,some k=>(match st3[n]? with
  | some (.dT kvs)=>if kvs.length < sizeLine then .ok (.nx σ) (st3.set n (.dT (putD kvs k v))) else .stuck
  | _=>.stuck)
 | _,_=>.stuck):=rfl
theorem zblq {n np:Nat}{b:SS}{ds:List D}:fnD n np b ds st=if ds.length=np then(match b (ds.map some++List.replicate (n - np) none) st with
 | .ok (.ret v) st'=>.ok v st'
 | .ok (.nx _) st'=>.ok .non st'
 | .exc x st'=>.exc x st'
 | _=>.stuck) else .stuck:=rfl
end
section
variable {st:Store}{i j:Int}
@[simp] theorem oI_v {C:Int->Int->Prop} [DecidableRel C] {h:Int->Int->D}:oI C h (.int i) (.int j) st=if C i j then .ok (h i j) st else .stuck:=rfl
@[simp] theorem zbmp:oAdd (.int i) (.int j) st=.ok (.int (i+j)) st:=rfl
@[simp] theorem zbdy {a b:List D}:oAdd (.tup a) (.tup b) st=if a.length+b.length<=sizeLine then .ok (.tup (a++b)) st else .stuck:=rfl
@[simp] theorem zbmm:oLtT (.int i) (.int j) st=.ok (.bl (decide (i < j))) st:=rfl
@[simp] theorem zbmk:oNeg (.int i) st=.ok (.int (-i)) st:=rfl
@[simp] theorem zjd (ns:List Int):asInts (ns.map .int)=some ns:=by
 induction ns with
 | nil=>rfl
 | cons n ns ih=>rw[xbp,asInts,ih];rfl
@[simp] theorem zbgl (l:List (List Int)):asRows (rowsD l)=some l:=by
 induction l with
 | nil=>rfl
 | cons n ns ih =>
  unfold rowsD at ih ⊢;rw[xbp,asRows,zjd,ih];rfl
@[simp] theorem zew (ns:List Int):keyOf (rowD ns)=some ns:=zjd ns
theorem zlk:dataOf st (.int i)=some (.int i):=rfl
@[simp] theorem zbmo:oEq (.int i) (.int j) st=.ok (.bl (decide (i=j))) st:=by
 show oEqG false (.int i) (.int j) st=_;unfold oEqG;rw[zlk,zlk];dsimp only;rw[if_pos ⟨rfl,rfl⟩];show Res.ok (D.bl (i==j)) st=_;rw[show(i==j)=decide (i=j) from by rw[xdl];simp]
@[simp] theorem zbml:oNe (.int i) (.int j) st=.ok (.bl (!decide (i=j))) st:=by
 show oEqG true (.int i) (.int j) st=_;unfold oEqG;rw[zlk,zlk];dsimp only;rw[if_pos ⟨rfl,rfl⟩];show Res.ok (D.bl (!(i==j))) st=_;rw[show(i==j)=decide (i=j) from by rw[xdl];simp]
theorem zpr (ns:List Int):toDatas (ns.map .int)=some (dI ns):=by
 induction ns with
 | nil=>rfl
 | cons n ns ih=>rw[xbp,toDatas,ih];rfl
theorem zwm (l:List (List Int)):toDatas (rowsD l)=some (l.map dRow):=by
 induction l with
 | nil=>rfl
 | cons n ns ih =>
  unfold rowsD at ih ⊢;rw[xbp,toDatas,ih,toData,zpr];rfl
noncomputable abbrev sumD (l:List (List Int)):D:=.tup (rowsD l)
theorem zob (l:List (List Int)):dataOf st (sumD l)=some (.tuple (l.map dRow)):=by
 show(toDatas (rowsD l)).map PyData.tuple=_;rw[zwm];rfl
theorem zbaw (l:List Int):dataOf st (rowD l)=some (dRow l):=by
 show(toDatas (l.map .int)).map PyData.tuple=_;rw[zpr];rfl
theorem zbdx {neg:Bool}(a b:List (List Int)):oEqG neg (sumD a) (sumD b) st=.ok (.bl (if neg then !decide (a=b) else decide (a=b))) st:=by
 unfold oEqG;rw[zob,zob];dsimp only;rw[if_pos ⟨zfl a,zfl b⟩];have e:PyData.eqv (.tuple (a.map dRow)) (.tuple (b.map dRow))=decide (a=b):=zpu a b;rw[e]
theorem small (n:Nat)(h:n<=1000000):n<=sizeLine:=by rw[xee];lia
theorem smallT (n:Nat)(h:n<=1000000):n < sizeLine:=by rw[xee];lia
end
theorem zxv {bd:SG}{body:SS}(I:Nat->DS->Store->Prop):∀(xs:List D) (k:Nat) (σ:DS) (st:Store),I k σ st ->
  (∀i x σ st,xs[i]?=some x->I (k+i) σ st->∃σ1 σ2 st2,bd x σ=some σ1/\body σ1 st=.ok (.nx σ2) st2/\I (k+i+1) σ2 st2)->∃σ' st',forF bd body xs σ st=.ok (.nx σ') st'/\I (k+xs.length) σ' st'
 | [],k,σ,st,h,_=>⟨σ,st,rfl,h⟩
 | x::xs,k,σ,st,h,s=>by
  obtain⟨σ1,σ2,st2,e1,e2,h2⟩:=s 0 x σ st rfl h;obtain⟨σ',st',e3,h3⟩:=zxv I xs (k+1) σ2 st2 h2 fun i y σ st hy hi=>by
   have:=s (i+1) y σ st (by simpa using hy) (by rw[show k+(i+1)=k+1+i by lia];exact hi);rw[show k+(i+1)+1=k+1+i+1 by lia] at this;exact this
  refine⟨σ',st',?_,by rw[xcg,show k+(xs.length+1)=k+1+xs.length by lia];exact h3⟩;unfold forF;rw[e1];dsimp only;rw[e2];exact e3
theorem zmi {bd:SG}{body:SS}(I:Nat->DS->Store->Prop){xs:List D}{σ:DS}{st:Store}(h0:I 0 σ st)
  (s:∀i x σ st,xs[i]?=some x->I i σ st->∃σ1 σ2 st2,bd x σ=some σ1/\body σ1 st=.ok (.nx σ2) st2/\I (i+1) σ2 st2):∃σ' st',forF bd body xs σ st=.ok (.nx σ') st'/\I xs.length σ' st':=by
 have:=zxv I xs 0 σ st h0 fun i x σ st hx hi=>by
  rw[xdu] at hi ⊢;exact s i x σ st hx hi
 rw[xdu] at this;exact this
theorem zql {lo:Int}{n i:Nat}{x:D}(h:(rng lo n)[i]?=some x):i < n/\x=.int (lo+i):=zry h
theorem zco (lo:Int)(n:Nat):(rng lo n).length=n:=by simp[rng]
theorem zoe {bd:SG}{c:ST}{f:SE}(I:Nat->List D->DS->Store->Prop):∀(xs:List D) (k:Nat) (acc:List D) (σ:DS) (st:Store),I k acc σ st ->
  (∀i x acc σ st,xs[i]?=some x->I (k+i) acc σ st->∃σ1 b st1,bd x σ=some σ1/\c σ1 st=.ok b st1/\((b=false/\I (k+i+1) acc σ1 st1)\/(b=true/\∃y st2,f σ1 st1=.ok y st2/\I (k+i+1) (acc++[y]) σ1 st2))) ->
  ∃ys σ' st',compF bd c f xs σ st=.ok ys st'/\I (k+xs.length) (acc++ys) σ' st'
 | [],k,acc,σ,st,h,_=>⟨[],σ,st,rfl,by rw[xdr];exact h⟩
 | x::xs,k,acc,σ,st,h,s=>by
  have s':∀i y acc σ st,xs[i]?=some y->I (k+1+i) acc σ st->∃σ1 b st1,bd y σ=some σ1/\c σ1 st=.ok b st1/\((b=false/\I (k+1+i+1) acc σ1 st1)\/(b=true/\∃z st2,f σ1 st1=.ok z st2/\I (k+1+i+1) (acc++[z]) σ1 st2)):=fun i y acc σ st hy hi=>by
   have:=s (i+1) y acc σ st (by simpa using hy) (by rw[show k+(i+1)=k+1+i by lia];exact hi);rw[show k+(i+1)+1=k+1+i+1 by lia] at this;exact this
  obtain⟨σ1,b,st1,e1,e2,h2⟩:=s 0 x acc σ st rfl h;rcases h2 with⟨rfl,h2⟩ | ⟨rfl,y,st2,e3,h2⟩
  ·obtain⟨ys,σ',st',e4,h3⟩:=zoe I xs (k+1) acc σ1 st1 h2 s';refine⟨ys,σ',st',?_,by rw[xcg,show k+(xs.length+1)=k+1+xs.length by lia];exact h3⟩;unfold compF;rw[e1];dsimp only;rw[e2];exact e4
  ·obtain⟨ys,σ',st',e4,h3⟩:=zoe I xs (k+1) (acc++[y]) σ1 st2 h2 s';refine⟨y::ys,σ',st',?_,by rw[xcg,show k+(xs.length+1)=k+1+xs.length by lia];rw[xcm] at h3;exact h3⟩;unfold compF;rw[e1];dsimp only;rw[e2];dsimp only[zbe];rw[if_pos rfl,e3];dsimp only[zbe];rw[e4]
   rfl
theorem zgd {bd:SG}{c:ST}{f:SE}(I:Nat->List D->DS->Store->Prop){xs:List D}{σ:DS}{st:Store}(h0:I 0 [] σ st)
  (s:∀i x acc σ st,xs[i]?=some x->I i acc σ st->∃σ1 b st1,bd x σ=some σ1/\c σ1 st=.ok b st1/\((b=false/\I (i+1) acc σ1 st1)\/(b=true/\∃y st2,f σ1 st1=.ok y st2/\I (i+1) (acc++[y]) σ1 st2))) :
  ∃ys σ' st',compF bd c f xs σ st=.ok ys st'/\I xs.length ys σ' st':=by
 have:=zoe I xs 0 [] σ st h0 fun i x acc σ st hx hi=>by
  rw[xdu] at hi ⊢;exact s i x acc σ st hx hi
 rw[xdu] at this
 simpa using this
theorem zul {c:ST}{body:SS}(I:Nat->DS->Store->Prop)(post:DS->Store->Prop){σ:DS}{st:Store}{k:Nat}(h0:I k σ st)(hm:k < wCap)
  (s:∀j σ st,I j σ st->∃b st1,c σ st=.ok b st1/\((b=false/\post σ st1)\/(b=true/\∃i σ2 st2,body σ st1=.ok (.nx σ2) st2/\I i σ2 st2/\i < j))):∃σ' st',sWhile c body σ st=.ok (.nx σ') st'/\post σ' st':=by
 have main:∀n j σ st,I j σ st->j < n->∃σ' st',whileF c body n σ st=.ok (.nx σ') st'/\post σ' st':=by
  intro n
  induction n with
  | zero=>intro j σ st _ h;lia
  | succ n ih =>
   intro j σ st hI hlt;obtain⟨b,st1,e1,h⟩:=s j σ st hI;unfold whileF;rw[e1];dsimp only[zbe];rcases h with⟨rfl,h⟩ | ⟨rfl,i,σ2,st2,e2,h2,h3⟩
   ·exact⟨σ,st1,by rw[if_neg (by decide)],h⟩
   ·obtain⟨σ',st',e3,h4⟩:=ih i σ2 st2 h2 (by lia);refine⟨σ',st',?_,h4⟩;rw[if_pos rfl,e2];exact e3
 exact main wCap k σ st h0 hm
section
variable {st:Store}{n:Nat}{xs:List D}{i:Int}
@[simp] theorem zbgn:seqOf st (.tup xs)=some xs:=rfl
@[simp] theorem zbgo:seqOf st (.scr xs)=some xs:=rfl
@[simp] theorem zbgp:seqOf st (.lst xs)=some xs:=rfl
@[simp] theorem zbhg:seqV (.tup xs)=some xs:=rfl
@[simp] theorem zbhi:seqV (.lst xs)=some xs:=rfl
@[simp] theorem zbhh:seqV (.scr xs)=some xs:=rfl
@[simp] theorem zblv:asL st (.lst xs)=some xs:=rfl
theorem zhf (h:st[n]?=some (.lst xs)):asL st (.ref n)=some xs:=by
 unfold asL;dsimp only;rw[h]
theorem zkr (h:st[n]?=some (.lst xs)):seqOf st (.ref n)=some xs:=zhf h
theorem znt {x:D}{d:D}(h:seqOf st x=some xs)(h2:L2.atI xs i=some d):oIx x (.int i) st=.ok d st:=by
 unfold oIx;rw[h];dsimp only;rw[h2]
@[simp] theorem zbku:bLen [.tup xs] st=.ok (.int xs.length) st:=rfl
@[simp] theorem zbkw:bLen [.lst xs] st=.ok (.int xs.length) st:=rfl
@[simp] theorem zbkv:bLen [.scr xs] st=.ok (.int xs.length) st:=rfl
@[simp] theorem zbnq:bAbs [.int i] st=.ok (.int (if i < 0 then -i else i)) st:=rfl
@[simp] theorem zbnt {g:Int->Int->Int} {j:Int}:b2I g [.int i,.int j] st=.ok (.int (g i j)) st:=rfl
@[simp] theorem zbbk {ns:List Int}:bSum [rowD ns] st=.ok (.int ns.sum) st:=by
 unfold bSum;simp
@[simp] theorem zbgi:bTuple [.tup xs] st=.ok (.tup xs) st:=rfl
@[simp] theorem zub:bTuple [.lst xs] st=.ok (.tup xs) st:=rfl
theorem zua (h:st[n]?=some (.lst xs)):bTuple [.ref n] st=.ok (.tup xs) st:=by
 unfold bTuple;dsimp only;rw[zhf h]
theorem zog {l:List (List Int)}(h:l.length<=1000000):bSorted [.lst (rowsD l)] st=.ok (.lst (rowsD (sortR l))) st:=by
 unfold bSorted;simp[h]
theorem zoh {kvs:List (List Int×D)}(h:st[n]?=some (.dT kvs))(hl:kvs.length<=1000000):bSorted [.ref n] st=.ok (.lst (rowsD (sortR (kvs.map (·.1))))) st:=by
 unfold bSorted asL pairsOf;simp[h,hl]
theorem zbbm {j:Nat}{d:D}(h:xs[j]?=some d):L2.atI xs (j:Int)=some d:=zmt h
theorem zjq {o:O}(h:n < st.length):(st.set n o)[n]?=some o:=xgc h
theorem zcc {o:O}(h:st[n]?=some o):n < st.length:=(xbk.mp h).1
theorem zys {o p:O}:(st.set n o).set n p=st.set n p:=List.set_set _
theorem zbhf {o:O}(h:st[n]?=some o):st.set n o=st:=by
 apply xku;intro i;by_cases e:i=n
 ·subst e;rw[xgc (zcc h),h]
 ·rw[xdq (xgb e)]
end
theorem zdb {n np:Nat}{b:SS}{ds:List D}{st st':Store}{v:D}(h:ds.length=np)(e:b (ds.map some++List.replicate (n - np) none) st=.ok (.ret v) st'):fnD n np b ds st=.ok v st':=by
 rw[zblq,if_pos h,e]
theorem zbje {n np:Nat}{b:SS}{ds:List D}{st st':Store}{σ:DS}(h:ds.length=np)(e:b (ds.map some++List.replicate (n - np) none) st=.ok (.nx σ) st'):fnD n np b ds st=.ok .non st':=by
 rw[zblq,if_pos h,e]
noncomputable abbrev bagO (c x:Int):O:=.lst [.int c,.int x]
noncomputable def BagAt (st:Store) (n:Nat):Prop:=∃c x:Int,st[n]?=some (bagO c x)/\0<=c/\0<=x
structure Drew (st st':Store) (n:Nat):Prop where
 len:st.length<=st'.length
 keep:∀ i, i < st.length->i≠n->st'[i]?=st[i]?
 bag:BagAt st' n
theorem Drew.trans {st st1 st2:Store}{n:Nat}(a:Drew st st1 n)(b:Drew st1 st2 n):Drew st st2 n :=
 ⟨xbb a.len b.len,fun i h1 h2=>(b.keep i (xbg h1 a.len) h2).trans (a.keep i h1 h2),b.bag⟩
theorem Drew.set {st:Store}{n:Nat}{c x:Int}(h:BagAt st n)(hc:0<=c)(hx:0<=x):Drew st (st.set n (bagO c x)) n:=by
 obtain⟨_,_,e,_⟩:=h;exact⟨by rw[xeb];exact xbf _,fun i _ h2=>xdq (xgb h2),c,x,zjq (zcc e),hc,hx⟩
theorem Drew.more {st:Store}{n:Nat}(h:BagAt st n)(g:Store):Drew st (st++g) n:=by
 obtain⟨c,x,e,h1,h2⟩:=h;exact⟨by rw[xbq];lia,fun i h _=>xbs h,c,x,by rw[xbs (zcc e)];exact e,h1,h2⟩
theorem zhx {st:Store}{n:Nat}{m:Int}(hb:BagAt st n)(h1:1<=m)(h2:m < 2 ^ 1000) :
  ∃r st',zl [.ref n,.int m] st=.ok (.int r) st'/\0<=r/\r < m/\Drew st st' n/\st'.length=st.length:=by
 obtain⟨c,x,hn,hc,hx⟩:=id hb;have s0:∀{c x:Int} {st:Store},st[n]?=some (bagO c x)->oIx (.ref n) (.int 0) st=.ok (.int c) st:=fun h=>znt (zkr h) rfl
 have s1:∀{c x:Int} {st:Store},st[n]?=some (bagO c x)->oIx (.ref n) (.int 1) st=.ok (.int x) st:=fun h=>znt (zkr h) rfl
 by_cases h0:0 < c
 ·have d1:CDivP c m:=⟨by lia,h2⟩
  have e0:ixN 2 0=some 0:=rfl;refine⟨c % m,st.set n (bagO (c / m) x),zdb rfl ?_,xis _ (by lia),Int.emod_lt_of_pos _ (by lia),Drew.set hb (Int.ediv_nonneg hc (by lia)) hx,xeb⟩;simp[s0 hn,h0,hn,e0,show(0:Int) < m by lia,d1]
 ·have hlen:=zcc hn
  have W:=zul (c:=eB (eOp oLtT (eVar 4) (eVar 1))) (body:=sSeq (sSetIx (eVar 0) (eC (.int 1)) (eOp oMod (eOp oAdd (eOp oMulI (eOp oIx (eVar 0) (eC (.int 1))) (eC (.int 48271))) (eC (.int 7919))) (eC (.int 2147483647))))
   (sSeq (sSet 3 (eOp oAdd (eOp oMulI (eVar 3) (eC (.int 1073741789))) (eOp oMod (eOp oMulI (eOp oFdiv (eOp oIx (eVar 0) (eC (.int 1))) (eC (.int 8))) (eC (.int 69621))) (eC (.int 1073741789)))))
   (sSet 4 (eOp oMulI (eVar 4) (eC (.int 1073741789)))))) (k:=1000) (σ:=[some (.ref n),some (.int m),none,some (.int 0),some (.int 1)]) (st:=st)
   (fun j σ s=>∃c' x' nn rr:Int,σ=[some (.ref n),some (.int m),none,some (.int nn),some (.int rr)]/\s=st.set n (bagO c' x')/\0<=c'/\0<=x'/\0<=nn/\j<=1000/\2 ^ (1000 - j)<=rr)
   (fun σ s=>∃c' x' nn:Int,(∃rr,σ=[some (.ref n),some (.int m),none,some (.int nn),some (.int rr)])/\s=st.set n (bagO c' x')/\0<=c'/\0<=x'/\0<=nn)
   ⟨c,x,0,1,rfl,(zbhf hn).symm,hc,hx,by lia,by lia,by decide⟩ (by decide) (by
    rintro j σ s ⟨c',x',nn,rr,rfl,rfl,a1,a2,a3,a4,a5⟩;have g1:(st.set n (bagO c' x'))[n]?=some (bagO c' x'):=zjq hlen;by_cases hlt:rr < m
    ·have hj:1<=j:=by
      rcases xkn j with z | z
      ·subst z;have a5':(2:Int) ^ 1000<=rr:=a5;lia
      ·exact z
     have e1:ixN 2 1=some 1:=rfl;have m1:CMul x' 48271:=.inr ⟨by decide,by decide⟩;have m2:CMul nn 1073741789:=.inr ⟨by decide,by decide⟩;have m3:CMul rr 1073741789:=.inr ⟨by decide,by decide⟩;have g2:∀y:Int,(st.set n (bagO c' y))[n]?=some (bagO c' y):=fun y=>zjq hlen
     have m4:∀y:Int,CMul y 69621:=fun y=>.inr ⟨by decide,by decide⟩
     have d8:∀y:Int,CDivP y 8:=fun y=>⟨by decide,by decide +kernel⟩
     refine⟨true,st.set n (bagO c' x'),by simp[hlt],.inr ⟨rfl,j - 1,_,st.set n (bagO c' ((x' * 48271+7919) % 2147483647)),?_,⟨c',(x' * 48271+7919) % 2147483647,nn * 1073741789+(x' * 48271+7919) % 2147483647 / 8 * 69621 % 1073741789,rr * 1073741789,rfl,rfl,a1,?_,?_,by lia,?_⟩,by lia⟩⟩
     ·simp[s1 g1,g1,e1,m1,m2,m3,m4,d8,s1 (g2 _)]
     ·exact xis _ (by lia)
     ·have a1:0<=nn * 1073741789:=Int.mul_nonneg a3 (by lia);have a2:=xis ((x' * 48271+7919) % 2147483647 / 8 * 69621) (show(1073741789:Int)≠0 by lia);lia
     ·have e:(2:Int) ^ (1000 - (j - 1))=2 ^ (1000 - j) * 2:=by
       rw[← Int.pow_succ];congr 1;lia
      rw[e];have hp:(0:Int)<=2 ^ (1000 - j):=Int.pow_nonneg (by decide);lia
    ·exact⟨false,_,by simp[hlt],.inl ⟨rfl,c',x',nn,⟨rr,rfl⟩,rfl,a1,a2,a3⟩⟩)
  obtain⟨σ',st',e,c',x',nn,hσ,hst,k1,k2,k3⟩:=W;obtain⟨rr,rfl⟩:=hσ;subst hst;refine⟨nn % m,st.set n (bagO c' x'),zdb rfl ?_,xis _ (by lia),Int.emod_lt_of_pos _ (by lia),Drew.set hb k1 k2,xeb⟩;simp[s0 hn,h0,e,show(0:Int) < m by lia]
theorem zms {ns:List Int}{j:Nat}(h:j < ns.length):L2.atI (ns.map D.int) (j:Int)=some (.int ns[j]):=zmt (by rw[xcl,xbh h];rfl)
theorem zbks {st:Store}{ns:List Int}{i:Nat}(hl:ns.length<=63)(hi:i<=100000):∃c x:Int,0<=c/\0<=x/\zez [.scr (ns.map .int),.int i] st=.ok (.ref st.length) (st++[bagO c x]):=by
 have cell:∃c:Int,0<=c/\sIf (eB (eOp oLtT (eVar 1) (eCall bLen (aCons (eVar 0) aNil)))) (sSet 2 (eCall bAbs (aCons (eOp oIx (eVar 0) (eVar 1)) aNil))) sNx [some (.scr (ns.map .int)),some (.int i),some (.int 0),none,none] st
   = .ok (.nx [some (.scr (ns.map .int)),some (.int i),some (.int c),none,none]) st:=by
  by_cases h:i < ns.length
  ·have e:oIx (.scr (ns.map .int)) (.int i) st=.ok (.int ns[i]) st:=znt rfl (zms h);refine⟨if ns[i] < 0 then -ns[i] else ns[i],by split<;>lia,?_⟩;simp[h,e]
  ·exact⟨0,by lia,by simp[h]⟩
 obtain⟨c,hc,ec⟩:=cell;have hmin:(if(60:Int) < (ns.length:Int) then(60:Int) else ns.length).toNat<=ns.length:=by split<;>lia
 have W:=zmi (bd:=gN 4) (body:=sSet 3 (eOp oMod (eOp oAdd (eOp oAdd (eOp oMulI (eVar 3) (eC (.int 48271))) (eOp oMod (eOp oIx (eVar 0) (eVar 4)) (eC (.int 2147483647)))) (eVar 4)) (eC (.int 2147483629))))
  (xs:=rng 0 (if(60:Int) < (ns.length:Int) then(60:Int) else ns.length).toNat) (σ:=[some (.scr (ns.map .int)),some (.int i),some (.int c),some (.int (7919 * i+17)),none]) (st:=st)
  (fun j σ s=>s=st/\∃(mix:Int) (v:Option D),σ=[some (.scr (ns.map .int)),some (.int i),some (.int c),some (.int mix),v]/\0<=mix) ⟨rfl,_,none,rfl,by lia⟩ (by
   rintro j x σ s hx ⟨rfl,mix,v,rfl,hm⟩;obtain⟨hj,rfl⟩:=zql hx;have hj2:j < ns.length:=by lia
   have e:oIx (.scr (ns.map .int)) (.int (0+j)) s=.ok (.int ns[j]) s:=znt rfl (by rw[xhw];exact zms hj2);rw[xhw] at e;have m1:CMul mix 48271:=.inr ⟨by decide,by decide⟩;refine⟨_,[some (.scr (ns.map .int)),some (.int i),some (.int c),some (.int ((mix * 48271+ns[j] % 2147483647+j) % 2147483629)),some (.int (0+j))],s,rfl,?_,rfl,_,_,rfl,xis _ (by lia)⟩
   simp[e,m1])
 obtain⟨σ',st',e,rfl,mix,v,rfl,hm⟩:=W;have m0:CMul 7919 (i:Int):=.inl ⟨by decide,by decide⟩;have p0:CPow 10 18:=⟨by decide,by decide,by decide⟩
 have hr:RngOk (if(60:Int) < (ns.length:Int) then(60:Int) else ns.length):=by
  split<;>exact rngOk (by lia) (by lia)
 by_cases hlt:c < 1000000000000000000
 ·refine⟨0,mix,by lia,hm,zdb rfl ?_⟩;have hs:=small 2 (by lia);simp at ec;simp[ec,m0,hr,e,p0,hlt,hs]
 ·refine⟨c,mix,hc,hm,zdb rfl ?_⟩;have hs:=small 2 (by lia);simp at ec;simp[ec,m0,hr,e,p0,hlt,hs]
theorem seqN {s t:SS}{σ σ1:DS}{st st1:Store}{r:Res Fl}(h:s σ st=.ok (.nx σ1) st1)(k:t σ1 st1=r):sSeq s t σ st=r:=by
 rw[zbhj,h];exact k
noncomputable def flipL (ks:List (List Int)) (k:List Int):List (List Int):=if k∈ks then ks.filter (fun x=>decide (x≠k)) else ks++[k]
noncomputable def oddL (l:List (List Int)):List (List Int):=l.foldl flipL []
theorem zhp {ks:List (List Int)}{k x:List Int}:x∈flipL ks k↔(x∈ks/\x≠k)\/(x=k/\k∉ks):=by
 unfold flipL;split
 ·rename_i h;simp[xgi,h]
 ·rename_i h;simp only[xby,xbn];constructor
  ·rintro(z | rfl)
   ·exact .inl ⟨z,fun e=>h (e ▸ z)⟩
   ·exact .inr ⟨rfl,h⟩
  ·rintro(⟨z,_⟩ | ⟨z,_⟩)
   ·exact .inl z
   ·exact .inr z
theorem zkl {ks:List (List Int)}{k:List Int}(h:ks.Nodup):(flipL ks k).Nodup:=by
 unfold flipL;split
 ·exact h.filter _
 ·rename_i hk;rw[xky];exact⟨h,by simp,fun a ha b hb=>by simp at hb;subst hb;exact fun e=>hk (e ▸ ha)⟩
theorem ziy (ks:List (List Int))(k:List Int):(flipL ks k).length<=ks.length+1:=by
 unfold flipL;split
 ·exact xeu (xjw _ _)
 ·simp
theorem zit:∀(l ks:List (List Int)),ks.Nodup->(l.foldl flipL ks).Nodup/\(l.foldl flipL ks).length<=ks.length+l.length/\∀x,x∈l.foldl flipL ks↔(l.count x+if x∈ks then 1 else 0) % 2=1
 | [],ks,h=>⟨h,by simp,fun x=>by by_cases e:x∈ks<;>simp[e]⟩
 | a::l,ks,h=>by
  obtain⟨h1,h2,h3⟩:=zit l (flipL ks a) (zkl h);refine⟨h1,?_,fun x=>?_⟩
  ·have:=ziy ks a;rw[xir,xcg];lia
  ·rw[xir,h3 x,List.count_cons];by_cases e:x=a
   ·subst e;by_cases k:x∈ks
    ·have q:x∉flipL ks x:=by rw[zhp];simp[k]
     simp only[q,k,xfu,xeo,xfg]<;>lia
    ·have q:x∈flipL ks x:=by rw[zhp];simp[k]
     simp only[q,k,xfu,xeo,xfg]<;>lia
   ·have e':(a==x)=false:=by simpa using fun z:a=x=>e z.symm
    by_cases k:x∈ks
    ·have q:x∈flipL ks a:=by rw[zhp];simp[k,e]
     simp[q,k,e']
    ·have q:x∉flipL ks a:=by rw[zhp];simp[k,e]
     simp[q,k,e']
theorem ziu (l:List (List Int)):(oddL l).Nodup:=(zit l [] xja).1
theorem zeu (l:List (List Int)):(oddL l).length<=l.length:=by have:=(zit l [] xja).2.1;simpa [oddL] using this
theorem zns {l:List (List Int)}{x:List Int}:x∈oddL l↔l.count x % 2=1:=by have:=(zit l [] xja).2.2 x;simpa [oddL] using this
theorem zkb {a b:List (List Int)}(h1:a.Nodup)(h2:b.Nodup)(h:∀x,x∈a↔x∈b):a.Perm b:=(List.perm_ext_iff_of_nodup h1 h2).mpr h
theorem zqj {a b:List (List Int)}(h:a.Perm b):sortR a=sortR b:=zkq ((zbx a).trans h) (zhz a)
noncomputable def oddS (l:List (List Int)):List (List Int):=sortR (oddL l)
theorem zxm {l m:List (List Int)}(h1:m.Nodup)(h:∀x,x∈m↔l.count x % 2=1):sortR m=oddS l:=zqj (zkb h1 (ziu l) fun x=>by rw[h,zns])
theorem zzx {l:List (List Int)}{x:List Int}:x∈oddS l↔l.count x % 2=1:=by unfold oddS;rw[(zbx _).mem_iff,zns]
theorem zsp {l:List (List Int)}{x:List Int}(h:x∈oddS l):x∈l:=by
 rw[zzx] at h;rcases xkn (l.count x) with z | z
 ·rw[z] at h;cases h
 ·exact xko.mp z
theorem zke (l:List (List Int)):(oddS l).length<=l.length:=by unfold oddS;rw[zdl];exact zeu l
theorem zlz (l:List (List Int)):(oddS l).Nodup:=(zbx _).nodup_iff.mpr (ziu l)
noncomputable abbrev trueD (ks:List (List Int)):List (List Int×D):=ks.map fun k=>(k,.bl true)
theorem zhm {ks:List (List Int)}{k:List Int}:valD (trueD ks) k=if k∈ks then some (.bl true) else none:=by
 induction ks with
 | nil=>rfl
 | cons a ks ih =>
  unfold valD trueD at ih ⊢;rw[xbp,xei];by_cases e:a=k
  ·simp[e]
  ·simp only[xbm e];rw[ih];simp[xbx,show ¬ k=a from fun z=>e z.symm]
theorem ztm {ks:List (List Int)}{k:List Int}:dropD (trueD ks) k=trueD (ks.filter fun x=>decide (x≠k)):=by
 unfold dropD trueD;rw[List.filter_map]
 rfl
theorem zov {ks:List (List Int)}{k:List Int}(h:k∉ks):putD (trueD ks) k (.bl true)=trueD (ks++[k]):=by
 unfold putD;rw[if_neg]
 ·simp[trueD]
 ·simp only[List.any_map,xic,not_exists,not_and];intro x hx e;have:x=k:=by simpa using e
  exact h (this ▸ hx)
theorem ziq {st:Store}{n:Nat}{kvs:List (List Int×D)}(h:st[n]?=some (.dT kvs)):pairsOf st (.ref n)=some kvs:=by
 unfold pairsOf;dsimp only;rw[h]
theorem zzv {st:Store}{n:Nat}{kvs:List (List Int×D)}(h:st[n]?=some (.fT kvs)):pairsOf st (.ref n)=some kvs:=by
 unfold pairsOf;dsimp only;rw[h]
theorem zsq {st:Store}{n:Nat}{kvs:List (List Int×D)}{k:List Int}(h:pairsOf st (.ref n)=some kvs):oDIn false (rowD k) (.ref n) st=.ok (.bl (valD kvs k).isSome) st:=by
 unfold oDIn;rw[zew,h]
 rfl
theorem zzy {st:Store}{n:Nat}{kvs:List (List Int×D)}{k:List Int}{v:D}(h:pairsOf st (.ref n)=some kvs)(hv:valD kvs k=some v):oDGet (.ref n) (rowD k) st=.ok v st:=by
 unfold oDGet;rw[zew,h];dsimp only;rw[hv]
theorem zxw {st:Store}{n:Nat}{ks:List (List Int)}{k:List Int}(h:st[n]?=some (.dT (trueD ks)))(hl:ks.length<=1000000):zlp [.ref n,rowD k] st=.ok .non (st.set n (.dT (trueD (flipL ks k)))):=by
 have e1:=zsq (k:=k) (ziq h);rw[zhm] at e1;by_cases hk:k∈ks
 ·refine zbje (σ:=[some (.ref n),some (rowD k)]) rfl ?_;rw[if_pos hk] at e1;have e2:valD (trueD ks) k=some (.bl true):=by rw[zhm,if_pos hk]
  have e3:flipL ks k=ks.filter fun x=>decide (x≠k):=by unfold flipL;rw[if_pos hk]
  rw[e3,← ztm];have e4:=ziq h;have e5:=zew k;simp only[rowD,trueD] at *
  simp[e1,e4,e5,h,e2]
 ·refine zbje (σ:=[some (.ref n),some (rowD k)]) rfl ?_;rw[if_neg hk] at e1;have e3:flipL ks k=ks++[k]:=by unfold flipL;rw[if_neg hk]
  rw[e3,← zov hk];have e5:=zew k;have e6:(trueD ks).length < sizeLine:=by rw[xbe];exact smallT _ hl
  simp only[rowD,trueD] at *
  simp[e1,e5,h,e6];rw[xbe] at e6;exact e6
theorem zet {l:List (List Int)}{i:Nat}{x:D}(h:(rowsD l)[i]?=some x):∃k,l[i]?=some k/\x=rowD k:=by
 unfold rowsD at h;rw[xcl] at h;cases e:l[i]? with
 | none=>rw[e] at h;cases h
 | some k=>rw[e] at h;exact⟨k,rfl,(xbw h).symm⟩
theorem zn (l:List (List Int)):(rowsD l).length=l.length:=xbe _
theorem zcb {α:Type}{l:List α}{i:Nat}{k:α}(h:l[i]?=some k):l.take (i+1)=l.take i++[k]:=by
 obtain⟨hi,e⟩:=xbk.mp h;rw[xgw hi,e]
theorem zbkj (xs:List D)(k:Nat):cutD xs none (some (k:Int))=xs.take k:=by
 unfold cutD;rw[HT.zru,HT.zxh,List.drop_zero,Nat.sub_zero];rcases Nat.le_total k xs.length with h | h
 ·rw[xdt h]
 ·rw[xid h,xdn,xge h]
theorem zbbd (xs:List D)(k:Nat):cutD xs (some (k:Int)) none=xs.drop k:=by
 unfold cutD;rw[HT.zru,HT.zxh];rcases Nat.le_total k xs.length with h | h
 ·rw[xdt h,xge (by rw[xed];exact xbf _)]
 ·rw[xid h,List.drop_length,List.drop_of_length_le h];simp
theorem zle (l ks:List (List Int))(h:ks.Nodup):(l.foldl flipL ks).length<=ks.length+l.length:=(zit l ks h).2.1
theorem zbcr {a b:List Int}:(a.map D.int)++(b.map D.int)=(a++b).map D.int:=xew.symm
theorem zqh {st:Store}{n:Nat}{ks:List (List Int)}(h:st[n]?=some (.dT (trueD ks)))(hl:ks.length<=1000000):bSorted [.ref n] st=.ok (.lst (rowsD (sortR ks))) st:=by
 rw[zoh h (by rw[xbe];exact hl),xez]
 congr 2
 exact congrArg (fun l=>rowsD (sortR l)) (List.map_id ks)
end Dd
namespace K07
open PySem L2
noncomputable def oddW (e k:Int):Bool:=decide (V.int (Builtin.bitAnd e k)=V.int k)
theorem ztz (a b:Nat):Builtin.bitAnd (a:Int) (b:Int)=((a &&& b:Nat):Int):=rfl
theorem zzw (a b:Nat):oddW a b=decide (a &&& b=b):=by
 unfold oddW;rw[ztz];by_cases h:a &&& b=b
 ·rw[h];simp
 ·rw[xbm h];refine xbm fun e=>h ?_
  injection e with e
  exact_mod_cast e
noncomputable def nextR (l:List Nat) (e:Nat):List Nat:=[1]++((List.range e).map fun k=>(l.getD k 0+l.getD (k+1) 0) % 2)++[1]
noncomputable def pas:Nat->List Nat
 | 0=>[1]
 | e+1=>nextR (pas e) e
noncomputable def pasOk (e k:Nat):Bool:=decide (e &&& k=k)==(decide (k<=e)&&decide ((pas e).getD (k % (e+1)) 0=1))
theorem zzu:(List.range 61).all (fun e=>(List.range 62).all (pasOk e))=true:=by decide +kernel
theorem zbih {e k:Nat}(he:e < 61)(hk:k < 62):oddW e k=(decide (k<=e)&&decide ((pas e).getD (k % (e+1)) 0=1)):=by
 have h:=zzu;rw[xgv] at h;have h1:=h e (xdz.mpr he);rw[xgv] at h1;have h2:=h1 k (xdz.mpr hk);rw[zzw];exact eq_of_beq h2
end K07
namespace K23
open PySem L2 K07
noncomputable def ch:Nat->Nat->Nat
 | _,0=>1
 | 0,_+1=>0
 | n+1,k+1=>ch n k+ch n (k+1)
theorem zmp (n:Nat):ch n 0=1:=by cases n<;>rfl
theorem zmq:∀n k,n < k->ch n k=0
 | 0,_+1,_=>rfl
 | n+1,k+1,h=>by
  show ch n k+ch n (k+1)=0;rw[zmq n k (by lia),zmq n (k+1) (by lia)]
theorem zye:∀n,ch n n=1
 | 0=>rfl
 | n+1=>by
  show ch n n+ch n (n+1)=1;rw[zye n,zmq n (n+1) (by lia)]
theorem zpx:∀(n k:Nat),(ch n (k+1):Int) * ((k:Int)+1)=(ch n k:Int) * ((n:Int) - (k:Int))
 | 0,0=>by decide
 | 0,k+1=>by
  show((0:Nat):Int) * _=((0:Nat):Int) * _;simp
 | n+1,0=>by
  have h:=zpx n 0;have e1:ch (n+1) 1=ch n 0+ch n 1:=rfl;rw[e1,zmp,zmp];rw[zmp] at h;simp only[xft] at h ⊢;simp at h ⊢;lia
 | n+1,k+1=>by
  have h1:=zpx n k;have h2:=zpx n (k+1);have e1:ch (n+1) (k+1+1)=ch n (k+1)+ch n (k+1+1):=rfl;have e2:ch (n+1) (k+1)=ch n k+ch n (k+1):=rfl;rw[e1,e2];generalize ch n k=A at h1 h2 ⊢;generalize ch n (k+1)=B at h1 h2 ⊢;generalize ch n (k+1+1)=C at h1 h2 ⊢;simp only[xft,Int.add_mul,Int.mul_add,Int.mul_sub,Int.mul_one,Int.natCast_one] at h1 h2 ⊢;lia
theorem zsj:∀n k,k<=n->ch n k % 2=(pas n).getD k 0
 | 0,0,_=>rfl
 | n+1,0,_=>by rw[zmp];rfl
 | n+1,k+1,h=>by
  have e:(pas (n+1))=[1]++((List.range n).map fun k=>((pas n).getD k 0+(pas n).getD (k+1) 0) % 2)++[1]:=rfl;rw[e,xbo,xcm,xcd (by simp)];simp only[xfi,Nat.add_sub_cancel];show(ch n k+ch n (k+1)) % 2=_;by_cases c:k < n
  ·rw[xbs (by simpa using c),xcl,List.getElem?_range c];have h1:=zsj n k (by lia);have h2:=zsj n (k+1) (by lia);show _=((pas n).getD k 0+(pas n).getD (k+1) 0) % 2;lia
  ·have e2:k=n:=by lia
   subst e2;rw[xcd (by simp),zye,zmq k (k+1) (by lia)];simp
theorem zbio {m k:Nat}(hm:m < 61)(hk:k < 62):oddW m k=decide (ch m k % 2=1):=by
 rw[zbih hm hk];by_cases c:k<=m
 ·rw[xcf c,Bool.true_and,Nat.mod_eq_of_lt (by lia:k < m+1),zsj m k c]
 ·rw[xbm c,Bool.false_and,zmq m k (by lia)]
  rfl
noncomputable def rowC (a b c:Int):List Int:=if 0 < c then[a+b - c,c] else[a+b]
noncomputable def rowsL (a b:Int) (n:Nat):List (List Int):=((List.range n).filter fun(c:Nat)=>oddW (b - c - 1) (a - 2 * c)).map fun(c:Nat)=>rowC a b c
theorem zot {a b:Int}{n:Nat}(h:oddW (b - n - 1) (a - 2 * n)=true):rowsL a b (n+1)=rowsL a b n++[rowC a b n]:=by
 unfold rowsL;rw[xkb,xhl,xew];simp[xgx,h]
theorem zrv {a b:Int}{n:Nat}(h:¬ oddW (b - n - 1) (a - 2 * n)=true):rowsL a b (n+1)=rowsL a b n:=by
 unfold rowsL;rw[xkb,xhl];simp[xgx,h]
theorem zdq (a b:Int)(n:Nat):(rowsL a b n).length<=n:=by
 unfold rowsL;rw[xbe];exact xbb (xjw _ _) (by simp)
theorem zrw {a b:Int}{i:Nat}(h:0 < a+b - (i:Int)):(([a+b - (i:Int),(i:Int)].take 2).filter fun x=>decide (0 < x))=rowC a b i:=by
 unfold rowC;have e:[a+b - (i:Int),(i:Int)].take 2=[a+b - (i:Int),(i:Int)]:=rfl;rw[e,xgx,if_pos (xcf h),xgx];by_cases c:0 < (i:Int)
 ·rw[if_pos c,if_pos (xcf c)]
  rfl
 ·have c4:(i:Int)=0:=by lia
  rw[if_neg c,if_neg (by rw[xbm c];decide),c4,Int.sub_zero]
  rfl
end K23
namespace Dd
open PySem L2 K07 K23
theorem zqw {st:Store}{e k:Int}:zen [.int e,.int k] st=.ok (.bl (oddW e k)) st:=by
 refine zdb rfl ?_;have:decide (Builtin.bitAnd e k=k)=oddW e k:=by
  unfold oddW;rw[xdl];simp
 simp[this]
theorem zre {st:Store}{i:Int}:zq [.int i] st=.ok (.bl true) st:=rfl
theorem zbal {st:Store}{a b:Int}:zcj [.int a,.int b] st=.ok (.bl (decide (a < 2 * b))) st:=by
 refine zdb rfl ?_;have m:CMul 2 b:=.inl ⟨by decide,by decide⟩;simp[m]
theorem zfv (r:List Int):(r.map D.int).length=r.length:=xbe _
theorem zhb {st:Store}{r:List Int}{i:Nat}{x:Int}(h:r[i]?=some x):oIx (rowD r) (.int i) st=.ok (.int x) st:=znt rfl (zmt (by rw[xcl,h];rfl))
theorem zud {st:Store}{r:List Int}:bLen [rowD r] st=.ok (.int r.length) st:=by show Res.ok (D.int ((r.map D.int).length:Nat)) st=_;rw[xbe]
theorem zjg {st:Store}{a b:Int}(ha:1<=a)(ha2:a<=60)(hb:-1000<=b)(hb2:b<=1000):∃g,zbu [.int a,.int b] st=.ok (.lst (rowsD (sortR (rowsL a b (a / 2+1).toNat)))) (st++g):=by
 have W:=zmi (bd:=gN 3) (body:=zcq) (xs:=rng 0 (a / 2+1).toNat) (σ:=[some (.int a),some (.int b),some (.ref st.length),none]) (st:=st++[.lst []])
  (fun i σ s=>(∃v,σ=[some (.int a),some (.int b),some (.ref st.length),v])/\s=st++[.lst (rowsD (rowsL a b i))]) ⟨⟨none,rfl⟩,rfl⟩ (by
   rintro i y σ s hy ⟨⟨v,rfl⟩,rfl⟩;obtain⟨hi,rfl⟩:=zql hy;have hi2:i<=60:=by lia
   have hl:=zdq a b i;have m:CMul 2 (0+(i:Int)):=.inl ⟨by decide,by decide⟩;have e1:=zqw (st:=st++[.lst (rowsD (rowsL a b i))]) (e:=b - (0+(i:Int)) - 1) (k:=a - 2 * (0+(i:Int)));have hn:(st++[O.lst (rowsD (rowsL a b i))])[st.length]?=some (.lst (rowsD (rowsL a b i))):=by simp
   have hL:=zhf hn;have hsz:(rowsD (rowsL a b i)).length < sizeLine:=by rw[zn];exact smallT _ (by lia)
   have s1:=small 1 (by lia);have s2:=small 2 (by lia);refine⟨[some (.int a),some (.int b),some (.ref st.length),some (.int (0+i))],[some (.int a),some (.int b),some (.ref st.length),some (.int (0+i))],st++[.lst (rowsD (rowsL a b (i+1)))],rfl,?_,⟨_,rfl⟩,rfl⟩;unfold zcq;rw[xhw] at *
   by_cases c:oddW (b - i - 1) (a - 2 * i)=true
   ·rw[zot c];rw[c] at e1;by_cases c2:0 < i
    ·have e3:rowC a b i=[a+b - i,(i:Int)]:=by unfold rowC;rw[if_pos (by lia)]
     have hsz':(rowsL a b i).length < sizeLine:=by rw[zn] at hsz;exact hsz
     simp[e1,m,hL,hsz',c2,s2,e3,tru,rowsD]
    ·have c3:i=0:=by lia
     subst c3;have e3:rowC a b 0=[a+b]:=by unfold rowC;rw[if_neg (by lia)]
     have hsz':(rowsL a b 0).length < sizeLine:=by rw[zn] at hsz;exact hsz
     simp at e1 m;simp[e1,m,hL,hsz',s1,e3,tru,rowsD]
   ·have c':oddW (b - i - 1) (a - 2 * i)=false:=by simpa using c
    rw[zrv c];rw[c'] at e1
    simp[e1,m,tru])
 obtain⟨σ',st',e,⟨v,rfl⟩,rfl⟩:=W;rw[zco] at e;refine⟨[.lst (rowsD (rowsL a b (a / 2+1).toNat))],zdb rfl ?_⟩;have d2:CDivP a 2:=⟨by decide,by decide +kernel⟩
 have hr:RngOk (a / 2+1):=rngOk (by lia) (by lia);have few:(rowsL a b (a / 2+1).toNat).length<=1000000:=by have:=zdq a b (a / 2+1).toNat;lia
 have hn:(st++[O.lst (rowsD (rowsL a b (a / 2+1).toNat))])[st.length]?=some (.lst (rowsD (rowsL a b (a / 2+1).toNat))):=by simp
 have es:bSorted [.ref st.length] (st++[.lst (rowsD (rowsL a b (a / 2+1).toNat))])=.ok (.lst (rowsD (sortR (rowsL a b (a / 2+1).toNat)))) (st++[.lst (rowsD (rowsL a b (a / 2+1).toNat))]):=by
  unfold bSorted;simp[zhf hn,few]
 simp[d2,hr,e,es]
noncomputable def slowAt (r:List Int) (p:Nat):Prop:=∃a b:Int,r[p]?=some a/\r[p+1]?=some b/\a < 2 * b
noncomputable instance (r:List Int) (p:Nat):Decidable (slowAt r p) :=
 match h1:r[p]?,h2:r[p+1]? with
 | some a,some b=>if h:a < 2 * b then .isTrue ⟨a,b,h1,h2,h⟩ else .isFalse fun⟨x,y,e1,e2,e3⟩=>by rw[h1] at e1;rw[h2] at e2;cases e1;cases e2;exact h e3
 | none,_=>.isFalse fun⟨x,y,e1,_⟩=>by rw[h1] at e1;cases e1
 | some _,none=>.isFalse fun⟨x,y,_,e2,_⟩=>by rw[h2] at e2;cases e2
theorem zkj {st:Store}{r:List Int}{p:Int}:zbn [rowD r,.int p] st=.ok (.bl (decide (0<=p/\slowAt r p.toNat))) st:=by
 have e1:=zre (st:=st) (i:=p);have e2:=zud (st:=st) (r:=r);by_cases h:0<=p/\p < r.length - 1
 ·obtain⟨k,rfl⟩:∃k:Nat,p=k:=⟨p.toNat,by lia⟩
  have h1:k < r.length:=by lia
  have h2:k+1 < r.length:=by lia
  have g1:r[k]?=some r[k]:=xbh h1;have g2:r[k+1]?=some r[k+1]:=xbh h2;have e3:=zhb (st:=st) g1;have e4:=zhb (st:=st) g2;rw[xft] at e4;have e5:=zbal (st:=st) (a:=r[k]) (b:=r[k+1]);have e6:(r[k] < 2 * r[k+1])↔slowAt r k:=⟨fun z=>⟨_,_,g1,g2,z⟩,fun⟨a,b,z1,z2,z⟩=>by rw[g1] at z1;rw[g2] at z2;cases z1;cases z2;exact z⟩
  refine zdb rfl ?_;have h3:(k:Int) < r.length - 1:=h.2;simp only[rowD] at *
  generalize D.tup (r.map D.int)=R at *
  simp[e1,e2,e3,h3,tru];simp at e4;simp[e4,e5,e6]
 ·have ns:¬ (0<=p/\slowAt r p.toNat):=fun hq0=>by
   obtain⟨z,a,b,z1,z2,_⟩:=hq0;have:=(xbk.mp z2).1;exact h ⟨z,by lia⟩
  refine zdb rfl ?_;rw[xbm ns];simp only[rowD] at *
  generalize D.tup (r.map D.int)=R at *
  by_cases z:0<=p
  ·have z2:¬ p < (r.length:Int) - 1:=fun y=>h ⟨z,y⟩
   simp[e1,e2,z,z2,tru]
  ·simp[e1,e2,z,tru]
noncomputable def exRow (r:List Int) (p:Nat):List (List Int):=(sortR (rowsL (r.getD p 0) (r.getD (p+1) 0) (r.getD p 0 / 2+1).toNat)).map fun two=>r.take p++two++r.drop (p+2)
theorem zfk (r:List Int)(p:Nat):(exRow r p).length<=(r.getD p 0 / 2+1).toNat:=by
 unfold exRow;rw[xbe,zdl];exact zdq _ _ _
theorem zjy {a b:Int}{n:Nat}:∀r∈rowsL a b n,r.length<=2:=fun r hr=>by
 unfold rowsL at hr;obtain⟨c,_,rfl⟩:=xdj.mp hr;show(rowC a b c).length<=2;unfold rowC;split<;>simp
theorem zev {st:Store}{a b:List Int}(h:a.length+b.length<=1000000):oAdd (rowD a) (rowD b) st=.ok (rowD (a++b)) st:=by
 rw[zbdy,if_pos (by rw[xbe,xbe];exact small _ h),zbcr]
theorem zyc (r:List Int)(k:Nat):cutD (r.map .int) none (some (k:Int))=(r.take k).map .int:=by rw[zbkj,List.map_take]
theorem zpv (r:List Int)(k:Nat):cutD (r.map .int) (some (k:Int)) none=(r.drop k).map .int:=by rw[zbbd,List.map_drop]
theorem zjh {st:Store}{r:List Int}{p:Nat}(hp:p+1 < r.length)(hl:r.length<=100)(ha:1<=r.getD p 0)(ha2:r.getD p 0<=60)(hb:-1000<=r.getD (p+1) 0)(hb2:r.getD (p+1) 0<=1000) :
  ∃g,zbl [rowD r,.int p] st=.ok (.lst (rowsD (exRow r p))) (st++g):=by
 have g1:r[p]?=some (r.getD p 0):=by rw[xbo,xbh (by lia)];rfl
 have g2:r[p+1]?=some (r.getD (p+1) 0):=by rw[xbo,xbh (by lia)];rfl
 generalize hA:r.getD p 0=a at *
 generalize hB:r.getD (p+1) 0=b at *
 obtain⟨g,e⟩:=zjg (st:=st) ha ha2 hb hb2;have hL:(sortR (rowsL a b (a / 2+1).toNat)).length<=100:=by
  rw[zdl];have:=zdq a b (a / 2+1).toNat;lia
 have W:=zgd (bd:=gN 0) (c:=bYes) (f:=eOp oAdd (eOp oAdd (eVar 2) (eVar 0)) (eVar 1)) (xs:=rowsD (sortR (rowsL a b (a / 2+1).toNat))) (σ:=[none,some (rowD (r.drop (p+2))),some (rowD (r.take p))]) (st:=st++g)
  (fun i acc σ s=>s=st++g/\(∃v,σ=[v,some (rowD (r.drop (p+2))),some (rowD (r.take p))])/\acc=rowsD (((sortR (rowsL a b (a / 2+1).toNat)).take i).map fun two=>r.take p++two++r.drop (p+2))) ⟨rfl,⟨none,rfl⟩,rfl⟩ (by
   rintro i y acc σ s hy ⟨rfl,⟨v,rfl⟩,rfl⟩;obtain⟨two,ht,rfl⟩:=zet hy;have h2:two.length<=2:=zjy two ((zbx _).mem_iff.mp (xcj ht));have l1:(r.take p).length<=100:=by rw[xcy];lia
   have l2:(r.drop (p+2)).length<=100:=by rw[xed];lia
   have e1:=zev (st:=st++g) (a:=r.take p) (b:=two) (by lia);have e2:=zev (st:=st++g) (a:=r.take p++two) (b:=r.drop (p+2)) (by rw[xbq];lia);refine⟨[some (rowD two),some (rowD (r.drop (p+2))),some (rowD (r.take p))],true,st++g,rfl,rfl,.inr ⟨rfl,rowD (r.take p++two++r.drop (p+2)),st++g,?_,rfl,⟨_,rfl⟩,?_⟩⟩
   ·show(oAdd (rowD (r.take p)) (rowD two) (st++g)).bind _=_;rw[e1];exact e2
   ·rw[zcb ht,xew]
    simp[rowsD])
 obtain⟨ys,σ',st',e2,rfl,_,rfl⟩:=W;rw[zn,xdn] at e2;refine⟨g,zdb rfl ?_⟩;have hlen:(rowsD (sortR (rowsL a b (a / 2+1).toNat))).length<=sizeLine:=by rw[zn];exact small _ (by lia)
 have e3:=zhb (st:=st) g1;have e4:=zhb (st:=st) g2;rw[xft] at e4;have c1:=zyc r p;have c2:=zpv r (p+2);rw[xft] at c2;refine seqN (σ1:=[some (rowD r),some (.int p),some (rowD (r.take p)),none]) (st1:=st) (by simp[c1]) ?_;refine seqN (σ1:=[some (rowD r),some (.int p),some (rowD (r.take p)),some (rowD (r.drop (p+2)))]) (st1:=st) ?_ ?_
 ·simp at c2;simp[c2]
 ·have ei:iSeq (eCall zbu (aCons (eOp oIx (eVar 0) (eVar 1)) (aCons (eOp oIx (eVar 0) (eOp oAdd (eVar 1) (eC (.int 1)))) aNil))) [some (rowD r),some (.int p),some (rowD (r.take p)),some (rowD (r.drop (p+2)))] st=.ok (rowsD (sortR (rowsL a b (a / 2+1).toNat))) (st++g):=by
   simp only[rowD] at *
   generalize D.tup (r.map D.int)=R at *
   simp at e4;simp[e3,e4,e]
  rw[zku,zhd,ei,zbe,if_pos hlen];show((compF _ _ _ _ [none,some (rowD (r.drop (p+2))),some (rowD (r.take p))] _).bind _).bind _=_;rw[e2];unfold exRow;rw[hA,hB]
  rfl
theorem zne {st:Store}{l:List (List Int)}(nd:l.Nodup)(hl:l.length<=1000000):zdi [sumD l] st=.ok (.ref st.length) (st++[.dT (trueD l)]):=by
 have W:=zmi (bd:=gN 2) (body:=zdx) (xs:=rowsD l) (σ:=[some (sumD l),some (.ref st.length),none]) (st:=st++[.dT []])
  (fun i σ s=>(∃v,σ=[some (sumD l),some (.ref st.length),v])/\s=st++[.dT (trueD (l.take i))]) ⟨⟨none,rfl⟩,rfl⟩ (by
   rintro i y σ s hy ⟨⟨v,rfl⟩,rfl⟩;obtain⟨k,hk,rfl⟩:=zet hy;have hn:(st++[O.dT (trueD (l.take i))])[st.length]?=some (.dT (trueD (l.take i))):=by simp
   have hi:=(xbk.mp hk).1;have nk:k∉l.take i:=fun z=>by
    have e:(l.take (i+1)).Nodup:=(xks (i+1) l).nodup nd;rw[zcb hk,xky] at e;exact e.2.2 k z k (by simp) rfl
   have hsz:(trueD (l.take i)).length < sizeLine:=by
    rw[xbe,xcy];exact smallT _ (by lia)
   have e5:=zew k;have e6:=zov nk;refine⟨[some (sumD l),some (.ref st.length),some (rowD k)],[some (sumD l),some (.ref st.length),some (rowD k)],st++[.dT (trueD (l.take (i+1)))],rfl,?_,⟨_,rfl⟩,rfl⟩;rw[zcb hk,← e6];unfold zdx;simp only[rowD] at *
   rw[zxi];simp only[eC_v,zbe,zbev,xje,xjf,e5,hn,hsz,xfu]
   simp)
 obtain⟨σ',st',e,⟨v,rfl⟩,rfl⟩:=W;rw[zn,xdn] at e;refine zdb rfl ?_;refine seqN (σ1:=[some (sumD l),some (.ref st.length),none]) (st1:=st++[.dT []]) (by simp) ?_;refine seqN (σ1:=[some (sumD l),some (.ref st.length),v]) (st1:=st++[.dT (trueD l)]) (by rw[zyx];exact e) rfl
theorem zqg {st:Store}{r:List Int}(hl:r.length<=1000000)(τ:DS):eComp (iSeq (eVar 1)) 1 [] (gN 0) bYes (eCall zq (aCons (eVar 0) aNil)) [some τ0,some (rowD r)] st=.ok (.lst (r.map fun _=>D.bl true)) st:=by
 have W:=zgd (bd:=gN 0) (c:=bYes) (f:=eCall zq (aCons (eVar 0) aNil)) (xs:=r.map D.int) (σ:=[none]) (st:=st)
  (fun i acc σ s=>s=st/\(∃v,σ=[v])/\acc=(r.take i).map fun _=>D.bl true) ⟨rfl,⟨none,rfl⟩,rfl⟩ (by
   rintro i y acc σ s hy ⟨rfl,⟨v,rfl⟩,rfl⟩;rw[xcl] at hy;cases hx:r[i]? with
   | none=>rw[hx] at hy;cases hy
   | some x =>
    rw[hx] at hy;cases hy;refine⟨[some (.int x)],true,s,rfl,rfl,.inr ⟨rfl,.bl true,s,rfl,rfl,⟨_,rfl⟩,?_⟩⟩;rw[zcb hx]
    simp)
 obtain⟨ys,σ',st',e,rfl,_,rfl⟩:=W;rw[zfv,xdn] at e;rw[zhd];show(if(r.map D.int).length<=sizeLine then _ else _)=_;rw[if_pos (by rw[zfv];exact small _ hl)];show((compF _ _ _ _ [none] _).bind _)=_;rw[e]
 rfl
theorem zje (r:List Int):asBools (r.map fun _=>D.bl true)=some (r.map fun _=>true):=by
 induction r with
 | nil=>rfl
 | cons a r ih=>rw[xbp,asBools,ih];rfl
theorem zfi {st:Store}{n:Nat}{ks:List (List Int)}{r:List Int}(h:st[n]?=some (.dT (trueD ks)))(hr:r∈ks)(hl:r.length<=1000000):zba [.ref n,rowD r] st=.ok (.bl true) st:=by
 refine zdb rfl ?_;have e1:=zqg (st:=st) (τ0:=.ref n) hl [];have e2:=zsq (k:=r) (ziq h);rw[zhm,if_pos hr] at e2;have e3:bAny true [.lst (r.map fun _=>D.bl true)] st=.ok (.bl true) st:=by
  unfold bAny;simp[zje]
 have e0:eCall bIsinst (aCons (eVar 1) (aCons (eC (.ty "tuple")) aNil)) [some (.ref n), some (rowD r)] st=.ok (.bl true) st:=rfl
 have e4:eCall (bAny true) (aCons (eComp (iSeq (eVar 1)) 1 [] (gN 0) bYes (eCall zq (aCons (eVar 0) aNil))) aNil) [some (.ref n),some (rowD r)] st=.ok (.bl true) st:=by
  rw[zdf,zfh,e1];exact e3
 have e5:eOp (oDIn false) (eVar 1) (eVar 0) [some (.ref n),some (rowD r)] st=.ok (.bl true) st:=e2;show sRet _ [some (.ref n),some (rowD r)] st=_;rw[zku,ztg,e0,zbe];show(eAnd _ _ [some (.ref n),some (rowD r)] st).bind _=_;rw[ztg,e4,zbe];show(eOp (oDIn false) (eVar 1) (eVar 0) [some (.ref n),some (rowD r)] st).bind _=_;rw[e5]
 rfl
theorem zlh {st:Store}{n:Nat}{ks:List (List Int)}{r:List Int}{p:Nat}(h:st[n]?=some (.dT (trueD ks)))(nd:ks.Nodup)(hk:ks.length<=5000)(hr:r∈ks)(hl:r.length<=100)(hs:slowAt r p)
  (ha:1<=r.getD p 0)(ha2:r.getD p 0<=60)(hb:-1000<=r.getD (p+1) 0)(hb2:r.getD (p+1) 0<=1000) :
  ∃g,zes [.ref n,rowD r,.int p] st=.ok .non ((st.set n (.dT (trueD ((r::exRow r p).foldl flipL ks))))++g):=by
 have hp:p+1 < r.length:=by
  obtain⟨a,b,_,z,_⟩:=hs;exact(xbk.mp z).1
 have hn:=zcc h;have e1:=zfi h hr (by lia);have e2:=zkj (st:=st) (r:=r) (p:=p);rw[xcf (p:=0<=(p:Int)/\slowAt r (p:Int).toNat) ⟨by lia,by rw[xgo];exact hs⟩] at e2;have e3:=zxw (k:=r) h (by lia);obtain⟨g,e4⟩:=zjh (st:=st.set n (.dT (trueD (flipL ks r)))) hp hl ha ha2 hb hb2;have hx:=zfk r p;have nd1:=zkl (k:=r) nd;have hk1:=ziy ks r;have W:=zmi (bd:=gN 3) (body:=zck) (xs:=rowsD (exRow r p)) (σ:=[some (.ref n),some (rowD r),some (.int p),none]) (st:=st.set n (.dT (trueD (flipL ks r)))++g)
  (fun i σ s=>(∃v,σ=[some (.ref n),some (rowD r),some (.int p),v])/\s=st.set n (.dT (trueD (((exRow r p).take i).foldl flipL (flipL ks r))))++g) ⟨⟨none,rfl⟩,rfl⟩ (by
   rintro i y σ s hy ⟨⟨v,rfl⟩,rfl⟩;obtain⟨k,hk',rfl⟩:=zet hy;have hn':(st.set n (.dT (trueD (((exRow r p).take i).foldl flipL (flipL ks r))))++g)[n]?=some (.dT (trueD (((exRow r p).take i).foldl flipL (flipL ks r)))):=by
    rw[xbs (by rw[xeb];exact hn),zjq hn]
   have hlen:(((exRow r p).take i).foldl flipL (flipL ks r)).length<=1000000:=by
    have:=zle ((exRow r p).take i) (flipL ks r) nd1;rw[xcy] at this;lia
   have e5:=zxw (k:=k) hn' hlen;have e6:(st.set n (.dT (trueD (((exRow r p).take i).foldl flipL (flipL ks r))))++g).set n (.dT (trueD (flipL (((exRow r p).take i).foldl flipL (flipL ks r)) k)))=st.set n (.dT (trueD (((exRow r p).take (i+1)).foldl flipL (flipL ks r))))++g:=by
    rw[zcb hk',List.foldl_append,List.set_append_left _ _ (by rw[xeb];exact hn),zys]
    rfl
   rw[e6] at e5;refine⟨[some (.ref n),some (rowD r),some (.int p),some (rowD k)],[some (.ref n),some (rowD r),some (.int p),some (rowD k)],_,rfl,?_,⟨_,rfl⟩,rfl⟩;unfold zck;rw[zos,zdf];show((zlp [.ref n,rowD k] _).bind _)=_;rw[e5]
   rfl)
 obtain⟨σ',st',e,⟨v,rfl⟩,rfl⟩:=W;rw[zn,xdn] at e;refine⟨g,zbje (σ:=[some (.ref n),some (rowD r),some (.int p),v]) rfl ?_⟩;refine seqN (σ1:=[some (.ref n),some (rowD r),some (.int p),none]) (st1:=st) ?_ ?_
 ·rw[zyw,zbgj,zwh,zdf];show((((zba [.ref n,rowD r] st).bind _).bind _).bind _)=_;rw[e1]
  rfl
 refine seqN (σ1:=[some (.ref n),some (rowD r),some (.int p),none]) (st1:=st) ?_ ?_
 ·rw[zyw,zbgj,zwh,zdf];show((((zbn [rowD r,.int p] st).bind _).bind _).bind _)=_;rw[e2]
  rfl
 refine seqN (σ1:=[some (.ref n),some (rowD r),some (.int p),none]) (st1:=st.set n (.dT (trueD (flipL ks r)))) ?_ ?_
 ·rw[zos,zdf];show((zlp [.ref n,rowD r] st).bind _)=_;rw[e3]
  rfl
 ·rw[zyx,zbem,zdf];show((((zbl [rowD r,.int p] _).bind _)).bind _)=_;rw[e4];exact e
structure CntG (f:Nat->D) (kvs:List (List Int×D)) (l:List (List Int)):Prop where
 nd:(kvs.map (·.1)).Nodup
 mem:∀k,k∈kvs.map (·.1)↔k∈l
 val:∀p∈kvs,p.2=f (l.count p.1)
 len:kvs.length<=l.length
theorem CntG.nil (f:Nat->D):CntG f [] []:=⟨xja,fun k=>by simp,fun p h=>(by cases h),by simp⟩
theorem CntG.at {f:Nat->D}{kvs:List (List Int×D)}{l:List (List Int)}(h:CntG f kvs l)(k:List Int):valD kvs k=if k∈l then some (f (l.count k)) else none:=by
 have gen:∀kvs:List (List Int×D),(∀p∈kvs,p.2=f (l.count p.1))->valD kvs k=if k∈kvs.map (·.1) then some (f (l.count k)) else none:=by
  intro kvs
  induction kvs with
  | nil=>intro _;rfl
  | cons a kvs ih =>
   intro hv;have ih:=ih fun p hp=>hv p (xci _ hp)
   unfold valD at ih ⊢;rw[xei];by_cases e:a.1=k
   ·have:=hv a xch;simp only[e,xgt,Option.map_some,xbp,xbx,true_or,xfu];rw[this,e]
   ·simp only[xbm e];rw[ih];simp only[xbp,xbx,show ¬ k=a.1 from fun z=>e z.symm,false_or]
 rw[gen kvs h.val];simp only[h.mem]
theorem CntG.put {f:Nat->D}{kvs:List (List Int×D)}{l:List (List Int)}(h:CntG f kvs l)(k:List Int):CntG f (putD kvs k (f (l.count k+1))) (l++[k]):=by
 have any:(kvs.any fun kv=>decide (kv.1=k))=decide (k∈l):=by
  rw[xdl,xgq,← h.mem,xic,xdj];constructor
  ·rintro⟨x,hx,e⟩;exact⟨x,hx,by simpa using e⟩
  ·rintro⟨p,hp,e⟩;exact⟨p,hp,by simpa using e⟩
 unfold putD;rw[any];by_cases hk:k∈l
 ·rw[if_pos (by simpa using hk)];have keys:(kvs.map fun kv=>if kv.1=k then(kv.1,f (l.count k+1)) else kv).map (·.1)=kvs.map (·.1):=by
   rw[xez]
   congr 1
   funext p
   dsimp only[Function.comp];split<;>rfl
  refine⟨by rw[keys];exact h.nd,fun x=>?_,fun p hp=>?_,?_⟩
  ·rw[keys,h.mem,xby,xbn];exact⟨.inl,fun z=>z.elim id fun e=>e ▸ hk⟩
  ·obtain⟨q,hq,rfl⟩:=xdj.mp hp;have:=h.val q hq;by_cases e:q.1=k
   ·rw[if_pos e];dsimp only;rw[e,xhr];simp
   ·rw[if_neg e,this,xhr];have:List.count q.1 [k]=0:=by rw[xiy];simpa using e
    rw[this];rfl
  ·rw[xbe,xbq];have:=h.len;lia
 ·rw[if_neg (by simpa using hk)];refine⟨?_,fun x=>?_,fun p hp=>?_,?_⟩
  ·rw[xew,xky];refine⟨h.nd,by simp,fun a ha b hb=>?_⟩;simp at hb;subst hb;exact fun e=>hk ((h.mem _).mp (e ▸ ha))
  ·rw[xew,xby,h.mem,xby];simp
  ·rcases xby.mp hp with hp | hp
   ·have e1:=h.val p hp;have e2:p.1≠k:=fun e=>hk ((h.mem _).mp (e ▸ xdj.mpr ⟨p,hp,rfl⟩))
    rw[e1,xhr];have:List.count p.1 [k]=0:=by rw[xiy];simpa using e2
    rw[this];rfl
   ·simp at hp;subst hp;rw[xhr,xiy.mpr hk];simp
  ·rw[xbq,xbq];have:=h.len;simp;exact this
noncomputable def oddB (n:Nat):D:=.bl (decide (n % 2=1))
theorem zvm (n:Nat):oddB (n+1)=.bl (!decide (n % 2=1)):=by
 unfold oddB
 congr 1
 by_cases h:n % 2=1
 ·rw[xcf h,xbm (by lia)];rfl
 ·rw[xbm h,xcf (by lia)];rfl
theorem zgu {st:Store}{x:D}{l:List (List Int)}(hx:seqV x=some (rowsD l))(hl:l.length<=1000000)(ho:(oddL l).length<=1000000):∃g,zbp [x] st=.ok (sumD (oddS l)) (st++g):=by
 have W:=zmi (bd:=gN 2) (body:=zfp) (xs:=rowsD l) (σ:=[some x,some (.ref st.length),none]) (st:=st++[.dT []])
  (fun i σ s=>∃(v:Option D) (kvs:List (List Int×D)),σ=[some x,some (.ref st.length),v]/\s=st++[.dT kvs]/\CntG oddB kvs (l.take i)) ⟨none,[],rfl,rfl,CntG.nil _⟩ (by
   rintro i y σ s hy ⟨v,kvs,rfl,rfl,hc⟩;obtain⟨k,hk,rfl⟩:=zet hy;have hc':=hc.put k;have hn:(st++[O.dT kvs])[st.length]?=some (.dT kvs):=by simp
   have e2:(valD kvs k).getD (.bl false)=.bl (decide ((l.take i).count k % 2=1)):=by
    rw[hc.at];split
    ·rfl
    ·rename_i z;rw[xiy.mpr z];rfl
   have e3:=zew k;have e4:=ziq hn;have e5:kvs.length < sizeLine:=by
    have h1:=hc.len;have h2:(l.take i).length<=l.length:=by rw[xcy];exact xia _ _
    exact smallT _ (by lia)
   refine⟨[some x,some (.ref st.length),some (rowD k)],[some x,some (.ref st.length),some (rowD k)],st++[.dT (putD kvs k (oddB ((l.take i).count k+1)))],rfl,?_,some (rowD k),_,rfl,rfl,by rw[zcb hk];exact hc'⟩;rw[zvm];unfold zfp;simp only[rowD] at *
   simp only[zxi,zbew,zbao,zbev,eC_v,xje,xjf,zbe,e4,e3,e2,hn,e5,xfu]
   simp)
 obtain⟨σ',st',e,v,kvs,rfl,rfl,hc⟩:=W;rw[zn,xdn] at hc;have V:=zgd (bd:=gN 0) (c:=eTru (eOp oDGet (eVar 1) (eVar 0))) (f:=eVar 0) (xs:=rowsD (kvs.map (·.1))) (σ:=[none,some (.ref st.length)]) (st:=st++[.fT kvs])
  (fun i acc σ s=>s=st++[.fT kvs]/\(∃w:Option D,σ=[w,some (.ref st.length)])/\acc=rowsD (((kvs.map (·.1)).take i).filter fun k=>decide (l.count k % 2=1))) ⟨rfl,⟨none,rfl⟩,rfl⟩ (by
   rintro i y acc σ s hy ⟨rfl,⟨w,rfl⟩,rfl⟩;obtain⟨k,hk,rfl⟩:=zet hy;have hn:(st++[O.fT kvs])[st.length]?=some (.fT kvs):=by simp
   have hkl:k∈l:=(hc.mem k).mp (xcj hk);have e2:valD kvs k=some (oddB (l.count k)):=by rw[hc.at,if_pos hkl]
   have e3:oDGet (.ref st.length) (rowD k) (st++[O.fT kvs])=.ok (oddB (l.count k)) _:=zzy (zzv hn) e2;refine⟨[some (rowD k),some (.ref st.length)],decide (l.count k % 2=1),st++[.fT kvs],rfl,?_,?_⟩
   ·rw[zwh];show((oDGet (.ref st.length) (rowD k) (st++[O.fT kvs])).bind _)=_;rw[e3]
    rfl
   ·by_cases ho:l.count k % 2=1
    ·refine .inr ⟨xcf ho,rowD k,_,rfl,rfl,⟨_,rfl⟩,?_⟩;rw[zcb hk,xhl];simp[ho,rowsD]
    ·refine .inl ⟨xbm ho,rfl,⟨_,rfl⟩,?_⟩;rw[zcb hk,xhl]
     simp[ho,rowsD])
 obtain⟨ys,σ2,st2,e2,rfl,⟨w,rfl⟩,rfl⟩:=V;rw[zn,xdn] at e2;refine⟨[.fT kvs],zdb rfl ?_⟩;have nd:((kvs.map (·.1)).filter fun k=>decide (l.count k % 2=1)).Nodup:=hc.nd.filter _;have mm:∀k,k∈((kvs.map (·.1)).filter fun k=>decide (l.count k % 2=1))↔l.count k % 2=1:=fun k=>by
  rw[xgi,hc.mem,xgq];refine⟨fun h=>h.2,fun h=>⟨?_,h⟩⟩;rcases xkn (l.count k) with z | z
  ·rw[z] at h;cases h
  ·exact xko.mp z
 have e5:sortR ((kvs.map (·.1)).filter fun k=>decide (l.count k % 2=1))=oddS l:=zxm nd mm;have few:((kvs.map (·.1)).filter fun k=>decide (l.count k % 2=1)).length<=1000000:=by
  have p:=zkb nd (ziu l) fun k=>by rw[mm,zns]
  rw[p.length_eq];exact ho
 have e6:=zog (st:=st++[.fT kvs]) few;rw[e5] at e6;have hlen:(rowsD (kvs.map (·.1))).length<=sizeLine:=by
  rw[zn,xbe];exact small _ (by have:=hc.len;lia)
 refine seqN (σ1:=[some x,some (.ref st.length),none]) (st1:=st++[.dT []]) (by simp) ?_;refine seqN (σ1:=[some x,some (.ref st.length),v]) (st1:=st++[.dT kvs]) (by simp[hx,e]) ?_;have e7:eComp (iDict (eVar 1)) 1 [1] (gN 0) (eTru (eOp oDGet (eVar 1) (eVar 0))) (eVar 0) [some x,some (.ref st.length),v] (st++[.dT kvs])=.ok (.lst (rowsD ((kvs.map (·.1)).filter fun k=>decide (l.count k % 2=1)))) (st++[.fT kvs]):=by
  rw[zhd];have e8:iDict (eVar 1) [some x,some (.ref st.length),v] (st++[.dT kvs])=.ok (rowsD (kvs.map (·.1))) (st++[.fT kvs]):=by
   simp
  rw[e8,zbe,if_pos hlen];show(compF _ _ _ _ [none,some (.ref st.length)] _).bind _=_;rw[e2]
  rfl
 rw[zku,zdf,zfh,zdf,zfh,e7];simp only[zbe,zbla,e6,zub]
theorem zka {m:Int}(h:m<=1000):m < 2 ^ 1000:=xkp h (by decide +kernel)
theorem zxz {i j:Int}(h0:0 < j)(h1:j<=1000):CDivP i j:=⟨h0,xkp h1 (by decide +kernel)⟩
theorem zbeq {i j:Int}{st:Store}(h:CDivP i j):oFdiv (.int i) (.int j) st=.ok (.int (i / j)) st:=by
 show oI CDivP (fun i j=>D.int (i / j)) (.int i) (.int j) st=_;rw[oI_v,if_pos h]
theorem mulR {i j:Int}(h1:-10000<=j)(h2:j<=10000):CMul i j:=.inr ⟨by lia,by lia⟩
theorem rngN {j:Int}(h1:-10000<=j)(h2:j<=10000):RngOk j:=rngOk (by lia) (by lia)
theorem zqf {f:SE}{g:SA}{σ:DS}{st st1 st2:Store}{n:Nat}{xs0 xs:List D}{y:D}(hf:f σ st=.ok (.ref n) st1)(h1:st1[n]?=some (.lst xs0))(hg:g σ st1=.ok [y] st2)(h2:st2[n]?=some (.lst xs))(hl:xs.length < sizeLine) :
  eAppend f g σ st=.ok .non (st2.set n (.lst (xs++[y]))):=by
 rw[zpo,hf,zbe,zhf h1];dsimp only;rw[hg,zbe,h2];dsimp only;rw[if_pos hl]
theorem zqz {st:Store}{M K:Int}{m k:Nat}(eM:M=m)(eK:K=k)(hm:m<=100)(hk:k<=100):zcw [.int M,.int K] st=.ok (.int (ch m k:Nat)) st:=by
 have W:=zmi (bd:=gN 3) (body:=zeo) (xs:=rng 0 K.toNat) (σ:=[some (.int M),some (.int K),some (.int 1),none]) (st:=st)
  (fun i σ s=>s=st/\∃v C,σ=[some (.int M),some (.int K),some (.int C),v]/\C=(ch m i:Nat)) ⟨rfl,none,1,rfl,by rw[zmp];rfl⟩ (by
   rintro i y σ s hy ⟨rfl,v,C,rfl,hC⟩;obtain⟨hi,rfl⟩:=zql hy;generalize hI:(0:Int)+(i:Int)=I;have e:=zpx m i;have e2:C * (M - I) / (I+1)=((ch m (i+1):Nat):Int):=by
    rw[hC,eM,← hI,xhw,← e];exact Int.mul_ediv_cancel _ (by lia)
   have m1:CMul C (M - I):=mulR (by lia) (by lia);have d1:CDivP (C * (M - I)) (I+1):=zxz (by lia) (by lia);clear hC eM eK hm hk e hy;refine⟨[some (.int M),some (.int K),some (.int C),some (.int I)],[some (.int M),some (.int K),some (.int (C * (M - I) / (I+1))),some (.int I)],s,rfl,?_,rfl,_,_,rfl,e2⟩;unfold zeo;have e3:eOp oMulI (eVar 2) (eOp oSub (eVar 0) (eVar 3)) [some (.int M),some (.int K),some (.int C),some (.int I)] s=.ok (.int (C * (M - I))) s:=by simp[m1]
   have e4:eOp oAdd (eVar 3) (eC (.int 1)) [some (.int M),some (.int K),some (.int C),some (.int I)] s=.ok (.int (I+1)) s:=by simp
   rw[zbcq,zxx,e3,zbe,e4,zbe,zbeq d1,zbe]
   rfl)
 obtain⟨σ',st',e,rfl,v,C,rfl,hC⟩:=W;rw[zco] at hC;have hC':C=(ch m k:Nat):=by rw[hC,eK];rfl
 have hr:RngOk K:=rngN (by lia) (by lia);rw[← hC'];clear hC hC' eM eK hm hk;refine zdb rfl ?_;simp[hr,e]
theorem zqk {a b:Int}{i:Nat}(h:0 < a+b - (i:Int)):([a+b - (i:Int),(i:Int)].filter fun x=>decide (0 < x))=rowC a b i:=by
 have:=zrw h;exact this
theorem zrb {st:Store}{a b:Int}(ha:1<=a)(ha2:a<=40)(hb:1<=b)(hb2:b<=40)(hab:a < 2 * b):∃g,zdj [.int a,.int b] st=.ok (sumD (sortR (rowsL a b (a / 2+1).toNat))) (st++g):=by
 have W:=zmi (bd:=gN 3) (body:=zeq) (xs:=rng 0 (a / 2+1).toNat) (σ:=[some (.int a),some (.int b),some (.ref st.length),none]) (st:=st++[.lst []])
  (fun i σ s=>(∃v,σ=[some (.int a),some (.int b),some (.ref st.length),v])/\s=st++[.lst (rowsD (rowsL a b i))]) ⟨⟨none,rfl⟩,rfl⟩ (by
   rintro i y σ s hy ⟨⟨v,rfl⟩,rfl⟩;obtain⟨hi,rfl⟩:=zql hy;have hi2:2 * (i:Int)<=a:=by lia
   have hl:=zdq a b i;have m:CMul 2 (i:Int):=.inl ⟨by decide,by decide⟩;have e1:=zqz (st:=st++[.lst (rowsD (rowsL a b i))]) (M:=b - i - 1) (K:=a - 2 * i) (m:=(b - i - 1).toNat) (k:=(a - 2 * i).toNat) (by lia) (by lia) (by lia) (by lia);have e1a:(((b - i - 1).toNat:Nat):Int)=b - i - 1:=by lia
   have e1b:(((a - 2 * i).toNat:Nat):Int)=a - 2 * i:=by lia
   have hn:(st++[O.lst (rowsD (rowsL a b i))])[st.length]?=some (.lst (rowsD (rowsL a b i))):=by simp
   have hL:=zhf hn;have hsz':(rowsL a b i).length < sizeLine:=smallT _ (by lia);have s2:=small 2 (by lia);have odd:oddW (b - i - 1) (a - 2 * i)=decide (((ch (b - i - 1).toNat (a - 2 * i).toNat:Nat):Int) % 2=1):=by
    have e:=zbio (m:=(b - i - 1).toNat) (k:=(a - 2 * i).toNat) (by lia) (by lia);rw[e1a,e1b] at e;rw[e,xdl];simp only[xgq];lia
   generalize ch (b - i - 1).toNat (a - 2 * i).toNat=W at e1 odd;clear e1a e1b;refine⟨[some (.int a),some (.int b),some (.ref st.length),some (.int (0+i))],[some (.int a),some (.int b),some (.ref st.length),some (.int (0+i))],st++[.lst (rowsD (rowsL a b (i+1)))],rfl,?_,⟨_,rfl⟩,rfl⟩;rw[xhw];unfold zeq;have ec:eComp (iSeq (eLst (aCons (eOp oSub (eOp oAdd (eVar 0) (eVar 1)) (eVar 3)) (aCons (eVar 3) aNil)))) 1 [] (gN 0) (eB (eOp oGt (eVar 0) (eC (.int 0)))) (eVar 0) [some (.int a),some (.int b),some (.ref st.length),some (.int i)] (st++[.lst (rowsD (rowsL a b i))])
     = .ok (.lst ((rowC a b i).map D.int)) (st++[.lst (rowsD (rowsL a b i))]):=by
    have h1:0 < a+b - (i:Int):=by lia
    rw[← zqk h1];have h2:(i:Int) < a+b:=by lia
    by_cases c2:0 < i
    ·simp[s2,compF,gN,startD,h2,c2,xgx]
    ·have c3:i=0:=by lia
     subst c3;simp at h2;simp[s2,compF,gN,startD,h2,xgx]
   by_cases c:oddW (b - i - 1) (a - 2 * i)=true
   ·rw[zot c];have c':(W:Int) % 2=1:=by rw[odd] at c;exact xeh c
    rw[zyw];have et:eB (eOp oEq (eOp oMod (eCall zcw (aCons (eOp oSub (eOp oSub (eVar 1) (eVar 3)) (eC (.int 1))) (aCons (eOp oSub (eVar 0) (eOp oMulI (eC (.int 2)) (eVar 3))) aNil))) (eC (.int 2))) (eC (.int 1))) [some (.int a),some (.int b),some (.ref st.length),some (.int i)] (st++[.lst (rowsD (rowsL a b i))])=.ok true (st++[.lst (rowsD (rowsL a b i))]):=by
     simp[m,e1,c']
    rw[et,zbe,if_pos rfl,zos];have ea:aCons (eCall bTuple (aCons (eComp (iSeq (eLst (aCons (eOp oSub (eOp oAdd (eVar 0) (eVar 1)) (eVar 3)) (aCons (eVar 3) aNil)))) 1 [] (gN 0) (eB (eOp oGt (eVar 0) (eC (.int 0)))) (eVar 0)) aNil)) aNil [some (.int a),some (.int b),some (.ref st.length),some (.int i)] (st++[.lst (rowsD (rowsL a b i))])=.ok [rowD (rowC a b i)] (st++[.lst (rowsD (rowsL a b i))]):=by
     rw[zfh,zdf,zfh,ec]
     rfl
    rw[zqf (n:=st.length) rfl hn ea hn (by rw[zn];exact hsz'),zbe];simp[rowsD]
   ·have c':¬ (W:Int) % 2=1:=fun z=>c (by rw[odd];exact xcf z)
    rw[zrv c];have et:eB (eOp oEq (eOp oMod (eCall zcw (aCons (eOp oSub (eOp oSub (eVar 1) (eVar 3)) (eC (.int 1))) (aCons (eOp oSub (eVar 0) (eOp oMulI (eC (.int 2)) (eVar 3))) aNil))) (eC (.int 2))) (eC (.int 1))) [some (.int a),some (.int b),some (.ref st.length),some (.int i)] (st++[.lst (rowsD (rowsL a b i))])=.ok false (st++[.lst (rowsD (rowsL a b i))]):=by
     simp[m,e1,c']
    rw[zyw,et,zbe,if_neg (by decide)]
    rfl)
 obtain⟨σ',st',e,⟨v,rfl⟩,rfl⟩:=W;rw[zco] at e;refine⟨[.lst (rowsD (rowsL a b (a / 2+1).toNat))],zdb rfl ?_⟩;have d2:CDivP a 2:=⟨by decide,by decide +kernel⟩
 have hr:RngOk (a / 2+1):=rngOk (by lia) (by lia);have few:(rowsL a b (a / 2+1).toNat).length<=1000000:=by have:=zdq a b (a / 2+1).toNat;lia
 have hn:(st++[O.lst (rowsD (rowsL a b (a / 2+1).toNat))])[st.length]?=some (.lst (rowsD (rowsL a b (a / 2+1).toNat))):=by simp
 have es:bSorted [.ref st.length] (st++[.lst (rowsD (rowsL a b (a / 2+1).toNat))])=.ok (.lst (rowsD (sortR (rowsL a b (a / 2+1).toNat)))) (st++[.lst (rowsD (rowsL a b (a / 2+1).toNat))]):=by
  unfold bSorted;simp[zhf hn,few]
 simp[d2,hr,e,es]
structure RowOk (r:List Int) (most:Int) (long:Nat):Prop where
 pos:∀p∈r,1<=p
 sum:r.sum<=most
 len:r.length<=long
theorem zhy {r:List Int}(h:∀p∈r,1<=p):0<=r.sum:=by
 induction r with
 | nil=>simp
 | cons a r ih =>
  rw[List.sum_cons];have:=h a xch;have:=ih fun p hp=>h p (xci _ hp)
  lia
theorem Drew.over {st s:Store}{n k:Nat}{o:O}(d:Drew st s n)(hn:n < st.length)(hk:st.length<=k):Drew st (s.set k o) n:=by
 obtain⟨c,x,eb,c0,x0⟩:=d.bag;exact⟨by rw[xeb];exact d.len,fun i h1 h2=>by rw[xdq (by lia)];exact d.keep i h1 h2,c,x,by rw[xdq (by lia)];exact eb,c0,x0⟩
theorem zbbn (xs:List D)(y:D):L2.atI (xs++[y]) (-1)=some y:=by
 unfold L2.atI ixN;rw[xbq];have e:((-1:Int)+((xs.length+[y].length:Nat):Int)).toNat=xs.length:=by simp;lia
 rw[if_neg (by lia),if_pos (by simp;lia),e];simp
theorem zej {st:Store}{n:Nat}{m L:Int}{lg:Nat}(eL:L=lg)(hlg:lg<=100)(hb:BagAt st n)(h0:0<=m)(h1:m<=900):∃r st',zbv [.ref n,.int m,.int L] st=.ok (rowD r) st'/\RowOk r m lg/\Drew st st' n:=by
 have hn0:n < st.length:=by obtain⟨_,_,e,_⟩:=hb;exact zcc e
 have B0:BagAt (st++[.lst []]) n:=(Drew.more hb [.lst []]).bag;obtain⟨t,st1,e1,t0,t1,D1,hl1⟩:=zhx B0 (m:=L+1) (by lia) (zka (by lia));have k1:st1[st.length]?=some (.lst []):=by rw[D1.keep st.length (by simp) (by lia)];simp
 have W:=zmi (bd:=gN 5) (body:=zfo) (xs:=rng 0 t.toNat) (σ:=[some (.ref n),some (.int m),some (.int L),some (.ref st.length),some (.int m),none]) (st:=st1)
  (fun i σ s=>Drew st s n/\st.length < s.length/\∃(r:List Int) (left:Int) (v:Option D),σ=[some (.ref n),some (.int m),some (.int L),some (.ref st.length),some (.int left),v]/\left=m - r.sum/\s[st.length]?=some (.lst (r.map .int))/\RowOk r m i)
  ⟨(Drew.more hb _).trans D1,by rw[hl1];simp,[],m,none,rfl,by simp,k1,⟨fun p h=>(by cases h),by simpa using h0,by simp⟩⟩ (by
   rintro i x σ s hx ⟨Ds,hsl,r,left,v,rfl,hleft,ks,hr⟩;obtain⟨hi,rfl⟩:=zql hx;generalize hI:(0:Int)+(i:Int)=I;unfold zfo;have rs:=zhy hr.pos;have hil:i < 200:=by lia
   by_cases hpos:0 < left
   ·obtain⟨t2,s2,e2,a0,a1,D2,l2⟩:=zhx Ds.bag (m:=3) (by lia) (zka (by lia));have pick:∃q:Int,1<=q/\q<=left/\oIx (.lst [.int left,.int (if 5 < left then 5 else left),.int (if 2 < left then 2 else left)]) (.int t2) s2=.ok (.int q) s2:=by
     rcases(show t2=0\/t2=1\/t2=2 by lia) with rfl | rfl | rfl
     ·exact⟨left,by lia,by lia,rfl⟩
     ·exact⟨if 5 < left then 5 else left,by split<;>lia,by split<;>lia,rfl⟩
     ·exact⟨if 2 < left then 2 else left,by split<;>lia,by split<;>lia,rfl⟩
    obtain⟨q,q1,q2,e3⟩:=pick;obtain⟨p,s3,e4,b0,b1,D3,l3⟩:=zhx D2.bag (m:=q) q1 (zka (by lia));have ks2:s2[st.length]?=some (.lst (r.map .int)):=by rw[D2.keep st.length hsl (by lia)];exact ks
    have ks3:s3[st.length]?=some (.lst (r.map .int)):=by rw[D3.keep st.length (by lia) (by lia)];exact ks2
    have hs3:=small 3 (by lia);have hsz:(r.map D.int).length < sizeLine:=by rw[zfv];exact smallT _ (by have:=hr.len;lia)
    have hlt3:st.length < s3.length:=by lia
    have earg:aCons (eOp oAdd (eC (.int 1)) (eCall zl (aCons (eVar 0) (aCons (eOp oIx (eLst (aCons (eVar 4) (aCons (eCall bMin2 (aCons (eVar 4) (aCons (eC (.int 5)) aNil))) (aCons (eCall bMin2 (aCons (eVar 4) (aCons (eC (.int 2)) aNil))) aNil)))) (eCall zl (aCons (eVar 0) (aCons (eC (.int 3)) aNil)))) aNil)))) aNil
      [some (.ref n),some (.int m),some (.int L),some (.ref st.length),some (.int left),some (.int I)] s=.ok [.int (1+p)] s3:=by
     simp[e2,e3,e4,hs3]
    have eapp:=zqf (f:=eVar 3) (σ:=[some (.ref n),some (.int m),some (.int L),some (.ref st.length),some (.int left),some (.int I)]) rfl ks earg ks3 hsz;have ks4:(s3.set st.length (.lst (r.map D.int++[D.int (1+p)])))[st.length]?=some (.lst ((r++[1+p]).map .int)):=by
     rw[zjq hlt3,xew];rfl
    have elast:oIx (.ref st.length) (.int (-1)) (s3.set st.length (.lst (r.map D.int++[D.int (1+p)])))=.ok (.int (1+p)) (s3.set st.length (.lst (r.map D.int++[D.int (1+p)]))):=by
     refine znt (zkr ks4) ?_;rw[xew];exact zbbn _ _
    refine⟨[some (.ref n),some (.int m),some (.int L),some (.ref st.length),some (.int left),some (.int I)],[some (.ref n),some (.int m),some (.int L),some (.ref st.length),some (.int (left - (1+p))),some (.int I)],s3.set st.length (.lst (r.map D.int++[D.int (1+p)])),rfl,?_,?_,by rw[xeb];exact hlt3,r++[1+p],_,_,rfl,?_,ks4,?_⟩
    ·rw[zyw];show(if decide (0 < left)=true then _ else _)=_;rw[if_pos (xcf hpos)];refine seqN (σ1:=[some (.ref n),some (.int m),some (.int L),some (.ref st.length),some (.int left),some (.int I)]) (st1:=s3.set st.length (.lst (r.map D.int++[D.int (1+p)]))) ?_ ?_
     ·rw[zos,eapp]
      rfl
     ·simp[elast]
    ·exact((Ds.trans D2).trans D3).over hn0 (xbf _)
    ·rw[hleft,xfq];simp;lia
    ·refine⟨fun z hz=>?_,?_,?_⟩
     ·rcases xby.mp hz with hz | hz
      ·exact hr.pos z hz
      ·simp at hz;lia
     ·rw[xfq];simp;lia
     ·rw[xbq];have:=hr.len;simp;lia
   ·refine⟨[some (.ref n),some (.int m),some (.int L),some (.ref st.length),some (.int left),some (.int I)],[some (.ref n),some (.int m),some (.int L),some (.ref st.length),some (.int left),some (.int I)],s,rfl,?_,Ds,hsl,r,left,_,rfl,hleft,ks,⟨hr.pos,hr.sum,xeu hr.len⟩⟩;rw[zyw];show(if decide (0 < left)=true then _ else _)=_;rw[if_neg (by rw[xbm hpos];decide)]
    rfl)
 obtain⟨σ',st',e,Ds,hsl,r,left,v,rfl,hleft,ks,hr⟩:=W;rw[zco] at hr;refine⟨r,st',zdb rfl ?_,⟨hr.pos,hr.sum,by have:=hr.len;lia⟩,Ds⟩;have hs0:=small 0 (by lia);have hrg:RngOk t:=rngN (by lia) (by lia);refine seqN (σ1:=[some (.ref n),some (.int m),some (.int L),some (.ref st.length),none,none]) (st1:=st++[.lst []]) (by simp) ?_;refine seqN (σ1:=[some (.ref n),some (.int m),some (.int L),some (.ref st.length),some (.int m),none]) (st1:=st++[.lst []]) (by simp) ?_;refine seqN (σ1:=[some (.ref n),some (.int m),some (.int L),some (.ref st.length),some (.int left),v]) (st1:=st') ?_ ?_
 ·have e4:iR1 (aCons (eCall zl (aCons (eVar 0) (aCons (eOp oAdd (eVar 2) (eC (.int 1))) aNil))) aNil) [some (.ref n),some (.int m),some (.int L),some (.ref st.length),some (.int m),none] (st++[.lst []])=.ok (rng 0 t.toNat) st1:=by
   simp[e1,hrg]
  rw[zyx,e4];exact e
 ·rw[zku,zdf];show((bTuple [.ref st.length] st').bind _)=_;rw[zua ks]
  rfl
theorem zra {st:Store}{n:Nat}{A m L:Int}{lg:Nat}(eL:L=lg)(hlg:lg<=100)(hA:0<=A)(hA2:A<=60)(hb:BagAt st n)(h0:0<=m)(h1:m<=900) :
  ∃l st',zep [.ref n,.int A,.int m,.int L] st=.ok (sumD l) st'/\(∀r∈l,RowOk r m lg)/\l.Nodup/\(l.length:Int)<=A/\UpR l/\Drew st st' n:=by
 obtain⟨t,st1,e1,t0,t1,D1,_⟩:=zhx hb (m:=A+1) (by lia) (zka (by lia));have W:=zgd (bd:=gN 0) (c:=bYes) (f:=eCall zbv (aCons (eVar 1) (aCons (eVar 2) (aCons (eVar 3) aNil)))) (xs:=rng 0 t.toNat) (σ:=[none,some (.ref n),some (.int m),some (.int L)]) (st:=st1)
  (fun i acc σ s=>Drew st s n/\(∃w:Option D,σ=[w,some (.ref n),some (.int m),some (.int L)])/\∃l:List (List Int),acc=rowsD l/\(∀r∈l,RowOk r m lg)/\l.length=i) ⟨D1,⟨none,rfl⟩,[],rfl,fun r h=>(by cases h),rfl⟩ (by
   rintro i y acc σ s hy ⟨Ds,⟨w,rfl⟩,l,rfl,hr,hl⟩;obtain⟨r,s2,e2,r1,D2⟩:=zej eL hlg Ds.bag h0 h1;refine⟨[some y,some (.ref n),some (.int m),some (.int L)],true,s,rfl,rfl,.inr ⟨rfl,rowD r,s2,?_,Ds.trans D2,⟨_,rfl⟩,l++[r],by simp[rowsD],fun z hz=>?_,by simp[hl]⟩⟩
   ·simp[e2]
   ·rcases xby.mp hz with hz | hz
    ·exact hr z hz
    ·simp at hz;subst hz
     exact r1)
 obtain⟨ys,σ',st2,e2,Ds,_,l,rfl,hr,hl⟩:=W;rw[zco] at hl;obtain⟨g,e3⟩:=zgu (st:=st2) (x:=.lst (rowsD l)) (l:=l) rfl (by lia) (by have:=zeu l;lia);refine⟨oddS l,st2++g,zdb rfl ?_,fun r h=>hr r (zsp h),zlz l,by have:=zke l;lia,zhz _,Ds.trans (.more Ds.bag g)⟩;have hrg:RngOk t:=rngN (by lia) (by lia);have hln:(rng 0 t.toNat).length<=sizeLine:=by rw[zco];exact small _ (by lia)
 have e4:iR1 (aCons (eCall zl (aCons (eVar 0) (aCons (eOp oAdd (eVar 1) (eC (.int 1))) aNil))) aNil) [some (.ref n),some (.int A),some (.int m),some (.int L)] st=.ok (rng 0 t.toNat) st1:=by
  simp[e1,hrg]
 show sRet _ [some (.ref n),some (.int A),some (.int m),some (.int L)] st=_;rw[zku,zdf,zfh,zhd,e4,zbe,if_pos hln];show(((((compF _ _ _ _ [none,some (.ref n),some (.int m),some (.int L)] st1).bind _).bind _).bind _).bind _)=_;rw[e2];show((zbp [.lst (rowsD l)] st2).bind _)=_;rw[e3]
 rfl
theorem RowOk.app {a b:List Int}{m k m':Int}{l j:Nat}(h1:RowOk a m l)(h2:RowOk b k j)(hs:a.sum+b.sum<=m'):RowOk (a++b) m' (l+j) :=
 ⟨fun p hp=>(xby.mp hp).elim (h1.pos p) (h2.pos p),by rw[xfq];exact hs,by rw[xbq];have:=h1.len;have:=h2.len;lia⟩
theorem zjn {st:Store}{n:Nat}{m:Int}(hb:BagAt st n)(h0:2<=m)(h1:m<=900):∃r st',zci [.ref n,.int m] st=.ok (rowD r) st'/\RowOk r m 6/\Drew st st' n:=by
 obtain⟨b,s1,e1,b0,b1,D1,_⟩:=zhx hb (m:=m / 2) (by lia) (zka (by lia));have mq:1<=(if m - (1+b) < 2 * (1+b) - 1 then m - (1+b) else 2 * (1+b) - 1):=by split<;>lia
 have mq2:(if m - (1+b) < 2 * (1+b) - 1 then m - (1+b) else 2 * (1+b) - 1)<=m - (1+b):=by split<;>lia
 obtain⟨a,s2,e2,a0,a1,D2,_⟩:=zhx D1.bag (m:=if m - (1+b) < 2 * (1+b) - 1 then m - (1+b) else 2 * (1+b) - 1) mq (zka (by lia));obtain⟨r1,s3,e3,k1,D3⟩:=zej (L:=2) (lg:=2) rfl (by lia) D2.bag (m:=m - (1+a) - (1+b)) (by lia) (by lia);have rs:=zhy k1.pos;have rs2:=k1.sum;obtain⟨r2,s4,e4,k2,D4⟩:=zej (L:=2) (lg:=2) rfl (by lia) D3.bag (m:=m - (1+a) - (1+b) - r1.sum) (by lia) (by lia);have rs3:=k2.sum;have kab:RowOk [1+a,1+b] m 2:=⟨fun p hp=>by simp at hp;lia,by simp;lia,by simp⟩
 refine⟨r1++[1+a,1+b]++r2,s4,zdb rfl ?_,?_,((D1.trans D2).trans D3).trans D4⟩
 ·have d2:CDivP m 2:=zxz (by lia) (by lia);have m2:CMul 2 (1+b):=.inl ⟨by decide,by decide⟩;have s2':=small 2 (by lia);have f1:=zev (st:=s3) (a:=r1) (b:=[1+a,1+b]) (by have:=k1.len;simp;lia);have f2:=zev (st:=s4) (a:=r1++[1+a,1+b]) (b:=r2) (by have:=k1.len;have:=k2.len;simp;lia);have sm:=zbbk (st:=s3) (ns:=r1);generalize hq:(if m - (1+b) < 2 * (1+b) - 1 then m - (1+b) else 2 * (1+b) - 1)=q at *
  refine seqN (σ1:=[some (.ref n),some (.int m),some (.int (1+b)),none,none]) (st1:=s1) (by simp[d2,e1]) ?_;refine seqN (σ1:=[some (.ref n),some (.int m),some (.int (1+b)),some (.int (1+a)),none]) (st1:=s2) (by simp[m2,hq,e2]) ?_;refine seqN (σ1:=[some (.ref n),some (.int m),some (.int (1+b)),some (.int (1+a)),some (rowD r1)]) (st1:=s3) (by simp[e3]) ?_;have x1:eOp oAdd (eVar 4) (eTup (aCons (eVar 3) (aCons (eVar 2) aNil))) [some (.ref n),some (.int m),some (.int (1+b)),some (.int (1+a)),some (rowD r1)] s3=.ok (rowD (r1++[1+a,1+b])) s3:=by
   have et:eTup (aCons (eVar 3) (aCons (eVar 2) aNil)) [some (.ref n),some (.int m),some (.int (1+b)),some (.int (1+a)),some (rowD r1)] s3=.ok (rowD [1+a,1+b]) s3:=by simp[s2']
   rw[zxx,show eVar 4 [some (.ref n),some (.int m),some (.int (1+b)),some (.int (1+a)),some (rowD r1)] s3=.ok (rowD r1) s3 from rfl,zbe,et,zbe,f1]
  have x2:eCall zbv (aCons (eVar 0) (aCons (eOp oSub (eOp oSub (eOp oSub (eVar 1) (eVar 3)) (eVar 2)) (eCall bSum (aCons (eVar 4) aNil))) (aCons (eC (.int 2)) aNil))) [some (.ref n),some (.int m),some (.int (1+b)),some (.int (1+a)),some (rowD r1)] s3=.ok (rowD r2) s4:=by
   simp only[rowD] at *
   simp[sm,e4]
  rw[zku,zxx,x1,zbe,x2,zbe,f2]
  rfl
 ·have z1:=k1.app kab (m':=m) (by simp;lia);exact z1.app k2 (m':=m) (by rw[xfq];simp;lia)
end Dd
namespace Dd
open PySem L2
noncomputable def WP {α:Type} (r:Res α) (Q:α->Store->Prop):Prop:=match r with
 | .ok a st=>Q a st
 | _=>False
theorem WP.get {α:Type}{r:Res α}{Q:α->Store->Prop}(h:WP r Q):∃a st,r=.ok a st/\Q a st:=by
 cases r with
 | ok a st=>exact⟨a,st,rfl,h⟩
 | exc x st=>exact h.elim
 | stuck=>exact h.elim
theorem WP.of {α:Type}{r:Res α}{Q:α->Store->Prop}{a:α}{st:Store}(e:r=.ok a st)(h:Q a st):WP r Q:=by rw[e];exact h
theorem WP.mono {α:Type}{r:Res α}{Q Q':α->Store->Prop}(h:WP r Q)(k:∀a st,Q a st->Q' a st):WP r Q':=by
 obtain⟨a,st,rfl,q⟩:=h.get;exact k a st q
theorem zr {α β:Type}{r:Res α}{f:α->Store->Res β}{Q:β->Store->Prop}:WP (r.bind f) Q=WP r (fun a st=>WP (f a st) Q):=by
 cases r<;>rfl
noncomputable def seqK (t:SS) (Q:Fl->Store->Prop):Fl->Store->Prop:=fun fl st=>match fl with
 | .nx σ=>WP (t σ st) Q
 | fl=>Q fl st
theorem zbcc {s t:SS}{σ:DS}{st:Store}{Q:Fl->Store->Prop}:WP (sSeq s t σ st) Q=WP (s σ st) (seqK t Q):=by
 unfold sSeq;cases s σ st with
 | ok fl st1=>cases fl<;>rfl
 | exc x st=>rfl
 | stuck=>rfl
theorem zuk {α:Type}{c:Prop}[Decidable c]{a b:Res α}{Q:α->Store->Prop}:WP (if c then a else b) Q=if c then WP a Q else WP b Q:=by
 split<;>rfl
theorem zmy {α:Type}{c:Prop}[Decidable c]{a:Res α}{Q:α->Store->Prop}:WP (if c then a else .stuck) Q=(c/\WP a Q):=by
 by_cases h:c
 ·rw[if_pos h];simp[h]
 ·rw[if_neg h];simp[h,WP]
noncomputable def retK (Q:D->Store->Prop):Fl->Store->Prop:=fun fl st=>match fl with
 | .ret v=>Q v st
 | .nx _=>Q .non st
 | _=>False
theorem zyk {n np:Nat}{b:SS}{ds:List D}{st:Store}{Q:D->Store->Prop}(h:ds.length=np)(k:WP (b (ds.map some++List.replicate (n - np) none) st) (retK Q)):WP (fnD n np b ds st) Q:=by
 obtain⟨fl,st',e,q⟩:=k.get;unfold fnD;rw[if_pos h,e];cases fl<;>first | exact q | exact q.elim
noncomputable def bK (Q:Bool->Store->Prop):D->Store->Prop:=fun v st=>match v with
 | .bl b=>Q b st
 | _=>False
noncomputable def gK (bd:SG) (Q:Fl->Store->Prop) (σ:DS):D->Store->Prop:=fun v st=>match bd v σ with
 | some σ1=>Q (.nx σ1) st
 | none=>False
theorem W:(∀{α:Type} {a:α} {st:Store} {Q:α->Store->Prop},WP (.ok a st) Q=Q a st)
 /\ (∀{s t:SS} {σ:DS} {st:Store} {Q:Fl->Store->Prop},WP (sSeq s t σ st) Q=WP (s σ st) (seqK t Q))
 /\ (∀{t:SS} {σ:DS} {st:Store} {Q:Fl->Store->Prop},seqK t Q (.nx σ) st=WP (t σ st) Q)
 /\ (∀{t:SS} {v:D} {st:Store} {Q:Fl->Store->Prop},seqK t Q (.ret v) st=Q (.ret v) st)
 /\ (∀{t:SS} {σ:DS} {st:Store} {Q:Fl->Store->Prop},seqK t Q (.brk σ) st=Q (.brk σ) st)
 /\ (∀{t:SS} {σ:DS} {st:Store} {Q:Fl->Store->Prop},seqK t Q (.ct σ) st=Q (.ct σ) st)
 /\ (∀{v:D} {st:Store} {Q:D->Store->Prop},retK Q (.ret v) st=Q v st)
 /\ (∀{σ:DS} {st:Store} {Q:D->Store->Prop},retK Q (.nx σ) st=Q .non st)
 /\ (∀{b:Bool} {st:Store} {Q:Bool->Store->Prop},bK Q (.bl b) st=Q b st)
 /\ (∀{d:D} {σ:DS} {st:Store} {Q:D->Store->Prop},WP (eC d σ st) Q=Q d st)
 /\ (∀{g:D->D->Store->Res D} {f f':SE} {σ:DS} {st:Store} {Q:D->Store->Prop},WP (eOp g f f' σ st) Q=WP (f σ st) (fun x st1=>WP (f' σ st1) (fun y st2=>WP (g x y st2) Q)))
 /\ (∀{g:D->Store->Res D} {f:SE} {σ:DS} {st:Store} {Q:D->Store->Prop},WP (eUn g f σ st) Q=WP (f σ st) (fun x st1=>WP (g x st1) Q))
 /\ (∀{g:List D->Store->Res D} {f:SA} {σ:DS} {st:Store} {Q:D->Store->Prop},WP (eCall g f σ st) Q=WP (f σ st) (fun x st1=>WP (g x st1) Q))
 /\ (∀{σ:DS} {st:Store} {Q:List D->Store->Prop},WP (aNil σ st) Q=Q [] st)
 /\ (∀{f:SE} {g:SA} {σ:DS} {st:Store} {Q:List D->Store->Prop},WP (aCons f g σ st) Q=WP (f σ st) (fun x st1=>WP (g σ st1) (fun xs st2=>Q (x::xs) st2)))
 /\ (∀{f:SE} {σ:DS} {st:Store} {Q:Bool->Store->Prop},WP (eB f σ st) Q=WP (f σ st) (bK Q))
 /\ (∀{f f':ST} {σ:DS} {st:Store} {Q:Bool->Store->Prop},WP (bAnd f f' σ st) Q=WP (f σ st) (fun b st1=>if b=true then WP (f' σ st1) Q else Q false st1))
 /\ (∀{f f':ST} {σ:DS} {st:Store} {Q:Bool->Store->Prop},WP (bOr f f' σ st) Q=WP (f σ st) (fun b st1=>if b=true then Q true st1 else WP (f' σ st1) Q))
 /\ (∀{f:ST} {σ:DS} {st:Store} {Q:Bool->Store->Prop},WP (bNot f σ st) Q=WP (f σ st) (fun b st1=>Q (!b) st1))
 /\ (∀{σ:DS} {st:Store} {Q:Bool->Store->Prop},WP (bYes σ st) Q=Q true st)
 /\ (∀{f f':SE} {σ:DS} {st:Store} {Q:D->Store->Prop},WP (eAnd f f' σ st) Q=WP (f σ st) (bK fun b st1=>if b=true then WP (f' σ st1) Q else Q (.bl false) st1))
 /\ (∀{f f':SE} {σ:DS} {st:Store} {Q:D->Store->Prop},WP (eOr f f' σ st) Q=WP (f σ st) (bK fun b st1=>if b=true then Q (.bl true) st1 else WP (f' σ st1) Q))
 /\ (∀{f:SE} {σ:DS} {st:Store} {Q:D->Store->Prop},WP (eNot f σ st) Q=WP (f σ st) (bK fun b st1=>Q (.bl (!b)) st1))
 /\ (∀{c:ST} {f f':SE} {σ:DS} {st:Store} {Q:D->Store->Prop},WP (eIf c f f' σ st) Q=WP (c σ st) (fun b st1=>if b=true then WP (f σ st1) Q else WP (f' σ st1) Q))
 /\ (∀{g:SA} {σ:DS} {st:Store} {Q:D->Store->Prop},WP (eTup g σ st) Q=WP (g σ st) (fun xs st1=>xs.length<=sizeLine/\Q (.tup xs) st1))
 /\ (∀{g:SA} {σ:DS} {st:Store} {Q:D->Store->Prop},WP (eLst g σ st) Q=WP (g σ st) (fun xs st1=>xs.length<=sizeLine/\Q (.lst xs) st1))
 /\ (∀{g:SA} {σ:DS} {st:Store} {Q:D->Store->Prop},WP (eLstM g σ st) Q=WP (g σ st) (fun xs st1=>xs.length<=sizeLine/\Q (.ref st1.length) (st1++[.lst xs])))
 /\ (∀{σ:DS} {st:Store} {Q:D->Store->Prop},WP (eDNew σ st) Q=Q (.ref st.length) (st++[.dT []]))
 /\ (∀{σ:DS} {st:Store} {Q:Fl->Store->Prop},WP (sNx σ st) Q=Q (.nx σ) st)
 /\ (∀{σ:DS} {st:Store} {Q:Fl->Store->Prop},WP (sBrk σ st) Q=Q (.brk σ) st)
 /\ (∀{σ:DS} {st:Store} {Q:Fl->Store->Prop},WP (sCt σ st) Q=Q (.ct σ) st)
 /\ (∀{σ:DS} {st:Store} {Q:Fl->Store->Prop},WP (sRetN σ st) Q=Q (.ret .non) st)
 /\ (∀{f:SE} {σ:DS} {st:Store} {Q:Fl->Store->Prop},WP (sRet f σ st) Q=WP (f σ st) (fun v st1=>Q (.ret v) st1))
 /\ (∀{f:SE} {σ:DS} {st:Store} {Q:Fl->Store->Prop},WP (sDrop f σ st) Q=WP (f σ st) (fun _ st1=>Q (.nx σ) st1))
 /\ (∀{i:Nat} {f:SE} {σ:DS} {st:Store} {Q:Fl->Store->Prop},WP (sSet i f σ st) Q=WP (f σ st) (fun v st1=>Q (.nx (σ.set i (some v))) st1))
 /\ (∀{bd:SG} {f:SE} {σ:DS} {st:Store} {Q:Fl->Store->Prop},WP (sSetG bd f σ st) Q=WP (f σ st) (gK bd Q σ))
 /\ (∀{c:ST} {s t:SS} {σ:DS} {st:Store} {Q:Fl->Store->Prop},WP (sIf c s t σ st) Q=WP (c σ st) (fun b st1=>if b=true then WP (s σ st1) Q else WP (t σ st1) Q))
 /\ (∀{it:SA} {bd:SG} {body:SS} {σ:DS} {st:Store} {Q:Fl->Store->Prop},WP (sFor it bd body σ st) Q=WP (it σ st) (fun xs st1=>WP (forF bd body xs σ st1) Q))
 /\ (∀{it:SA} {k:Nat} {is:List Nat} {bd:SG} {c:ST} {f:SE} {σ:DS} {st:Store} {Q:D->Store->Prop},WP (eComp it k is bd c f σ st) Q=WP (it σ st) (fun xs st1=>xs.length<=sizeLine/\WP (compF bd c f xs (startD k is σ) st1) (fun ys st2=>Q (.lst ys) st2)))
 /\ (∀{it:SA} {k:Nat} {is:List Nat} {bd:SG} {c:ST} {f:SE} {σ:DS} {st:Store} {Q:D->Store->Prop},WP (eCompM it k is bd c f σ st) Q=WP (it σ st) (fun xs st1=>xs.length<=sizeLine/\WP (compF bd c f xs (startD k is σ) st1) (fun ys st2=>Q (.ref st2.length) (st2++[.lst ys]))))
 /\ (∀{C:Int->Int->Prop} [DecidableRel C] {h:Int->Int->D} {i j:Int} {st:Store} {Q:D->Store->Prop},WP (oI C h (.int i) (.int j) st) Q=(C i j/\Q (h i j) st))
 /\ (∀{i j:Int} {st:Store} {Q:D->Store->Prop},WP (oAdd (.int i) (.int j) st) Q=Q (.int (i+j)) st)
 /\ (∀{a b:List D} {st:Store} {Q:D->Store->Prop},WP (oAdd (.tup a) (.tup b) st) Q=(a.length+b.length<=sizeLine/\Q (.tup (a++b)) st))
 /\ (∀{i j:Int} {st:Store} {Q:D->Store->Prop},WP (oLtT (.int i) (.int j) st) Q=Q (.bl (decide (i < j))) st)
 /\ (∀{i j:Int} {st:Store} {Q:D->Store->Prop},WP (oEqG false (.int i) (.int j) st) Q=Q (.bl (decide (i=j))) st)
 /\ (∀{i j:Int} {st:Store} {Q:D->Store->Prop},WP (oEqG true (.int i) (.int j) st) Q=Q (.bl (!decide (i=j))) st)
 /\ (∀{i:Int} {st:Store} {Q:D->Store->Prop},WP (oNeg (.int i) st) Q=Q (.int (-i)) st)
 /\ (∀{i j:Int} {g:Int->Int->Int} {st:Store} {Q:D->Store->Prop},WP (b2I g [.int i,.int j] st) Q=Q (.int (g i j)) st)
 /\ (∀{i:Int} {st:Store} {Q:D->Store->Prop},WP (bAbs [.int i] st) Q=Q (.int (if i < 0 then -i else i)) st)
 /\ (∀{b:Bool} {st:Store} {Q:D->Store->Prop},WP (bInt [.bl b] st) Q=Q (.int (if b=true then 1 else 0)) st)
 /\ (∀{xs:List D} {st:Store} {Q:D->Store->Prop},WP (bLen [.tup xs] st) Q=Q (.int xs.length) st)
 /\ (∀{xs:List D} {st:Store} {Q:D->Store->Prop},WP (bLen [.lst xs] st) Q=Q (.int xs.length) st)
 /\ (∀{xs:List D} {st:Store} {Q:D->Store->Prop},WP (bLen [.scr xs] st) Q=Q (.int xs.length) st)
 /\ (∀{xs:List D} {st:Store} {Q:D->Store->Prop},WP (bTuple [.tup xs] st) Q=Q (.tup xs) st)
 /\ (∀{xs:List D} {st:Store} {Q:D->Store->Prop},WP (bTuple [.lst xs] st) Q=Q (.tup xs) st)
 /\ (∀{xs:List D} {st:Store} {Q:D->Store->Prop},WP (bList [.tup xs] st) Q=Q (.lst xs) st)
 /\ (∀{xs:List D} {st:Store} {Q:D->Store->Prop},WP (bList [.lst xs] st) Q=Q (.lst xs) st)
 /\ (∀{d:D} {σ:DS} {st:Store} {Q:D->Store->Prop},WP (eVar 0 (some d::σ) st) Q=Q d st)
 /\ (∀{i:Nat} {σ:DS} {st:Store} {Q:D->Store->Prop} {o:Option D},WP (eVar (i+1) (o::σ) st) Q=WP (eVar i σ st) Q)
 /\ (∀{f:SE} {σ:DS} {st:Store} {Q:List D->Store->Prop},WP (iSeq f σ st) Q=WP (f σ st) (fun x st1=>∃xs,seqV x=some xs/\Q xs st1))
 /\ (∀{f:SE} {σ:DS} {st:Store} {Q:Bool->Store->Prop},WP (eTru f σ st) Q=WP (f σ st) (fun x st1=>∃b,tru st1 x=some b/\Q b st1))
 /\ (∀{g:SA} {σ:DS} {st:Store} {Q:List D->Store->Prop},WP (iR1 g σ st) Q=WP (g σ st) (fun xs st1=>∃j,xs=[.int j]/\RngOk j/\Q (rng 0 j.toNat) st1))
 /\ (∀{g:SA} {σ:DS} {st:Store} {Q:List D->Store->Prop},WP (iR2 g σ st) Q=WP (g σ st) (fun xs st1=>∃i j,xs=[.int i,.int j]/\RngOk i/\RngOk j/\Q (rng i (j - i).toNat) st1)):=by
 have g2:∀{α:Type} {c:Prop} [Decidable c] {a:α} {st:Store} {Q:α->Store->Prop},WP (if c then .ok a st else .stuck) Q=(c/\Q a st):=fun {α c _ a st Q}=>zmy
 refine⟨rfl,zbcc,rfl,rfl,rfl,rfl,rfl,rfl,rfl,rfl,?_⟩;refine⟨?_,?_⟩
 ·intros;rw[zxx,zr];congr;funext x st1;rw[zr]
 refine⟨zr,zr,rfl,?_⟩;refine⟨?_,?_⟩
 ·intros;rw[zfh,zr];congr;funext x st1;rw[zr];rfl
 refine⟨?_,?_⟩
 ·intros;rw[eB_v,zr];congr;funext x st1;cases x<;>rfl
 refine⟨?_,?_⟩
 ·intros;rw[zbky,zr];congr;funext x st1;rw[zuk];rfl
 refine⟨?_,?_⟩
 ·intros;rw[zbnp,zr];congr;funext x st1;rw[zuk];rfl
 refine⟨zr,rfl,?_⟩;refine⟨?_,?_⟩
 ·intros;rw[ztg,zr];congr;funext x st1;cases x<;>try rfl
  rename_i b;cases b<;>rfl
 refine⟨?_,?_⟩
 ·intros;rw[zbmt,zr];congr;funext x st1;cases x<;>try rfl
  rename_i b;cases b<;>rfl
 refine⟨?_,?_⟩
 ·intros;rw[zbew,zr];congr;funext x st1;cases x<;>rfl
 refine⟨?_,?_⟩
 ·intros;rw[zbmu,zr];congr;funext x st1;rw[zuk]
 refine⟨?_,?_⟩
 ·intros;rw[zbjg,zr];congr;funext x st1;rw[g2]
 refine⟨?_,?_⟩
 ·intros;rw[zbjh,zr];congr;funext x st1;rw[g2]
 refine⟨?_,?_⟩
 ·intros;rw[zbex,zr];congr;funext x st1;rw[g2]
 refine⟨rfl,rfl,rfl,rfl,rfl,zr,zr,zr,?_⟩;refine⟨?_,?_⟩
 ·intro bd f σ st Q;unfold sSetG;rw[zr];congr;funext x st1;unfold gK;cases bd x σ<;>rfl
 refine⟨?_,?_⟩
 ·intros;rw[zyw,zr];congr;funext x st1;rw[zuk]
 refine⟨zr,?_⟩;refine⟨?_,?_⟩
 ·intros;rw[zhd,zr];congr;funext x st1;rw[zmy,zr];rfl
 refine⟨?_,?_⟩
 ·intros;unfold eCompM;rw[zr];congr;funext x st1;rw[zmy,zr];rfl
 refine⟨?_,?_⟩
 ·intros;rw[oI_v,g2]
 refine⟨rfl,?_⟩;refine⟨?_,?_⟩
 ·intros;rw[zbdy,g2]
 refine⟨rfl,?_⟩;refine⟨?_,?_⟩
 ·intros;rw[show ∀i j st,oEqG false (.int i) (.int j) st=_ from fun i j st=>zbmo];rfl
 refine⟨?_,?_⟩
 ·intros;rw[show ∀i j st,oEqG true (.int i) (.int j) st=_ from fun i j st=>zbml];rfl
 refine⟨rfl,rfl,rfl,rfl,rfl,rfl,rfl,rfl,rfl,rfl,rfl,fun {d σ st Q}=>rfl,fun {i σ st Q o}=>rfl,?_⟩;refine⟨?_,?_⟩
 ·intros;rw[zbem,zr];congr;funext x st1
  cases h:seqV x with
  | none=>simp[WP]
  | some xs=>simp[WP]
 refine⟨?_,?_⟩
 ·intros;rw[zwh,zr];congr;funext x st1
  cases h:tru st1 x with
  | none=>simp[WP]
  | some xs=>simp[WP]
 refine⟨?_,?_⟩
 ·intros;rw[zbmr,zr];congr;funext x st1
  split
  ·rw[g2];simp[RngOk]
  ·rename_i hne;have:∀j,x≠[D.int j]:=fun j h=>hne j h
   simp[WP,this]
 ·intros;rw[zbmq,zr];congr;funext x st1
  split
  ·rw[g2];simp only[RngOk,List.cons.injEq,D.int.injEq,and_true];apply propext;constructor
   ·rintro⟨h,q⟩;exact⟨_,_,⟨rfl,rfl⟩,h.1,h.2,q⟩
   ·rintro⟨i',j',⟨rfl,rfl⟩,h1,h2,q⟩;exact⟨⟨h1,h2⟩,q⟩
  ·rename_i hne;have:∀i j,x≠[D.int i,D.int j]:=fun i j h=>hne i j h
   simp[WP,this]
noncomputable def loopK (I:DS->Store->Prop) (Q:Fl->Store->Prop):Fl->Store->Prop:=fun fl st=>match fl with
 | .nx σ=>I σ st
 | .ct σ=>I σ st
 | .brk σ=>Q (.nx σ) st
 | .ret v=>Q (.ret v) st
theorem zjp {bd:SG}{body:SS}{Q:Fl->Store->Prop}(I:Nat->DS->Store->Prop):∀(xs:List D) (k:Nat) (σ:DS) (st:Store),I k σ st ->
  (∀i x σ st,xs[i]?=some x->I (k+i) σ st->∃σ1,bd x σ=some σ1/\WP (body σ1 st) (loopK (I (k+i+1)) Q))->(∀σ st,I (k+xs.length) σ st->Q (.nx σ) st)->WP (forF bd body xs σ st) Q
 | [],k,σ,st,h,_,q=>q σ st h
 | x::xs,k,σ,st,h,s,q=>by
  obtain⟨σ1,e1,w⟩:=s 0 x σ st rfl h;obtain⟨fl,st2,e2,w⟩:=w.get;unfold forF;rw[e1];dsimp only;rw[e2]
  have go:∀σ2,I (k+0+1) σ2 st2->WP (forF bd body xs σ2 st2) Q:=fun σ2 h2=>zjp I xs (k+1) σ2 st2 h2 (fun i y σ st hy hi=>by
   have:=s (i+1) y σ st (by simpa using hy) (by rw[show k+(i+1)=k+1+i by lia];exact hi);rw[show k+(i+1)+1=k+1+i+1 by lia] at this
   exact this) (fun σ st h=>q σ st (by rw[xcg,show k+(xs.length+1)=k+1+xs.length by lia];exact h))
  cases fl with
  | nx σ2=>exact go σ2 w
  | ct σ2=>exact go σ2 w
  | brk σ2=>exact w
  | ret v=>exact w
theorem zbcd {bd:SG}{body:SS}{Q:Fl->Store->Prop}(I:Nat->DS->Store->Prop){xs:List D}{σ:DS}{st:Store}(h0:I 0 σ st)
  (s:∀i x σ st,xs[i]?=some x->I i σ st->∃σ1,bd x σ=some σ1/\WP (body σ1 st) (loopK (I (i+1)) Q))(q:∀σ st,I xs.length σ st->Q (.nx σ) st):WP (forF bd body xs σ st) Q :=
 zjp I xs 0 σ st h0 (fun i x σ st hx hi=>by rw[xdu] at hi ⊢;exact s i x σ st hx hi) fun σ st h=>q σ st (by rw[xdu] at h;exact h)
theorem L:(∀{I:DS->Store->Prop} {Q:Fl->Store->Prop} {σ:DS} {st:Store},loopK I Q (.nx σ) st=I σ st)
 /\ (∀{I:DS->Store->Prop} {Q:Fl->Store->Prop} {σ:DS} {st:Store},loopK I Q (.ct σ) st=I σ st)
 /\ (∀{I:DS->Store->Prop} {Q:Fl->Store->Prop} {σ:DS} {st:Store},loopK I Q (.brk σ) st=Q (.nx σ) st)
 /\ (∀{I:DS->Store->Prop} {Q:Fl->Store->Prop} {v:D} {st:Store},loopK I Q (.ret v) st=Q (.ret v) st):=⟨rfl,rfl,rfl,rfl⟩
theorem V:(∀{α:Type} {a b:α} {l:List α},(a::l).set 0 b=b::l)
 /\ (∀{α:Type} {a b:α} {l:List α} {i:Nat},(a::l).set (i+1) b=a::l.set i b)
 /\ (∀{σ:DS} {k:Nat} {is:List Nat},startD k is σ=List.replicate k none++is.map fun i=>(σ[i]?).getD none)
 /\ (∀{α:Type} {a:α} {k:Nat},List.replicate (k+1) a=a::List.replicate k a)
 /\ (∀{α:Type} {a:α},List.replicate 0 a=[])
 /\ (∀{α β:Type} {f:α->β} {a:α} {l:List α},(a::l).map f=f a::l.map f)
 /\ (∀{α β:Type} {f:α->β},([]:List α).map f=[])
 /\ (∀{α:Type} {a:α} {l m:List α},(a::l)++m=a::(l++m))
 /\ (∀{α:Type} {l:List α},[]++l=l)
 /\ (∀{α:Type} {a:α} {l:List α},(a::l)[0]?=some a)
 /\ (∀{α:Type} {a:α} {l:List α} {i:Nat},(a::l)[i+1]?=l[i]?)
 /\ (∀{α:Type} {a:α} {d:α},(some a).getD d=a)
 /\ (∀{i:Nat} {d:D} {σ:DS},gN i d σ=some (σ.set i (some d)))
 /\ (∀{p:Prop} [Decidable p],(decide p=true)=p)
 /\ (∀{p:Prop} [Decidable p],((!decide p)=true)=¬ p)
 /\ (∀{b:Bool},((!b)=true)=(b=false))
 /\ (∀{a b:Prop},(if True then a else b)=a)
 /\ (∀{a b:Prop},(if False then a else b)=b)
 /\ (∀{a b:Prop},(if true=true then a else b)=a)
 /\ (∀{a b:Prop},(if false=true then a else b)=b)
 /\ (∀{α:Type} {a b:α},(if True then a else b)=a)
 /\ (∀{α:Type} {a b:α},(if False then a else b)=b)
 /\ ((true=false)=False)/\((false=true)=False)/\((true=true)=True)/\((false=false)=True)/\((¬ True)=False)/\((¬ False)=True):=by
 refine⟨rfl,rfl,rfl,rfl,rfl,rfl,rfl,rfl,rfl,rfl,?_,rfl,rfl,?_,?_,?_,rfl,rfl,rfl,rfl,rfl,rfl,by simp,by simp,by simp,by simp,by simp,by simp⟩
 ·intros;rfl
 ·intro p _;simp
 ·intro p _;simp
 ·intro b;simp
theorem M:(∀{f:SE} {σ:DS} {st:Store} {Q:Option Int->Store->Prop},WP (pSome f σ st) Q=WP (f σ st) (fun v st1=>∃i,v=.int i/\Q (some i) st1))
 /\ (∀{σ:DS} {st:Store} {Q:Option Int->Store->Prop},WP (pNone σ st) Q=Q none st)
 /\ (∀{f:SE} {lo hi:DS->Store->Res (Option Int)} {σ:DS} {st:Store} {Q:D->Store->Prop},WP (eSl f lo hi σ st) Q=WP (f σ st) (fun x st1=>WP (lo σ st1) (fun l st2=>WP (hi σ st2) (fun h st3=>(∃xs,x=.tup xs/\Q (.tup (cutD xs l h)) st3)\/(∃xs,asL st3 x=some xs/\Q (.lst (cutD xs l h)) st3)))))
 /\ (∀{f:SE} {σ:DS} {st:Store} {Q:D->Store->Prop},WP (eFz f σ st) Q=WP (f σ st) (fun x st1=>∃n xs,x=.ref n/\st1[n]?=some (.lst xs)/\Q (.lst xs) (st1.set n .dead)))
 /\ (∀{f g h:SE} {σ:DS} {st:Store} {Q:Fl->Store->Prop},WP (sSetIx f g h σ st) Q=WP (h σ st) (fun v st1=>WP (f σ st1) (fun x st2=>WP (g σ st2) (fun y st3=>∃n k xs j,x=.ref n/\y=.int k/\st3[n]?=some (.lst xs)/\ixN xs.length k=some j/\Q (.nx σ) (st3.set n (.lst (xs.set j v)))))))
 /\ (∀{f:SE} {g:SA} {σ:DS} {st:Store} {Q:D->Store->Prop},WP (eAppend f g σ st) Q=WP (f σ st) (fun x st1=>∃n xs0,x=.ref n/\st1[n]?=some (.lst xs0)/\WP (g σ st1) (fun ys st2=>∃y xs,ys=[y]/\st2[n]?=some (.lst xs)/\xs.length < sizeLine/\Q .non (st2.set n (.lst (xs++[y]))))))
 /\ (∀{x:D} {st:Store} {Q:D->Store->Prop},WP (bSum [x] st) Q=∃ns,(seqOf st x).bind asInts=some ns/\Q (.int ns.sum) st)
 /\ (∀{x:D} {al:Bool} {st:Store} {Q:D->Store->Prop},WP (bAny al [x] st) Q=∃bs,(asL st x).bind asBools=some bs/\Q (.bl (if al then bs.all id else bs.any id)) st)
 /\ (∀{x:D} {gt:Bool} {st:Store} {Q:D->Store->Prop},WP (bBest gt [x] st) Q=∃n ns,(seqOf st x).bind asInts=some (n::ns)/\Q (.int (bestI gt n ns)) st)
 /\ (∀{g:SA} {σ:DS} {st:Store} {Q:List D->Store->Prop},WP (iZipT g σ st) Q=WP (g σ st) (fun xs st1=>∃a b,xs=[.tup a,.tup b]/\Q (pairsF a b) st1))
 /\ (∀{i:Nat} {g:D->D->Store->Res D} {f:SE} {σ:DS} {st:Store} {Q:Fl->Store->Prop},WP (sAug i g f σ st) Q=∃x,σ[i]?=some (some x)/\WP (f σ st) (fun y st1=>WP (g x y st1) (fun z st2=>Q (.nx (σ.set i (some z))) st2))):=by
 refine⟨?_,rfl,?_,?_,?_,?_,?_,?_,?_,?_,?_⟩
 ·intros;rw[zbdp,zr];congr;funext x st1
  cases x<;>simp[WP]
 ·intros;rw[zbms,zr];congr;funext x st1;rw[zr];congr;funext l st2;rw[zr];congr;funext h st3
  apply propext;split
  ·constructor
   ·intro q;exact .inl ⟨_,rfl,q⟩
   ·rintro(⟨xs,e,q⟩ | ⟨xs,e,q⟩)
    ·cases e;exact q
    ·cases e
  ·rename_i hne;constructor
   ·intro q;split at q
    ·rename_i xs e;exact .inr ⟨xs,e,q⟩
    ·exact q.elim
   ·rintro(⟨xs,e,q⟩ | ⟨xs,e,q⟩)
    ·exact absurd e (hne xs)
    ·rw[e];exact q
 ·intros;rw[zbmv,zr];congr;funext x st1
  apply propext;constructor
  ·intro q;split at q
   ·split at q
    ·rename_i xs e;exact⟨_,xs,rfl,e,q⟩
    ·exact q.elim
   ·exact q.elim
  ·rintro⟨n,xs,rfl,e,q⟩;dsimp only;rw[e];exact q
 ·intros;rw[zyv,zr];congr;funext v st1;rw[zr];congr;funext x st2;rw[zr];congr;funext y st3
  apply propext;constructor
  ·intro q;split at q
   ·split at q
    ·split at q
     ·exact⟨_,_,_,_,rfl,rfl,by assumption,by assumption,q⟩
     ·exact q.elim
    ·exact q.elim
   ·exact q.elim
  ·rintro⟨n,k,xs,j,rfl,rfl,e1,e2,q⟩;dsimp only;rw[e1];dsimp only;rw[e2];exact q
 ·intros;rw[zpo,zr];congr;funext x st1
  apply propext;constructor
  ·intro q;split at q
   ·rename_i n xs0 e;rw[zr] at q;have e':st1[n]?=some (.lst xs0):=by
     unfold asL at e;dsimp only at e;split at e
     ·cases e;assumption
     ·cases e
    refine⟨n,xs0,rfl,e',q.mono fun ys st2 h=>?_⟩;split at h
    ·split at h
     ·exact⟨_,_,rfl,by assumption,by assumption,h⟩
     ·exact h.elim
    ·exact h.elim
   ·exact q.elim
  ·rintro⟨n,xs0,rfl,e,q⟩;rw[zhf e];dsimp only;rw[zr];refine q.mono fun ys st2 h=>?_
   obtain⟨y,xs,rfl,e2,hl,h⟩:=h;rw[e2];dsimp only;rw[if_pos hl];exact h
 ·intro x st Q;unfold bSum;dsimp only;cases h:(seqOf st x).bind asInts with
  | none=>simp[WP]
  | some ns=>simp[WP]
 ·intro x al st Q;unfold bAny;dsimp only;cases h:(asL st x).bind asBools with
  | none=>simp[WP]
  | some ns=>simp[WP]
 ·intro x gt st Q;unfold bBest;dsimp only;cases h:(seqOf st x).bind asInts with
  | none=>simp[WP]
  | some ns =>
   cases ns with
   | nil=>simp[WP]
   | cons n ns =>
    apply propext;constructor
    ·intro q;exact⟨_,_,rfl,q⟩
    ·rintro⟨a,b,e,q⟩;cases e;exact q
 ·intro g σ st Q;unfold iZipT;rw[zr];congr;funext x st1
  apply propext;constructor
  ·intro q;split at q
   ·exact⟨_,_,rfl,q⟩
   ·exact q.elim
  ·rintro⟨a,b,rfl,q⟩;exact q
 ·intro i g f σ st Q;rw[zbhl];apply propext;constructor
  ·intro q;split at q
   ·rename_i x e;rw[zr] at q;exact⟨x,e,q.mono fun y st1 h=>by rw[zr] at h;exact h⟩
   ·exact q.elim
  ·rintro⟨x,e,q⟩;rw[e];dsimp only;rw[zr];exact q.mono fun y st1 h=>by rw[zr];exact h
section
variable {st:Store}{n:Nat}{Q:D->Store->Prop}
theorem zfa {m:Int}(hb:BagAt st n)(h1:1<=m)(h2:m<=1000000)(k:∀r st',0<=r->r < m->Drew st st' n->Q (.int r) st'):WP (zl [.ref n,.int m] st) Q:=by
 obtain⟨r,st',e,a1,a2,a3,_⟩:=zhx hb h1 (xkp h2 (by decide +kernel));exact WP.of e (k r st' a1 a2 a3)
theorem zbbt {x:D}{xs:List D}{i:Int}{d:D}(h:seqOf st x=some xs)(h2:L2.atI xs i=some d)(q:Q d st):WP (oIx x (.int i) st) Q:=WP.of (znt h h2) q
theorem zoz {xs:List D}{i:Int}(h0:0<=i)(h1:i < xs.length)(q:∀d∈xs,Q d st):WP (oIx (.lst xs) (.int i) st) Q:=by
 obtain⟨j,rfl⟩:=xji h0;have hj:j < xs.length:=by lia
 exact zbbt (xs:=xs) (d:=xs[j]) rfl (zbbm (xbh hj)) (q _ (xdm hj))
theorem zbkr {ns:List Int}{i:Nat}(hl:ns.length<=63)(hi:i<=100000)(k:∀g,BagAt (st++g) st.length->Q (.ref st.length) (st++g)):WP (zez [.scr (ns.map .int),.int i] st) Q:=by
 obtain⟨c,x,hc,hx,e⟩:=zbks (st:=st) hl hi;exact WP.of e (k _ ⟨c,x,by simp,hc,hx⟩)
end
noncomputable def WX {α:Type} (r:Res α) (Q:α->Store->Prop) (E:Exc->Store->Prop):Prop:=match r with
 | .ok a st=>Q a st
 | .exc x st=>E x st
 | .stuck=>False
theorem WX.wp {α:Type}{r:Res α}{Q:α->Store->Prop}(h:WX r Q fun _ _=>False):WP r Q:=by
 cases r<;>exact h
theorem zbgw {α:Type}{f:DS->Store->Res α}{σ:DS}{st:Store}{Q:α->Store->Prop}:WP (noX f σ st) Q=WP (f σ st) Q:=by
 unfold noX;cases f σ st<;>rfl
theorem zbca {α:Type}{f:DS->Store->Res α}{σ:DS}{st:Store}{Q:α->Store->Prop}{E:Exc->Store->Prop}:WX (noX f σ st) Q E=WP (f σ st) Q:=by
 unfold noX;cases f σ st<;>rfl
theorem zoj {α β:Type}{f:DS->Store->Res α}{σ:DS}{st:Store}{g:α->Store->Res β}{Q:β->Store->Prop}{E:Exc->Store->Prop}:WX ((noX f σ st).bind g) Q E=WP (f σ st) (fun a st1=>WX (g a st1) Q E):=by
 unfold noX;cases f σ st<;>rfl
noncomputable def seqX (t:SS) (Q:Fl->Store->Prop) (E:Exc->Store->Prop):Fl->Store->Prop:=fun fl st=>match fl with
 | .nx σ=>WX (t σ st) Q E
 | fl=>Q fl st
theorem VX:(∀{α:Type} {f:DS->Store->Res α} {σ:DS} {st:Store} {Q:α->Store->Prop},WP (noX f σ st) Q=WP (f σ st) Q)
 /\ (∀{f:SE} {σ:DS} {st:Store} {Q:D->Store->Prop} {E:Exc->Store->Prop},WX (noX f σ st) Q E=WP (f σ st) Q)
 /\ (∀{f:SS} {σ:DS} {st:Store} {Q:Fl->Store->Prop} {E:Exc->Store->Prop},WX (noX f σ st) Q E=WP (f σ st) Q)
 /\ (∀{s t:SS} {σ:DS} {st:Store} {Q:Fl->Store->Prop} {E:Exc->Store->Prop},WX (sSeq s t σ st) Q E=WX (s σ st) (seqX t Q E) E)
 /\ (∀{t:SS} {σ:DS} {st:Store} {Q:Fl->Store->Prop} {E:Exc->Store->Prop},seqX t Q E (.nx σ) st=WX (t σ st) Q E)
 /\ (∀{t:SS} {v:D} {st:Store} {Q:Fl->Store->Prop} {E:Exc->Store->Prop},seqX t Q E (.ret v) st=Q (.ret v) st)
 /\ (∀{c:ST} {s t:SS} {σ:DS} {st:Store} {Q:Fl->Store->Prop} {E:Exc->Store->Prop},WX (sIf (noX c) s t σ st) Q E=WP (c σ st) (fun b st1=>if b=true then WX (s σ st1) Q E else WX (t σ st1) Q E))
 /\ (∀{c:Str} {g:SA} {σ:DS} {st:Store} {Q:Fl->Store->Prop} {E:Exc->Store->Prop},WX (sRaise c (noX g) σ st) Q E=WP (g σ st) (fun xs st1=>xs.length<=sizeLine/\E ⟨c,[]⟩ st1))
 /\ (∀{F:DFn} {g:SA} {σ:DS} {st:Store} {Q:D->Store->Prop} {E:Exc->Store->Prop},WX (eCall F (noX g) σ st) Q E=WP (g σ st) (fun xs st1=>WX (F xs st1) Q E))
 /\ (∀{f:SE} {σ:DS} {st:Store} {Q:Fl->Store->Prop} {E:Exc->Store->Prop},WX (sRet f σ st) Q E=WX (f σ st) (fun v st1=>Q (.ret v) st1) E)
 /\ (∀{f:SE} {σ:DS} {st:Store} {Q:Fl->Store->Prop} {E:Exc->Store->Prop},WX (sDrop f σ st) Q E=WX (f σ st) (fun v st1=>Q (.nx σ) st1) E)
 /\ (∀{i:Nat} {f:SE} {σ:DS} {st:Store} {Q:Fl->Store->Prop} {E:Exc->Store->Prop},WX (sSet i f σ st) Q E=WX (f σ st) (fun v st1=>Q (.nx (σ.set i (some v))) st1) E)
 /\ (∀{it:SA} {bd:SG} {b:SS} {σ:DS} {st:Store} {Q:Fl->Store->Prop} {E:Exc->Store->Prop},WX (sFor (noX it) bd b σ st) Q E=WP (it σ st) (fun xs st1=>WX (forF bd b xs σ st1) Q E))
 /\ (∀{i:Nat} {cs:List Str} {b u:SS} {σ:DS} {st:Store} {Q:Fl->Store->Prop},WP (sTry i cs b u σ st) Q=WX (b σ st) Q (fun x st1=>x.cls∈cs/\WP (u (σ.set i (some (.exn x.cls x.at_))) st1) (fun fl st2=>match fl with | .ret v=>Q (.ret v) st2 | _=>False))):=by
 refine⟨zbgw,zbca,zbca,?_,rfl,rfl,?_,?_,?_,?_,?_,?_,?_,?_⟩
 ·intro s t σ st Q E;unfold sSeq;cases s σ st with
  | ok fl st1=>cases fl<;>rfl
  | exc x st=>rfl
  | stuck=>rfl
 ·intro c s t σ st Q E;show WX ((noX c σ st).bind _) Q E=_;rw[zoj]
  congr;funext b st1
  split<;>rfl
 ·intro c g σ st Q E;show WX ((noX g σ st).bind _) Q E=_;rw[zoj]
  congr;funext xs st1
  by_cases h:xs.length<=sizeLine
  ·rw[if_pos h];simp[WX,h]
  ·rw[if_neg h];simp[WX,h]
 ·intro F g σ st Q E;exact zoj
 ·intro f σ st Q E;unfold sRet;cases f σ st<;>rfl
 ·intro f σ st Q E;unfold sDrop;cases f σ st<;>rfl
 ·intro i f σ st Q E;unfold sSet;cases f σ st<;>rfl
 ·intro it bd b σ st Q E;exact zoj
 ·intro i cs b u σ st Q;unfold sTry;cases b σ st with
  | ok fl st1=>rfl
  | stuck=>rfl
  | exc x st1 =>
   show WP (if x.cls∈cs then _ else _) Q=(x.cls∈cs/\_)
   by_cases h:x.cls∈cs
   ·rw[if_pos h];simp only[h,true_and];cases u (σ.set i (some (.exn x.cls x.at_))) st1 with
    | ok fl st2=>cases fl<;>rfl
    | exc _ _=>rfl
    | stuck=>rfl
   ·rw[if_neg h];simp[WP,h]
theorem zbcb {n np:Nat}{b:SS}{ds:List D}{st:Store}{Q:D->Store->Prop}{E:Exc->Store->Prop}(h:ds.length=np)(k:WX (b (ds.map some++List.replicate (n - np) none) st) (retK Q) E):WX (fnD n np b ds st) Q E:=by
 unfold fnD;rw[if_pos h];revert k;cases b (ds.map some++List.replicate (n - np) none) st with
 | ok fl st'=>cases fl<;>first | exact fun q=>q | exact fun q=>q.elim
 | exc x st'=>exact fun q=>q
 | stuck=>exact fun q=>q
end Dd
namespace Dd
open PySem L2 K07 K23
noncomputable def placesL (r:List Int):List Nat:=(List.range (r.length - 1)).filter fun p=>decide (slowAt r p)
noncomputable abbrev plD (l:List Nat):List D:=l.map fun(p:Nat)=>D.int (p:Int)
theorem zmd {r:List Int}{p:Nat}:p∈placesL r↔slowAt r p:=by
 unfold placesL;rw[xgi,xdz,xgq];refine⟨fun h=>h.2,fun h=>⟨?_,h⟩⟩;obtain⟨a,b,_,e,_⟩:=h;have:=(xbk.mp e).1;lia
theorem zmf {st:Store}{r:List Int}(hl:r.length<=1000):zcx [rowD r] st=.ok (.lst (plD (placesL r))) st:=by
 have W:=zgd (bd:=gN 0) (c:=eB (eOp oLtT (eOp oIx (eVar 1) (eVar 0)) (eOp oMulI (eC (.int 2)) (eOp oIx (eVar 1) (eOp oAdd (eVar 0) (eC (.int 1))))))) (f:=eVar 0) (xs:=rng 0 (r.length - 1)) (σ:=[none,some (rowD r)]) (st:=st)
  (fun i acc σ s=>s=st/\(∃w:Option D,σ=[w,some (rowD r)])/\acc=plD ((List.range i).filter fun p=>decide (slowAt r p))) ⟨rfl,⟨none,rfl⟩,rfl⟩ (by
   rintro i y acc σ s hy ⟨rfl,⟨w,rfl⟩,rfl⟩;obtain⟨hi,rfl⟩:=zql hy;have g1:r[i]?=some r[i]:=xbh (by lia);have g2:r[i+1]?=some r[i+1]:=xbh (by lia);have e3:=zhb (st:=s) g1;have e4:=zhb (st:=s) g2;rw[xft] at e4;generalize hA:r[i]=a at *
   generalize hB:r[i+1]=b at *
   have e6:decide (a < 2 * b)=decide (slowAt r i):=by
    rw[xdl,xgq,xgq];exact⟨fun z=>⟨_,_,g1,g2,z⟩,fun⟨x,y,z1,z2,z⟩=>by rw[g1] at z1;rw[g2] at z2;cases z1;cases z2;exact z⟩
   have m:CMul 2 b:=.inl ⟨by decide,by decide⟩;refine⟨[some (.int (0+i)),some (rowD r)],decide (slowAt r i),s,rfl,?_,?_⟩
   ·rw[← e6,xhw];generalize hI:(i:Int)=I at *
    simp at e4;clear g1 g2 hA hB e6 hi hy hl hI;simp only[rowD] at *
    generalize D.tup (r.map D.int)=R at *
    simp[e3,e4,m]
   ·rw[xkb,xhl];by_cases c:slowAt r i
    ·refine .inr ⟨xcf c,.int (0+i),s,rfl,rfl,⟨_,rfl⟩,?_⟩;simp[plD,c]
    ·refine .inl ⟨xbm c,rfl,⟨_,rfl⟩,?_⟩
     simp[plD,c])
 obtain⟨ys,σ',st',e,rfl,_,rfl⟩:=W;rw[zco] at e;refine zdb rfl ?_;have hr:RngOk ((r.length:Int) - 1):=rngN (by lia) (by lia);have hln:(rng 0 (r.length - 1)).length<=sizeLine:=by rw[zco];exact small _ (by lia)
 have e1:iR1 (aCons (eOp oSub (eCall bLen (aCons (eVar 0) aNil)) (eC (.int 1))) aNil) [some (rowD r)] st'=.ok (rng 0 (r.length - 1)) st':=by
  have e2:=zud (st:=st') (r:=r);have e3:((r.length:Int) - 1).toNat=r.length - 1:=by lia
  generalize (r.length:Int)=N at *
  simp only[rowD] at *
  generalize D.tup (r.map D.int)=R at *
  simp[e2,hr,e3]
 show sRet _ [some (rowD r)] st'=_;rw[zku,zhd,e1,zbe,if_pos hln];show((compF _ _ _ _ [none,some (rowD r)] st').bind _).bind _=_;rw[e]
 rfl
end Dd
namespace Dd
open PySem L2
section
variable {st:Store}{n:Nat}{Q:D->Store->Prop}
end
inductive Pl (k:Nat):D->Prop
 | non:Pl k .non
 | bl (b:Bool):Pl k (.bl b)
 | int (i:Int):Pl k (.int i)
 | str (x:Str):Pl k (.str x)
 | tup {ds:List D} (h:∀d∈ds,Pl k d) (hl:ds.length<=k):Pl k (.tup ds)
 | lst {ds:List D} (h:∀d∈ds,Pl k d) (hl:ds.length<=k):Pl k (.lst ds)
noncomputable def wholeB:D->Bool
 | .int _=>true
 | _=>false
section
variable {k:Nat}{d:D}{st:Store}
end
section
variable {k:Nat}{d:D}{st:Store}{Q:D->Store->Prop}
end
section
variable {k:Nat}{d:D}{st:Store}{Q:D->Store->Prop}
end
theorem zcs {s t:SS}{σ:DS}{st:Store}{Q R:Fl->Store->Prop}(h:WP (s σ st) R)(k:∀fl s',R fl s'->seqK t Q fl s'):WP (sSeq s t σ st) Q:=by
 rw[zbcc];exact h.mono k
section
variable {st:Store}{n:Nat}{Q:D->Store->Prop}
end
section
variable {st:Store}{n:Nat}{Q:D->Store->Prop}
end
section
variable {k:Nat}{d:D}{st:Store}
end
section
variable {st:Store}{Q:D->Store->Prop}
end
section
variable {st:Store}{k:Nat}{d:D}{m:Int}{Q:D->Store->Prop}
end
theorem zoi {c:Str}{g:SA}{σ:DS}{st st1:Store}{Q:Fl->Store->Prop}{E:Exc->Store->Prop}{i:Int}(hg:g σ st=.ok [.int i] st1)(h0:0<=i)(h1:i<=1000)(q:E ⟨c,[i]⟩ st1):WX (sRaiseI c (noX g) σ st) Q E:=by
 unfold sRaiseI noX;rw[hg];show WX (if 0<=i/\i<=1000 then Res.exc ⟨c,[i]⟩ st1 else Res.stuck) Q E;rw[if_pos ⟨h0,h1⟩];exact q
end Dd
namespace Dd
open PySem L2 K07 K23
theorem zhj {st:Store}{ks:List (List Int)}{r:List Int}{p:Nat}(hk:ks.length<=5000)(hl:r.length<=100)(hs:slowAt r p)(ha:1<=r.getD p 0)(ha2:r.getD p 0<=40)(hb:1<=r.getD (p+1) 0)(hb2:r.getD (p+1) 0<=40) :
  ∃g,zca [sumD ks,rowD r,.int p] st=.ok (sumD (oddS (ks++(r::exRow r p)))) (st++g):=by
 have hab:r.getD p 0 < 2 * r.getD (p+1) 0:=by
  obtain⟨a,b,e1,e2,h⟩:=hs;rw[xbo,e1,xbo,e2];exact h
 have hp:p+1 < r.length:=by
  obtain⟨a,b,_,z,_⟩:=hs;exact(xbk.mp z).1
 have g1:r[p]?=some (r.getD p 0):=by rw[xbo,xbh (by lia)];rfl
 have g2:r[p+1]?=some (r.getD (p+1) 0):=by rw[xbo,xbh (by lia)];rfl
 have hx:=zfk r p;generalize hA:r.getD p 0=a at *
 generalize hB:r.getD (p+1) 0=b at *
 obtain⟨g,e⟩:=zrb (st:=st) ha ha2 hb hb2 hab;have hL:(sortR (rowsL a b (a / 2+1).toNat)).length<=100:=by
  rw[zdl];have:=zdq a b (a / 2+1).toNat;lia
 have c1:=zyc r p;have c2:=zpv r (p+2);rw[xft] at c2;have W:=zgd (bd:=gN 0) (c:=bYes) (f:=eOp oAdd (eOp oAdd (eSl (eVar 1) pNone (pSome (eVar 2))) (eVar 0)) (eSl (eVar 1) (pSome (eOp oAdd (eVar 2) (eC (.int 2)))) pNone)) (xs:=rowsD (sortR (rowsL a b (a / 2+1).toNat))) (σ:=[none,some (rowD r),some (.int p)]) (st:=st++g)
  (fun i acc σ s=>s=st++g/\(∃v,σ=[v,some (rowD r),some (.int p)])/\acc=rowsD (((sortR (rowsL a b (a / 2+1).toNat)).take i).map fun two=>r.take p++two++r.drop (p+2))) ⟨rfl,⟨none,rfl⟩,rfl⟩ (by
   rintro i y acc σ s hy ⟨rfl,⟨v,rfl⟩,rfl⟩;obtain⟨two,ht,rfl⟩:=zet hy;have h2:two.length<=2:=zjy two ((zbx _).mem_iff.mp (xcj ht));have l1:(r.take p).length<=100:=by rw[xcy];lia
   have l2:(r.drop (p+2)).length<=100:=by rw[xed];lia
   have e1:=zev (st:=st++g) (a:=r.take p) (b:=two) (by lia);have e2:=zev (st:=st++g) (a:=r.take p++two) (b:=r.drop (p+2)) (by rw[xbq];lia);refine⟨[some (rowD two),some (rowD r),some (.int p)],true,st++g,rfl,rfl,.inr ⟨rfl,rowD (r.take p++two++r.drop (p+2)),st++g,?_,rfl,⟨_,rfl⟩,?_⟩⟩
   ·have f1:eSl (eVar 1) pNone (pSome (eVar 2)) [some (rowD two),some (rowD r),some (.int p)] (st++g)=.ok (rowD (r.take p)) (st++g):=by
     show Res.ok (D.tup (cutD (r.map D.int) none (some (p:Int)))) _=_;rw[c1]
    have f2:eSl (eVar 1) (pSome (eOp oAdd (eVar 2) (eC (.int 2)))) pNone [some (rowD two),some (rowD r),some (.int p)] (st++g)=.ok (rowD (r.drop (p+2))) (st++g):=by
     show Res.ok (D.tup (cutD (r.map D.int) (some ((p:Int)+(2:Nat))) none)) _=_;rw[c2]
    rw[zxx,zxx,f1,zbe];show((oAdd (rowD (r.take p)) (rowD two) (st++g)).bind _)=_;rw[e1,zbe,f2];exact e2
   ·rw[zcb ht,xew]
    simp[rowsD])
 obtain⟨ys,σ',st',e2,rfl,_,rfl⟩:=W;rw[zn,xdn] at e2;have hlen:(rowsD (sortR (rowsL a b (a / 2+1).toNat))).length<=sizeLine:=by rw[zn];exact small _ (by lia)
 have e3:=zhb (st:=st) g1;have e4:=zhb (st:=st) g2;rw[xft] at e4;have hex:exRow r p=(sortR (rowsL a b (a / 2+1).toNat)).map fun two=>r.take p++two++r.drop (p+2):=by unfold exRow;rw[hA,hB]
 rw[← hex] at e2;obtain⟨g',e5⟩:=zgu (st:=st++g) (x:=.lst (rowsD (ks++[r]++exRow r p))) (l:=ks++[r]++exRow r p) rfl (by simp;lia) (by have:=zeu (ks++[r]++exRow r p);rw[xbq,xbq,xfi] at this;lia);refine⟨g++g',zdb rfl ?_⟩;refine seqN (σ1:=[some (sumD ks),some (rowD r),some (.int p),some (.lst (rowsD (exRow r p)))]) (st1:=st++g) ?_ ?_
 ·have ei:iSeq (eCall zdj (aCons (eOp oIx (eVar 1) (eVar 2)) (aCons (eOp oIx (eVar 1) (eOp oAdd (eVar 2) (eC (.int 1)))) aNil))) [some (sumD ks),some (rowD r),some (.int p),none] st=.ok (rowsD (sortR (rowsL a b (a / 2+1).toNat))) (st++g):=by
   clear c1 c2 e2 hex;simp only[rowD] at *
   generalize D.tup (r.map D.int)=R at *
   simp at e4;simp[e3,e4,e]
  show sSet 3 _ [some (sumD ks),some (rowD r),some (.int p),none] st=_;rw[zbcq,zhd,ei,zbe,if_pos hlen];show(((compF _ _ _ _ [none,some (rowD r),some (.int p)] _).bind _).bind _)=_;rw[e2]
  rfl
 ·have s1:=small 1 (by lia);have a1:eOp oAdd (eCall bList (aCons (eVar 0) aNil)) (eLst (aCons (eVar 1) aNil)) [some (sumD ks),some (rowD r),some (.int p),some (.lst (rowsD (exRow r p)))] (st++g)=.ok (.lst (rowsD (ks++[r]))) (st++g):=by
   have q1:eCall bList (aCons (eVar 0) aNil) [some (sumD ks),some (rowD r),some (.int p),some (.lst (rowsD (exRow r p)))] (st++g)=.ok (.lst (rowsD ks)) (st++g):=rfl;have q2:eLst (aCons (eVar 1) aNil) [some (sumD ks),some (rowD r),some (.int p),some (.lst (rowsD (exRow r p)))] (st++g)=.ok (.lst (rowsD [r])) (st++g):=by
    show(if 1<=sizeLine then Res.ok (D.lst [rowD r]) (st++g) else .stuck)=_;rw[if_pos s1]
    rfl
   rw[zxx,q1,zbe,q2,zbe];show(if(rowsD ks).length+(rowsD [r]).length<=sizeLine then Res.ok (D.lst (rowsD ks++rowsD [r])) (st++g) else .stuck)=_;rw[if_pos (by rw[zn,zn];exact small _ (by simp;lia))];simp[rowsD]
  have a2:eOp oAdd (eOp oAdd (eCall bList (aCons (eVar 0) aNil)) (eLst (aCons (eVar 1) aNil))) (eVar 3) [some (sumD ks),some (rowD r),some (.int p),some (.lst (rowsD (exRow r p)))] (st++g)=.ok (.lst (rowsD (ks++[r]++exRow r p))) (st++g):=by
   rw[zxx,a1,zbe];show(if(rowsD (ks++[r])).length+(rowsD (exRow r p)).length<=sizeLine then Res.ok (D.lst (rowsD (ks++[r])++rowsD (exRow r p))) (st++g) else .stuck)=_;rw[if_pos (by rw[zn,zn];exact small _ (by simp;lia))];simp[rowsD]
  rw[zku,zdf,zfh,a2];show((zbp [.lst (rowsD (ks++[r]++exRow r p))] _).bind _)=_;rw[e5,show ks++[r]++exRow r p=ks++(r::exRow r p) by simp,xcm]
  rfl
theorem zwg {r:List Int}{p:Nat}{m:Int}{L:Nat}(h:RowOk r m L)(hs:slowAt r p):∀z∈exRow r p,RowOk z m L:=fun z hz=>by
 obtain⟨a,b,g1,g2,hab⟩:=hs;have l1:p+1 < r.length:=(xbk.mp g2).1;have hb:=h.pos b (xcj g2);have ha:=h.pos a (xcj g1);unfold exRow at hz;obtain⟨two,h2,rfl⟩:=xdj.mp hz;have h3:=(zbx _).mem_iff.mp h2;rw[xbo,g1,xbo,g2] at h3;simp only[Option.getD_some] at h3;unfold rowsL at h3;obtain⟨c,h4,h5⟩:=xdj.mp h3;have h6:c < (a / 2+1).toNat:=xdz.mp (xgi.mp h4).1;have hr:r=r.take p++[a,b]++r.drop (p+2):=by
  have e1:r.drop p=a::r.drop (p+1):=by
   rw[xej (by lia)]
   congr 1
   exact(xbk.mp g1).2
  have e2:r.drop (p+1)=b::r.drop (p+2):=by
   rw[xej (by lia)]
   congr 1
   exact(xbk.mp g2).2
  calc r=r.take p++r.drop p:=(xfj p r).symm
   _=_:=by rw[e1,e2];simp
 have t1:two.sum=a+b/\(∀x∈two,1<=x)/\two.length<=2:=by
  rw[← h5];unfold rowC;split
  ·rename_i hc;refine⟨by simp<;>lia,fun x hx=>?_,by simp⟩;simp only[xbx,xig,or_false] at hx;rcases hx with rfl | rfl<;>lia
  ·rename_i hc;refine⟨by simp<;>lia,fun x hx=>?_,by simp⟩;simp only[xbx,xig,or_false] at hx;subst hx;lia
 have hsum:r.sum=(r.take p).sum+(a+b)+(r.drop (p+2)).sum:=by
  conv=>lhs;rw[hr]
  simp[xfq];lia
 refine⟨fun x hx=>?_,?_,?_⟩
 ·rcases xby.mp hx with hx | hx
  ·rcases xby.mp hx with hx | hx
   ·exact h.pos x (xke hx)
   ·exact t1.2.1 x hx
  ·exact h.pos x (xkc hx)
 ·have:=h.sum;rw[xfq,xfq,t1.1];lia
 ·have h7:=h.len;rw[xbq,xbq,xcy,xed];have:=t1.2.2;lia
theorem zrx {r:List Int}{m:Int}{L:Nat}(h:RowOk r m L):∀x∈r,1<=x/\x<=m:=fun x hx=>by
 refine⟨h.pos x hx,?_⟩;have:∀{r:List Int},(∀y∈r,1<=y)->∀x∈r,x<=r.sum:=fun {r}=>by
  induction r with
  | nil=>intro _ x hx;cases hx
  | cons a r ih =>
   intro h x hx;have h1:=h a (by simp);have h2:0<=r.sum:=zhy fun y hy=>h y (xci _ hy)
   rw[List.sum_cons];rcases xbx.mp hx with rfl | hx
   ·lia
   ·have:=ih (fun y hy=>h y (xci _ hy)) x hx;lia
 exact Int.le_trans (this h.pos x hx) h.sum
theorem zrt {r:List Int}{m:Int}{L p:Nat}(h:RowOk r m L)(hs:slowAt r p):(1<=r.getD p 0/\r.getD p 0<=m)/\(1<=r.getD (p+1) 0/\r.getD (p+1) 0<=m):=by
 obtain⟨a,b,g1,g2,_⟩:=hs;rw[xbo,g1,xbo,g2];exact⟨zrx h a (xcj g1),zrx h b (xcj g2)⟩
theorem zok {ks m:List (List Int)}(nd:ks.Nodup):oddS (sortR ks++m)=sortR (m.foldl flipL ks)/\(m.foldl flipL ks).Nodup/\(m.foldl flipL ks).length<=ks.length+m.length:=by
 obtain⟨h1,h2,h3⟩:=zit m ks nd;refine⟨(zxm h1 fun x=>?_).symm,h1,h2⟩;rw[h3,xhr];have e:(sortR ks).count x=if x∈ks then 1 else 0:=by
  rw[(zbx ks).count_eq,List.Nodup.count nd]
 rw[e,Nat.add_comm]
theorem zyp {ks m:List (List Int)}(nd:ks.Nodup){x:List Int}(h:x∈m.foldl flipL ks):x∈ks\/x∈m:=by
 by_cases c:x∈ks
 ·exact .inl c
 ·refine .inr ?_;have:=((zit m ks nd).2.2 x).mp h;rw[if_neg c] at this;exact xko.mp (by lia)
inductive Vd where | row | exch | go (r:List Int) (p:Nat)
noncomputable def vdP (r:List Int):D->Vd
 | .int p=>if 0<=p/\slowAt r p.toNat then .go r p.toNat else .exch
 | _=>.exch
noncomputable def vdR (l:List (List Int)) (b:D):Option (List Int)->Vd
 | none=>.row
 | some r=>if r∈l then vdP r b else .row
noncomputable def vd (l:List (List Int)):D->D->Vd
 | .tup ds,b=>vdR l b (asInts ds)
 | _,_=>.row
theorem zls {l:List (List Int)}{r:List Int}{b:D}:vd l (rowD r) b=if r∈l then vdP r b else .row:=by
 show vdR l b (asInts (r.map D.int))=_;rw[zjd];rfl
inductive RowT:D->Prop
 | row (r:List Int) (hl:r.length<=1000):RowT (rowD r)
 | lst (r:List Int):RowT (.lst (r.map .int))
inductive PlT:D->Prop
 | int (p:Int):PlT (.int p)
 | bl (b:Bool):PlT (.bl b)
 | non:PlT .non
theorem zoq {st:Store}{n:Nat}{ks:List (List Int)}{r:List Int}(h:st[n]?=some (.dT (trueD ks)))(hr:¬ r∈ks)(hl:r.length<=1000000):zba [.ref n,rowD r] st=.ok (.bl false) st:=by
 refine zdb rfl ?_;have e1:=zqg (st:=st) (τ0:=.ref n) hl [];have e2:=zsq (k:=r) (ziq h);rw[zhm,if_neg hr] at e2;have e3:bAny true [.lst (r.map fun _=>D.bl true)] st=.ok (.bl true) st:=by
  unfold bAny;simp[zje]
 have e0:eCall bIsinst (aCons (eVar 1) (aCons (eC (.ty "tuple")) aNil)) [some (.ref n), some (rowD r)] st=.ok (.bl true) st:=rfl
 have e4:eCall (bAny true) (aCons (eComp (iSeq (eVar 1)) 1 [] (gN 0) bYes (eCall zq (aCons (eVar 0) aNil))) aNil) [some (.ref n),some (rowD r)] st=.ok (.bl true) st:=by
  rw[zdf,zfh,e1];exact e3
 have e5:eOp (oDIn false) (eVar 1) (eVar 0) [some (.ref n),some (rowD r)] st=.ok (.bl false) st:=e2;show sRet _ [some (.ref n),some (rowD r)] st=_;rw[zku,ztg,e0,zbe];show(eAnd _ _ [some (.ref n),some (rowD r)] st).bind _=_;rw[ztg,e4,zbe];show(eOp (oDIn false) (eVar 1) (eVar 0) [some (.ref n),some (rowD r)] st).bind _=_;rw[e5]
 rfl
theorem zrs {st:Store}{n:Nat}{xs:List D}:zba [.ref n,.lst xs] st=.ok (.bl false) st:=rfl
theorem zzk {st:Store}{r:D}{b:Bool}:zbn [r,.bl b] st=.ok (.bl false) st:=rfl
theorem zvf {st:Store}{r:D}:zbn [r,.non] st=.ok (.bl false) st:=rfl
theorem zbip {R:SS}{σ:DS}{st s:Store}{fl:Fl}(h:R σ st=.ok fl s):noX R σ st=.ok fl s:=by unfold noX;rw[h]
theorem zte {C:ST}{r R R':SS}{σ:DS}{st s:Store}{fl:Fl}(hR:∀σ st fl s,R σ st=.ok fl s->R' σ st=.ok fl s)(h:sSeq (sIf C sStuck sNx) R σ st=.ok fl s):sSeq (sIf (noX C) r (noX sNx)) R' σ st=.ok fl s:=by
 cases e:C σ st with
 | stuck=>unfold sSeq sIf at h;rw[e] at h;cases h
 | exc x t=>unfold sSeq sIf at h;rw[e] at h;cases h
 | ok b t =>
  have e':noX C σ st=.ok b t:=by unfold noX;rw[e]
  cases b with
  | true=>unfold sSeq sIf at h;rw[e] at h;cases h
  | false =>
   have h':R σ t=.ok fl s:=by unfold sSeq sIf at h;rw[e] at h;exact h
   unfold sSeq sIf;rw[e'];exact hR _ _ _ _ h'
theorem zpk {C C2:ST}{r r2 R:SS}{σ:DS}{st s:Store}{fl:Fl}(h:sSeq (sIf C sStuck sNx) (sSeq (sIf C2 sStuck sNx) R) σ st=.ok fl s):sSeq (sIf (noX C) r (noX sNx)) (sSeq (sIf (noX C2) r2 (noX sNx)) (noX R)) σ st=.ok fl s :=
 zte (R:=sSeq (sIf C2 sStuck sNx) R) (R':=sSeq (sIf (noX C2) r2 (noX sNx)) (noX R)) (fun _ _ _ _ h=>zte (R:=R) (R':=noX R) (fun _ _ _ _ h=>zbip h) h) h
theorem zbet {ds:List D}{v:D}{st s:Store}(h:zes ds st=.ok v s):zw ds st=.ok v s:=by
 unfold zes fnD at h;unfold zw fnD;split at h
 ·next hl =>
  rw[if_pos hl];split at h
  ·next e=>rw[zpk e];exact h
  ·next e=>rw[zpk e];exact h
  ·cases h
  ·cases h
 ·cases h
structure Gd (ks:List (List Int)) (n:Nat):Prop where
 nd:ks.Nodup
 row:∀r∈ks,RowOk r 16 6
 len:ks.length+10 * n<=1000
theorem zpi:∀{ds:List D} {r:List Int},asInts ds=some r->ds=r.map D.int
 | [],r,h=>by cases h;rfl
 | d::ds,r,h=>by
  unfold asInts at h;split at h
  ·rename_i z;cases z
  ·rename_i i ds' z;cases z;obtain⟨r',e,rfl⟩:=xcw.mp h;rw[zpi e];rfl
  ·cases h
theorem zblg {ks:List (List Int)}{a b:D}{r:List Int}{p:Nat}(h:vd ks a b=.go r p):r∈ks/\slowAt r p/\a=rowD r/\b=.int p:=by
 unfold vd at h;split at h
 ·rename_i ds;cases e:asInts ds with
  | none=>rw[e] at h;cases h
  | some r' =>
   rw[e] at h;unfold vdR at h;split at h
   ·rename_i r'' e';cases e'
   ·rename_i r'' e';cases e';split at h
    ·rename_i hm;unfold vdP at h;split at h
     ·rename_i q;split at h
      ·rename_i hq;cases h;exact⟨hm,hq.2,by rw[zpi e],by rw[xgz hq.1]⟩
      ·cases h
     ·cases h
    ·cases h
 ·cases h
theorem Gd.step {ks:List (List Int)}{n:Nat}{r:List Int}{p:Nat}(h:Gd ks (n+1))(hr:r∈ks)(hs:slowAt r p):Gd ((r::exRow r p).foldl flipL ks) n:=by
 have hx:=zfk r p;have ha:=zrt (h.row r hr) hs;obtain⟨_,w1,w2⟩:=zok (m:=r::exRow r p) h.nd;refine⟨w1,fun z hz=>?_,?_⟩
 ·rcases zyp h.nd hz with hz | hz
  ·exact h.row z hz
  ·rcases xbx.mp hz with rfl | hz
   ·exact h.row _ hr
   ·exact zwg (h.row r hr) hs z hz
 ·have:=h.len;rw[xcg] at w2;lia
theorem zbes {st:Store}{n:Nat}{ks:List (List Int)}{a b:D}{k:Nat}{Q:D->Store->Prop}{E:Exc->Store->Prop}(ha:RowT a)(hb:PlT b)(h:st[n]?=some (.dT (trueD ks)))(G:Gd ks k)
  (q1:vd ks a b=.row->E ⟨"NoRow",[0]⟩ st)(q2:vd ks a b=.exch->E ⟨"NoExchange",[]⟩ st)(q3:∀ r p g, vd ks a b=.go r p->Q .non (st.set n (.dT (trueD ((r::exRow r p).foldl flipL ks)))++g)):WX (zw [.ref n, a, b] st) Q E:=by
 have row:zba [.ref n,a] st=.ok (.bl false) st->vd ks a b=.row->WX (zw [.ref n,a,b] st) Q E:=fun e v=>by
  refine zbcb rfl ?_;simp only[VX,W,V];refine WP.of e ⟨_,rfl,?_⟩;simp only[VX,W,V,xkh];refine zoi rfl (by decide) (by decide) (q1 v)
 have exch:zba [.ref n,a] st=.ok (.bl true) st->zbn [a,b] st=.ok (.bl false) st->vd ks a b=.exch->WX (zw [.ref n,a,b] st) Q E:=fun e e' v=>by
  refine zbcb rfl ?_;simp only[VX,W,V];refine WP.of e ⟨_,rfl,?_⟩;simp only[VX,W,V,xkq];refine WP.of e' ⟨_,rfl,?_⟩;simp only[VX,W,V,xkh];exact⟨by decide,q2 v⟩
 cases ha with
 | lst r=>exact row zrs rfl
 | row r hl =>
  by_cases hm:r∈ks
  ·have e1:=zfi h hm (by lia);cases hb with
   | bl x=>exact exch e1 zzk (by rw[zls,if_pos hm];rfl)
   | non=>exact exch e1 zvf (by rw[zls,if_pos hm];rfl)
   | int p =>
    have e2:=zkj (st:=st) (r:=r) (p:=p);by_cases hp:0<=p/\slowAt r p.toNat
    ·have v:vd ks (rowD r) (.int p)=.go r p.toNat:=by rw[zls,if_pos hm];exact if_pos hp
     have hg:=zrt (G.row r hm) hp.2;obtain⟨g,e⟩:=zlh (p:=p.toNat) h G.nd (by have:=G.len;lia) hm (by have:=(G.row r hm).len;lia) hp.2 hg.1.1 (by lia) (by lia) (by lia);rw[xgz hp.1] at e;rw[zbet e];exact q3 r p.toNat g v
    ·rw[xbm hp] at e2;exact exch e1 e2 (by rw[zls,if_pos hm];exact if_neg hp)
  ·exact row (zoq h hm (by lia)) (by rw[zls,if_neg hm])
theorem zbai {st:Store}{neg:Bool}{r:List Int}{x:Int}:oInG neg (.int x) (.lst (r.map .int)) st=.ok (.bl (if neg then !decide (x∈r) else decide (x∈r))) st:=by
 have e1:dataOf st (.lst (r.map .int))=some (.list (dI r)):=by
  unfold dataOf now;show toData (.lst (r.map .int))=_;rw[toData];have:∀r:List Int,toDatas (r.map .int)=some (dI r):=fun r=>by
   induction r with
   | nil=>rfl
   | cons a r ih=>rw[xbp,toDatas,ih];rfl
  rw[this]
  rfl
 unfold oInG;rw[e1,show dataOf st (.int x)=some (.int x) from rfl];dsimp only;obtain⟨s1,s2⟩:=zwu r;rw[if_pos ⟨rfl,by show(PyData.canLayAll0 (dI r)&&decide (PyData.depthAll (dI r)+1<=64))=true;rw[s1,s2];rfl⟩];have e:((dI r).any fun y=>PyData.eqv y (.int x))=decide (x∈r):=by
  unfold dI;rw[List.any_map,xdl,xic,decide_eq_true_iff];constructor
  ·rintro⟨y,hy,h⟩;have h:(y==x)=true:=h;rw[← eq_of_beq h];exact hy
  ·intro h;exact⟨x,h,show(x==x)=true by simp⟩
 rw[e]
theorem zbah {st:Store}{neg:Bool}(a:List Int)(b:List (List Int)):oInG neg (rowD a) (sumD b) st=.ok (.bl (if neg then !decide (a∈b) else decide (a∈b))) st:=by
 unfold oInG;rw[zbaw,zob];dsimp only;rw[if_pos ⟨zrh a,zfl b⟩];have e:((b.map dRow).any fun y=>PyData.eqv y (dRow a))=decide (a∈b):=by
  rw[List.any_map,xdl,xic,decide_eq_true_iff];constructor
  ·rintro⟨x,hx,h⟩;have h:PyData.eqv (dRow x) (dRow a)=true:=h;rw[zod] at h;have:=xeh h;subst this;exact hx
  ·intro h;refine⟨a,h,?_⟩;show PyData.eqv (dRow a) (dRow a)=true;rw[zod];simp
 rw[e]
section
variable {st:Store}{n:Nat}{Q:D->Store->Prop}
theorem cut30 (r:List Int)(a b:Option Int):∃r':List Int,cutD (r.map D.int) a b=r'.map D.int/\r'.length<=r.length:=by
 refine⟨(r.drop (HT.sIx (r.map D.int).length 0 a)).take (HT.sIx (r.map D.int).length (r.map D.int).length b - HT.sIx (r.map D.int).length 0 a),?_,?_⟩
 ·unfold cutD;rw[List.map_take,List.map_drop]
 ·rw[xcy,xed];lia
end
section
variable {st:Store}{n:Nat}{Q:D->Store->Prop}
theorem zva {g:Store->Res D}(h:WX (g st) (fun _ s=>Q (.str "") s) (fun x s=>(x=⟨"NoExchange",[]⟩/\Q (.str "exchange") s)\/(x=⟨"NoRow",[0]⟩/\Q (.str "row") s))):WP (zbw g [.ref n] st) Q:=by
 unfold zbw;cases e:g st with
 | stuck=>rw[e] at h;exact h.elim
 | ok v s1 =>
  rw[e] at h;have z:fnD 4 1 (zbb g) [.ref n] st=.ok (.str "") s1:=by
   unfold fnD zbb sSeq sTry sDrop;simp only[e]
   rfl
  exact WP.of z h
 | exc x s1 =>
  rw[e] at h;rcases h with⟨rfl,h⟩ | ⟨rfl,h⟩
  ·have z:fnD 4 1 (zbb g) [.ref n] st=.ok (.str "exchange") s1:=by
    unfold fnD zbb sSeq sTry sDrop;simp only[e]
    rfl
   exact WP.of z h
  ·have z:fnD 4 1 (zbb g) [.ref n] st=.ok (.str "row") s1:=by
    unfold fnD zbb sSeq sTry sDrop;simp only[e]
    rfl
   exact WP.of z h
theorem zrz {F:(Store->Res D)->DFn}{is:List Nat}{lam:SE}{σ:DS}(h0:st[0]?=some .tab)(q:WP (F (lam (startD 0 is σ)) [.ref st.length] (st++[.dead])) Q):WP (eRefd F is lam σ st) Q:=by
 unfold eRefd;rw[h0];exact q
end
theorem zfr {st:Store}(h:st[0]?=some .tab)(g:Store):(st++g)[0]?=some .tab:=by rw[xbs (zcc h)];exact h
theorem zfs {st s:Store}{n:Nat}(h:st[0]?=some .tab)(hn:BagAt st n)(d:Drew st s n):s[0]?=some .tab:=by
 refine(d.keep 0 (zcc h) fun e=>?_).trans h;subst e;obtain⟨c,x,e,_⟩:=hn;rw[h] at e;cases e
theorem oEq30 {neg:Bool}{a b:Str}{r:Bool}{st:Store}(ha:PySem.SeqAt.shaped (.str a)=true)(hb:PySem.SeqAt.shaped (.str b)=true)(h:(a==b)=r):oEqG neg (.str a) (.str b) st=.ok (.bl (if neg then !r else r)) st:=by
 have e:∀x:Str,dataOf st (.str x)=some (.str x):=fun _=>rfl
 unfold oEqG;rw[e,e];dsimp only;rw[if_pos ⟨ha,hb⟩];show Res.ok (D.bl (if neg then !(a==b) else(a==b))) st=_;rw[h]
theorem zyq (x:List (List Int)):sortR (oddS x)=oddS x:=(zkq (List.Perm.refl _) (by unfold oddS;exact zhz _)).symm
end Dd
namespace K30
end K30
namespace Dd
open PySem L2 K07 K23
theorem bk26 {f:Bool->Store->Prop}{b:Bool}{s:Store}(h:f b s):bK f (.bl b) s:=h
theorem zho {k:Nat}{d:D}{st:Store}(h:Pl k d):zq [d] st=.ok (.bl (wholeB d)) st:=by cases h<;>rfl
section
variable {st:Store}{n k:Nat}
theorem zrj {ds:List D}(h:∀d∈ds,Pl k d):compF (gN 0) bYes (eCall zq (aCons (eVar 0) aNil)) ds [none] st=.ok (ds.map fun d=>.bl (wholeB d)) st:=by
 have W:=zgd (bd:=gN 0) (c:=bYes) (f:=eCall zq (aCons (eVar 0) aNil)) (xs:=ds) (σ:=[none]) (st:=st)
  (fun i acc σ s=>s=st/\(∃v,σ=[v])/\acc=(ds.take i).map fun d=>.bl (wholeB d)) ⟨rfl,⟨none,rfl⟩,rfl⟩ (by
   rintro i y acc σ s hy ⟨rfl,⟨v,rfl⟩,rfl⟩;refine⟨[some y],true,s,rfl,rfl,.inr ⟨rfl,.bl (wholeB y),s,?_,rfl,⟨_,rfl⟩,?_⟩⟩
   ·exact zho (h y (xcj hy))
   ·rw[zcb hy]
    simp)
 obtain⟨ys,σ',st',e,rfl,_,rfl⟩:=W;rw[xdn] at e;exact e
theorem znu {ds:List D}(h:∀d∈ds,Pl k d):compF (gN 0) bYes (eNot (eCall zq (aCons (eVar 0) aNil))) ds [none] st=.ok (ds.map fun d=>.bl (!wholeB d)) st:=by
 have W:=zgd (bd:=gN 0) (c:=bYes) (f:=eNot (eCall zq (aCons (eVar 0) aNil))) (xs:=ds) (σ:=[none]) (st:=st)
  (fun i acc σ s=>s=st/\(∃v,σ=[v])/\acc=(ds.take i).map fun d=>.bl (!wholeB d)) ⟨rfl,⟨none,rfl⟩,rfl⟩ (by
   rintro i y acc σ s hy ⟨rfl,⟨v,rfl⟩,rfl⟩;refine⟨[some y],true,s,rfl,rfl,.inr ⟨rfl,.bl (!wholeB y),s,?_,rfl,⟨_,rfl⟩,?_⟩⟩
   ·have e:=zho (st:=s) (h y (xcj hy));simp[e]
   ·rw[zcb hy]
    simp)
 obtain⟨ys,σ',st',e,rfl,_,rfl⟩:=W;rw[xdn] at e;exact e
theorem zmv {α:Type}(f:α->Bool):∀ds:List α,asBools (ds.map fun d=>D.bl (f d))=some (ds.map f)
 | []=>rfl
 | d::ds=>by rw[xbp,asBools,zmv f ds];rfl
theorem wholes {ds:List D}(h:∀d∈ds,Pl k d):(asInts ds).isSome=ds.all wholeB:=by
 induction ds with
 | nil=>rfl
 | cons d ds ih =>
  have ih:=ih fun x hx=>h x (xci _ hx)
  have hd:=h d (by simp);rw[List.all_cons,← ih];cases hd<;>first | rfl | (rw[asInts];cases asInts ds<;>rfl)
theorem zbgm {b:Bool}{α:Type}(f:α->Bool)(ds:List α):bAny b [.lst (ds.map fun d=>D.bl (f d))] st=.ok (.bl (if b then ds.all f else ds.any f)) st:=by
 unfold bAny;simp[zmv]
theorem zrr {ds:List D}(h:∀d∈ds,Pl k d)(hl:ds.length<=1000)(e:asInts ds=none):zba [.ref n,.tup ds] st=.ok (.bl false) st:=by
 have hw:ds.all wholeB=false:=by rw[← wholes h,e];rfl
 have key:WP (zba [.ref n,.tup ds] st) (fun v s=>v=.bl false/\s=st):=by
  refine zyk rfl ?_;simp only[W,V];refine WP.of (show bIsinst [.tup ds, .ty "tuple"] st=.ok (.bl true) st from rfl) ?_
  refine bk26 ?_;rw[if_pos rfl];refine⟨_,rfl,small _ (by lia),WP.of (zrj h) (WP.of (zbgm _ _) (bk26 ?_))⟩;rw[if_pos rfl,hw,if_neg (by decide)];exact⟨trivial,rfl⟩
 obtain⟨v,s,e,rfl,rfl⟩:=key.get;exact e
theorem znb {a:D}(h:Pl k a)(ht:∀ds,a≠.tup ds):zba [.ref n,a] st=.ok (.bl false) st:=by
 cases h with
 | tup _ _=>exact absurd rfl (ht _)
 | _=>rfl
theorem zqn {a b:D}(h:Pl k b)(hb:wholeB b=false):zbn [a,b] st=.ok (.bl false) st:=by
 cases h with
 | int _=>cases hb
 | _=>rfl
theorem zbam {ks:List (List Int)}{a b:D}{j:Nat}{Q:D->Store->Prop}{E:Exc->Store->Prop}(ha:Pl 1000 a)(hb:Pl 1000 b)(h:st[n]?=some (.dT (trueD ks)))(G:Gd ks j)
  (q1:vd ks a b=.row->E ⟨"NoRow",[0]⟩ st)(q2:vd ks a b=.exch->E ⟨"NoExchange",[]⟩ st)(q3:∀ r p g, vd ks a b=.go r p->Q .non (st.set n (.dT (trueD ((r::exRow r p).foldl flipL ks)))++g)):WX (zw [.ref n, a, b] st) Q E:=by
 have row:zba [.ref n,a] st=.ok (.bl false) st->vd ks a b=.row->WX (zw [.ref n,a,b] st) Q E:=fun e v=>by
  refine zbcb rfl ?_;simp only[VX,W,V];refine WP.of e ⟨_,rfl,?_⟩;simp only[VX,W,V,xkh];refine zoi rfl (by decide) (by decide) (q1 v)
 have exch:zba [.ref n,a] st=.ok (.bl true) st->zbn [a,b] st=.ok (.bl false) st->vd ks a b=.exch->WX (zw [.ref n,a,b] st) Q E:=fun e e' v=>by
  refine zbcb rfl ?_;simp only[VX,W,V];refine WP.of e ⟨_,rfl,?_⟩;simp only[VX,W,V,xkq];refine WP.of e' ⟨_,rfl,?_⟩;simp only[VX,W,V,xkh];exact⟨by decide,q2 v⟩
 by_cases ht:∃ds,a=.tup ds
 ·obtain⟨ds,rfl⟩:=ht;cases ha with
  | tup hd hl =>
   cases e:asInts ds with
   | none=>exact row (zrr hd hl e) (by show vdR ks b (asInts ds)=_;rw[e];rfl)
   | some r =>
    obtain rfl:=zpi e;rw[xbe] at hl;cases hw:wholeB b with
    | true =>
     cases hb<;>try (cases hw;done)
     exact zbes (.row r hl) (.int _) h G q1 q2 q3
    | false =>
     by_cases hm:r∈ks
     ·exact exch (zfi h hm (by lia)) (zqn hb hw) (by
       show vd ks (rowD r) b=_;rw[zls,if_pos hm]
       cases hb<;>first | rfl | cases hw)
     ·exact row (zoq h hm (by lia)) (by show vd ks (rowD r) b=_;rw[zls,if_neg hm])
 ·exact row (znb ha fun ds e=>ht ⟨ds,e⟩) (by
   cases ha with
   | tup _ _=>exact absurd ⟨_,rfl⟩ ht
   | _=>rfl)
theorem zek {l:List (List Int)}{a b:D}{j:Nat}{Q:D->Store->Prop}{E:Exc->Store->Prop}(h0:st[0]?=some .tab)(ha:Pl 1000 a)(hb:Pl 1000 b)(G:Gd l (j+1))
  (q1:vd l a b=.row->∀ s, s[0]?=some .tab->E ⟨"NoRow",[0]⟩ s)(q2:vd l a b=.exch->∀ s, s[0]?=some .tab->E ⟨"NoExchange",[]⟩ s)(q3:∀ r p s, vd l a b=.go r p->s[0]?=some .tab->Q (sumD (sortR ((r::exRow r p).foldl flipL l))) s):WX (zbq [sumD l, a, b] st) Q E:=by
 refine zbcb rfl ?_;simp only[VX,W,V];refine WP.of (zne G.nd (by have:=G.len;lia)) ?_
 try simp only[VX,W,V]
 have hn:(st++[O.dT (trueD l)])[st.length]?=some (.dT (trueD l)):=by rw[xcd (xbf _),xhu];rfl
 have t0:(st++[O.dT (trueD l)])[0]?=some .tab:=by rw[xbs (zcc h0)];exact h0
 refine zbam ha hb hn G (fun h=>q1 h _ t0) (fun h=>q2 h _ t0) fun r p g h=>?_
 try simp only[VX,W,V]
 obtain⟨m1,m2,_,_⟩:=zblg h;have G2:=G.step m1 m2;have ne:st.length≠0:=fun z=>by rw[z] at hn;rw[hn] at t0;cases t0
 have hn2:(List.set (st++[O.dT (trueD l)]) st.length (O.dT (trueD ((r::exRow r p).foldl flipL l)))++g)[st.length]?=some (.dT (trueD ((r::exRow r p).foldl flipL l))):=by
  rw[xbs (by rw[xeb];exact zcc hn)];exact zjq (zcc hn)
 have t1:(List.set (st++[O.dT (trueD l)]) st.length (O.dT (trueD ((r::exRow r p).foldl flipL l)))++g)[0]?=some .tab:=by
  rw[xbs (by rw[xeb];exact zcc t0),xdq ne];exact t0
 refine WP.of (zqh hn2 (by have:=G2.len;lia)) ?_;exact WP.of (show bTuple [.lst (rowsD (sortR ((r::exRow r p).foldl flipL l)))] _=.ok (sumD (sortR ((r::exRow r p).foldl flipL l))) _ from rfl) (q3 r p _ h t1)
end
noncomputable def dueS:Vd->Str
 | .row=>"row"
 | .exch=>"exchange"
 | .go _ _=>""
theorem znw {st:Store}{l:List (List Int)}{a b:D}{Q:D->Store->Prop}(ha:Pl 1000 a)(hb:Pl 1000 b)(q:Q (.str (dueS (vd l a b))) st):WP (zer [sumD l,a,b] st) Q:=by
 refine zyk rfl ?_;simp only[W,V];by_cases ht:∃ds,a=.tup ds
 ·obtain⟨ds,rfl⟩:=ht;refine WP.of (show bIsinst [.tup ds, .ty "tuple"] st=.ok (.bl true) st from rfl) ⟨true, rfl, ?_⟩
  rw[if_neg (by decide)];cases ha with
  | tup hd hl =>
   refine⟨_,rfl,small _ (by lia),?_⟩;refine WP.of (znu hd) (WP.of (zbgm (b:=false) _ _) ⟨_,rfl,?_⟩);rw[if_neg (show ¬ (false=true) by decide)];have ea:(ds.any fun d=>!wholeB d)=!(asInts ds).isSome:=by
    rw[wholes hd,List.not_all_eq_any_not]
   rw[ea];cases e:asInts ds with
   | none =>
    rw[if_pos (by rfl)];have:vd l (.tup ds) b=.row:=by show vdR l b (asInts ds)=_;rw[e];rfl
    rw[this] at q;exact q
   | some r =>
    obtain rfl:=zpi e;rw[xbe] at hl;rw[if_neg (by intro z;cases z)];refine WP.of (zbah (neg:=true) r l) (bk26 ?_);have v:=zls (l:=l) (r:=r) (b:=b);by_cases hm:r∈l
    ·rw[xcf hm,if_neg (by decide)];rw[if_pos hm] at v;refine⟨small _ (by simp),?_⟩;have q':Q (.str (dueS (vdP r b))) st:=by rw[← v];exact q
     cases hw:wholeB b with
     | false =>
      have e2:vdP r b=.exch:=by cases hb<;>first | rfl | cases hw
      rw[e2] at q';refine WP.of (zho hb) (bk26 ?_);rw[hw,if_neg (by decide)];exact zbbt (d:=.str "exchange") rfl rfl q'
     | true =>
      refine WP.of (zho hb) (bk26 ?_);rw[hw,if_pos rfl];cases hb<;>try (cases hw;done)
      rename_i p;refine WP.of (zmf (by lia)) ?_;have ep:plD (placesL r)=((placesL r).map fun(p:Nat)=>(p:Int)).map D.int:=by rw[xez];rfl
      rw[ep];refine WP.of (zbai (neg:=false)) ?_;have mp:p∈((placesL r).map fun(p:Nat)=>(p:Int))↔0<=p/\slowAt r p.toNat:=by
       rw[xdj];constructor
       ·rintro⟨j,hj,rfl⟩;exact⟨by lia,by rw[xgo];exact zmd.mp hj⟩
       ·rintro⟨h1,h2⟩;exact⟨p.toNat,zmd.mpr h2,xgz h1⟩
      simp only[mp];by_cases hp:0<=p/\slowAt r p.toNat
      ·rw[xcf hp];rw[show vdP r (.int p)=.go r p.toNat from if_pos hp] at q';exact WP.of (show bInt [.bl true] st=.ok (.int 1) st from rfl) (zbbt (d:=.str "") rfl rfl q')
      ·rw[xbm hp];rw[show vdP r (.int p)=.exch from if_neg hp] at q';exact WP.of (show bInt [.bl false] st=.ok (.int 0) st from rfl) (zbbt (d:=.str "exchange") rfl rfl q')
    ·rw[xbm hm,if_pos (by rfl)];rw[if_neg hm] at v;rw[show vd l (.tup (r.map D.int)) b=.row from v] at q;exact q
 ·have hv:vd l a b=.row:=by
   cases ha with
   | tup _ _=>exact absurd ⟨_,rfl⟩ ht
   | _=>rfl
  rw[hv] at q;have e:bIsinst [a, .ty "tuple"] st=.ok (.bl false) st:=by
   cases ha with
   | tup _ _=>exact absurd ⟨_,rfl⟩ ht
   | _=>rfl
  refine WP.of e ⟨_,rfl,?_⟩;rw[if_pos rfl];exact q
theorem zbo:∀d∈([]:List D),Pl 1000 d:=fun d hd=>by cases hd
theorem ze {x:D}{xs:List D}(h:Pl 1000 x)(t:∀d∈xs,Pl 1000 d):∀d∈x::xs,Pl 1000 d:=fun d hd=>by
 rcases xbx.mp hd with rfl | hd
 ·exact h
 ·exact t d hd
theorem zkd {a b:List D}(ha:∀d∈a,Pl 1000 d)(hb:∀d∈b,Pl 1000 d):∀d∈a++b,Pl 1000 d:=fun d hd=>by
 rcases xby.mp hd with h | h
 ·exact ha d h
 ·exact hb d h
theorem zfj (r:List Int):∀d∈r.map D.int,Pl 1000 d:=fun d hd=>by
 obtain⟨i,_,rfl⟩:=xdj.mp hd;exact .int i
theorem zlx {r:List Int}(h:r.length<=1000):Pl 1000 (rowD r):=.tup (zfj r) (by rw[xbe];exact h)
theorem add26L {a b:List D}{s:Store}(h:a.length+b.length<=1000):oAdd (.lst a) (.lst b) s=.ok (.lst (a++b)) s:=by
 show(if a.length+b.length<=sizeLine then Res.ok (D.lst (a++b)) s else .stuck)=_;rw[if_pos (small _ (by lia))]
section
variable {st:Store}{n:Nat}{Q:D->Store->Prop}
theorem str26 {i:Int}(h1:-1000<=i)(h2:i<=1000):bStrI [.int i] st=.ok (.str (toString i)) st:=by
 show(if -(2 ^ 60) < i/\i < 2 ^ 60 then Res.ok (D.str (toString i)) st else .stuck)=_;rw[if_pos ⟨by lia,by lia⟩]
theorem zbgh {r:List Int}(hb:BagAt st n)(hr:RowOk r 16 6)(k:∀d s,Pl 1000 d->Drew st s n->Q d s):WP (zdk [.ref n,rowD r] st) Q:=by
 refine zyk rfl ?_;have rl:=hr.len;simp only[W,V,M];rw[xbe];refine zfa hb (by split<;>lia) (by split<;>lia) fun i s1 i1 i2 d1=>?_
 obtain⟨i',rfl⟩:=xji i1;have hi:i' < (r++[1]).length:=by rw[xbq,xfi];split at i2<;>lia
 refine⟨small _ (by simp),small _ (by simp;lia),?_⟩;obtain⟨v,hv,hg⟩:∃v:Int,(1<=v/\v<=16)/\(r++[1])[i']?=some v:=by
  refine⟨(r++[1])[i'],?_,xbh hi⟩;rcases xby.mp (xdm hi) with h | h
  ·exact zrx hr _ h
  ·rw[xbn.mp h];lia
 refine zbbt (xs:=(r++[1]).map .int) (d:=.int v) (by rw[xew];rfl) (zmt (by rw[xcl,hg];rfl)) ?_;simp only[W,V,M];refine WP.of (str26 (by lia) (by lia)) ⟨small _ (by simp),small _ (by simp),⟨by decide,by decide,by decide⟩,small _ (by simp),_,rfl,.inl ⟨_,rfl,?_⟩⟩;refine zfa d1.bag (by lia) (by lia) fun j s2 j1 j2 d2=>?_
 have P:∀d∈[D.bl true,.bl false,.int 0,.int (-v),.str (toString v),.non,.tup [.int v],.lst [.int v],.int (v+16),.int (10 ^ Int.toNat 39)],Pl 1000 d :=
  ze (.bl _) (ze (.bl _) (ze (.int _) (ze (.int _) (ze (.str _) (ze .non (ze (.tup (ze (.int _) zbo) (by simp)) (ze (.lst (ze (.int _) zbo) (by simp)) (ze (.int _) (ze (.int _) zbo)))))))))
 refine zoz j1 (by simp;lia) fun d hd=>?_
 have pd:=P d hd;obtain⟨r1,e1,l1⟩:=cut30 r none (some (i':Int));obtain⟨r2,e2,l2⟩:=cut30 r (some ((i':Int)+1)) none;rw[e1];refine⟨small _ (by simp),small _ (by simp;lia),_,rfl,.inl ⟨_,rfl,?_⟩⟩;rw[e2];refine⟨small _ (by simp;lia),k _ _ (.tup (zkd (zkd (zfj r1) (ze pd zbo)) (zfj r2)) (by simp;lia)) (d1.trans d2)⟩
theorem zkw {a:D}(hb:BagAt st n)(ha:Pl 1000 a)(k:∀d s,Pl 1000 d->Drew st s n->Q d s):WP (zbm [.ref n,a] st) Q:=by
 refine zyk rfl ?_;simp only[W,V,M];refine zfa hb (by lia) (by lia) fun x s1 x1 x2 d1=>?_
 try simp only[W,V,M]
 refine⟨small _ (by simp),small _ (by simp),⟨by decide,by decide,by decide⟩,small _ (by simp),small _ (by simp),⟨by decide,by decide,by decide⟩,small _ (by simp),?_⟩;have P:∀ d∈[D.int x, .bl true, .bl false, .non, .str "0", .tup [], .lst [.int 0], .int (-1), .int (-2), .int 5, .int 6, .int (10 ^ Int.toNat 39), .tup [.int 0], .tup [.int 0, .int 1], .str "", .int (-10 ^ Int.toNat 39)], Pl 1000 d :=
  ze (.int _) (ze (.bl _) (ze (.bl _) (ze .non (ze (.str _) (ze (.tup zbo (by simp)) (ze (.lst (ze (.int _) zbo) (by simp)) (ze (.int _) (ze (.int _) (ze (.int _) (ze (.int _) (ze (.int _) (ze (.tup (ze (.int _) zbo) (by simp)) (ze (.tup (ze (.int _) (ze (.int _) zbo)) (by simp)) (ze (.str _) (ze (.int _) zbo)))))))))))))))
 by_cases ht:∃ds,a=.tup ds
 ·obtain⟨ds,rfl⟩:=ht;cases ha with
  | tup hd hl =>
   refine WP.of (show bIsinst [.tup ds, .ty "tuple"] s1=.ok (.bl true) s1 from rfl) ⟨true, rfl, ?_⟩
   rw[if_pos rfl];refine zfa d1.bag (by lia) (by lia) fun c s2 c1 c2 d2=>?_
   simp only[W,V,M];split
   ·refine zfa d2.bag (by lia) (by lia) fun y s3 y1 y2 d3=>?_
    exact k _ _ (.int _) ((d1.trans d2).trans d3)
   ·refine zfa d2.bag (by lia) (by lia) fun y s3 y1 y2 d3=>?_
    exact zoz y1 (by simp;lia) fun d hd=>k _ _ (P d hd) ((d1.trans d2).trans d3)
 ·have e:bIsinst [a, .ty "tuple"] s1=.ok (.bl false) s1:=by
   cases ha with
   | tup _ _=>exact absurd ⟨_,rfl⟩ ht
   | _=>rfl
  refine WP.of e ⟨false,rfl,?_⟩;rw[if_neg (by decide)];refine zfa d1.bag (by lia) (by lia) fun y s3 y1 y2 d3=>?_
  exact zoz y1 (by simp;lia) fun d hd=>k _ _ (P d hd) (d1.trans d3)
theorem zuv {r:List Int}{s:Store}(hr:∀x∈r,-1000<=x/\x<=1000):compF (gN 0) bYes (eCall bStrI (aCons (eVar 0) aNil)) (r.map D.int) [none] s=.ok (r.map fun x=>D.str (toString x)) s:=by
 have W:=zgd (bd:=gN 0) (c:=bYes) (f:=eCall bStrI (aCons (eVar 0) aNil)) (xs:=r.map D.int) (σ:=[none]) (st:=s)
  (fun i acc σ s'=>s'=s/\(∃v,σ=[v])/\acc=(r.take i).map fun x=>D.str (toString x)) ⟨rfl,⟨none,rfl⟩,rfl⟩ (by
   rintro i y acc σ s hy ⟨rfl,⟨v,rfl⟩,rfl⟩;rw[xcl] at hy;cases hx:r[i]? with
   | none=>rw[hx] at hy;cases hy
   | some x =>
    rw[hx] at hy;cases hy;have hb:=hr x (xcj hx);refine⟨[some (.int x)],true,s,rfl,rfl,.inr ⟨rfl,.str (toString x),s,str26 hb.1 hb.2,rfl,⟨_,rfl⟩,?_⟩⟩;rw[zcb hx]
    simp)
 obtain⟨ys,σ',st',e,rfl,_,rfl⟩:=W;rw[zfv,xdn] at e;exact e
theorem zmu {α:Type}(f:α->Str):∀r:List α,asStrs (r.map fun x=>D.str (f x))=some (r.map f)
 | []=>rfl
 | x::r=>by rw[xbp,asStrs,zmu f r];rfl
theorem fold26 {k c:Nat}:∀(ts:List Str) (a:Nat),(∀x∈ts,x.length<=k)->ts.foldl (fun a x=>a+x.length+c) a<=a+ts.length * (k+c)
 | [],a,_=>by simp
 | x::ts,a,h=>by
  have h1:=h x (by simp);have h2:=fold26 (c:=c) ts (a+x.length+c) fun y hy=>h y (xci _ hy)
  rw[xir,xcg,Nat.succ_mul];lia
theorem join26 {r:List Int}{s:Store}(hr:RowOk r 16 6)(σ:DS)(h:σ[3]?=some (some (rowD r))):∃ x, eJoin (eC (.str ".")) (aCons (eComp (iSeq (eVar 3)) 1 [] (gN 0) bYes (eCall bStrI (aCons (eVar 0) aNil))) aNil) σ s=.ok (.str x) s:=by
 have e:=zuv (r:=r) (s:=s) fun x hx=>by have:=zrx hr x hx;lia
 have ei:iSeq (eVar 3) σ s=.ok (r.map D.int) s:=by simp[h]
 have rl:=hr.len;have ec:eComp (iSeq (eVar 3)) 1 [] (gN 0) bYes (eCall bStrI (aCons (eVar 0) aNil)) σ s=.ok (.lst (r.map fun x=>D.str (toString x))) s:=by
  rw[zhd,ei,zbe,if_pos (by rw[xbe];exact small _ (by lia))];show((compF _ _ _ _ [none] _).bind _)=_;rw[e]
  rfl
 have hs:∀x∈r.map (fun x=>(toString x:Str)),x.length<=10:=fun x hx=>by
  obtain⟨i,hi,rfl⟩:=xdj.mp hx;have hb:=zrx hr i hi;have:∀j:Fin 17,((toString ((j.val:Nat):Int):Str)).length<=10:=by decide +kernel
  have:=this ⟨i.toNat,by lia⟩;rw[xgz (by lia)] at this;exact this
 have hj:JoinOk "." (r.map fun x=>(toString x:Str))=true:=by
  unfold JoinOk;have h3:=fold26 (c:=(Str.ofString ".").length) (r.map fun x=>(toString x:Str)) 0 hs
  have hd:(Str.ofString ".").length=1:=by decide +kernel
  rw[xbe,hd] at h3;rw[hd,← Array.foldl_toList];show(!decide (List.foldl (fun a x=>a+x.length+1) 0 (r.map fun x=>(toString x:Str)) > sizeLine))=true;rw[xbm (by rw[xee];lia)]
  rfl
 refine⟨Txt.join "." (r.map fun x=>(toString x:Str)), ?_⟩
 unfold eJoin;show((aCons _ _ σ s).bind _)=_;rw[zfh,ec]
 show(match asStrs (r.map fun x=>D.str (toString x)) with
  | some ts=>if JoinOk "." ts=true then Res.ok (D.str (Txt.join "." ts)) s else .stuck
  | none=>.stuck)=_
 rw[zmu];exact if_pos hj
theorem zng {l:List (List Int)}(hb:BagAt st n)(hl:l.length<=1000)(hr:∀r∈l,RowOk r 16 6)(k:∀d s,Pl 1000 d->Drew st s n->Q d s):WP (zbz [.ref n,sumD l] st) Q:=by
 refine zyk rfl ?_;refine zcs (R:=fun fl s=>∃pk:Int,(0<=pk/\pk < 8)/\fl=.nx [some (.ref n),some (sumD l),some (.int pk),none,none]/\Drew st s n) ?_ ?_
 ·simp only[W,V];exact zfa hb (by lia) (by lia) fun x s1 x1 x2 d1=>⟨x,⟨x1,x2⟩,rfl,d1⟩
 rintro fl s ⟨pk,hpk,rfl,D1⟩;show WP _ _;refine zcs (R:=fun fl s=>∃r,RowOk r 16 6/\fl=.nx [some (.ref n),some (sumD l),some (.int pk),some (rowD r),none]/\Drew st s n) ?_ ?_
 ·simp only[W,V];obtain⟨r',s2,e,hr',d2⟩:=zej (m:=16) (L:=6) (lg:=6) rfl (by lia) D1.bag (by lia) (by lia);exact WP.of e ⟨r',hr',rfl,D1.trans d2⟩
 rintro fl s ⟨r0,hr0,rfl,D1⟩;show WP _ _;refine zcs (R:=fun fl s=>∃r,RowOk r 16 6/\fl=.nx [some (.ref n),some (sumD l),some (.int pk),some (rowD r),none]/\Drew st s n) ?_ ?_
 ·simp only[W,V];refine⟨trivial,?_⟩;split
  ·rename_i hpos;rw[zn] at hpos ⊢;refine zfa D1.bag (by lia) (by lia) fun t s2 t0 t1 d2=>?_
   obtain⟨t,rfl⟩:=xji t0;have hlt:t < l.length:=by lia
   exact zbbt (xs:=rowsD l) (d:=rowD l[t]) rfl (zmt (by unfold rowsD;rw[xcl,xbh hlt];rfl)) ⟨l[t],hr _ (xdm hlt),rfl,D1.trans d2⟩
  ·exact⟨r0,hr0,rfl,D1⟩
 clear hr0 r0 D1;rintro fl s ⟨r,hr',rfl,D1⟩;have rl:=hr'.len;show WP _ _;refine zcs (R:=fun fl s=>(fl=.ret (rowD r)\/fl=.nx [some (.ref n),some (sumD l),some (.int pk),some (rowD r),none])/\Drew st s n) ?_ ?_
 ·simp only[W,V];split
  ·exact⟨.inl (by first | rfl | trivial),D1⟩
  ·exact⟨.inr (by first | rfl | trivial),D1⟩
 rintro fl s ⟨rfl | rfl,D1⟩
 ·exact k _ _ (zlx (by lia)) D1
 show WP _ _;refine zcs (R:=fun fl s=>((∃d,Pl 1000 d/\fl=.ret d)\/fl=.nx [some (.ref n),some (sumD l),some (.int pk),some (rowD r),none])/\Drew st s n) ?_ ?_
 ·simp only[W,V];split
  ·exact zbgh D1.bag hr' fun d s2 pd d2=>⟨.inl ⟨d,pd,by first | rfl | trivial⟩,D1.trans d2⟩
  ·exact⟨.inr (by first | rfl | trivial),D1⟩
 rintro fl s ⟨⟨d,pd,rfl⟩ | rfl,D1⟩
 ·exact k _ _ pd D1
 show WP _ _;refine zcs (R:=fun fl s=>∃ts:List D,(ts.length=11/\∀d∈ts,Pl 1000 d)/\fl=.nx [some (.ref n),some (sumD l),some (.int pk),some (rowD r),some (.lst ts)]/\Drew st s n) ?_ ?_
 ·simp only[W,V,M];obtain⟨r',s2,e,hr2,d2⟩:=zej (m:=16) (L:=6) (lg:=6) rfl (by lia) D1.bag (by lia) (by lia);have rl2:=hr2.len;have em:∀s:Store,oMulT (.tup [.int 1]) (.int 7) s=.ok (.tup (timesL [.int 1] 7)) s:=fun s=>by
   unfold oMulT;dsimp only;rw[if_pos ⟨(fun z=>by cases z),by decide,by decide,by simp⟩]
  refine WP.of e ⟨small _ (by simp),small _ (by simp),small _ (by simp;lia),small _ (by simp),small _ (by simp;lia),small _ (by simp),WP.of (em _) ⟨small _ (by simp),small _ (by simp),_,⟨rfl,?_⟩,rfl,D1.trans d2⟩⟩;have T7:Pl 1000 (.tup (timesL [.int 1] 7)):=.tup (show ∀d∈([.int 1,.int 1,.int 1,.int 1,.int 1,.int 1,.int 1]:List D),Pl 1000 d from ze (.int _) (ze (.int _) (ze (.int _) (ze (.int _) (ze (.int _) (ze (.int _) (ze (.int _) zbo))))))) (by show 7<=1000;decide);exact ze (zlx (by lia)) (ze (.lst (zfj r) (by rw[xbe];lia)) (ze (.tup (ze (zlx (by lia)) zbo) (by simp)) (ze .non (ze (.str _) (ze (.bl _) (ze (.int _) (ze (.tup (zkd (zfj r) (ze (.int _) zbo)) (by simp;lia)) (ze (.tup (ze (.int _) (zfj r)) (by simp;lia)) (ze T7 (ze (.tup (ze (.int _) zbo) (by simp)) zbo))))))))))
 rintro fl s ⟨ts,⟨t1,t2⟩,rfl,D1⟩;show WP _ _;refine zcs (R:=fun fl s=>∃ts:List D,(ts.length=18/\∀d∈ts,Pl 1000 d)/\fl=.nx [some (.ref n),some (sumD l),some (.int pk),some (rowD r),some (.lst ts)]/\Drew st s n) ?_ ?_
 ·simp only[W,V,M];obtain⟨x,ex⟩:=join26 (s:=s) (r:=r) hr' [some (.ref n),some (sumD l),some (.int pk),some (rowD r),some (.lst ts)] rfl;refine⟨small _ (by simp),small _ (by simp),small _ (by simp),small _ (by simp;lia),WP.of ex ⟨small _ (by simp),⟨by decide,by decide,by decide⟩,small _ (by simp),small _ (by simp),small _ (by simp),?_⟩⟩;refine WP.of (add26L (by simp[t1])) ⟨_,⟨by simp[t1],zkd t2 ?_⟩,rfl,D1⟩;exact ze (.tup (ze (.int _) (ze (.int _) zbo)) (by simp)) (ze (.tup (zkd (zfj r) (ze (.tup zbo (by simp)) zbo)) (by simp;lia)) (ze (.str _) (ze (.tup (ze (zlx (by lia)) (ze (zlx (by lia)) zbo)) (by simp)) (ze (.int _) (ze (.lst zbo (by simp)) (ze (.tup (ze (.bl _) (ze (.int _) zbo)) (by simp)) zbo))))))
 rintro fl s ⟨ts,⟨t1,t2⟩,rfl,D1⟩;show WP _ _;refine zcs (R:=fun fl s=>∃ts:List D,(ts.length=20/\∀d∈ts,Pl 1000 d)/\fl=.nx [some (.ref n),some (sumD l),some (.int pk),some (rowD r),some (.lst ts)]/\Drew st s n) ?_ ?_
 ·simp only[W,V,M];refine⟨small _ (by simp),small _ (by simp),?_⟩;refine WP.of (add26L (by simp[t1])) ⟨_,⟨by simp[t1],zkd t2 ?_⟩,rfl,D1⟩;exact ze (.tup (ze (.str _) (ze (.int _) zbo)) (by simp)) (ze (.int _) zbo)
 rintro fl s ⟨ts,⟨t1,t2⟩,rfl,D1⟩;show WP _ _;simp only[W,V];refine zfa D1.bag (by lia) (by lia) fun i s1 i1 i2 d1=>?_
 exact zoz i1 (by lia) fun d hd=>k _ _ (t2 d hd) (D1.trans d1)
end
theorem zrc {st:Store}{l:List (List Int)}{a b:D}{Q:D->Store->Prop}(h0:st[0]?=some .tab)(ha:Pl 1000 a)(hb:Pl 1000 b)(G:Gd l 40)(hd:vd l a b=.row)(k:∀s,s[0]?=some .tab->Q (.int 0) s):WP (zgg [sumD l,a,b] st) Q:=by
 refine zyk rfl ?_;simp only[VX,W,V];refine zek (j:=39) h0 ha hb G (fun _ s t0=>?_) (fun h=>?_) (fun r p s h=>?_)
 ·exact⟨by decide,k s t0⟩
 ·rw[hd] at h;cases h
 ·rw[hd] at h;cases h
theorem zwc (ns:List Int)(hl:ns.length<=63):∀st:Store,st=[.tab]->∃st',zblc [.scr (ns.map .int)] st=.ok (.bl true) st':=fun st hst=>by
 have key:WP (zblc [.scr (ns.map .int)] st) (fun v _=>v=.bl true):=by
  have hs0:st[0]?=some .tab:=by rw[hst];rfl
  clear hst;refine zyk rfl ?_;simp only[W,V];have hle:((ns.map D.int).length:Int)<=63:=by rw[xbe];lia
  have hge:(0:Int)<=((ns.map D.int).length:Int):=by lia
  generalize ((ns.map D.int).length:Int)=len at hle hge;refine⟨_,rfl,rngN (by split<;>lia) (by split<;>lia),?_⟩;refine zbcd (fun i σ s=>(∃v1 v2 v3 v4 v5 v6 v7 v8:Option D,σ=[some (.scr (ns.map .int)),v1,v2,v3,v4,v5,v6,v7,v8])/\s[0]?=some .tab) ⟨⟨_,_,_,_,_,_,_,_,rfl⟩,hs0⟩ ?_ ?_
  ·rintro i x σ s0 hx ⟨⟨v1,v2,v3,v4,v5,v6,v7,v8,rfl⟩,h0⟩;obtain⟨hi,rfl⟩:=zry hx;have hi2:i<=40:=by split at hi<;>lia
   refine⟨_,rfl,?_⟩;unfold zui;refine zcs (R:=fun fl s=>∃n,BagAt s n/\fl=.nx [some (.scr (ns.map .int)),some (.int i),some (.ref n),v3,v4,v5,v6,v7,v8]/\s[0]?=some .tab) ?_ ?_
   ·simp only[W,V];rw[xhw];exact zbkr hl (by lia) fun g hb=>⟨_,hb,rfl,zfr h0 g⟩
   rintro fl s ⟨n,hb,rfl,t0⟩;show WP _ _;refine zcs (R:=fun fl s=>∃l:List (List Int),Gd l 40/\sortR l=l/\BagAt s n/\fl=.nx [some (.scr (ns.map .int)),some (.int i),some (.ref n),some (sumD l),v4,v5,v6,v7,v8]/\s[0]?=some .tab) ?_ ?_
   ·simp only[W,V];obtain⟨l0,s1,e1,o1,o2,o3,_,D1⟩:=zra (A:=11) (m:=16) (L:=6) (lg:=6) rfl (by lia) (by lia) (by lia) hb (by lia) (by lia);obtain⟨r0,s2,e2,p1,D2⟩:=zjn (m:=16) D1.bag (by lia) (by lia);refine WP.of e1 (WP.of (show bList [sumD l0] s1=.ok (.lst (rowsD l0)) s1 from rfl) (WP.of e2 ⟨small _ (by simp),?_⟩));have e3:oAdd (.lst (rowsD l0)) (.lst [rowD r0]) s2=.ok (.lst (rowsD (l0++[r0]))) s2:=by
     show(if(rowsD l0).length+[rowD r0].length<=sizeLine then Res.ok (D.lst (rowsD l0++[rowD r0])) s2 else .stuck)=_;rw[if_pos (by rw[zn];exact small _ (by simp;lia))];simp[rowsD]
    refine WP.of e3 ?_;obtain⟨g,e4⟩:=zgu (st:=s2) (x:=.lst (rowsD (l0++[r0]))) (l:=l0++[r0]) rfl (by simp;lia) (by have:=zeu (l0++[r0]);rw[xbq,xfi] at this;lia);refine WP.of e4 ⟨oddS (l0++[r0]),⟨zlz _,fun r hr=>?_,?_⟩,zyq _,(Drew.more D2.bag g).bag,rfl,zfr (zfs (zfs t0 hb D1) D1.bag D2) g⟩
    ·rcases xby.mp (zsp hr) with z | z
     ·exact o1 r z
     ·simp at z;subst z;exact p1
    ·have:=zke (l0++[r0]);rw[xbq,xfi] at this;lia
   rintro fl s ⟨l,G,hu,hb,rfl,t0⟩;have hln:=G.len;show WP _ _;refine zcs (R:=fun fl s=>∃a,Pl 1000 a/\BagAt s n/\fl=.nx [some (.scr (ns.map .int)),some (.int i),some (.ref n),some (sumD l),some a,v5,v6,v7,v8]/\s[0]?=some .tab) ?_ ?_
   ·simp only[W,V];exact zng hb (by lia) G.row fun d s1 pd d1=>⟨d,pd,d1.bag,rfl,zfs t0 hb d1⟩
   rintro fl s ⟨a,ha,hb,rfl,t0⟩;show WP _ _;refine zcs (R:=fun fl s=>∃b,Pl 1000 b/\fl=.nx [some (.scr (ns.map .int)),some (.int i),some (.ref n),some (sumD l),some a,some b,v6,v7,v8]/\s[0]?=some .tab) ?_ ?_
   ·simp only[W,V];exact zkw hb ha fun d s1 pd d1=>⟨d,pd,rfl,zfs t0 hb d1⟩
   clear hb;rintro fl s ⟨b,hb,rfl,t0⟩;show WP _ _;refine zcs (R:=fun fl s=>fl=.nx [some (.scr (ns.map .int)),some (.int i),some (.ref n),some (sumD l),some a,some b,some (.str (dueS (vd l a b))),v7,v8]/\s[0]?=some .tab) ?_ ?_
   ·simp only[W,V];exact znw ha hb ⟨rfl,t0⟩
   rintro fl s ⟨rfl,t0⟩;show WP _ _;refine zcs (R:=fun fl s=>(∃w7,fl=.nx [some (.scr (ns.map .int)),some (.int i),some (.ref n),some (sumD l),some a,some b,some (.str (dueS (vd l a b))),w7,v8])/\s[0]?=some .tab) ?_ ?_
   ·simp only[W,V];refine⟨_,rfl,rngN (by lia) (by lia),?_⟩;refine zbcd (fun _ σ s=>(∃w7,σ=[some (.scr (ns.map .int)),some (.int i),some (.ref n),some (sumD l),some a,some b,some (.str (dueS (vd l a b))),w7,v8])/\s[0]?=some .tab) ⟨⟨_,rfl⟩,t0⟩ ?_ ?_
    ·rintro j x σ s hx ⟨⟨w7,rfl⟩,t0⟩;refine⟨[some (.scr (ns.map .int)),some (.int i),some (.ref n),some (sumD l),some a,some b,some (.str (dueS (vd l a b))),some x,v8],rfl,?_⟩;unfold zuj;simp only[W,V];refine zrz t0 (zva ?_);simp only[VX,W,V];refine zek (j:=39) (zfr t0 _) ha hb G (fun h s1 t1=>.inr ⟨rfl,?_⟩) (fun h s1 t1=>.inl ⟨rfl,?_⟩) (fun r p s1 h t1=>?_)
     ·rw[h];refine WP.of (oEq30 (neg:=true) (r:=true) (by decide +kernel) (by decide +kernel) (by decide +kernel)) ?_;simp only[W,V,L];exact⟨⟨_,rfl⟩,t1⟩
     ·rw[h];refine WP.of (oEq30 (neg:=true) (r:=true) (by decide +kernel) (by decide +kernel) (by decide +kernel)) ?_;simp only[W,V,L];exact⟨⟨_,rfl⟩,t1⟩
     ·rw[h, show dueS (.go r p)="" from rfl]
      refine WP.of (oEq30 (neg:=true) (r:=true) (by decide +kernel) (by decide +kernel) (by decide +kernel)) ?_;simp only[W,V,L];exact⟨⟨_,rfl⟩,t1⟩
    ·rintro σ s ⟨⟨w7,rfl⟩,t0⟩;exact⟨⟨_,rfl⟩,t0⟩
   rintro fl s ⟨⟨w7,rfl⟩,t0⟩;show WP _ _;refine zcs (R:=fun fl s=>(∃w8,fl=.nx [some (.scr (ns.map .int)),some (.int i),some (.ref n),some (sumD l),some a,some b,some (.str (dueS (vd l a b))),w7,w8])/\s[0]?=some .tab) ?_ ?_
   ·simp only[W,V];cases hv:vd l a b with
    | row =>
     refine WP.of (oEq30 (neg:=false) (r:=true) (by decide +kernel) (by decide +kernel) (by decide +kernel)) ?_;simp only[W,V];refine zrc t0 ha hb G hv fun s1 t1=>?_
     refine WP.of (show zq [.int 0] s1=.ok (.bl true) s1 from rfl) ⟨true,rfl,?_⟩;simp only[W,V];rw[if_neg (by simp)];exact⟨⟨_,rfl⟩,t1⟩
    | exch =>
     refine WP.of (oEq30 (neg:=false) (r:=false) (by decide +kernel) (by decide +kernel) (by decide +kernel)) ?_;simp only[W,V];exact⟨⟨_,rfl⟩,t0⟩
    | go r p =>
     rw[show dueS (.go r p)="" from rfl]
     refine WP.of (oEq30 (neg:=false) (r:=false) (by decide +kernel) (by decide +kernel) (by decide +kernel)) ?_;simp only[W,V];exact⟨⟨_,rfl⟩,t0⟩
   rintro fl s ⟨⟨w8,rfl⟩,t0⟩;show WP _ _;simp only[W,V];cases hv:vd l a b with
   | row =>
    refine WP.of (oEq30 (neg:=false) (r:=false) (by decide +kernel) (by decide +kernel) (by decide +kernel)) ?_;simp only[W,V,L];exact⟨⟨_,_,_,_,_,_,_,_,rfl⟩,t0⟩
   | exch =>
    refine WP.of (oEq30 (neg:=false) (r:=false) (by decide +kernel) (by decide +kernel) (by decide +kernel)) ?_;simp only[W,V,L];exact⟨⟨_,_,_,_,_,_,_,_,rfl⟩,t0⟩
   | go r p =>
    rw[show dueS (.go r p)="" from rfl]
    refine WP.of (oEq30 (neg:=false) (r:=true) (by decide +kernel) (by decide +kernel) (by decide +kernel)) ?_;simp only[W,V,L];refine(zek (j:=39) (E:=fun _ _=>False) t0 ha hb G (fun h=>by rw[hv] at h;cases h) (fun h=>by rw[hv] at h;cases h) fun r' p' s1 h t1=>?_).wp;rw[hv] at h;cases h;obtain⟨m1,m2,rfl,rfl⟩:=zblg hv;have rok:=G.row r m1;have hg:=zrt rok m2;obtain⟨g,e⟩:=zhj (st:=s1) (ks:=l) (r:=r) (p:=p) (by lia) (by have:=rok.len;lia) m2 hg.1.1 (by lia) hg.2.1 (by lia);refine WP.of e ?_;have w:=(zok (m:=r::exRow r p) G.nd).1;rw[hu] at w;rw[w];refine WP.of (zbdx (neg:=true) _ _) ?_;simp only[W,V,L,xgt,xkq,xct,xeo];exact⟨⟨_,_,_,_,_,_,_,_,rfl⟩,zfr t1 g⟩
  ·rintro σ s ⟨⟨v1,v2,v3,v4,v5,v6,v7,v8,rfl⟩,_⟩;simp only[W,V]
 obtain⟨v,st',e,rfl⟩:=key.get;exact⟨st',e⟩
end Dd
namespace K26
theorem holds:∀ns:List Int,ns.length<=63->∃st',Dd.zblc [.scr (ns.map .int)] [.tab]=.ok (.bl true) st':=fun ns hl=>Dd.zwc ns hl _ rfl
end K26
namespace K26
open PySem L2 Dd
noncomputable def top (i:Nat):Stmt:=PySem.Challenge.pw_raisedsums_k26_exchanges_refused.main.body.getD i (.Pass ⟨0,0,0,0⟩)
noncomputable abbrev zio:Stmt:=top 30
noncomputable abbrev zim:Stmt:=top 32
noncomputable abbrev zgo:Stmt:=top 31
noncomputable abbrev zil:Stmt:=top 33
noncomputable abbrev zgr:Stmt:=top 42
noncomputable abbrev zcu:Stmt:=top 43
noncomputable abbrev zcl:Stmt:=top 44
noncomputable abbrev zda:Stmt:=top 41
noncomputable abbrev zeh:Stmt:=top 38
noncomputable abbrev zin:Stmt:=top 45
noncomputable abbrev zgl:Stmt:=top 27
noncomputable abbrev zyu:Stmt:=top 17
noncomputable abbrev zii:Stmt:=top 19
noncomputable abbrev zdm:Stmt:=top 22
noncomputable abbrev zdn:Stmt:=top 23
noncomputable abbrev zij:Stmt:=top 16
noncomputable abbrev zgk:Stmt:=top 24
noncomputable abbrev zdo:Stmt:=top 21
noncomputable abbrev zik:Stmt:=top 25
noncomputable abbrev zeg:Stmt:=top 26
noncomputable abbrev zgm:Stmt:=top 28
noncomputable abbrev zkt:Stmt:=top 46
noncomputable abbrev zdp:Stmt:=top 40
noncomputable abbrev zgn:Stmt:=top 36
noncomputable abbrev zgq:Stmt:=top 37
noncomputable abbrev zcv:Stmt:=top 39
noncomputable abbrev zgp:Stmt:=top 34
noncomputable abbrev zcz:Stmt:=top 35
noncomputable abbrev zbbr:Stmt:=top 47
noncomputable abbrev zyr:Stmt:=initOf (top 4)
theorem ib_NoRow:InitBody zyr "RaisedError":=⟨⟨_, _, _, _, _, _, _, _, _, _, _, _, _, _, _, _, _, _, _, by decide, by decide, rfl, fun _=>rfl⟩,⟨rfl, rfl, rfl, by decide +kernel, rfl, by decide +kernel, by decide +kernel⟩, rfl, by decide, fun _ _ _ _ _ _ _ us hl=>len2 us hl fun _ _=>rfl⟩
section
variable {P:Program}{w:World}{K:Fg}{mg:Str->Option Value}{base h:Heap}
theorem zjx:FnScope ["_law_script", "_law_at_here", "_law_cell", "_law_mix", "_law_k"] ["_law_script", "_law_at_here"] (defScope zio):=⟨rfl, rfl, rfl, by decide +kernel, rfl, by decide +kernel, by decide +kernel⟩
theorem zqv (T:TopF K "_law_bag" zio)(XX:K.In h)(G:h.Ns mainGlobals mg)(Aj:mg "len"=none)(z_abs:mg "abs"=none)(Al:mg "min"=none)(Ah:mg "range"=none):CalD P w K mg base "_law_bag" 1 ["_law_script", "_law_at_here"] zez :=
 have nd:=zjx.nd
 zbd (k:=0) T XX G zjx (fun _ _ _ _ _ _ us hl=>len2 us hl fun _ _=>rfl) fun f cdv A outer s H E hr=>(zf (zu (i:=2) nd rfl (Or.inl rfl) zg)
 (zf (zdg (zcd (zly hr.units0) zma (zb (pv 1)) (zx zbk zlo rfl Aj zln (za (zb (pv 0)) zc)) (nomark _)) (zk (zu (i:=2) nd rfl (Or.inl rfl) (zx zbbi zbkz rfl z_abs zbkp (za (zhq (zb (pv 0)) (zb (pv 1)) (fun _ _=>rfl)) zc)))) zby)
 (zf (zu (i:=3) nd rfl (Or.inl rfl) (zbf zt zbg (zbf zhg (oI_D fun _ _ _ _=>.int _) zg (zb (pv 1))) zg))
 (zf (zff xek rfl (zcg rfl Ah (za (zx (zge rfl) zbbx rfl Al ztx (za (zx zbk zlo rfl Aj zln (za (zb (pv 0)) zc)) (za zg zc))) zc)) (zbj (i:=4) nd rfl (Or.inl rfl))
 (zk (zu (i:=3) nd rfl (Or.inl rfl) (zbf znj (oI_D fun _ _ _ _=>.int _) (zbf zt zbg (zbf zt zbg (zbf zhg (oI_D fun _ _ _ _=>.int _) (zb (pv 3)) zg) (zbf znj (oI_D fun _ _ _ _=>.int _) (zhq (zb (pv 0)) (zb (pv 4)) (fun _ _=>rfl)) zg)) (zb (pv 4))) zg))))
 (zf (zdg (zcd (zly hr.units0) zma (zb (pv 2)) (zbf zsl (oI_D fun _ _ _ _=>.int _) zg zg) (nomark _)) (zk (zu (i:=2) nd rfl (Or.inl rfl) zg)) zby)
 (zk (zy (zps (za (zb (pv 2)) (za (zb (pv 3)) zc))))))))))
theorem zjv:FnScope ["_law_things", "_law_odd_here", "_law_thing"] ["_law_things"] (defScope zim):=⟨rfl, rfl, rfl, by decide +kernel, rfl, by decide +kernel, by decide +kernel⟩
theorem zqt (T:TopF K "_law_odd" zim)(XX:K.In h)(G:h.Ns mainGlobals mg)(Am:mg "sorted"=none)(Ak:mg "tuple"=none):CalD P w K mg base "_law_odd" 1 ["_law_things"] zbp :=
 have nd:=zjv.nd
 zbd (k:=0) T XX G zjv (fun _ _ _ _ _ _ us hl=>len1 us hl fun _=>rfl) fun f cdv A outer s H E hr=>(zf (zu (i:=1) nd rfl (Or.inr rfl) zyb)
 (zf (zff xek rfl (zgb (zb (pv 0))) (zbj (i:=2) nd rfl (Or.inl rfl))
 (zk (znz (zxs hr) (zb (pv 1)) (zb (pv 2)) (zwp (zbay (zxs hr) (zb (pv 1)) (zb (pv 2)) zmx ⟨rfl,rfl,rfl,rfl⟩)) rfl)))
 (zk (zy (zch zcp zjc rfl Ak zem (za (zx (zdv rfl hr.units) zhs rfl Am zhr (za (zhe rfl (zbav (zb (pv 1))) (fun _ _ _ _ _=>(zbj (i:=0) (show(["_law_thing", "_law_odd_here"]:List Str).Nodup from by decide +kernel) rfl (Or.inl rfl))) (fun _ _ _ _ _=>(zoa (zel (zbfr (zxs hr) (zb (pv 1)) (zb (pv 0)) (fun _ _=>rfl))))) (fun _ _ _ _ _=>(zb (pv 0))) (N:=["_law_thing", "_law_odd_here"]) (k:=1) (is:=[1]) (zfg (by rfl))) zc)) zc))))))
theorem zie:FnScope ["_law_bag_here", "_law_many", "_law_digit", "_law_number", "_law_room"] ["_law_bag_here", "_law_many"] (defScope zgo):=⟨rfl, rfl, rfl, by decide +kernel, rfl, by decide +kernel, by decide +kernel⟩
theorem zno (T:TopF K "_law_take" zgo)(XX:K.In h)(G:h.Ns mainGlobals mg)  : CalD P w K mg base "_law_take" 1 ["_law_bag_here", "_law_many"] zl :=
 have nd:=zie.nd
 zbd (k:=0) T XX G zie (fun _ _ _ _ _ _ us hl=>len2 us hl fun _ _=>rfl) fun f cdv A outer s H E hr=>(zf (zdg (zcd zbdr (zhc fun _ _ _ _=>.bl _) (zhq (zb (pv 0)) zg (fun _ _=>rfl)) zg (nomark _)) (zf (zu (i:=2) nd rfl (Or.inl rfl) (zbf znj (oI_D fun _ _ _ _=>.int _) (zhq (zb (pv 0)) zg (fun _ _=>rfl)) (zb (pv 1))))
 (zf (zpq (zbf zgt (oI_D fun _ _ _ _=>.int _) (zhq (zb (pv 0)) zg (fun _ _=>rfl)) (zb (pv 1))) (zb (pv 0)) zg)
 (zk (zy (zb (pv 2)))))) zby)
 (zf (zu (i:=3) nd rfl (Or.inl rfl) zg)
 (zf (zu (i:=4) nd rfl (Or.inl rfl) zg)
 (zf (zwk xek (zcd (zly hr.units0) zma (zb (pv 4)) (zb (pv 1)) (nomark _)) (zf (zpq (zbf znj (oI_D fun _ _ _ _=>.int _) (zbf zt zbg (zbf zhg (oI_D fun _ _ _ _=>.int _) (zhq (zb (pv 0)) zg (fun _ _=>rfl)) zg) zg) zg) (zb (pv 0)) zg)
 (zf (zu (i:=3) nd rfl (Or.inl rfl) (zbf zt zbg (zbf zhg (oI_D fun _ _ _ _=>.int _) (zb (pv 3)) zg) (zbf znj (oI_D fun _ _ _ _=>.int _) (zbf zhg (oI_D fun _ _ _ _=>.int _) (zbf zgt (oI_D fun _ _ _ _=>.int _) (zhq (zb (pv 0)) zg (fun _ _=>rfl)) zg) zg) zg)))
 (zk (zu (i:=4) nd rfl (Or.inl rfl) (zbf zhg (oI_D fun _ _ _ _=>.int _) (zb (pv 4)) zg))))))
 (zk (zy (zbf znj (oI_D fun _ _ _ _=>.int _) (zb (pv 3)) (zb (pv 1)))))))))
theorem zju:FnScope ["_law_bag_here", "_law_most", "_law_long", "_law_row_here", "_law_left", "_law_k"] ["_law_bag_here", "_law_most", "_law_long"] (defScope zil):=⟨rfl, rfl, rfl, by decide +kernel, rfl, by decide +kernel, by decide +kernel⟩
theorem zqs (T:TopF K "_law_row" zil)(XX:K.In h)(G:h.Ns mainGlobals mg)(Ah:mg "range"=none)(Al:mg "min"=none)(Ak:mg "tuple"=none)(Af:CalD P w K mg base "_law_take" 1 ["_law_bag_here", "_law_many"] zl):CalD P w K mg base "_law_row" 2 ["_law_bag_here", "_law_most", "_law_long"] zbv :=
 have nd:=zju.nd
 zbd (k:=1) T XX G zju (fun _ _ _ _ _ _ us hl=>len3 us hl fun _ _ _=>rfl) fun f cdv A outer s H E hr=>(zf (zu (i:=3) nd rfl (Or.inl rfl) (zps zc))
 (zf (zu (i:=4) nd rfl (Or.inl rfl) (zb (pv 1)))
 (zf (zff xek rfl (zcg rfl Ah (za (zp Af (fun _ _ _ _ h=>zo h) (hr.mono (by decide)) rfl (za (zb (pv 0)) (za (zbf zt zbg (zb (pv 2)) zg) zc))) zc)) (zbj (i:=5) nd rfl (Or.inl rfl))
 (zk (zdg (zcd zbdr (zhc fun _ _ _ _=>.bl _) (zb (pv 4)) zg (nomark _)) (zf (zgv (zll (zb (pv 3)) (za (zbf zt zbg zg (zp Af (fun _ _ _ _ h=>zo h) (hr.mono (by decide)) rfl (za (zb (pv 0)) (za (zhq (zec (za (zb (pv 4)) (za (zx (zge rfl) zbbx rfl Al ztx (za (zb (pv 4)) (za zg zc))) (za (zx (zge rfl) zbbx rfl Al ztx (za (zb (pv 4)) (za zg zc))) zc)))) (zp Af (fun _ _ _ _ h=>zo h) (hr.mono (by decide)) rfl (za (zb (pv 0)) (za zg zc))) (fun _ _=>rfl)) zc)))) zc)))
 (zk (zu (i:=4) nd rfl (Or.inl rfl) (zbf zds (zhc fun _ _ _ _=>.int _) (zb (pv 4)) (zhq (zb (pv 3)) (zrg zg) (fun _ _=>rfl)))))) zby)))
 (zk (zy (zch zcp zjc rfl Ak zem (za (zb (pv 3)) zc)))))))
theorem zih:FnScope ["_law_bag_here", "_law_row_here", "_law_at_here", "_law_part", "_law_some"] ["_law_bag_here", "_law_row_here"] (defScope zgr):=⟨rfl, rfl, rfl, by decide +kernel, rfl, by decide +kernel, by decide +kernel⟩
theorem znr (T:TopF K "_law_bent" zgr)(XX:K.In h)(G:h.Ns mainGlobals mg)(Aj:mg "len"=none)(z_max:mg "max"=none)(z_str:mg "str"=none)(Af:CalD P w K mg base "_law_take" 1 ["_law_bag_here", "_law_many"] zl):CalD P w K mg base "_law_bent" 2 ["_law_bag_here", "_law_row_here"] zdk :=
 have nd:=zih.nd
 zbd (k:=1) T XX G zih (fun _ _ _ _ _ _ us hl=>len2 us hl fun _ _=>rfl) fun f cdv A outer s H E hr=>(zf (zu (i:=2) nd rfl (Or.inl rfl) (zp Af (fun _ _ _ _ h=>zo h) (hr.mono (by decide)) rfl (za (zb (pv 0)) (za (zx (zwz rfl) zbbx rfl z_max zbkn (za zg (za (zx zbk zlo rfl Aj zln (za (zb (pv 1)) zc)) zc))) zc))))
 (zf (zu (i:=3) nd rfl (Or.inl rfl) (zhq (zbf zt zbg (zb (pv 1)) (zdh (za zg zc))) (zb (pv 2)) (fun _ _=>rfl)))
 (zf (zu (i:=4) nd rfl (Or.inl rfl) (zec (za zmx (za zmx (za zg (za (zrg (zb (pv 3))) (za (zch zpy zyh rfl z_str zbgd (za (zb (pv 3)) zc)) (za zwq (za (zdh (za (zb (pv 3)) zc)) (za (zec (za (zb (pv 3)) zc)) (za (zbf zt zbg (zb (pv 3)) zg) (za (zbf zsl (oI_D fun _ _ _ _=>.int _) zg zg) zc))))))))))))
 (zk (zy (zbf zt zbg (zbf zt zbg (zbbw (zb (pv 1)) zgx (zgw (zb (pv 2)))) (zdh (za (zhq (zb (pv 4)) (zp Af (fun _ _ _ _ h=>zo h) (hr.mono (by decide)) rfl (za (zb (pv 0)) (za zg zc))) (fun _ _=>rfl)) zc))) (zbbw (zb (pv 1)) (zgw (zbf zt zbg (zb (pv 2)) zg)) zgx)))))))
theorem zdy:FnScope ["_law_bag_here", "_law_rows_here", "_law_pick", "_law_row_here", "_law_some"] ["_law_bag_here", "_law_rows_here"] (defScope zcu):=⟨rfl, rfl, rfl, by decide +kernel, rfl, by decide +kernel, by decide +kernel⟩
theorem zhh (T:TopF K "_law_row_asked" zcu)(XX:K.In h)(G:h.Ns mainGlobals mg)(Aj:mg "len"=none)(A2:mg "list"=none)(z_str:mg "str"=none)(Af:CalD P w K mg base "_law_take" 1 ["_law_bag_here", "_law_many"] zl)(An:CalD P w K mg base "_law_row" 2 ["_law_bag_here", "_law_most", "_law_long"] zbv)(c__law_bent:CalD P w K mg base "_law_bent" 2 ["_law_bag_here", "_law_row_here"] zdk):CalD P w K mg base "_law_row_asked" 3 ["_law_bag_here", "_law_rows_here"] zbz :=
  have nd:=zdy.nd
  zbd (k:=2) T XX G zdy (fun _ _ _ _ _ _ us hl=>len2 us hl fun _ _=>rfl) fun f cdv A outer s H E hr=>(zf (zu (i:=2) nd rfl (Or.inl rfl) (zp Af (fun _ _ _ _ h=>zo h) (hr.mono (by decide)) rfl (za (zb (pv 0)) (za zg zc))))
  (zf (zu (i:=3) nd rfl (Or.inl rfl) (zp An (fun _ _ _ _ h=>zo h) (hr.mono (by decide)) rfl (za (zb (pv 0)) (za zg (za zg zc)))))
  (zf (zdg (zcd zbdr (zhc fun _ _ _ _=>.bl _) (zx zbk zlo rfl Aj zln (za (zb (pv 1)) zc)) zg (nomark _)) (zk (zu (i:=3) nd rfl (Or.inl rfl) (zhq (zb (pv 1)) (zp Af (fun _ _ _ _ h=>zo h) (hr.mono (by decide)) rfl (za (zb (pv 0)) (za (zx zbk zlo rfl Aj zln (za (zb (pv 1)) zc)) zc))) (fun _ _=>rfl)))) zby)
  (zf (zdg (zcd (zly hr.units0) zma (zb (pv 2)) zg (nomark _)) (zk (zy (zb (pv 3)))) zby)
  (zf (zdg (zcd (zly hr.units0) zma (zb (pv 2)) zg (nomark _)) (zk (zy (zp c__law_bent (fun _ _ _ _ h=>zo h) (hr.mono (by decide)) rfl (za (zb (pv 0)) (za (zb (pv 3)) zc))))) zby)
  (zf (zu (i:=4) nd rfl (Or.inl rfl) (zec (za (zp An (fun _ _ _ _ h=>zo h) (hr.mono (by decide)) rfl (za (zb (pv 0)) (za zg (za zg zc)))) (za (zch zfn zuc rfl A2 zty (za (zb (pv 3)) zc)) (za (zdh (za (zb (pv 3)) zc)) (za zwq (za zeb (za zmx (za zg (za (zbf zt zbg (zb (pv 3)) (zdh (za zg zc))) (za (zbf zt zbg (zdh (za zg zc)) (zb (pv 3))) (za (zbf zbdq zbdw (zdh (za zg zc)) zg) (za (zdh (za zg zc)) zc)))))))))))))
  (zf (zu (i:=4) nd rfl (Or.inl rfl) (zbf zt zbg (zb (pv 4)) (zec (za (zdh (za zg (za zg zc))) (za (zbf zt zbg (zb (pv 3)) (zdh (za (zdh zc) zc))) (za (zbfp zeb (za (zhe rfl (zgb (zb (pv 3))) (fun _ _ _ _ _=>(zbj (i:=0) (show(["_law_part"]:List Str).Nodup from by decide +kernel) rfl (Or.inl rfl))) (fun _ _ _ _ _=>zgy) (fun _ _ _ _ _=>(zch zpy zyh rfl z_str zbgd (za (zb (pv 0)) zc))) (N:=["_law_part"]) (k:=1) (is:=[]) (zfg (by rfl))) zc)) (za (zdh (za (zb (pv 3)) (za (zb (pv 3)) zc))) (za (zbf zsl (oI_D fun _ _ _ _=>.int _) zg zg) (za (zec zc) (za (zdh (za zmx (za zg zc))) zc))))))))))
  (zf (zu (i:=4) nd rfl (Or.inl rfl) (zbf zt zbg (zb (pv 4)) (zec (za (zdh (za zeb (za zg zc))) (za (zrg zg) zc)))))
  (zk (zy (zhq (zb (pv 4)) (zp Af (fun _ _ _ _ h=>zo h) (hr.mono (by decide)) rfl (za (zb (pv 0)) (za zg zc))) (fun _ _=>rfl))))))))))))
theorem zcy:FnScope ["_law_bag_here", "_law_row_here", "_law_some"] ["_law_bag_here", "_law_row_here"] (defScope zcl):=⟨rfl, rfl, rfl, by decide +kernel, rfl, by decide +kernel, by decide +kernel⟩
theorem zfw (T:TopF K "_law_place_asked" zcl)(XX:K.In h)(G:h.Ns mainGlobals mg)(Ak:mg "tuple"=none)(Ac:mg "isinstance"=none)(Aj:mg "len"=none)(Af:CalD P w K mg base "_law_take" 1 ["_law_bag_here", "_law_many"] zl):CalD P w K mg base "_law_place_asked" 2 ["_law_bag_here", "_law_row_here"] zbm :=
 have nd:=zcy.nd
 zbd (k:=1) T XX G zcy (fun _ _ _ _ _ _ us hl=>len2 us hl fun _ _=>rfl) fun f cdv A outer s H E hr=>(zf (zu (i:=2) nd rfl (Or.inl rfl) (zec (za (zp Af (fun _ _ _ _ h=>zo h) (hr.mono (by decide)) rfl (za (zb (pv 0)) (za zg zc))) (za zmx (za zmx (za zwq (za zeb (za (zdh zc) (za (zec (za zg zc)) (za (zrg zg) (za (zrg zg) (za zg (za zg (za (zbf zsl (oI_D fun _ _ _ _=>.int _) zg zg) (za (zdh (za zg zc)) (za (zdh (za zg (za zg zc))) (za zeb (za (zrg (zbf zsl (oI_D fun _ _ _ _=>.int _) zg zg)) zc))))))))))))))))))
 (zf (zdg (JW.pt (zbey (zel (zx zcn zdw rfl Ac zbi (za (zb (pv 1)) (za (zoc (zha (v:=.ty "tuple") rfl Ak zem rfl) (fun _ _=>.ty _)) zc)))) (zml (zcd (zsm hr.units) zvn (zp Af (fun _ _ _ _ h=>zo h) (hr.mono (by decide)) rfl (za (zb (pv 0)) (za zg zc))) zg (nomark _)) (by first | exact Or.inl rfl | exact Or.inr rfl)))) (zk (zy (zp Af (fun _ _ _ _ h=>zo h) (hr.mono (by decide)) rfl (za (zb (pv 0)) (za (zbf zt zbg (zx zbk zlo rfl Aj zln (za (zb (pv 1)) zc)) zg) zc))))) zby)
 (zk (zy (zhq (zb (pv 2)) (zp Af (fun _ _ _ _ h=>zo h) (hr.mono (by decide)) rfl (za (zb (pv 0)) (za zg zc))) (fun _ _=>rfl))))))
theorem zef:FnScope ["_law_thing"] ["_law_thing"] (defScope zda):=⟨rfl, rfl, rfl, by decide +kernel, rfl, by decide +kernel, by decide +kernel⟩
theorem zis (T:TopF K "_law_is_whole" zda)(XX:K.In h)(G:h.Ns mainGlobals mg)(z_bool:mg "bool"=none)(Ac:mg "isinstance"=none)(z_int:mg "int"=none):CalD P w K mg base "_law_is_whole" 1 ["_law_thing"] zq :=
 have nd:=zef.nd
 zbd (k:=0) T XX G zef (fun _ _ _ _ _ _ us hl=>len1 us hl fun _=>rfl) fun f cdv A outer s H E hr=>(zk (zy (ztp (zx zcn zdw rfl Ac zbi (za (zb (pv 0)) (za (zoc (zha (v:=.ty "int") rfl z_int zbbj rfl) (fun _ _=>.ty _)) zc))) (zwo (zwp (zx zcn zdw rfl Ac zbi (za (zb (pv 0)) (za (zoc (zha (v:=.ty "bool") rfl z_bool zyg rfl) (fun _ _=>.ty _)) zc))))))))
theorem zfu:FnScope ["_law_row_here"] ["_law_row_here"] (defScope zeh):=⟨rfl, rfl, rfl, by decide +kernel, rfl, by decide +kernel, by decide +kernel⟩
theorem zky (T:TopF K "_law_places" zeh)(XX:K.In h)(G:h.Ns mainGlobals mg)(Aj:mg "len"=none)(Ah:mg "range"=none):CalD P w K mg base "_law_places" 1 ["_law_row_here"] zcx :=
 have nd:=zfu.nd
 zbd (k:=0) T XX G zfu (fun _ _ _ _ _ _ us hl=>len1 us hl fun _=>rfl) fun f cdv A outer s H E hr=>(zk (zy (zhe rfl (zcg rfl Ah (za (zbf zds (zhc fun _ _ _ _=>.int _) (zx zbk zlo rfl Aj zln (za (zb (pv 0)) zc)) zg) zc)) (fun _ _ _ _ _=>(zbj (i:=0) (show(["_law_k", "_law_row_here"]:List Str).Nodup from by decide +kernel) rfl (Or.inl rfl))) (fun _ _ _ _ _=>(zoa (zcd (zly hr.units0) zma (zhq (zb (pv 1)) (zb (pv 0)) (fun _ _=>rfl)) (zbf zhg (oI_D fun _ _ _ _=>.int _) zg (zhq (zb (pv 1)) (zbf zt zbg (zb (pv 0)) zg) (fun _ _=>rfl))) (nomark _)))) (fun _ _ _ _ _=>(zb (pv 0))) (N:=["_law_k", "_law_row_here"]) (k:=1) (is:=[0]) (zfg (by rfl)))))
theorem zjw:FnScope ["_law_rows_here", "_law_row_here", "_law_place"] ["_law_rows_here", "_law_row_here", "_law_place"] (defScope zin):=⟨rfl, rfl, rfl, by decide +kernel, rfl, by decide +kernel, by decide +kernel⟩
theorem zqu (T:TopF K "_law_due" zin)(XX:K.In h)(G:h.Ns mainGlobals mg)(z_any:mg "any"=none)(Ak:mg "tuple"=none)(Ac:mg "isinstance"=none)(z_int:mg "int"=none)(A4:CalD P w K mg base "_law_is_whole" 1 ["_law_thing"] zq)(Cm:CalD P w K mg base "_law_places" 1 ["_law_row_here"] zcx):CalD P w K mg base "_law_due" 2 ["_law_rows_here", "_law_row_here", "_law_place"] zer :=
  have nd:=zjw.nd
  zbd (k:=1) T XX G zjw (fun _ _ _ _ _ _ us hl=>len3 us hl fun _ _ _=>rfl) fun f cdv A outer s H E hr=>(zf (zdg (JW.pt (zti (zja (zel (zx zcn zdw rfl Ac zbi (za (zb (pv 1)) (za (zoc (zha (v:=.ty "tuple") rfl Ak zem rfl) (fun _ _=>.ty _)) zc))))) (zti (zel (zx (zbbg rfl) zbbl rfl z_any zbge (za (zhe rfl (zgb (zb (pv 1))) (fun _ _ _ _ _=>(zbj (i:=0) (show(["_law_part"]:List Str).Nodup from by decide +kernel) rfl (Or.inl rfl))) (fun _ _ _ _ _=>zgy) (fun _ _ _ _ _=>(zwp (zp A4 (fun _ _ _ _ h=>zo h) (hr.mono (by decide)) rfl (za (zb (pv 0)) zc)))) (N:=["_law_part"]) (k:=1) (is:=[]) (zfg (by rfl))) zc))) (zml (zcd (zvj hr.units) zbln (zb (pv 1)) (zb (pv 0)) rfl) (by first | exact Or.inl rfl | exact Or.inr rfl))))) (zk (zy zeb)) zby)
  (zk (zy (zhq (zec (za zeb (za zeb zc))) (zch zxa zbkx rfl z_int zbbj (za (ztp (zp A4 (fun _ _ _ _ h=>zo h) (hr.mono (by decide)) rfl (za (zb (pv 2)) zc)) (zwo (zbaz (zbij hr.units) zbln (zb (pv 2)) (zp Cm (fun _ _ _ _ h=>zo h) (hr.mono (by decide)) rfl (za (zb (pv 1)) zc)) rfl))) zc)) (fun _ _=>rfl)))))
theorem zib:FnScope ["rows", "kept", "row"] ["rows"] (defScope zgl):=⟨rfl, rfl, rfl, by decide +kernel, rfl, by decide +kernel, by decide +kernel⟩
theorem znl (T:TopF K "rows_kept" zgl)(XX:K.In h)(G:h.Ns mainGlobals mg)  : CalD P w K mg base "rows_kept" 1 ["rows"] zdi :=
 have nd:=zib.nd
 zbd (k:=0) T XX G zib (fun _ _ _ _ _ _ us hl=>len1 us hl fun _=>rfl) fun f cdv A outer s H E hr=>(zf (zu (i:=1) nd rfl (Or.inl rfl) zyb)
 (zf (zff xek rfl (zgb (zb (pv 0))) (zbj (i:=2) nd rfl (Or.inl rfl))
 (zk (znz (zxs hr) (zb (pv 1)) (zb (pv 2)) zmx rfl)))
 (zk (zy (zb (pv 1))))))
theorem zxg:FnScope ["kept", "thing"] ["kept", "thing"] (defScope zyu):=⟨rfl, rfl, rfl, by decide +kernel, rfl, by decide +kernel, by decide +kernel⟩
theorem zbdu (T:TopF K "flip" zyu)(XX:K.In h)(G:h.Ns mainGlobals mg)  : CalD P w K mg base "flip" 1 ["kept", "thing"] zlp :=
 have nd:=zxg.nd
 zbd (k:=0) T XX G zxg (fun _ _ _ _ _ _ us hl=>len2 us hl fun _ _=>rfl) fun f cdv A outer s H E hr=>(zk (zdg (zbjn (zbdo (zxs hr) (zb (pv 1)) (zb (pv 0)))) (zk (zgv (zbfq (zxs hr) (zb (pv 0)) (zb (pv 1)) ⟨rfl,rfl,rfl,rfl⟩))) (zk (znz (zxs hr) (zb (pv 0)) (zb (pv 1)) zmx rfl))))
theorem zjr:FnScope ["e", "k"] ["e", "k"] (defScope zii):=⟨rfl, rfl, rfl, by decide +kernel, rfl, by decide +kernel, by decide +kernel⟩
theorem zqp (T:TopF K "odd_ways" zii)(XX:K.In h)(G:h.Ns mainGlobals mg)  : CalD P w K mg base "odd_ways" 1 ["e", "k"] zen :=
 have nd:=zjr.nd
 zbd (k:=0) T XX G zjr (fun _ _ _ _ _ _ us hl=>len2 us hl fun _ _=>rfl) fun f cdv A outer s H E hr=>(zk (zy (zbaz (zsm hr.units) zvn (zbf zbil (zhc fun _ _ _ _=>.int _) (zb (pv 0)) (zb (pv 1))) (zb (pv 1)) (nomark _))))
theorem zfb:FnScope ["a", "b", "told", "c"] ["a", "b"] (defScope zdm):=⟨rfl, rfl, rfl, by decide +kernel, rfl, by decide +kernel, by decide +kernel⟩
theorem zjj (T:TopF K "rows_for_two" zdm)(XX:K.In h)(G:h.Ns mainGlobals mg)(Ah:mg "range"=none)(Am:mg "sorted"=none)(c_odd_ways:CalD P w K mg base "odd_ways" 1 ["e", "k"] zen):CalD P w K mg base "rows_for_two" 2 ["a", "b"] zbu :=
 have nd:=zfb.nd
 zbd (k:=1) T XX G zfb (fun _ _ _ _ _ _ us hl=>len2 us hl fun _ _=>rfl) fun f cdv A outer s H E hr=>(zf (zu (i:=2) nd rfl (Or.inl rfl) (zps zc))
 (zf (zff xek rfl (zcg rfl Ah (za (zbf zt zbg (zbf zgt (oI_D fun _ _ _ _=>.int _) (zb (pv 0)) zg) zg) zc)) (zbj (i:=3) nd rfl (Or.inl rfl))
 (zk (zdg (zel (zp c_odd_ways (fun _ _ _ _ h=>zo h) (hr.mono (by decide)) rfl (za (zbf zds (zhc fun _ _ _ _=>.int _) (zbf zds (zhc fun _ _ _ _=>.int _) (zb (pv 1)) (zb (pv 3))) zg) (za (zbf zds (zhc fun _ _ _ _=>.int _) (zb (pv 0)) (zbf zhg (oI_D fun _ _ _ _=>.int _) zg (zb (pv 3)))) zc)))) (zk (zgv (zll (zb (pv 2)) (za (zbnk (zcd zbdr (zhc fun _ _ _ _=>.bl _) (zb (pv 3)) zg (nomark _)) (zdh (za (zbf zds (zhc fun _ _ _ _=>.int _) (zbf zt zbg (zb (pv 0)) (zb (pv 1))) (zb (pv 3))) (za (zb (pv 3)) zc))) (zdh (za (zbf zt zbg (zb (pv 0)) (zb (pv 1))) zc))) zc)))) zby)))
 (zk (zy (zx (zdv rfl hr.units) zhs rfl Am zhr (za (zb (pv 2)) zc))))))
theorem zfc:FnScope ["row", "place", "ahead", "rest"] ["row", "place"] (defScope zdn):=⟨rfl, rfl, rfl, by decide +kernel, rfl, by decide +kernel, by decide +kernel⟩
theorem zjk (T:TopF K "rows_for_row" zdn)(XX:K.In h)(G:h.Ns mainGlobals mg)(Cn:CalD P w K mg base "rows_for_two" 2 ["a", "b"] zbu):CalD P w K mg base "rows_for_row" 3 ["row", "place"] zbl :=
 have nd:=zfc.nd
 zbd (k:=2) T XX G zfc (fun _ _ _ _ _ _ us hl=>len2 us hl fun _ _=>rfl) fun f cdv A outer s H E hr=>(zf (zu (i:=2) nd rfl (Or.inr rfl) (zbbw (zb (pv 0)) zgx (zgw (zb (pv 1)))))
 (zf (zu (i:=3) nd rfl (Or.inr rfl) (zbbw (zb (pv 0)) (zgw (zbf zt zbg (zb (pv 1)) zg)) zgx))
 (zk (zy (zhe rfl (zgb (zp Cn (fun _ _ _ _ h=>zo h) (hr.mono (by decide)) rfl (za (zhq (zb (pv 0)) (zb (pv 1)) (fun _ _=>rfl)) (za (zhq (zb (pv 0)) (zbf zt zbg (zb (pv 1)) zg) (fun _ _=>rfl)) zc)))) (fun _ _ _ _ _=>(zbj (i:=0) (show(["two", "rest", "ahead"]:List Str).Nodup from by decide +kernel) rfl (Or.inl rfl))) (fun _ _ _ _ _=>zgy) (fun _ _ _ _ _=>(zbf zt zbg (zbf zt zbg (zb (pv 2)) (zb (pv 0))) (zb (pv 1)))) (N:=["two", "rest", "ahead"]) (k:=1) (is:=[3, 2]) (zfg (by rfl)))))))
theorem zjs:FnScope ["thing"] ["thing"] (defScope zij):=⟨rfl, rfl, rfl, by decide +kernel, rfl, by decide +kernel, by decide +kernel⟩
theorem zqq (T:TopF K "is_whole" zij)(XX:K.In h)(G:h.Ns mainGlobals mg)(z_bool:mg "bool"=none)(Ac:mg "isinstance"=none)(z_int:mg "int"=none):CalD P w K mg base "is_whole" 1 ["thing"] zq :=
 have nd:=zjs.nd
 zbd (k:=0) T XX G zjs (fun _ _ _ _ _ _ us hl=>len1 us hl fun _=>rfl) fun f cdv A outer s H E hr=>(zk (zy (ztp (zx zcn zdw rfl Ac zbi (za (zb (pv 0)) (za (zoc (zha (v:=.ty "int") rfl z_int zbbj rfl) (fun _ _=>.ty _)) zc))) (zwo (zwp (zx zcn zdw rfl Ac zbi (za (zb (pv 0)) (za (zoc (zha (v:=.ty "bool") rfl z_bool zyg rfl) (fun _ _=>.ty _)) zc))))))))
theorem zia:FnScope ["kept", "row"] ["kept", "row"] (defScope zgk):=⟨rfl, rfl, rfl, by decide +kernel, rfl, by decide +kernel, by decide +kernel⟩
theorem znk (T:TopF K "stands_in" zgk)(XX:K.In h)(G:h.Ns mainGlobals mg)(z_all:mg "all"=none)(Ak:mg "tuple"=none)(Ac:mg "isinstance"=none)(A6:CalD P w K mg base "is_whole" 1 ["thing"] zq):CalD P w K mg base "stands_in" 2 ["kept", "row"] zba :=
 have nd:=zia.nd
 zbd (k:=1) T XX G zia (fun _ _ _ _ _ _ us hl=>len2 us hl fun _ _=>rfl) fun f cdv A outer s H E hr=>(zk (zy (ztp (zx zcn zdw rfl Ac zbi (za (zb (pv 1)) (za (zoc (zha (v:=.ty "tuple") rfl Ak zem rfl) (fun _ _=>.ty _)) zc))) (ztp (zx (zbbh rfl) zbbl rfl z_all zbko (za (zhe rfl (zgb (zb (pv 1))) (fun _ _ _ _ _=>(zbj (i:=0) (show(["part"]:List Str).Nodup from by decide +kernel) rfl (Or.inl rfl))) (fun _ _ _ _ _=>zgy) (fun _ _ _ _ _=>(zp A6 (fun _ _ _ _ h=>zo h) (hr.mono (by decide)) rfl (za (zb (pv 0)) zc))) (N:=["part"]) (k:=1) (is:=[]) (zfg (by rfl))) zc)) (zwo (zbnj (zbdo (zxs hr) (zb (pv 1)) (zb (pv 0)))))))))
theorem zfd:FnScope ["a", "b"] ["a", "b"] (defScope zdo):=⟨rfl, rfl, rfl, by decide +kernel, rfl, by decide +kernel, by decide +kernel⟩
theorem zjl (T:TopF K "falls_slowly" zdo)(XX:K.In h)(G:h.Ns mainGlobals mg)  : CalD P w K mg base "falls_slowly" 1 ["a", "b"] zcj :=
 have nd:=zfd.nd
 zbd (k:=0) T XX G zfd (fun _ _ _ _ _ _ us hl=>len2 us hl fun _ _=>rfl) fun f cdv A outer s H E hr=>(zk (zy (zbaz (zly hr.units0) zma (zb (pv 0)) (zbf zhg (oI_D fun _ _ _ _=>.int _) zg (zb (pv 1))) (nomark _))))
theorem zjt:FnScope ["row", "place"] ["row", "place"] (defScope zik):=⟨rfl, rfl, rfl, by decide +kernel, rfl, by decide +kernel, by decide +kernel⟩
theorem zqr (T:TopF K "is_place" zik)(XX:K.In h)(G:h.Ns mainGlobals mg)(Aj:mg "len"=none)(A6:CalD P w K mg base "is_whole" 1 ["thing"] zq)(Co:CalD P w K mg base "falls_slowly" 1 ["a", "b"] zcj):CalD P w K mg base "is_place" 2 ["row", "place"] zbn :=
 have nd:=zjt.nd
 zbd (k:=1) T XX G zjt (fun _ _ _ _ _ _ us hl=>len2 us hl fun _ _=>rfl) fun f cdv A outer s H E hr=>(zf (zdg (JW.pt (zti (zja (zel (zp A6 (fun _ _ _ _ h=>zo h) (hr.mono (by decide)) rfl (za (zb (pv 1)) zc)))) (zml (zja (zwi zbmj (zly hr.units0) (zhc fun _ _ _ _=>.bl _) zma zg (zb (pv 1)) (zbf zds (zhc fun _ _ _ _=>.int _) (zx zbk zlo rfl Aj zln (za (zb (pv 0)) zc)) zg))) (by first | exact Or.inl rfl | exact Or.inr rfl)))) (zk (zy zmx)) zby)
 (zk (zy (zp Co (fun _ _ _ _ h=>zo h) (hr.mono (by decide)) rfl (za (zhq (zb (pv 0)) (zb (pv 1)) (fun _ _=>rfl)) (za (zhq (zb (pv 0)) (zbf zt zbg (zb (pv 1)) zg) (fun _ _=>rfl)) zc))))))
theorem zft:FnScope ["kept", "row", "place", "made"] ["kept", "row", "place"] (defScope zeg):=⟨rfl, rfl, rfl, by decide +kernel, rfl, by decide +kernel, by decide +kernel⟩
theorem zkx (T:TopF K "exchange_in" zeg)(XX:K.In h)(G:h.Ns mainGlobals mg){Ab:Addr}{Aa:Addr}(Ad:W.nsIn K mainGlobals "NoRow"=some (some (.ref Aa)))(E_NoRow:ErrInit K "NoRow" Aa)(Ae:W.nsIn K mainGlobals "NoExchange"=some (some (.ref Ab)))(A7:W.excIn K Ab bmV "ValueError.__new__"=true)(c_stands_in:CalD P w K mg base "stands_in" 2 ["kept", "row"] zba)(c_is_place:CalD P w K mg base "is_place" 2 ["row", "place"] zbn)(c_flip:CalD P w K mg base "flip" 1 ["kept", "thing"] zlp)(Cp:CalD P w K mg base "rows_for_row" 3 ["row", "place"] zbl):CalX P w K mg base "exchange_in" 4 ["kept", "row", "place"] zw :=
 have nd:=zft.nd
 zyf (k:=3) T XX G zft (fun _ _ _ _ _ _ us hl=>len3 us hl fun _ _ _=>rfl) fun f cdv A outer s H E hr=>(zli (fun _ _=>rfl) (zbez (zja (zel (zp c_stands_in (fun _ _ _ _ h=>zo h) (hr.mono (by decide)) rfl (za (zb (pv 0)) (za (zb (pv 1)) zc))))) (ztk (ztj zyn E_NoRow (hr.mono (by decide)) rfl rfl (za zg zc))) (zpp zby))
 (zli (fun _ _=>rfl) (zbez (zja (zel (zp c_is_place (fun _ _ _ _ h=>zo h) (hr.mono (by decide)) rfl (za (zb (pv 1)) (za (zb (pv 2)) zc))))) (ztk (zwj zym ⟨Ae,A7⟩ rfl rfl (za zeb zc))) (zpp zby))
 (zpp (zf (zgv (zp c_flip (fun _ _ _ _ h=>zo h) (hr.mono (by decide)) rfl (za (zb (pv 0)) (za (zb (pv 1)) zc))))
 (zk (zff PassesOwn.leaving rfl (zgb (zp Cp (fun _ _ _ _ h=>zo h) (hr.mono (by decide)) rfl (za (zb (pv 1)) (za (zb (pv 2)) zc)))) (zbj (i:=3) nd rfl (Or.inl rfl))
 (zk (zgv (zp c_flip (fun _ _ _ _ h=>zo h) (hr.mono (by decide)) rfl (za (zb (pv 0)) (za (zb (pv 3)) zc)))))))))))
theorem zic:FnScope ["rows", "row", "place", "kept"] ["rows", "row", "place"] (defScope zgm):=⟨rfl, rfl, rfl, by decide +kernel, rfl, by decide +kernel, by decide +kernel⟩
theorem znm (T:TopF K "exchanged" zgm)(XX:K.In h)(G:h.Ns mainGlobals mg)(Am:mg "sorted"=none)(Ak:mg "tuple"=none)(c_rows_kept:CalD P w K mg base "rows_kept" 1 ["rows"] zdi)(Cq:CalX P w K mg base "exchange_in" 4 ["kept", "row", "place"] zw):CalX P w K mg base "exchanged" 5 ["rows", "row", "place"] zbq :=
 have nd:=zic.nd
 zyf (k:=4) T XX G zic (fun _ _ _ _ _ _ us hl=>len3 us hl fun _ _ _=>rfl) fun f cdv A outer s H E hr=>(zli (fun _ _=>rfl) (zbjp (zu (i:=3) nd rfl (Or.inl rfl) (zp c_rows_kept (fun _ _ _ _ h=>zo h) (hr.mono (by decide)) rfl (za (zb (pv 0)) zc))))
 (zli (fun _ _=>rfl) (ztl (zth Cq zbcf (fun _ _ h=>zlf _ _ h) (hr.mono (by decide)) rfl (za (zb (pv 3)) (za (zb (pv 1)) (za (zb (pv 2)) zc)))))
 (zpp (zk (zy (zch zcp zjc rfl Ak zem (za (zx (zdv rfl hr.units) zhs rfl Am zhr (za (zb (pv 3)) zc)) zc)))))))
theorem zlw:FnScope ["_law_rows_here", "_law_row_here", "_law_place", "e"] ["_law_rows_here", "_law_row_here", "_law_place"] (defScope zkt):=⟨rfl, rfl, rfl, by decide +kernel, rfl, by decide +kernel, by decide +kernel⟩
theorem zso (T:TopF K "_law_at" zkt)(XX:K.In h)(G:h.Ns mainGlobals mg){Aa:Addr}(Ad:W.nsIn K mainGlobals "NoRow"=some (some (.ref Aa)))(E_NoRow:ErrInit K "NoRow" Aa)(Ag:ErrLook K Aa)(A8:W.exmOne K (.ref Aa) (.ref Aa)=some true)(A5:CalX P w K mg base "exchanged" 5 ["rows", "row", "place"] zbq):CalD P w K mg base "_law_at" 6 ["_law_rows_here", "_law_row_here", "_law_place"] zgg :=
 have nd:=zlw.nd
 zbd (k:=5) T XX G zlw (fun _ _ _ _ _ _ us hl=>len3 us hl fun _ _ _=>rfl) fun f cdv A outer s H E hr=>(zf (zbfa (i:=3) (cs:=["NoRow"]) rfl rfl rfl nd rfl rfl rfl Ad (zpw Ad A8 zbbe) (fun R E pn hw=>ztk (ztl (zth A5 hw (fun _ _ h=>zlf _ _ h) (hr.mono (by decide)) rfl (za (zb (pv 0)) (za (zb (pv 1)) (za (zb (pv 2)) zc)))))) (fun e=>(zk (zy (zbnm (cs:=["NoRow"]) (pv 3) (zpw Ad (athas E_NoRow Ag) zbbe))))))
 (zk (zy zwq)))
theorem zfe:FnScope ["_law_call", "_law_kinds", "_law_others", "e"] ["_law_call"] (defScope zdp):=⟨rfl, rfl, rfl, by decide +kernel, rfl, by decide +kernel, by decide +kernel⟩
theorem zjm (T:TopF K "_law_refused" zdp)(XX:K.In h)(G:h.Ns mainGlobals mg)(Cr:mg "ValueError"=none)(Ac:mg "isinstance"=none)(z_any:mg "any"=none){Ao:Addr}{Ap:Addr}{Ab:Addr}{Aq:Addr}{Ar:Addr}{As:Addr}{Au:Addr}{Av:Addr}{Aw:Addr}{Aa:Addr}{Ax:Addr}{Ay:Addr}{Az:Addr}{A0:Addr}(Ad:W.nsIn K mainGlobals "NoRow"=some (some (.ref Aa)))(Ag:ErrLook K Aa)(A9:W.kitOne K (.ref Aa) (.type "ValueError")=some true)(Ae:W.nsIn K mainGlobals "NoExchange"=some (some (.ref Ab)))(Ai:ErrLook K Ab)(Ba:W.kitOne K (.ref Ab) (.type "ValueError")=some true)(Bb:W.nsIn K mainGlobals "NoPart"=some (some (.ref Av)))(Bc:W.kitOne K (.ref Aa) (.ref Av)=some false)(Bd:W.kitOne K (.ref Ab) (.ref Av)=some false)(Be:W.nsIn K mainGlobals "TooMany"=some (some (.ref Az)))(Bf:W.kitOne K (.ref Aa) (.ref Az)=some false)(Bg:W.kitOne K (.ref Ab) (.ref Az)=some false)(Bh:W.kitOne K (.ref Aa) (.ref Aa)=some true)(Bi:W.kitOne K (.ref Ab) (.ref Aa)=some false)(Bj:W.kitOne K (.ref Aa) (.ref Ab)=some false)(Bk:W.kitOne K (.ref Ab) (.ref Ab)=some true)(Bl:W.nsIn K mainGlobals "NoText"=some (some (.ref Ax)))(Bo:W.kitOne K (.ref Aa) (.ref Ax)=some false)(Bp:W.kitOne K (.ref Ab) (.ref Ax)=some false)(Bq:W.nsIn K mainGlobals "NoPaper"=some (some (.ref Au)))(Br:W.kitOne K (.ref Aa) (.ref Au)=some false)(Bs:W.kitOne K (.ref Ab) (.ref Au)=some false)(Bt:W.nsIn K mainGlobals "Unlike"=some (some (.ref A0)))(Bu:W.kitOne K (.ref Aa) (.ref A0)=some false)(Bv:W.kitOne K (.ref Ab) (.ref A0)=some false)(Bw:W.nsIn K mainGlobals "NoProduct"=some (some (.ref Aw)))(Bx:W.kitOne K (.ref Aa) (.ref Aw)=some false)(By:W.kitOne K (.ref Ab) (.ref Aw)=some false)(Bz:W.nsIn K mainGlobals "NoName"=some (some (.ref As)))(B1:W.kitOne K (.ref Aa) (.ref As)=some false)(B2:W.kitOne K (.ref Ab) (.ref As)=some false)(B3:W.nsIn K mainGlobals "NoLine"=some (some (.ref Ar)))(B4:W.kitOne K (.ref Aa) (.ref Ar)=some false)(B5:W.kitOne K (.ref Ab) (.ref Ar)=some false)(B6:W.nsIn K mainGlobals "NoLetters"=some (some (.ref Aq)))(B7:W.kitOne K (.ref Aa) (.ref Aq)=some false)(B8:W.kitOne K (.ref Ab) (.ref Aq)=some false)(B9:W.nsIn K mainGlobals "NoDeed"=some (some (.ref Ap)))(Ca:W.kitOne K (.ref Aa) (.ref Ap)=some false)(Cb:W.kitOne K (.ref Ab) (.ref Ap)=some false)(n_Full:W.nsIn K mainGlobals "Full"=some (some (.ref Ao)))(Cc:W.kitOne K (.ref Aa) (.ref Ao)=some false)(Cd:W.kitOne K (.ref Ab) (.ref Ao)=some false)(Ce:W.nsIn K mainGlobals "RaisedError"=some (some (.ref Ay)))(Cf:W.exmOne K (.ref Aa) (.ref Ay)=some true)(Cg:W.exmOne K (.ref Ab) (.ref Ay)=some true):CalT P w K mg base "_law_refused" 5 zbw :=
 have nd:=zfe.nd
 zbga (k:=5) (b:=zbb) T XX G zfe (fun _ _ _ _ _ _ us hl=>len1 us hl fun _=>rfl) fun fr cdv A outer s H E f σL τL g Gg hG hr T=>(zbjw (zbjv (i:=3) (cs:=["NoExchange", "NoRow"]) rfl rfl rfl nd rfl rfl rfl Ce (zpw Ae Cg (zpw Ad Cf zbbe)) T hG (fun E pn=>pv 0) (fun e=>(zf (zdg (zja (zel (zgc (tbl:=[("NoExchange", true),("NoRow", true)]) rfl Ac (pv 3) (zha (v:=.ty "ValueError") rfl Cr PyProof.Rows.Boot.«ValueError» rfl) rfl (fun _ h=>h) (zbh Ae Ai Ba (zbh Ad Ag A9 zfq))))) (zk (zy zeb)) zby)
 (zf (zu (i:=1) nd rfl (Or.inl rfl) (zec (za (zgc (tbl:=[("NoExchange", true),("NoRow", false)]) rfl Ac (pv 3) (zdc (v:=.ref _) rfl (xcr XX G Ae) rfl) rfl (fun _ h=>h) (zbh Ae Ai Bk (zbh Ad Ag Bj zfq))) (za (zgc (tbl:=[("NoExchange", false),("NoRow", true)]) rfl Ac (pv 3) (zdc (v:=.ref _) rfl (xcr XX G Ad) rfl) rfl (fun _ h=>h) (zbh Ae Ai Bi (zbh Ad Ag Bh zfq))) (za (zgc (tbl:=[("NoExchange", false),("NoRow", false)]) rfl Ac (pv 3) (zdc (v:=.ref _) rfl (xcr XX G Be) rfl) rfl (fun _ h=>h) (zbh Ae Ai Bg (zbh Ad Ag Bf zfq))) (za (zgc (tbl:=[("NoExchange", false),("NoRow", false)]) rfl Ac (pv 3) (zdc (v:=.ref _) rfl (xcr XX G Bb) rfl) rfl (fun _ h=>h) (zbh Ae Ai Bd (zbh Ad Ag Bc zfq))) zc))))))
 (zf (zu (i:=2) nd rfl (Or.inl rfl) (zec (za (zgc (tbl:=[("NoExchange", false),("NoRow", false)]) rfl Ac (pv 3) (zdc (v:=.ref _) rfl (xcr XX G Bw) rfl) rfl (fun _ h=>h) (zbh Ae Ai By (zbh Ad Ag Bx zfq))) (za (zgc (tbl:=[("NoExchange", false),("NoRow", false)]) rfl Ac (pv 3) (zdc (v:=.ref _) rfl (xcr XX G Bt) rfl) rfl (fun _ h=>h) (zbh Ae Ai Bv (zbh Ad Ag Bu zfq))) (za (zgc (tbl:=[("NoExchange", false),("NoRow", false)]) rfl Ac (pv 3) (zdc (v:=.ref _) rfl (xcr XX G Bq) rfl) rfl (fun _ h=>h) (zbh Ae Ai Bs (zbh Ad Ag Br zfq))) (za (zgc (tbl:=[("NoExchange", false),("NoRow", false)]) rfl Ac (pv 3) (zdc (v:=.ref _) rfl (xcr XX G Bl) rfl) rfl (fun _ h=>h) (zbh Ae Ai Bp (zbh Ad Ag Bo zfq))) zc))))))
 (zf (zu (i:=2) nd rfl (Or.inl rfl) (zbf zt zbg (zb (pv 2)) (zec (za (zgc (tbl:=[("NoExchange", false),("NoRow", false)]) rfl Ac (pv 3) (zdc (v:=.ref _) rfl (xcr XX G B6) rfl) rfl (fun _ h=>h) (zbh Ae Ai B8 (zbh Ad Ag B7 zfq))) (za (zgc (tbl:=[("NoExchange", false),("NoRow", false)]) rfl Ac (pv 3) (zdc (v:=.ref _) rfl (xcr XX G B3) rfl) rfl (fun _ h=>h) (zbh Ae Ai B5 (zbh Ad Ag B4 zfq))) (za (zgc (tbl:=[("NoExchange", false),("NoRow", false)]) rfl Ac (pv 3) (zdc (v:=.ref _) rfl (xcr XX G Bz) rfl) rfl (fun _ h=>h) (zbh Ae Ai B2 (zbh Ad Ag B1 zfq))) zc))))))
 (zf (zu (i:=2) nd rfl (Or.inl rfl) (zbf zt zbg (zb (pv 2)) (zec (za (zgc (tbl:=[("NoExchange", false),("NoRow", false)]) rfl Ac (pv 3) (zdc (v:=.ref _) rfl (xcr XX G n_Full) rfl) rfl (fun _ h=>h) (zbh Ae Ai Cd (zbh Ad Ag Cc zfq))) (za (zgc (tbl:=[("NoExchange", false),("NoRow", false)]) rfl Ac (pv 3) (zdc (v:=.ref _) rfl (xcr XX G B9) rfl) rfl (fun _ h=>h) (zbh Ae Ai Cb (zbh Ad Ag Ca zfq))) zc)))))
 (zf (zdg (JW.pt (zti (zel (zx zxc zbbl rfl z_any zbge (za (zb (pv 2)) zc))) (zml (zcd (zvk hr.units) zvn (zwt (zb (pv 1)) (za zmx zc)) zg (nomark _)) (by first | exact Or.inl rfl | exact Or.inr rfl)))) (zk (zy zeb)) zby)
 (zk (zy (zhq (zec (za zeb (za zeb (za zeb (za zeb zc))))) (zwr (zb (pv 1)) (za zmx zc)) (fun _ _=>rfl))))))))))))
 (zk (zy zeb)))
theorem zid:FnScope ["_law_m", "_law_k", "_law_found", "_law_i"] ["_law_m", "_law_k"] (defScope zgn):=⟨rfl, rfl, rfl, by decide +kernel, rfl, by decide +kernel, by decide +kernel⟩
theorem znn (T:TopF K "_law_ways" zgn)(XX:K.In h)(G:h.Ns mainGlobals mg)(Ah:mg "range"=none):CalD P w K mg base "_law_ways" 1 ["_law_m", "_law_k"] zcw :=
 have nd:=zid.nd
 zbd (k:=0) T XX G zid (fun _ _ _ _ _ _ us hl=>len2 us hl fun _ _=>rfl) fun f cdv A outer s H E hr=>(zf (zu (i:=2) nd rfl (Or.inl rfl) zg)
 (zf (zff xek rfl (zcg rfl Ah (za (zb (pv 1)) zc)) (zbj (i:=3) nd rfl (Or.inl rfl))
 (zk (zu (i:=2) nd rfl (Or.inl rfl) (zbf zgt (oI_D fun _ _ _ _=>.int _) (zbf zhg (oI_D fun _ _ _ _=>.int _) (zb (pv 2)) (zbf zds (zhc fun _ _ _ _=>.int _) (zb (pv 0)) (zb (pv 3)))) (zbf zt zbg (zb (pv 3)) zg)))))
 (zk (zy (zb (pv 2))))))
theorem zig:FnScope ["_law_a", "_law_b", "_law_found", "_law_c"] ["_law_a", "_law_b"] (defScope zgq):=⟨rfl, rfl, rfl, by decide +kernel, rfl, by decide +kernel, by decide +kernel⟩
theorem znq (T:TopF K "_law_pair" zgq)(XX:K.In h)(G:h.Ns mainGlobals mg)(Ah:mg "range"=none)(Ak:mg "tuple"=none)(Am:mg "sorted"=none)(c__law_ways:CalD P w K mg base "_law_ways" 1 ["_law_m", "_law_k"] zcw):CalD P w K mg base "_law_pair" 2 ["_law_a", "_law_b"] zdj :=
 have nd:=zig.nd
 zbd (k:=1) T XX G zig (fun _ _ _ _ _ _ us hl=>len2 us hl fun _ _=>rfl) fun f cdv A outer s H E hr=>(zf (zu (i:=2) nd rfl (Or.inl rfl) (zps zc))
 (zf (zff xek rfl (zcg rfl Ah (za (zbf zt zbg (zbf zgt (oI_D fun _ _ _ _=>.int _) (zb (pv 0)) zg) zg) zc)) (zbj (i:=3) nd rfl (Or.inl rfl))
 (zk (zdg (zcd (zsm hr.units) zvn (zbf znj (oI_D fun _ _ _ _=>.int _) (zp c__law_ways (fun _ _ _ _ h=>zo h) (hr.mono (by decide)) rfl (za (zbf zds (zhc fun _ _ _ _=>.int _) (zbf zds (zhc fun _ _ _ _=>.int _) (zb (pv 1)) (zb (pv 3))) zg) (za (zbf zds (zhc fun _ _ _ _=>.int _) (zb (pv 0)) (zbf zhg (oI_D fun _ _ _ _=>.int _) zg (zb (pv 3)))) zc))) zg) zg (nomark _)) (zk (zgv (zll (zb (pv 2)) (za (zch zcp zjc rfl Ak zem (za (zhe rfl (zgb (zec (za (zbf zds (zhc fun _ _ _ _=>.int _) (zbf zt zbg (zb (pv 0)) (zb (pv 1))) (zb (pv 3))) (za (zb (pv 3)) zc)))) (fun _ _ _ _ _=>(zbj (i:=0) (show(["_law_part"]:List Str).Nodup from by decide +kernel) rfl (Or.inl rfl))) (fun _ _ _ _ _=>(zoa (zcd zbdr (zhc fun _ _ _ _=>.bl _) (zb (pv 0)) zg (nomark _)))) (fun _ _ _ _ _=>(zb (pv 0))) (N:=["_law_part"]) (k:=1) (is:=[]) (zfg (by rfl))) zc)) zc)))) zby)))
 (zk (zy (zch zcp zjc rfl Ak zem (za (zx (zdv rfl hr.units) zhs rfl Am zhr (za (zb (pv 2)) zc)) zc))))))
theorem zdz:FnScope ["_law_rows_here", "_law_row_here", "_law_place", "_law_more"] ["_law_rows_here", "_law_row_here", "_law_place"] (defScope zcv):=⟨rfl, rfl, rfl, by decide +kernel, rfl, by decide +kernel, by decide +kernel⟩
theorem zhi (T:TopF K "_law_exchanged" zcv)(XX:K.In h)(G:h.Ns mainGlobals mg)(A2:mg "list"=none)(c__law_pair:CalD P w K mg base "_law_pair" 2 ["_law_a", "_law_b"] zdj)(A3:CalD P w K mg base "_law_odd" 1 ["_law_things"] zbp):CalD P w K mg base "_law_exchanged" 3 ["_law_rows_here", "_law_row_here", "_law_place"] zca :=
  have nd:=zdz.nd
  zbd (k:=2) T XX G zdz (fun _ _ _ _ _ _ us hl=>len3 us hl fun _ _ _=>rfl) fun f cdv A outer s H E hr=>(zf (zbat (i:=3) rfl nd rfl (Or.inl rfl) (zgb (zp c__law_pair (fun _ _ _ _ h=>zo h) (hr.mono (by decide)) rfl (za (zhq (zb (pv 1)) (zb (pv 2)) (fun _ _=>rfl)) (za (zhq (zb (pv 1)) (zbf zt zbg (zb (pv 2)) zg) (fun _ _=>rfl)) zc)))) (fun _ _ _ _ _=>(zbj (i:=0) (show(["_law_two", "_law_row_here", "_law_place"]:List Str).Nodup from by decide +kernel) rfl (Or.inl rfl))) (fun _ _ _ _ _=>zgy) (fun _ _ _ _ _=>(zbf zt zbg (zbf zt zbg (zbbw (zb (pv 1)) zgx (zgw (zb (pv 2)))) (zb (pv 0))) (zbbw (zb (pv 1)) (zgw (zbf zt zbg (zb (pv 2)) zg)) zgx))) (N:=["_law_two", "_law_row_here", "_law_place"]) (k:=1) (is:=[1, 2]) (zfg (by rfl)))
  (zk (zy (zp A3 (fun _ _ _ _ h=>zo h) (hr.mono (by decide)) rfl (za (zbf zt zbg (zbf zt zbg (zch zfn zuc rfl A2 zty (za (zb (pv 0)) zc)) (zec (za (zb (pv 1)) zc))) (zb (pv 3))) zc)))))
theorem zif:FnScope ["_law_bag_here", "_law_many", "_law_most", "_law_long"] ["_law_bag_here", "_law_many", "_law_most", "_law_long"] (defScope zgp):=⟨rfl, rfl, rfl, by decide +kernel, rfl, by decide +kernel, by decide +kernel⟩
theorem znp (T:TopF K "_law_rows" zgp)(XX:K.In h)(G:h.Ns mainGlobals mg)(Ah:mg "range"=none)(A3:CalD P w K mg base "_law_odd" 1 ["_law_things"] zbp)(Af:CalD P w K mg base "_law_take" 1 ["_law_bag_here", "_law_many"] zl)(An:CalD P w K mg base "_law_row" 2 ["_law_bag_here", "_law_most", "_law_long"] zbv):CalD P w K mg base "_law_rows" 3 ["_law_bag_here", "_law_many", "_law_most", "_law_long"] zep :=
 have nd:=zif.nd
 zbd (k:=2) T XX G zif (fun _ _ _ _ _ _ us hl=>len4 us hl fun _ _ _ _=>rfl) fun f cdv A outer s H E hr=>(zk (zy (zp A3 (fun _ _ _ _ h=>zo h) (hr.mono (by decide)) rfl (za (zhe rfl (zcg rfl Ah (za (zp Af (fun _ _ _ _ h=>zo h) (hr.mono (by decide)) rfl (za (zb (pv 0)) (za (zbf zt zbg (zb (pv 1)) zg) zc))) zc)) (fun _ _ _ _ _=>(zbj (i:=0) (show(["_law_k", "_law_bag_here", "_law_most", "_law_long"]:List Str).Nodup from by decide +kernel) rfl (Or.inl rfl))) (fun _ _ _ _ _=>zgy) (fun _ _ _ _ _=>(zp An (fun _ _ _ _ h=>zo h) (hr.mono (by decide)) rfl (za (zb (pv 1)) (za (zb (pv 2)) (za (zb (pv 3)) zc))))) (N:=["_law_k", "_law_bag_here", "_law_most", "_law_long"]) (k:=1) (is:=[0, 2, 3]) (zfg (by rfl))) zc))))
theorem zee:FnScope ["_law_bag_here", "_law_most", "_law_b", "_law_a", "_law_ahead"] ["_law_bag_here", "_law_most"] (defScope zcz):=⟨rfl, rfl, rfl, by decide +kernel, rfl, by decide +kernel, by decide +kernel⟩
theorem zir (T:TopF K "_law_open_row" zcz)(XX:K.In h)(G:h.Ns mainGlobals mg)(Al:mg "min"=none)(z_sum:mg "sum"=none)(Af:CalD P w K mg base "_law_take" 1 ["_law_bag_here", "_law_many"] zl)(An:CalD P w K mg base "_law_row" 2 ["_law_bag_here", "_law_most", "_law_long"] zbv):CalD P w K mg base "_law_open_row" 3 ["_law_bag_here", "_law_most"] zci :=
 have nd:=zee.nd
 zbd (k:=2) T XX G zee (fun _ _ _ _ _ _ us hl=>len2 us hl fun _ _=>rfl) fun f cdv A outer s H E hr=>(zf (zu (i:=2) nd rfl (Or.inl rfl) (zbf zt zbg zg (zp Af (fun _ _ _ _ h=>zo h) (hr.mono (by decide)) rfl (za (zb (pv 0)) (za (zbf zgt (oI_D fun _ _ _ _=>.int _) (zb (pv 1)) zg) zc)))))
 (zf (zu (i:=3) nd rfl (Or.inl rfl) (zbf zt zbg zg (zp Af (fun _ _ _ _ h=>zo h) (hr.mono (by decide)) rfl (za (zb (pv 0)) (za (zx (zge rfl) zbbx rfl Al ztx (za (zbf zds (zhc fun _ _ _ _=>.int _) (zbf zhg (oI_D fun _ _ _ _=>.int _) zg (zb (pv 2))) zg) (za (zbf zds (zhc fun _ _ _ _=>.int _) (zb (pv 1)) (zb (pv 2))) zc))) zc)))))
 (zf (zu (i:=4) nd rfl (Or.inl rfl) (zp An (fun _ _ _ _ h=>zo h) (hr.mono (by decide)) rfl (za (zb (pv 0)) (za (zbf zds (zhc fun _ _ _ _=>.int _) (zbf zds (zhc fun _ _ _ _=>.int _) (zb (pv 1)) (zb (pv 3))) (zb (pv 2))) (za zg zc)))))
 (zk (zy (zbf zt zbg (zbf zt zbg (zb (pv 4)) (zdh (za (zb (pv 3)) (za (zb (pv 2)) zc)))) (zp An (fun _ _ _ _ h=>zo h) (hr.mono (by decide)) rfl (za (zb (pv 0)) (za (zbf zds (zhc fun _ _ _ _=>.int _) (zbf zds (zhc fun _ _ _ _=>.int _) (zbf zds (zhc fun _ _ _ _=>.int _) (zb (pv 1)) (zb (pv 3))) (zb (pv 2))) (zx (zwy rfl) zbkt rfl z_sum zbkm (za (zb (pv 4)) zc))) (za zg zc))))))))))
theorem zbcp:FnScope ["_law_script", "_law_k", "_law_bag_here", "_law_rows_here", "_law_row_here", "_law_place", "_law_due_here", "_law_again", "_law_at_here"] ["_law_script"] (defScope zbbr):=⟨rfl, rfl, rfl, by decide +kernel, rfl, by decide +kernel, by decide +kernel⟩
theorem zbin {f c T:Addr}{fd:FuncData}(F:Fun K "law" "law" zbbr f fd)(hfc:fd.code=.ref c)(CT:W.CodeHd base c T)(ht:W.tabIn K "law"=some (c, T))(Bm:BmOk mg base)(Aj:mg "len"=none)(Al:mg "min"=none)(Ah:mg "range"=none)(A2:mg "list"=none)(c__law_bag:CalD P w K mg base "_law_bag" 1 ["_law_script", "_law_at_here"] zez)(A3:CalD P w K mg base "_law_odd" 1 ["_law_things"] zbp)(c__law_rows:CalD P w K mg base "_law_rows" 3 ["_law_bag_here", "_law_many", "_law_most", "_law_long"] zep)(Cs:CalD P w K mg base "_law_open_row" 3 ["_law_bag_here", "_law_most"] zci)(Ct:CalD P w K mg base "_law_row_asked" 3 ["_law_bag_here", "_law_rows_here"] zbz)(Cu:CalD P w K mg base "_law_place_asked" 2 ["_law_bag_here", "_law_row_here"] zbm)(c__law_due:CalD P w K mg base "_law_due" 2 ["_law_rows_here", "_law_row_here", "_law_place"] zer)(Cv:CalT P w K mg base "_law_refused" 5 zbw)(A5:CalX P w K mg base "exchanged" 5 ["rows", "row", "place"] zbq)(c__law_at:CalD P w K mg base "_law_at" 6 ["_law_rows_here", "_law_row_here", "_law_place"] zgg)(A4:CalD P w K mg base "_law_is_whole" 1 ["_law_thing"] zq)(Cw:CalD P w K mg base "_law_exchanged" 3 ["_law_rows_here", "_law_row_here", "_law_place"] zca):FnOk P w K mg base CX0 8 f fd ["_law_script"] (spLawT K T) :=
 have nd:=zbcp.nd
 zbee (k:=7) F zbcp rfl (fun cdv A outer s H E hcd hr=>(zf (zff xek rfl (zcg rfl Ah (za (zbf zt zbg (zx (zge rfl) zbbx rfl Al ztx (za (zx zbk zlo rfl Aj zln (za (zb (pv 0)) zc)) (za zg zc))) zg) zc)) (zbj (i:=1) nd rfl (Or.inl rfl))
 (zf (zu (i:=2) nd rfl (Or.inl rfl) (zp c__law_bag (fun _ _ _ _ h=>zo h) (hr.mono (by decide)) rfl (za (zb (pv 0)) (za (zb (pv 1)) zc))))
 (zf (zu (i:=3) nd rfl (Or.inr rfl) (zp A3 (fun _ _ _ _ h=>zo h) (hr.mono (by decide)) rfl (za (zbf zt zbg (zch zfn zuc rfl A2 zty (za (zp c__law_rows (fun _ _ _ _ h=>zo h) (hr.mono (by decide)) rfl (za (zb (pv 2)) (za zg (za zg (za zg zc))))) zc)) (zec (za (zp Cs (fun _ _ _ _ h=>zo h) (hr.mono (by decide)) rfl (za (zb (pv 2)) (za zg zc))) zc))) zc)))
 (zf (zu (i:=4) nd rfl (Or.inr rfl) (zp Ct (fun _ _ _ _ h=>zo h) (hr.mono (by decide)) rfl (za (zb (pv 2)) (za (zb (pv 3)) zc))))
 (zf (zu (i:=5) nd rfl (Or.inr rfl) (zp Cu (fun _ _ _ _ h=>zo h) (hr.mono (by decide)) rfl (za (zb (pv 2)) (za (zb (pv 4)) zc))))
 (zf (zu (i:=6) nd rfl (Or.inl rfl) (zp c__law_due (fun _ _ _ _ h=>zo h) (hr.mono (by decide)) rfl (za (zb (pv 3)) (za (zb (pv 4)) (za (zb (pv 5)) zc)))))
 (zf (zff xek rfl (zcg rfl Ah (za zg zc)) (zbj (i:=7) nd rfl (Or.inl rfl))
 (zk (zdg (zcd (zvk hr.units) zvn (zbka Cv CT ht Bm (hcd.symm.trans hfc) rfl rfl (hr.mono (by decide)) rfl (zfg (N:=["_law_rows_here", "_law_row_here", "_law_place"]) (k:=0) (is:=[3, 4, 5]) (by rfl)) ⟨rfl, rfl, rfl, by decide +kernel⟩ (fun _ _ _ _=>rfl) (fun f cd cl A outer s H E hr=>(zth A5 zyl (fun _ _ h=>zlf _ _ h) (hr.mono (by decide)) rfl (za (zb (pv 0)) (za (zb (pv 1)) (za (zb (pv 2)) zc)))))) (zb (pv 6)) (nomark _)) (zk (zy zmx)) zby)))
 (zf (zdg (zcd (zsm hr.units) zvn (zb (pv 6)) zeb (nomark _)) (zf (zu (i:=8) nd rfl (Or.inl rfl) (zp c__law_at (fun _ _ _ _ h=>zo h) (hr.mono (by decide)) rfl (za (zb (pv 3)) (za (zb (pv 4)) (za (zb (pv 5)) zc)))))
 (zk (zdg (JW.pt (zti (zja (zel (zp A4 (fun _ _ _ _ h=>zo h) (hr.mono (by decide)) rfl (za (zb (pv 8)) zc)))) (zml (zcd (zvk hr.units) zvn (zb (pv 8)) zg (nomark _)) (by first | exact Or.inl rfl | exact Or.inr rfl)))) (zk (zy zmx)) zby))) zby)
 (zk (zdg (zcd (zsm hr.units) zvn (zb (pv 6)) zeb (nomark _)) (zk (zdg (zcd (zvk hr.units) zvn (zbba A5 (fun _ _ _ _ h=>zo h) (hr.mono (by decide)) rfl (za (zb (pv 3)) (za (zb (pv 4)) (za (zb (pv 5)) zc)))) (zp Cw (fun _ _ _ _ h=>zo h) (hr.mono (by decide)) rfl (za (zb (pv 3)) (za (zb (pv 4)) (za (zb (pv 5)) zc)))) (nomark _)) (zk (zy zmx)) zby)) zby))))))))))
 (zk (zy zmx)))) K26.holds
end
theorem all_mk {l:W.OpenLaw}{w:World}{K:Fg}{h:Heap}{mg:Str->Option Value}{fa c T:Addr}{ts:List Addr}{Ao:Addr}{Ap:Addr}{Ab:Addr}{Aq:Addr}{Ar:Addr}{As:Addr}{Au:Addr}{Av:Addr}{Aw:Addr}{Aa:Addr}{Ax:Addr}{Ay:Addr}{Az:Addr}{A0:Addr}(X:K.In h)(G:h.Ns mainGlobals mg)(hfa:mg "law"=some (.ref fa))(lt:LawTab K ts c T)
  (t1:TopF K "_law_bag" zio)(t2:TopF K "_law_odd" zim)(t3:TopF K "_law_take" zgo)(t4:TopF K "_law_row" zil)(t5:TopF K "_law_bent" zgr)(t6:TopF K "_law_row_asked" zcu)(t7:TopF K "_law_place_asked" zcl)(t8:TopF K "_law_is_whole" zda)(t9:TopF K "_law_places" zeh)(t10:TopF K "_law_due" zin)(t11:TopF K "rows_kept" zgl)(t12:TopF K "flip" zyu)(t13:TopF K "odd_ways" zii)(t14:TopF K "rows_for_two" zdm)(t15:TopF K "rows_for_row" zdn)(t16:TopF K "is_whole" zij)(t17:TopF K "stands_in" zgk)(t18:TopF K "falls_slowly" zdo)(t19:TopF K "is_place" zik)(t20:TopF K "exchange_in" zeg)(t21:TopF K "exchanged" zgm)(t22:TopF K "_law_at" zkt)(t23:TopF K "_law_refused" zdp)(t24:TopF K "_law_ways" zgn)(t25:TopF K "_law_pair" zgq)(t26:TopF K "_law_exchanged" zcv)(t27:TopF K "_law_rows" zgp)(t28:TopF K "_law_open_row" zcz)(t29:TopF K "law" zbbr)  (z0:W.nsIn K mainGlobals "len"=some none)(z1:W.nsIn K mainGlobals "abs"=some none)(z2:W.nsIn K mainGlobals "min"=some none)(z3:W.nsIn K mainGlobals "range"=some none)(z4:W.nsIn K mainGlobals "sorted"=some none)(z5:W.nsIn K mainGlobals "tuple"=some none)(z6:W.nsIn K mainGlobals "max"=some none)(z7:W.nsIn K mainGlobals "str"=some none)(z8:W.nsIn K mainGlobals "list"=some none)(z9:W.nsIn K mainGlobals "isinstance"=some none)(z10:W.nsIn K mainGlobals "bool"=some none)(z11:W.nsIn K mainGlobals "int"=some none)(z12:W.nsIn K mainGlobals "any"=some none)(z13:W.nsIn K mainGlobals "all"=some none)(z14:W.nsIn K mainGlobals "ValueError"=some none)(z15:W.nsIn K mainGlobals "sum"=some none)  (n_Full:W.nsIn K mainGlobals "Full"=some (some (.ref Ao)))(B9:W.nsIn K mainGlobals "NoDeed"=some (some (.ref Ap)))(Ae:W.nsIn K mainGlobals "NoExchange"=some (some (.ref Ab)))(B6:W.nsIn K mainGlobals "NoLetters"=some (some (.ref Aq)))(B3:W.nsIn K mainGlobals "NoLine"=some (some (.ref Ar)))(Bz:W.nsIn K mainGlobals "NoName"=some (some (.ref As)))(Bq:W.nsIn K mainGlobals "NoPaper"=some (some (.ref Au)))(Bb:W.nsIn K mainGlobals "NoPart"=some (some (.ref Av)))(Bw:W.nsIn K mainGlobals "NoProduct"=some (some (.ref Aw)))(Ad:W.nsIn K mainGlobals "NoRow"=some (some (.ref Aa)))(Bl:W.nsIn K mainGlobals "NoText"=some (some (.ref Ax)))(Ce:W.nsIn K mainGlobals "RaisedError"=some (some (.ref Ay)))(Be:W.nsIn K mainGlobals "TooMany"=some (some (.ref Az)))(Bt:W.nsIn K mainGlobals "Unlike"=some (some (.ref A0)))(A7:W.excIn K Ab bmV "ValueError.__new__"=true)(Ai:ErrLook K Ab)(Ag:ErrLook K Aa)(E_NoRow:ErrInit K "NoRow" Aa)(Cg:W.exmOne K (.ref Ab) (.ref Ay)=some true)(A8:W.exmOne K (.ref Aa) (.ref Aa)=some true)(Cf:W.exmOne K (.ref Aa) (.ref Ay)=some true)(Cd:W.kitOne K (.ref Ab) (.ref Ao)=some false)(Cb:W.kitOne K (.ref Ab) (.ref Ap)=some false)(Bk:W.kitOne K (.ref Ab) (.ref Ab)=some true)(B8:W.kitOne K (.ref Ab) (.ref Aq)=some false)(B5:W.kitOne K (.ref Ab) (.ref Ar)=some false)(B2:W.kitOne K (.ref Ab) (.ref As)=some false)(Bs:W.kitOne K (.ref Ab) (.ref Au)=some false)(Bd:W.kitOne K (.ref Ab) (.ref Av)=some false)(By:W.kitOne K (.ref Ab) (.ref Aw)=some false)(Bi:W.kitOne K (.ref Ab) (.ref Aa)=some false)(Bp:W.kitOne K (.ref Ab) (.ref Ax)=some false)(Bg:W.kitOne K (.ref Ab) (.ref Az)=some false)(Bv:W.kitOne K (.ref Ab) (.ref A0)=some false)(Ba:W.kitOne K (.ref Ab) (.type "ValueError")=some true)(Cc:W.kitOne K (.ref Aa) (.ref Ao)=some false)(Ca:W.kitOne K (.ref Aa) (.ref Ap)=some false)(Bj:W.kitOne K (.ref Aa) (.ref Ab)=some false)(B7:W.kitOne K (.ref Aa) (.ref Aq)=some false)(B4:W.kitOne K (.ref Aa) (.ref Ar)=some false)(B1:W.kitOne K (.ref Aa) (.ref As)=some false)(Br:W.kitOne K (.ref Aa) (.ref Au)=some false)(Bc:W.kitOne K (.ref Aa) (.ref Av)=some false)(Bx:W.kitOne K (.ref Aa) (.ref Aw)=some false)(Bh:W.kitOne K (.ref Aa) (.ref Aa)=some true)(Bo:W.kitOne K (.ref Aa) (.ref Ax)=some false)(Bf:W.kitOne K (.ref Aa) (.ref Az)=some false)(Bu:W.kitOne K (.ref Aa) (.ref A0)=some false)(A9:W.kitOne K (.ref Aa) (.type "ValueError")=some true) :
  ∃(c T:Addr) (fd:FuncData), LawTab K ts c T/\(∀(s:Shared) (v:Value), BindsTo s fd ⟨[v],[]⟩ [("_law_script", v)])/\∀ base:Heap, K.In base->base.Ns mainGlobals mg->W.CodeHd base c T->BmOk mg base->FnOk l.prog w K mg base CX0 8 fa fd ["_law_script"] (spLawT K T):=by
 have x0:=xco X G z0;have x1:=xco X G z1;have x2:=xco X G z2;have x3:=xco X G z3;have x4:=xco X G z4;have x5:=xco X G z5;have x6:=xco X G z6;have x7:=xco X G z7;have x8:=xco X G z8;have x9:=xco X G z9;have x10:=xco X G z10;have x11:=xco X G z11;have x12:=xco X G z12;have x13:=xco X G z13;have x14:=xco X G z14;have x15:=xco X G z15;obtain⟨f,fd,a,F⟩:=t29;have e:=hfa.symm.trans (xcr X G a);cases e;obtain⟨oc,od,kV,doc,pm,an,cdv,ct,osl,rfl,lk,hcd⟩:=id F.ex;refine⟨c, T, W.fnOf "law" "law" (defArgs zbbr) (defBody zbbr) (defScope zbbr) .none kV doc pm an cdv ct, lt, fun s v=>.of_eq rfl, fun base _ _ CT Bm=>?_⟩
 have k__law_bag:CalD l.prog w K mg base _ _ _ _:=zqv t1 X G x0 x1 x2 x3
 have Ch:CalD l.prog w K mg base _ _ _ _:=zqt t2 X G x4 x5
 have A1:CalD l.prog w K mg base _ _ _ _:=zno t3 X G 
 have Ci:CalD l.prog w K mg base _ _ _ _:=zqs t4 X G x3 x2 x5 A1
 have k__law_bent:CalD l.prog w K mg base _ _ _ _:=znr t5 X G x0 x6 x7 A1
 have Cy:CalD l.prog w K mg base _ _ _ _:=zhh t6 X G x0 x8 x7 A1 Ci k__law_bent
 have Cz:CalD l.prog w K mg base _ _ _ _:=zfw t7 X G x5 x9 x0 A1
 have Cj:CalD l.prog w K mg base _ _ _ _:=zis t8 X G x10 x9 x11
 have C1:CalD l.prog w K mg base _ _ _ _:=zky t9 X G x0 x3
 have k__law_due:CalD l.prog w K mg base _ _ _ _:=zqu t10 X G x12 x5 x9 x11 Cj C1
 have k_rows_kept:CalD l.prog w K mg base _ _ _ _:=znl t11 X G 
 have k_flip:CalD l.prog w K mg base _ _ _ _:=zbdu t12 X G 
 have k_odd_ways:CalD l.prog w K mg base _ _ _ _:=zqp t13 X G 
 have C3:CalD l.prog w K mg base _ _ _ _:=zjj t14 X G x3 x4 k_odd_ways
 have C4:CalD l.prog w K mg base _ _ _ _:=zjk t15 X G C3
 have Ck:CalD l.prog w K mg base _ _ _ _:=zqq t16 X G x10 x9 x11
 have k_stands_in:CalD l.prog w K mg base _ _ _ _:=znk t17 X G x13 x5 x9 Ck
 have C5:CalD l.prog w K mg base _ _ _ _:=zjl t18 X G 
 have k_is_place:CalD l.prog w K mg base _ _ _ _:=zqr t19 X G x0 Ck C5
 have C6:CalX l.prog w K mg base "exchange_in" 4 ["kept", "row", "place"] zw:=zkx t20 X G Ad E_NoRow Ae A7 k_stands_in k_is_place k_flip C4
 have Cl:CalX l.prog w K mg base "exchanged" 5 ["rows", "row", "place"] zbq:=znm t21 X G x4 x5 k_rows_kept C6
 have k__law_at:CalD l.prog w K mg base _ _ _ _:=zso t22 X G Ad E_NoRow Ag A8 Cl
 have C7:CalT l.prog w K mg base "_law_refused" 5 zbw:=zjm t23 X G x14 x9 x12 Ad Ag A9 Ae Ai Ba Bb Bc Bd Be Bf Bg Bh Bi Bj Bk Bl Bo Bp Bq Br Bs Bt Bu Bv Bw Bx By Bz B1 B2 B3 B4 B5 B6 B7 B8 B9 Ca Cb n_Full Cc Cd Ce Cf Cg
 have k__law_ways:CalD l.prog w K mg base _ _ _ _:=znn t24 X G x3
 have k__law_pair:CalD l.prog w K mg base _ _ _ _:=znq t25 X G x3 x5 x4 k__law_ways
 have C8:CalD l.prog w K mg base _ _ _ _:=zhi t26 X G x8 k__law_pair Ch
 have k__law_rows:CalD l.prog w K mg base _ _ _ _:=znp t27 X G x3 Ch A1 Ci
 have C9:CalD l.prog w K mg base _ _ _ _:=zir t28 X G x2 x15 A1 Ci
 exact zbin F (W.law_code X G lt.tin hfa (X _ _ lk) rfl) CT lt.tin Bm x0 x2 x3 x8 k__law_bag Ch k__law_rows C9 Cy Cz k__law_due C7 Cl k__law_at Cj C8
end K26
open PySem PySem.W PyProof.Rows
set_option maxRecDepth 100000 in
set_option maxHeartbeats 0 in
theorem PySem.Challenge.cw_raisedsums_k26_exchanges_refused_holds : PySem.Challenge.rw_raisedsums_k26_exchanges_refused.Holds := by
  w_on; o_law; k_head; (case hw => w_witness2)
  k_fill
  refine L2.zyo (l := PySem.Challenge.rw_raisedsums_k26_exchanges_refused) (n := 63) (k := 8) (x := "_law_script") (sp := Dd.spLawT) rfl (by decide) rfl ⟨rfl, by decide, by decide⟩ (fun w h Y => PySem.W.km_in_of Y) (fun w h Y => PySem.W.km_tabs_of Y) ?F (fun _ c _ _ a ns ht hl hT hS => ⟨a, ns, rfl, hS, hl, hT, ⟨c, ht⟩, fun _ => rfl⟩)
  case F =>
    intro w mg fa h KX G hmg
    refine' K26.all_mk KX G hmg ?lt ?t1 ?t2 ?t3 ?t4 ?t5 ?t6 ?t7 ?t8 ?t9 ?t10 ?t11 ?t12 ?t13 ?t14 ?t15 ?t16 ?t17 ?t18 ?t19 ?t20 ?t21 ?t22 ?t23 ?t24 ?t25 ?t26 ?t27 ?t28 ?t29  ?z0 ?z1 ?z2 ?z3 ?z4 ?z5 ?z6 ?z7 ?z8 ?z9 ?z10 ?z11 ?z12 ?z13 ?z14 ?z15  ?n_Full ?n_NoDeed ?n_NoExchange ?n_NoLetters ?n_NoLine ?n_NoName ?n_NoPaper ?n_NoPart ?n_NoProduct ?n_NoRow ?n_NoText ?n_RaisedError ?n_TooMany ?n_Unlike ?q_NoExchange ?l_NoExchange ?l_NoRow ?E_NoRow ?e_NoExchange_RaisedError ?e_NoRow_NoRow ?e_NoRow_RaisedError ?i_NoExchange_Full ?i_NoExchange_NoDeed ?i_NoExchange_NoExchange ?i_NoExchange_NoLetters ?i_NoExchange_NoLine ?i_NoExchange_NoName ?i_NoExchange_NoPaper ?i_NoExchange_NoPart ?i_NoExchange_NoProduct ?i_NoExchange_NoRow ?i_NoExchange_NoText ?i_NoExchange_TooMany ?i_NoExchange_Unlike ?i_NoExchange_ValueError ?i_NoRow_Full ?i_NoRow_NoDeed ?i_NoRow_NoExchange ?i_NoRow_NoLetters ?i_NoRow_NoLine ?i_NoRow_NoName ?i_NoRow_NoPaper ?i_NoRow_NoPart ?i_NoRow_NoProduct ?i_NoRow_NoRow ?i_NoRow_NoText ?i_NoRow_TooMany ?i_NoRow_Unlike ?i_NoRow_ValueError
    (case lt => refine' (L2.zvy ?lta ?ltl ?ltc ?ltk ?ltv ?ltd ?ltm ?lto).1; (case lta => k_is); (case ltl => k_is); (case ltc => exact rfl); (case ltk => k_is); (case ltv => exact rfl); (case ltd => kernel_rfl); (case ltm => first | k_mem | decide); (case lto => kernel_rfl))
    all_goals first|k_is|kernel_rfl|(refine' L2.zce ?a ?l ?c ?k;(case a=>k_is);(case l=>k_is);(case c=>k_is);(case k=>k_is))|(apply L2.ErrLook.mk<;>first|k_is|kernel_rfl)|skip
    (case E_NoRow => refine' Dd.ztf K26.ib_NoRow ?ea ?eb ?ec ?ed ?ef ?eg ?eh ?ei ?ej ?ek ?el ?em ?en ?eo ?ep ?eq; (case ea => k_is); (case eb => k_is); (case ec => k_is); (case ed => kernel_rfl); (case ef => k_is); (case eg => kernel_rfl); (case eh => kernel_rfl); (case ei => k_is); (case ej => k_is); (case ek => k_is); (case el => kernel_rfl); (case em => kernel_rfl); (case en => k_is); (case eo => kernel_rfl); (case ep => kernel_rfl); (case eq => kernel_rfl))
#print axioms PySem.Challenge.cw_raisedsums_k26_exchanges_refused_holds
