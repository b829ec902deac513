import PyProof.Rows.All
import Wide.All
import OpenK.AllK
import Wide.FinOn
import PyProof.EqAt
import PyProof.EqKinds
import PyProof.TupleCall
import PySem.Challenge.RW_raisedsums_k52_rows_lowered
set_option Elab.async false
set_option linter.all false
set_option maxRecDepth 100000
namespace PySem.W.Fast
theorem tw2916510668624041589:True:=⟨⟩
theorem tw1336802891812284995:True:=⟨⟩
theorem tw15118346990561952536:True:=⟨⟩
theorem tw15787069926478902568:True:=⟨⟩
theorem tw8770477572363274036:True:=⟨⟩
theorem tw8206052258253526490:True:=⟨⟩
theorem tw7496838719273793470:True:=⟨⟩
theorem tw2368803047383021664:True:=⟨⟩
theorem tw3446744585625671076:True:=⟨⟩
theorem tw14764596010329897348:True:=⟨⟩
theorem tw10192423319485312178:True:=⟨⟩
theorem tw17554020229548187468:True:=⟨⟩
theorem tw17399515693458443831:True:=⟨⟩
theorem tw7930426088918569690:True:=⟨⟩
theorem tw7103150597430436771:True:=⟨⟩
theorem tw17590770667370313918:True:=⟨⟩
theorem tw3616881794596023636:True:=⟨⟩
theorem tw15184275776867650841:True:=⟨⟩
theorem tw2793685048937999205:True:=⟨⟩
theorem tw13585090672842938058:True:=⟨⟩
theorem tw15413082825146301673:True:=⟨⟩
theorem tw7017710585858831222:True:=⟨⟩
theorem tw6864694304796464392:True:=⟨⟩
theorem tw6476242718740387714:True:=⟨⟩
theorem tw9505899818469970887:True:=⟨⟩
theorem tw12482794680094400874:True:=⟨⟩
theorem tw1361907546497801301:True:=⟨⟩
theorem tw4281265824816861858:True:=⟨⟩
theorem tw3112437474472988131:True:=⟨⟩
theorem tw9425908664962789854:True:=⟨⟩
theorem tw16571741466008893261:True:=⟨⟩
theorem tw15330745447597410446:True:=⟨⟩
theorem tw3935287062096880935:True:=⟨⟩
theorem tw6961191174553207992:True:=⟨⟩
theorem tw2500262816855699778:True:=⟨⟩
theorem tw7678697361138670058:True:=⟨⟩
theorem tw12856509587906002569:True:=⟨⟩
theorem tw6950954143609187195:True:=⟨⟩
theorem tw7262020819060304532:True:=⟨⟩
theorem tw9374634426878935805:True:=⟨⟩
theorem tw10978716753351538013:True:=⟨⟩
theorem tw14785951615348783666:True:=⟨⟩
theorem tw13258111917744697887:True:=⟨⟩
theorem tw16160623113512303674:True:=⟨⟩
theorem tw2452630071784590583:True:=⟨⟩
end PySem.W.Fast
set_option genSizeOfSpec false
set_option genInjectivity false
abbrev Fg:=PySem.W.Frag
abbrev xba:=@PySem.wpAny_bind
abbrev xbb:=@Nat.le_trans
abbrev xbc:=@PySem.wpAny_pure
abbrev xbd:=@PySem.Heap.get?_push_of_some
abbrev xbe:=@List.length_map
abbrev xbf:=@Nat.le_refl
abbrev xbg:=@List.getElem?_eq_getElem
abbrev xbh:=@Nat.lt_of_lt_of_le
abbrev xbi:=@PyProof.Rows.wpS_bind
abbrev xbj:=@PyProof.Rows.wpS_pure
abbrev xbk:=@List.length_append
abbrev xbl:=@List.mem_cons
abbrev xbm:=@List.getElem?_eq_some_iff
abbrev xbn:=@List.map_cons
abbrev xbo:=@PySem.Heap.lt_size
abbrev xbp:=@List.mem_cons_of_mem
abbrev xbq:=@List.size_toArray
abbrev xbr:=@PySem.Heap.get?_push_size
abbrev xbs:=@Array.getElem?_toList
abbrev xbt:=@List.mem_append
abbrev xbu:=@Bool.false_eq_true
abbrev xbv:=@Nat.le_of_lt
abbrev xbw:=@List.mem_cons_self
abbrev xbx:=@List.mem_of_getElem?
abbrev xby:=@List.length_cons
abbrev xbz:=@Nat.le_add_right
abbrev xca:=@Array.length_toList
abbrev xcb:=@Nat.le_of_not_lt
abbrev xcc:=@List.getD_eq_getElem?_getD
abbrev xcd:=@Nat.ne_of_lt
abbrev xce:=@Nat.le_of_lt_succ
abbrev xcf:=@List.mem_range
abbrev xcg:=@decide_eq_false
abbrev xch:=@Nat.add_le_add_left
abbrev xci:=@List.append_assoc
abbrev xcj:=@Nat.add_sub_cancel'
abbrev xck:=@List.mem_singleton
abbrev xcl:=@Array.getD_eq_getD_getElem?
abbrev xcm:=@List.length_take
abbrev xcn:=@List.take_length
abbrev xco:=@Option.some.inj
abbrev xcp:=@List.mem_map
abbrev xcq:=@List.filter_cons_of_pos
abbrev xcr:=@List.take_append_drop
abbrev xcs:=@decide_eq_true
abbrev xct:=@List.getElem?_map
abbrev xcu:=@List.map_map
abbrev xcv:=@Nat.add_sub_cancel_left
abbrev xcw:=@List.getElem?_append_left
abbrev xcx:=@Nat.lt_of_le_of_lt
abbrev xcy:=@Nat.lt_of_le_of_ne
abbrev xcz:=@PySem.W.mg_none_of
abbrev xda:=@Ne.symm
abbrev xdb:=@List.filterMap_cons_some
abbrev xdc:=@if_false
abbrev xdd:=@List.getElem?_set_ne
abbrev xde:=@Nat.le_sub_one_of_lt
abbrev xdf:=@Nat.le_of_succ_le
abbrev xdg:=@List.filter_cons_of_neg
abbrev xdh:=@List.mem_append_right
abbrev xdi:=@Nat.le_of_eq
abbrev xdj:=@Nat.le_of_add_left_le
abbrev xdk:=@Array.toList_append
abbrev xdl:=@Option.map_eq_some_iff
abbrev xdm:=@List.take_of_length_le
abbrev xdn:=@List.mem_filter
abbrev xdo:=@List.getElem?_append_right
abbrev xdp:=@PyProof.Rows.wpS_forRange
abbrev xdq:=@Array.getElem?_eq_getElem
abbrev xdr:=@Nat.sub_lt_left_of_lt_add
abbrev xds:=@List.sum_append
abbrev xdt:=@List.mem_of_mem_take
abbrev xdu:=@Nat.le_antisymm
abbrev xdv:=@Nat.add_lt_of_lt_sub'
abbrev xdw:=@List.getElem_mem
abbrev xdx:=@PySem.wpAny_holding
abbrev xdy:=@Int.eq_ofNat_of_zero_le
abbrev xdz:=@Nat.zero_add
abbrev xea:=@decide_eq_true_eq
abbrev xeb:=@if_true
abbrev xec:=@Nat.zero_le
abbrev xed:=@List.all_eq_true
abbrev xee:=@List.filterMap_cons_none
abbrev xef:=@beq_self_eq_true
abbrev xeg:=@Nat.add_lt_add_left
abbrev xeh:=@Nat.sub_lt_sub_right
abbrev xei:=@Nat.min_eq_left
abbrev xej:=@List.mem_of_mem_drop
abbrev xek:=@List.pairwise_cons
abbrev xel:=@List.getElem?_set_self
abbrev xem:=@Nat.not_lt_of_le
abbrev xen:=@List.getElem_of_mem
abbrev xeo:=@Array.toList_push
abbrev xep:=@of_decide_eq_true
abbrev xeq:=@Nat.le_sub_of_add_le'
abbrev xer:=@PySem.W.kia_one
abbrev xes:=@List.append_nil
abbrev xet:=@List.map_append
abbrev xeu:=@Option.bind_eq_some_iff
abbrev xev:=@PySem.wpAny_mono
abbrev xew:=@PySem.wpAny_call_entry
abbrev xex:=@Nat.lt_of_succ_lt
abbrev xey:=@List.nodup_cons
abbrev xez:=@List.find?_cons
abbrev xfa:=@List.pairwise_iff_getElem
abbrev xfb:=@List.drop_eq_getElem_cons
abbrev xfc:=@List.length_filter_le
abbrev xfd:=@Bool.false_ne_true
abbrev xfe:=@Bool.and_eq_true
abbrev xff:=@List.lookup_cons
abbrev xfg:=@Nat.succ_le_succ
abbrev xfh:=@List.getElem?_drop
abbrev xfi:=@PyProof.Rows.wpS_mono
abbrev xfj:=@PySem.F.slot_dict_keyiterator_next
abbrev xfk:=@Nat.sub_le_sub_right
abbrev xfl:=@List.pairwise_append
abbrev xfm:=@Nat.sub_pos_of_lt
abbrev xfn:=@List.length_range
abbrev xfo:=@PySem.wpAny_newObj_type
abbrev xfp:=@PySem.wpAny_setState_of
abbrev xfq:=@PyProof.Rows.callWith_type1
abbrev xfr:=@List.length_set
abbrev xfs:=@Bool.eq_iff_iff
abbrev xft:=@PySem.Heap.SameBut.update
abbrev xfu:=@List.replicate_succ
abbrev xfv:=@List.filter_eq_nil_iff
abbrev xfw:=@Nat.lt_irrefl
abbrev xfx:=@Array.perm_iff_toList_perm
abbrev xfy:=@Nat.min_le_right
abbrev xfz:=@Nat.lt_of_not_le
abbrev xga:=@List.not_mem_nil
abbrev xgb:=@List.Perm.append_left
abbrev xgc:=@List.Pairwise.sublist
abbrev xgd:=@Nat.lt_of_lt_of_eq
abbrev xge:=@List.filter_append
abbrev xgf:=@Nat.mul_le_mul_right
abbrev xgg:=@Nat.le_succ_of_le
abbrev xgh:=@Nat.lt_succ_of_lt
abbrev xgi:=@PySem.wpAny_truthy_bool
abbrev xgj:=@Array.getElem?_setIfInBounds_self_of_lt
abbrev xgk:=@PySem.wpAny_typeNameOfWhole_keyiter
abbrev xgl:=@PySem.mem_of_lookup
abbrev xgm:=@beq_eq_false_iff_ne
abbrev xgn:=@List.length_drop
abbrev xgo:=@List.mem_flatMap
abbrev xgp:=@decide_eq_decide
abbrev xgq:=@Nat.sub_le
abbrev xgr:=@PySem.sizeLine_eq
abbrev xgs:=@beq_iff_eq
abbrev xgt:=@PyProof.Rows.wpS_modify
abbrev xgu:=@decide_true
abbrev xgv:=@Nat.ne_of_gt
abbrev xgw:=@Nat.sub_add_cancel
abbrev xgx:=@PySem.wpAny_pyIter_tuple
abbrev xgy:=@decide_false
abbrev xgz:=@List.length_replicate
abbrev xha:=@PySem.Heap.get?_update_self
abbrev xhb:=@List.length_singleton
abbrev xhc:=@Nat.min_le_left
abbrev xhd:=@List.perm_append_comm
abbrev xhe:=@List.foldl_cons
abbrev xhf:=@List.getElem?_toArray
abbrev xhg:=@PySem.wpAny_passesOwn
abbrev xhh:=@Bool.not_true
abbrev xhi:=@List.sum_cons
abbrev xhj:=@List.flatten_cons
abbrev xhk:=@List.filter_congr
abbrev xhl:=@PySem.wpAny_field
abbrev xhm:=@List.nodup_nil
abbrev xhn:=@PySem.Heap.size_push
abbrev xho:=@PySem.wpAny_seqItems
abbrev xhp:=@List.take_succ_eq_append_getElem
abbrev xhq:=@PySem.F.called_set
abbrev xhr:=@and_self
abbrev xhs:=@Nat.sub_le_sub_left
abbrev xht:=@PyProof.Rows.slot_tuple_getitem
abbrev xhu:=@Array.getElem?_setIfInBounds_ne
abbrev xhv:=@List.countP_cons_of_pos
abbrev xhw:=@Nat.lt_add_of_pos_right
abbrev xhx:=@PyProof.Rows.wpS_get
abbrev xhy:=@List.zip_cons_cons
abbrev xhz:=@Nat.sub_lt
abbrev xia:=@List.count_eq_zero
abbrev xib:=@PySem.tupleKind_room_in1
abbrev xic:=@PySem.wpAny_rule
abbrev xid:=@PySem.wpAny_setField_rec
abbrev xie:=@List.Perm.append_right
abbrev xif:=@List.drop_eq_nil_of_le
abbrev xig:=@Int.toNat_natCast
abbrev xih:=@List.foldl_append
abbrev xii:=@PySem.wpAny_dictEntries
abbrev xij:=@Nat.lt_trans
abbrev xik:=@Nat.lt_or_ge
abbrev xil:=@Array.extract_eq_empty_of_le
abbrev xim:=@List.mem_append_left
abbrev xin:=@Nat.min_eq_right
abbrev xio:=@Array.toList_reverse
abbrev xip:=@List.reverse_reverse
abbrev xiq:=@Nat.lt_succ_self
abbrev xir:=@PySem.wpAny_askSetting
abbrev xis:=@PySem.Paired.length
abbrev xit:=@Array.getElem?_eq_some_iff
abbrev xiu:=@List.map_congr_left
abbrev xiv:=@List.length_nil
abbrev xiw:=@List.range_succ
abbrev xix:=@Int.emod_nonneg
abbrev xiy:=@List.filter_map
abbrev xiz:=@PySem.Calls.spliced_cons
abbrev xja:=@Option.isSome_iff_exists
abbrev xjb:=@PySem.F.args_tuple_add_2
abbrev xjc:=@PySem.Obj.data_mapFields
abbrev xjd:=@Nat.add_zero
abbrev xje:=@Nat.succ_mul
abbrev xjf:=@PyProof.Rows.slot_tuple_getitem
abbrev xjg:=@List.drop_drop
abbrev xjh:=@Nat.mod_lt
abbrev xji:=@PySem.F.entry_tuple_add
abbrev xjj:=@List.countP_cons_of_neg
abbrev xjk:=@List.pairwise_singleton
abbrev xjl:=@List.getElem?_cons_succ
abbrev xjm:=@List.eraseIdx_cons_succ
abbrev xjn:=@Nat.zero_lt_of_lt
abbrev xjo:=@List.count_append
abbrev xjp:=@PySem.wpAny_pyIter_list
abbrev xjq:=@PySem.F.slot_tuple_add
abbrev xjr:=@PySem.Calls.callWith_builtin
abbrev xjs:=@Nat.le_mul_of_pos_left
abbrev xjt:=@List.any_cons
abbrev xju:=@List.mem_reverse
abbrev xjv:=@PySem.wpAny_forIn_list
abbrev xjw:=@PySem.wpAny_isInstance
abbrev xjx:=@PyProof.Rows.wpS_lift
abbrev xjy:=@or_false
abbrev xjz:=@PySem.F.slot_tuple_lt
abbrev xka:=@PySem.F.slot_dict_get
abbrev xkb:=@List.mem_iff_getElem?
abbrev xkc:=@List.getElem?_eq_none
abbrev xkd:=@PySem.Calls.evalArgs_plain
abbrev xke:=@Nat.sub_self
abbrev xkf:=@Array.toList_extract
abbrev xkg:=@PySem.Around.under_plainId
abbrev xkh:=@List.cons.injEq
abbrev xki:=@PySem.wpAny_execs_nil
abbrev xkj:=@PySem.codeAny_mono
abbrev xkk:=@PySem.codeAny_builtin
abbrev xkl:=@List.filterMap_cons
abbrev xkm:=@List.mem_map_of_mem
abbrev xkn:=@List.filter_sublist
abbrev xko:=@List.toList_toArray
abbrev xkp:=@List.Perm.refl
abbrev xkq:=@PySem.wpAny_setField
abbrev xkr:=@List.mem_filterMap
abbrev xks:=@Array.append_empty
abbrev xkt:=@Nat.pos_of_ne_zero
abbrev xku:=@Nat.eq_zero_or_pos
abbrev xkv:=@List.count_pos_iff
abbrev xkw:=@Int.lt_of_le_of_lt
abbrev xkx:=@List.filter_filter
abbrev xky:=@PySem.wpAny_Call_Name_kw
abbrev xkz:=@decide_eq_true_iff
abbrev xla:=@List.perm_ext_iff_of_nodup
abbrev xlb:=@PySem.wpAny_attempt
abbrev xlc:=@PySem.Value.isInt_shape
abbrev xld:=@PySem.Calls.spliced_nil
abbrev xle:=@List.take_sublist
abbrev xlf:=@List.mapM_toArray
abbrev xlg:=@List.drop_sublist
abbrev xlh:=@List.getElem_drop
abbrev xli:=@List.getElem_take
abbrev xlj:=@List.ext_getElem?
abbrev xlk:=@Nat.lt_trichotomy
abbrev xll:=@PySem.call_meets
abbrev xlm:=@List.map_nil
abbrev xln:=@Nat.max_eq_right
abbrev xlo:=@List.perm_middle
abbrev xlp:=@Int.zero_add
abbrev xlq:=@List.any_eq_true
abbrev xlr:=@List.sum_nil
abbrev xls:=@Int.ofNat_le
abbrev xlt:=@map_eq_pure_bind
abbrev xlu:=@List.of_mem_zip
abbrev xlv:=@List.forIn_cons
abbrev xlw:=@Nat.le_add_left
abbrev xlx:=@Nat.not_lt_zero
abbrev xly:=@List.nil_append
abbrev xlz:=@Nat.two_pos
abbrev xma:=@Bool.and_false
abbrev xmb:=@Nat.mul_le_mul
set_option maxHeartbeats 0
namespace L2
open PySem PySem.Spec PyProof.Rows
noncomputable abbrev Key:=Sum Int Str
noncomputable def keyIs:Key->Value->Bool
 | .inl k,v=>Value.isInt k v
 | .inr x,v=>Value.isStrOf x v
noncomputable def keyH (w:World):Key->Int
 | .inl k=>hashInt k
 | .inr x=>hashStr w x
theorem zx:∀{k:Key} {v:Value},keyIs k v=true->(∃i t,k=Sum.inl i/\v=Value.int i t)\/(∃x t,k=Sum.inr x/\v=Value.str x t)
 | .inl i,v,h=>by
  obtain⟨t,e⟩:=xlc (k:=i) (v:=v) h;exact .inl ⟨i,t,rfl,e⟩
 | .inr x,v,h=>by
  obtain⟨t,e⟩:=Value.isStrOf_shape (x:=x) (v:=v) h;exact .inr ⟨x,t,rfl,e⟩
theorem zst (i:Int)(t:Tok):keyIs (.inl i) (.int i t)=true:=by simp[keyIs,Value.isInt]
theorem zss (x:Str)(t:Tok):keyIs (.inr x) (.str x t)=true:=by simp[keyIs,Value.isStrOf]
theorem zbfv (a b:Int):decide ((Sum.inl a:Key)=Sum.inl b)=(a==b):=by
 by_cases e:a=b
 ·subst e;simp
 ·have h:¬ (Sum.inl a:Key)=Sum.inl b:=fun q=>e (Sum.inl.inj q)
  rw[xcg h];exact(xgm.mpr e).symm
theorem zbfs (a b:Str):decide ((Sum.inr a:Key)=Sum.inr b)=decide (a=b):=by
 by_cases e:a=b
 ·subst e;simp
 ·have h:¬ (Sum.inr a:Key)=Sum.inr b:=fun q=>e (Sum.inr.inj q)
  rw[xcg h,xcg e]
theorem zbfu (a:Int)(b:Str):decide ((Sum.inl a:Key)=Sum.inr b)=false:=xcg (fun q=>nomatch q)
theorem zbft (a:Str)(b:Int):decide ((Sum.inr a:Key)=Sum.inl b)=false:=xcg (fun q=>nomatch q)
noncomputable def mixKind (prog:Program) (w:World):PySem.KeyKind prog w Key where
 is:=keyIs
 hash:=keyH w
 inj:=fun v a b ha hb=>by
  rcases zx ha with⟨i,t,rfl,rfl⟩ | ⟨x,t,rfl,rfl⟩
  ·rcases zx hb with⟨j,u,rfl,e⟩ | ⟨y,u,rfl,e⟩
   ·injection e with e1 _;rw[e1]
   ·exact nomatch e
  ·rcases zx hb with⟨j,u,rfl,e⟩ | ⟨y,u,rfl,e⟩
   ·exact nomatch e
   ·injection e with e1 _;rw[e1]
 byValue:=fun k v h=>by
  rcases zx h with⟨i,t,rfl,rfl⟩ | ⟨x,t,rfl,rfl⟩<;>rfl
 pyHash:=fun hv h=>by
  rcases zx hv with⟨i,t,rfl,rfl⟩ | ⟨x,t,rfl,rfl⟩
  ·exact wpAny_pyHash_int h
  ·exact wpAny_pyHash_str h
 eqBool:=fun hu hv h=>by
  rcases zx hu with⟨i,t,rfl,rfl⟩ | ⟨x,t,rfl,rfl⟩
  ·rcases zx hv with⟨j,u,rfl,rfl⟩ | ⟨y,u,rfl,rfl⟩
   ·rw[zbfv] at h;exact wpAny_eqBool_int h
   ·rw[zbfu] at h;exact SeqAt.EqAt.int_str i t y u _ _ _ _ h
  ·rcases zx hv with⟨j,u,rfl,rfl⟩ | ⟨y,u,rfl,rfl⟩
   ·rw[zbft] at h;exact SeqAt.EqAt.str_int x t j u _ _ _ _ h
   ·rw[zbfs] at h;exact wpAny_eqBool_str h
 «strs»:=fun k x t v h=>by
  rcases zx h with⟨i,u,rfl,e⟩ | ⟨y,u,rfl,e⟩
  ·exact nomatch e
  ·injection e with e1 _
   subst e1;cases v<;>rfl
theorem zno (prog:Program)(w:World)(i:Int)(t:Tok):(mixKind prog w).is (.inl i) (.int i t)=true:=zst i t
theorem znn (prog:Program)(w:World)(x:Str)(t:Tok):(mixKind prog w).is (.inr x) (.str x t)=true:=zss x t
set_option genInjectivity true in
inductive V where
 | non | bl (b:Bool) | int (i:Int) | str (x:Str) | byt (b:Array UInt8) | flt (b:UInt64) | ref (a:Addr) | ty (n:String)
 deriving DecidableEq
noncomputable def RelV:V->Value->Prop
 | .non,u=>u=Value.none
 | .bl b,u=>u=Value.bool b
 | .int i,u=>∃t,u=Value.int i t
 | .str x,u=>∃t,u=Value.str x t
 | .byt b,u=>∃t,u=Value.bytes b t
 | .flt b,u=>∃t,u=Value.float b t
 | .ref a,u=>u=Value.ref a
 | .ty n,u=>u=Value.type n
noncomputable abbrev Vals:List V->List Value->Prop:=Paired RelV
theorem Vals.length {xs:List V}{us:List Value}(r:Vals xs us):xs.length=us.length:=xis r
theorem Vals.get:∀{xs:List V} {us:List Value} {i:Nat} {x:V},Vals xs us->xs[i]?=some x->∃u,us[i]?=some u/\RelV x u
 | _,_,_,_,.nil,e=>by simp at e
 | _,_,0,_,.cons r _,e=>by simp at e;subst e;exact⟨_,rfl,r⟩
 | _,_,i+1,x,.cons _ t,e=>by
  obtain⟨u,h1,h2⟩:=Vals.get (i:=i) (x:=x) t (by simpa using e);exact⟨u,by simpa using h1,h2⟩
theorem Vals.set {x:V}{u:Value}(r:RelV x u):∀{xs:List V} {us:List Value} (i:Nat),Vals xs us->Vals (xs.set i x) (us.set i u)
 | _,_,_,.nil=>.nil
 | _,_,0,.cons _ t=>.cons r t
 | _,_,i+1,.cons q t=>.cons q (Vals.set r i t)
theorem Vals.append:∀{xs ys:List V} {us ws:List Value},Vals xs us->Vals ys ws->Vals (xs++ys) (us++ws)
 | _,_,_,_,.nil,s=>s
 | _,_,_,_,.cons r t,s=>.cons r (Vals.append t s)
theorem Vals.take:∀{xs:List V} {us:List Value} (n:Nat),Vals xs us->Vals (xs.take n) (us.take n)
 | _,_,0,_=>.nil
 | _,_,_+1,.nil=>.nil
 | _,_,n+1,.cons r t=>.cons r (Vals.take n t)
theorem Vals.drop:∀{xs:List V} {us:List Value} (n:Nat),Vals xs us->Vals (xs.drop n) (us.drop n)
 | _,_,0,r=>r
 | _,_,_+1,.nil=>.nil
 | _,_,n+1,.cons _ t=>Vals.drop n t
noncomputable def RelO:Option V->Option Value->Prop
 | some v,some u=>RelV v u
 | none,none=>True
 | _,_=>False
noncomputable def KV {κ:Type}:List (κ×V)->List (κ×Value)->Prop:=Paired fun(p:κ×V) (q:κ×Value)=>p.1=q.1/\RelV p.2 q.2
noncomputable def kV:Key->V
 | .inl i=>.int i
 | .inr x=>.str x
set_option genInjectivity true in
inductive HO where
 /-- a list -/
 | lst (xs:List V)
 /-- a tuple (never changes) -/
 | tup (xs:List V)
 /-- a dict whose keys are ints and texts;one whose keys are tuples of ints and texts (the empty one is both) -/
 | dK (kvs:List (Key×V)) | dT (kvs:List (List Key×V))
 /-- a set of ints: its members,its size -/
 | set (S:Int->Bool) (n:Nat)
 /-- an instance of the class at C,its dict at dx,its attributes -/
 | ins (C dx:Addr) (fs:List (Str×V))
 /-- the dict of the instance at x -/
 | own (x:Addr)
 /-- the dict of an exception -/
 | xd (fs:List (Str×V))
 /-- a bound method,f of x -/
 | met (f x:Addr)
 /-- a range object lo,lo+1,.. below hi -/
 | rng (lo hi:Int)
 /-- a thing that is known to the object (the script;a dict while a loop walks it): read,never written while it is so -/
 | frz (o:Obj) (u:HO)
 /-- a code object's table -/
 | tbl (ps:Array Value)
 /-- any other thing,by what is true of its one object (a def of one's own: SetO a S n:=HO.ext fun h=>..) -/
 | ext (φ:Heap->Prop)
noncomputable abbrev Hp:=Addr->Option HO
noncomputable def upd (H:Hp) (a:Addr) (o:HO):Hp:=fun b=>if b=a then some o else H b
theorem zo {H:Hp}{a:Addr}{o:HO}:upd H a o a=some o:=by unfold upd;rw[if_pos rfl]
theorem zn {H:Hp}{a b:Addr}{o:HO}(h:b≠a):upd H a o b=H b:=by unfold upd;rw[if_neg h]
theorem zbix {H:Hp}{a b:Addr}{o u:HO}(h:H a=some o)(h':H b=some u)(d:o≠u):a≠b:=by
 intro e;subst e;rw[h] at h';exact d (xco h')
theorem zh {H:Hp}{a b:Addr}{o:HO}(h:H a=some o)(h':H b=none):a≠b:=by
 intro e;subst e;rw[h] at h';cases h'
section
variable (P:Program)(w:World)
noncomputable def ObjOk (H:Hp) (h:Heap) (a:Addr):HO->Prop
 | .lst xs=>xs.length<=sizeLine/\∃(its:List Value) (n:Nat), Vals xs its/\h.get? a=some { cls:=.type "list", data:=.seq its.toArray n }
 | .tup xs=>xs.length<=sizeLine/\∃its:List Value,Vals xs its/\IsTup h a its.toArray
 | .dK kvs=>kvs.length<=sizeLine/\(a==sysModules)=false/\∃vs,KV kvs vs/\h.DictOf (mixKind P w) a vs
 | .dT kvs=>kvs.length<=sizeLine/\(a==sysModules)=false/\∃xs:List (List Key×Addr×Value),
  Paired (fun(p:List Key×V) (q:List Key×Addr×Value)=>p.1=q.1/\H q.2.1=some (.tup (p.1.map kV))/\RelV p.2 q.2.2) kvs xs /\
  ∃o es ep,h.get? a=some o/\o.ExactDict/\o.data=.dict es ep/\es.toList=xs.map (entryOfKey (tupleKind (mixKind P w)))/\(xs.map (·.1)).Nodup
 | .set S n=>h.SetOf (intKind P w) a S n
 | .ins C dx fs=>H dx=some (.own a)/\fs.length<=1000/\dx≠a/\h.get? a=some (W.instObj C dx) /\
  ∃mA,h.Ns1 dx mA/\(∀f,RelO (fs.lookup f) (mA f))/\PySem.Within mA (fs.map (·.1))
 | .own _=>∃o,h.get? a=some o
 | .xd fs=>∃mA,h.Ns1 a mA/\∀f,RelO (fs.lookup f) (mA f)
 | .rng lo hi=>∃ t u v, h.get? a=some { cls:=.type "range", data:=.fields #[.int lo t, .int hi u, .int 1 v] }
 | .frz o u=>h.get? a=some o/\ObjOk H h a u
 | .tbl ps=>h.get? a=some {cls:=.none,data:=.fields ps}
 | .met f x=>h.get? a=some (W.methodObj (.ref f) (.ref x))
 | .ext φ=>φ h/\(∃o,h.get? a=some o)/\∀h1 h2:Heap,φ h1->(∀o,h1.get? a=some o->h2.get? a=some o)->φ h2
noncomputable def HOk (H:Hp) (h:Heap):Prop:=∀a o,H a=some o->ObjOk P w H h a o
end
section
variable {P:Program}{w:World}{H H':Hp}{h h':Heap}{a:Addr}{o:HO}
theorem ObjOk.lt (x:ObjOk P w H h a o):a < h.objs.size:=by
 cases o with
 | lst xs=>obtain⟨_,_,_,_,e⟩:=x;exact xbo e
 | tup xs=>obtain⟨_,_,_,p⟩:=x;exact p.lt
 | dK kvs=>obtain⟨_,_,_,_,o,_,_,e,_⟩:=x;exact xbo e
 | dT kvs=>obtain⟨_,_,_,_,o,_,_,e,_⟩:=x;exact xbo e
 | set S n=>obtain⟨o,_,_,_,e,_⟩:=x;exact xbo e
 | ins C dx fs=>obtain⟨_,_,_,e,_⟩:=x;exact xbo e
 | own y=>obtain⟨_,e⟩:=x;exact xbo e
 | xd fs=>obtain⟨_,⟨_,_,_,e,_⟩,_⟩:=x;exact xbo e
 | rng lo hi=>obtain⟨_,_,_,e⟩:=x;exact xbo e
 | frz ob u=>obtain⟨e,_⟩:=x;exact xbo e
 | tbl ps=>exact xbo (show h.get? a=some _ from x)
 | met f y=>exact xbo (show h.get? a=some _ from x)
 | ext φ=>obtain⟨_,⟨_,e⟩,_⟩:=x;exact xbo e
theorem Paired.mapP {α β:Type}{F G:α->β->Prop}:∀{l₁:List α} {l₂:List β},Paired F l₁ l₂->(∀a b,F a b->G a b)->Paired G l₁ l₂
 | _,_,.nil,_=>.nil
 | _,_,.cons r t,f=>.cons (f _ _ r) (Paired.mapP t f)
theorem ObjOk.stay (x:ObjOk P w H h a o)(k:∀b u,(b=a\/H b=some (.own a))->h.get? b=some u->h'.get? b=some u)
  (ho:∀b,H b=some (.own a)->H' b=some (.own a))(ht:∀b xs,H b=some (.tup xs)->H' b=some (.tup xs)):ObjOk P w H' h' a o:=by
 induction o with
 | lst xs=>obtain⟨z,its,n,r,e⟩:=x;exact⟨z,its,n,r,k _ _ (.inl rfl) e⟩
 | tup xs=>obtain⟨z,its,r,ob,e,c⟩:=x;exact⟨z,its,r,ob,k _ _ (.inl rfl) e,c⟩
 | dK kvs=>obtain⟨z,y,vs,r,ob,es,ep,e,c⟩:=x;exact⟨z,y,vs,r,ob,es,ep,k _ _ (.inl rfl) e,c⟩
 | dT kvs =>
  obtain⟨z,y,xs,r,ob,es,ep,e,c⟩:=x;exact⟨z,y,xs,Paired.mapP r fun p q z=>⟨z.1,ht _ _ z.2.1,z.2.2⟩,ob,es,ep,k _ _ (.inl rfl) e,c⟩
 | set S n=>obtain⟨ob,es,ep,t,e,c⟩:=x;exact⟨ob,es,ep,t,k _ _ (.inl rfl) e,c⟩
 | ins C dx fs =>
  obtain⟨d,z,ne,e,mA,⟨od,es,ep,e2,c⟩,r⟩:=x;exact⟨ho _ d,z,ne,k _ _ (.inl rfl) e,mA,⟨od,es,ep,k _ _ (.inr d) e2,c⟩,r⟩
 | own y=>obtain⟨ob,e⟩:=x;exact⟨ob,k _ _ (.inl rfl) e⟩
 | xd fs=>obtain⟨mA,⟨od,es,ep,e,c⟩,r⟩:=x;exact⟨mA,⟨od,es,ep,k _ _ (.inl rfl) e,c⟩,r⟩
 | rng lo hi=>obtain⟨t,u,v,e⟩:=x;exact⟨t,u,v,k _ _ (.inl rfl) e⟩
 | frz ob u ih=>obtain⟨e,q⟩:=x;exact⟨k _ _ (.inl rfl) e,ih q⟩
 | tbl ps =>
  have e:h.get? a=some {cls:=.none,data:=.fields ps}:=x;show h'.get? a=some {cls:=.none,data:=.fields ps};exact k a _ (.inl rfl) e
 | met f y =>
  have e:h.get? a=some (W.methodObj (.ref f) (.ref y)):=x;show h'.get? a=some (W.methodObj (.ref f) (.ref y));exact k a _ (.inl rfl) e
 | ext φ=>obtain⟨p,⟨o,e⟩,st⟩:=x;exact⟨st _ _ p fun o q=>k _ _ (.inl rfl) q,⟨o,k _ _ (.inl rfl) e⟩,st⟩
theorem HOk.lt (x:HOk P w H h)(e:H a=some o):a < h.objs.size:=(x a o e).lt
theorem HOk.fresh (x:HOk P w H h)(e:h.objs.size<=a):H a=none:=by
 cases q:H a with
 | none=>rfl
 | some u=>exact absurd (xbh (x.lt q) e) (xfw _)
theorem HOk.kept (x:HOk P w H h)(k:∀b u,h.get? b=some u->h'.get? b=some u):HOk P w H h':=fun a o e =>
 (x a o e).stay (fun b u _ q=>k b u q) (fun _ q=>q) fun _ _ q=>q
theorem HOk.laid (x:HOk P w H h)(k:∀b u,h.get? b=some u->h'.get? b=some u)(hp:h.objs.size<=a)(new:ObjOk P w (upd H a o) h' a o):HOk P w (upd H a o) h':=fun b u e=>by
 have hn:=x.fresh hp;by_cases hb:b=a
 ·subst hb;rw[zo] at e;cases e;exact new
 ·rw[zn hb] at e;exact(x b u e).stay (fun c v _ q=>k c v q) (fun c q=>by rw[zn (zh q hn)];exact q) fun c xs q=>by rw[zn (zh q hn)];exact q
end
noncomputable def Rd (H:Hp) (a:Addr) (u:HO):Prop:=H a=some u\/∃o,H a=some (.frz o u)
theorem Rd.ok {P:Program}{w:World}{H:Hp}{h:Heap}{a:Addr}{u:HO}(r:Rd H a u)(x:HOk P w H h):ObjOk P w H h a u:=by
 rcases r with r | ⟨o,r⟩
 ·exact x a u r
 ·obtain⟨_,q⟩:=x a _ r;exact q
noncomputable def Mut:Option HO->Prop
 | some (.lst _)=>True
 | some (.dK _)=>True
 | some (.dT _)=>True
 | some (.set _ _)=>True
 | some (.ins _ _ _)=>True
 | some (.ext _)=>True
 | _=>False
section
variable {P:Program}{w:World}{H:Hp}{h h':Heap}{x e:Addr}{o':HO}
theorem HOk.write (ok:HOk P w H h)(mu:Mut (H x))(he:e=x\/H e=some (.own x))(k:∀b u,b≠e->h.get? b=some u->h'.get? b=some u)(heo:∃u,h'.get? e=some u)
  (new:ObjOk P w (upd H x o') h' x o'):HOk P w (upd H x o') h':=fun b u q=>by
 have nown:∀c y,H c=some (.own y)->c≠x:=fun c y r z=>by subst z;rw[r] at mu;exact mu
 have ntup:∀c xs,H c=some (.tup xs)->c≠x:=fun c xs r z=>by subst z;rw[r] at mu;exact mu
 by_cases hb:b=x
 ·subst hb;rw[zo] at q;cases q;exact new
 ·rw[zn hb] at q;by_cases hbe:b=e
  ·have q':H b=some (.own x):=by
    rcases he with z | z
    ·exact absurd (hbe.trans z) hb
    ·rw[hbe];exact z
   rw[q] at q';cases q'
   obtain⟨v,hv⟩:=heo;exact⟨v,by rw[hbe];exact hv⟩
  ·refine(ok b u q).stay (fun c v hc r=>k c v ?_ r) (fun c r=>by rw[zn (nown c b r)];exact r) fun c xs r=>by rw[zn (ntup c xs r)];exact r
   rcases hc with rfl | hc
   ·exact hbe
   ·rintro rfl;rcases he with z | z
    ·exact nown c b hc z
    ·rw[hc] at z;cases z;exact hb rfl
end
structure Un (fs ex:List Addr) (H H':Hp) (h h':Heap):Prop where
 keep:∀b o,h.get? b=some o->H b=none->b∉fs->b∉ex->h'.get? b=some o
 slot:∀b o,h.get? b=some o->H b=none->b∈fs->b∉ex->∃sl,h'.get? b=some {o with slots:=sl}
 free:∀b o,h.get? b=some o->H b=none->b∉ex->H' b=none
 there:∀b o,h.get? b=some o->b∉ex->∃o',h'.get? b=some o'
 tups:∀b xs,H b=some (.tup xs)->H' b=some (.tup xs)
 frzs:∀b o u,H b=some (.frz o u)->H' b=some (.frz o u)
 tbls:∀b ps,H b=some (.tbl ps)->∃more,H' b=some (.tbl (ps++more))
section
variable {fs fs' ex ex':List Addr}{H H1 H2:Hp}{h h1 h2 h':Heap}{a x e:Addr}{o:HO}
theorem Un.any (u:Un fs ex H H1 h h1){b:Addr}{ob:Obj}(q:h.get? b=some ob)(n:H b=none)(hx:b∉ex):∃sl,h1.get? b=some {ob with slots:=sl}:=by
 by_cases hb:b∈fs
 ·exact u.slot b ob q n hb hx
 ·exact⟨ob.slots,u.keep b ob q n hb hx⟩
theorem Un.kept (k:∀b u,h.get? b=some u->h'.get? b=some u):Un fs ex H H h h' :=
 ⟨fun b ob q _ _ _=>k b ob q,fun b ob q _ _ _=>⟨ob.slots,k b ob q⟩,fun _ _ _ n _=>n,fun b ob q _=>⟨ob,k b ob q⟩,fun _ _ q=>q,fun _ _ _ q=>q,fun _ ps q=>⟨#[],by rw[q];simp⟩⟩
theorem Un.refl:Un fs ex H H h h:=Un.kept fun _ _ q=>q
theorem Un.laid (k:∀b u,h.get? b=some u->h'.get? b=some u)(hp:h.objs.size<=a)(hn:H a=none):Un fs ex H (upd H a o) h h' where
 keep:=fun b u q _ _ _=>k b u q
 slot:=fun b u q _ _ _=>⟨u.slots,k b u q⟩
 free:=fun b u q n _=>by rw[zn (xcd (xbh (xbo q) hp))];exact n
 there:=fun b u q _=>⟨u,k b u q⟩
 tups:=fun b xs q=>by rw[zn (zh q hn)];exact q
 frzs:=fun b u xs q=>by rw[zn (zh q hn)];exact q
 tbls:=fun b ps q=>⟨#[],by rw[zn (zh q hn),q];simp⟩
theorem Un.write (mu:Mut (H x))(he:e=x\/H e=some (.own x))(k:∀b u,b≠e->h.get? b=some u->h'.get? b=some u)(heo:∃u,h'.get? e=some u):Un fs ex H (upd H x o) h h':=by
 have hx:∀b,H b=none->b≠x:=fun b n z=>by subst z;rw[n] at mu;exact mu
 have hb:∀b,H b=none->b≠e:=fun b n z=>by
  subst z;rcases he with r | r
  ·exact hx b n r
  ·rw[n] at r;cases r
 have hm:∀b u,H b=some u->¬ Mut (some u)->b≠x:=fun b u q nm z=>by subst z;rw[q] at mu;exact nm mu
 refine⟨fun b u q n _ _=>k b u (hb b n) q,fun b u q n _ _=>⟨u.slots,k b u (hb b n) q⟩,fun b u q n _=>by rw[zn (hx b n)];exact n,fun b u q _=>?_,
  fun b xs q=>by rw[zn (hm b _ q fun z=>z)];exact q,fun b u xs q=>by rw[zn (hm b _ q fun z=>z)];exact q,fun b ps q=>⟨#[],by rw[zn (hm b _ q fun z=>z),q];simp⟩⟩
 by_cases hbe:b=e
 ·subst hbe;exact heo
 ·exact⟨u,k b u hbe q⟩
end
noncomputable def trk (h:Heap) (H:Hp):List Addr:=(List.range h.objs.size).filter fun a=>(H a).isSome
noncomputable def hidT (h:Heap) (H:Hp):Heap:=W.hideAll h (trk h H)
theorem zsy (h:Heap)(H:Hp):(hidT h H).objs.size=h.objs.size:=W.hideAll_size _ _
theorem zxa {h:Heap}{H:Hp}{b:Addr}{o:Obj}(e:h.get? b=some o)(n:H b=none):(hidT h H).get? b=some o :=
 W.hideAll_get _ e fun hm=>by
  have q:(H b).isSome=true:=(xdn.mp hm).2;rw[n] at q;simp at q
theorem zbar {h:Heap}{H:Hp}{b:Addr}{o:Obj}(e:(hidT h H).get? b=some o):h.get? b=some o/\H b=none:=by
 have e':h.get? b=some o:=W.of_hideAll (trk h H) e;refine⟨e',?_⟩;cases q:H b with
 | none=>rfl
 | some x =>
  have hm:b∈trk h H:=xdn.mpr ⟨xcf.mpr (xbo e'),by simp[q]⟩;have z:(hidT h H).get? b=none:=W.hideAll_none (trk h H) hm;rw[z] at e;cases e
structure Mod (K:Fg) (mg:Str->Option Value) (base:Heap):Prop where
 kin:K.In base
 glob:base.Ns mainGlobals mg
 blt:∃ mb, base.Ns builtinsNs mb/\∀ x:Str, x≠"__name__"->mb x=bootBuiltins x
 nolimit:base.NoLimit
structure Cx where
 prog:Program
 w:World
 K:Fg
 mg:Str->Option Value
 base:Heap
 A:Around
 N:List Str
 s₀:Shared
 H₀:Hp
 env:Env
 outer:List Env
 stack:List Env
 ex:List Addr
 fn:Str->Bool
 calm:Bool
 pn:List (Addr×Obj)
 xe:Value->Shared->Prop
noncomputable def frs (l:List Env):List Addr:=l.filterMap (·.frame)
noncomputable abbrev Cx.fs (X:Cx):List Addr:=frs X.outer
noncomputable def Vis (sc:Scope) (x:Str):Prop:=sc.names.lookup x=some .local\/sc.names.lookup x=some .cell\/sc.names.lookup x=some .free
noncomputable def Loc (sc:Scope) (x:Str):Prop:=sc.names.lookup x=some .local\/sc.names.lookup x=some .cell
noncomputable def Look (env:Env) (h:Heap) (m:Str->Option Value) (x:Str) (u:Value):Prop :=
 (env.kindOf x=some .local/\m x=some u)\/((env.kindOf x=some .cell\/env.kindOf x=some .free)/\∃c,env.cells.lookup x=some c/\h.IsCell c (some u))
structure Cx.Ok (X:Cx):Prop where
 mod:Mod X.K X.mg X.base
 kind:X.env.scope.kind=.function
 glob:X.env.globals=mainGlobals
 blt:X.env.builtins=builtinsNs
 above:X.s₀.heap.objs.size<=X.env.locals
 inj:∀x y c,X.env.cells.lookup x=some c->X.env.cells.lookup y=some c->x=y
 has:∀x,(X.env.kindOf x=some .cell\/X.env.kindOf x=some .free)->∃c,X.env.cells.lookup x=some c
 cab:∀x c,X.fn x=true->X.env.cells.lookup x=some c->X.s₀.heap.objs.size<=c
 hd:X.calm=true->X.A.handled=none
 frames:X.A.frames=some X.stack
 stk:X.stack=X.outer\/(X.stack=X.env::X.outer/\X.env.frame=some X.env.locals)
 exf:∀b∈X.ex,b≠X.env.locals/\∀x c,X.env.cells.lookup x=some c->c≠b
 bs:∀b o,X.base.get? b=some o->X.s₀.heap.get? b=some o/\X.H₀ b=none
 bsz:X.base.objs.size<=X.s₀.heap.objs.size
 noex:∀b o,X.base.get? b=some o->b∉X.ex
 exfs:∀b∈X.ex,b∉X.fs
 funs:X.s₀.heap.FunFrames X.base X.outer
 frf:∀b∈X.fs,X.H₀ b=none
noncomputable def Hnd (A:Around) (H:Hp):Prop:=∀v,A.handled=some v->∃a o,v=.ref a/\H a=some (.frz o (.ext fun _=>True))/\∃vs,o.data=.fields vs/\vs[2]?=some .none
theorem Hnd.map {A:Around}{H H':Hp}(h:Hnd A H)(f:∀b o u,H b=some (.frz o u)->H' b=some (.frz o u)):Hnd A H':=fun v e=>let ⟨a,o,h1,h2,h3⟩:=h v e;⟨a,o,h1,f _ _ _ h2,h3⟩
theorem Hnd.none {A:Around}{H:Hp}(h:A.handled=.none):Hnd A H:=fun v e=>by rw[h] at e;cases e
structure Inv (X:Cx) (aU:List (Addr×Obj)) (σ:List (Option V)) (H:Hp) (s:Shared):Prop where
 ok:X.Ok
 os:s.os=X.s₀.os
 bare:AllBare s.gens
 base:Un X.fs X.ex X.H₀ H X.s₀.heap s.heap
 loc:∃m,s.heap.Ns X.env.locals m/\∀(i:Nat) (x:Str) (v:V),X.N[i]?=some x->σ[i]?=some (some v)->Vis X.env.scope x->∃u,RelV v u/\Look X.env s.heap m x u
 cell:∀x c,X.env.cells.lookup x=some c->∃v,s.heap.IsCell c v
 free:H X.env.locals=none
 freeC:∀x c,X.env.cells.lookup x=some c->H c=none
 pin:∀p∈X.pn++aU,s.heap.get? p.1=some p.2/\H p.1=none/\p.1≠X.env.locals/\p.1∉X.fs/\∀v,p.2.data≠.cell v
 hok:HOk X.prog X.w H s.heap
 len:σ.length=X.N.length
 hnd:Hnd X.A H
section
variable {X:Cx}{aU:List (Addr×Obj)}{σ:List (Option V)}{H H':Hp}{s:Shared}{h':Heap}
theorem Cx.Ok.nofr (ok:X.Ok){b:Addr}{o:Obj}(e:X.base.get? b=some o):b∉X.fs:=fun hb=>by
 have:=(ok.funs.mem hb).1;rw[e] at this;cases this
theorem Inv.bs (I:Inv X aU σ H s):∀b o,X.base.get? b=some o->s.heap.get? b=some o/\H b=none:=fun b o e =>
 ⟨I.base.keep b o (I.ok.bs b o e).1 (I.ok.bs b o e).2 (I.ok.nofr e) (I.ok.noex b o e),I.base.free b o (I.ok.bs b o e).1 (I.ok.bs b o e).2 (I.ok.noex b o e)⟩
theorem Inv.bk (I:Inv X aU σ H s):∀b o,X.base.get? b=some o->s.heap.get? b=some o:=fun b o e=>(I.bs b o e).1
theorem Inv.mod (I:Inv X aU σ H s):Mod X.K X.mg X.base:=I.ok.mod
theorem Inv.kIn (I:Inv X aU σ H s):X.K.In s.heap:=I.ok.mod.kin.keeps I.bk
theorem Inv.lt (I:Inv X aU σ H s):X.env.locals < s.heap.objs.size:=let ⟨_,hn,_⟩:=I.loc;hn.lt
theorem Inv.sz (I:Inv X aU σ H s):X.s₀.heap.objs.size<=s.heap.objs.size:=xbb I.ok.above (xbv I.lt)
theorem Inv.nofs (I:Inv X aU σ H s){a:Addr}(h:s.heap.objs.size<=a):a∉X.fs:=fun hb=>by
 obtain⟨_,o,ho,_⟩:=I.ok.funs.mem hb;exact absurd (xbh (xbo ho) (xbb I.sz h)) (xfw _)
theorem Inv.cne (I:Inv X aU σ H s):∀x c,X.env.cells.lookup x=some c->c≠X.env.locals:=fun x c e z=>by
 obtain⟨v,o,ho,hd⟩:=I.cell x c e;obtain⟨m,⟨o',es,ep,ho',hd',_⟩,_⟩:=I.loc;rw[z,ho'] at ho;cases ho;rw[hd'] at hd;cases hd
theorem Inv.funs (I:Inv X aU σ H s):s.heap.FunFrames X.base X.outer:=by
 have all:∀(l:List Env),(∀b∈frs l,b∈X.fs)->X.s₀.heap.FunFrames X.base l->s.heap.FunFrames X.base l:=by
  intro l
  induction l with
  | nil=>intro _ _;trivial
  | cons env r ih =>
   intro hs hl;obtain⟨hk,⟨L,o,hf,hn,ho,hd⟩,hr⟩:=hl;have hL:L∈X.fs:=hs L (by unfold frs;rw[xkl,hf];exact xbw);obtain⟨sl,e⟩:=I.base.slot L o ho (I.ok.frf L hL) hL fun z=>I.ok.exfs L z hL
   exact⟨hk,⟨L,_,hf,hn,e,hd⟩,ih (fun b hb=>hs b (by unfold frs;rw[xkl,hf];exact xbp _ hb)) hr⟩
 exact all X.outer (fun _ hb=>hb) I.ok.funs
theorem Inv.stack (I:Inv X aU σ H s):s.heap.FunFrames X.base X.stack:=by
 rcases I.ok.stk with e | ⟨e,hf⟩
 ·rw[e];exact I.funs
 ·rw[e];obtain⟨m,hn,_⟩:=I.loc;refine .cons (by rw[I.ok.kind];decide) hf hn ?_ I.funs;exact Heap.get?_none_of_le (xbb I.ok.bsz I.ok.above)
theorem Inv.stkSub (I:Inv X aU σ H s):∀b∈frs X.stack,b∈X.env.locals::X.fs:=fun b hb=>by
 rcases I.ok.stk with e | ⟨e,hf⟩
 ·rw[e] at hb;exact xbp _ hb
 ·rw[e] at hb;unfold frs at hb;rw[xkl,hf] at hb;exact hb
theorem Inv.stkFree (I:Inv X aU σ H s):∀b∈frs X.stack,H b=none:=fun b hb=>by
 rcases xbl.mp (I.stkSub b hb) with e | hb
 ·rw[e];exact I.free
 ·obtain⟨_,o,ho,_⟩:=I.ok.funs.mem hb;exact I.base.free b o ho (I.ok.frf b hb) fun z=>I.ok.exfs b z hb
theorem Inv.step {g':Array GenState}{t':Nat}{d':Drawn}{ch:List Addr}(I:Inv X aU σ H s)
  (hch:∀b∈ch,(b∈X.ex\/X.s₀.heap.objs.size<=b)/\b≠X.env.locals/\(∀x c,X.env.cells.lookup x=some c->c≠b)/\∀p∈X.pn++aU,p.1≠b)
  (keep:∀b o,b≠X.env.locals->b∉X.fs->b∉ch->s.heap.get? b=some o->H b=none->h'.get? b=some o)
  (slot:∀b o,b≠X.env.locals->b∈X.fs->b∉ch->s.heap.get? b=some o->H b=none->∃sl,h'.get? b=some {o with slots:=sl})(free:∀b o,b∉ch->s.heap.get? b=some o->H b=none->H' b=none)
  (there:∀b o,b∉ch->s.heap.get? b=some o->∃o',h'.get? b=some o')
  (tups:∀b xs,H b=some (.tup xs)->H' b=some (.tup xs))(frzs:∀b o u,H b=some (.frz o u)->H' b=some (.frz o u))(tbls:∀b ps,H b=some (.tbl ps)->∃more,H' b=some (.tbl (ps++more)))
  (ns:∀m,s.heap.Ns X.env.locals m->h'.Ns X.env.locals m)(hok:HOk X.prog X.w H' h')(hg:AllBare g') :
  Inv X aU σ H' {s with heap:=h',gens:=g',drawn:=d',toks:=t'}:=by
 have neL:∀b o,X.s₀.heap.get? b=some o->b≠X.env.locals:=fun b o e=>xcd (xbh (xbo e) I.ok.above)
 have neC:∀b o,X.s₀.heap.get? b=some o->b∉X.ex->b∉ch:=fun b o e hx hb=>by
  rcases(hch b hb).1 with z | z
  ·exact hx z
  ·exact absurd (xbh (xbo e) z) (xfw _)
 have cellK:∀x c,X.env.cells.lookup x=some c->∀v,s.heap.IsCell c v->h'.IsCell c v:=fun x c e v hq0=>by
  obtain⟨o,ho,hd⟩:=hq0;have nch:c∉ch:=fun z=>(hch c z).2.2.1 x c e rfl
  by_cases hc:c∈X.fs
  ·obtain⟨sl,q⟩:=slot c o (I.cne x c e) hc nch ho (I.freeC x c e);exact⟨_,q,hd⟩
  ·exact⟨o,keep c o (I.cne x c e) hc nch ho (I.freeC x c e),hd⟩
 refine⟨I.ok,I.os,hg,⟨fun b o e n hb hx=>?_,fun b o e n hb hx=>?_,fun b o e n hx=>?_,fun b o e hx=>?_,fun b xs e=>tups b xs (I.base.tups b xs e),fun b o xs e=>frzs b o xs (I.base.frzs b o xs e),fun b ps e=>?_⟩,?_,fun x c e=>?_,?_,fun x c e=>?_,fun p hp=>?_,hok,I.len,I.hnd.map frzs⟩
 ·exact keep b o (neL b o e) hb (neC b o e hx) (I.base.keep b o e n hb hx) (I.base.free b o e n hx)
 ·obtain⟨sl,e1⟩:=I.base.slot b o e n hb hx;obtain⟨sl',e2⟩:=slot b _ (neL b o e) hb (neC b o e hx) e1 (I.base.free b o e n hx);exact⟨sl',e2⟩
 ·obtain⟨o',e1⟩:=I.base.there b o e hx;exact free b o' (neC b o e hx) e1 (I.base.free b o e n hx)
 ·obtain⟨o',e1⟩:=I.base.there b o e hx;exact there b o' (neC b o e hx) e1
 ·obtain⟨m1,e1⟩:=I.base.tbls b ps e;obtain⟨m2,e2⟩:=tbls b _ e1;exact⟨m1++m2,by rw[e2,Array.append_assoc]⟩
 ·obtain⟨m,hn,hl⟩:=I.loc;refine⟨m,ns m hn,fun i x v e1 e2 e3=>?_⟩;obtain⟨u,r,l⟩:=hl i x v e1 e2 e3;refine⟨u,r,?_⟩;rcases l with l | ⟨k,c,e,z⟩
  ·exact .inl l
  ·exact .inr ⟨k,c,e,cellK x c e _ z⟩
 ·obtain⟨v,z⟩:=I.cell x c e;exact⟨v,cellK x c e v z⟩
 ·obtain⟨m,⟨o,_,_,ho,_⟩,_⟩:=I.loc;exact free _ o (fun z=>(hch _ z).2.1 rfl) ho I.free
 ·obtain⟨v,o,ho,hd⟩:=I.cell x c e;exact free c o (fun z=>(hch c z).2.2.1 x c e rfl) ho (I.freeC x c e)
 ·obtain⟨e,n,ne,nf,d⟩:=I.pin p hp;have nch:p.1∉ch:=fun z=>(hch p.1 z).2.2.2 p hp rfl
  exact⟨keep p.1 p.2 ne nf nch e n,free p.1 p.2 nch e n,ne,nf,d⟩
theorem Inv.un {t':Nat}(I:Inv X aU σ H s)(u:Un X.fs [] H H' s.heap h')(hok:HOk X.prog X.w H' h'):Inv X aU σ H' {s with heap:=h',toks:=t'}:=by
 obtain⟨m,⟨o,es,ep,ho,r⟩,_⟩:=id I.loc;obtain⟨sl,hL⟩:=u.any ho I.free (by simp)
 exact I.step (g':=s.gens) (d':=s.drawn) (ch:=[]) (fun _ z=>nomatch z) (fun b o _ hb _ e n=>u.keep b o e n hb (by simp)) (fun b o _ hb _ e n=>u.slot b o e n hb (by simp)) (fun b o _ e n=>u.free b o e n (by simp)) (fun b o _ e=>u.there b o e (by simp)) u.tups u.frzs u.tbls (fun m' hm=>by
  obtain⟨o',es',ep',ho',r'⟩:=hm;rw[ho] at ho';cases ho'
  exact⟨_,es',ep',hL,r'⟩) hok I.bare
theorem Inv.call {g':Array GenState}{t':Nat}{d':Drawn}{ch:List Addr}(I:Inv X aU σ H s)(u:Un (frs X.stack) ch H H' s.heap h')(hok:HOk X.prog X.w H' h')(hg:AllBare g')
  (hch:∀b∈ch,(b∈X.ex\/X.s₀.heap.objs.size<=b)/\b≠X.env.locals/\(∀x c,X.env.cells.lookup x=some c->c≠b)/\∀p∈X.pn++aU,p.1≠b) :
  Inv X aU σ H' {s with heap:=h',gens:=g',drawn:=d',toks:=t'}:=by
 obtain⟨m,⟨o,es,ep,ho,r⟩,_⟩:=id I.loc;obtain⟨sl,hL⟩:=u.any ho I.free fun z=>(hch _ z).2.1 rfl
 exact I.step (ch:=ch) hch (fun b o hL hb hc e n=>u.keep b o e n (fun z=>(xbl.mp (I.stkSub b z)).elim hL hb) hc) (fun b o _ _ hc e n=>u.any e n hc) (fun b o hc e n=>u.free b o e n hc) (fun b o hc e=>u.there b o e hc) u.tups u.frzs u.tbls (fun m' hm=>by
  obtain⟨o',es',ep',ho',r'⟩:=hm;rw[ho] at ho';cases ho'
  exact⟨_,es',ep',hL,r'⟩) hok hg
theorem Inv.turned {t':Nat}{it:Addr}(I:Inv X aU σ H s)(k:∀b o,b≠it->s.heap.get? b=some o->h'.get? b=some o)(hn:H it=none)(hL:it≠X.env.locals)
  (h1:it∈X.ex\/X.s₀.heap.objs.size<=it)(h2:∀x c,X.env.cells.lookup x=some c->c≠it)(h3:∀p∈X.pn++aU,p.1≠it):Inv X aU σ H {s with heap:=h',toks:=t'}:=by
 have nit:∀b u,H b=some u->b≠it:=fun b u e z=>by rw[z,hn] at e;cases e
 refine I.step (g':=s.gens) (d':=s.drawn) (ch:=[it]) (fun b hb=>?_) (fun b o _ _ hc e _=>k b o (fun z=>hc (by simp[z])) e) (fun b o _ _ hc e _=>⟨o.slots,k b o (fun z=>hc (by simp[z])) e⟩) (fun _ _ _ _ n=>n)
  (fun b o hc e=>⟨o,k b o (fun z=>hc (by simp[z])) e⟩) (fun _ _ e=>e) (fun _ _ _ e=>e) (fun b ps e=>⟨#[],by rw[e];simp⟩) (fun m hm=>?_) (fun b u e=>?_) I.bare
 ·have e:b=it:=by simpa using hb
  subst e;exact⟨h1,hL,h2,h3⟩
 ·obtain⟨o,es,ep,ho,r⟩:=hm;exact⟨o,es,ep,k _ o (xda hL) ho,r⟩
 ·refine(I.hok b u e).stay (fun c v hc q=>k c v ?_ q) (fun _ q=>q) fun _ _ q=>q
  rcases hc with z | z
  ·rw[z];exact nit b u e
  ·exact nit c _ z
theorem Inv.tok (I:Inv X aU σ H s)(t:Nat):Inv X aU σ H {s with toks:=t}:=I.un (h':=s.heap) (t':=t) Un.refl I.hok
theorem Inv.kept {t':Nat}(I:Inv X aU σ H s)(k:∀b u,s.heap.get? b=some u->h'.get? b=some u):Inv X aU σ H {s with heap:=h',toks:=t'}:=I.un (Un.kept k) (I.hok.kept k)
theorem Inv.laid {a:Addr}{o:HO}{t':Nat}(I:Inv X aU σ H s)(k:∀b u,s.heap.get? b=some u->h'.get? b=some u)(hp:s.heap.objs.size<=a)(new:ObjOk X.prog X.w (upd H a o) h' a o) :
 Inv X aU σ (upd H a o) {s with heap:=h',toks:=t'}:=I.un (Un.laid k hp (I.hok.fresh hp)) (I.hok.laid k hp new)
theorem Inv.write {x e:Addr}{o:HO}{t':Nat}(I:Inv X aU σ H s)(mu:Mut (H x))(he:e=x\/H e=some (.own x))(k:∀b u,b≠e->s.heap.get? b=some u->h'.get? b=some u)(heo:∃u,h'.get? e=some u)
 (new:ObjOk X.prog X.w (upd H x o) h' x o):Inv X aU σ (upd H x o) {s with heap:=h',toks:=t'}:=I.un (Un.write mu he k heo) (I.hok.write mu he k heo new)
theorem Inv.pins_of {pins':List (Addr×Obj)}(I:Inv X aU σ H s)(h:∀p∈pins',s.heap.get? p.1=some p.2/\H p.1=none/\p.1≠X.env.locals/\p.1∉X.fs/\∀v,p.2.data≠.cell v):Inv X pins' σ H s :=
 ⟨I.ok,I.os,I.bare,I.base,I.loc,I.cell,I.free,I.freeC,fun p hp=>(xbt.mp hp).elim (fun z=>I.pin p (xim _ z)) (h p),I.hok,I.len,I.hnd⟩
theorem zpc {N:List Str}(hN:N.Nodup){i j:Nat}{x:Str}(a:N[i]?=some x)(b:N[j]?=some x):i=j:=by
 obtain⟨h1,e1⟩:=xbm.mp a;obtain⟨h2,e2⟩:=xbm.mp b;exact(List.getElem_inj hN).mp (e1.trans e2.symm)
theorem zrp {M:Model}{A:Around}{E:Value->Shared->Prop}{i:Nat}{x:Str}{v:V}{u:Value}{Q:Unit->Shared->Prop}(I:Inv X aU σ H s)(hN:X.N.Nodup)(hi:X.N[i]?=some x)(hx:Loc X.env.scope x)(r:RelV v u)
  (h:∀s',Inv X aU (σ.set i (some v)) H s'->(∃a,Heap.SameBut a s.heap s'.heap/\(a=X.env.locals\/X.env.cells.lookup x=some a))->Q () s')(hf:X.fn x=true\/X.env.scope.names.lookup x=some .local:=by first | exact .inl rfl | exact .inr rfl | assumption):wpAny M A (storeName X.env x u) Q E s:=by
 obtain⟨m,hn,hl⟩:=id I.loc;have hcls:(X.env.scope.kind==.class||(X.env.scope.kind==.module&&X.env.locals != X.env.globals))=false:=by rw[I.ok.kind];rfl
 have hiσ:i < σ.length:=by rw[I.len];exact(xbm.mp hi).1
 have cne:=I.cne;have tracked:∀{a:Addr} {h':Heap},(∃o,s.heap.get? a=some o/\H a=none)->Heap.SameBut a s.heap h'->HOk X.prog X.w H h':=fun {a h'} ha hs b ob e=>by
  obtain⟨_,_,hfree⟩:=ha;refine(I.hok b ob e).stay (fun c w' hc q=>(hs.2 c ?_).trans q) (fun _ q=>q) fun _ _ q=>q
  rintro rfl;rcases hc with rfl | hc
  ·rw[hfree] at e;cases e
  ·rw[hfree] at hc;cases hc
 rcases hx with hk | hk
 ·refine wpAny_storeName_local hk hn (fun h' hn' hs=>?_) hcls;obtain⟨oL,_,_,hoL,_⟩:=id hn;refine h _ ⟨I.ok,I.os,I.bare,⟨fun b o e n hb hx=>?_,fun b o e n hb hx=>?_,I.base.free,fun b o e hx=>?_,I.base.tups,I.base.frzs,I.base.tbls⟩,⟨_,hn',fun j y v' e1 e2 e3=>?_⟩,fun y c e=>?_,I.free,I.freeC,fun p hp=>?_,tracked ⟨oL,hoL,I.free⟩ hs,by simpa using I.len,I.hnd⟩ ⟨_,hs,.inl rfl⟩
  ·exact(hs.2 b (xcd (xbh (xbo e) I.ok.above))).trans (I.base.keep b o e n hb hx)
  ·obtain⟨sl,e1⟩:=I.base.slot b o e n hb hx;exact⟨sl,(hs.2 b (xcd (xbh (xbo e) I.ok.above))).trans e1⟩
  ·obtain⟨o',e1⟩:=I.base.there b o e hx;exact⟨o',(hs.2 b (xcd (xbh (xbo e) I.ok.above))).trans e1⟩
  ·by_cases hj:j=i
   ·subst hj;rw[hi] at e1;cases e1
    rw[xel hiσ] at e2;cases e2;exact⟨u,r,.inl ⟨hk,by simp⟩⟩
   ·rw[xdd (xda hj)] at e2;obtain⟨u',r',q⟩:=hl j y v' e1 e2 e3;refine⟨u',r',?_⟩;rcases q with⟨k,e⟩ | ⟨k,c,e,z⟩
    ·refine .inl ⟨k,?_⟩;have:y≠x:=fun e=>hj (zpc hN e1 (e ▸ hi))
     simp[this,e]
    ·exact .inr ⟨k,c,e,z.sameBut hs (cne y c e)⟩
  ·obtain⟨w',z⟩:=I.cell y c e;exact⟨w',z.sameBut hs (cne y c e)⟩
  ·obtain⟨e,n,ne,nf,d⟩:=I.pin p hp;exact⟨(hs.2 p.1 ne).trans e,n,ne,nf,d⟩
 ·have hfn:X.fn x=true:=by
   rcases hf with z | z
   ·exact z
   ·rw[z] at hk;cases hk
  obtain⟨c,hc⟩:=I.ok.has x (.inl hk);obtain⟨w',z⟩:=I.cell x c hc;refine wpAny_storeName_cell I.ok.kind hk hc z (fun h' hc' hs=>?_);obtain⟨oc,hoc,hocd⟩:=id z;refine h {s with heap:=h'} ⟨I.ok,I.os,I.bare,⟨fun b o e n hb hx=>?_,fun b o e n hb hx=>?_,I.base.free,fun b o e hx=>?_,I.base.tups,I.base.frzs,I.base.tbls⟩,⟨m,hn.sameBut hs (xda (cne x c hc)),fun j y v' e1 e2 e3=>?_⟩,fun y c' e=>?_,I.free,I.freeC,fun p hp=>?_,tracked ⟨oc,hoc,I.freeC x c hc⟩ hs,by simpa using I.len,I.hnd⟩ ⟨c,hs,.inr hc⟩
  ·exact(hs.2 b (xcd (xbh (xbo e) (I.ok.cab x c hfn hc)))).trans (I.base.keep b o e n hb hx)
  ·obtain⟨sl,e1⟩:=I.base.slot b o e n hb hx;exact⟨sl,(hs.2 b (xcd (xbh (xbo e) (I.ok.cab x c hfn hc)))).trans e1⟩
  ·obtain⟨o',e1⟩:=I.base.there b o e hx;exact⟨o',(hs.2 b (xcd (xbh (xbo e) (I.ok.cab x c hfn hc)))).trans e1⟩
  ·by_cases hj:j=i
   ·subst hj;rw[hi] at e1;cases e1
    rw[xel hiσ] at e2;cases e2;exact⟨u,r,.inr ⟨.inl hk,c,hc,hc'⟩⟩
   ·rw[xdd (xda hj)] at e2;obtain⟨u',r',q⟩:=hl j y v' e1 e2 e3;refine⟨u',r',?_⟩;rcases q with q | ⟨k,c',e,z'⟩
    ·exact .inl q
    ·refine .inr ⟨k,c',e,z'.sameBut hs ?_⟩;rintro rfl;exact hj (zpc hN e1 (I.ok.inj _ _ _ e hc ▸ hi))
  ·by_cases hcc:c'=c
   ·subst hcc;exact⟨_,hc'⟩
   ·obtain⟨w2,z2⟩:=I.cell y c' e;exact⟨w2,z2.sameBut hs hcc⟩
  ·obtain⟨e,n,ne,nf,d⟩:=I.pin p hp;refine⟨(hs.2 p.1 ?_).trans e,n,ne,nf,d⟩;intro q;rw[q,hoc] at e;have q':oc=p.2:=xco e;exact d w' (by rw[← q'];exact hocd)
theorem zju {M:Model}{A:Around}{E:Value->Shared->Prop}{i:Nat}{x:Str}{v:V}{u:Value}{Q:Unit->Shared->Prop}(I:Inv X aU σ H s)(hN:X.N.Nodup)(hi:X.N[i]?=some x)(hx:Loc X.env.scope x)(r:RelV v u)
  (h:∀s',Inv X aU (σ.set i (some v)) H s'->Q () s')(hf:X.fn x=true\/X.env.scope.names.lookup x=some .local:=by first | exact .inl rfl | exact .inr rfl | assumption):wpAny M A (storeName X.env x u) Q E s :=
 zrp I hN hi hx r (fun s' I' _=>h s' I') hf
theorem Inv.call' {s':Shared}{ch:List Addr}(I:Inv X aU σ H s)(ho:s'.os=s.os)(u:Un (frs X.stack) ch H H' s.heap s'.heap)(hok:HOk X.prog X.w H' s'.heap)(hg:AllBare s'.gens)
  (hch:∀b∈ch,(b∈X.ex\/X.s₀.heap.objs.size<=b)/\b≠X.env.locals/\(∀x c,X.env.cells.lookup x=some c->c≠b)/\∀p∈X.pn++aU,p.1≠b):Inv X aU σ H' s':=by
 obtain⟨h',g',d',t',o'⟩:=s';have e:o'=s.os:=ho;subst e;exact I.call (g':=g') (t':=t') (d':=d') u hok hg hch
end
noncomputable abbrev XK:=Value->Option Addr->Hp->Prop
noncomputable abbrev St:=List (Option V)
noncomputable abbrev VK:=V->Hp->Prop
noncomputable abbrev TE:=St->Hp->VK->Prop
noncomputable abbrev TT:=St->Hp->(Bool->Hp->Prop)->Prop
noncomputable abbrev TA:=St->Hp->(List V->Hp->Prop)->Prop
structure Ends where
 nx:St->Hp->Prop
 rt:VK
 bk:St->Hp->Prop:=fun _ _=>False
 ct:St->Hp->Prop:=fun _ _=>False
noncomputable abbrev TS:=Ends->St->Hp->Prop
noncomputable def EP (X:Cx) (aU:List (Addr×Obj)) (σ:St) (Q:VK) (u:Value) (s':Shared):Prop:=∃v H',Inv X aU σ H' s'/\RelV v u/\Q v H'
noncomputable def TP (X:Cx) (aU:List (Addr×Obj)) (σ:St) (Q:Bool->Hp->Prop) (b:Bool) (s':Shared):Prop:=∃H',Inv X aU σ H' s'/\Q b H'
noncomputable def AP (X:Cx) (aU:List (Addr×Obj)) (σ:St) (Q:List V->Hp->Prop) (us:List Value) (s':Shared):Prop:=∃vs H',Inv X aU σ H' s'/\Vals vs us/\Q vs H'
noncomputable def SP (X:Cx) (aU:List (Addr×Obj)) (D:Ends) (f:Flow) (s':Shared):Prop :=
 match f with
 | .next=>∃σ' H',Inv X aU σ' H' s'/\D.nx σ' H'
 | .brk=>∃σ' H',Inv X aU σ' H' s'/\D.bk σ' H'
 | .cont=>∃σ' H',Inv X aU σ' H' s'/\D.ct σ' H'
 | .ret u=>∃v σ' H',Inv X aU σ' H' s'/\RelV v u/\D.rt v H'
noncomputable def PE (X:Cx) (e:Expr) (t:TE):Prop :=
 ∀(aU:List (Addr×Obj)) (s:Shared) (σ:St) (H:Hp) (Q:VK),Inv X aU σ H s->t σ H Q->wpAny (model X.prog X.w) X.A (eval e X.env) (EP X aU σ Q) X.xe s
noncomputable def PT (X:Cx) (e:Expr) (t:TT):Prop :=
 ∀(aU:List (Addr×Obj)) (s:Shared) (σ:St) (H:Hp) (Q:Bool->Hp->Prop),Inv X aU σ H s->t σ H Q->wpAny (model X.prog X.w) X.A (isTrue e X.env (eval e X.env)) (TP X aU σ Q) X.xe s
noncomputable def PW (X:Cx) (e:Expr) (t:TT):Prop :=
 ∀(whole:Sem Value) (aU:List (Addr×Obj)) (s:Shared) (σ:St) (H:Hp) (Q:Bool->Hp->Prop),Inv X aU σ H s->t σ H Q->wpAny (model X.prog X.w) X.A (isTrue e X.env whole) (TP X aU σ Q) X.xe s
theorem PW.pt {X:Cx}{e:Expr}{t:TT}(h:PW X e t):PT X e t:=h _
noncomputable def PA (X:Cx) (es:List Expr) (t:TA):Prop :=
 ∀(pos:Pos) (aU:List (Addr×Obj)) (s:Shared) (σ:St) (H:Hp) (Q:List V->Hp->Prop),Inv X aU σ H s->t σ H Q->wpAny (model X.prog X.w) X.A (spliced (backTo pos (starEach es X.env))) (AP X aU σ Q) X.xe s
noncomputable def PS (X:Cx) (st:Stmt) (t:TS):Prop :=
 ∀(aU:List (Addr×Obj)) (s:Shared) (σ:St) (H:Hp) (D:Ends),Inv X aU σ H s->t D σ H->wpAny (model X.prog X.w) X.A (exec st X.env) (SP X aU D) X.xe s
noncomputable def PSs (X:Cx) (st:List Stmt) (t:TS):Prop :=
 ∀(aU:List (Addr×Obj)) (s:Shared) (σ:St) (H:Hp) (D:Ends),Inv X aU σ H s->t D σ H->wpAny (model X.prog X.w) X.A (execs st X.env) (SP X aU D) X.xe s
theorem thn {α:Type}{t:Sem α}{Q Q':α->Shared->Prop}{M:Model}{A:Around}{E:Value->Shared->Prop}{s:Shared}(h:wpAny M A t Q E s)(hQ:∀a s,Q a s->Q' a s):wpAny M A t Q' E s:=xev h hQ fun _ _ x=>x
section
variable {X:Cx}
noncomputable def tVar (i:Nat):TE:=fun σ H Q=>∃v,σ[i]?=some (some v)/\Q v H
noncomputable def tC (v:V):TE:=fun _ H Q=>Q v H
theorem zbew {i:Nat}{x:Str}{pos:Pos}(hN:X.N[i]?=some x)(hv:Vis X.env.scope x)(hd:(x==("__debug__" : Str))=false:=by decide)(hcd:(x==("__classdict__" : Str))=false:=by decide):PE X (.Name x pos) (tVar i):=by
 intro aU s σ H Q I h;obtain⟨v,e,h⟩:=h;obtain⟨m,hn,hl⟩:=I.loc;obtain⟨u,r,l⟩:=hl i x v hN e hv;have fin:EP X aU σ Q u s:=⟨v,H,I,r,h⟩
 rcases l with⟨hk,hm⟩ | ⟨hk,c,hc,hcell⟩
 ·exact wpAny_Name (wpAny_loadName_local I.ok.kind hk hn hm fin) hd
 ·rcases hk with hk | hk
  ·exact wpAny_Name (wpAny_loadName_cell I.ok.kind hk hc hcell fin) hd
  ·exact wpAny_Name (wpAny_loadName_free I.ok.kind hk hc hcell fin hcd) hd
theorem zbfa {i j pos}:PE X (.Constant (.int i) j pos) (tC (.int i)):=fun _ _ _ H _ I h=>wpAny_Constant_int ⟨.int i,H,I.tok _,⟨_,rfl⟩,h⟩
theorem zbjr {b j pos}:PE X (.Constant (.bool b) j pos) (tC (.bl b)):=fun _ _ _ H _ I h=>Constant_bool ⟨.bl b,H,I,rfl,h⟩
noncomputable def Gl (X:Cx) (x:Str):Prop:=X.env.kindOf x=some .globalImplicit
theorem zbbe {E:Value->Shared->Prop}{aU:List (Addr×Obj)}{s:Shared}{σ:St}{H:Hp}{x:Str}{u:Value}{pos:Pos}{Q:Value->Shared->Prop}(I:Inv X aU σ H s)(hg:Gl X x)(hm:X.mg x=some u)(h:Q u s)
  (hd:(x==("__debug__" : Str))=false:=by decide):wpAny (model X.prog X.w) X.A (eval (.Name x pos) X.env) Q E s :=
 Calls.Name_function_global I.ok.kind hg (Calls.loadGlobal_global (by rw[I.ok.glob];exact I.mod.glob.keeps I.bk) hm h) hd
theorem zko {E:Value->Shared->Prop}{aU:List (Addr×Obj)}{s:Shared}{σ:St}{H:Hp}{x:Str}{u:Value}{pos:Pos}{Q:Value->Shared->Prop}(I:Inv X aU σ H s)(hg:Gl X x)(hm:X.mg x=none)(hv:bootBuiltins x=some u)(h:Q u s)
  (hn:x≠"__name__":=by decide)(hd:(x==("__debug__" : Str))=false:=by decide):wpAny (model X.prog X.w) X.A (eval (.Name x pos) X.env) Q E s:=by
 obtain⟨mb,h1,h2⟩:=I.mod.blt;exact Calls.Name_function_global I.ok.kind hg (Calls.loadGlobal_builtin (by rw[I.ok.glob];exact I.mod.glob.keeps I.bk) hm (by rw[I.ok.blt];exact h1.keeps I.bk) ((h2 x hn).trans hv) h) hd
theorem zft {x:Str}{v:V}{u:Value}{pos:Pos}(hg:Gl X x)(hm:X.mg x=none)(hv:bootBuiltins x=some u)(r:RelV v u)(hn:x≠"__name__":=by decide)(hd:(x==("__debug__" : Str))=false:=by decide):PE X (.Name x pos) (tC v) :=
 fun _ _ _ H _ I h=>zko I hg hm hv ⟨v,H,I,r,h⟩ hn hd
variable {a b:Expr}{ta tb:TE}{pos:Pos}
noncomputable def PC (X:Cx) (op:CmpOp) (a b:Expr) (t:TE):Prop :=
 ∀(aU:List (Addr×Obj)) (s:Shared) (σ:St) (H:Hp) (Q:VK),Inv X aU σ H s->t σ H Q ->
  wpAny (model X.prog X.w) X.A (eval a X.env) (fun v s₁=>wpAny (model X.prog X.w) X.A (eval b X.env) (fun u s₂=>wpAny (model X.prog X.w) X.A (compareOp op v u) (EP X aU σ Q) X.xe s₂) X.xe s₁) X.xe s
noncomputable def tB (t:TE):TT:=fun σ H Q=>t σ H fun x H1=>∃c,x=.bl c/\Q c H1
theorem zbel {op:CmpOp}{t:TE}(h:PC X op a b t)(h1:behindInMarks op b=false:=by first | exact nobehind _ (by decide) (by decide) | rfl):PT X (.Compare a [op] [b] pos) (tB t):=by
 intro aU s σ H Q I hw;refine wpAny_isTrue_Compare1 (thn (h aU s σ H _ I hw) fun v s1 h1=>thn h1 fun u s2 h2=>thn h2 fun c s3 hq0=>?_) h1;obtain⟨x,H1,I1,r1,q1⟩:=hq0;obtain⟨d,rfl,q⟩:=q1;cases r1;exact xgi ⟨H1,I1,q⟩
variable {tA tB':TT}{rest:List Expr}
noncomputable def tOr (t u:TT):TT:=fun σ H Q=>t σ H fun c H1=>if c=true then Q true H1 else u σ H1 Q
noncomputable def tNot (t:TT):TT:=fun σ H Q=>t σ H fun c H1=>Q (!c) H1
theorem pw_and1 (ha:PT X a tA):PW X (.BoolOp .And [a] pos) tA:=by
 intro wh aU s σ H Q I h;refine isTrue_and (thn (ha aU s σ H Q I h) fun c s1 e=>?_);cases c with
 | true=>exact isTrue_and_nil e
 | false=>exact e
theorem pw_or1 (ha:PT X a tA):PW X (.BoolOp .Or [a] pos) tA:=by
 intro wh aU s σ H Q I h;refine isTrue_or (thn (ha aU s σ H Q I h) fun c s1 e=>?_);cases c with
 | false=>exact isTrue_or_nil e
 | true=>exact e
theorem pw_or (ha:PT X a tA)(hb:PW X (.BoolOp .Or (b::rest) pos) tB'):PW X (.BoolOp .Or (a::b::rest) pos) (tOr tA tB'):=by
 intro wh aU s σ H Q I h;refine isTrue_or (thn (ha aU s σ H _ I h) fun c s1 hq0=>?_);obtain⟨H1,I1,q1⟩:=hq0;cases c with
 | true=>exact⟨H1,I1,q1⟩
 | false=>exact hb wh aU s1 σ H1 Q I1 q1
theorem zbek (ha:PT X a tA):PT X (.UnaryOp .Not a pos) (tNot tA):=by
 intro aU s σ H Q I h;exact isTrue_not (ha aU s σ H (fun c H1=>Q (!c) H1) I h)
noncomputable def tAndV (ta tb:TE):TE:=fun σ H Q=>ta σ H fun x H1=>∃c,x=.bl c/\if c=true then tb σ H1 Q else Q (.bl false) H1
noncomputable def tNotV (ta:TE):TE:=fun σ H Q=>ta σ H fun x H1=>∃c,x=.bl c/\Q (.bl (!c)) H1
theorem zbey {op}{t:TE}(h:PE X a t):PE X (.BoolOp op [a] pos) t:=fun aU s σ H Q I hw=>BoolOp_one (h aU s σ H Q I hw)
theorem zbfb (ha:PE X a ta)(hb:PE X (.BoolOp .And (b::rest) pos) tb):PE X (.BoolOp .And (a::b::rest) pos) (tAndV ta tb):=by
 intro aU s σ H Q I h;refine BoolOp_and (thn (ha aU s σ H _ I h) fun v s1 hq0=>?_);obtain⟨x,H1,I1,r1,q1⟩:=hq0;obtain⟨c,rfl,q1⟩:=q1;cases r1;refine xgi ?_;cases c with
 | true=>exact hb aU s1 σ H1 Q I1 q1
 | false=>exact⟨.bl false,H1,I1,rfl,q1⟩
theorem zbez (ha:PE X a ta):PE X (.UnaryOp .Not a pos) (tNotV ta):=by
 intro aU s σ H Q I h;refine UnaryOp_ (thn (ha aU s σ H _ I h) fun v s1 hq0=>?_);obtain⟨x,H1,I1,r1,q1⟩:=hq0;obtain⟨c,rfl,q1⟩:=q1;cases r1;exact not_of (xgi ⟨.bl (!c),H1,I1,rfl,q1⟩)
end
noncomputable def SqL (K:Fg) (H:Hp) (a:Addr) (xs:List V):Prop :=
 Rd H a (.lst xs) \/
  ∃(o:Obj) (its:Array Value) (n:Nat), K.lookup a=some o/\o.cls=.type "list"/\o.dict=none/\o.data=.seq its n/\its.size<=sizeLine/\Vals xs its.toList
noncomputable def SqT (K:Fg) (H:Hp) (a:Addr) (xs:List V):Prop :=
 Rd H a (.tup xs) \/
  ∃(o:Obj) (its:Array Value) (n:Nat), K.lookup a=some o/\o.cls=.type "tuple"/\o.data=.seq its n/\its.size<=sizeLine/\Vals xs its.toList
noncomputable def absV:Value->Option V
 | .none=>some .non
 | .bool b=>some (.bl b)
 | .int i _=>some (.int i)
 | .str x _=>some (.str x)
 | .bytes b _=>some (.byt b)
 | .float b _=>some (.flt b)
 | .ref a=>some (.ref a)
 | .type n=>some (.ty n)
 | _=>none
theorem RelV.abs {x:V}{u:Value}(r:RelV x u):absV u=some x:=by
 cases x with
 | non=>cases r;rfl
 | bl _=>cases r;rfl
 | int _=>obtain⟨t,rfl⟩:=r;rfl
 | str _=>obtain⟨t,rfl⟩:=r;rfl
 | byt _=>obtain⟨t,rfl⟩:=r;rfl
 | flt _=>obtain⟨t,rfl⟩:=r;rfl
 | ref _=>cases r;rfl
 | ty _=>cases r;rfl
theorem RelV.inj {x y:V}{u:Value}(r:RelV x u)(q:RelV y u):x=y:=xco (r.abs.symm.trans q.abs)
theorem Vals.inj:∀{xs ys:List V} {us:List Value},Vals xs us->Vals ys us->xs=ys
 | _,_,_,.nil,.nil=>rfl
 | _,_,_,.cons r t,.cons r' t'=>by rw[r.inj r',Vals.inj t t']
section
variable {X:Cx}{aU:List (Addr×Obj)}{σ:St}{H:Hp}{s:Shared}{a:Addr}{xs ys:List V}
theorem SqL.of {K:Fg}(h:H a=some (.lst xs)):SqL K H a xs:=.inl (.inl h)
theorem SqT.of {K:Fg}(h:H a=some (.tup xs)):SqT K H a xs:=.inl (.inl h)
theorem Inv.list (I:Inv X aU σ H s)(h:SqL X.K H a xs):∃its:List Value,Vals xs its/\PlainL s.heap a its.toArray/\xs.length<=sizeLine:=by
 rcases h with h | ⟨o,its,n,hk,hc,hd,hs,hz,r⟩
 ·obtain⟨z,its,n,r,e⟩:=h.ok I.hok;exact⟨its,r,⟨_,n,e,rfl,rfl,rfl⟩,z⟩
 ·refine⟨its.toList,r,⟨o,n,I.kIn a o hk,hc,hd,by simpa using hs⟩,?_⟩;have e:=r.length;simp only[xca] at e;lia
theorem Inv.tuple (I:Inv X aU σ H s)(h:SqT X.K H a xs):∃its:List Value,Vals xs its/\IsTup s.heap a its.toArray/\xs.length<=sizeLine:=by
 rcases h with h | ⟨o,its,n,hk,hc,hs,hz,r⟩
 ·obtain⟨z,its,r,p⟩:=h.ok I.hok;exact⟨its,r,p,z⟩
 ·refine⟨its.toList,r,⟨o,I.kIn a o hk,hc,n,by simpa using hs⟩,?_⟩;have e:=r.length;simp only[xca] at e;lia
theorem Inv.list_inj (I:Inv X aU σ H s)(h:SqL X.K H a xs)(h':SqL X.K H a ys):xs=ys:=by
 obtain⟨its,r,⟨o,n,e,_,_,d⟩,_⟩:=I.list h;obtain⟨its',r',⟨o',n',e',_,_,d'⟩,_⟩:=I.list h';rw[e] at e';cases e'
 rw[d] at d';injection d' with d1 _
 have:its=its':=by simpa using congrArg Array.toList d1
 subst this;exact r.inj r'
theorem Inv.tuple_inj (I:Inv X aU σ H s)(h:SqT X.K H a xs)(h':SqT X.K H a ys):xs=ys:=by
 obtain⟨its,r,⟨o,e,_,n,d⟩,_⟩:=I.tuple h;obtain⟨its',r',⟨o',e',_,n',d'⟩,_⟩:=I.tuple h';rw[e] at e';cases e'
 rw[d] at d';injection d' with d1 _
 have:its=its':=by simpa using congrArg Array.toList d1
 subst this;exact r.inj r'
end
noncomputable abbrev Cx.wish (X:Cx) (E:Value->Shared->Prop):Cx:={X with xe:=E}
noncomputable abbrev Cx.nox (X:Cx):Cx:=X.wish fun _ _=>False
theorem Cx.Ok.wish {X:Cx}(ok:X.Ok)(E:Value->Shared->Prop):(X.wish E).Ok :=
 ⟨ok.mod,ok.kind,ok.glob,ok.blt,ok.above,ok.inj,ok.has,ok.cab,ok.hd,ok.frames,ok.stk,ok.exf,ok.bs,ok.bsz,ok.noex,ok.exfs,ok.funs,ok.frf⟩
theorem Cx.Ok.unwish {X:Cx}{E:Value->Shared->Prop}(ok:(X.wish E).Ok):X.Ok :=
 ⟨ok.mod,ok.kind,ok.glob,ok.blt,ok.above,ok.inj,ok.has,ok.cab,ok.hd,ok.frames,ok.stk,ok.exf,ok.bs,ok.bsz,ok.noex,ok.exfs,ok.funs,ok.frf⟩
section
variable {X:Cx}{aU:List (Addr×Obj)}{σ:St}{H:Hp}{s:Shared}{E:Value->Shared->Prop}
theorem Inv.wish (I:Inv X aU σ H s)(E:Value->Shared->Prop):Inv (X.wish E) aU σ H s:=⟨I.ok.wish E,I.os,I.bare,I.base,I.loc,I.cell,I.free,I.freeC,I.pin,I.hok,I.len,I.hnd⟩
theorem Inv.unwish (I:Inv (X.wish E) aU σ H s):Inv X aU σ H s:=⟨I.ok.unwish,I.os,I.bare,I.base,I.loc,I.cell,I.free,I.freeC,I.pin,I.hok,I.len,I.hnd⟩
theorem SP.unwish {D:Ends}{f:Flow}{s':Shared}(h:SP (X.wish E) aU D f s'):SP X aU D f s':=by
 cases f with
 | next=>obtain⟨σ',H',I,q⟩:=h;exact⟨σ',H',I.unwish,q⟩
 | brk=>obtain⟨σ',H',I,q⟩:=h;exact⟨σ',H',I.unwish,q⟩
 | cont=>obtain⟨σ',H',I,q⟩:=h;exact⟨σ',H',I.unwish,q⟩
 | ret u=>obtain⟨v,σ',H',I,r,q⟩:=h;exact⟨v,σ',H',I.unwish,r,q⟩
theorem PSs.nox {st:List Stmt}{t:TS}(h:PSs X.nox st t):PSs X st t:=fun aU s σ H D I hw =>
 xev (h aU s σ H D (I.wish _) hw) (fun _ _ q=>q.unwish) fun _ _ z=>False.elim z
end
section
variable {X:Cx}{st:Stmt}{rest:List Stmt}{t u:TS}{e:Expr}{te:TE}{pos:Pos}
noncomputable def tNext:TS:=fun D σ H=>D.nx σ H
noncomputable def tSeq (t u:TS):TS:=fun D σ H=>t {D with nx:=u D} σ H
theorem zzo:PSs X [] tNext:=fun _ _ σ H _ I h=>xki ⟨σ,H,I,h⟩
theorem zvv (h1:PS X st t)(h2:PSs X rest u):PSs X (st::rest) (tSeq t u):=by
 intro aU s σ H D I h;refine wpAny_execs_cons (thn (h1 aU s σ H {D with nx:=u D} I h) fun f s1 q=>?_);cases f with
 | next =>
  obtain⟨σ',H',I',q⟩:=q;exact h2 aU s1 σ' H' D I' q
 | ret v=>exact q
 | brk=>exact q
 | cont=>exact q
theorem zzn (h1:PS X st t):PSs X [st] t:=by
 intro aU s σ H D I h;refine wpAny_execs_cons (thn (h1 aU s σ H D I h) fun f s1 q=>?_);cases f with
 | next=>exact xki q
 | ret v=>exact q
 | brk=>exact q
 | cont=>exact q
theorem Inv.quiet {aU:List (Addr×Obj)}{σ:St}{H:Hp}{s:Shared}(I:Inv X aU σ H s):interactive X.env=false:=by simp[interactive,I.ok.kind]
noncomputable def tDrop (te:TE):TS:=fun D σ H=>te σ H fun _ H1=>D.nx σ H1
theorem zzp (he:PE X e te)(hs:swapsWith e none pos.line X.env=pure false:=by rfl):PS X (.Expr e pos) (tDrop te):=by
 intro aU s σ H D I h;exact wpAny_Expr_any (thn (he aU s σ H _ I h) fun v s1 ⟨x,H1,I1,r1,q1⟩=>⟨σ,H1,I1,q1⟩) I.quiet hs
noncomputable def tRet (te:TE):TS:=fun D σ H=>te σ H D.rt
theorem zben (he:PE X e te):PS X (.Return (some e) pos) (tRet te):=by
 intro aU s σ H D I h;exact wpAny_Return_some (thn (he aU s σ H _ I h) fun v s1 ⟨x,H1,I1,r1,q1⟩=>⟨x,σ,H1,I1,r1,q1⟩)
noncomputable def tIfS (c:TT) (t u:TS):TS:=fun D σ H=>c σ H fun b H1=>if b=true then t D σ H1 else u D σ H1
theorem zbjo {c:Expr}{a b:List Stmt}{tc:TT}(hc:PT X c tc)(ha:PSs X a t)(hb:PSs X b u):PS X (.If c a b pos) (tIfS tc t u):=by
 intro aU s σ H D I h;refine wpAny_If (thn (hc aU s σ H _ I h) fun d s1 hq0=>?_);obtain⟨H1,I1,q1⟩:=hq0;cases d with
 | true=>exact ha aU s1 σ H1 D I1 q1
 | false=>exact hb aU s1 σ H1 D I1 q1
end
noncomputable abbrev TG:=V->St->Hp->(St->Hp->Prop)->Prop
noncomputable abbrev TGs:=List V->St->Hp->(St->Hp->Prop)->Prop
noncomputable def PG (X:Cx) (target:Expr) (t:TG):Prop :=
 ∀(aU:List (Addr×Obj)) (s:Shared) (σ:St) (H:Hp) (v:V) (u:Value) (Q:St->Hp->Prop),Inv X aU σ H s->RelV v u->t v σ H Q ->
  wpAny (model X.prog X.w) X.A (assign target X.env u) (fun _ s'=>∃σ' H',Inv X aU σ' H' s'/\Q σ' H') X.xe s
noncomputable def PGs (X:Cx) (ts:List Expr) (t:TGs):Prop :=
 ∀(aU:List (Addr×Obj)) (s:Shared) (σ:St) (H:Hp) (vs:List V) (us:List Value) (Q:St->Hp->Prop),Inv X aU σ H s->Vals vs us->t vs σ H Q ->
  wpAny (model X.prog X.w) X.A (assignInOrder ((assignEach ts X.env).map (·.2)) us) (fun _ s'=>∃σ' H',Inv X aU σ' H' s'/\Q σ' H') X.xe s
noncomputable abbrev TSet:=V->V->V->Hp->(Hp->Prop)->Prop
noncomputable def PSet (X:Cx) (t:TSet):Prop :=
 ∀(aU:List (Addr×Obj)) (s:Shared) (σ:St) (H:Hp) (o i v:V) (ov iv u:Value) (Q:Hp->Prop),Inv X aU σ H s->RelV o ov->RelV i iv->RelV v u->t o i v H Q ->
  wpAny (model X.prog X.w) X.A (setItem ov iv u) (fun _ s'=>∃H',Inv X aU σ H' s'/\Q H') X.xe s
noncomputable abbrev TIp:=V->V->Hp->VK->Prop
noncomputable def PIp (X:Cx) (op:Operator) (t:TIp):Prop :=
 ∀(aU:List (Addr×Obj)) (s:Shared) (σ:St) (H:Hp) (x y:V) (v u:Value) (Q:VK),Inv X aU σ H s->RelV x v->RelV y u->t x y H Q ->
  wpAny (model X.prog X.w) X.A (inplaceOp op v u) (EP X aU σ Q) X.xe s
section
variable {X:Cx}{pos:Pos}
noncomputable def gName (i:Nat):TG:=fun v σ H Q=>Q (σ.set i (some v)) H
theorem zbab {i:Nat}{x:Str}(hN:X.N.Nodup)(hi:X.N[i]?=some x)(hx:Loc X.env.scope x)(hf:X.fn x=true\/X.env.scope.names.lookup x=some .local:=by first | exact .inl rfl | exact .inr rfl | assumption):PG X (.Name x pos) (gName i):=by
 intro aU s σ H v u Q I r h;exact wpAny_assign_Name (zju I hN hi hx r (fun s' I'=>⟨_,H,I',h⟩) hf)
noncomputable def gNil:TGs:=fun vs σ H Q=>vs=[]/\Q σ H
noncomputable def gCons (t:TG) (u:TGs):TGs:=fun vs σ H Q=>∃v r,vs=v::r/\t v σ H fun σ' H'=>u r σ' H' Q
theorem zbaa:PGs X [] gNil:=by
 intro aU s σ H vs us Q I r h;obtain⟨e,h⟩:=h;subst e;cases r;exact assignInOrder_nil ⟨σ,H,I,h⟩
theorem zwa {e:Expr}{es:List Expr}{t:TG}{u:TGs}(h1:PG X e t)(h2:PGs X es u)
  (hs:(assignEach (e::es) X.env).map (·.2)=assign e X.env::(assignEach es X.env).map (·.2):=by rfl):PGs X (e::es) (gCons t u):=by
 intro aU s σ H vs us Q I r h;obtain⟨v,vr,e1,h⟩:=h;subst e1;cases r with
 | cons r rr =>
  rw[hs];refine assignInOrder_cons (thn (h1 aU s σ H _ _ _ I r h) fun _ s1 hq0=>?_);obtain⟨σ1,H1,I1,q1⟩:=hq0;exact h2 aU s1 σ1 H1 _ _ Q I1 rr q1
noncomputable def gTup (K:Fg) (n:Nat) (t:TGs):TG:=fun v σ H Q=>∃a xs,v=.ref a/\SqT K H a xs/\xs.length=n/\t xs σ H Q
theorem zbeu {es:List Expr}{k:Nat}{t:TGs}{n:Nat}(hc:X.calm=true)(h:PGs X es t)
  (hn:(assignEach es X.env).length=n:=by rfl)(hst:(assignEach es X.env).findIdx? (·.1)=none:=by rfl):PG X (.Tuple es k pos) (gTup X.K n t):=by
 intro aU s σ H v u Q I r hw;obtain⟨a,xs,e1,hq,hl,hw⟩:=hw;subst e1;cases r;obtain⟨its,rv,ht,hz⟩:=I.tuple hq;refine assign_Tuple_tuple (I.ok.hd hc) ht (by simp[hn,← hl,rv.length]) hst fun h' hx=>?_
 have I1:Inv X aU σ H {s with heap:=h'}:=I.kept (t':=s.toks) fun b o e=>hx b o (xcd (xbo e)) e
 exact h aU _ σ H xs _ Q I1 (by simpa using rv) hw
noncomputable def gSub (to ti:TE) (t:TSet):TG:=fun v σ H Q=>to σ H fun o H1=>ti σ H1 fun i H2=>t o i v H2 fun H3=>Q σ H3
theorem zbev {o i:Expr}{to ti:TE}{t:TSet}(ho:PE X o to)(hi:PE X i ti)(hs:PSet X t)
  (ha:∀v,assign (.Subscript o i pos) X.env v=(do
   let ov ← holding [v] (eval o X.env)
   let iv ← holding [v,ov] (eval i X.env)
   standAt pos
   holding [v,ov,iv] (setItem ov iv v)
   release [v,ov,iv] []):=by intro _;rfl):PG X (.Subscript o i pos) (gSub to ti t):=by
 intro aU s σ H v u Q I r h;rw[ha];refine xba (xdx (thn (ho aU s σ H _ I h) fun ov s1 hq0=>?_));obtain⟨x,H1,I1,r1,q1⟩:=hq0;refine xba (xdx (thn (hi aU s1 σ H1 _ I1 q1) fun iv s2 hq0=>?_));obtain⟨y,H2,I2,r2,q2⟩:=hq0;refine xba (wpAny_standAt (xba (xdx (thn (hs aU s2 σ H2 x y v ov iv u _ I2 r1 r2 r q2) fun _ s3 hq0=>?_))));obtain⟨H3,I3,q3⟩:=hq0;exact wpAny_release ⟨σ,H3,I3,q3⟩
noncomputable def tAsg (te:TE) (g:TG):TS:=fun D σ H=>te σ H fun x H1=>g x σ H1 D.nx
theorem zbeq {tg e:Expr}{te:TE}{g:TG}(he:PE X e te)(hg:PG X tg g)(hs:swapsWithSole [tg] e pos.line X.env=pure false:=by rfl)(hw:swappedStores [tg] e X.env=pure none:=by rfl)
  (h1:(assignEach [tg] X.env).map (·.2)=[assign tg X.env]:=by rfl):PS X (.Assign [tg] e pos) (tAsg te g):=by
 intro aU s σ H D I h;refine wpAny_Assign_stores (thn (he aU s σ H _ I h) fun v s1 hq0=>?_) hs hw;obtain⟨x,H1,I1,r1,q1⟩:=hq0;rw[h1];exact thn (hg aU s1 σ H1 x v _ I1 r1 q1) fun _ s2 q=>q
theorem zbem {i:Nat}{x:Str}{e:Expr}{te:TE}{pos':Pos}(hN:X.N.Nodup)(hi:X.N[i]?=some x)(hx:Loc X.env.scope x)(he:PE X e te)(hs:swapsWith e (some (.Name x pos')) pos.line X.env=pure false:=by rfl)(hf:X.fn x=true\/X.env.scope.names.lookup x=some .local:=by first | exact .inl rfl | exact .inr rfl | assumption) :
  PS X (.Assign [.Name x pos'] e pos) (tAsg te (gName i)):=by
 intro aU s σ H D I h;refine wpAny_Assign_Name (thn (he aU s σ H _ I h) fun v s1 hq0=>?_) hs;obtain⟨y,H1,I1,r1,q1⟩:=hq0;exact zju I1 hN hi hx r1 (fun s2 I2=>⟨_,H1,I2,q1⟩) hf
noncomputable def tAug (i:Nat) (te:TE) (ti:TIp):TS:=fun D σ H=>∃x,σ[i]?=some (some x)/\te σ H fun y H1=>ti x y H1 fun z H2=>D.nx (σ.set i (some z)) H2
theorem zbep {i:Nat}{x:Str}{e:Expr}{te:TE}{op:Operator}{ti:TIp}{pos':Pos}(hN:X.N.Nodup)(hi:X.N[i]?=some x)(hx:Loc X.env.scope x)(he:PE X e te)(ho:PIp X op ti)(hf:X.fn x=true\/X.env.scope.names.lookup x=some .local:=by first | exact .inl rfl | exact .inr rfl | assumption) :
  PS X (.AugAssign (.Name x pos') op e pos) (tAug i te ti):=by
 intro aU s σ H D I h;obtain⟨v,e1,h⟩:=h;obtain⟨m,hn,hl⟩:=I.loc;have vis:Vis X.env.scope x:=by rcases hx with k | k;exact .inl k;exact .inr (.inl k)
 obtain⟨u,r,l⟩:=hl i x v hi e1 vis;refine wpAny_AugAssign_Name ?_;have go:wpAny (model X.prog X.w) X.A (eval e X.env) (fun w s₂=>wpAny (model X.prog X.w) X.A (inplaceOp op u w) (fun r s₃=>wpAny (model X.prog X.w) X.A (storeName X.env x r) (fun _=>SP X aU D .next) X.xe s₃) X.xe s₂) X.xe s:=by
  refine thn (he aU s σ H _ I h) fun w s1 hq0=>?_
  obtain⟨y,H1,I1,r1,q1⟩:=hq0;refine thn (ho aU s1 σ H1 v y u w _ I1 r r1 q1) fun z s2 hq0=>?_
  obtain⟨zv,H2,I2,r2,q2⟩:=hq0;exact zju I2 hN hi hx r2 (fun s3 I3=>⟨_,H2,I3,q2⟩) hf
 rcases l with⟨hk,hm⟩ | ⟨hk,c,hc,hcell⟩
 ·exact wpAny_loadName_local I.ok.kind hk hn hm go
 ·rcases hk with hk | hk
  ·exact wpAny_loadName_cell I.ok.kind hk hc hcell go
  ·rcases hx with k | k
   ·have:X.env.scope.names.lookup x=some .free:=hk;rw[k] at this;cases this
   ·have:X.env.scope.names.lookup x=some .free:=hk;rw[k] at this;cases this
noncomputable def ipI (f:Int->Int->Int):TIp:=fun x y H Q=>∃i j,x=.int i/\y=.int j/\Q (.int (f i j)) H
theorem zbga:PIp X .Sub (ipI fun i j=>i - j):=by
 intro aU s σ H x y v u Q I r1 r2 h;obtain⟨i,j,e1,e2,q⟩:=h;subst e1;subst e2
 obtain⟨t,rfl⟩:=r1;obtain⟨t',rfl⟩:=r2;exact isub_int ⟨.int _,H,I.tok _,⟨_,rfl⟩,q⟩
noncomputable def tWhile (c:TT) (tb:TS):TS:=fun D σ H=>∃W:Nat->St->Hp->Prop,(∃m,W m σ H)/\∀m σ H,W m σ H ->
 c σ H fun b H1=>if b=true then ∃N:St->Hp->Prop,(∀σ' H',N σ' H'->∃m',m' < m/\W m' σ' H')/\tb {D with nx:=N,ct:=N,bk:=D.nx} σ H1 else D.nx σ H1
theorem zvw {c:Expr}{body:List Stmt}{tc:TT}{tb:TS}(hp:PassesOwn (model X.prog X.w) X.A X.env X.xe)(hc:PT X c tc)(hb:PSs X body tb):PS X (.While c body [] pos) (tWhile tc tb):=by
 intro aU s σ H D I h;obtain⟨W,⟨m0,w0⟩,turn⟩:=h;refine wpAny_While (codeAny_whileLoop (fun n s'=>∃σ' H',Inv X aU σ' H' s'/\W n σ' H') ?_ m0 ⟨σ,H,I,w0⟩);rintro n s1 ⟨σ1,H1,I1,w1⟩;refine xhg hp (thn (hc aU s1 σ1 H1 _ I1 (turn n σ1 H1 w1)) fun b s2 hq0=>?_);obtain⟨H2,I2,q2⟩:=hq0;cases b with
 | true =>
  obtain⟨N,hN,q2⟩:=q2;rw[if_pos rfl];refine xhg hp (thn (hb aU s2 σ1 H2 _ I2 q2) fun f s3 q3=>?_);cases f with
  | next =>
   obtain⟨σ3,H3,I3,n3⟩:=q3;obtain⟨m',hm,w3⟩:=hN σ3 H3 n3;exact⟨m',hm,σ3,H3,I3,w3⟩
  | cont =>
   obtain⟨σ3,H3,I3,n3⟩:=q3;obtain⟨m',hm,w3⟩:=hN σ3 H3 n3;exact⟨m',hm,σ3,H3,I3,w3⟩
  | brk=>exact q3
  | ret v=>exact q3
 | false =>
  rw[if_neg xfd];exact xki ⟨σ1,H2,I2,q2⟩
end
structure It where
 go:Nat->Hp->Prop
 yld:Nat->Hp->V->Hp->Prop
 stop:Nat->Hp->Prop
noncomputable def FpOk (X:Cx) (aU:List (Addr×Obj)) (H:Hp) (b:Addr):Prop :=
 H b=none/\b≠X.env.locals/\b∉X.fs/\(b∈X.ex\/X.s₀.heap.objs.size<=b)/\(∀x c,X.env.cells.lookup x=some c->c≠b)/\∀p∈X.pn++aU,p.1≠b
theorem Inv.fpOk {X:Cx}{aU:List (Addr×Obj)}{σ:St}{H H':Hp}{s:Shared}{b:Addr}(I:Inv X aU σ H s)(hb:s.heap.objs.size<=b)(hn:H' b=none):FpOk X aU H' b:=by
 refine⟨hn,xgv (xbh I.lt hb),I.nofs hb,.inr (xbb I.sz hb),fun x c e z=>?_,fun p hp z=>?_⟩
 ·obtain⟨v,q⟩:=I.cell x c e;exact absurd (xbh q.lt (by rw[z];exact hb)) (xfw _)
 ·exact absurd (xbh (xbo (I.pin p hp).1) (by rw[z];exact hb)) (xfw _)
structure Turn (P:Program) (w:World) (K:Fg) (tg:Expr) (J:It) (fp:List Addr) (it:Addr) (tn:Nat->Heap->Prop):Prop where
 mem:it∈fp
 obj:∀i h,tn i h->∀b∈fp,∃o,h.get? b=some o/\∀v,o.data≠.cell v
 keep:∀i h h',tn i h->(∀b∈fp,∀o,h.get? b=some o->h'.get? b=some o)->tn i h'
 item:∀(X:Cx),X.prog=P->X.w=w->X.K=K->X.calm=true->∀(i:Nat) (aU:List (Addr×Obj)) (s:Shared) (σ:St) (H:Hp) (E:Value->Shared->Prop),Inv X aU σ H s->(∀b∈fp,FpOk X aU H b)->tn i s.heap->J.go i H ->
  wpAny (model P w) X.A (pyNext (.ref it)) (fun r s1=>∃u,r=some u /\
   wpAny (model P w) X.A (letOwnedTupleGo tg (.ref it) u) (fun _ s2=>∃x H',Inv X aU σ H' s2/\RelV x u/\J.yld i H x H'/\tn (i+1) s2.heap/\∀b∈fp,H' b=none) E s1) E s
 done:∀(X:Cx),X.prog=P->X.w=w->X.K=K->X.calm=true->∀(i:Nat) (aU:List (Addr×Obj)) (s:Shared) (σ:St) (H:Hp) (E:Value->Shared->Prop),Inv X aU σ H s->(∀b∈fp,FpOk X aU H b)->tn i s.heap->J.stop i H ->
  wpAny (model P w) X.A (pyNext (.ref it)) (fun r s1=>r=none/\Inv X aU σ H s1) E s
 self:∀(A:Around) (i:Nat) (s:Shared) (Q:Value->Shared->Prop) (E:Value->Shared->Prop),tn i s.heap->Q (.ref it) s->wpAny (model P w) A (pyIter (.ref it)) Q E s
noncomputable abbrev TI:=St->Hp->(It->Hp->Prop)->Prop
noncomputable def PIE (X:Cx) (aU:List (Addr×Obj)) (σ:St) (tg:Expr) (R:It->Hp->Prop) (itv:Value) (s2:Shared):Prop :=
 ∃(it:Addr) (fp:List Addr) (tn:Nat->Heap->Prop) (J:It) (H':Hp),itv=.ref it/\Inv X aU σ H' s2/\Turn X.prog X.w X.K tg J fp it tn/\tn 0 s2.heap/\(∀b∈fp,FpOk X aU H' b)/\R J H'
noncomputable def PI (X:Cx) (tg iter:Expr) (wi:TI):Prop :=
 ∀(aU:List (Addr×Obj)) (s:Shared) (σ:St) (H:Hp) (R:It->Hp->Prop),Inv X aU σ H s->wi σ H R ->
  wpAny (model X.prog X.w) X.A (eval iter X.env) (fun v s1=>wpAny (model X.prog X.w) X.A (pyIter v) (PIE X aU σ tg R) X.xe s1) X.xe s
theorem zbdp {M:Model}{A:Around}{E:Value->Shared->Prop}{s:Shared}{tg:Expr}{it:Addr}{u:Value}{o:Obj}{n:String}{vs:Array Value}{Q:Unit->Shared->Prop}(ho:s.heap.get? it=some o)(hc:o.cls=.type n)(hd:o.data=.fields vs)
    (hn:["enumerate", "zip", "dict_itemiterator", "dict_reverseitemiterator", "odict_iterator", "itertools.zip_longest", "itertools.pairwise"].contains n=false)(hQ:Q () s):wpAny M A (letOwnedTupleGo tg (.ref it) u) Q E s:=by
  unfold letOwnedTupleGo;cases tg <;> first
    | exact xbc hQ
    | (cases u <;> first
        | exact xbc hQ
        | (refine xba (wpAny_load ho ?_)
           rw[hc, hd];show wpAny M A (if(["enumerate", "zip", "dict_itemiterator", "dict_reverseitemiterator", "odict_iterator", "itertools.zip_longest", "itertools.pairwise"].contains n&&vs[0]?==some (rawInt _))=true then _ else _) Q E s
           rw[if_neg (by intro h; rw[hn, Bool.false_and] at h; cases h)]
           exact xbc hQ))
noncomputable def Itl (K:Fg) (a:Addr):It :=
 ⟨fun i H=>∃xs x,SqL K H a xs/\xs[i]?=some x,fun i H x H'=>H'=H/\∀xs,SqL K H a xs->xs[i]?=some x,fun i H=>∃xs,SqL K H a xs/\xs.length<=i⟩
noncomputable def Itt (K:Fg) (a:Addr):It :=
 ⟨fun i H=>∃xs x,SqT K H a xs/\xs[i]?=some x,fun i H x H'=>H'=H/\∀xs,SqT K H a xs->xs[i]?=some x,fun i H=>∃xs,SqT K H a xs/\xs.length<=i⟩
noncomputable def Itr (lo:Int) (n:Nat):It:=⟨fun i _=>i < n,fun i H x H'=>H'=H/\x=.int (lo+i),fun i _=>n<=i⟩
theorem zrm {P:Program}{w:World}{K:Fg}{tg:Expr}(a it:Addr):Turn P w K tg (Itl K a) [it] it (fun i h=>h.IsListIter it a i) where
 mem:=by simp
 obj:=fun i h st b hb=>by
  have e:b=it:=by simpa using hb
  subst e;obtain⟨o,e,c,d⟩:=st;exact⟨o,e,fun v z=>by rw[d] at z;cases z⟩
 keep:=fun i h h' st k=>st.at fun o e=>k it (by simp) o e
 item:=by
  intro X hP hw hK hc i aU s σ H E I hf st hg;subst hP hw hK;obtain⟨xs,x,hq,hx⟩:=hg;obtain⟨its,rv,p,hz⟩:=I.list hq;obtain⟨u,hu,ru⟩:=rv.get hx;obtain⟨f0,f1,f2,f3,f4,f5⟩:=hf it (by simp);refine wpAny_pyNext_list_item st p.isList (x:=u) (by simpa using hu) fun h' st' sb=>?_
  have I1:Inv X aU σ H {s with heap:=h'}:=I.turned (t':=s.toks) (fun b o hb e=>(sb.2 b hb).trans e) f0 f1 f3 f4 f5;obtain⟨o,e,c,d⟩:=id st';exact⟨u,rfl,zbdp (s:={s with heap:=h'}) e c d (by decide) ⟨x,H,I1,ru,⟨rfl,fun ys hy=>by rw[I.list_inj hy hq];exact hx⟩,st',fun b hb=>(hf b hb).1⟩⟩
 done:=by
  intro X hP hw hK hc i aU s σ H E I hf st hg;subst hP hw hK;obtain⟨xs,hq,hx⟩:=hg;obtain⟨its,rv,p,hz⟩:=I.list hq;obtain⟨f0,f1,f2,f3,f4,f5⟩:=hf it (by simp);have hl:=rv.length;exact wpAny_pyNext_list_end (I.ok.hd hc) st p.isList (by simp;lia) fun h' eb=>⟨rfl,I.turned (t':=s.toks) (fun b o hb e=>eb b o hb e) f0 f1 f3 f4 f5⟩
 self:=fun _ _ _ _ _ st h=>wpAny_pyIter_listiter st h
theorem zog {P:Program}{w:World}{K:Fg}{tg:Expr}(a it:Addr):Turn P w K tg (Itt K a) [it] it (fun i h=>h.IsTupleIter it a i) where
 mem:=by simp
 obj:=fun i h st b hb=>by
  have e:b=it:=by simpa using hb
  subst e;obtain⟨o,e,c,d⟩:=st;exact⟨o,e,fun v z=>by rw[d] at z;cases z⟩
 keep:=fun i h h' st k=>st.at fun o e=>k it (by simp) o e
 item:=by
  intro X hP hw hK hc i aU s σ H E I hf st hg;subst hP hw hK;obtain⟨xs,x,hq,hx⟩:=hg;obtain⟨its,rv,p,hz⟩:=I.tuple hq;obtain⟨u,hu,ru⟩:=rv.get hx;obtain⟨f0,f1,f2,f3,f4,f5⟩:=hf it (by simp);refine wpAny_pyNext_tuple_item st (show s.heap.IsTuple a its.toArray from p) (x:=u) (by simpa using hu) fun h' st' sb=>?_
  have I1:Inv X aU σ H {s with heap:=h'}:=I.turned (t':=s.toks) (fun b o hb e=>(sb.2 b hb).trans e) f0 f1 f3 f4 f5;obtain⟨o,e,c,d⟩:=id st';exact⟨u,rfl,zbdp (s:={s with heap:=h'}) e c d (by decide) ⟨x,H,I1,ru,⟨rfl,fun ys hy=>by rw[I.tuple_inj hy hq];exact hx⟩,st',fun b hb=>(hf b hb).1⟩⟩
 done:=by
  intro X hP hw hK hc i aU s σ H E I hf st hg;subst hP hw hK;obtain⟨xs,hq,hx⟩:=hg;obtain⟨its,rv,p,hz⟩:=I.tuple hq;obtain⟨f0,f1,f2,f3,f4,f5⟩:=hf it (by simp);have hl:=rv.length;exact wpAny_pyNext_tuple_end (I.ok.hd hc) st (show s.heap.IsTuple a its.toArray from p) (by simp;lia) fun h' eb=>⟨rfl,I.turned (t':=s.toks) (fun b o hb e=>eb b o hb e) f0 f1 f3 f4 f5⟩
 self:=fun _ _ _ _ _ st h=>wpAny_pyIter_tupleiter st h
theorem zio {P:Program}{w:World}{K:Fg}{tg:Expr}(it:Addr)(lo:Int)(n:Nat):Turn P w K tg (Itr lo n) [it] it (fun i h=>IsRangeIter h it (lo+(i:Nat) * 1) ((n:Int) - (i:Nat)) 1) where
 mem:=by simp
 obj:=fun i h st b hb=>by
  have e:b=it:=by simpa using hb
  subst e
  exact⟨_,st,fun v z=>by
   have z':Data.fields _=Data.cell v:=z
   cases z'⟩
 keep:=fun i h h' st k=>k it (by simp) _ st
 item:=by
  intro X hP hw hK hc i aU s σ H E I hf st hg;subst hP hw hK;obtain⟨f0,f1,f2,f3,f4,f5⟩:=hf it (by simp);have W:=Walks.range (prog:=X.prog) (w:=X.w) (I.ok.hd hc) it lo 1 n;refine W.item i s _ _ hg st fun v h' tk hv st' kk=>?_
  obtain⟨t,rfl⟩:=hv;have I1:Inv X aU σ H {s with heap:=h',toks:=tk}:=I.turned (fun b o hb e=>kk b o (by simpa using hb) e) f0 f1 f3 f4 f5;refine⟨_, rfl, zbdp (s:={ s with heap:=h', toks:=tk }) (n:="range_iterator") st' rfl rfl (by decide) ⟨.int (lo + i), H, I1,⟨t, ?_⟩,⟨rfl, rfl⟩, st', fun b hb=>(hf b hb).1⟩⟩
  rw[Int.mul_one]
 done:=by
  intro X hP hw hK hc i aU s σ H E I hf st hg;subst hP hw hK;obtain⟨f0,f1,f2,f3,f4,f5⟩:=hf it (by simp);exact wpAny_pyNext_range_end (I.ok.hd hc) st (by have:n<=i:=hg;lia) fun h' eb=>⟨rfl,I.turned (t':=s.toks) (fun b o hb e=>eb b o hb e) f0 f1 f3 f4 f5⟩
 self:=fun _ _ _ _ _ st h=>wpAny_pyIter_rangeiter st h
section
variable {X:Cx}{tg:Expr}
noncomputable def iList (K:Fg) (tl:TE):TI:=fun σ H R=>tl σ H fun x H1=>∃a,x=.ref a/\(∃xs,SqL K H1 a xs)/\R (Itl K a) H1
noncomputable def iTup (K:Fg) (tl:TE):TI:=fun σ H R=>tl σ H fun x H1=>∃a,x=.ref a/\(∃xs,SqT K H1 a xs)/\R (Itt K a) H1
theorem zzx {l:Expr}{tl:TE}(hl:PE X l tl):PI X tg l (iList X.K tl):=by
 intro aU s σ H R I h;refine thn (hl aU s σ H _ I h) fun v s1 hq0=>?_
 obtain⟨x,H1,I1,r1,q1⟩:=hq0;obtain⟨a,e,⟨xs,hq⟩,q⟩:=q1;subst e;cases r1;obtain⟨its,rv,p,hz⟩:=I1.list hq;refine xjp p.isList ?_;refine⟨s1.heap.objs.size,[s1.heap.objs.size],_,_,H1,rfl,I1.kept (t':=s1.toks) fun b o e=>xbd _ e,zrm a _,⟨_,xbr _ rfl,rfl,rfl⟩,fun b hb=>?_,q⟩;have e:b=s1.heap.objs.size:=by simpa using hb
 subst e;exact I1.fpOk (xbf _) (I1.hok.fresh (xbf _))
theorem zbet {l:Expr}{tl:TE}(hl:PE X l tl):PI X tg l (iTup X.K tl):=by
 intro aU s σ H R I h;refine thn (hl aU s σ H _ I h) fun v s1 hq0=>?_
 obtain⟨x,H1,I1,r1,q1⟩:=hq0;obtain⟨a,e,⟨xs,hq⟩,q⟩:=q1;subst e;cases r1;obtain⟨its,rv,p,hz⟩:=I1.tuple hq;refine xgx (show s1.heap.IsTuple a its.toArray from p) ?_;refine⟨s1.heap.objs.size,[s1.heap.objs.size],_,_,H1,rfl,I1.kept (t':=s1.toks) fun b o e=>xbd _ e,zog a _,⟨_,xbr _ rfl,rfl,rfl⟩,fun b hb=>?_,q⟩;have e:b=s1.heap.objs.size:=by simpa using hb
 subst e;exact I1.fpOk (xbf _) (I1.hok.fresh (xbf _))
theorem zor {aU:List (Addr×Obj)}{σ:St}{H:Hp}{s:Shared}{R:It->Hp->Prop}{E:Value->Shared->Prop}{lo hi:Int}{t u v:Tok}{tk:Nat}(I:Inv X aU σ H s)(h1:-(2 ^ 62)<=lo)(h2:lo < 2 ^ 62)(h3:-(2 ^ 62)<=hi)(h4:hi < 2 ^ 62)
  (q:R (Itr lo (hi - lo).toNat) H):wpAny (model X.prog X.w) X.A (pyIter (.ref s.heap.objs.size)) (PIE X aU σ tg R) E { s with heap:=s.heap.push { cls:=.type "range", data:=.fields #[.int lo t, .int hi u, .int 1 v] }, toks:=tk }:=by
 refine wpAny_pyIter_range (IsRange.new ..) (small_one h1 h2 h3 h4) ?_;have I1:Inv X aU σ H { s with heap:=s.heap.push { cls:=.type "range", data:=.fields #[.int lo t, .int hi u, .int 1 v] }, toks:=tk }:=I.kept fun b o e=>xbd _ e
 refine⟨(s.heap.push { cls:=.type "range", data:=.fields #[.int lo t, .int hi u, .int 1 v] }).objs.size,[(s.heap.push { cls:=.type "range", data:=.fields #[.int lo t, .int hi u, .int 1 v] }).objs.size], _, _, H, rfl,
  I1.kept (t':=tk) fun b o e=>xbd _ e,zio _ lo (hi - lo).toNat,?_,fun b hb=>?_,q⟩
 ·have e1:lo+((0:Nat):Int) * 1=lo:=by simp
  have e2:(((hi - lo).toNat:Nat):Int) - ((0:Nat):Int)=Builtin.Range.rangeSize lo hi 1:=by rw[rangeSize_one];split<;>lia
  show IsRangeIter _ _ (lo+((0:Nat):Int) * 1) ((((hi - lo).toNat:Nat):Int) - ((0:Nat):Int)) 1;rw[e1,e2];exact xbr _ rfl
 ·have e:b=(s.heap.push { cls:=.type "range", data:=.fields #[.int lo t, .int hi u, .int 1 v] }).objs.size:=by simpa using hb
  subst e;exact I1.fpOk (xbf _) (I1.hok.fresh (xbf _))
noncomputable def iRng1 (ta:TA):TI:=fun σ H R=>ta σ H fun vs H1=>∃j:Int,vs=[.int j]/\-(2 ^ 62)<=j/\j < 2 ^ 62/\R (Itr 0 j.toNat) H1
noncomputable def iRng2 (ta:TA):TI:=fun σ H R=>ta σ H fun vs H1=>∃i j:Int,vs=[.int i,.int j]/\(-(2 ^ 62)<=i/\i < 2 ^ 62/\-(2 ^ 62)<=j/\j < 2 ^ 62)/\R (Itr i (j - i).toNat) H1
theorem zsd {a:Expr}{ta:TA}{p pos:Pos}(hg:Gl X "range")(hm:X.mg "range"=none)(ha:PA X [a] ta)(hs:starEach [a] X.env=[(false, eval a X.env)]:=by rfl):PI X tg (.Call (.Name "range" p) [a] [] pos) (iRng1 ta):=by
 intro aU s σ H R I h;refine Call_ (zko I hg hm boot_range (xfq (thn (ha pos aU s σ H _ I h) fun us s1 hq0=>?_) hs rfl));obtain⟨vs,H1,I1,r1,q1⟩:=hq0;obtain⟨j,e,q1,q2,q⟩:=q1;subst e;cases r1 with
 | cons r rr =>
  cases rr;obtain⟨t,rfl⟩:=r;exact call_range_1 (zor I1 (by lia) (by lia) q1 q2 (by simpa using q))
theorem zsc {a b:Expr}{ta:TA}{p pos:Pos}(hg:Gl X "range")(hm:X.mg "range"=none)(ha:PA X [a, b] ta)(hs:starEach [a, b] X.env=[(false, eval a X.env),(false, eval b X.env)]:=by rfl)(hs2:starEach [b] X.env=[(false, eval b X.env)]:=by rfl) :
  PI X tg (.Call (.Name "range" p) [a, b] [] pos) (iRng2 ta):=by
 intro aU s σ H R I h;refine Call_ (zko I hg hm boot_range (xfq (thn (ha pos aU s σ H _ I h) fun us s1 ⟨vs,H1,I1,r1,q1⟩=>?_) (by rw[hs,hs2]) (by rw[hs2];rfl)));obtain⟨i,j,e,⟨q1,q2,q3,q4⟩,q⟩:=q1;subst e;cases r1 with
 | cons r rr =>
  cases rr with
  | cons r' rr =>
   cases rr;obtain⟨t,rfl⟩:=r;obtain⟨t',rfl⟩:=r';exact call_range_2 (zor I1 q1 q2 q3 q4 q)
noncomputable def tFor (wi:TI) (g:TG) (tb:TS):TS:=fun D σ H=>wi σ H fun J H1=>∃W:Nat->Nat->St->Hp->Prop,(∃m,W 0 m σ H1)/\∀i m σ H,W i m σ H ->
 (J.stop i H/\D.nx σ H)\/(J.go i H/\∃N:St->Hp->Prop,(∀σ' H',N σ' H'->∃m',m' < m/\W (i+1) m' σ' H')/\∀x H',J.yld i H x H'->g x σ H' fun σ2 H2=>tb {D with nx:=N,ct:=N,bk:=D.nx} σ2 H2)
noncomputable def pinsAt (fp:List Addr) (h:Heap):List (Addr×Obj):=fp.filterMap fun b=>(h.get? b).map fun o=>(b,o)
theorem zea {fp:List Addr}{h:Heap}{b:Addr}{o:Obj}(hb:b∈fp)(e:h.get? b=some o):(b,o)∈pinsAt fp h:=xkr.mpr ⟨b,hb,by rw[e];rfl⟩
theorem zsf {fp:List Addr}{h:Heap}{p:Addr×Obj}(hp:p∈pinsAt fp h):p.1∈fp/\h.get? p.1=some p.2:=by
 obtain⟨b,hb,e⟩:=xkr.mp hp;cases q:h.get? b with
 | none=>rw[q] at e;cases e
 | some o =>
  rw[q] at e;have e':(b,o)=p:=xco e;subst e';exact⟨hb,q⟩
theorem Inv.pinned {aU:List (Addr×Obj)}{σ:St}{H:Hp}{s:Shared}{fp:List Addr}(I:Inv X aU σ H s)(hf:∀b∈fp,FpOk X aU H b)(ho:∀b∈fp,∃o,s.heap.get? b=some o/\∀v,o.data≠.cell v):Inv X (aU++pinsAt fp s.heap) σ H s :=
 I.pins_of fun p hp=>(xbt.mp hp).elim (fun z=>I.pin p (xdh _ z)) fun z=>by
  obtain⟨hb,e⟩:=zsf z;obtain⟨f0,f1,f2,_⟩:=hf p.1 hb;obtain⟨o,e',d⟩:=ho p.1 hb;rw[e] at e';cases e'
  exact⟨e,f0,f1,f2,d⟩
theorem Inv.unpinned {aU pl:List (Addr×Obj)}{σ:St}{H:Hp}{s:Shared}(I:Inv X (aU++pl) σ H s):Inv X aU σ H s:=I.pins_of fun p hp=>I.pin p (xdh _ (xim _ hp))
theorem zbeo {iter:Expr}{body:List Stmt}{wi:TI}{g:TG}{tb:TS}{pos:Pos}(hp:PassesOwn (model X.prog X.w) X.A X.env X.xe)(hc:X.calm=true)(hi:PI X tg iter wi)(hg:PG X tg g)(hb:PSs X body tb)
  (hs:∀x,foldedSetIterable iter X.env x=pure x:=by intro _;rfl):PS X (.For tg iter body [] pos) (tFor wi g tb):=by
 intro aU s σ H D I h;refine wpAny_For (thn (hi aU s σ H _ I h) fun v s1 h1=>thn h1 fun itv s2 h2=>?_) hs;obtain⟨it,fp,tn,J,H2,e,I2,T,st2,f2,W,⟨m0,w0⟩,turn⟩:=h2;subst e;have stat:∀{H':Hp},(∀b∈fp,H' b=none)->∀b∈fp,FpOk X aU H' b:=fun hn b hb=>⟨hn b hb,(f2 b hb).2⟩
 refine codeAny_forLoop_any (fun n s'=>∃i σ' H',Inv X aU σ' H' s'/\tn i s'.heap/\(∀b∈fp,H' b=none)/\W i n σ' H') ?_ m0 ⟨0,σ,H2,I2,st2,fun b hb=>(f2 b hb).1,w0⟩;rintro n s3 ⟨i,σ3,H3,I3,st3,fr3,w3⟩;rcases turn i n σ3 H3 w3 with⟨stop,qn⟩ | ⟨go,N,hN,step⟩
 ·refine xhg hp (thn (T.done X rfl rfl rfl hc i aU s3 σ3 H3 X.xe I3 (stat fr3) st3 stop) fun r s4 hq0=>?_);obtain⟨hr,I4⟩:=hq0;subst hr;exact xki ⟨σ3,H3,I4,qn⟩
 ·refine xhg hp (thn (T.item X rfl rfl rfl hc i aU s3 σ3 H3 X.xe I3 (stat fr3) st3 go) fun r s4 hq0=>?_);obtain⟨u,hr,h4⟩:=hq0;subst hr;refine xhg hp (thn h4 fun _ s5 hq0=>?_);obtain⟨x,H5,I5,r5,y5,st5,fr5⟩:=hq0;have I5':=I5.pinned (stat fr5) (T.obj _ _ st5);refine xhg hp (thn (hg _ s5 σ3 H5 x u _ I5' r5 (step x H5 y5)) fun _ s6 hq0=>?_);obtain⟨σ6,H6,I6,q6⟩:=hq0;refine xhg hp (thn (hb _ s6 σ6 H6 _ I6 q6) fun f s7 q7=>?_);have again:∀{σ7:St} {H7:Hp},Inv X (aU++pinsAt fp s5.heap) σ7 H7 s7->N σ7 H7->∃m,m < n/\∃i σ' H',Inv X aU σ' H' s7/\tn i s7.heap/\(∀b∈fp,H' b=none)/\W i m σ' H':=fun {σ7 H7} I7 n7=>by
   obtain⟨m',hm,w7⟩:=hN σ7 H7 n7;refine⟨m',hm,i+1,σ7,H7,I7.unpinned,T.keep _ _ _ st5 fun b hb o e=>(I7.pin (b,o) (xdh _ (xdh _ (zea hb e)))).1,fun b hb=>?_,w7⟩;obtain⟨o,e,d⟩:=T.obj _ _ st5 b hb;exact(I7.pin (b,o) (xdh _ (xdh _ (zea hb e)))).2.1
  cases f with
  | next=>obtain⟨σ7,H7,I7,n7⟩:=q7;exact again I7 n7
  | cont=>obtain⟨σ7,H7,I7,n7⟩:=q7;exact again I7 n7
  | brk=>obtain⟨σ7,H7,I7,q7⟩:=q7;exact⟨σ7,H7,I7.unpinned,q7⟩
  | ret v=>obtain⟨x7,σ7,H7,I7,r7,q7⟩:=q7;exact⟨x7,σ7,H7,I7.unpinned,r7,q7⟩
end
noncomputable abbrev R2:=V->V->Hp->VK->Prop
noncomputable def OpR (X:Cx) (f:Value->Value->Sem Value) (r:R2):Prop :=
 ∀(aU:List (Addr×Obj)) (s:Shared) (σ:St) (H:Hp) (x y:V) (v u:Value) (Q:VK),Inv X aU σ H s->RelV x v->RelV y u->r x y H Q ->
  wpAny (model X.prog X.w) X.A (f v u) (EP X aU σ Q) X.xe s
noncomputable def UnR (X:Cx) (f:Value->Sem Value) (r:V->Hp->VK->Prop):Prop :=
 ∀(aU:List (Addr×Obj)) (s:Shared) (σ:St) (H:Hp) (x:V) (v:Value) (Q:VK),Inv X aU σ H s->RelV x v->r x H Q ->
  wpAny (model X.prog X.w) X.A (f v) (EP X aU σ Q) X.xe s
noncomputable def CallR (X:Cx) (f:Value) (r:List V->Hp->VK->Prop):Prop :=
 ∀(aU:List (Addr×Obj)) (s:Shared) (σ:St) (H:Hp) (xs:List V) (us:List Value) (Q:VK),Inv X aU σ H s->Vals xs us->r xs H Q ->
  wpAny (model X.prog X.w) X.A (call f us) (EP X aU σ Q) X.xe s
noncomputable def TruR (X:Cx) (r:V->Hp->(Bool->Hp->Prop)->Prop):Prop :=
 ∀(aU:List (Addr×Obj)) (s:Shared) (σ:St) (H:Hp) (x:V) (v:Value) (Q:Bool->Hp->Prop),Inv X aU σ H s->RelV x v->r x H Q ->
  wpAny (model X.prog X.w) X.A (truthy v) (TP X aU σ Q) X.xe s
noncomputable def tOp (r:R2) (ta tb:TE):TE:=fun σ H Q=>ta σ H fun x H1=>tb σ H1 fun y H2=>r x y H2 Q
noncomputable def tUn (r:V->Hp->VK->Prop) (ta:TE):TE:=fun σ H Q=>ta σ H fun x H1=>r x H1 Q
noncomputable def rI (C:Int->Int->Prop) (g:Int->Int->V):R2:=fun x y H Q=>∃i j,x=.int i/\y=.int j/\C i j/\Q (g i j) H
noncomputable def rI0 (g:Int->Int->V):R2:=fun x y H Q=>∃i j,x=.int i/\y=.int j/\Q (g i j) H
noncomputable def rU (g:Int->V):V->Hp->VK->Prop:=fun x H Q=>∃i,x=.int i/\Q (g i) H
section
variable {X:Cx}{a b c:Expr}{ta tb tc:TE}{pos:Pos}
theorem binT (ha:PE X a ta)(hb:PE X b tb){aU:List (Addr×Obj)}{s:Shared}{σ:St}{H:Hp}{R:V->V->Hp->Prop}(I:Inv X aU σ H s)
  (h:ta σ H fun x H1=>tb σ H1 fun y H2=>R x y H2){Q:Value->Shared->Prop}{f:Value->Value->Sem Value}
  (hf:∀v u s2 x y H2,Inv X aU σ H2 s2->RelV x v->RelV y u->R x y H2->wpAny (model X.prog X.w) X.A (f v u) Q X.xe s2) :
  wpAny (model X.prog X.w) X.A (eval a X.env) (fun v s₁=>wpAny (model X.prog X.w) X.A (eval b X.env) (fun u s₂=>wpAny (model X.prog X.w) X.A (f v u) Q X.xe s₂) X.xe s₁) X.xe s:=by
 refine thn (ha aU s σ H _ I h) fun v s1 hq0=>?_
 obtain⟨x,H1,I1,r1,q1⟩:=hq0;refine thn (hb aU s1 σ H1 _ I1 q1) fun u s2 hq0=>?_
 obtain⟨y,H2,I2,r2,q2⟩:=hq0;exact hf v u s2 x y H2 I2 r1 r2 q2
theorem zbir {op:Operator}{r:R2}(ho:OpR X (binaryOp op) r)(ha:PE X a ta)(hb:PE X b tb):PE X (.BinOp a op b pos) (tOp r ta tb):=by
 intro aU s σ H Q I h;exact wpAny_BinOp (binT ha hb I h fun v u s2 x y H2 I2 rx ry q=>ho aU s2 σ H2 x y v u Q I2 rx ry q)
theorem zbjp {op:UnaryOp}{r:V->Hp->VK->Prop}(ho:UnR X (unaryOp op) r)(ha:PE X a ta):PE X (.UnaryOp op a pos) (tUn r ta):=by
 intro aU s σ H Q I h;exact UnaryOp_ (thn (ha aU s σ H _ I h) fun v s1 ⟨x,H1,I1,r1,q1⟩=>ho aU s1 σ H1 x v Q I1 r1 q1)
theorem opI {f:Value->Value->Sem Value}{C:Int->Int->Prop}{g:Int->Int->Int}
  (rule:∀(i j:Int) (t u:Tok) (s:Shared) (Q:Value->Shared->Prop) (E:Value->Shared->Prop),C i j->Q (.int (g i j) s.toks) {s with toks:=s.toks+1}->wpAny (model X.prog X.w) X.A (f (.int i t) (.int j u)) Q E s) :
  OpR X f (rI C fun i j=>.int (g i j)):=by
 intro aU s σ H x y v u Q I rx ry h;obtain⟨i,j,rfl,rfl,hc,q⟩:=h;obtain⟨t,rfl⟩:=rx;obtain⟨t',rfl⟩:=ry;exact rule i j t t' s _ _ hc ⟨.int (g i j),H,I.tok _,⟨_,rfl⟩,q⟩
theorem opI0 {f:Value->Value->Sem Value}{g:Int->Int->Int}
  (rule:∀(i j:Int) (t u:Tok) (s:Shared) (Q:Value->Shared->Prop) (E:Value->Shared->Prop),Q (.int (g i j) s.toks) {s with toks:=s.toks+1}->wpAny (model X.prog X.w) X.A (f (.int i t) (.int j u)) Q E s) :
  OpR X f (rI0 fun i j=>.int (g i j)):=by
 intro aU s σ H x y v u Q I rx ry h;obtain⟨i,j,rfl,rfl,q⟩:=h;obtain⟨t,rfl⟩:=rx;obtain⟨t',rfl⟩:=ry;exact rule i j t t' s _ _ ⟨.int (g i j),H,I.tok _,⟨_,rfl⟩,q⟩
theorem opB0 {f:Value->Value->Sem Value}{g:Int->Int->Bool}
  (rule:∀(i j:Int) (t u:Tok) (s:Shared) (Q:Value->Shared->Prop) (E:Value->Shared->Prop),Q (.bool (g i j)) s->wpAny (model X.prog X.w) X.A (f (.int i t) (.int j u)) Q E s) :
  OpR X f (rI0 fun i j=>.bl (g i j)):=by
 intro aU s σ H x y v u Q I rx ry h;obtain⟨i,j,rfl,rfl,q⟩:=h;obtain⟨t,rfl⟩:=rx;obtain⟨t',rfl⟩:=ry;exact rule i j t t' s _ _ ⟨.bl (g i j),H,I,rfl,q⟩
noncomputable def CPow (i j:Int):Prop:=0<=j/\j<=1000000/\i.natAbs < 2 ^ 64
noncomputable def CMul (i j:Int):Prop:=(-(2 ^ 64) < i/\i < 2 ^ 64)\/(-(2 ^ 64) < j/\j < 2 ^ 64)
theorem CMul.ok {i j:Int}(h:CMul i j):IntMulOk i j:=by
 rcases h with⟨h1,h2⟩ | ⟨h1,h2⟩
 ·exact .of_left (intBits_le_64 h1 h2)
 ·exact .of_right (intBits_le_64 h1 h2)
theorem zbfi:OpR X (binaryOp .Add) (rI0 fun i j=>.int (i+j)):=opI0 fun _ _ _ _ _ _ _ q=>add_int q
theorem zbfe:OpR X (binaryOp .Sub) (rI0 fun i j=>.int (i - j)):=opI0 fun _ _ _ _ _ _ _ q=>sub_int q
theorem znd:OpR X (binaryOp .Mult) (rI CMul fun i j=>.int (i * j)):=opI fun _ _ _ _ _ _ _ hc q=>mul_int q hc.ok
theorem ziu:OpR X (binaryOp .Mod) (rI (fun _ j=>0 < j) fun i j=>.int (i % j)):=opI fun i j _ _ _ _ _ hc q=>by
 have h1:(0:Int) < j:=hc;exact mod_int' (by lia) (by rw[Int.fmod_eq_emod_of_nonneg i (by lia)];exact q)
theorem zbaj:OpR X (binaryOp .Pow) (rI CPow fun i j=>.int (i ^ j.toNat)):=opI fun _ _ _ _ _ _ _ hc q=>pow_int_small hc.1 hc.2.1 hc.2.2 q
theorem zbao:OpR X (binaryOp .BitAnd) (rI0 fun i j=>.int (Builtin.bitAnd i j)):=opI0 fun _ _ _ _ _ _ _ q=>and_int q
theorem unI {f:Value->Sem Value}{g:Int->Int}
  (rule:∀(i:Int) (t:Tok) (s:Shared) (Q:Value->Shared->Prop) (E:Value->Shared->Prop),Q (.int (g i) s.toks) {s with toks:=s.toks+1}->wpAny (model X.prog X.w) X.A (f (.int i t)) Q E s) :
  UnR X f (rU fun i=>.int (g i)):=by
 intro aU s σ H x v Q I rx h;obtain⟨i,rfl,q⟩:=h;obtain⟨t,rfl⟩:=rx;exact rule i t s _ _ ⟨.int (g i),H,I.tok _,⟨_,rfl⟩,q⟩
theorem zbds:UnR X (unaryOp .USub) (rU fun i=>.int (-i)):=unI fun _ _ _ _ _ q=>neg_int q
theorem zbjt:OpR X (compareOp .Lt) (rI0 fun i j=>.bl (decide (i < j))):=opB0 fun _ _ _ _ _ _ _ q=>lt_int q
theorem zbju:OpR X (compareOp .LtE) (rI0 fun i j=>.bl (decide (i<=j))):=opB0 fun _ _ _ _ _ _ _ q=>le_int q
theorem zbiv:OpR X (compareOp .Gt) (rI0 fun i j=>.bl (decide (j < i))):=opB0 fun _ _ _ _ _ _ _ q=>gt_int q
theorem zbjv:OpR X (compareOp .GtE) (rI0 fun i j=>.bl (decide (j<=i))):=opB0 fun _ _ _ _ _ _ _ q=>ge_int q
theorem OpR.or {f:Value->Value->Sem Value}{r r':R2}(h:OpR X f r)(h':OpR X f r'):OpR X f (fun x y H Q=>r x y H Q\/r' x y H Q):=by
 intro aU s σ H x y v u Q I rx ry q;rcases q with q | q
 ·exact h aU s σ H x y v u Q I rx ry q
 ·exact h' aU s σ H x y v u Q I rx ry q
theorem nomark (b:Expr){op:CmpOp}(h:op≠.In:=by decide)(h2:op≠.NotIn:=by decide):behindInMarks op b=false:=by
 have e1:(op==CmpOp.In)=false:=by cases op<;>first | rfl | exact absurd rfl h
 have e2:(op==CmpOp.NotIn)=false:=by cases op<;>first | rfl | exact absurd rfl h2
 cases b<;>simp[behindInMarks,e1,e2]
theorem zbaf {op:CmpOp}{r:R2}(ho:OpR X (compareOp op) r)(ha:PE X a ta)(hb:PE X b tb)(hm:behindInMarks op b=false):PE X (.Compare a [op] [b] pos) (tOp r ta tb):=by
 intro aU s σ H Q I h;exact wpAny_Compare1 (binT ha hb I h fun v u s2 x y H2 I2 rx ry q=>ho aU s2 σ H2 x y v u Q I2 rx ry q) hm
noncomputable def tTest (t:TE):TT:=fun σ H Q=>t σ H fun x H'=>∃k,x=.bl k/\Q k H'
theorem zzl {op:CmpOp}{r:R2}(ho:OpR X (compareOp op) r)(ha:PE X a ta)(hb:PE X b tb)(hm:behindInMarks op b=false):PT X (.Compare a [op] [b] pos) (tTest (tOp r ta tb)):=by
 intro aU s σ H Q I h
 refine wpAny_isTrue_Compare1 (thn (ha aU s σ H _ I h) fun v s1 ⟨x,H1,I1,r1,q1⟩=>thn (hb aU s1 σ H1 _ I1 q1) fun u s2 ⟨y,H2,I2,r2,q2⟩ =>
  thn (ho aU s2 σ H2 x y v u _ I2 r1 r2 q2) fun c s3 ⟨z,H3,I3,r3,k,e,q3⟩=>?_) hm
 subst e;cases r3;exact xgi ⟨H3,I3,q3⟩
noncomputable def TruV (K:Fg) (x:V) (H:Hp) (k:Bool):Prop :=
 match x with
 | .non=>k=false
 | .bl b=>k=b
 | .int i=>k=(i != 0)
 | .str y=>y.length<=sizeLine/\k=((y.length:Int) != 0)
 | .byt y=>y.size<=sizeLine/\k=((y.size:Int) != 0)
 | .ref p=>(∃xs,SqL K H p xs/\k=!xs.isEmpty)\/(∃xs,SqT K H p xs/\k=!xs.isEmpty)\/∃kvs,H p=some (.dK kvs)/\k=!kvs.isEmpty
 | _=>False
theorem zpt {κ:Type}{kvs:List (κ×V)}{vs:List (κ×Value)}(r:KV kvs vs):(!vs.isEmpty)=!kvs.isEmpty:=by
 cases r<;>rfl
theorem zje {xs:List V}{its:List Value}(r:Vals xs its):(!its.toArray.isEmpty)=!xs.isEmpty:=by
 cases r<;>simp
theorem line63:(sizeLine:Nat) < 2 ^ 63:=by rw[xgr];decide
theorem zbdu:TruR X (fun x H Q=>∃k,TruV X.K x H k/\Q k H):=by
 intro aU s σ H x v Q I rx h;obtain⟨k,e,q⟩:=h;have hl:=line63;have hs:sizeLine=16777216:=xgr;cases x with
 | non =>
  cases rx;have e':k=false:=e;subst e';exact truthy_none ⟨H,I,q⟩
 | bl b =>
  cases rx;have e':k=b:=e;subst e';exact xgi ⟨H,I,q⟩
 | int i =>
  obtain⟨t,rfl⟩:=rx;have e':k=(i != 0):=e;subst e';exact PySem.P.truthy_int ⟨H,I,q⟩
 | str y =>
  obtain⟨t,rfl⟩:=rx;obtain⟨hy,e'⟩:y.length<=sizeLine/\k=((y.length:Int) != 0):=e;subst e';exact PySem.P.truthy_str (by lia) ⟨H,I.tok _,q⟩
 | byt y =>
  obtain⟨t,rfl⟩:=rx;obtain⟨hy,e'⟩:y.size<=sizeLine/\k=((y.size:Int) != 0):=e;subst e';exact W.truthy_bytes (by lia) ⟨H,I.tok _,q⟩
 | ref p =>
  cases rx;have e':(∃xs,SqL X.K H p xs/\k=!xs.isEmpty)\/(∃xs,SqT X.K H p xs/\k=!xs.isEmpty)\/∃kvs,H p=some (.dK kvs)/\k=!kvs.isEmpty:=e
  rcases e' with⟨xs,hx,e'⟩ | ⟨xs,hx,e'⟩ | ⟨kvs,hx,e'⟩
  ·subst e';obtain⟨its,r,pl,hz⟩:=I.list hx;have hlen:=r.length;exact wpAny_truthy_list pl.isList (by simp only[xbq];lia) ⟨H,I.tok _,by rw[zje r];exact q⟩
  ·subst e';obtain⟨its,r,pl,hz⟩:=I.tuple hx;have hlen:=r.length;exact truthy_tuple pl (by simp only[xbq];lia) ⟨H,I.tok _,by rw[zje r];exact q⟩
  ·subst e';obtain⟨hz,hS,vs,r,m⟩:kvs.length<=sizeLine/\(p==sysModules)=false/\∃vs,KV kvs vs/\s.heap.DictOf (mixKind X.prog X.w) p vs:=I.hok p _ hx
   have hlen:kvs.length=vs.length:=xis r;exact wpAny_truthy_dict hS m (by lia) ⟨H,I.tok _,by rw[zpt r];exact q⟩
 | _=>exact(show False from e).elim
theorem zvu (ha:PE X a ta)(he:∀whole,isTrue a X.env whole=(do let v ← whole;standAt a.pos;holding [v] (truthy v))) :
  PT X a (fun σ H Q=>ta σ H fun x H'=>∃k,TruV X.K x H' k/\Q k H'):=by
 intro aU s σ H Q I h;exact isTrue_plain (thn (ha aU s σ H _ I h) fun v s1 ⟨x,H1,I1,r1,q1⟩=>zbdu aU s1 σ H1 x v Q I1 r1 q1) (he _)
theorem zow:OpR X (binaryOp .Add) (fun x y H Q=>∃i j,x=.str i/\y=.str j/\i.length+j.length<=sizeLine/\Q (.str (i++j)) H):=by
 intro aU s σ H x y v u Q I rx ry h;obtain⟨i,j,rfl,rfl,hz,q⟩:=h;obtain⟨t,rfl⟩:=rx;obtain⟨t',rfl⟩:=ry;exact add_str (fun t' tk=>⟨.str (i++j),H,I.tok _,⟨_,rfl⟩,q⟩) hz
theorem vals1 {x:V}{us:List Value}(r:Vals [x] us):∃u,us=[u]/\RelV x u:=by
 cases r with
 | cons r1 r2=>cases r2;exact⟨_,rfl,r1⟩
theorem vals2 {x y:V}{us:List Value}(r:Vals [x,y] us):∃u w',us=[u,w']/\RelV x u/\RelV y w':=by
 cases r with
 | cons r1 r2 =>
  cases r2 with
  | cons r3 r4=>cases r4;exact⟨_,_,rfl,r1,r3⟩
theorem zxx:CallR X (.builtin "abs") (fun xs H Q=>∃ i, xs=[.int i]/\Q (.int (if i < 0 then -i else i)) H):=by
 intro aU s σ H xs us Q I r h;obtain⟨i,rfl,q⟩:=h;obtain⟨u,rfl,t,rfl⟩:=vals1 r;exact call_abs_int fun u tk=>⟨.int (if i < 0 then -i else i),H,I.tok _,⟨_,rfl⟩,q⟩
theorem ztt (hc:X.calm=true):CallR X (.builtin "max") (fun xs H Q=>∃ i j, xs=[.int i, .int j]/\Q (.int (if j > i then j else i)) H):=by
 intro aU s σ H xs us Q I r h;obtain⟨i,j,rfl,q⟩:=h;obtain⟨u,w',rfl,⟨t,rfl⟩,⟨t',rfl⟩⟩:=vals2 r;refine max_two_ints (I.ok.hd hc) fun h' tk k=>⟨_,H,I.kept k,?_,q⟩
 by_cases hj:j > i
 ·rw[if_pos hj,if_pos hj];exact⟨_,rfl⟩
 ·rw[if_neg hj,if_neg hj];exact⟨_,rfl⟩
theorem zeg (hc:X.calm=true):CallR X (.builtin "min") (fun xs H Q=>∃ i j, xs=[.int i, .int j]/\Q (.int (if j < i then j else i)) H):=by
 intro aU s σ H xs us Q I r h;obtain⟨i,j,rfl,q⟩:=h;obtain⟨u,w',rfl,⟨t,rfl⟩,⟨t',rfl⟩⟩:=vals2 r;refine min_two_ints (I.ok.hd hc) fun h' tk k=>⟨_,H,I.kept k,?_,q⟩
 by_cases hj:j < i
 ·rw[if_pos hj,if_pos hj];exact⟨_,rfl⟩
 ·rw[if_neg hj,if_neg hj];exact⟨_,rfl⟩
theorem zmo:CallR X (.type "int") (fun xs H Q=>(∃ i, xs=[.int i]/\Q (.int i) H)\/∃ k, xs=[.bl k]/\Q (.int (if k then 1 else 0)) H):=by
 intro aU s σ H xs us Q I r h;rcases h with⟨i,rfl,q⟩ | ⟨k,rfl,q⟩
 ·obtain⟨u,rfl,t,rfl⟩:=vals1 r;exact call_int_int ⟨.int i,H,I,⟨_,rfl⟩,q⟩
 ·obtain⟨u,rfl,r1⟩:=vals1 r;cases r1;exact call_int_bool ⟨.int (if k then 1 else 0),H,I.tok _,⟨_,rfl⟩,q⟩
end
structure ObjM (h:Heap) (x dx C:Addr) (mA:Str->Option Value):Prop where
 obj:h.get? x=some (W.instObj C dx)
 ns:h.Ns1 dx mA
 ne:dx≠x
theorem zsp {h:Heap}{dx:Addr}{mA:Str->Option Value}(n:h.Ns1 dx mA):∃od,h.get? dx=some od/\∀name,W.lookIn name od=some (mA name):=by
 obtain⟨o,es,ep,ho,hd,hk,_,hm⟩:=n;refine⟨o,ho,fun name=>?_⟩;have e:=hm name;unfold nsFind findBy at e;rw[← Array.find?_toList] at e;unfold W.lookIn;rw[hd];dsimp only;split
 ·rename_i y q;rw[q] at e;exact congrArg some e
 ·rename_i q;rw[q] at e;have a:es.toList.any (·.refKey)=false:=by
   rw[List.any_eq_false];intro y hy;obtain⟨z,t,hkey⟩:=hk y (Array.mem_toList_iff.mp hy);simp[DictEntry.refKey,hkey]
  have a':¬ es.toList.any (·.refKey)=true:=by rw[a];exact xfd
  rw[if_neg a'];exact congrArg some e
theorem ObjM.look {h:Heap}{x dx C:Addr}{mA:Str->Option Value}(I:ObjM h x dx C mA):∃od,W.InstAt h x (W.instObj C dx) C (some od)/\∀name,W.lookIn name od=some (mA name) :=
 let ⟨od,ho,hl⟩:=zsp I.ns
 ⟨od,⟨I.obj,rfl,rfl,ho⟩,hl⟩
section
variable {prog:Program}{w:World}{A:Around}{E:Value->Shared->Prop}{s:Shared}{K:Fg}{x dx C f:Addr}{mA:Str->Option Value}{name:Str}{v:Value}
end
theorem RelO.some_of {v:V}{o:Option Value}(r:RelO (some v) o):∃u,o=some u/\RelV v u:=by
 cases o with
 | none=>exact(show False from r).elim
 | some u=>exact⟨u,rfl,r⟩
section
variable {P:Program}{w:World}{H H':Hp}{h h':Heap}{a C dx:Addr}{fs fs':List (Str×V)}
theorem zbbk (hok:HOk P w H h)(e:H a=some (.ins C dx fs)):∃mA,ObjM h a dx C mA/\(∀f,RelO (fs.lookup f) (mA f))/\PySem.Within mA (fs.map (·.1))/\fs.length<=1000/\H dx=some (.own a):=by
 obtain⟨d,z,ne,ob,mA,n,r,q⟩:=(show ObjOk P w H h a (.ins C dx fs) from hok a _ e)
 exact⟨mA,⟨ob,n,ne⟩,r,q,z,d⟩
end
structure Cls (K:Fg) (C:Addr):Prop where
 pg:W.plainGet K C Str.empty=true
 hd:W.hasDictIn K C=true
 po:W.plainOver K C=true
 sa:W.findIn K (.ref C) "__setattr__"=some (some (.builtin "object.__setattr__"))
theorem Cls.get {K:Fg}{C:Addr}(c:Cls K C)(f:Str):W.plainGet K C f=true:=c.pg
section
variable {X:Cx}{aU:List (Addr×Obj)}{σ:St}{H:Hp}{s:Shared}{a C dx:Addr}{fs:List (Str×V)}{f:Str}{v:V}{A:Around}{E:Value->Shared->Prop}
end
section
variable {X:Cx}{o e value:Expr}{f:Str}{pos pos' tpos:Pos}{ta tv:TE}
end
section
variable {X:Cx}{aU:List (Addr×Obj)}{σ:St}{H:Hp}{s:Shared}{A:Around}{E:Value->Shared->Prop}{Q:Value->Shared->Prop}{c:Value}{b:Bool}
inductive TyOf (K:Fg) (H:Hp):V->Value->Prop where
 | non:TyOf K H .non (.type "NoneType")
 | bl (x:Bool):TyOf K H (.bl x) (.type "bool")
 | int (i:Int):TyOf K H (.int i) (.type "int")
 | str (x:Str):TyOf K H (.str x) (.type "str")
 | flt (x:UInt64):TyOf K H (.flt x) (.type "float")
 | lst {a:Addr} {xs:List V} (e:H a=some (.lst xs)):TyOf K H (.ref a) (.type "list")
 | frz {a:Addr} {o:Obj} {xs:List V} (e:H a=some (.frz o (.lst xs))):TyOf K H (.ref a) (.type "list")
 | tup {a:Addr} {xs:List V} (e:H a=some (.tup xs)):TyOf K H (.ref a) (.type "tuple")
 | dK {a:Addr} {kvs:List (Key×V)} (e:H a=some (.dK kvs)):TyOf K H (.ref a) (.type "dict")
 | dT {a:Addr} {kvs:List (List Key×V)} (e:H a=some (.dT kvs)):TyOf K H (.ref a) (.type "dict")
 | ins {a C dx:Addr} {fs:List (Str×V)} (e:H a=some (.ins C dx fs)) (cl:Cls K C) (ha:W.findIn K (.ref C) "__class__"=some (some (.builtin "object.__class__")))
  (hn:W.specialIn K (.builtin "object.__class__") "__get__"=some (some (.builtin "getset_descriptor.__get__")))(htk:W.takesIn K (.builtin "object.__class__")=some true)
  (hm:W.mroIn K C (.type "object")=some true):TyOf K H (.ref a) (.ref C)
theorem zsv {x:V}{u t:Value}(I:Inv X aU σ H s)(rx:RelV x u)(ty:TyOf X.K H x t)(e:W.kitOne X.K t c=some b)(h:∀tk,Q (.bool b) {s with toks:=tk}) :
  wpAny (model X.prog X.w) A (call (.builtin "isinstance") [u, c]) Q E s:=by
 cases ty with
 | non=>cases(show u=Value.none from rx);exact xer W.kitx_none I.kIn True.intro e (fun z=>nomatch z) h
 | bl y=>cases(show u=Value.bool y from rx);exact xer W.kitx_bool I.kIn True.intro e (fun z=>nomatch z) h
 | int i=>obtain⟨t,q⟩:=(show ∃t,u=Value.int i t from rx);cases q;exact xer W.kitx_int I.kIn True.intro e (fun z=>nomatch z) h
 | str y=>obtain⟨t,q⟩:=(show ∃t,u=Value.str y t from rx);cases q;exact xer W.kitx_str I.kIn True.intro e (fun z=>nomatch z) h
 | flt y=>obtain⟨t,q⟩:=(show ∃t,u=Value.float y t from rx);cases q;exact xer W.kitx_float I.kIn True.intro e (fun z=>nomatch z) h
 | @lst a xs ea =>
  cases(show u=Value.ref a from rx);obtain⟨_,_,n,_,h1⟩:=(show ObjOk X.prog X.w H s.heap a (.lst xs) from I.hok a _ ea)
  exact xer W.kitx_list I.kIn ⟨_,h1,rfl⟩ e (fun z=>nomatch z) h
 | @frz a ob xs ea =>
  cases(show u=Value.ref a from rx);obtain⟨_,_,_,n,_,h1⟩:=(show ObjOk X.prog X.w H s.heap a (.frz ob (.lst xs)) from I.hok a _ ea)
  exact xer W.kitx_list I.kIn ⟨_,h1,rfl⟩ e (fun z=>nomatch z) h
 | @tup a xs ea =>
  cases(show u=Value.ref a from rx);obtain⟨_,_,_,p⟩:=(show ObjOk X.prog X.w H s.heap a (.tup xs) from I.hok a _ ea)
  obtain⟨o,h1,h2,_⟩:=p;exact xer W.kitx_tuple I.kIn ⟨o,h1,h2⟩ e (fun z=>nomatch z) h
 | @dK a kvs ea =>
  cases(show u=Value.ref a from rx);obtain⟨_,_,vs,_,p⟩:=(show ObjOk X.prog X.w H s.heap a (.dK kvs) from I.hok a _ ea)
  obtain⟨o,es,ep,h1,h2,_⟩:=p;exact xer W.kitx_dict I.kIn ⟨o,h1,h2.1⟩ e (fun z=>nomatch z) h
 | @dT a kvs ea =>
  cases(show u=Value.ref a from rx);obtain⟨_,_,xs,_,o,es,ep,h1,h2,_⟩:=(show ObjOk X.prog X.w H s.heap a (.dT kvs) from I.hok a _ ea)
  exact xer W.kitx_dict I.kIn ⟨o,h1,h2.1⟩ e (fun z=>nomatch z) h
 | @ins a C dx fs ea cl ha hn htk hm =>
  cases(show u=Value.ref a from rx);obtain⟨mA,O,_⟩:=zbbk I.hok ea;obtain⟨od,J,_⟩:=O.look;exact xer (W.kitx_own (cl.get _) cl.hd ha hn htk hm) I.kIn J e (fun z=>nomatch z) h
end
structure Room (k:Nat) (A:Around):Prop where
 hd:A.handled=none
 dp:A.depth+3 * k+5 < recursionLimit
 un:A.units+16 * k+200 < cLine
theorem Room.mono {j k:Nat}{A:Around}(r:Room k A)(h:j<=k):Room j A:=⟨r.hd,by have:=r.dp;lia,by have:=r.un;lia⟩
theorem Room.deeper {k:Nat}{A:Around}(r:Room (k+1) A)(env:Env):Room k (A.deeper env) :=
 ⟨r.hd,by have:=r.dp;show A.depth+1+3 * k+5 < _;lia,by have:=r.un;show A.units+3+16 * k+200 < _;lia⟩
theorem Room.depth {k:Nat}{A:Around}(r:Room k A):A.depth < recursionLimit:=by have:=r.dp;lia
theorem Room.units {k:Nat}{A:Around}(r:Room k A):A.units+64 < cLine:=by have:=r.un;lia
theorem Room.units0 {k:Nat}{A:Around}(r:Room k A):A.units < cLine:=by have:=r.un;lia
noncomputable def tNil:TA:=fun _ H Q=>Q [] H
noncomputable def tCons (ta:TE) (tr:TA):TA:=fun σ H Q=>ta σ H fun x H1=>tr σ H1 fun xs H2=>Q (x::xs) H2
section
variable {X:Cx}{e:Expr}{es:List Expr}{te:TE}{t:TA}{pos:Pos}
theorem zse:PA X [] tNil:=fun _ _ _ _ H Q I h=>xld ⟨[],H,I,.nil,h⟩
theorem zls (ha:PE X e te)(hr:PA X es t)(hs:starEach (e::es) X.env=(false,eval e X.env)::starEach es X.env:=by rfl):PA X (e::es) (tCons te t):=by
 intro pos aU s σ H Q I h;rw[hs];show wpAny _ _ (spliced ((false,eval e X.env)::backTo pos (starEach es X.env))) _ _ s;refine xiz (thn (ha aU s σ H _ I h) fun u s1 hq0=>?_);obtain⟨x,H1,I1,r1,q1⟩:=hq0;exact thn (hr pos aU s1 σ H1 _ I1 q1) fun us s2 ⟨xs,H2,I2,r2,q2⟩=>⟨x::xs,H2,I2,.cons r1 r2,q2⟩
noncomputable def tTup (t:TA):TE:=fun σ H Q=>t σ H fun xs H1=>xs.length<=sizeLine/\∀p,H1 p=none->Q (.ref p) (upd H1 p (.tup xs))
noncomputable def tLst (t:TA):TE:=fun σ H Q=>t σ H fun xs H1=>xs.length<=sizeLine/\∀p,H1 p=none->Q (.ref p) (upd H1 p (.lst xs))
theorem zbex {x1}(h:PA X es t):PE X (.Tuple es x1 pos) (tTup t):=by
 intro aU s σ H Q I hq;refine wpAny_Tuple_spliced (thn (h pos aU s σ H _ I hq) fun us s1 ⟨xs,H1,I1,r,z,q⟩=>⟨by rw[← r.length];exact z,?_⟩);have hf:H1 s1.heap.objs.size=none:=I1.hok.fresh (xbf _);refine⟨.ref s1.heap.objs.size,upd H1 s1.heap.objs.size (.tup xs),I1.laid (t':=s1.toks) (fun b u e=>xbd _ e) (xbf _) ?_,rfl,q _ hf⟩;exact⟨z,us,r,⟨_,xbr _ rfl,rfl,_,rfl⟩⟩
theorem zbac (h:PA X es t):PE X (.List es pos) (tLst t):=by
 intro aU s σ H Q I hq;refine wpAny_List_spliced (thn (h pos aU s σ H _ I hq) fun us s1 ⟨xs,H1,I1,r,z,q⟩=>⟨by rw[← r.length];exact z,?_⟩);have hf:H1 s1.heap.objs.size=none:=I1.hok.fresh (xbf _);refine⟨.ref s1.heap.objs.size,upd H1 s1.heap.objs.size (.lst xs),I1.laid (t':=s1.toks) (fun b u e=>xbd _ e) (xbf _) ?_,rfl,q _ hf⟩;exact⟨z,us,0,r,xbr _ rfl⟩
end
noncomputable abbrev Sp:=List V->Hp->VK->XK->Prop
noncomputable abbrev CXT:=List Env->Hp->Shared->XK->Value->Shared->Prop
structure Env0 (P:Program) (w:World) (K:Fg) (mg:Str->Option Value) (base:Heap) (A:Around) (outer:List Env) (s:Shared) (H:Hp):Prop where
 frames:A.frames=some outer
 mod:Mod K mg base
 bs:∀b o,base.get? b=some o->s.heap.get? b=some o/\H b=none
 bsz:base.objs.size<=s.heap.objs.size
 funs:s.heap.FunFrames base outer
 frf:∀b∈frs outer,H b=none
 hok:HOk P w H s.heap
 bare:AllBare s.gens
noncomputable def CE (outer:List Env) (P:Program) (w:World) (H:Hp) (s:Shared) (Q:VK) (u:Value) (s':Shared):Prop :=
 ∃v H',s'.os=s.os/\AllBare s'.gens/\Un (frs outer) [] H H' s.heap s'.heap/\HOk P w H' s'.heap/\RelV v u/\Q v H'
noncomputable def CR (CX:CXT) (outer:List Env) (P:Program) (w:World) (H:Hp) (s:Shared) (Q:VK) (E:XK) (r:Result) (s':Shared):Prop :=
 match r with
 | .ok (.ret u)=>CE outer P w H s Q u s'
 | .ok _=>False
 | .error e=>CX outer H s E e s'
structure FnOk (P:Program) (w:World) (K:Fg) (mg:Str->Option Value) (base:Heap) (CX:CXT) (k:Nat) (f:Addr) (fd:FuncData) (ps:List Str) (sp:Sp):Prop where
 len:∀vs H Q E,sp vs H Q E->vs.length=ps.length
 run:∀(A:Around) (outer:List Env) (s:Shared) (H:Hp) (args:Args) (us:List Value) (vs:List V) (Q:VK) (E:XK),Room k A->Env0 P w K mg base A outer s H->BindsTo s fd args (ps.zip us)->Vals vs us->sp vs H Q E ->
  codeAny (model P w) A (.call (.ref f) args) (CR CX outer P w H s Q E) s
section
variable {X:Cx}{aU:List (Addr×Obj)}{σ:St}{H:Hp}{s s':Shared}
theorem Inv.env0 (I:Inv X aU σ H s):Env0 X.prog X.w X.K X.mg X.base X.A X.stack s H :=
 ⟨I.ok.frames,I.ok.mod,I.bs,xbb I.ok.bsz I.sz,I.stack,I.stkFree,I.hok,I.bare⟩
theorem Inv.after {Q:VK}{u:Value}(I:Inv X aU σ H s)(h:CE X.stack X.prog X.w H s Q u s'):EP X aU σ Q u s':=by
 obtain⟨v,H',os,bare,un,hok,r,q⟩:=h;obtain⟨hh,g,d,t,os'⟩:=s';obtain rfl:os'=s.os:=os;exact⟨v,H',I.call (h':=hh) (g':=g) (d':=d) (t':=t) (ch:=[]) un hok bare (fun b z=>absurd z (by simp)),r,q⟩
end
noncomputable def tCall (sp:Sp) (dvs:List V) (E:XK) (t:TA):TE:=fun σ H Q=>t σ H fun vs H1=>sp (vs++dvs) H1 Q E
noncomputable def Binds (K:Fg) (fd:FuncData) (ps:List Str) (ds:List Value):Prop :=
 ∀(s:Shared) (us:List Value),K.In s.heap->(us++ds).length=ps.length->BindsTo s fd ⟨us,[]⟩ (ps.zip (us++ds))
theorem Binds.all {K:Fg}{fd:FuncData}{ps:List Str}(h:∀us:List Value,us.length=ps.length->bindArgs fd ⟨us,[]⟩=pure (ps.zip us)):Binds K fd ps []:=fun s us _ hl=>by
 rw[xes] at hl ⊢;exact .of_eq (h us hl)
noncomputable def Passes (CX:CXT) (X:Cx) (E:XK):Prop:=∀(aU:List (Addr×Obj)) (σ:St) (H:Hp) (s:Shared) (e:Value) (s':Shared),Inv X aU σ H s->CX X.stack H s E e s'->X.xe e s'
section
variable {X:Cx}{CX:CXT}{k:Nat}{f C:Addr}{fd:FuncData}{ps:List Str}{sp:Sp}{dvs:List V}{ds:List Value}{E:XK}{x m:Str}{p pos apos:Pos}{e o:Expr}{es:List Expr}{ta:TE}{t:TA}
theorem zbei {aU:List (Addr×Obj)}{σ:St}{H:Hp}{s:Shared}{Q:VK}{us:List Value}{vs:List V}(F:FnOk X.prog X.w X.K X.mg X.base CX k f fd ps sp)(hr:Room k X.A)(hb:Binds X.K fd ps ds)(hd:Vals dvs ds)(hx:Passes CX X E)
  (I:Inv X aU σ H s)(r:Vals vs us)(h:sp (vs++dvs) H Q E):wpAny (model X.prog X.w) X.A (call (.ref f) us) (EP X aU σ Q) X.xe s:=by
 have r2:Vals (vs++dvs) (us++ds):=r.append hd;have hl:(us++ds).length=ps.length:=by rw[← r2.length];exact F.len _ _ _ _ h
 refine wpAny_call (xkj (F.run X.A X.stack s H ⟨us,[]⟩ (us++ds) (vs++dvs) Q E hr I.env0 (hb s us I.kIn hl) r2 h) fun r s' hq=>?_);cases r with
 | error e=>exact hx aU σ H s e s' I hq
 | ok fl =>
  cases fl with
  | ret u=>exact I.after hq
  | next=>exact False.elim hq
  | brk=>exact False.elim hq
  | cont=>exact False.elim hq
theorem zbag (F:FnOk X.prog X.w X.K X.mg X.base CX k f fd ps sp)(hr:Room k X.A)(hg:Gl X x)(hm:X.mg x=some (.ref f))(hk:W.keepIn X.K (.ref f)=true)(hb:Binds X.K fd ps ds)(hd:Vals dvs ds)(hx:Passes CX X E)
  (ha:PA X (e::es) t)(hdb:(x==("__debug__" : Str))=false:=by decide)(he:starEach (e::es) X.env=(false, eval e X.env)::starEach es X.env:=by rfl)(hpl:(backTo pos (starEach es X.env)).any (·.1)=false:=by rfl) :
  PE X (.Call (.Name x p) (e::es) [] pos) (tCall sp dvs E t):=by
 intro aU s σ H Q I h;refine xky (zbbe I hg hm ?_ hdb);refine W.callWith_K (h₀:=X.base) I.ok.mod.kin hk (thn (ha pos aU s σ H _ I h) fun us s1 ⟨vs,H1,I1,r,q⟩=>⟨I1.kIn,?_⟩) he hpl;exact zbei F hr hb hd hx I1 r q
end
section
variable {X:Cx}{CX:CXT}{k:Nat}{f C:Addr}{fd:FuncData}{ps ks:List Str}{sp:Sp}{E:XK}{x m:Str}{p pos apos kpos:Pos}{e o:Expr}{es:List Expr}{kws:List Keyword}{te ta:TE}{t tk:TA}{nm:Option Str}
variable {g:List Value->List Value->List Value}{gV:List V->List V->List V}
end
structure FnScope (N P:List Str) (sc:Scope):Prop where
 kind:sc.kind=.function
 co:sc.isCoroutine=false
 gen:sc.isGenerator=false
 nd:N.Nodup
 pre:N.take P.length=P
 par:∀x∈P,sc.names.lookup x=some .local\/sc.names.lookup x=some .cell
 nofree:∀y∈sc.names,y.2≠.free
theorem zmr {kindOf:Str->Option NameKind}{x:Str}:∀{binds:List (Str×Value)} {m:Str->Option Value},(∀v,(x,v)∉binds)->bindL kindOf binds m x=m x
 | [],_,_=>rfl
 | (n,v)::r,m,h=>by
  unfold bindL;rw[zmr fun w hw=>h w (xbp _ hw)];split
  ·have:x≠n:=by rintro rfl;exact h v xbw
   simp[this]
  ·rfl
theorem zmt {kindOf:Str->Option NameKind}{x:Str}:∀{binds:List (Str×Value)} {m:Str->Option Value},(∀v,(x,v)∉binds)->bindC kindOf binds m x=m x
 | [],_,_=>rfl
 | (n,v)::r,m,h=>by
  unfold bindC;rw[zmt fun w hw=>h w (xbp _ hw)];split
  ·rfl
  ·have:x≠n:=by rintro rfl;exact h v xbw
   simp[this]
theorem zms {kindOf:Str->Option NameKind}{x:Str}{v:Value}:∀{P:List Str} {vs:List Value} {i:Nat} {m:Str->Option Value},P.Nodup->P[i]?=some x->vs[i]?=some v->kindOf x=some .local ->
  bindL kindOf (P.zip vs) m x=some v
 | [],_,_,_,_,h,_,_=>by simp at h
 | _::_,[],_,_,_,_,h,_=>by simp at h
 | p::P,w::vs,0,m,nd,h1,h2,hk=>by
  simp at h1 h2;subst h1;subst h2
  show bindL kindOf ((p,w)::P.zip vs) m p=_;unfold bindL;rw[zmr fun v hv=>(xey.mp nd).1 (xlu hv).1,if_pos hk];simp
 | p::P,w::vs,i+1,m,nd,h1,h2,hk=>by
  show bindL kindOf ((p,w)::P.zip vs) m x=_;unfold bindL;exact zms (i:=i) (xey.mp nd).2 (by simpa using h1) (by simpa using h2) hk
theorem zmu {kindOf:Str->Option NameKind}{x:Str}{v:Value}:∀{P:List Str} {vs:List Value} {i:Nat} {m:Str->Option Value},P.Nodup->P[i]?=some x->vs[i]?=some v->kindOf x≠some .local ->
  bindC kindOf (P.zip vs) m x=some v
 | [],_,_,_,_,h,_,_=>by simp at h
 | _::_,[],_,_,_,_,h,_=>by simp at h
 | p::P,w::vs,0,m,nd,h1,h2,hk=>by
  simp at h1 h2;subst h1;subst h2
  show bindC kindOf ((p,w)::P.zip vs) m p=_;unfold bindC;rw[zmt fun v hv=>(xey.mp nd).1 (xlu hv).1,if_neg hk];simp
 | p::P,w::vs,i+1,m,nd,h1,h2,hk=>by
  show bindC kindOf ((p,w)::P.zip vs) m x=_;unfold bindC;exact zmu (i:=i) (xey.mp nd).2 (by simpa using h1) (by simpa using h2) hk
noncomputable def start (N:List Str) (vs:List V):St:=vs.map some++List.replicate (N.length - vs.length) none
noncomputable def cxOf (CX:CXT) (P:Program) (w:World) (K:Fg) (mg:Str->Option Value) (base:Heap) (N:List Str) (qual:Str) (scope:Scope) (f:Addr) (cd:Value) (A:Around) (outer:List Env) (s:Shared) (H:Hp) (E:XK):Cx where
 prog:=P
 w:=w
 K:=K
 mg:=mg
 base:=base
 A:=A.deeper (envOfC qual scope s.heap.objs.size f cd)
 N:=N
 s₀:=s
 H₀:=H
 env:=envOfC qual scope s.heap.objs.size f cd
 outer:=outer
 stack:=envOfC qual scope s.heap.objs.size f cd::outer
 ex:=[]
 calm:=true
 fn:=fun _=>true
 pn:=[]
 xe:=fun e s'=>wpAny (model P w) (A.deeper (envOfC qual scope s.heap.objs.size f cd)) (leaving (envOfC qual scope s.heap.objs.size f cd) e) (fun _ s''=>CX outer H s E e s'') (fun e' s''=>CX outer H s E e' s'') s'
theorem zqi {sc:Scope}{n:Nat}{x:Str}(h:sc.names.lookup x=some .cell):∃c,(cellsFrom n sc.names []).lookup x=some c:=by
 have q:=W.cellsFrom_some sc.names n [] (.inl h);exact xja.mp q
theorem zsx {CX:CXT}{P:Program}{w:World}{K:Fg}{mg:Str->Option Value}{base:Heap}{N ps:List Str}{qual:Str}{scope:Scope}{f:Addr}{cd:Value}{A:Around}{outer:List Env}{s s1:Shared}{H:Hp}{E:XK}{us:List Value}{vs:List V}
  (S:FnScope N ps scope)(hd:A.handled=none)(e0:Env0 P w K mg base A outer s H)(hl:vs.length=ps.length)(r:Vals vs us)
  (x:InCallC s s.heap.objs.size (bindL (envOfC qual scope s.heap.objs.size f cd).kindOf (ps.zip us) fun _=>none) (cellsFrom (s.heap.objs.size+1) scope.names []) (bindC (envOfC qual scope s.heap.objs.size f cd).kindOf (ps.zip us) fun _=>none) s1) :
  Inv (cxOf CX P w K mg base N qual scope f cd A outer s H E) [] (start N vs) H s1:=by
 have hpl:ps.length<=N.length:=by have:=congrArg List.length S.pre;rw[xcm] at this;lia
 obtain⟨h1,tk,rfl,hk⟩:=x.done;have noA:∀b:Addr,b∉(cxOf CX P w K mg base N qual scope f cd A outer s H E).ex:=fun b z=>absurd (show b∈([]:List Addr) from z) (by simp)
 refine⟨⟨e0.mod,S.kind,rfl,rfl,xbf _,fun y z c h1 h2=>?_,fun y hy=>?_,fun y c _ h=>?_,fun _=>hd,Around.frames_deeper e0.frames,.inr ⟨rfl,rfl⟩,fun b z=>absurd z (noA b),e0.bs,e0.bsz,fun b _ _=>noA b,fun b z=>absurd z (noA b),e0.funs,e0.frf⟩,
  rfl,e0.bare,Un.kept hk,⟨_,x.toInCall.ns,fun i y v h1 h2 h3=>?_⟩,fun y c h=>⟨_,x.cell y c h⟩,e0.hok.fresh (xbf _),fun y c h=>?_,fun p hp=>absurd (show p∈([]:List (Addr×Obj)) from hp) (by simp),e0.hok.kept hk,?_,Hnd.none hd⟩
 ·exact name_of_addr x.apart (xgl h1) (xgl h2)
 ·have hy:scope.names.lookup y=some .cell\/scope.names.lookup y=some .free:=hy;rcases hy with hy | hy
  ·exact zqi hy
  ·exact absurd rfl (S.nofree _ (xgl hy))
 ·exact xbv (x.above y c (xgl h))
 ·have hi:i < vs.length:=by
   unfold start at h2;by_cases hi:i < vs.length
   ·exact hi
   ·rw[xdo (by simpa using hi)] at h2;rw[List.getElem?_replicate] at h2;split at h2<;>cases h2
  have ha:vs[i]?=some v:=by
   unfold start at h2;rw[xcw (by simpa using hi),xct] at h2;cases e:vs[i]? with
   | none=>rw[e] at h2;cases h2
   | some a=>rw[e] at h2;cases h2;rfl
  obtain⟨u,hu,rv⟩:=r.get ha;have hp:ps[i]?=some y:=by
   rw[← S.pre,List.getElem?_take_of_lt (by lia)];exact h1
  have ndP:ps.Nodup:=by rw[← S.pre];exact S.nd.sublist (xle _ _)
  refine⟨u,rv,?_⟩;rcases S.par y (xbx hp) with k | k
  ·exact .inl ⟨k,zms ndP hp hu k⟩
  ·obtain⟨c,e⟩:=zqi (n:=s.heap.objs.size+1) k;refine .inr ⟨.inl k,c,e,?_⟩;have q:=x.cell y c e;rw[zmu ndP hp hu (by show scope.names.lookup y≠_;rw[k];decide)] at q;exact q
 ·exact e0.hok.fresh (xbv (x.above y c (xgl h)))
 ·unfold start;show _=N.length;rw[xbk,xbe,xgz];lia
theorem zbkg {CX:CXT}{P:Program}{w:World}{K:Fg}{mg:Str->Option Value}{base:Heap}{k:Nat}{f:Addr}{name qual:Str}{params:Arguments}{body:List Stmt}{scope:Scope}{dV kV doc pm cdv ct oc:Value}{an od:Option Addr}
  {osl:Array (Option Value)}{N ps:List Str}{sp:Sp}(lk:K.lookup f=some ⟨oc,od,.func (W.fnOf name qual params body scope dV kV doc pm an cdv ct),osl⟩)(hcd:W.codeIn K cdv qual=true)(S:FnScope N ps scope)
  (len:∀vs H Q E,sp vs H Q E->vs.length=ps.length)
  (hbody:∀(A:Around) (outer:List Env) (s:Shared) (H:Hp) (vs:List V) (Q:VK) (E:XK),Room k (A.deeper (envOfC qual scope s.heap.objs.size f cdv))->sp vs H Q E ->
   ∃t,PSs (cxOf CX P w K mg base N qual scope f cdv A outer s H E) body t/\t {nx:=fun _ H'=>Q .non H',rt:=Q} (start N vs) H) :
  FnOk P w K mg base CX (k+1) f (W.fnOf name qual params body scope dV kV doc pm an cdv ct) ps sp:=by
 refine⟨len,fun A outer s H args us vs Q E hr e0 hb r hsp=>?_⟩;have hl:=len _ _ _ _ hsp;have KX:K.In s.heap:=e0.mod.kin.keeps fun b o e=>(e0.bs b o e).1
 have lim:s.heap.NoLimit:=e0.mod.nolimit.keeps fun b o e=>(e0.bs b o e).1
 have hkind:∀y∈ps.zip us,scope.names.lookup y.1=some .local\/(scope.names.lookup y.1=some .cell/\((cellsFrom (s.heap.objs.size+1) scope.names []).lookup y.1).isSome=true):=fun hq0 hy=>by
  obtain⟨n,v⟩:=hq0;rcases S.par n (xlu hy).1 with q | q
  ·exact .inl q
  ·exact .inr ⟨q,W.cellsFrom_some _ _ _ (.inl q)⟩
 refine codeAny_call_function hr.depth (KX _ _ lk) rfl S.co S.gen rfl (W.codeRec_of KX hcd) (hb _ _ _ _ ?_);refine wpAny_newFunctionEnv_cells S.kind hkind fun env he s1 x=>?_
 subst he;refine⟨lim.keeps x.toInCall.keep,codeAny_func ?_⟩;obtain⟨t,ht,hq⟩:=hbody A outer s H vs Q E (hr.deeper _) hsp;have I:Inv (cxOf CX P w K mg base N qual scope f cdv A outer s H E) [] (start N vs) H s1:=zsx S hr.hd e0 hl r x;refine xev (ht [] s1 (start N vs) H _ I hq) (fun fl s' hs=>?_) fun e s' hs=>hs
 have fin:∀{σ':St} {H':Hp} {v:V} {u:Value},Inv (cxOf CX P w K mg base N qual scope f cdv A outer s H E) [] σ' H' s'->RelV v u->Q v H'->CE outer P w H s Q u s' :=
  fun {σ' H' v u} J rv q=>⟨v,H',J.os,J.bare,J.base,J.hok,rv,q⟩
 cases fl with
 | ret u =>
  obtain⟨v,σ',H',J,rv,q⟩:=hs;exact fin J rv q
 | next =>
  obtain⟨σ',H',J,q⟩:=hs;exact fin (v:=V.non) (u:=Value.none) J rfl q
 | brk =>
  obtain⟨_,_,_,q⟩:=hs;exact False.elim q
 | cont =>
  obtain⟨_,_,_,q⟩:=hs;exact False.elim q
section
variable {X:Cx}{x:Str}{p pos:Pos}{e:Expr}{es:List Expr}{t:TA}{id T:String}{r:List V->Hp->VK->Prop}
noncomputable def tCB (r:List V->Hp->VK->Prop) (t:TA):TE:=fun σ H Q=>t σ H fun vs H1=>r vs H1 Q
theorem zou (hc:CallR X (.builtin id) r)(hg:Gl X x)(hm:X.mg x=none)(hv:bootBuiltins x=some (.builtin id))(ha:PA X (e::es) t)(hn:x≠"__name__":=by decide)(hdb:(x==("__debug__" : Str))=false:=by decide)
  (he:starEach (e::es) X.env=(false,eval e X.env)::starEach es X.env:=by rfl)(hpl:(backTo pos (starEach es X.env)).any (·.1)=false:=by rfl):PE X (.Call (.Name x p) (e::es) [] pos) (tCB r t):=by
 intro aU s σ H Q I h;refine xky (zko I hg hm hv ?_ hn hdb);exact PyProof.Rows.callWith_builtin1 (thn (ha pos aU s σ H _ I h) fun us s1 ⟨vs,H1,I1,r1,q1⟩=>hc aU s1 σ H1 vs us Q I1 r1 q1) he hpl
theorem zhj (hc:CallR X (.type T) r)(hg:Gl X x)(hm:X.mg x=none)(hv:bootBuiltins x=some (.type T))(ha:PA X (e::es) t)(hn:x≠"__name__":=by decide)(hdb:(x==("__debug__" : Str))=false:=by decide)
  (he:starEach (e::es) X.env=(false,eval e X.env)::starEach es X.env:=by rfl)(hpl:(backTo pos (starEach es X.env)).any (·.1)=false:=by rfl):PE X (.Call (.Name x p) (e::es) [] pos) (tCB r t):=by
 intro aU s σ H Q I h;refine xky (zko I hg hm hv ?_ hn hdb);exact xfq (thn (ha pos aU s σ H _ I h) fun us s1 ⟨vs,H1,I1,r1,q1⟩=>hc aU s1 σ H1 vs us Q I1 r1 q1) he hpl
end
end L2
namespace HT
open PySem PyProof.Rows
noncomputable def lexLt:List Int->List Int->Bool
 | [],[]=>false
 | [],_::_=>true
 | _::_,[]=>false
 | x::xs,y::ys=>if x=y then lexLt xs ys else decide (x < y)
theorem zcf (x y:Int)(xs ys:List Int):lexLt (x::xs) (y::ys)=if x=y then lexLt xs ys else decide (x < y):=rfl
theorem zcx:lexLt [] []=false:=rfl
theorem zbq (y:Int)(ys:List Int):lexLt [] (y::ys)=true:=rfl
theorem zcj (x:Int)(xs:List Int):lexLt (x::xs) []=false:=rfl
theorem zxc (A:Around)(s:Shared)(a:Int)(t:Tok)(c:Int)(u:Tok):∃e,SeqAt.EqAt A s (.int a t) (.int c u) e/\(e=true↔a=c) :=
 ⟨(a==c),SeqAt.EqAt.int_int a t c u,by simp⟩
theorem zvs (A:Around)(s:Shared)(a:Int)(t:Tok)(c:Int)(u:Tok)(prog:Program)(w:World)(E:Value->Shared->Prop)(Q:Value->Shared->Prop)(h:Q (.bool (decide (a < c))) s) :
  wpAny (model prog w) A (richCompare .Lt (.int a t) (.int c u)) Q E s :=
 (PyProof.Rows.lt_int h:wpAny (model prog w) A (compareOp .Lt (.int a t) (.int c u)) Q E s)
section
open PySem.SeqAt
open PySem.AutoSeq1 (wpAny_loadPart')
open PySem.MeetsSeq PySem.MeetsSeq2 PySem.MeetsSeq3
theorem zet (l b:Addr)(items items2:Array Value)(n n2:Nat)(dd dd2:Option Addr)(sl sl2:Array (Option Value))(ns ms:List Int)(hi:IntsAre items.toList ns)(hj:IntsAre items2.toList ms) :
  Meets (Builtin.«tuple.__lt__» ⟨[.ref l,.ref b],[]⟩)
   (fun _ R s=>s.heap.get? l=some { cls:=.type "tuple", dict:=dd, data:=.seq items n, slots:=sl }/\s.heap.get? b=some { cls:=.type "tuple", dict:=dd2, data:=.seq items2 n2, slots:=sl2 } /\
    R (.ok (.ret (.bool (lexLt ns ms)))) s) :=
 .of_wp fun prog w A R s h=>by
  obtain⟨hp,g,d,tk,os⟩:=s;obtain⟨hl,hb,h⟩:=h
  have f2:=AutoSeq1.sub_tuple_tuple;have z1:items.size=ns.length:=by rw[← hi.length];simp
  have z2:items2.size=ms.length:=by rw[← hj.length];simp
  wp_walk using wpAny_loadPart' hl,wpAny_loadPart' hb,xjv _ (fun rest b s'=>b.1=none/\s'=⟨hp,g,d,tk,os⟩/\∃(vs ws:List Value) (ns' ms':List Int),rest=vs.zip ws /\
   IntsAre vs ns'/\IntsAre ws ms'/\ns'.length+items2.size=ms'.length+items.size/\R (.ok (.ret (.bool (lexLt ns' ms')))) ⟨hp,g,d,tk,os⟩) _
  case turn =>
   rintro⟨y,x⟩ rest b s' ⟨hb',rfl,vs,ws,ns',ms',hz,hvi,hwi,hlen,hR⟩;cases hvi with
   | nil=>rw[List.zip_nil_left] at hz;cases hz
   | cons a t hvi' =>
    cases hwi with
    | nil=>rw[List.zip_nil_right] at hz;cases hz
    | cons c u hwi' =>
     rw[xhy] at hz;injection hz with hyx hrest
     injection hyx with hy hx
     subst hy hx;rw[zcf] at hR;simp only[xby] at hlen;obtain⟨e,he,hiff⟩:=zxc A.in1 ⟨hp,g,d,tk,os⟩ a t c u;refine xba (he prog w _ _ ?_);cases e with
     | true =>
      rw[if_pos (hiff.mp rfl)] at hR
      wp_walk
      exact⟨rfl,rfl,_,_,_,_,hrest,hvi',hwi',by lia,hR⟩
     | false =>
      rw[if_neg (fun q=>absurd (hiff.mpr q) xfd)] at hR;have hri:=zvs A.in1 ⟨hp,g,d,tk,os⟩ a t c u prog w
      wp_walk using hri
      exact⟨_,rfl,by simpa using hR⟩
  case fin =>
   rintro⟨b1,b2⟩ s' ⟨hb',rfl,vs,ws,ns',ms',hz,hvi,hwi,hlen,hR⟩;simp only at hb';subst hb';have hv:lexLt ns' ms'=decide (items.size < items2.size):=by
    cases hvi with
    | nil =>
     cases hwi with
     | nil =>
      simp only[xiv] at hlen;rw[zcx];exact(xcg (by lia)).symm
     | cons c u hw =>
      simp only[xiv,xby] at hlen;rw[zbq];exact(xcs (by lia)).symm
    | cons a t hv =>
     cases hwi with
     | nil =>
      simp only[xiv,xby] at hlen;rw[zcj];exact(xcg (by lia)).symm
     | cons c u hw =>
      rw[xhy] at hz;cases hz
   rw[hv] at hR
   wp_walk
   exact⟨_,rfl,by simpa [Builtin.Tuple.tupleCompareSizes] using hR⟩
  case h =>
   exact⟨rfl,rfl,items.toList,items2.toList,ns,ms,rfl,hi,hj,by lia,h⟩
end
section
variable {prog:Program}{w:World}{A:Around}{E:Value->Shared->Prop}{s:Shared}
theorem zja {l b:Addr}{items items2:Array Value}{ns ms:List Int}{Q:Value->Shared->Prop}(hl:IsTup s.heap l items)(hb:IsTup s.heap b items2)(hi:IntsAre items.toList ns)(hj:IntsAre items2.toList ms)
  (hu:A.units < cLine)(h:Q (.bool (lexLt ns ms)) s):wpAny (model prog w) A (compareOp .Lt (.ref l) (.ref b)) Q E s:=by
 obtain⟨⟨cls,dd,data,sl⟩,ho,hc,n,hd⟩:=id hl;obtain⟨⟨cls2,dd2,data2,sl2⟩,ho2,hc2,n2,hd2⟩:=id hb;simp only at hc hd hc2 hd2;subst hc hd hc2 hd2;exact richCompare_meets_room (op:=.Lt) ⟨_,ho,rfl⟩ ⟨_,ho2,rfl⟩ xjz F.entry_tuple_lt (F.args_tuple_lt_2 _ _) (zet l b items items2 n n2 dd dd2 sl sl2 ns ms hi hj)
  ⟨ho,ho2,show Value.bool (lexLt ns ms)≠Value.notImplemented/\Q (.bool (lexLt ns ms)) s from⟨(fun x=>nomatch x),h⟩⟩ hu
theorem zbcx {t b:Addr}{vs ws:List Value}{Q:Value->Shared->Prop}(ht:IsTup s.heap t vs.toArray)(hb:IsTup s.heap b ws.toArray)(hv:vs≠[])
  (h1:ws=[]->Q (.ref t) s)(h2:ws≠[]->Q (.ref s.heap.objs.size) { s with heap:=s.heap.push { cls:=.type "tuple", data:=.seq (vs++ws).toArray } })
  (hsz:vs.length+ws.length<=sizeLine):wpAny (model prog w) A (binaryOp .Add (.ref t) (.ref b)) Q E s:=by
 obtain⟨⟨cls,dd,data,sl⟩,ho,hc,n,hd⟩:=id ht;obtain⟨⟨cls2,dd2,data2,sl2⟩,ho2,hc2,n2,hd2⟩:=id hb;simp only at hc hd hc2 hd2;subst hc hd hc2 hd2;have e:vs.toArray++ws.toArray=(vs++ws).toArray:=by simp
 by_cases hw:ws=[]
 ·exact concat_meets ⟨_,ho,rfl⟩ ⟨_,ho2,rfl⟩ noFill_tuple_add seq_tuple_add xjq xji (xjb _ _)
   (tuple_addW1 t b vs.toArray ws.toArray n n2 dd dd2 sl sl2 (by simpa using hv) (by simp[hw])) ⟨ho,ho2,h1 hw⟩
 ·refine concat_meets ⟨_,ho,rfl⟩ ⟨_,ho2,rfl⟩ noFill_tuple_add seq_tuple_add xjq xji (xjb _ _)
   (tuple_addW2 t b vs.toArray ws.toArray n n2 dd dd2 sl sl2 (by simpa using hv) (by simpa using hw) (by rw[xbq,xbq];exact hsz)) ⟨ho,ho2,?_⟩
  rw[e];exact h2 hw
noncomputable def sIx (n d:Nat):Option Int->Nat
 | none=>d
 | some v=>if v < 0 then(v+(n:Int)).toNat else min v.toNat n
theorem zok (n d:Nat):sIx n d none=d:=rfl
theorem zuc (n d k:Nat):sIx n d (some (k:Int))=min k n:=by
 show(if(k:Int) < 0 then((k:Int)+(n:Int)).toNat else min (k:Int).toNat n)=min k n;rw[if_neg (by lia),xig]
theorem zbeg (n d:Nat)(hd:d<=n)(o:Option Int):sIx n d o<=n:=by
 cases o with
 | none=>exact hd
 | some v =>
  show(if v < 0 then(v+(n:Int)).toNat else min v.toNat n)<=n;by_cases hv:v < 0
  ·rw[if_pos hv];lia
  ·rw[if_neg hv];exact xfy _ _
theorem zva (v:Int)(n d:Nat):(if v < 0 then max (v+(n:Int)) 0 else min v (n:Int))=((sIx n d (some v):Nat):Int):=by
 show(if v < 0 then max (v+(n:Int)) 0 else min v (n:Int))=(((if v < 0 then(v+(n:Int)).toNat else min v.toNat n):Nat):Int)
 by_cases hv:v < 0
 ·simp only[if_pos hv];lia
 ·simp only[if_neg hv];lia
theorem zqw (lo hi:Option Int)(n:Nat):Builtin.Slice.sliceAdjust lo hi 1 (n:Int)=(((sIx n 0 lo:Nat):Int),((sIx n n hi:Nat):Int)):=by
 have h1:¬ ((1:Int) < 0):=by lia
 unfold Builtin.Slice.sliceAdjust;simp only[h1,xdc];refine Prod.ext ?_ ?_
 ·cases lo with
  | none=>rfl
  | some v=>exact zva v n 0
 ·cases hi with
  | none=>rfl
  | some v=>exact zva v n n
theorem zot (i j:Nat):Builtin.Slice.slicePlaces (i:Int) (j:Int) 1=j - i:=by
 unfold Builtin.Slice.slicePlaces;have h1:(1:Int) > 0:=by lia
 simp only[h1,xeb,Int.ediv_one];split<;>lia
theorem zis {v:Value}{o:Option Int}{Q:Option Int->Shared->Prop}(p:IsPart v o)(h:Q o s):wpAny (model prog w) A (Builtin.Slice.slicePartIndex v) Q E s:=by
 cases p with
 | none=>exact slicePart_none h
 | int i t=>exact slicePart_int h
theorem zcu {sl:Addr}{vl vu:Value}{lo hi:Option Int}{n:Nat}{Q:Int×Int×Nat->Shared->Prop}(hs:s.heap.IsSliceOf sl vl vu .none)(pl:IsPart vl lo)(pu:IsPart vu hi)
  (h:Q (((sIx n 0 lo:Nat):Int),1,sIx n n hi - sIx n 0 lo) s):wpAny (model prog w) A (Builtin.Slice.sliceApplied (.ref sl) (pure (n:Int))) Q E s:=by
 obtain⟨os,hos,hcs,hds⟩:=id hs;unfold Builtin.Slice.sliceApplied Builtin.Slice.sliceFields;refine xba (xba (xhl hos hds (x:=vl) rfl (xba (xhl hos hds (x:=vu) rfl (xba (xhl hos hds (x:=.none) rfl (xbc ?_)))))));refine xba (slicePart_none ?_);show wpAny _ _ (if((1:Int)==0)=true then _ else _) _ _ s;rw[if_neg (by decide)];refine xba (zis pl (xba (zis pu (xba (xbc ?_)))));show wpAny _ _ (match Builtin.Slice.sliceAdjust lo hi 1 (n:Int) with | (lo,hi)=>pure (lo,(1:Int),Builtin.Slice.slicePlaces lo hi 1)) _ _ s;rw[zqw lo hi n];show wpAny _ _ (pure (((sIx n 0 lo:Nat):Int),(1:Int),Builtin.Slice.slicePlaces ((sIx n 0 lo:Nat):Int) ((sIx n n hi:Nat):Int) 1)) _ _ s;rw[zot];exact xbc h
theorem zvz (xs:Array Value)(i k:Nat):((List.range k).filterMap fun(m:Nat)=>xs[((i:Int)+(m:Int) * 1).toNat]?).toArray=((xs.toList.drop i).take k).toArray:=by
 have e:(fun(m:Nat)=>xs[((i:Int)+(m:Int) * 1).toNat]?)=fun m=>xs[i+m]?:=by
  funext m
  have:((i:Int)+(m:Int) * 1).toNat=i+m:=by lia
  rw[this]
 rw[e];have:=pick_run xs i k;rw[List.filterMap_map] at this;have e2:((fun x=>xs[x]?) ∘ fun x=>i+x)=fun m=>xs[i+m]?:=rfl
 rw[e2] at this;rw[this]
theorem zfd {t sl:Addr}{items:Array Value}{vl vu:Value}{lo hi:Option Int}{Q:Value->Shared->Prop}(ht:IsTup s.heap t items)(hs:s.heap.IsSliceOf sl vl vu .none)(pl:IsPart vl lo)(pu:IsPart vu hi)
  (hw:¬ (sIx items.size 0 lo=0/\sIx items.size items.size hi=items.size))
  (h:Q (.ref s.heap.objs.size) { s with heap:=s.heap.push { cls:=.type "tuple", data:=.seq ((items.toList.drop (sIx items.size 0 lo)).take (sIx items.size items.size hi - sIx items.size 0 lo)).toArray } })
  (hsz:items.size<=sizeLine):wpAny (model prog w) A (getItem (.ref t) (.ref sl)) Q E s:=by
 have htake:sizeOk (.seq ((items.toList.drop (sIx items.size 0 lo)).take (sIx items.size items.size hi - sIx items.size 0 lo)).toArray):=by
  show((items.toList.drop (sIx items.size 0 lo)).take (sIx items.size items.size hi - sIx items.size 0 lo)).toArray.size<=sizeLine;rw[xbq,xcm,xgn,xca];lia
 have hj:sIx items.size items.size hi<=items.size:=zbeg _ _ (xbf _) hi;obtain⟨os,hos,hcs,hds⟩:=id hs;have hTs:s.TypeIs (.ref sl) "slice":=⟨os, hos, hcs⟩
 unfold getItem
 try with_reducible refine xdx ?_
 first | refine xba (xbc ?_) | skip
 refine xba (wpAny_sequenceKey ht.typeIs (by decide) ?_)
 refine xba (wpAny_callSpecial?_slot (name:=Str.ofString "__getitem__") ht.typeIs xht
  (xew xht ht.typeIs entry_tuple_getitem ?_ (args_tuple_getitem _ _)))
 show wpAny _ _ (Builtin.Tuple.tupleItemsOf (.ref t) >>= _) _ _ s;refine xba (tupleItemsOf_ ht ?_);refine xba (wpAny_typeOf hTs ?_);rw[if_pos (by decide)];refine xba (zcu hs pl pu ?_);have hno:¬ ((((sIx items.size 0 lo:Nat):Int)==0&&(1:Int)==1&&(sIx items.size items.size hi - sIx items.size 0 lo)==items.size)=true):=by
  intro q;rw[xfe,xfe] at q;have q1:((sIx items.size 0 lo:Nat):Int)=0:=eq_of_beq q.1.1;have q2:sIx items.size items.size hi - sIx items.size 0 lo=items.size:=eq_of_beq q.2;exact hw ⟨by lia,by lia⟩
 show wpAny _ _ (if(((sIx items.size 0 lo:Nat):Int)==0&&(1:Int)==1&&(sIx items.size items.size hi - sIx items.size 0 lo)==items.size)=true then _ else _) _ _ s;rw[if_neg hno,zvz]
 first
  | exact xba (m:=Builtin.Tuple.tupleExact _) (xfo (xbc ⟨_,rfl,xbc h⟩) htake)
  | exact xba (m:=Builtin.Tuple.tupleExact _) (xfo (xba (xbc (xbc ⟨_,rfl,xbc h⟩))) htake)
  | exact xba (xba (m:=Builtin.Tuple.tupleExact _) (xfo (xbc (xbc ⟨_,rfl,xbc h⟩)) htake))
  | exact xba (xba (m:=Builtin.Tuple.tupleExact _) (xfo (xbc ⟨_,rfl,xbc h⟩) htake))
end
end HT
namespace L2
open PySem PySem.Spec PyProof.Rows
noncomputable abbrev TO:=St->Hp->(Option Int->Hp->Prop)->Prop
noncomputable def PO (X:Cx) (e:Option Expr) (t:TO):Prop :=
 ∀(aU:List (Addr×Obj)) (s:Shared) (σ:St) (H:Hp) (Q:Option Int->Hp->Prop),Inv X aU σ H s->t σ H Q ->
  wpAny (model X.prog X.w) X.A (evalPart e X.env) (fun u s'=>∃o H',Inv X aU σ H' s'/\IsPart u o/\Q o H') X.xe s
noncomputable def tNoPart:TO:=fun _ H Q=>Q none H
noncomputable def tPart (t:TE):TO:=fun σ H Q=>t σ H fun x H1=>∃i,x=.int i/\Q (some i) H1
theorem zcy {ns:List Int}:∀{us:List Value},Vals (ns.map V.int) us->IntsAre us ns:=by
 induction ns with
 | nil=>intro us r;rw[xlm] at r;cases r;exact .nil
 | cons n ns ih =>
  intro us r;rw[xbn] at r;cases r with
  | cons r1 r2 =>
   obtain⟨t,e⟩:=r1;subst e;exact .cons n t (ih r2)
section
variable {X:Cx}{e:Expr}{te:TE}{lo hi:Option Expr}{tl th:TO}{pos p2:Pos}
theorem zzs:PO X none tNoPart:=by
 intro aU s σ H Q I h;rw[evalPart_none];exact xbc ⟨none,H,I,.none,h⟩
theorem zzr (h:PE X e te):PO X (some e) (tPart te):=by
 intro aU s σ H Q I hw;rw[evalPart_some];refine thn (h aU s σ H _ I hw) fun u s1 hq0=>?_
 obtain⟨x,H1,I1,r1,q1⟩:=hq0;obtain⟨i,rfl,q⟩:=q1;obtain⟨t,rfl⟩:=r1;exact⟨some i,H1,I1,.int i t,q⟩
noncomputable def SlR (X:Cx) (r:V->Option Int->Option Int->Hp->VK->Prop):Prop :=
 ∀(aU:List (Addr×Obj)) (s:Shared) (σ:St) (H:Hp) (x:V) (v vl vu:Value) (lo hi:Option Int) (sl:Addr) (Q:VK),Inv X aU σ H s->RelV x v->s.heap.IsSliceOf sl vl vu .none->IsPart vl lo->IsPart vu hi->r x lo hi H Q ->
  ∃ T id, typeLookup (.type T) "__getitem__"=pure (some (.builtin id))/\s.TypeIs v T/\wpAny (model X.prog X.w) X.A (getItem v (.ref sl)) (EP X aU σ Q) X.xe s
theorem SlR.or {r r':V->Option Int->Option Int->Hp->VK->Prop}(h:SlR X r)(h':SlR X r'):SlR X (fun x lo hi H Q=>r x lo hi H Q\/r' x lo hi H Q):=by
 intro aU s σ H x v vl vu lo hi sl Q I rx hs pl pu q;rcases q with q | q
 ·exact h aU s σ H x v vl vu lo hi sl Q I rx hs pl pu q
 ·exact h' aU s σ H x v vl vu lo hi sl Q I rx hs pl pu q
noncomputable def tSl (r:V->Option Int->Option Int->Hp->VK->Prop) (te:TE) (tl th:TO):TE:=fun σ H Q=>te σ H fun x H1=>tl σ H1 fun l H2=>th σ H2 fun u H3=>r x l u H3 Q
theorem zwc {r:V->Option Int->Option Int->Hp->VK->Prop}(hr:SlR X r)(he:PE X e te)(hl:PO X lo tl)(hu:PO X hi th):PE X (.Subscript e (.Slice lo hi none p2) pos) (tSl r te tl th):=by
 intro aU s σ H Q I h;refine Subscript_ (thn (he aU s σ H _ I h) fun v s1 hq0=>?_);obtain⟨x,H1,I1,r1,q1⟩:=hq0;refine wpAny_Slice (thn (hl aU s1 σ H1 _ I1 q1) fun vl s2 ⟨l,H2,I2,pl,q2⟩=>thn (hu aU s2 σ H2 _ I2 q2) fun vu s3 hq0=>?_);obtain⟨u,H3,I3,pu,q3⟩:=hq0;rw[evalPart_none];refine xbc ?_;have I4:Inv X aU σ H3 { s3 with heap:=s3.heap.push { cls:=.type "slice", data:=.fields #[vl, vu, .none] } }:=I3.kept (t':=s3.toks) fun b ob q=>xbd _ q
 obtain⟨T, id, hT, ht, hg⟩:=hr aU { s3 with heap:=s3.heap.push { cls:=.type "slice", data:=.fields #[vl, vu, .none] } } σ H3 x v vl vu l u s3.heap.objs.size Q I4 r1 (Heap.IsSliceOf.new ..) pl pu q3
 show wpAny (model X.prog X.w) X.A (subscriptTail e (.Slice lo hi none p2) v (.ref s3.heap.objs.size)) (EP X aU σ Q) X.xe { s3 with heap:=s3.heap.push { cls:=.type "slice", data:=.fields #[vl, vu, .none] } }
 exact tail_any (ops:=[.ref s3.heap.objs.size,v]) ht hT hg (by with_unfolding_all rfl)
noncomputable def cutV (xs:List V) (lo hi:Option Int):List V:=(xs.drop (HT.sIx xs.length 0 lo)).take (HT.sIx xs.length xs.length hi - HT.sIx xs.length 0 lo)
theorem zhb (xs:List V)(lo hi:Option Int):(cutV xs lo hi).length<=xs.length:=by
 unfold cutV;rw[xcm,xgn];lia
noncomputable def rSlT (K:Fg):V->Option Int->Option Int->Hp->VK->Prop:=fun x lo hi H Q=>∃a xs,x=.ref a/\SqT K H a xs /\
 ¬ (HT.sIx xs.length 0 lo=0/\HT.sIx xs.length xs.length hi=xs.length)/\∀p,H p=none->Q (.ref p) (upd H p (.tup (cutV xs lo hi)))
theorem zbdy:SlR X (rSlT X.K):=by
 intro aU s σ H x v vl vu lo hi sl Q I rx hs pl pu h;obtain⟨a,xs,rfl,hx,hw,q⟩:=h;cases rx;obtain⟨its,r,ht,hz⟩:=I.tuple hx;have hlen:its.toArray.size=xs.length:=by rw[xbq];exact r.length.symm
 refine⟨"tuple", _, xht.lookup, ht.typeIs, ?_⟩
 refine HT.zfd ht hs pl pu (by rw[hlen];exact hw) ?_ (by rw[hlen];exact hz);rw[hlen];refine⟨.ref s.heap.objs.size,_,I.laid (t':=s.toks) (o:=.tup (cutV xs lo hi)) (fun b ob q=>xbd _ q) (xbf _) ?_,rfl,q _ (I.hok.fresh (xbf _))⟩;exact⟨xbb (zhb xs lo hi) hz,_,(r.drop (HT.sIx xs.length 0 lo)).take (HT.sIx xs.length xs.length hi - HT.sIx xs.length 0 lo),IsTup.new _ _⟩
noncomputable def rLtT (K:Fg):R2:=fun x y H Q=>∃a b ns ms,x=.ref a/\y=.ref b/\SqT K H a (ns.map V.int)/\SqT K H b (ms.map V.int)/\Q (.bl (HT.lexLt ns ms)) H
theorem zbff (hu:X.A.units < cLine):OpR X (compareOp .Lt) (rLtT X.K):=by
 intro aU s σ H x y v u Q I rx ry h;obtain⟨a,b,ns,ms,rfl,rfl,ha,hb,q⟩:=h;cases rx;cases ry;obtain⟨its,r1,p1,_⟩:=I.tuple ha;obtain⟨its2,r2,p2,_⟩:=I.tuple hb;have i1:IntsAre its.toArray.toList ns:=zcy r1;have i2:IntsAre its2.toArray.toList ms:=zcy r2;exact HT.zja p1 p2 i1 i2 hu ⟨.bl (HT.lexLt ns ms),H,I,rfl,q⟩
noncomputable def rCatT (K:Fg):R2:=fun x y H Q=>∃a b xs ys,x=.ref a/\y=.ref b/\SqT K H a xs/\SqT K H b ys/\xs≠[]/\xs.length+ys.length<=sizeLine /\
 (ys=[]->Q (.ref a) H)/\(ys≠[]->∀p,H p=none->Q (.ref p) (upd H p (.tup (xs++ys))))
theorem Vals.nil_iff {xs:List V}{us:List Value}(r:Vals xs us):us=[]↔xs=[]:=by
 cases r with
 | nil=>simp
 | cons _ _=>simp
theorem zbal:OpR X (binaryOp .Add) (rCatT X.K):=by
 intro aU s σ H x y v u Q I rx ry h;obtain⟨a,b,xs,ys,rfl,rfl,ha,hb,hx,hz,q1,q2⟩:=h;cases rx;cases ry;obtain⟨its,r1,p1,_⟩:=I.tuple ha;obtain⟨its2,r2,p2,_⟩:=I.tuple hb;refine HT.zbcx p1 p2 (fun z=>hx (r1.nil_iff.mp z)) (fun z=>⟨.ref a,H,I,rfl,q1 (r2.nil_iff.mp z)⟩) (fun z=>?_) (by rw[← r1.length,← r2.length];exact hz);refine⟨.ref s.heap.objs.size,_,I.laid (t':=s.toks) (o:=.tup (xs++ys)) (fun b ob q=>xbd _ q) (xbf _) ?_,rfl,q2 (fun w=>z (r2.nil_iff.mpr w)) _ (I.hok.fresh (xbf _))⟩;exact⟨by rw[xbk];exact hz,_,r1.append r2,IsTup.new _ _⟩
end
noncomputable def ixN (n:Nat) (i:Int):Option Nat:=if 0<=i then(if i < n then some i.toNat else none) else if -(n:Int)<=i then some (i+n).toNat else none
noncomputable def atI {α:Type} (xs:List α) (i:Int):Option α:=(ixN xs.length i).bind fun j=>xs[j]?
theorem zuk {n:Nat}{i:Int}{j:Nat}(h:ixN n i=some j):seqIndex? i n=some j/\j < n/\-(n:Int)<=i/\i < n:=by
 unfold ixN at h;by_cases h0:0<=i
 ·rw[if_pos h0] at h;by_cases h1:i < n
  ·rw[if_pos h1] at h;have e:i.toNat=j:=xco h;exact⟨by rw[seqIndex_of h0 h1,e],by lia,by lia,h1⟩
  ·rw[if_neg h1] at h;cases h
 ·rw[if_neg h0] at h;by_cases h1:-(n:Int)<=i
  ·rw[if_pos h1] at h;have e:(i+n).toNat=j:=xco h;exact⟨by rw[seqIndex_neg (by lia) h1,e],by lia,h1,by lia⟩
  ·rw[if_neg h1] at h;cases h
theorem zqt {α:Type}{xs:List α}{i:Int}{v:α}(h:atI xs i=some v):∃j,seqIndex? i xs.length=some j/\xs[j]?=some v/\j < xs.length/\-(xs.length:Int)<=i/\i < xs.length:=by
 unfold atI at h;cases e:ixN xs.length i with
 | none=>rw[e] at h;cases h
 | some j =>
  rw[e] at h;obtain⟨h1,h2,h3,h4⟩:=zuk e;exact⟨j,h1,h,h2,h3,h4⟩
theorem zve {α:Type}{xs:List α}{j:Nat}{v:α}(h:xs[j]?=some v):atI xs (j:Int)=some v:=by
 have hj:j < xs.length:=(xbm.mp h).1;have e:ixN xs.length (j:Int)=some j:=by
  unfold ixN;rw[if_pos (by lia),if_pos (by lia)];simp
 unfold atI;rw[e];exact h
noncomputable def PlainIx (b:Expr):Prop:=∀o i,subscripted b false o i=operate [o,i] (getItem o i)
noncomputable def IxR (X:Cx) (r:R2):Prop :=
 ∀(value slice:Expr) (aU:List (Addr×Obj)) (s:Shared) (σ:St) (H:Hp) (x y:V) (v u:Value) (Q:VK),Inv X aU σ H s->RelV x v->RelV y u->r x y H Q ->
  subscripted slice false v u=operate [v,u] (getItem v u)->wpAny (model X.prog X.w) X.A (subscriptTail value slice v u) (EP X aU σ Q) X.xe s
noncomputable def MtR (X:Cx) (id:String) (r:V->List V->Hp->VK->Prop):Prop :=
 ∀(aU:List (Addr×Obj)) (s:Shared) (σ:St) (H:Hp) (x:V) (xs:List V) (v:Value) (us:List Value) (Q:VK),Inv X aU σ H s->RelV x v->Vals xs us->r x xs H Q ->
  wpAny (model X.prog X.w) X.A (call (.builtin id) (v::us)) (EP X aU σ Q) X.xe s
section
variable {X:Cx}{a b:Expr}{ta tb:TE}{pos:Pos}
theorem IxR.or {r r':R2}(h:IxR X r)(h':IxR X r'):IxR X (fun x y H Q=>r x y H Q\/r' x y H Q):=by
 intro value slice aU s σ H x y v u Q I rx ry q hs;rcases q with q | q
 ·exact h value slice aU s σ H x y v u Q I rx ry q hs
 ·exact h' value slice aU s σ H x y v u Q I rx ry q hs
theorem zbjq {r:R2}(hr:IxR X r)(ha:PE X a ta)(hb:PE X b tb)(hs:PlainIx b):PE X (.Subscript a b pos) (tOp r ta tb):=by
 intro aU s σ H Q I h;exact Subscript_ (binT ha hb I h fun v u s2 x y H2 I2 rx ry q=>hr a b aU s2 σ H2 x y v u Q I2 rx ry q (hs _ _))
noncomputable def rIxL (K:Fg):R2:=fun x y H Q=>∃p xs i v,x=.ref p/\y=.int i/\SqL K H p xs/\atI xs i=some v/\Q v H
noncomputable def rIxT (K:Fg):R2:=fun x y H Q=>∃p xs i v,x=.ref p/\y=.int i/\SqT K H p xs/\atI xs i=some v/\Q v H
noncomputable def rIxS:R2:=fun x y H Q=>∃z i c,x=.str z/\y=.int i/\z.length<=sizeLine/\atI z.cps.toList i=some c/\Q (.str ⟨#[c]⟩) H
theorem zbbh:IxR X (rIxL X.K):=by
 intro value slice aU s σ H x y v u Q I rx ry h hs;obtain⟨p,xs,i,z,rfl,rfl,hq,he,q⟩:=h;cases rx;obtain⟨t,rfl⟩:=ry;obtain⟨its,r,pl,hz⟩:=I.list hq;obtain⟨j,h1,h2,h3,h4,h5⟩:=zqt he;obtain⟨w,ew,rw'⟩:=r.get h2;have hl:=r.length;have hn:=line63;have fin:EP X aU σ Q w s:=⟨z,H,I,rw',q⟩
 by_cases h0:0<=i
 ·have hj:i.toNat=j:=by
   rw[seqIndex_of h0 h5] at h1;exact xco h1
  exact item_listR pl.isList h0 (by lia) (by rw[hj];simpa using ew) fin hs
 ·have hj:(i+(its.toArray.size:Int)).toNat=j:=by
   rw[seqIndex_neg (by lia) h4] at h1;rw[xbq,← hl];exact xco h1
  exact subscriptTail_builtinR (x:=w) pl.isList.typeIs slot_list_getitem.lookup
   (wpAny_getItem_list_neg (Q:=fun r s'=>r=w/\EP X aU σ Q r s') pl.isList (by lia) (by rw[xbq]<;>lia) (by lia) (by rw[hj];simpa using ew) ⟨rfl,fin⟩) hs
theorem zbfx:IxR X (rIxT X.K):=by
 intro value slice aU s σ H x y v u Q I rx ry h hs;obtain⟨p,xs,i,z,rfl,rfl,hq,he,q⟩:=h;cases rx;obtain⟨t,rfl⟩:=ry;obtain⟨its,r,pl,hz⟩:=I.tuple hq;obtain⟨j,h1,h2,h3,h4,h5⟩:=zqt he;obtain⟨w,ew,rw'⟩:=r.get h2;have hl:=r.length;have hn:=line63;have fin:EP X aU σ Q w s:=⟨z,H,I,rw',q⟩
 exact subscriptTail_builtinR (x:=w) pl.typeIs xjf.lookup
  (getItem_tuple (j:=j) (Q:=fun r s'=>r=w/\EP X aU σ Q r s') pl (by lia) (by lia) (by rw[xbq,← hl];exact h1) (by simpa using ew) ⟨rfl,fin⟩) hs
theorem zbfy:IxR X rIxS:=by
 intro value slice aU s σ H x y v u Q I rx ry h hs;obtain⟨z,i,c,rfl,rfl,hz,he,q⟩:=h;obtain⟨t,rfl⟩:=rx;obtain⟨t',rfl⟩:=ry;obtain⟨j,h1,h2,h3,h4,h5⟩:=zqt he;have hl:z.cps.toList.length=z.length:=by simp[Str.length]
 rw[hl] at h1 h4 h5;have hn:=line63
 exact tail_any (typeIs_str s z t) slot_str_getitem.lookup (getItem_str (c:=c) (by
  have e1:decide (i < -(2 ^ 63:Int))=false:=xcg (by lia);have e2:decide (i ≥ 2 ^ 63)=false:=xcg (by lia)
  rw[e1,e2,Bool.or_false]) (by rw[h1];simpa using h2) ⟨.str ⟨#[c]⟩,H,I.tok _,⟨_,rfl⟩,q⟩) hs
noncomputable def rIx (K:Fg):R2:=fun x y H Q=>rIxL K x y H Q\/rIxT K x y H Q\/rIxS x y H Q
theorem zbfz:IxR X (rIx X.K):=zbbh.or (zbfx.or zbfy)
theorem zpd (its:List Value)(n j:Nat)(u:Value):Obj.mapSeq (·.setIfInBounds j u) { cls:=.type "list", data:=.seq its.toArray n }={ cls:=.type "list", data:=.seq (its.set j u).toArray n }:=by
 simp[Obj.mapSeq]
theorem Inv.lst {aU:List (Addr×Obj)}{σ:St}{H:Hp}{s:Shared}{p:Addr}{xs:List V}(I:Inv X aU σ H s)(h:H p=some (.lst xs)) :
  ∃(its:List Value) (n:Nat), Vals xs its/\s.heap.get? p=some { cls:=.type "list", data:=.seq its.toArray n }/\xs.length<=sizeLine:=by
 obtain⟨z,its,n,r,e⟩:=I.hok p _ h;exact⟨its,n,r,e,z⟩
theorem Inv.lstUpd {aU:List (Addr×Obj)}{σ:St}{H:Hp}{s:Shared}{p:Addr}{xs ys:List V}{its its':List Value}{n n':Nat}{f:Obj->Obj}(I:Inv X aU σ H s)(h:H p=some (.lst xs))
  (ho:s.heap.get? p=some { cls:=.type "list", data:=.seq its.toArray n })(hf:f { cls:=.type "list", data:=.seq its.toArray n }={ cls:=.type "list", data:=.seq its'.toArray n' })(r:Vals ys its')(hz:ys.length<=sizeLine)(t:Nat) :
  Inv X aU σ (upd H p (.lst ys)) {s with heap:=s.heap.update p f,toks:=t}:=by
 have e:(s.heap.update p f).get? p=some { cls:=.type "list", data:=.seq its'.toArray n' }:=by
  rw[xha f ho (by rw[hf]<;>rfl),hf]
 refine I.write (x:=p) (e:=p) (by rw[h];trivial) (.inl rfl) (fun b u hb q=>(Heap.get?_update_other _ _ (xda hb)).trans q) ⟨_,e⟩ ?_;exact⟨hz,its',n',r,e⟩
noncomputable def rSetL:V->V->V->Hp->(Hp->Prop)->Prop:=fun o i v H Q=>∃p xs k j,o=.ref p/\i=.int k/\H p=some (.lst xs)/\ixN xs.length k=some j/\Q (upd H p (.lst (xs.set j v)))
theorem zvp:PSet X rSetL:=by
 intro aU s σ H o i v ov iv u Q I ro ri rv h;obtain⟨p,xs,k,j,rfl,rfl,hp,hj,q⟩:=h;cases ro;obtain⟨t,rfl⟩:=ri;obtain⟨its,n,r,ho,hz⟩:=I.lst hp;obtain⟨h1,h2,h3,h4⟩:=zuk hj;have hl:=r.length;have hn:=line63;have I':Inv X aU σ (upd H p (.lst (xs.set j v))) {s with heap:=s.heap.update p (Obj.mapSeq (·.setIfInBounds j u))} :=
  I.lstUpd hp ho (zpd its n j u) (r.set rv j) (by rw[xfr];exact hz) s.toks
 by_cases h0:0<=k
 ·have hk:k.toNat=j:=by
   rw[seqIndex_of h0 h4] at h1;exact xco h1
  exact W.ki_setAt ho h0 (by lia) (by rw[xbq,← hl];exact h4) (by rw[hk];exact⟨_,I',q⟩)
 ·have hk:(k+(its.toArray.size:Int)).toNat=j:=by
   rw[seqIndex_neg (by lia) h3] at h1;rw[xbq,← hl];exact xco h1
  exact W.ki_setBack ho (by lia) (by rw[xbq,← hl];exact h3) (by lia) (by rw[hk];exact⟨_,I',q⟩)
theorem zjy (lo hi:Option Int)(n:Nat):(sliceBounds lo hi none n).1=((HT.sIx n 0 lo:Nat):Int)/\(sliceBounds lo hi none n).2.1=((HT.sIx n n hi:Nat):Int)/\(sliceBounds lo hi none n).2.2=1:=by
 refine⟨?_,?_,rfl⟩
 ·cases lo with
  | none=>simp[sliceBounds,HT.sIx]
  | some i =>
   simp only[sliceBounds,HT.sIx,Option.getD_none,show(1:Int) > 0 by decide,xeb];by_cases h:i < 0
   ·simp only[h,xeb]<;>lia
   ·simp only[h,xdc]<;>lia
 ·cases hi with
  | none=>simp[sliceBounds,HT.sIx]
  | some i =>
   simp only[sliceBounds,HT.sIx,Option.getD_none,show(1:Int) > 0 by decide,xeb];by_cases h:i < 0
   ·simp only[h,xeb]<;>lia
   ·simp only[h,xdc]<;>lia
theorem zir (its:List Value)(lo hi:Option Int):slicePick its.toArray lo hi none=((its.drop (HT.sIx its.length 0 lo)).take (HT.sIx its.length its.length hi - HT.sIx its.length 0 lo)).toArray:=by
 obtain⟨h1,h2,h3⟩:=zjy lo hi its.toArray.size;unfold slicePick;rw[h1,h2,h3];simp only[sliceRange_one,pick_run,xbq]<;>rfl
noncomputable def rSlL (K:Fg):V->Option Int->Option Int->Hp->VK->Prop:=fun x lo hi H Q=>∃a xs,x=.ref a/\SqL K H a xs/\∀p,H p=none->Q (.ref p) (upd H p (.lst (cutV xs lo hi)))
theorem zzg:SlR X (rSlL X.K):=by
 intro aU s σ H x v vl vu lo hi sl Q I rx hs pl pu h;obtain⟨a,xs,rfl,hx,q⟩:=h;cases rx;obtain⟨its,r,ht,hz⟩:=I.list hx;have hlen:=r.length;refine⟨"list", _, slot_list_getitem.lookup, ht.isList.typeIs, ?_⟩
 refine wpAny_getItem_list_slice ht.isList hs pl pu .none (by simp) ?_ (by rw[xbq]<;>lia);rw[zir,← hlen];refine⟨.ref s.heap.objs.size,_,I.laid (t':=s.toks) (o:=.lst (cutV xs lo hi)) (fun b ob q=>xbd _ q) (xbf _) ?_,rfl,q _ (I.hok.fresh (xbf _))⟩;exact⟨xbb (zhb xs lo hi) hz,_,0,(r.drop (HT.sIx xs.length 0 lo)).take (HT.sIx xs.length xs.length hi - HT.sIx xs.length 0 lo),xbr _ rfl⟩
theorem zbt:CallR X (.builtin "len") (fun xs H Q=>∃ p ys, xs=[.ref p]/\(SqL X.K H p ys\/SqT X.K H p ys)/\Q (.int ys.length) H):=by
 intro aU s σ H xs us Q I r h;obtain⟨p,ys,rfl,hq,q⟩:=h;obtain⟨u,rfl,rx⟩:=vals1 r;cases rx;have hn:=line63;rcases hq with hq | hq
 ·obtain⟨its,r',pl,hz⟩:=I.list hq;have hlen:=r'.length;exact Calls.call_len_list pl.isList (by simp only[xbq]<;>lia) ⟨.int ys.length,H,I.tok _,⟨s.toks+1,by rw[xbq,hlen]⟩,q⟩
 ·obtain⟨its,r',pl,hz⟩:=I.tuple hq;have hlen:=r'.length;exact len_tuple pl (by simp only[xbq]<;>lia) ⟨.int ys.length,H,I.tok _,⟨s.toks+1,by rw[xbq,hlen]⟩,q⟩
theorem CallR.or {f:Value}{r r':List V->Hp->VK->Prop}(h:CallR X f r)(h':CallR X f r'):CallR X f (fun xs H Q=>r xs H Q\/r' xs H Q):=by
 intro aU s σ H xs us Q I rs q;rcases q with q | q
 ·exact h aU s σ H xs us Q I rs q
 ·exact h' aU s σ H xs us Q I rs q
theorem zcm:CallR X (.type "list") (fun xs H Q=>∃ p ys, xs=[.ref p]/\(SqL X.K H p ys\/SqT X.K H p ys)/\∀ l, H l=none->Q (.ref l) (upd H l (.lst ys))):=by
 intro aU s σ H xs us Q I r h;obtain⟨p,ys,rfl,hq,q⟩:=h;obtain⟨u,rfl,rx⟩:=vals1 r;cases rx;have fin:∀(its:List Value),Vals ys its->ys.length<=sizeLine->∀(h':Heap) (c':Nat),(∀b o',s.heap.get? b=some o'->h'.get? b=some o') ->
   h'.get? s.heap.objs.size=some { cls:=.type "list", dict:=none, data:=.seq its.toArray c', slots:=#[] }->EP X aU σ Q (.ref s.heap.objs.size) { s with heap:=h' }:=fun its r' hz h' c' kp e =>
  ⟨.ref s.heap.objs.size,_,I.laid (t':=s.toks) kp (xbf _) (show ObjOk X.prog X.w _ h' _ (.lst ys) from⟨hz,its,c',r',e⟩),rfl,q _ (I.hok.fresh (xbf _))⟩
 rcases hq with hq | hq
 ·obtain⟨its,r',pl,hz⟩:=I.list hq;have hlen:=r'.length;obtain⟨o,ho,hc,n,hd⟩:=pl.isList;exact call_list_seq p (.inl rfl) ho hc hd (fun h' c' kp e=>fin its r' hz h' c' kp e) (by simp only[xbq]<;>lia)
 ·obtain⟨its,r',pl,hz⟩:=I.tuple hq;have hlen:=r'.length;obtain⟨o,ho,hc,n,hd⟩:=pl;exact call_list_seq p (.inr rfl) ho hc hd (fun h' c' kp e=>fin its r' hz h' c' kp e) (by simp only[xbq]<;>lia)
theorem zbz:CallR X (.type "tuple") (fun xs H Q=>∃ p ys, xs=[.ref p]/\((SqL X.K H p ys/\∀ l, H l=none->Q (.ref l) (upd H l (.tup ys)))\/(SqT X.K H p ys/\Q (.ref p) H))):=by
 intro aU s σ H xs us Q I r h;obtain⟨p,ys,rfl,h⟩:=h;obtain⟨u,rfl,rx⟩:=vals1 r;cases rx;rcases h with⟨hq,q⟩ | ⟨hq,q⟩
 ·obtain⟨its,r',pl,hz⟩:=I.list hq;have hlen:=r'.length;refine call_tuple_list pl.isList (fun h' kp=>?_) (by simp only[xbq]<;>lia);have I1:Inv X aU σ H {s with heap:=h'}:=I.kept (t':=s.toks) kp;have I2:Inv X aU σ (upd H h'.objs.size (.tup ys)) { s with heap:=h'.push { cls:=.type "tuple", data:=.seq its.toArray } } :=
   I1.laid (t':=s.toks) (fun b o e=>xbd _ e) (xbf _) (show ObjOk X.prog X.w _ _ _ (.tup ys) from⟨hz,its,r',IsTup.new _ _⟩)
  exact⟨.ref h'.objs.size,_,I2,rfl,q _ (I1.hok.fresh (xbf _))⟩
 ·obtain⟨its,r',pl,hz⟩:=I.tuple hq;exact call_tuple_same pl ⟨.ref p,H,I,rfl,q⟩
noncomputable def tyV (K:Fg) (T:String) (x:V) (H:Hp):Prop:=match x with
 | .str _=>T="str"
 | .int _=>T="int"
 | .ref p=>(T="list"/\∃ xs, SqL K H p xs)\/(T="tuple"/\∃ o, K.lookup p=some o/\o.cls=.type "tuple"/\o.dict=none) \/
  (T="dict"/\((∃ kvs, H p=some (.dK kvs))\/∃ kvs, H p=some (.dT kvs)))\/(T="set"/\∃ S n, H p=some (.set S n))
 | _=>False
theorem zbdt {aU:List (Addr×Obj)}{σ:St}{H:Hp}{s:Shared}{T:String}{x:V}{v:Value}(I:Inv X aU σ H s)(r:RelV x v)(ty:tyV X.K T x H) :
  s.TypeIs v T/\∀a,v=.ref a->∃ob,s.heap.get? a=some ob/\ob.dict=none:=by
 cases x with
 | str z =>
  obtain⟨t,rfl⟩:=r;cases(show T="str" from ty)
  exact⟨typeIs_str s z t,fun _ e=>nomatch e⟩
 | int i =>
  obtain⟨t,rfl⟩:=r;cases(show T="int" from ty)
  exact⟨typeIs_int s i t,fun _ e=>nomatch e⟩
 | ref p =>
  cases r;rcases ty with⟨rfl,xs,hq⟩ | ⟨rfl,o,hk,hc,hd⟩ | ⟨rfl,hk⟩ | ⟨rfl,S,n,hk⟩
  ·obtain⟨its,_,pl,_⟩:=I.list hq;refine⟨pl.isList.typeIs,fun a e=>?_⟩;cases e;obtain⟨o,n,e,c,hd,_⟩:=pl;exact⟨o,e,hd⟩
  ·refine⟨⟨o,I.kIn p o hk,hc⟩,fun a e=>?_⟩;cases e;exact⟨o,I.kIn _ o hk,hd⟩
  ·have z:∃o,s.heap.get? p=some o/\o.ExactDict:=by
    rcases hk with⟨kvs,hk⟩ | ⟨kvs,hk⟩
    ·obtain⟨_,_,_,_,o,_,_,e,ex,_⟩:=I.hok p _ hk;exact⟨o,e,ex⟩
    ·obtain⟨_,_,_,_,o,_,_,e,ex,_⟩:=I.hok p _ hk;exact⟨o,e,ex⟩
   obtain⟨o,e,ex⟩:=z;refine⟨⟨o,e,ex.1⟩,fun a e2=>?_⟩;cases e2;exact⟨o,e,ex.2.1⟩
  ·obtain⟨o,_,_,_,e,ex,_⟩:=I.hok p _ hk;refine⟨⟨o,e,ex.1⟩,fun a e2=>?_⟩;cases e2;exact⟨o,e,ex.2.1⟩
 | _=>exact False.elim ty
noncomputable def tBM (K:Fg) (T:String) (r:V->List V->Hp->VK->Prop) (to:TE) (t:TA):TE:=fun σ H Q=>to σ H fun x H1=>tyV K T x H1/\t σ H1 fun xs H2=>r x xs H2 Q
variable {o e:Expr}{es:List Expr}{to:TE}{t:TA}{name:Str}{apos cpos:Pos}{T id:String}{r:V->List V->Hp->VK->Prop}
theorem zbis (pa:PlainAttrs T)(slot:Slot T name id)(hty:typeOf (.builtin id)=pure (.type "method_descriptor"))(hm:MtR X id r)(ho:PE X o to)(ha:PA X (e::es) t)
  (hbase:attributeBase o name X.env (eval o X.env)=eval o X.env:=by rfl)
  (hfew:((backTo cpos (starEach (e::es) X.env)).all (fun x=>!x.1)&&(backToKw cpos (keywordEach [] X.env)).all (fun x=>x.1.isSome)
   && decide ((e::es).length+([]:List Keyword).length+(if([]:List Keyword).isEmpty then 0 else 1) < 30))=true:=by rfl)
  (hline:(apos.endLine==cpos.line)=true:=by rfl)(hs:starEach (e::es) X.env=(false,eval e X.env)::starEach es X.env:=by rfl)(hplain:(backTo cpos (starEach es X.env)).any (·.1)=false:=by rfl) :
  PE X (.Call (.Attribute o name apos) (e::es) [] cpos) (tBM X.K T r to t):=by
 intro aU s σ H Q I h;refine wpAny_Call_method_late hbase hfew hline rfl (thn (ho aU s σ H _ I h) fun v s1 hq0=>?_);obtain⟨x,H1,I1,r1,ty,q1⟩:=hq0;obtain⟨h1,h2⟩:=zbdt I1 r1 ty;refine⟨T,id,pa,slot,hty,h1,h2,?_⟩;have hA:=ha cpos aU s1 σ H1 _ I1 q1;rw[hs] at hA ⊢;refine xjr (by show(false||(backTo cpos (starEach es X.env)).any (·.1))=false;rw[hplain]<;>rfl) (xkd ?_);exact thn hA fun us s2 ⟨vs,H2,I2,r2,q2⟩=>hm aU s2 σ H2 x vs v us Q I2 r1 r2 q2
/- xs.append(e),list.index on a module's tuple .. are MtR facts of 06m -/
end
noncomputable def MtM (X:Cx) (id:String) (r:V->List V->Hp->VK->Prop):Prop :=
 ∀(aU:List (Addr×Obj)) (s:Shared) (σ:St) (H:Hp) (x:V) (xs:List V) (v:Value) (us:List Value) (Q:VK),Inv X aU σ H s->RelV x v->Vals xs us->r x xs H Q ->
  wpAny (model X.prog X.w) X.A (call (.builtin id) (v::us)) (EP X aU σ Q) X.xe s
theorem Vals.one:∀{x:V} {us:List Value},Vals [x] us->∃u,us=[u]/\RelV x u
 | _,_,.cons r .nil=>⟨_,rfl,r⟩
section
variable {X:Cx}{aU:List (Addr×Obj)}{σ:St}{H:Hp}{s:Shared}{l b:Addr}{xs ys zs:List V}
theorem Inv.lset {its its':List Value}{n:Nat}{f:Array Value->Array Value}{t':Nat}(I:Inv X aU σ H s)(hH:H l=some (.lst xs))
  (e:s.heap.get? l=some { cls:=.type "list", data:=.seq its.toArray n })(hf:f its.toArray=its'.toArray)(hv:Vals ys its')(hz:ys.length<=sizeLine) :
  Inv X aU σ (upd H l (.lst ys)) {s with heap:=s.heap.update l (Obj.mapSeq f),toks:=t'}:=by
 have q:=PySem.IsL.update e f;rw[hf] at q;refine I.write (x:=l) (e:=l) (by rw[hH];exact trivial) (.inl rfl) (fun b' u hb hu=>(Heap.get?_update_other s.heap (Obj.mapSeq f) (xda hb)).trans hu) ⟨_,q⟩ ?_;exact⟨hz,its',_,hv,q⟩
theorem Inv.lnew {its:List Value}{t':Nat}(I:Inv X aU σ H s)(hv:Vals ys its)(hz:ys.length<=sizeLine) :
  Inv X aU σ (upd H s.heap.objs.size (.lst ys)) { s with heap:=s.heap.push { cls:=.type "list", data:=.seq its.toArray }, toks:=t' } :=
 I.laid (fun _ _ q=>xbd _ q) (xbf _) ⟨hz,its,0,hv,xbr _ rfl⟩
theorem Inv.fresh (I:Inv X aU σ H s):H s.heap.objs.size=none:=I.hok.fresh (xbf _)
theorem Inv.lstM (I:Inv X aU σ H s)(hH:H l=some (.lst xs)):xs.length<=sizeLine/\∃(its:List Value) (n:Nat), Vals xs its/\xs.length=its.length/\s.heap.get? l=some { cls:=.type "list", data:=.seq its.toArray n }:=by
 obtain⟨z,its,n,r,e⟩:=I.hok l _ hH;exact⟨z,its,n,r,r.length,e⟩
theorem notLongL {n:Nat}(h:n<=sizeLine):Builtin.List.listTooLong n=false:=by
 unfold Builtin.List.listTooLong;exact xcg (by lia)
end
section
variable {X:Cx}
noncomputable def rAppend:V->List V->Hp->VK->Prop:=fun x vs H Q=>∃l xs y,x=.ref l/\vs=[y]/\H l=some (.lst xs)/\xs.length < sizeLine/\Q .non (upd H l (.lst (xs++[y])))
theorem zlu:MtM X "list.append" rAppend:=by
 intro aU s σ H x vs v us Q I rx rv h;obtain⟨l,xs,y,rfl,rfl,hH,hz,q⟩:=h;cases rx;obtain⟨u,rfl,ru⟩:=rv.one;obtain⟨z,its,n,r,hl,e⟩:=I.lstM hH;refine xll F.slot_list_append ⟨_,e,rfl⟩ F.entry_list_append (F.args_list_append_2 _ _) (PySem.list_append l its.toArray n u (by rw[xbq];lia)) ⟨e,?_⟩;refine⟨.non,_,I.lset (its':=its++[u]) hH e (by simp) (r.append (.cons ru .nil)) ?_,rfl,q⟩;rw[xbk,xhb];lia
noncomputable def rExtend:V->List V->Hp->VK->Prop:=fun x vs H Q=>∃l b xs zs,x=.ref l/\vs=[.ref b]/\H l=some (.lst xs)/\H b=some (.lst zs)/\xs.length+zs.length<=sizeLine/\Q .non (upd H l (.lst (xs++zs)))
theorem zsj:MtM X "list.extend" rExtend:=by
 intro aU s σ H x vs v us Q I rx rv h;obtain⟨l,b,xs,zs,rfl,rfl,hH,hB,hz,q⟩:=h;cases rx;obtain⟨u,rfl,ru⟩:=rv.one;cases ru;obtain⟨z,its,n,r,hl,e⟩:=I.lstM hH;obtain⟨z2,its2,n2,r2,hl2,e2⟩:=I.lstM hB;have hsz:its.toArray.size+its2.toArray.size<=sizeLine:=by rw[xbq,xbq];lia
 have hlong:¬ (!its.toArray.isEmpty&&Builtin.List.listTooLong (its.toArray.size+its2.toArray.size))=true:=by
  rw[notLongL hsz,xma];exact xfd
 refine xll F.slot_list_extend ⟨_,e,rfl⟩ F.entry_list_extend (F.args_list_extend_2 _ _)
  (AutoSeq1.list_extend_list_list_0 l its.toArray n b its2.toArray n2 hlong (by rw[xbq];lia) (by lia)) ⟨e,e2,?_⟩
 refine⟨.non,_,I.lset (its':=its++its2) hH e (by simp) (r.append r2) ?_,rfl,q⟩;rw[xbk];lia
noncomputable def rCat:R2:=fun x y H Q=>∃l b xs zs,x=.ref l/\y=.ref b/\H l=some (.lst xs)/\H b=some (.lst zs)/\xs.length+zs.length<=sizeLine/\∀p,H p=none->Q (.ref p) (upd H p (.lst (xs++zs)))
theorem zbfh:OpR X (binaryOp .Add) rCat:=by
 intro aU s σ H x y v u Q I rx ry h;obtain⟨l,b,xs,zs,rfl,rfl,hH,hB,hz,q⟩:=h;cases rx;cases ry;obtain⟨z,its,n,r,hl,e⟩:=I.lstM hH;obtain⟨z2,its2,n2,r2,hl2,e2⟩:=I.lstM hB;refine PySem.P.add_list e e2 ?_ (by rw[xbq,xbq];lia);have ea:its.toArray++its2.toArray=(its++its2).toArray:=by simp
 rw[ea];exact⟨.ref _,_,I.lnew (t':=s.toks) (r.append r2) (by rw[xbk];lia),rfl,q _ I.fresh⟩
end
section
variable {prog:Program}{w:World}{A:Around}{E:Value->Shared->Prop}{s:Shared}
end
section
variable {X:Cx}
end
section
variable {κ:Type}[DecidableEq κ]
noncomputable def valV (kvs:List (κ×V)) (k:κ):Option V:=(kvs.find? fun kv=>decide (kv.1=k)).map (·.2)
noncomputable def putK (kvs:List (κ×V)) (k:κ) (v:V):List (κ×V) :=
 if(kvs.any fun kv=>decide (kv.1=k))=true then kvs.map (fun kv=>if kv.1=k then(kv.1,v) else kv) else kvs++[(k,v)]
noncomputable def dropK (kvs:List (κ×V)) (k:κ):List (κ×V):=kvs.filter fun kv=>decide (kv.1≠k)
theorem zhe {p:κ×V}{r:List (κ×V)}{k:κ}(e:p.1=k):valV (p::r) k=some p.2:=by simp[valV,xez,e]
theorem zhf {p:κ×V}{r:List (κ×V)}{k:κ}(e:¬ p.1=k):valV (p::r) k=valV r k:=by simp[valV,xez,e]
theorem zof (k:κ):∀kvs:List (κ×V),(kvs.any fun kv=>decide (kv.1=k))=(valV kvs k).isSome
 | []=>rfl
 | p::r=>by
  rw[xjt];by_cases e:p.1=k
  ·simp only[zhe e,xcs e,Bool.true_or,Option.isSome_some]
  ·rw[zhf e,xcg e,Bool.false_or];exact zof k r
theorem zgv (kvs:List (κ×V))(k:κ)(v:V):(putK kvs k v).length<=kvs.length+1:=by
 unfold putK;split
 ·rw[xbe];lia
 ·rw[xbk,xby,xiv];lia
theorem RelO.isSome_eq {o:Option V}{u:Option Value}(r:RelO o u):o.isSome=u.isSome:=by
 cases o with
 | none=>cases u with
  | none=>rfl
  | some _=>exact(show False from r).elim
 | some _=>cases u with
  | none=>exact(show False from r).elim
  | some _=>rfl
theorem RelO.getD {o:Option V}{u:Option Value}{d:V}{d':Value}(r:RelO o u)(rd:RelV d d'):RelV (o.getD d) (u.getD d'):=by
 cases o with
 | none=>cases u with
  | none=>exact rd
  | some _=>exact(show False from r).elim
 | some _=>cases u with
  | none=>exact(show False from r).elim
  | some _=>exact r
theorem KV.val {kvs:List (κ×V)}{vs:List (κ×Value)}(r:KV kvs vs)(k:κ):RelO (valV kvs k) (valueAt vs k):=by
 unfold KV at r
 induction r with
 | nil=>exact True.intro
 | @cons p q ps qs h t ih =>
  obtain⟨h1,h2⟩:=h;by_cases e:p.1=k
  ·have e':q.1=k:=h1.symm.trans e;have b:valueAt (q::qs) k=some q.2:=by simp[valueAt,xez,e']
   rw[zhe e,b];exact h2
  ·have e':¬ q.1=k:=fun z=>e (h1.trans z)
   have b:valueAt (q::qs) k=valueAt qs k:=by simp[valueAt,xez,e']
   rw[zhf e,b];exact ih
theorem KV.any {kvs:List (κ×V)}{vs:List (κ×Value)}(r:KV kvs vs)(k:κ):(kvs.any fun kv=>decide (kv.1=k))=vs.any fun kv=>decide (kv.1=k):=by
 unfold KV at r
 induction r with
 | nil=>rfl
 | cons h t ih=>rw[xjt,xjt,ih,h.1]
theorem KV.repl {kvs:List (κ×V)}{vs:List (κ×Value)}(r:KV kvs vs)(k:κ){y:V}{u:Value}(ry:RelV y u) :
  KV (kvs.map fun kv=>if kv.1=k then(kv.1,y) else kv) (vs.map fun kv=>if kv.1=k then(kv.1,u) else kv):=by
 unfold KV at r ⊢
 induction r with
 | nil=>exact .nil
 | @cons p q ps qs h t ih =>
  rw[xbn,xbn];refine .cons ?_ ih;obtain⟨h1,h2⟩:=h;by_cases e:p.1=k
  ·rw[if_pos e,if_pos (h1.symm.trans e)];exact⟨h1,ry⟩
  ·rw[if_neg e,if_neg (fun z=>e (h1.trans z))];exact⟨h1,h2⟩
theorem KV.put {kvs:List (κ×V)}{vs:List (κ×Value)}(r:KV kvs vs)(k:κ){y:V}{u:Value}(ry:RelV y u):KV (putK kvs k y) (stored vs k u):=by
 unfold putK stored;rw[r.any k];by_cases e:(vs.any fun kv=>decide (kv.1=k))=true
 ·rw[if_pos e,if_pos e];exact r.repl k ry
 ·rw[if_neg e,if_neg e];exact Paired.snoc r ⟨rfl,ry⟩
theorem KV.length {kvs:List (κ×V)}{vs:List (κ×Value)}(r:KV kvs vs):kvs.length=vs.length:=xis r
end
theorem zbbg {P:Program}{w:World}{k:Key}{u:Value}(r:RelV (kV k) u):(mixKind P w).is k u=true:=by
 cases k with
 | inl i=>obtain⟨t,e⟩:=(show ∃t,u=Value.int i t from r);subst e;exact zno P w i t
 | inr x=>obtain⟨t,e⟩:=(show ∃t,u=Value.str x t from r);subst e;exact znn P w x t
theorem zmb {P:Program}{w:World}:∀{ks:List Key} {us:List Value},Vals (ks.map kV) us->ItemsAre (mixKind P w) ks us
 | [],_,r=>by rw[xlm] at r;cases r;exact .nil
 | k::ks,_,r=>by
  rw[xbn] at r;cases r with
  | cons h t=>exact .cons (zbbg h) (zmb t)
noncomputable abbrev KT (H:Hp):List (List Key×V)->List (List Key×Addr×Value)->Prop:=Paired fun p q=>p.1=q.1/\H q.2.1=some (.tup (p.1.map kV))/\RelV p.2 q.2.2
theorem KT.val {H:Hp}{kvs:List (List Key×V)}{xs:List (List Key×Addr×Value)}(r:KT H kvs xs)(k:List Key):RelO (valV kvs k) ((atKey xs k).map (·.2)):=by
 induction r with
 | nil=>exact True.intro
 | @cons p q ps qs h t ih =>
  obtain⟨h1,_,h2⟩:=h;by_cases e:p.1=k
  ·have e':q.1=k:=h1.symm.trans e;have b:atKey (q::qs) k=some q.2:=by simp[atKey,xez,e']
   rw[zhe e,b];exact h2
  ·have e':¬ q.1=k:=fun z=>e (h1.trans z)
   have b:atKey (q::qs) k=atKey qs k:=by simp[atKey,xez,e']
   rw[zhf e,b];exact ih
theorem KT.repl {H:Hp}{kvs:List (List Key×V)}{xs:List (List Key×Addr×Value)}(r:KT H kvs xs)(k:List Key){y:V}{u:Value}(ry:RelV y u) :
  KT H (kvs.map fun kv=>if kv.1=k then(kv.1,y) else kv) (xs.map (putAt k u)):=by
 induction r with
 | nil=>exact .nil
 | @cons p q ps qs h t ih =>
  rw[xbn,xbn];refine .cons ?_ ih;obtain⟨h1,h2,h3⟩:=h;unfold putAt;by_cases e:p.1=k
  ·rw[if_pos e,if_pos (h1.symm.trans e)];exact⟨h1,h2,ry⟩
  ·rw[if_neg e,if_neg (fun z=>e (h1.trans z))];exact⟨h1,h2,h3⟩
theorem KT.put {H:Hp}{kvs:List (List Key×V)}{xs:List (List Key×Addr×Value)}(r:KT H kvs xs)(k:List Key){b:Addr}{y:V}{u:Value}(hb:H b=some (.tup (k.map kV)))(ry:RelV y u) :
  KT H (putK kvs k y) (storedH xs k b u):=by
 have e:(kvs.any fun kv=>decide (kv.1=k))=(atKey xs k).isSome:=by
  rw[zof,(r.val k).isSome_eq,Option.isSome_map]
 unfold putK storedH;rw[e];by_cases q:(atKey xs k).isSome=true
 ·rw[if_pos q,if_pos q];exact r.repl k ry
 ·rw[if_neg q,if_neg q];exact Paired.snoc r ⟨rfl,hb,ry⟩
theorem KT.keeps {H H':Hp}{kvs:List (List Key×V)}{xs:List (List Key×Addr×Value)}(r:KT H kvs xs)(ht:∀b ys,H b=some (.tup ys)->H' b=some (.tup ys)):KT H' kvs xs :=
 Paired.mapP r fun _ _ z=>⟨z.1,ht _ _ z.2.1,z.2.2⟩
section
variable {P:Program}{w:World}{H:Hp}{h:Heap}{a:Addr}
theorem zbim {u:HO}(ok:HOk P w H h)(e:Rd H a u):ObjOk P w H h a u:=e.ok ok
theorem zym {kvs:List (Key×V)}(ok:HOk P w H h)(e:Rd H a (.dK kvs)):kvs.length<=sizeLine/\(a==sysModules)=false/\∃vs,KV kvs vs/\h.DictOf (mixKind P w) a vs :=
 show ObjOk P w H h a (.dK kvs) from zbim ok e
theorem zbkp {kvs:List (Key×V)}(ok:HOk P w H h)(e:H a=some (.dK kvs)):kvs.length<=sizeLine/\(a==sysModules)=false/\∃vs,KV kvs vs/\h.DictOf (mixKind P w) a vs:=zym ok (.inl e)
theorem zns {ks:List Key}(ok:HOk P w H h)(e:H a=some (.tup (ks.map kV))):(tupleKind (mixKind P w)).is h ks a:=by
 obtain⟨_,its,r,o,h1,h2,n,h3⟩:=(show ObjOk P w H h a (.tup (ks.map kV)) from ok a _ e)
 exact⟨o,its.toArray,n,h1,h2,h3,by simpa using zmb r⟩
theorem zyl {kvs:List (List Key×V)}(ok:HOk P w H h)(e:Rd H a (.dT kvs)):kvs.length<=sizeLine/\(a==sysModules)=false /\
  ∃xs,KT H kvs xs/\h.DictOfH (tupleKind (mixKind P w)) a xs:=by
 obtain⟨z,y,xs,r,o,es,ep,h1,h2,h3,h4,h5⟩:=(show ObjOk P w H h a (.dT kvs) from zbim ok e)
 refine⟨z,y,xs,r,o,es,ep,h1,h2,h3,h4,fun x hx=>?_,h5⟩;have all:∀{l:List (List Key×V)} {m:List (List Key×Addr×Value)},KT H l m->∀x∈m,(tupleKind (mixKind P w)).is h x.1 x.2.1:=by
  intro l m q
  induction q with
  | nil=>intro x hx;exact nomatch hx
  | @cons p q ps qs hq t ih =>
   intro x hx;rcases xbl.mp hx with e | hx
   ·subst e;exact zns ok (by rw[← hq.1];exact hq.2.1)
   ·exact ih x hx
 exact all r x hx
theorem zbje {kvs:List (List Key×V)}(ok:HOk P w H h)(e:H a=some (.dT kvs)):kvs.length<=sizeLine/\(a==sysModules)=false /\
 ∃xs,KT H kvs xs/\h.DictOfH (tupleKind (mixKind P w)) a xs:=zyl ok (.inl e)
end
noncomputable def DGet (H:Hp) (a:Addr) (y:V) (r:Option V):Prop :=
 (∃kvs k,Rd H a (.dK kvs)/\y=kV k/\r=valV kvs k)\/∃kvs k b,Rd H a (.dT kvs)/\y=.ref b/\H b=some (.tup (k.map kV))/\r=valV kvs k
noncomputable def DPut (H:Hp) (a:Addr) (y v:V) (H':Hp):Prop :=
 (∃kvs k,H a=some (.dK kvs)/\y=kV k/\kvs.length < sizeLine/\H'=upd H a (.dK (putK kvs k v))) \/
 ∃kvs k b,H a=some (.dT kvs)/\y=.ref b/\H b=some (.tup (k.map kV))/\kvs.length < sizeLine/\H'=upd H a (.dT (putK kvs k v))
theorem DPut.t {H:Hp}{a b:Addr}{kvs:List (List Key×V)}{k:List Key}{v:V}(e:H a=some (.dT kvs))(eb:H b=some (.tup (k.map kV)))(hl:kvs.length < sizeLine) :
 DPut H a (.ref b) v (upd H a (.dT (putK kvs k v))):=.inr ⟨kvs,k,b,e,rfl,eb,hl,rfl⟩
section
variable {X:Cx}{aU:List (Addr×Obj)}{σ:St}{H:Hp}{s:Shared}{a:Addr}{y v:V}{u r:Value}{o:Option V}{A:Around}{E:Value->Shared->Prop}
theorem Inv.big (I:Inv X aU σ H s):sysModules < s.heap.objs.size:=by
 have h:mainGlobals < s.heap.objs.size:=(I.mod.glob.keeps I.bk).lt;exact xij (by decide) h
theorem ztk {Q:Value->Shared->Prop}(hu:A.units+1 < cLine)(I:Inv X aU σ H s)(g:DGet H a y (some v))(ry:RelV y u)(h:∀w' s',Inv X aU σ H s'->RelV v w'->Q w' s') :
  wpAny (model X.prog X.w) A (getItem (.ref a) u) Q E s:=by
 rcases g with⟨kvs,k,e,ey,l⟩ | ⟨kvs,k,b,e,ey,eb,l⟩
 ·subst ey;obtain⟨z,hd,vs,rel,dd⟩:=zym I.hok e;obtain⟨w',hw,rw'⟩:=RelO.some_of (v:=v) (o:=valueAt vs k) (by rw[l];exact rel.val k);exact wpAny_getItem_of (zbbg ry) dd.mapOf hw (h w' _ (I.tok _) rw')
 ·subst ey;cases(show u=Value.ref b from ry);obtain⟨z,hd,xs,rel,dd⟩:=zyl I.hok e;obtain⟨w',hw,rw'⟩:=RelO.some_of (v:=v) (o:=(atKey xs k).map (·.2)) (by rw[l];exact rel.val k);obtain⟨p,hp,hp2⟩:=xdl.mp hw;refine wpAny_getItem_heap (xib hu) (zns I.hok eb) dd hp ?_;rw[hp2];exact h w' _ (I.tok _) rw'
theorem d_in {Q:Value->Shared->Prop}(hu:A.units+1 < cLine)(I:Inv X aU σ H s)(g:DGet H a y o)(ry:RelV y u)(h:∀s',Inv X aU σ H s'->Q (.bool o.isSome) s') :
  wpAny (model X.prog X.w) A (compareOp .In u (.ref a)) Q E s:=by
 rcases g with⟨kvs,k,e,ey,l⟩ | ⟨kvs,k,b,e,ey,eb,l⟩
 ·subst ey;obtain⟨z,hd,vs,rel,dd⟩:=zym I.hok e;refine wpAny_in_of (zbbg ry) hd dd.mapOf ?_;rw[← (rel.val k).isSome_eq,← l];exact h _ (I.tok _)
 ·subst ey;cases(show u=Value.ref b from ry);obtain⟨z,hd,xs,rel,dd⟩:=zyl I.hok e;refine wpAny_in_heap (xib hu) (zns I.hok eb) hd dd ?_;have q:=(rel.val k).isSome_eq;rw[Option.isSome_map] at q;rw[← q,← l];exact h _ (I.tok _)
theorem zqb {h':Heap}{t':Nat}{ob:HO}(I:Inv X aU σ H s)(mu:Mut (H a))(hs:Heap.SameBut a s.heap h')(he:∃q,h'.get? a=some q)(new:ObjOk X.prog X.w (upd H a ob) h' a ob) :
  Inv X aU σ (upd H a ob) {s with heap:=h',toks:=t'} :=
 I.write (x:=a) (e:=a) mu (.inl rfl) (fun b q hb z=>(hs.2 b hb).trans z) he new
theorem zbgv {P:Program}{w:World}{H':Hp}{h':Heap}{kvs:List (Key×V)}{vs:List (Key×Value)}(z:kvs.length<=sizeLine)(hd:(a==sysModules)=false)(rel:KV kvs vs)(dd:h'.DictOf (mixKind P w) a vs) :
 ObjOk P w H' h' a (.dK kvs):=⟨z,hd,vs,rel,dd⟩
theorem ztj {H':Hp}{Q:Unit->Shared->Prop}(hu:A.units+1 < cLine)(I:Inv X aU σ H s)(g:DPut H a y v H')(ry:RelV y u)(rv:RelV v r)(h:∀s',Inv X aU σ H' s'->Q () s') :
  wpAny (model X.prog X.w) A (setItem (.ref a) u r) Q E s:=by
 rcases g with⟨kvs,k,e,ey,l,eH⟩ | ⟨kvs,k,b,e,ey,eb,l,eH⟩
 ·subst ey eH;obtain⟨z,hd,vs,rel,dd⟩:=zbkp I.hok e;have hz:vs.length<=sizeLine:=by rw[← rel.length];exact z
  have hl:(putK kvs k v).length<=sizeLine:=by have:=zgv kvs k v;lia
  refine wpAny_setItem_pairs (hsz:=hz) (zbbg ry) dd fun h' dd' hs=>h _ ?_
  have he:∃q,h'.get? a=some q:=let ⟨q,_,_,hq,_⟩:=dd';⟨q,hq⟩
  exact zqb I (by rw[e];exact True.intro) hs he (zbgv hl hd (rel.put k rv) dd')
 ·subst ey eH;cases(show u=Value.ref b from ry);obtain⟨z,hd,xs,rel,dd⟩:=zbje I.hok e;have hz:xs.length<=sizeLine:=by rw[← xis rel];exact z
  have hl:(putK kvs k v).length<=sizeLine:=by have:=zgv kvs k v;lia
  refine wpAny_setItem_heap (hsz:=hz) (xib hu) (zns I.hok eb) dd fun h' dd' hs=>h _ ?_
  obtain⟨q,es,ep,hq,h2,h3,h4,_,h5⟩:=dd';refine zqb I (by rw[e];exact True.intro) hs ⟨q,hq⟩ ⟨hl,hd,_,(rel.put k eb rv).keeps fun c ys ec=>?_,q,es,ep,hq,h2,h3,h4,h5⟩;rw[zn (zbix ec e (fun z=>nomatch z))];exact ec
end
section
variable {X:Cx}{aU:List (Addr×Obj)}{σ:St}{H:Hp}{s:Shared}{a:Addr}{kvs:List (Key×V)}{k:Key}{u:Value}{A:Around}{E:Value->Shared->Prop}
end
noncomputable def NoSl (i:Expr):Prop:=∀ov iv,subscripted i false ov iv=operate [ov,iv] (getItem ov iv)
theorem zze {prog:Program}{w:World}{A:Around}{E:Value->Shared->Prop}{s:Shared}{env:Env}{value slice:Expr}{pos:Pos}{T id:String}{Q:Value->Shared->Prop}
  (hl:typeLookup (.type T) "__getitem__"=pure (some (.builtin id)))(hs:NoSl slice)
  (h:wpAny (model prog w) A (eval value env) (fun o s₁=>wpAny (model prog w) A (eval slice env) (fun i s₂=>s₂.TypeIs o T/\wpAny (model prog w) A (getItem o i) Q E s₂) E s₁) E s) :
  wpAny (model prog w) A (eval (.Subscript value slice pos) env) Q E s:=by
 refine Subscript_ (xev h (fun o s₁ h₁=>xev h₁ (fun i s₂ h₂=>?_) fun _ _ x=>x) fun _ _ x=>x);obtain⟨hT,h₂⟩:=h₂;unfold subscriptTail;refine xba ?_;rw[getitemInPython_of_ne hT.not_modules];refine xba (wpAny_specialOf hT hl ?_);have fin:wpAny (model prog w) A (subscripted slice false o i) (fun r s₃=>wpAny (model prog w) A (letTemporaryGo value o r >>= fun _=>pure r) Q E s₃) E s₂:=by
  rw[hs o i];exact wpAny_operating (xev h₂ (fun r s₃ h₃=>xba (wpAny_letTemporaryGo (xbc h₃))) fun _ _ x=>x)
 first
  | exact xbc (xba fin)
  | exact xba (xbc (xba fin))
  | exact xba fin
theorem znv {X:Cx}{aU:List (Addr×Obj)}{σ:St}{H:Hp}{s:Shared}{a:Addr}{y:V}{o:Option V}(I:Inv X aU σ H s)(g:DGet H a y o):s.TypeIs (.ref a) "dict":=by
 rcases g with⟨kvs,k,e,_,_⟩ | ⟨kvs,k,b,e,_,_,_⟩
 ·obtain⟨_,_,vs,_,dd⟩:=zym I.hok e;exact dd.typeIs
 ·obtain⟨_,_,xs,_,dd⟩:=zyl I.hok e;exact dd.typeIs
noncomputable def tDGet (td ty:TE):TE:=fun σ H Q=>td σ H fun x H1=>ty σ H1 fun y H2=>∃a v,x=.ref a/\DGet H2 a y (some v)/\Q v H2
noncomputable def tDIn (ty td:TE):TE:=fun σ H Q=>ty σ H fun y H1=>td σ H1 fun x H2=>∃a o,x=.ref a/\DGet H2 a y o/\Q (.bl o.isSome) H2
noncomputable def sDPut (td ty tv:TE):TS:=fun D σ H=>tv σ H fun v H1=>td σ H1 fun x H2=>ty σ H2 fun y H3=>∃a H4,x=.ref a/\DPut H3 a y v H4/\D.nx σ H4
section
variable {X:Cx}{o i e value:Expr}{pos pos' tpos:Pos}{td ty tv:TE}
theorem zbad (hu:X.A.units+1 < cLine)(ho:PE X o td)(hi:PE X i ty)(hs:NoSl i):PE X (.Subscript o i pos) (tDGet td ty):=by
 intro aU s σ H Q I h;refine zze F.slot_dict_getitem.lookup hs (thn (ho aU s σ H _ I h) fun u s1 ⟨x,H1,I1,rx,q1⟩=>thn (hi aU s1 σ H1 _ I1 q1) fun iv s2 hq0=>?_);obtain⟨y,H2,I2,ry,a,v,ex,g,q2⟩:=hq0;subst ex;obtain rfl:u=Value.ref a:=rx;exact⟨znv I2 g,ztk hu I2 g ry fun w' s3 I3 rw'=>⟨v,H2,I3,rw',q2⟩⟩
theorem zbfd (hu:X.A.units+1 < cLine)(hi:PE X i ty)(ho:PE X o td):PC X .In i o (tDIn ty td):=by
 intro aU s σ H Q I h;refine thn (hi aU s σ H _ I h) fun iv s1 ⟨y,H1,I1,ry,q1⟩=>thn (ho aU s1 σ H1 _ I1 q1) fun u s2 hq0=>?_
 obtain⟨x,H2,I2,rx,a,ov,ex,g,q2⟩:=hq0;subst ex;obtain rfl:u=Value.ref a:=rx;exact d_in hu I2 g ry fun s3 I3=>⟨.bl ov.isSome,H2,I3,rfl,q2⟩
theorem zzq (hu:X.A.units+1 < cLine)(ho:PE X o td)(hi:PE X i ty)(hv:PE X value tv)(hs:swapsWith value (some (.Subscript o i pos')) pos.line X.env=pure false) :
  PS X (.Assign [.Subscript o i pos'] value pos) (sDPut td ty tv):=by
 intro aU s σ H D I h;refine wpAny_Assign_Subscript (thn (hv aU s σ H _ I h) fun r s1 ⟨v,H1,I1,rv,q1⟩=>thn (ho aU s1 σ H1 _ I1 q1) fun u s2 ⟨x,H2,I2,rx,q2⟩=>thn (hi aU s2 σ H2 _ I2 q2) fun iv s3 hq0=>?_) hs;obtain⟨y,H3,I3,ry,a,H4,ex,g,q3⟩:=hq0;subst ex;obtain rfl:u=Value.ref a:=rx;exact ztj hu I3 g ry rv fun s4 I4=>⟨σ,H4,I4,q3⟩
end
theorem zxe {P:Program}{w:World}{H:Hp}(h:Heap)(hb:sysModules < h.objs.size):ObjOk P w H (h.push { cls:=.type "dict", data:=.dict #[] }) h.objs.size (.dT []) :=
 ⟨xec _,xgm.mpr (xda (xcd hb)),[],.nil,_,#[],0,xbr _ rfl,⟨rfl,rfl,rfl⟩,rfl,rfl,xhm⟩
noncomputable def tDNewT:TE:=fun _ H Q=>∀p,H p=none->Q (.ref p) (upd H p (.dT []))
section
variable {X:Cx}{pos:Pos}
theorem zwe:PE X (.Dict [] [] pos) tDNewT:=fun aU s σ H Q I h =>
 wpAny_Dict_empty ⟨.ref s.heap.objs.size,_,I.laid (a:=s.heap.objs.size) (o:=.dT []) (t':=s.toks) (fun _ _ q=>xbd _ q) (xbf _) (zxe s.heap I.big),rfl,h _ (I.hok.fresh (xbf _))⟩
end
structure M1 (X:Cx) (o:Expr) (m:Str) (apos:Pos) (e:Expr) (cpos:Pos):Prop where
 base:attributeBase o m X.env (eval o X.env)=eval o X.env
 few:((backTo cpos (starEach [e] X.env)).all (fun x=>!x.1)&&(backToKw cpos (keywordEach [] X.env)).all (fun x=>x.1.isSome)
  && decide (([e]:List Expr).length+([]:List Keyword).length+(if([]:List Keyword).isEmpty then 0 else 1) < 30))=true
 line:(apos.endLine==cpos.line)=true
 trees:backTo cpos (starEach [e] X.env)=[(false,eval e X.env)]
structure M2 (X:Cx) (o:Expr) (m:Str) (apos:Pos) (e f:Expr) (cpos:Pos):Prop where
 base:attributeBase o m X.env (eval o X.env)=eval o X.env
 few:((backTo cpos (starEach [e,f] X.env)).all (fun x=>!x.1)&&(backToKw cpos (keywordEach [] X.env)).all (fun x=>x.1.isSome)
  && decide (([e,f]:List Expr).length+([]:List Keyword).length+(if([]:List Keyword).isEmpty then 0 else 1) < 30))=true
 line:(apos.endLine==cpos.line)=true
 trees:backTo cpos (starEach [e,f] X.env)=[(false,eval e X.env),(false,eval f X.env)]
noncomputable def IsD (H:Hp) (a:Addr):Prop:=(∃kvs,Rd H a (.dK kvs))\/∃kvs,Rd H a (.dT kvs)
theorem zbbj {X:Cx}{aU:List (Addr×Obj)}{σ:St}{H:Hp}{s:Shared}{a:Addr}(I:Inv X aU σ H s)(d:IsD H a) :
  s.TypeIs (.ref a) "dict"/\(∀ b, Value.ref a=.ref b->∃ ob, s.heap.get? b=some ob/\ob.dict=none)/\(a==sysModules)=false:=by
 rcases d with⟨kvs,e⟩ | ⟨kvs,e⟩
 ·obtain⟨_,hd,vs,_,dd⟩:=zym I.hok e;refine⟨dd.typeIs,fun b q=>?_,hd⟩;cases q;obtain⟨ob,_,_,h1,h2,_⟩:=dd;exact⟨ob,h1,h2.2.1⟩
 ·obtain⟨_,hd,xs,_,dd⟩:=zyl I.hok e;refine⟨dd.typeIs,fun b q=>?_,hd⟩;cases q;obtain⟨ob,_,_,h1,h2,_⟩:=dd;exact⟨ob,h1,h2.2.1⟩
section
variable {X:Cx}{aU:List (Addr×Obj)}{σ:St}{H:Hp}{s:Shared}{a:Addr}{y d:V}{u r:Value}{o:Option V}{A:Around}{E:Value->Shared->Prop}
theorem zbhe {Q:Value->Shared->Prop}(hu:A.units+1 < cLine)(I:Inv X aU σ H s)(g:DGet H a y o)(ry:RelV y u)(rd:RelV d r)(h:∀w' s',Inv X aU σ H s'->RelV (o.getD d) w'->Q w' s') :
  wpAny (model X.prog X.w) A (call (.builtin "dict.get") [.ref a, u, r]) Q E s:=by
 rcases g with⟨kvs,k,e,ey,l⟩ | ⟨kvs,k,b,e,ey,eb,l⟩
 ·subst ey;obtain⟨z,hd,vs,rel,dd⟩:=zym I.hok e;refine call_meetsIn xka dd.typeIs F.entry_dict_get (F.args_dict_get_3 _ _ _) (meets_dict_get_default (mixKind X.prog X.w) a (zbbg ry) hd r) ⟨_,dd.mapOf,h _ _ (I.tok _) ?_⟩;rw[l];exact(rel.val k).getD rd
 ·subst ey;cases(show u=Value.ref b from ry);obtain⟨z,hd,xs,rel,dd⟩:=zyl I.hok e;refine call_meetsIn xka dd.typeIs F.entry_dict_get (F.args_dict_get_3 _ _ _) (meetsH_dict_get_default (tupleKind (mixKind X.prog X.w)) a b hd r) ⟨xib hu,k,xs,zns I.hok eb,dd,h _ _ (I.tok _) ?_⟩;rw[l];exact(rel.val k).getD rd
end
noncomputable def tDGet2 (td ty tx:TE):TE:=fun σ H Q=>td σ H fun x H1=>∃a,x=.ref a/\IsD H1 a/\ty σ H1 fun y H2=>tx σ H2 fun z H3=>∃o,DGet H3 a y o/\Q (o.getD z) H3
section
variable {X:Cx}{o e f:Expr}{apos cpos:Pos}{td ty tx:TE}
theorem zwf (hu:X.A.units + 1 < cLine)(ho:PE X o td)(he:PE X e ty)(hf:PE X f tx)(m:M2 X o "get" apos e f cpos):PE X (.Call (.Attribute o "get" apos) [e, f] [] cpos) (tDGet2 td ty tx):=by
 intro aU s σ H Q I h;refine wpAny_Call_method m.base m.few m.line F.plainAttrs_dict xka F.type_dict_get (thn (ho aU s σ H _ I h) fun u s1 hq0=>?_);obtain⟨x,H1,I1,rx,a,ex,d,q1⟩:=hq0;subst ex;obtain rfl:u=Value.ref a:=rx;obtain⟨t1,t2,_⟩:=zbbj I1 d;refine⟨t1,t2,?_⟩;rw[m.trees]
 refine xjr rfl (xkd (xiz (thn (he aU s1 σ H1 _ I1 q1) fun iv s2 ⟨y,H2,I2,ry,q2⟩ =>
  xiz (thn (hf aU s2 σ H2 _ I2 q2) fun fv s3 ⟨z,H3,I3,rz,ov,g,q3⟩=>xld ?_))))
 exact zbhe hu I3 g ry rz fun w' s4 I4 rw'=>⟨_,H3,I4,rw',q3⟩
end
section
variable {X:Cx}{aU:List (Addr×Obj)}{σ:St}{H:Hp}{s:Shared}{a:Addr}{kvs:List (Key×V)}{A:Around}{E:Value->Shared->Prop}
end
section
variable {X:Cx}{aU:List (Addr×Obj)}{σ:St}{H:Hp}{s:Shared}{a:Addr}{y:V}{u:Value}{A:Around}{E:Value->Shared->Prop}
end
end L2
namespace Att
open PySem PySem.W PySem.Calls PyProof.Rows
theorem zgm {P:Params}{h:Heap}:∀(ns:List Int) (vs:List Value),WellAll P h vs (ns.map WData.int)->IntsAre vs ns:=by
 intro ns
 induction ns with
 | nil =>
  intro vs w;rw[xlm] at w;cases w;exact .nil
 | cons n ns ih =>
  intro vs w;rw[xbn] at w;cases w with
  | cons a b =>
   cases a;exact .cons _ _ (ih _ b)
theorem zrs {l:OpenLaw}{n:Nat}(hn:l.most=some n){P:Params}{h:Heap}{args:List WData}{vals:List Value}
  (hpre:l.row.toRowW.claim.pre args=true)(hwl:WellAll P h vals args) :
  ∃ a vs ns, vals=[Value.ref a]/\args=[WData.list (ns.map WData.int)]/\h.get? a=some { cls:=.type "list", data:=.seq vs.toArray }/\IntsAre vs ns/\ns.length<=n:=by
 have hsh:WShape.hasAll [] args [.list .int]=true:=(pre_splitW hpre).1;have hc:l.pre.holds [] {args:=args}=true:=(pre_splitW hpre).2;obtain⟨d,r,rfl,h1,h2⟩:=hasAllW_cons hsh;obtain rfl:=hasAllW_nil h2;obtain⟨xs,rfl,h3⟩:=hasW_list h1;obtain⟨ns,rfl⟩:=items_int h3;have hlen:ns.length<=n:=by
  unfold OpenLaw.pre at hc;have h4:(WTm.not (.lt (.lit (.int (n:Int))) (.len (.arg 0)))).holds [] {args:=[.list (ns.map .int)]}=true:=by
   have h4:=(holds_andW hc).1;rw[hn] at h4;exact h4
  have h5:=condW_of h4 (w_not (w_lt w_lit (w_len_list (w_arg rfl))));rw[xbe] at h5;refine xcb fun q=>?_
  have q':(n:Int) < ((ns.length:Nat):Int):=by lia
  first
   | (rw[xcs q'] at h5;exact absurd h5 (by decide))
   | (simp at h5;lia)
 cases hwl with
 | cons w1 w2 =>
  cases w2;cases w1 with
  | list ho hall=>exact⟨_,_,ns,rfl,rfl,ho,zgm ns _ hall,hlen⟩
theorem zrz (l:OpenLaw)(args:List WData):l.row.toRowW.claim.post args (.bool true) args=true :=
 postW_of (r:=l.row.toRowW) (X:=(true==true))
  (show WShape.has [] (.bool true) .bool=true by first | rfl | decide | simp[WShape.has,WShape.arms,WShape.armsAll])
  (show(WTm.eq .res (.lit (.bool true))).value [] {args:=args,res:=some (.bool true),after:=args}=some (.bool (true==true)) from w_eq_bool (w_res rfl) w_lit) rfl
theorem attach_call {l:OpenLaw}{n:Nat}{q:Program}{loose:List Str}{XP:(Str->Option Value)->Heap->Prop}{YP:World->Heap->Prop}{d:DefRec}
  (hn:l.most=some n)(hdf:d.params.defaults=[])
  (call:∀(w:World) (s₀ s₁:Shared) (mg mb:Str->Option Value) (fa:Addr) (o:Obj) (pm cd doc:Value) (a:Addr) (vs:List Value) (ns:List Int),
   Ground q loose [] XP w s₀ mg mb s₁.heap->YP w s₁.heap ->
   s₁.heap.get? fa=some o->o.data=.func (docDef d.name d.params d.body d.scope pm cd doc)->s₁.heap.CodeRec cd d.name->mg d.name=some (.ref fa) ->
   s₁.heap.get? a=some { cls:=.type "list", data:=.seq vs.toArray }->IntsAre vs ns->ns.length<=n->s₁.gens=#[] ->
   codeAny (model l.prog w) callerA (.call (.ref fa) ⟨[.ref a],[]⟩) (fun r s'=>r=.ok (.ret (.bool true))/\OldK s₁.heap s'.heap/\s'.os=s₁.os/\AllBare s'.gens) s₁) :
  WalkO q loose XP YP l.row.toRowW d [] (fun f vs=>PySem.call f vs):=by
 intro w s₀ s₁ mg mb G Y fa o pm cd doc dV kV ho hd hcd hD hmg hg args vals as hpre hlay hrd hwl hlo;obtain rfl:dV=.none:=Dflts.none hD hdf;obtain rfl:kV=.none:=Dflts.noKw hD;obtain⟨a,vs,ns,rfl,rfl,hobj,hints,hlen⟩:=zrs hn hpre hwl;refine enter_call (xkj (call w s₀ s₁ mg mb fa o pm cd doc a vs ns G Y ho (fd_plain hd) hcd hmg hobj hints hlen hg) fun r s' hq=>?_);obtain⟨rfl,h2,h3,h4⟩:=hq;exact⟨.inl ⟨.bool true,.bool true,[],rfl,fun _=>rfl,.bool true,zrz l _,fun _=>⟨List.Pairwise.nil,fun _ hm=>(nomatch hm)⟩⟩,h2,h3,h4⟩
section
variable {prog:Program}{w:World}{A:Around}{E:Value->Shared->Prop}{s:Shared}{K:Frag}
end
end Att
namespace L2
open PySem PySem.Spec PyProof.Rows
theorem zlh:∀{vs:List Value} {ns:List Int},IntsAre vs ns->Vals (ns.map V.int) vs
 | _,_,.nil=>.nil
 | _,_,.cons n t h=>.cons ⟨t,rfl⟩ (zlh h)
noncomputable def Only (H:Hp):Prop:=∀b,H b=none\/∃o xs,H b=some (.frz o (.lst xs))
theorem zws {P:Program}{w:World}{K:Fg}{mg mb:Str->Option Value}{CX:CXT}{k:Nat}{fa a:Addr}{fd:FuncData}{x:Str}{sp:Sp}{s₁:Shared}{vs:List Value}{ns:List Int}
  (KX:K.In s₁.heap)(hns:s₁.heap.Ns mainGlobals mg)(hb:s₁.heap.Ns builtinsNs mb)(hbb:∀ x:Str, x≠"__name__"->mb x=bootBuiltins x)(hlim:s₁.heap.NoLimit)(hg:s₁.gens=#[])
  (ha:s₁.heap.get? a=some { cls:=.type "list", data:=.seq vs.toArray })(hi:IntsAre vs ns)(hl:ns.length<=sizeLine)(hr:Room k callerA)
  (F:∀base:Heap,K.In base->base.Ns mainGlobals mg->FnOk P w K mg base CX k fa fd [x] sp)(hbind:∀(s:Shared) (u:Value),BindsTo s fd ⟨[u],[]⟩ [(x,u)])
  (hsp:∀H:Hp,Only H->SqL K H a (ns.map V.int)->sp [.ref a] H (fun v _=>v=.bl true) fun _ _ _=>False)
  (hCX:∀H e s',CX [] H s₁ (fun _ _ _=>False) e s'->False) :
  codeAny (model P w) callerA (.call (.ref fa) ⟨[.ref a],[]⟩) (fun r s'=>r=.ok (.ret (.bool true))/\OldK s₁.heap s'.heap/\s'.os=s₁.os/\AllBare s'.gens) s₁:=by
 have rv:=zlh hi;have lenV:=hi.length;have core:∀H:Hp,Only H->SqL K H a (ns.map V.int)->HOk P w H s₁.heap->(∀b,H b≠none->b=a)->(H a≠none->K.lookup a=none) ->
   codeAny (model P w) callerA (.call (.ref fa) ⟨[.ref a],[]⟩) (fun r s'=>r=.ok (.ret (.bool true))/\OldK s₁.heap s'.heap/\s'.os=s₁.os/\AllBare s'.gens) s₁:=by
  intro H hO hS hok hA hK;have base_of:∀{b:Addr} {o:Obj},s₁.heap.get? b=some o->H b=none->(hidT s₁.heap H).get? b=some o:=fun e n=>zxa e n
  have noA:∀{b:Addr} {o:Obj} {es:Array DictEntry} {ep:Nat},s₁.heap.get? b=some o->o.data=.dict es ep->H b=none:=fun {b o es ep} e d=>by
   cases q:H b with
   | none=>rfl
   | some u =>
    have e':b=a:=hA b (by rw[q];simp);subst e';rw[ha] at e;cases e
    have d':Data.seq vs.toArray _=Data.dict es ep:=d;cases d'
  have nsK:∀{b:Addr} {m:Str->Option Value},s₁.heap.Ns b m->(hidT s₁.heap H).Ns b m:=fun {b m} ⟨o,es,ep,e,d,r⟩=>⟨o,es,ep,base_of e (noA e d),d,r⟩
  have hKb:K.In (hidT s₁.heap H):=fun b o e=>base_of (KX b o e) (by
   cases q:H b with
   | none=>rfl
   | some u =>
    have e':b=a:=hA b (by rw[q];simp);subst e'
    rw[hK (by rw[q];simp)] at e;cases e)
  have hM:Mod K mg (hidT s₁.heap H):=⟨hKb,nsK hns,⟨mb,nsK hb,hbb⟩,let ⟨mc,h1,h2⟩:=hlim;⟨mc,nsK h1,h2⟩⟩
  have e0:Env0 P w K mg (hidT s₁.heap H) callerA [] s₁ H:=⟨rfl,hM,fun b o e=>zbar e,xdi (zsy _ _),trivial,fun b hb=>absurd (show b∈([]:List Addr) from hb) (by simp),hok,.of_eq hg⟩
  refine xkj ((F _ hKb (nsK hns)).run callerA [] s₁ H ⟨[.ref a],[]⟩ [.ref a] [.ref a] _ _ hr e0 (hbind s₁ (.ref a)) (.cons rfl .nil) (hsp H hO hS)) fun r s' h=>?_
  cases r with
  | error e=>exact(hCX H e s' h).elim
  | ok fl =>
   cases fl with
   | next=>exact False.elim h
   | brk=>exact False.elim h
   | cont=>exact False.elim h
   | ret u =>
    obtain⟨v,H',os,bare,un,hok',r',q⟩:=h;have q':v=.bl true:=q;subst q';obtain rfl:u=Value.bool true:=r';refine⟨rfl,OldK.of_keep fun b o e=>?_,os,bare⟩;cases q:H b with
    | none=>exact un.keep b o e q (by intro z;exact absurd (show b∈([]:List Addr) from z) (by simp)) (by simp)
    | some u =>
     rcases hO b with z | ⟨ob,xs,z⟩
     ·rw[q] at z;cases z
     ·have z2:=un.frzs b ob _ z;obtain⟨e1,_⟩:=hok b _ z;obtain⟨e2,_⟩:=hok' b _ z2;rw[e] at e1;cases e1
      exact e2
 cases hk:K.lookup a with
 | some o =>
  have e:=KX a o hk;rw[ha] at e;cases e;refine core (fun _=>none) (fun _=>.inl rfl) (.inr ⟨_,vs.toArray,_,hk,rfl,rfl,rfl,by rw[xbq,lenV];exact hl,by simpa using rv⟩) (fun b u z=>by have z':(none:Option HO)=some u:=z;cases z') (fun b z=>absurd rfl z) fun z=>absurd rfl z
 | none =>
  refine core (fun b=>if b=a then some (.frz { cls:=.type "list", data:=.seq vs.toArray } (.lst (ns.map V.int))) else none) (fun b=>?_) (.inl (.inr ⟨{ cls:=.type "list", data:=.seq vs.toArray }, if_pos rfl⟩)) (fun b u z=>?_) (fun b z=>?_) fun _=>hk
  ·by_cases hb:b=a
   ·exact .inr ⟨_,_,if_pos hb⟩
   ·exact .inl (if_neg hb)
  ·by_cases hb:b=a
   ·have z':=(if_pos hb).symm.trans z;cases z';subst hb;exact⟨ha,by rw[xbe];exact hl,vs,_,rv,ha⟩
   ·have z':=(if_neg hb).symm.trans z;cases z'
  ·by_cases hb:b=a
   ·exact hb
   ·exact absurd (if_neg hb) z
theorem zyv {l:W.OpenLaw}{n k:Nat}{q:Program}{loose:List Str}{XP:(Str->Option Value)->Heap->Prop}{YP:World->Heap->Prop}{d:DefRec}{K:Params->Fg}{CX:World->CXT}{sp:World->Sp}{x:Str}
  (hn:l.most=some n)(hn2:n<=sizeLine)(hdf:d.params.defaults=[])(hr:Room k callerA)
  (hY:∀(w:World) (h:Heap),YP w h->(K w.params).In h)
  (F:∀(w:World) (mg:Str->Option Value) (fa:Addr) (h:Heap),(K w.params).In h->h.Ns mainGlobals mg->mg d.name=some (.ref fa) ->
   ∃fd:FuncData,(∀(s:Shared) (u:Value),BindsTo s fd ⟨[u],[]⟩ [(x,u)]) /\
    ∀base:Heap,(K w.params).In base->base.Ns mainGlobals mg->FnOk l.prog w (K w.params) mg base (CX w) k fa fd [x] (sp w))
  (hsp:∀(w:World) (H:Hp) (a:Addr) (ns:List Int),ns.length<=n->Only H->SqL (K w.params) H a (ns.map V.int)->sp w [.ref a] H (fun v _=>v=.bl true) fun _ _ _=>False)
  (hCX:∀(w:World) (H:Hp) (s:Shared) (e:Value) (s':Shared),CX w [] H s (fun _ _ _=>False) e s'->False) :
  W.WalkO q loose XP YP l.row.toRowW d [] (fun f vs=>PySem.call f vs):=by
 refine Att.attach_call hn hdf fun w s₀ s₁ mg mb fa o pm cd doc a vs ns G Y ho hd hcd hmg hobj hints hlen hg=>?_
 have KX:=hY w _ Y;obtain⟨fd,hb,hF⟩:=F w mg fa _ KX G.T.g hmg;exact zws KX G.T.g G.T.b G.T.builtins G.T.nolimit hg hobj hints (xbb hlen hn2) hr hF hb (fun H hO hS=>hsp w H a ns hlen hO hS) fun H e s'=>hCX w H s₁ e s'
end L2
/- THE LAST THEOREM (shape;LID,My.* are yours):
 My.Adr: a structure of the addresses that your layer names (classes,functions);My.Txt K t: a structure (Prop) of the equations over K;
 My.txt_mk:{K} {implicit addresses ..} (e1:nsIn K mainGlobals "law"=some (some (.ref f))) (e2:K.lookup f=some ⟨oc, od, .func (fnOf "law" "law" params body scope dV kV doc pm an cdv ct), sl⟩) (e3:codeIn K cdv "law"=true) ..:∃ t, My.Txt K t
(the tactic k_is has no namespace: write k_is) -/
namespace L2
open PySem PySem.Spec PyProof.Rows
noncomputable def defArgs (s:Stmt):Arguments:=match s with
 | .FunctionDef _ a _ _ _ _ _ _ _ _=>a
 | _=>{posonlyargs:=[],args:=[],vararg:=none,kwonlyargs:=[],kw_defaults:=[],kwarg:=none,defaults:=[]}
noncomputable def defBody (s:Stmt):List Stmt:=match s with
 | .FunctionDef _ _ b _ _ _ _ _ _ _=>b
 | _=>[]
noncomputable def defScope (s:Stmt):Scope:=match s with
 | .FunctionDef _ _ _ _ _ _ sc _ _ _=>sc
 | _=>{kind:=.function,names:=[],isGenerator:=false,isCoroutine:=false}
noncomputable abbrev CX0:CXT:=fun _ _ _ _ _ _=>False
noncomputable abbrev E0:XK:=fun _ _ _=>False
theorem pass0 {X:Cx}:Passes CX0 X E0:=fun _ _ _ _ _ _ _ h=>h.elim
structure Fun (K:Fg) (x qual:Str) (st:Stmt) (f:Addr) (fd:FuncData):Prop where
 ex:∃(oc:Value) (od:Option Addr) (kV doc pm:Value) (an:Option Addr) (cdv ct:Value) (osl:Array (Option Value)),
  fd=W.fnOf x qual (defArgs st) (defBody st) (defScope st) .none kV doc pm an cdv ct/\K.lookup f=some ⟨oc,od,.func fd,osl⟩/\W.codeIn K cdv qual=true
 kp:W.keepIn K (.ref f)=true
section
variable {P:Program}{w:World}{K:Fg}{mg:Str->Option Value}{base:Heap}
theorem Fun.ok {x qual:Str}{st:Stmt}{f:Addr}{fd:FuncData}{N ps:List Str}{k:Nat}{sp:Sp}(F:Fun K x qual st f fd)(S:FnScope N ps (defScope st))(len:∀vs H Q E,sp vs H Q E->vs.length=ps.length)
  (hbody:∀(cdv:Value) (A:Around) (outer:List Env) (s:Shared) (H:Hp) (vs:List V) (Q:VK) (E:XK),Room k (A.deeper (envOfC qual (defScope st) s.heap.objs.size f cdv))->sp vs H Q E ->
   ∃t,PSs (cxOf CX0 P w K mg base N qual (defScope st) f cdv A outer s H E).nox (defBody st) t/\t {nx:=fun _ H'=>Q .non H',rt:=Q} (start N vs) H):FnOk P w K mg base CX0 (k+1) f fd ps sp:=by
 obtain⟨oc,od,kV,doc,pm,an,cdv,ct,osl,rfl,lk,hcd⟩:=F.ex;refine zbkg lk hcd S len fun A outer s H vs Q E hr hsp=>?_
 obtain⟨t,h,q⟩:=hbody cdv A outer s H vs Q E hr hsp;exact⟨t,h.nox,q⟩
theorem Fun.binds {x qual:Str}{st:Stmt}{f:Addr}{fd:FuncData}{ps:List Str}(F:Fun K x qual st f fd)
  (h:∀(kV doc pm:Value) (an:Option Addr) (cdv ct:Value) (us:List Value),us.length=ps.length->bindArgs (W.fnOf x qual (defArgs st) (defBody st) (defScope st) .none kV doc pm an cdv ct) ⟨us,[]⟩=pure (ps.zip us)):Binds K fd ps []:=by
 obtain⟨oc,od,kV,doc,pm,an,cdv,ct,osl,rfl,lk,hcd⟩:=F.ex;exact .all (h kV doc pm an cdv ct)
theorem zbge {x qual:Str}{st:Stmt}{f:Addr}{oc:Value}{od an:Option Addr}{osl:Array (Option Value)}{kV doc pm cdv ct:Value}(l:K.lookup f=some ⟨oc,od,.func (W.fnOf x qual (defArgs st) (defBody st) (defScope st) .none kV doc pm an cdv ct),osl⟩)
 (c:W.codeIn K cdv qual=true)(k:W.keepIn K (.ref f)=true):Fun K x qual st f (W.fnOf x qual (defArgs st) (defBody st) (defScope st) .none kV doc pm an cdv ct):=⟨⟨oc,od,kV,doc,pm,an,cdv,ct,osl,rfl,l,c⟩,k⟩
end
theorem zyk {A:Around}{k:Nat}(hr:Room k A):A.units+1 < cLine:=xcx (xch (by decide:1<=64) _) hr.units
section
variable {X:Cx}
theorem pv (i:Nat){x:Str}{pos:Pos}(hN:X.N[i]?=some x:=by rfl)(hv:Vis X.env.scope x:=by first | exact Or.inl rfl | exact Or.inr (Or.inl rfl) | exact Or.inr (Or.inr rfl))(hd:(x==("__debug__" : Str))=false:=by decide)
 (hcd:(x==("__classdict__" : Str))=false:=by decide):PE X (.Name x pos) (tVar i):=zbew hN hv hd hcd
end
theorem iteF {A B:Prop}(h:B):if false=true then A else B:=by
 rw[if_neg xfd];exact h
theorem iteT {A B:Prop}(h:A):if true=true then A else B:=by
 rw[if_pos rfl];exact h
section
variable {X:Cx}
end
section
variable {κ:Type}[DecidableEq κ]
end
section
variable {P:Program}{w:World}{B:Around}{R:Result->Shared->Prop}{sh:Shared}
noncomputable abbrev NoX:Value->Shared->Prop:=fun _ _=>False
noncomputable abbrev testsOf (cs:List Expr) (ev:Env):Sem Bool :=
 forIn cs true fun d b=>if b=true then do let z ← isTrue d ev (eval d ev);pure (ForInStep.yield z) else pure (ForInStep.yield b)
noncomputable def CompStep (P:Program) (w:World) (B:Around) (tg x:Expr) (cs:List Expr) (ev:Env) (i l:Value) (K:Shared->Prop) (v:Value) (sa:Shared):Prop :=
 wpAny (model P w) B (letOwnedTupleGo tg i v) (fun _ sb=>wpAny (model P w) B (assign tg ev v) (fun _ sc=>wpAny (model P w) B (testsOf cs ev) (fun ok sd =>
  if ok=true then wpAny (model P w) B (eval x ev) (fun y se=>wpAny (model P w) B (call (.builtin "list.append") [l, y]) (fun _ sf=>K sf) NoX se) NoX sd else K sd) NoX sc) NoX sb) NoX sa
theorem zto {tg it x:Expr}{cs:List Expr}{sc:Scope}{ps:Pos}{i l:Value}{ev:Env}(J:Nat->Shared->Prop)
  (go:∀k sk,J k sk->wpAny (model P w) B (pyNext i) (fun o sa=>match o with
   | none=>R (.ok .next) sa
   | some v=>CompStep P w B tg x cs ev i l (fun sf=>∃k',k' < k/\J k' sf) v sa) NoX sk)
  (k:Nat)(hJ:J k sh):codeAny (model P w) B (.compLoop (.ListComp x [⟨tg,it,cs,0⟩] sc ps) 0 i l ev) R sh:=by
 have none_:∀{E:Value->Shared->Prop} (e:Value) (z:Shared),NoX e z->E e z:=fun _ _ z=>z.elim
 refine codeAny_loop rfl J (fun k sk hk=>wpAny_noted (by
  rw[compTurn_list];refine xba (wpAny_standAt (xba (xev (go k sk hk) (fun o sa ho=>?_) none_)))
  match o,ho with
  | none,ho=>exact xbc ho
  | some v,ho =>
   refine xba (xev ho (fun _ sb hb=>xba (xev hb (fun _ sc' hc=>xba (xev hc (fun ok sd hd=>?_) none_)) none_)) none_)
   match ok,hd with
   | false,hd=>exact xbc (And.intro rfl hd)
   | true,hd=>exact xba (xba (xev hd (fun y se he=>xba (xev he (fun _ sf hf=>xbc (xbc (And.intro rfl hf))) none_)) none_)))) k hJ
end
theorem zkx {env:Env}:∀(names:List (Str×NameKind)) (acc:List (Str×Addr)),(∀y∈names,y.2=.free->∃c,env.cells.lookup y.1=some c)->(∀x c,acc.lookup x=some c->env.cells.lookup x=some c) ->
  ∃cl:List (Str×Addr),(forIn names acc (fun x r=>if(x.2==NameKind.free)=true then do let a ← cellOf env x.1;pure (ForInStep.yield ((x.1,a)::r)) else pure (ForInStep.yield r)):Sem (List (Str×Addr)))=pure cl /\
   (∀x c,cl.lookup x=some c->env.cells.lookup x=some c)/\(∀x c,acc.lookup x=some c->∃c',cl.lookup x=some c')/\∀x,(x,NameKind.free)∈names->∃c,cl.lookup x=some c:=by
 intro names
 induction names with
 | nil=>intro acc _ ha;exact⟨acc,rfl,ha,fun x c e=>⟨c,e⟩,fun x z=>(nomatch z)⟩
 | cons y r ih =>
  intro acc hf ha;obtain⟨n,k⟩:=y;by_cases hk:k=.free
  ·subst hk;obtain⟨c,hc⟩:=hf (n,.free) xbw rfl
   obtain⟨cl,e,h1,h2,h3⟩:=ih ((n,c)::acc) (fun y hy=>hf y (xbp _ hy)) (fun x c' e=>by
    rw[xff] at e;by_cases hx:x=n
    ·subst hx;rw[xef] at e;cases e;exact hc
    ·rw[xgm.mpr hx] at e
     exact ha x c' e)
   refine⟨cl,?_,h1,fun x c' e'=>?_,fun x hx=>?_⟩
   ·rw[xlv];simp only[xef,ite_true];have q:cellOf env n=pure c:=by unfold cellOf;rw[hc]
    rw[q];simp only[pure_bind];exact e
   ·by_cases hx:x=n
    ·subst hx;exact h2 x c (by rw[xff,xef])
    ·exact h2 x c' (by rw[xff,xgm.mpr hx];exact e')
   ·rcases xbl.mp hx with z | z
    ·cases z;exact h2 n c (by rw[xff,xef])
    ·exact h3 x z
  ·obtain⟨cl,e,h1,h2,h3⟩:=ih acc (fun y hy=>hf y (xbp _ hy)) ha;refine⟨cl,?_,h1,h2,fun x hx=>?_⟩
   ·rw[xlv];have hb:(k==NameKind.free)=false:=by simpa using hk
    simp only[hb,xbu,xdc,pure_bind];exact e
   ·rcases xbl.mp hx with z | z
    ·cases z;exact absurd rfl hk
    ·exact h3 x z
theorem zqh {scope:Scope}{env:Env}(h:∀y∈scope.names,y.2=.free->∃c,env.cells.lookup y.1=some c) :
  ∃cl,closureFor scope env=pure cl/\(∀x c,cl.lookup x=some c->env.cells.lookup x=some c)/\∀x,(x,NameKind.free)∈scope.names->∃c,cl.lookup x=some c:=by
 obtain⟨cl,e,h1,_,h3⟩:=zkx (env:=env) scope.names [] h (fun x c e=>(nomatch e));refine⟨cl,?_,h1,h3⟩;unfold closureFor;have e':=congrArg (fun m=>m >>= fun r=>(pure r:Sem (List (Str×Addr)))) e;simp only[pure_bind] at e';exact e'
theorem zw {env:Env}:∀{names:List (Str×NameKind)} {x:Str} {k:NameKind},(names.map fun(n,k)=>if(k==NameKind.free&&env.scope.kind==.function&&env.kindOf n==some .cell) then(n,NameKind.cell) else(n,k)).lookup x=some k ->
  names.lookup x=some k\/(k=.cell/\names.lookup x=some .free)
 | [],_,_,h=>by simp at h
 | (n,k')::r,x,k,h=>by
  have ih:=@zw env r x k;have h':List.lookup x ((if(k'==NameKind.free&&env.scope.kind==.function&&env.kindOf n==some .cell)=true then(n,NameKind.cell) else(n,k'))::_)=_:=h;cases hx:x==n with
  | true =>
   by_cases hc:(k'==NameKind.free&&env.scope.kind==.function&&env.kindOf n==some .cell)=true
   ·rw[if_pos hc] at h';simp only[xff,hx] at h' ⊢;cases h';rw[xfe,xfe] at hc;exact .inr ⟨rfl,by rw[eq_of_beq hc.1.1]⟩
   ·rw[if_neg hc] at h';simp only[xff,hx] at h' ⊢;exact .inl h'
  | false =>
   have h2:(r.map fun(n,k)=>if(k==NameKind.free&&env.scope.kind==.function&&env.kindOf n==some .cell) then(n,NameKind.cell) else(n,k)).lookup x=some k:=by
    by_cases hc:(k'==NameKind.free&&env.scope.kind==.function&&env.kindOf n==some .cell)=true
    ·rw[if_pos hc] at h';simp only[xff,hx] at h';exact h'
    ·rw[if_neg hc] at h';simp only[xff,hx] at h';exact h'
   simp only[xff,hx];exact ih h2
noncomputable def cxC (X:Cx) (N:List Str) (scope:Scope) (cl:List (Str×Addr)) (C:Addr) (fp:List Addr) (s:Shared) (H:Hp):Cx :=
 {X with N:=N,s₀:=s,H₀:=H,env:=compEnvC scope cl C X.env,outer:=X.stack,ex:=fp,fn:=fun _=>false,pn:=[],xe:=fun _ _=>False}
noncomputable def startC (k:Nat) (is:List Nat) (σ:St):St:=List.replicate k none++is.map fun i=>(σ[i]?).getD none
structure CompScope (X:Cx) (N:List Str) (k:Nat) (is:List Nat) (scope:Scope):Prop where
 kind:scope.kind=.function
 nocell:∀y∈scope.names,y.2≠.cell
 names:∀y∈scope.names,y.2=.local->scope.names.lookup y.1=some .local
 frees:∀y∈scope.names,y.2=.free->X.env.kindOf y.1=some .cell\/X.env.kindOf y.1=some .free
 len:N.length=k+is.length
 own:∀j i,is[j]?=some i->∃x,N[k+j]?=some x/\X.N[i]?=some x/\scope.names.lookup x=some .free
theorem zec {x:Str}{k:NameKind}{l:List (Str×NameKind)}(h:l.lookup x=some k):(x,k)∈l:=xgl h
section
variable {X:Cx}{aU:List (Addr×Obj)}{σ:St}{H:Hp}{s:Shared}
theorem zwx {N:List Str}{k:Nat}{is:List Nat}{scope:Scope}{cl:List (Str×Addr)}{fp:List Addr}{h1:Heap}{tk:Nat}(S:CompScope X N k is scope)(I:Inv X aU σ H s)
  (c1:∀x c,cl.lookup x=some c->X.env.cells.lookup x=some c)(c2:∀x,(x,NameKind.free)∈scope.names->∃c,cl.lookup x=some c)
  (hf:∀b∈fp,FpOk X aU H b)(hfo:∀b∈fp,∃o,s.heap.get? b=some o)(hn:h1.Ns s.heap.objs.size (fun _=>none))(hk:∀b o,s.heap.get? b=some o->h1.get? b=some o) :
  Inv (cxC X N scope cl s.heap.objs.size fp s H) [] (startC k is σ) H {s with heap:=h1,toks:=tk}:=by
 have hC:∀b o,s.heap.get? b=some o->b≠s.heap.objs.size:=fun b o e=>xcd (xbo e)
 have nfs:∀b∈fp,b∉frs X.stack:=fun b hb z=>by
  rcases xbl.mp (I.stkSub b z) with e | e
  ·exact(hf b hb).2.1 e
  ·exact(hf b hb).2.2.1 e
 refine⟨⟨I.ok.mod,S.kind,I.ok.glob,I.ok.blt,xbf _,fun x y c e1 e2=>I.ok.inj x y c (c1 x c e1) (c1 y c e2),fun x hx=>?_,fun x c z=>?_,I.ok.hd,I.ok.frames,.inl rfl,fun b hb=>⟨?_,fun x c e=>?_⟩,I.bs,xbb I.ok.bsz I.sz,fun b o e hb=>?_,nfs,I.stack,I.stkFree⟩,
  rfl,I.bare,Un.kept hk,⟨_,hn,fun i x v e1 e2 e3=>?_⟩,fun x c e=>?_,I.hok.fresh (xbf _),fun x c e=>I.freeC x c (c1 x c e),fun p hp=>(nomatch hp),I.hok.kept hk,?_,I.hnd⟩
 ·have hx':(scope.names.map fun(n,k)=>if(k==NameKind.free&&X.env.scope.kind==.function&&X.env.kindOf n==some .cell) then(n,NameKind.cell) else(n,k)).lookup x=some .cell\/(scope.names.map fun(n,k)=>if(k==NameKind.free&&X.env.scope.kind==.function&&X.env.kindOf n==some .cell) then(n,NameKind.cell) else(n,k)).lookup x=some .free:=hx;have q:scope.names.lookup x=some .free:=by
   rcases hx' with z | z
   ·rcases zw z with q | ⟨_,q⟩
    ·exact absurd rfl (S.nocell _ (zec q))
    ·exact q
   ·rcases zw z with q | ⟨q,_⟩
    ·exact q
    ·cases q
  exact c2 x (zec q)
 ·cases z
 ·obtain⟨o,e⟩:=hfo b hb;exact hC b o e
 ·exact(hf b hb).2.2.2.2.1 x c (c1 x c e)
 ·rcases(hf b hb).2.2.2.1 with z | z
  ·exact I.ok.noex b o e z
  ·exact absurd (xbh (xbo (I.ok.bs b o e).1) z) (xfw _)
 ·-- a name of the def around
  unfold startC at e2;have hi:k<=i:=by
   rcases xik i k with z | z
   ·rw[xcw (by rw[xgz];exact z),List.getElem?_replicate,if_pos z] at e2;cases e2
   ·exact z
  rw[xdo (by rw[xgz];exact hi),xgz,xct] at e2;cases ej:is[i - k]? with
  | none=>rw[ej] at e2;cases e2
  | some j =>
   rw[ej] at e2;have e2':(σ[j]?).getD none=some v:=xco e2;obtain⟨y,y1,y2,y3⟩:=S.own (i - k) j ej;have ey:y=x:=by
    have z:N[i]?=some y:=by rw[← y1];congr 1;lia
    have e1':N[i]?=some x:=e1;rw[z] at e1';exact xco e1'
   subst ey;have e4:σ[j]?=some (some v):=by
    cases q:σ[j]? with
    | none=>rw[q] at e2';cases e2'
    | some o=>rw[q] at e2';exact congrArg some e2'
   have kd:=S.frees _ (zec y3) rfl;have vis:Vis X.env.scope y:=.inr kd;obtain⟨m,_,hl⟩:=I.loc;obtain⟨u,r,lk⟩:=hl j y v y2 e4 vis;refine⟨u,r,?_⟩;rcases lk with⟨z,_⟩ | ⟨_,c,e5,cc⟩
   ·rcases kd with q | q<;>(rw[q] at z;cases z)
   ·obtain⟨c',e6⟩:=c2 y (zec y3);have:c'=c:=by
     have z:=c1 y c' e6;rw[e5] at z;exact(xco z).symm
    subst this;refine .inr ⟨?_,c',e6,?_⟩
    ·rcases e3 with z | z | z
     ·exact absurd (zw z) (by
       rw[y3];rintro(q | ⟨q,_⟩)
       ·cases q
       ·cases q)
     ·exact .inl z
     ·exact .inr z
    ·obtain⟨o,ho,hd⟩:=cc;exact⟨o,hk _ o ho,hd⟩
 ·obtain⟨v,o,ho,hd⟩:=I.cell x c (c1 x c e);exact⟨v,o,hk _ o ho,hd⟩
 ·unfold startC;rw[xbk,xgz,xbe];exact S.len.symm
theorem zwy {N:List Str}{scope:Scope}{cl:List (Str×Addr)}{fp:List Addr}{σ':St}{H':Hp}{s':Shared}{h':Heap}(I:Inv X aU σ H s)(hf:∀b∈fp,FpOk X aU H b)(J:Inv (cxC X N scope cl s.heap.objs.size fp s H) [] σ' H' s')
  (hs:Heap.SameBut s.heap.objs.size s'.heap h'):Inv X aU σ H' {s' with heap:=h'}:=by
 have hC:∀b o,s.heap.get? b=some o->b≠s.heap.objs.size:=fun b o e=>xcd (xbo e)
 have hH:H' s.heap.objs.size=none:=J.free;have B:Un (frs X.stack) fp H H' s.heap s'.heap:=J.base
 have U:Un (frs X.stack) fp H H' s.heap h':=⟨fun b o e n h1 h2=>hs.extBut b o (hC b o e) (B.keep b o e n h1 h2),fun b o e n h1 h2=>by
   obtain⟨sl,q⟩:=B.slot b o e n h1 h2;exact⟨sl,hs.extBut b _ (hC b o e) q⟩,B.free,fun b o e hx=>by
   obtain⟨o',q⟩:=B.there b o e hx
   exact⟨o',hs.extBut b o' (hC b o e) q⟩,B.tups,B.frzs,B.tbls⟩
 refine I.call' (s':={s' with heap:=h'}) J.os U (fun a o e=>?_) J.bare (fun b hb=>⟨(hf b hb).2.2.2.1,(hf b hb).2.1,(hf b hb).2.2.2.2.1,(hf b hb).2.2.2.2.2⟩);refine(J.hok a o e).stay (fun b u hb q=>hs.extBut b u ?_ q) (fun _ q=>q) fun _ _ q=>q
 rcases hb with z | z
 ·intro y;rw[z] at y;rw[y,hH] at e;cases e
 ·intro y;rw[y,hH] at z;cases z
end
structure OffC (X:Cx) (aU:List (Addr×Obj)) (H:Hp) (C:Addr):Prop where
 free:H C=none
 loc:C≠X.env.locals
 young:X.s₀.heap.objs.size<=C
 cell:∀x c,X.env.cells.lookup x=some c->c≠C
 pin:∀p∈X.pn++aU,p.1≠C
theorem OffC.back {X:Cx}{aU:List (Addr×Obj)}{σ:St}{H:Hp}{C:Addr}{s:Shared}{h':Heap}(o:OffC X aU H C)(I:Inv X aU σ H s)(hs:Heap.SameBut C s.heap h'):Inv X aU σ H {s with heap:=h'} :=
 I.turned (t':=s.toks) (fun b u hb e=>hs.extBut b u hb e) o.free o.loc (.inr o.young) o.cell o.pin
noncomputable def nxC (p:Addr) (te:TE) (tc:TT) (N:St->Hp->Prop):St->Hp->Prop:=fun σ2 H3=>tc σ2 H3 fun b H4 =>
 if b=true then te σ2 H4 fun y H5=>∃xs,H5 p=some (.lst xs)/\xs.length < sizeLine/\N σ2 (upd H5 p (.lst (xs++[y]))) else N σ2 H4
noncomputable def CompG (J:It) (g:TG) (tc:TT) (te:TE) (Q:VK) (p:Addr) (σ:St) (H:Hp):Prop:=∃W:Nat->Nat->St->Hp->Prop,(∃m,W 0 m σ H) /\
 ∀i m σ' H',W i m σ' H'->(J.stop i H'/\Q (.ref p) H')\/(J.go i H'/\∃N:St->Hp->Prop,(∀σ2 H2,N σ2 H2->∃m',m' < m/\W (i+1) m' σ2 H2)/\∀x H2,J.yld i H' x H2->g x σ' H2 (nxC p te tc N))
noncomputable def tComp (wi:TI) (k:Nat) (is:List Nat) (g:TG) (tc:TT) (te:TE):TE:=fun σ H Q=>wi σ H fun J H1=>∀p,H1 p=none->CompG J g tc te Q p (startC k is σ) (upd H1 p (.lst []))
noncomputable def tYes:TT:=fun _ H Q=>Q true H
section
variable {X:Cx}{tg iter elt:Expr}{ifs:List Expr}{wi:TI}{g:TG}{tc:TT}{te:TE}{N:List Str}{k:Nat}{is:List Nat}{scope:Scope}{pos:Pos}
noncomputable def PIf (X:Cx) (ifs:List Expr) (t:TT):Prop :=
 ∀(aU:List (Addr×Obj)) (s:Shared) (σ:St) (H:Hp) (Q:Bool->Hp->Prop),Inv X aU σ H s->t σ H Q ->
  wpAny (model X.prog X.w) X.A (forIn ifs true fun c r=>if r=true then do let ok ← isTrue c X.env (eval c X.env);pure (ForInStep.yield ok) else pure (ForInStep.yield r)) (TP X aU σ Q) X.xe s
theorem zzu:PIf X [] tYes:=fun aU s σ H Q I h=>wpAny_tests_nil ⟨H,I,h⟩
theorem zzt {c:Expr}{t:TT}(h:PT X c t):PIf X [c] t:=fun aU s σ H Q I hq=>wpAny_tests_one (h aU s σ H Q I hq)
theorem zqf (hcalm:X.calm=true)(hg:∀cl C fp s H,PG (cxC X N scope cl C fp s H) tg g)(hc:∀cl C fp s H,PIf (cxC X N scope cl C fp s H) ifs tc)(he:∀cl C fp s H,PE (cxC X N scope cl C fp s H) elt te)
  (S:CompScope X N k is scope){aU:List (Addr×Obj)}{σ:St}{H2:Hp}{s2:Shared}{cl:List (Str×Addr)}{it:Addr}{fp:List Addr}{tn:Nat->Heap->Prop}{J:It}{Q:VK}{E:Value->Shared->Prop}{RR:Value->Addr->Result->Shared->Prop}
  (I2:Inv X aU σ H2 s2)(T:Turn X.prog X.w X.K tg J fp it tn)(st2:tn 0 s2.heap)(f2:∀b∈fp,FpOk X aU H2 b)
  (c1:∀x c,cl.lookup x=some c->X.env.cells.lookup x=some c)(c2:∀x,(x,NameKind.free)∈scope.names->∃c,cl.lookup x=some c)
  (h:∀p,H2 p=none->∃W:Nat->Nat->St->Hp->Prop,(∃m,W 0 m (startC k is σ) (upd H2 p (.lst []))) /\
   ∀i m σ' H',W i m σ' H'->(J.stop i H'/\Q (.ref p) H')\/(J.go i H'/\∃N:St->Hp->Prop,(∀σ2 H2,N σ2 H2->∃m',m' < m/\W (i+1) m' σ2 H2)/\∀x H2,J.yld i H' x H2->g x σ' H2 (nxC p te tc N)))
  (hR:∀(p C:Addr) (s':Shared) (H':Hp) (m:Str->Option Value),OffC X aU H' C->s'.heap.Ns C m->Inv X aU σ H' s'->Q (.ref p) H'->RR (.ref p) C (.ok .next) s') :
  wpAny (model X.prog X.w) X.A (newList []) (fun acc s₃=>wpAny (model X.prog X.w) X.A (newFunctionEnv scope X.env.globals cl [] X.env.qual none .none (some X.env)) (fun cenv s₄ =>
   codeAny (model X.prog X.w) X.A (.compStart (.ListComp elt [⟨tg,iter,ifs,0⟩] scope pos) 0 (.ref it) acc {cenv with scope:=relabel scope X.env}) (RR acc cenv.locals) s₄) E s₃) E s2:=by
 refine xfo ?_;have fresh:H2 s2.heap.objs.size=none:=I2.fresh;have I3:Inv X aU σ (upd H2 s2.heap.objs.size (.lst [])) { s2 with heap:=s2.heap.push { cls:=.type "list", dict:=none, data:=.seq ([]:List Value).toArray } }:=I2.lnew (t':=s2.toks) (.nil) (by decide)
 generalize hs3:({ s2 with heap:=s2.heap.push { cls:=.type "list", dict:=none, data:=.seq ([]:List Value).toArray } }:Shared)=s3 at I3
 have k3:∀b o,s2.heap.get? b=some o->s3.heap.get? b=some o:=fun b o e=>by rw[← hs3];exact xbd _ e
 refine wpAny_newFunctionEnv S.nocell (by intro y hy;simp at hy) (fun h₁ hns₁ hsb₁=>?_) S.kind;have st3:tn 0 s3.heap:=T.keep _ _ _ st2 fun b _ o e=>k3 b o e
 have f3:∀b∈fp,FpOk X aU (upd H2 s2.heap.objs.size (.lst [])) b:=fun b hb=>by
  obtain⟨o,e,_⟩:=T.obj _ _ st2 b hb;exact⟨by rw[zn (xcd (xbo e))];exact(f2 b hb).1,(f2 b hb).2⟩
 have k4:∀b o,s3.heap.get? b=some o->h₁.get? b=some o:=fun b o e=>hsb₁.extBut b o (xcd (xbo e)) (xbd _ e)
 have J4:=zwx (tk:=s3.toks+([]:List (Str×Value)).length) S I3 c1 c2 f3 (fun b hb=>let ⟨o,e,_⟩:=T.obj _ _ st3 b hb;⟨o,e⟩) hns₁ k4;obtain⟨W,⟨m0,w0⟩,turn⟩:=h s2.heap.objs.size fresh;have st4:tn 0 h₁:=T.keep _ _ _ st3 fun b _ o e=>k4 b o e
 have loop:codeAny (model X.prog X.w) X.A (.compLoop (.ListComp elt [⟨tg,iter,ifs,0⟩] scope pos) 0 (.ref it) (.ref s2.heap.objs.size) (compEnvC scope cl s3.heap.objs.size X.env)) (RR (.ref s2.heap.objs.size) s3.heap.objs.size) {s3 with heap:=h₁,toks:=s3.toks+([]:List (Str×Value)).length}:=by
  have stat:∀{H':Hp},(∀b∈fp,H' b=none)->∀b∈fp,FpOk (cxC X N scope cl s3.heap.objs.size fp s3 (upd H2 s2.heap.objs.size (.lst []))) [] H' b:=fun {H'} hn b hb=>by
   obtain⟨o,e,_⟩:=T.obj _ _ st3 b hb;refine⟨hn b hb,xcd (xbo e),J4.ok.exfs b hb,.inl hb,fun x c e'=>(f3 b hb).2.2.2.2.1 x c (c1 x c e'),fun p hp=>(nomatch hp)⟩
  refine zto (fun n s'=>∃i σ' H',Inv (cxC X N scope cl s3.heap.objs.size fp s3 (upd H2 s2.heap.objs.size (.lst []))) [] σ' H' s'/\tn i s'.heap/\(∀b∈fp,H' b=none)/\W i n σ' H') ?_ m0
   ⟨0,_,_,J4,st4,fun b hb=>(f3 b hb).1,w0⟩
  rintro n s5 ⟨i,σ5,H5,I5,st5,fr5,w5⟩;rcases turn i n σ5 H5 w5 with⟨stop,q⟩ | ⟨go,N',hN',step⟩
  ·refine thn (T.done (cxC X N scope cl s3.heap.objs.size fp s3 (upd H2 s2.heap.objs.size (.lst []))) rfl rfl rfl hcalm i [] s5 σ5 H5 _ I5 (stat fr5) st5 stop) fun r s6 hq0=>?_
   obtain⟨hr,I6⟩:=hq0;subst hr;obtain⟨m,hm,_⟩:=I6.loc;refine hR _ _ s6 H5 m ⟨I6.free,xgv I3.lt,I3.sz,fun x c e=>?_,fun p hp=>xcd (xbo (I3.pin p hp).1)⟩ hm (zwy (h':=s6.heap) I3 f3 I6 (.refl ..)) q;obtain⟨v,o,ho,_⟩:=I3.cell x c e;exact xcd (xbo ho)
  ·refine thn (T.item (cxC X N scope cl s3.heap.objs.size fp s3 (upd H2 s2.heap.objs.size (.lst []))) rfl rfl rfl hcalm i [] s5 σ5 H5 _ I5 (stat fr5) st5 go) fun r s6 hq0=>?_
   obtain⟨u,hr,h6⟩:=hq0;subst hr;refine thn h6 fun _ s7 hq0=>?_
   obtain⟨x,H7,I7,r7,y7,st7,fr7⟩:=hq0;have I7':=I7.pinned (stat fr7) (T.obj _ _ st7);refine thn (hg cl s3.heap.objs.size fp s3 _ _ s7 σ5 H7 x u _ I7' r7 (step x H7 y7)) fun _ s8 hq0=>?_
   obtain⟨σ8,H8,I8,q8⟩:=hq0;refine thn (hc cl s3.heap.objs.size fp s3 _ _ s8 σ8 H8 _ I8 q8) fun b s9 hq0=>?_
   obtain⟨H9,I9,q9⟩:=hq0;have again:∀{σ':St} {H':Hp} {s':Shared} {m':Nat},Inv (cxC X N scope cl s3.heap.objs.size fp s3 (upd H2 s2.heap.objs.size (.lst []))) ([]++pinsAt fp s7.heap) σ' H' s'->m' < n->W (i+1) m' σ' H' ->
     ∃m,m < n/\∃i σ' H',Inv (cxC X N scope cl s3.heap.objs.size fp s3 (upd H2 s2.heap.objs.size (.lst []))) [] σ' H' s'/\tn i s'.heap/\(∀b∈fp,H' b=none)/\W i m σ' H':=fun {σ' H' s' m'} I' hm w'=>by
    refine⟨m',hm,i+1,σ',H',I'.unpinned,T.keep _ _ _ st7 fun b hb o e=>(I'.pin (b,o) (xdh _ (xdh _ (zea hb e)))).1,fun b hb=>?_,w'⟩;obtain⟨o,e,d⟩:=T.obj _ _ st7 b hb;exact(I'.pin (b,o) (xdh _ (xdh _ (zea hb e)))).2.1
   cases b with
   | false =>
    obtain⟨m',hm,w'⟩:=hN' _ _ q9;exact again I9 hm w'
   | true =>
    refine thn (he cl s3.heap.objs.size fp s3 _ _ s9 σ8 H9 _ I9 q9) fun v s10 hq0=>?_
    obtain⟨y,H10,I10,r10,xs,hxs,hz,n10⟩:=hq0;obtain⟨m',hm,w'⟩:=hN' _ _ n10;refine thn (zlu (X:=cxC X N scope cl s3.heap.objs.size fp s3 (upd H2 s2.heap.objs.size (.lst []))) _ s10 σ8 H10 (.ref s2.heap.objs.size) [y] _ [v] (fun _ H'=>H'=upd H10 s2.heap.objs.size (.lst (xs++[y]))) I10 rfl (.cons r10 .nil) ⟨_,xs,y,rfl,rfl,hxs,hz,rfl⟩) fun _ s11 hq0=>?_
    obtain⟨_,H11,I11,_,e11⟩:=hq0;subst e11;exact again I11 hm w'
 have hs3':s2.heap.push { cls:=.type "list", dict:=none, data:=.seq ([]:List Value).toArray }=s3.heap:=by rw[← hs3]
 have fin:=codeAny_compStart_list (elt:=elt) (target:=tg) (iter:=iter) (ifs:=ifs) (rest:=[]) (scope:=scope) (pos:=pos) loop (T.self X.A 0 _ _ _ st4 loop);exact fin
theorem zkw (S:CompScope X N k is scope){aU:List (Addr×Obj)}{σ:St}{H:Hp}{s:Shared}(I:Inv X aU σ H s) :
  ∃cl,closureFor scope X.env=pure cl/\(∀x c,cl.lookup x=some c->X.env.cells.lookup x=some c)/\∀x,(x,NameKind.free)∈scope.names->∃c,cl.lookup x=some c :=
 zqh fun y hy hf=>I.ok.has y.1 (S.frees y hy hf)
theorem zbae (hcalm:X.calm=true)(hi:PI X tg iter wi)(hg:∀cl C fp s H,PG (cxC X N scope cl C fp s H) tg g)(hc:∀cl C fp s H,PIf (cxC X N scope cl C fp s H) ifs tc)(he:∀cl C fp s H,PE (cxC X N scope cl C fp s H) elt te)
  (S:CompScope X N k is scope)(hs:∀x,foldedSetIterable iter X.env x=pure x:=by intro _;rfl):PE X (.ListComp elt [⟨tg,iter,ifs,0⟩] scope pos) (tComp wi k is g tc te):=by
 intro aU s σ H Q I h;obtain⟨cl,e,c1,c2⟩:=zkw S I;rw[eval_ListComp];refine wpAny_comprehension_free (use:=none) rfl hs e S.kind S.names (thn (hi aU s σ H _ I h) fun xv s1 h1=>thn h1 fun itv s2 h2=>?_);obtain⟨it,fp,tn,J,H2,e2,I2,T,st2,f2,h3⟩:=h2;subst e2;refine zqf (Q:=Q) (RR:=fun acc C=>compPost (model X.prog X.w) X.A X.xe none (EP X aU σ Q) acc C) hcalm hg hc he S I2 T st2 f2 c1 c2 h3 ?_;intro p C s' H' m off hm I' q;exact⟨m,hm,fun h' hs'=>⟨.ref p,H',off.back I' hs',rfl,q⟩⟩
end
section
variable {g:TG}{tc:TT}{te:TE}{Q:VK}{σ:St}{H:Hp}{p:Addr}
end
noncomputable def Callee (P:Program) (w:World) (K:Fg) (mg:Str->Option Value) (base:Heap) (x:Str) (k:Nat) (ps:List Str) (sp:Sp):Prop :=
 ∃f fd,FnOk P w K mg base CX0 k f fd ps sp/\Binds K fd ps []/\W.keepIn K (.ref f)=true/\mg x=some (.ref f)
section
variable {X:Cx}{x:Str}{k:Nat}{ps:List Str}{sp:Sp}{p pos:Pos}{e:Expr}{es:List Expr}{t:TA}
theorem zwg (c:Callee X.prog X.w X.K X.mg X.base x k ps sp)(hr:Room k X.A)(hg:Gl X x)(ha:PA X (e::es) t)(hdb:(x==("__debug__" : Str))=false:=by decide)
  (he:starEach (e::es) X.env=(false,eval e X.env)::starEach es X.env:=by rfl)(hpl:(backTo pos (starEach es X.env)).any (·.1)=false:=by rfl) :
  PE X (.Call (.Name x p) (e::es) [] pos) (tCall sp [] E0 t):=by
 obtain⟨f,fd,F,b,kp,m⟩:=c;exact zbag F hr hg m kp b .nil pass0 ha hdb he hpl
end
noncomputable def TopF (K:Fg) (x:Str) (st:Stmt):Prop :=
 ∃f fd,W.nsIn K mainGlobals x=some (some (.ref f))/\Fun K x x st f fd
theorem zcc {K:Fg}{x:Str}{st:Stmt}{f:Addr}{od an:Option Addr}{sl:Array (Option Value)}{oc kV dc pm cd ct:Value}
  (a:W.nsIn K mainGlobals x=some (some (.ref f)))(l:K.lookup f=some ⟨oc,od,.func (W.fnOf x x (defArgs st) (defBody st) (defScope st) .none kV dc pm an cd ct),sl⟩)(c:W.codeIn K cd x=true)(k:W.keepIn K (.ref f)=true):TopF K x st :=
 ⟨f,_,a,zbge l c k⟩
theorem ztp {P:Program}{w:World}{K:Fg}{mg:Str->Option Value}{base h:Heap}{x:Str}{st:Stmt}{N ps:List Str}{k:Nat}{sp:Sp}(T:TopF K x st)(X:K.In h)(G:h.Ns mainGlobals mg)(S:FnScope N ps (defScope st))
  (bd:∀(kV doc pm:Value) (an:Option Addr) (cdv ct:Value) (us:List Value),us.length=ps.length->bindArgs (W.fnOf x x (defArgs st) (defBody st) (defScope st) .none kV doc pm an cdv ct) ⟨us,[]⟩=pure (ps.zip us))
  (len:∀vs H Q E,sp vs H Q E->vs.length=ps.length)
  (hbody:∀(f:Addr) (cdv:Value) (A:Around) (outer:List Env) (s:Shared) (H:Hp) (vs:List V) (Q:VK) (E:XK),Room k (A.deeper (envOfC x (defScope st) s.heap.objs.size f cdv))->sp vs H Q E ->
   ∃t,PSs (cxOf CX0 P w K mg base N x (defScope st) f cdv A outer s H E).nox (defBody st) t/\t {nx:=fun _ H'=>Q .non H',rt:=Q} (start N vs) H):Callee P w K mg base x (k+1) ps sp:=by
 obtain⟨f,fd,a,F⟩:=T;exact⟨f,fd,F.ok S len (hbody f),F.binds bd,F.kp,W.mg_of X G a⟩
section
variable {X:Cx}
theorem zbe:CallR X (.builtin "isinstance") (fun xs H Q=>∃ x T t b, xs=[x, .ty T]/\TyOf X.K H x t/\W.kitOne X.K t (.type T)=some b/\Q (.bl b) H):=by
 intro aU s σ H xs us Q I r h;obtain⟨x,T,t,b,rfl,ty,e,q⟩:=h;obtain⟨u,w',rfl,ru,rw'⟩:=vals2 r;cases(show w'=Value.type T from rw');exact zsv I ru ty e fun tk=>⟨.bl b,H,I.tok tk,rfl,q⟩
noncomputable def CDivP (i j:Int):Prop:=0 < j/\j < 2 ^ 1000
theorem zfu:OpR X (binaryOp .FloorDiv) (rI CDivP fun i j=>.int (i / j)):=opI fun i j _ _ _ _ _ hc q=>by
 have e:i.fdiv j=i / j:=Int.fdiv_eq_ediv_of_nonneg i (by have:=hc.1;lia);refine floordiv_int (by have:=hc.1;lia) (by rw[e];exact q) (.inl (PyProof.noPylong_of_log2 ?_));have h1:j.natAbs < 2 ^ 1000:=by
  have h2:=hc.1;have h3:=hc.2;have h4:(j.natAbs:Int)=j:=by lia
  have h5:(j.natAbs:Int) < ((2 ^ 1000:Nat):Int):=by
   rw[h4];exact_mod_cast h3
  exact_mod_cast h5
 have h0:j.natAbs≠0:=by have:=hc.1;lia
 have:=(Nat.log2_lt h0).mpr h1;lia
end
section
variable {X:Cx}{st:Stmt}{t:TS}
end
noncomputable def compLook (XN:List Str) (xs:List (Str×NameKind)) (N:List Str) (k:Nat) (is:List Nat) (scope:Scope):Bool :=
 (scope.kind==.function)&&scope.names.all (fun y=>y.2 != .cell)&&scope.names.all (fun y=>y.2 != .local||scope.names.lookup y.1==some .local) &&
 scope.names.all (fun y=>y.2 != .free||(xs.lookup y.1==some .cell||xs.lookup y.1==some .free))&&(N.length==k+is.length) &&
 (List.range is.length).all (fun j=>match is[j]?,N[k+j]? with
  | some i,some x=>XN[i]?==some x&&scope.names.lookup x==some .free
  | _,_=>false)
theorem zge {X:Cx}{N:List Str}{k:Nat}{is:List Nat}{scope:Scope}(h:compLook X.N X.env.scope.names N k is scope=true):CompScope X N k is scope:=by
 unfold compLook at h;simp only[xfe,xed] at h;obtain⟨⟨⟨⟨⟨h1,h2⟩,h3⟩,h4⟩,h5⟩,h6⟩:=h;refine⟨eq_of_beq h1,fun y hy e=>?_,fun y hy e=>?_,fun y hy e=>?_,eq_of_beq h5,fun j i e=>?_⟩
 ·have:=h2 y hy;rw[e] at this;simp at this
 ·have:=h3 y hy;rw[e] at this;simp at this;exact this
 ·have:=h4 y hy;rw[e] at this;simp at this;exact this
 ·have hj:j < is.length:=(xbm.mp e).1;have:=h6 j (xcf.mpr hj);rw[e] at this;cases e2:N[k+j]? with
  | none=>rw[e2] at this;cases this
  | some x =>
   rw[e2] at this;simp only[xfe,xgs] at this;exact⟨x,rfl,this.1,this.2⟩
theorem znz:bootBuiltins "len"=some (.builtin "len"):=by decide +kernel
theorem zbhr:bootBuiltins "abs"=some (.builtin "abs"):=by decide +kernel
theorem zqj:bootBuiltins "min"=some (.builtin "min"):=by decide +kernel
theorem zbcz:bootBuiltins "max"=some (.builtin "max"):=by decide +kernel
theorem zbhp:bootBuiltins "sum"=some (.builtin "sum"):=by decide +kernel
theorem zmp:bootBuiltins "sorted"=some (.builtin "sorted"):=by decide +kernel
theorem zxz:bootBuiltins "all"=some (.builtin "all"):=by decide +kernel
theorem zr:bootBuiltins "isinstance"=some (.builtin "isinstance"):=by decide +kernel
theorem ztv:bootBuiltins "int"=some (.type "int"):=by decide +kernel
theorem zqk:bootBuiltins "bool"=some (.type "bool"):=by decide +kernel
theorem zeq:bootBuiltins "tuple"=some (.type "tuple"):=by decide +kernel
theorem zmq:bootBuiltins "list"=some (.type "list"):=by decide +kernel
theorem zbhq:bootBuiltins "set"=some (.type "set"):=by decide +kernel
theorem zvl {H:Hp}{p:Addr}{o:HO}(h:H p=some o):upd H p o=H:=by
 funext b
 unfold upd;split
 ·subst b;exact h.symm
 ·rfl
section
variable {X:Cx}{K:Fg}
end
end L2
namespace Srt
open PySem PySem.W PyProof.Rows
section
variable (r:Nat->Nat)
noncomputable def lt (i j:Nat):Bool:=decide (r i < r j)
noncomputable def At (p:Array Nat) (i:Nat):Nat:=r (p.getD i 0)
noncomputable def Up (p:Array Nat) (n:Nat):Prop:=∀i j,i<=j->j < n->At r p i<=At r p j
end
section
variable {r:Nat->Nat}{p:Array Nat}{n:Nat}
end
section
variable {n:Nat}
end
section
variable {P:Program}{w:World}{B:Around}{E:Value->Shared->Prop}{st:Shared}
noncomputable def midHeap (h:Heap) (d:Addr) (xs:List Value):Heap:=((h.update d (Obj.mapSeq fun _=>(#[]:Array Value))).push (seqObj "tuple" xs.toArray 0)).push (seqObj "list" #[] 0)
theorem zgt {h:Heap}{d b:Addr}{xs:List Value}{ob:Obj}(ne:b≠d)(e:h.get? b=some ob):(midHeap h d xs).get? b=some ob :=
 xbd _ (xbd _ ((Heap.get?_update_ne _ _ _ _ ne).trans e))
noncomputable def Answers (P:Program) (w:World) (B:Around) (r:Nat->Nat) (xs:List Value) (sg:Shared):Prop :=
 ∃κ,(∀R:SortKind->Shared->Prop,R κ sg->wpAny (model P w) B (keyKind' xs.toArray) R (fun _ _=>False) sg) /\
  ∀i j C,i < xs.length->j < xs.length->C (lt r i j) sg->kas_ask P w B κ xs i j C sg
noncomputable def outOf (xs:List Value) (p:Array Nat):Array Value:=List.toArray (p.toList.map fun i=>xs.getD i Value.none)
theorem zrr {xs:List Value}(h:xs.length < 2):(xs.toArray.zip xs.toArray).map (·.2)=outOf xs (List.toArray (List.range xs.length)):=by
 unfold outOf
 match xs,h with
 | [],_=>simp
 | [_],_=>simp[xiw]
 | _::_::_,h=>exact absurd h (by simp)
end
end Srt
namespace Srt
open PySem PySem.W PyProof.Rows HT
theorem zee:∀a:List Int,lexLt a a=false
 | []=>rfl
 | x::a=>by rw[zcf,if_pos rfl];exact zee a
theorem zed:∀{a b c:List Int},lexLt a b=true->lexLt b c=true->lexLt a c=true
 | _,[],[],_,h=>by rw[zcx] at h;cases h
 | _,_::_,[],_,h=>by rw[zcj] at h;cases h
 | [],[],_::_,h,_=>by rw[zcx] at h;cases h
 | _::_,[],_::_,h,_=>by rw[zcj] at h;cases h
 | [],_::_,_::_,_,_=>zbq _ _
 | x::a,y::b,z::c,h1,h2=>by
  rw[zcf] at h1 h2 ⊢;by_cases e1:x=y
  ·rw[if_pos e1] at h1;subst e1;by_cases e2:x=z
   ·rw[if_pos e2] at h2 ⊢;exact zed h1 h2
   ·rw[if_neg e2] at h2 ⊢;exact h2
  ·rw[if_neg e1] at h1;have h1':=xep h1;by_cases e2:y=z
   ·subst e2;rw[if_neg e1];exact h1
   ·rw[if_neg e2] at h2;have h2':=xep h2;rw[if_neg (by lia)];exact xcs (by lia)
theorem zjd:∀a b:List Int,lexLt a b=true\/a=b\/lexLt b a=true
 | [],[]=>.inr (.inl rfl)
 | [],_::_=>.inl (zbq _ _)
 | _::_,[]=>.inr (.inr (zbq _ _))
 | x::a,y::b=>by
  rw[zcf,zcf];by_cases e:x=y
  ·subst e;rw[if_pos rfl,if_pos rfl];rcases zjd a b with h | h | h
   ·exact .inl h
   ·exact .inr (.inl (by rw[h]))
   ·exact .inr (.inr h)
  ·rw[if_neg e,if_neg (fun z=>e z.symm)];rcases Int.lt_or_gt_of_ne e with h | h
   ·exact .inl (xcs h)
   ·exact .inr (.inr (xcs h))
theorem zsq {a b:List Int}(h:lexLt a b=true):lexLt b a=false:=by
 cases e:lexLt b a with
 | false=>rfl
 | true=>have:=zed h e;rw[zee] at this;cases this
theorem zqe {p q:Nat->Bool}(hpq:∀x,p x=true->q x=true):∀{l:List Nat} {y:Nat},y∈l->q y=true->p y=false->l.countP p < l.countP q
 | [],_,h,_,_=>nomatch h
 | x::l,y,h,h1,h2=>by
  have mono:∀l:List Nat,l.countP p<=l.countP q:=fun l=>List.countP_mono_left fun x _=>hpq x
  rcases xbl.mp h with rfl | h
  ·rw[xhv h1,xjj (by rw[h2];decide)];exact Nat.lt_succ_of_le (mono l)
  ·have ih:=zqe hpq h h1 h2;by_cases c:p x=true
   ·rw[xhv c,xhv (hpq x c)];lia
   ·rw[xjj c];by_cases d:q x=true
    ·rw[xhv d];lia
    ·rw[xjj d];exact ih
noncomputable def rank (ks:List (List Int)) (i:Nat):Nat:=(List.range ks.length).countP fun k=>lexLt (ks.getD k []) (ks.getD i [])
theorem zop {ks:List (List Int)}{i j:Nat}(hi:i < ks.length)(hj:j < ks.length):lt (rank ks) i j=lexLt (ks.getD i []) (ks.getD j []):=by
 have up:∀{a b:Nat},a < ks.length->lexLt (ks.getD a []) (ks.getD b [])=true->rank ks a < rank ks b:=fun {a b} ha h =>
  zqe (fun x hx=>zed hx h) (xcf.mpr ha) h (zee _)
 cases e:lexLt (ks.getD i []) (ks.getD j []) with
 | true=>exact xcs (up hi e)
 | false =>
  refine xcg fun h=>?_
  rcases zjd (ks.getD i []) (ks.getD j []) with z | z | z
  ·rw[e] at z;cases z
  ·unfold rank at h;rw[z] at h;exact absurd h (xfw _)
  ·have:=up hj z;lia
section
variable {prog:Program}{w:World}{A:Around}{s:Shared}{b:Bool}{Q:Bool->Shared->Prop}
theorem zpp:∀{us ws:List Value} {ns ms:List Int} (i:Nat),IntsAre us ns->IntsAre ws ms->Q (lexLt ns ms) s->KatLex prog w A b (decide (us.length < ws.length)) Q (us.zip ws) i s
 | _,_,_,_,_,.nil,.nil,h=>h
 | _,_,_,_,_,.nil,.cons _ _ _,h=>h
 | _,_,_,_,_,.cons _ _ _,.nil,h=>h
 | _,_,_,_,i,.cons x t (vs:=us) (ns:=ns) r1,.cons y u (vs:=ws) (ns:=ms) r2,h=>by
  rw[zcf] at h;refine kat_cons (wpAny_eqBool_int (kat_go (fun e=>kat_yes ?_) fun e=>kat_no ?_))
  ·rw[if_pos (eq_of_beq e)] at h;have q:=zpp (i+1) r1 r2 h;have ee:decide ((Value.int x t::us).length < (Value.int y u::ws).length)=decide (us.length < ws.length):=by
    rw[xby,xby,xfs];simp
   rw[ee];exact q
  ·rw[if_neg (xgm.mp e)] at h;cases hb:(b&&i==0) with
   | true=>exact oneLt_int h
   | false=>exact kat_one _ _ (PyProof.Rows.lt_int h)
end
end Srt
namespace L2
open PySem PySem.Spec PyProof.Rows PySem.W
theorem zlg:∀{as:List Addr} {us:List Value},Vals (as.map V.ref) us->us=as.map Value.ref
 | [],_,.nil=>rfl
 | a::as,_,.cons r t=>by
  rw[show _=Value.ref a from r,zlg t]
  rfl
noncomputable def TupsAt (K:Fg) (H:Hp) (ps:List (Addr×List Int)):Prop:=∀p∈ps,SqT K H p.1 (p.2.map V.int)
theorem zi {α β:Type}(f:α->β)(d:β){l:List α}{i:Nat}{x:α}(h:l[i]?=some x):(l.map f).getD i d=f x:=by
 rw[xcc,xct,h]
 rfl
section
variable {X:Cx}
end
end L2
namespace L2
open PySem PySem.Spec PyProof.Rows
mutual
inductive DAt (K:Fg) (H:Hp):V->PyData->Prop
 | non:DAt K H .non .none
 | bl (b:Bool):DAt K H (.bl b) (.bool b)
 | int (i:Int):DAt K H (.int i) (.int i)
 | str (x:Str):DAt K H (.str x) (.str x)
 | lst {a:Addr} {xs:List V} {ds:List PyData}:SqL K H a xs->DAll K H xs ds->DAt K H (.ref a) (.list ds)
 | tup {a:Addr} {xs:List V} {ds:List PyData}:SqT K H a xs->DAll K H xs ds->DAt K H (.ref a) (.tuple ds)
inductive DAll (K:Fg) (H:Hp):List V->List PyData->Prop
 | nil:DAll K H [] []
 | cons {x:V} {xs:List V} {d:PyData} {ds:List PyData}:DAt K H x d->DAll K H xs ds->DAll K H (x::xs) (d::ds)
end
section
variable {X:Cx}{aU:List (Addr×Obj)}{σ:St}{H:Hp}{s:Shared}
mutual
theorem zdq (I:Inv X aU σ H s):∀{v:V} {d:PyData} {u:Value},DAt X.K H v d->RelV v u->∃as,Reads s.heap u d as
 | _,_,_,.non,r=>by cases r;exact⟨_,.none⟩
 | _,_,_,.bl b,r=>by cases r;exact⟨_,.bool b⟩
 | _,_,_,.int i,r=>by obtain⟨t,rfl⟩:=r;exact⟨_,.int i t⟩
 | _,_,_,.str x,r=>by obtain⟨t,rfl⟩:=r;exact⟨_,.str x t⟩
 | _,_,_,.lst h all,r=>by
  cases r;obtain⟨its,rv,⟨o,n,e,c,_,dd⟩,_⟩:=I.list h;obtain⟨as,q⟩:=zem I all rv;exact⟨_,.list e c dd q⟩
 | _,_,_,.tup h all,r=>by
  cases r;obtain⟨its,rv,⟨o,e,c,n,dd⟩,_⟩:=I.tuple h;obtain⟨as,q⟩:=zem I all rv;exact⟨_,.tuple e c dd q⟩
theorem zem (I:Inv X aU σ H s):∀{vs:List V} {ds:List PyData} {us:List Value},DAll X.K H vs ds->Vals vs us->∃as,ReadsAll s.heap us ds as
 | _,_,_,.nil,.nil=>⟨_,.nil⟩
 | _,_,_,.cons h t,.cons r rs=>by
  obtain⟨as,q⟩:=zdq I h r;obtain⟨bs,q'⟩:=zem I t rs;exact⟨_,.cons q q'⟩
end
end
noncomputable def rEqX (K:Fg) (neg:Bool):R2:=fun x y H Q=>∃dx dy,DAt K H x dx/\DAt K H y dy/\PySem.SeqAt.shaped dx=true/\PySem.SeqAt.shaped dy=true/\Q (.bl (if neg then !PyData.eqv dx dy else PyData.eqv dx dy)) H
section
variable {X:Cx}
theorem ziv (hu:X.A.units+64 < cLine):OpR X (compareOp .Eq) (rEqX X.K false):=by
 intro aU s σ H x y v u Q I r1 r2 h;obtain⟨dx,dy,a1,a2,a3,a4,q⟩:=h;obtain⟨as,ra⟩:=zdq I a1 r1;obtain⟨bs,rb⟩:=zdq I a2 r2;exact eq_dataH ra rb a3 a4 hu ⟨.bl (PyData.eqv dx dy),H,I,rfl,q⟩
theorem zwj (hu:X.A.units+64 < cLine):OpR X (compareOp .NotEq) (rEqX X.K true):=by
 intro aU s σ H x y v u Q I r1 r2 h;obtain⟨dx,dy,a1,a2,a3,a4,q⟩:=h;obtain⟨as,ra⟩:=zdq I a1 r1;obtain⟨bs,rb⟩:=zdq I a2 r2;exact ne_dataH ra rb a3 a4 hu ⟨.bl (!PyData.eqv dx dy),H,I,rfl,q⟩
end
noncomputable def dI (ns:List Int):List PyData:=ns.map PyData.int
noncomputable def dRow (ns:List Int):PyData:=.tuple (dI ns)
theorem zbcu:∀a b:List Int,PyData.eqvAll (dI a) (dI b)=decide (a=b)
 | [],[]=>by rfl
 | [],_::_=>by rfl
 | _::_,[]=>by rfl
 | x::a,y::b=>by
  show(x==y&&PyData.eqvAll (dI a) (dI b))=_;rw[zbcu a b,xfs];simp
theorem zku (a b:List Int):PyData.eqv (dRow a) (dRow b)=decide (a=b):=zbcu a b
theorem zmk:∀a b:List (List Int),PyData.eqvAll (a.map dRow) (b.map dRow)=decide (a=b)
 | [],[]=>by rfl
 | [],_::_=>by rfl
 | _::_,[]=>by rfl
 | x::a,y::b=>by
  show(PyData.eqv (dRow x) (dRow y)&&PyData.eqvAll (a.map dRow) (b.map dRow))=_;rw[zmk a b,zku,xfs];simp
theorem zxu:∀a:List Int,PyData.canLayAll0 (dI a)=true/\PyData.depthAll (dI a)=0
 | []=>⟨rfl,rfl⟩
 | x::a=>by
  obtain⟨h1,h2⟩:=zxu a;refine⟨?_,?_⟩
  ·show(true&&PyData.canLayAll0 (dI a))=true;rw[h1];rfl
  ·show max 0 (PyData.depthAll (dI a))=0;rw[h2];rfl
theorem zny (a:List Int):PySem.SeqAt.shaped (dRow a)=true:=by
 obtain⟨h1,h2⟩:=zxu a;show(PyData.canLayAll0 (dI a)&&decide (PyData.depthAll (dI a)+1<=64))=true;rw[h1,h2];rfl
theorem zmj:∀a:List (List Int),PyData.canLayAll0 (a.map dRow)=true/\PyData.depthAll (a.map dRow)<=1
 | []=>⟨rfl,xec _⟩
 | x::a=>by
  obtain⟨h1,h2⟩:=zmj a;obtain⟨h3,h4⟩:=zxu x;refine⟨?_,?_⟩
  ·show(PyData.canLayAll0 (dI x)&&PyData.canLayAll0 (a.map dRow))=true;rw[h1,h3];rfl
  ·show max (PyData.depthAll (dI x)+1) (PyData.depthAll (a.map dRow))<=1;rw[h4];lia
theorem zdv (a:List (List Int)):PySem.SeqAt.shaped (.tuple (a.map dRow))=true:=by
 obtain⟨h1,h2⟩:=zmj a;show(PyData.canLayAll0 (a.map dRow)&&decide (PyData.depthAll (a.map dRow)+1<=64))=true;rw[h1,xcs (by lia)];rfl
section
variable {X:Cx}
theorem zin:∀{bs:List Bool} {us:List Value},Vals (bs.map V.bl) us->us=bs.map Value.bool
 | [],_,.nil=>rfl
 | b::bs,_,.cons r t=>by
  rw[show _=Value.bool b from r,zin t]
  rfl
theorem zrw (bs:List Bool):((List.range bs.length).all fun i=>bs.getD i false)=bs.all id:=by
 rw[xfs];simp only[xed,xcf];constructor
 ·intro h b hb;obtain⟨i,hi,rfl⟩:=xen hb;have:=h i hi;rw[xcc,xbg hi] at this;exact this
 ·intro h i hi;rw[xcc,xbg hi];exact h _ (xdw hi)
noncomputable def rAny (K:Fg) (al:Bool):List V->Hp->VK->Prop:=fun xs H Q=>∃(l:Addr) (bs:List Bool),xs=[.ref l]/\SqL K H l (bs.map V.bl)/\Q (.bl (if al then bs.all id else bs.any id)) H
theorem zmx {prog:Program}{w:World}{A:Around}(bs:List Bool):TruthOf prog w A (fun i v=>(bs.map Value.bool).toArray[i]?=some v) (fun i=>bs.getD i false):=fun i v s Q E hP hQ=>by
 have hP':(bs.map Value.bool)[i]?=some v:=by simpa using hP
 rw[xct] at hP';cases e:bs[i]? with
 | none=>rw[e] at hP';cases hP'
 | some b =>
  rw[e] at hP';cases hP';dsimp only at hQ;rw[xcc,e] at hQ;exact xgi hQ
theorem zyf (hc:X.calm=true){aU:List (Addr×Obj)}{σ:St}{H:Hp}{s:Shared}{l:Addr}{bs:List Bool}{R:Bool->Prop}(I:Inv X aU σ H s)(hl:SqL X.K H l (bs.map V.bl)){Q:Value->Shared->Prop}{F:(Nat->Bool)->Nat->Bool}
  (hQ:∀s',Inv X aU σ H s'->Q (.bool (F (fun i=>bs.getD i false) bs.length)) s') :
  wpAny (model X.prog X.w) X.A.in1 (pyIter (.ref l)) (fun it s₂=>∃I fp wr n P St tr,it=.ref I/\Walks X.prog X.w X.A.in1 I fp wr n P St/\St 0 s₂.heap/\TruthOf X.prog X.w X.A.in1 P tr /\
   ∀h' tk,(∀b o,b∉wr->s₂.heap.get? b=some o->h'.get? b=some o)->Q (.bool (F tr n)) {s₂ with heap:=h',toks:=tk}) X.xe s:=by
 obtain⟨its,rv,pl,hz⟩:=I.list hl;have e:=zin rv;subst e;have hlt:l < s.heap.objs.size:=by obtain⟨o,n,e,_⟩:=pl;exact xbo e
 refine xjp pl.isList ?_;refine⟨s.heap.objs.size,_,[s.heap.objs.size],_,_,_,_,rfl,Walks.list (A:=X.A.in1) (I.ok.hd hc) _ l (xcd hlt) (bs.map Value.bool).toArray,⟨⟨_,xbr _ rfl,rfl,rfl⟩,pl.isList.push _⟩,zmx bs,fun h' tk hk=>?_⟩;have e2:(bs.map Value.bool).toArray.size=bs.length:=by simp
 rw[e2];refine hQ _ ?_;refine I.kept (t':=tk) fun b o e=>hk b o ?_ (xbd _ e)
 intro z;have z':b=s.heap.objs.size:=by simpa using z
 have z2:=xbo e;rw[z'] at z2;exact absurd z2 (xfw _)
theorem zky (hc:X.calm=true):CallR X (.builtin "all") (rAny X.K true):=by
 intro aU s σ H xs us Q I r h;obtain⟨l,bs,rfl,hl,q⟩:=h;obtain⟨u,rfl,ru⟩:=vals1 r;cases ru;refine call_all_walk (zyf (R:=fun _=>True) hc I hl (F:=fun tr n=>(List.range n).all tr) fun s' I'=>⟨.bl ((List.range bs.length).all fun i=>bs.getD i false),H,I',rfl,?_⟩);rw[zrw];exact q
end
end L2
namespace Dct
open PySem PySem.W PyProof.Rows
noncomputable def Raw (h:Heap) (d:Addr) (es:Array DictEntry) (ep:Nat):Prop:=∃ob,h.get? d=some ob/\ob.ExactDict/\ob.data=.dict es ep
theorem Raw.kept {h h':Heap}{d:Addr}{es:Array DictEntry}{ep:Nat}(x:Raw h d es ep)(k:∀ob,h.get? d=some ob->h'.get? d=some ob):Raw h' d es ep :=
 let ⟨ob,e,r⟩:=x;⟨ob,k ob e,r⟩
theorem Raw.lt {h:Heap}{d:Addr}{es:Array DictEntry}{ep:Nat}(x:Raw h d es ep):d < h.objs.size:=let ⟨_,e,_⟩:=x;xbo e
theorem Raw.is {st:Shared}{d:Addr}{es:Array DictEntry}{ep:Nat}(x:Raw st.heap d es ep):st.TypeIs (.ref d) "dict":=let ⟨ob, e, c, _⟩:=x; ⟨ob, e, c.1⟩
section
variable {P:Program}{w:World}{B:Around}{E:Value->Shared->Prop}{st:Shared}{d it:Addr}{es:Array DictEntry}{ep k:Nat}
noncomputable def iterObj (d:Addr) (n ep:Nat):Obj:={ cls:=.type "dict_keyiterator", data:=.fields #[.ref d, .int 0 0, .int n 0, .int ep 0] }
theorem zoo {W:Value->Shared->Prop}(ns:(d==sysModules)=false)(x:Raw st.heap d es ep)(fin:W (.ref st.heap.objs.size) {st with heap:=st.heap.push (iterObj d es.size ep)}):wpAny (model P w) B (pyIter (.ref d)) W E st:=by
 obtain⟨ob,e,c,dt⟩:=id x;have ty:=x.is;refine wpAny_pyIter_slot ty F.slot_dict_iter (xew F.slot_dict_iter ty F.entry_dict_iter ?body (F.args_dict_iter_1 _))
 case body =>
  unfold Builtin.«dict.__iter__» Builtin.Dict.dictSlotNone Builtin.Dict.showsAll;refine xba (xba (wpAny_notOrdered_dict ty (xbc ?_)));show wpAny _ _ ((if(d==sysModules)=true then _ else _) >>= _) _ _ st;rw[if_neg (fun z=>xfd (ns.symm.trans z))];refine xba (xbc (xba (xii e dt (xba (wpAny_dictEpoch e dt (xba (xfo (xbc ⟨_, rfl, "dict_keyiterator", _,⟨_, xbr _ rfl, rfl⟩, xfj.lookup, ?_⟩))))))))
  exact fin
theorem zon {W:Option Value->Shared->Prop}{en:DictEntry}(hi:st.heap.IsKeyIter it d k es.size ep)(x:Raw st.heap d es ep)(hk:es[k]?=some en)
  (fin:∀g:Heap,g.IsKeyIter it d (k+1) es.size ep->Heap.SameBut it st.heap g->W (some en.key) {st with heap:=g}):wpAny (model P w) B (pyNext (.ref it)) W E st:=by
 obtain⟨oi,ei,ci,di⟩:=id hi;obtain⟨ob,e,c,dt⟩:=id x;have lt:k < es.size:=(xit.mp hk).1;unfold pyNext;refine xba (xlb (wpAny_callSpecial?_slot (name:=Str.ofString "__next__") hi.typeIs xfj (xew xfj hi.typeIs F.entry_dict_keyiterator_next ?body (F.args_dict_keyiterator_next_1 _))))
 case body =>
  refine xba (xbc (xba (xba (xba (xgk hi.typeIs (xbc (xba (wpAny_fieldsOf ei di ?_))))))));simp only[show Builtin.Dict_items.ownsTuple "dict_keyiterator"=false from by decide, xbu, ite_false]
  show wpAny _ _ (if(Value.ref d==Value.none)=true then _ else _) _ _ st;have nn:¬ (Value.ref d==Value.none)=true:=xfd;rw[if_neg nn];refine xba (xbc (xba (xii e dt ?_)));rw[if_neg (by simp)];refine xba (xbc (xba (wpAny_dictEpoch e dt ?_)));rw[if_neg (by simp)];refine xbc ?_;simp only[show ¬ ((k:Int) < 0) from by lia,ite_false,xig,hk];refine xba (xba (xgk hi.typeIs (xbc (xba (wpAny_isOneOf_keyiter hi.typeIs ?_)))));show wpAny _ _ (setField (.ref it) 1 (rawInt ((k:Int)+1)) >>= _) _ _ st;refine xba (xkq ei di (by simp) ?_);have hi':(st.heap.update it (Obj.mapFields (·.setIfInBounds 1 (rawInt ((k:Int)+1))))).IsKeyIter it d (k+1) es.size ep :=
   ⟨_,xha _ ei (Obj.isFreed_of_fields (xjc di _)),(Obj.cls_mapFields ..).trans ci,by rw[xjc di];simp[rawInt]⟩
  refine xba (xdx (xba (wpAny_isOneOf_keyiter (s:={st with heap:=st.heap.update it (Obj.mapFields (·.setIfInBounds 1 (rawInt ((k:Int)+1))))}) hi'.typeIs ?_)));show wpAny _ _ (pure en.key) _ _ _;exact xbc (xbc ⟨_,rfl,xbc (fin _ hi' (xft ..))⟩)
theorem zuf {W:Option Value->Shared->Prop}(hh:B.handled=none)(hi:st.heap.IsKeyIter it d k es.size ep)(x:Raw st.heap d es ep)(hk:es.size<=k)
  (fin:∀g:Heap,Heap.ExtBut it st.heap g->W none {st with heap:=g}):wpAny (model P w) B (pyNext (.ref it)) W E st:=by
 obtain⟨oi,ei,ci,di⟩:=id hi;obtain⟨ob,e,c,dt⟩:=id x;unfold pyNext;refine xba (xlb (wpAny_callSpecial?_slot (name:=Str.ofString "__next__") hi.typeIs xfj (xew xfj hi.typeIs F.entry_dict_keyiterator_next ?body (F.args_dict_keyiterator_next_1 _))))
 case body =>
  refine xba (xbc (xba (xba (xba (xgk hi.typeIs (xbc (xba (wpAny_fieldsOf ei di ?_))))))));simp only[show Builtin.Dict_items.ownsTuple "dict_keyiterator"=false from by decide, xbu, ite_false]
  show wpAny _ _ (if(Value.ref d==Value.none)=true then _ else _) _ _ st;have nn:¬ (Value.ref d==Value.none)=true:=xfd;rw[if_neg nn];refine xba (xbc (xba (xii e dt ?_)));rw[if_neg (by simp)];refine xba (xbc (xba (wpAny_dictEpoch e dt ?_)));rw[if_neg (by simp)];refine xbc ?_;simp only[show ¬ ((k:Int) < 0) from by lia,ite_false,xig,Array.getElem?_eq_none hk];refine xba (xba (xgk hi.typeIs (xbc ?_)));show wpAny _ _ (setField (.ref it) 0 .none >>= _) _ _ st;refine xba (xkq ei di (by simp) ?_);show wpAny _ _ (newExc (.type "StopIteration") [] >>= _) _ _ _
  refine xba ?_;simp only[newExc,newTuple];refine xba (xfo (xba (m:=firstArgMember _ _) (wpAny_of_eq (a:=Value.none) (by first | rfl | (simp only[firstArgMember];rfl)) (xfo ?_ (by size_fits)))) (by size_fits));simp only[raiseNew];refine xba (wpAny_handled ?_);rw[show B.in1.handled=none from hh];refine xba (xbc (wpAny_throw ?_));refine xba (xjw (T:="StopIteration") (b:=true) ?_ isSubtype_stop (xbc (fin _ (((xft ..).extBut.push _).push _))))
  exact⟨_,xbr _ rfl,rfl⟩
theorem zru (hh:B.handled=none)(ne:d≠it)(es:Array DictEntry)(ep:Nat) :
  Walks P w B it [it,d] [it] es.size (fun i v=>∃en,es[i]?=some en/\v=en.key) (fun i h=>h.IsKeyIter it d i es.size ep/\Raw h d es ep) where
 sub:=fun b hb=>xbl.mpr (.inl (xck.mp hb))
 frame:=fun _ _ _ z hk=>⟨z.1.at fun o e=>hk it xbw o e,z.2.kept fun o e=>hk d (xbp _ (xck.mpr rfl)) o e⟩
 item:=fun i sh W' E' hi z hQ=>by
  have hx:es[i]?=some es[i]:=xdq hi;exact zon z.1 z.2 hx fun g a b=>hQ es[i].key g sh.toks ⟨_,hx,rfl⟩ ⟨a,z.2.kept fun o e=>b.extBut d o ne e⟩ fun c o hc e=>b.extBut c o (fun q=>hc (xck.mpr q)) e
 done:=fun sh W' E' z hQ=>zuf hh z.1 z.2 (xbf _) fun g b=>hQ g sh.toks fun c o hc e=>b c o (fun q=>hc (xck.mpr q)) e
 self:=fun _ _ _ _ z hQ=>wpAny_pyIter_keyiter z.1 hQ
theorem zzj (ns:(d==sysModules)=false)(es:Array DictEntry)(ep:Nat):KdlSrc P w "dict" d d es.size (fun i v=>∃ en, es[i]?=some en/\v=en.key) (fun h=>Raw h d es ep) where
 type:=fun _ x=>x.is
 there:=fun _ x=>⟨x.lt,x.lt⟩
 keep:=fun _ _ x hk=>x.kept fun o e=>hk d (.inl rfl) o e
 notList:=by decide
 notTuple:=by decide
 hint:=fun _ _ _ _ x hq=>kdl_hint_dict x.is hq
 iter:=fun _ sh hh x=>⟨_,_,fun _ _ hq=>zoo ns x hq,zru hh (xcd x.lt) es ep,⟨⟨_,xbr _ rfl,rfl,rfl⟩,x.kept fun o e=>xbd _ e⟩⟩
end
end Dct
namespace Srt
open PySem PySem.W PyProof.Rows
section
variable {P:Program}{w:World}{B:Around}{E:Value->Shared->Prop}{st:Shared}
end
end Srt
namespace L2
open PySem PySem.Spec PyProof.Rows
theorem ObjOk.ob {P:Program}{w:World}{H:Hp}{h:Heap}{a:Addr}{o:HO}(x:ObjOk P w H h a o):∃ob,h.get? a=some ob:=by
 cases o with
 | lst xs=>obtain⟨_,_,_,_,e⟩:=x;exact⟨_,e⟩
 | tup xs=>obtain⟨_,_,_,ob,e,_⟩:=x;exact⟨_,e⟩
 | dK kvs=>obtain⟨_,_,_,_,ob,_,_,e,_⟩:=x;exact⟨_,e⟩
 | dT kvs=>obtain⟨_,_,_,_,ob,_,_,e,_⟩:=x;exact⟨_,e⟩
 | set S n=>obtain⟨ob,_,_,_,e,_⟩:=x;exact⟨_,e⟩
 | ins C dx fs=>obtain⟨_,_,_,e,_⟩:=x;exact⟨_,e⟩
 | own y=>obtain⟨_,e⟩:=x;exact⟨_,e⟩
 | xd fs=>obtain⟨_,⟨_,_,_,e,_⟩,_⟩:=x;exact⟨_,e⟩
 | rng lo hi=>obtain⟨_,_,_,e⟩:=x;exact⟨_,e⟩
 | frz ob u=>obtain⟨e,_⟩:=x;exact⟨_,e⟩
 | tbl ps=>exact⟨_,(show h.get? a=some _ from x)⟩
 | met f y=>exact⟨_,(show h.get? a=some _ from x)⟩
 | ext φ=>obtain⟨_,⟨_,e⟩,_⟩:=x;exact⟨_,e⟩
section
variable {X:Cx}{aU:List (Addr×Obj)}{σ:St}{H:Hp}{s:Shared}
theorem Inv.away (I:Inv X aU σ H s){q:Addr}(ne:∀b ob,s.heap.get? b=some ob->b≠q):H q=none:=by
 cases e:H q with
 | none=>rfl
 | some o =>
  obtain⟨ob,z⟩:=(I.hok q o e).ob;exact absurd rfl (ne q ob z)
theorem Inv.laidN {q:Addr}{o:HO}{g:Heap}{t':Nat}(I:Inv X aU σ H s)(k:∀b u,s.heap.get? b=some u->g.get? b=some u)(ne:∀b ob,s.heap.get? b=some ob->b≠q)(new:ObjOk X.prog X.w (upd H q o) g q o) :
  Inv X aU σ (upd H q o) {s with heap:=g,toks:=t'}:=by
 have hn:=I.away ne;have off:∀{b:Addr} {u:HO},H b=some u->upd H q o b=some u:=fun {b u} e=>by rw[zn (zh e hn)];exact e
 refine I.un ⟨fun b u e _ _ _=>k b u e,fun b u e _ _ _=>⟨u.slots,k b u e⟩,fun b u e n _=>by rw[zn (ne b u e)];exact n,fun b u e _=>⟨u,k b u e⟩,fun b xs e=>off e,fun b ob u e=>off e,fun b ps e=>⟨#[],by rw[off e];simp⟩⟩ fun b u e=>?_
 by_cases hb:b=q
 ·subst hb;rw[zo] at e;cases e;exact new
 ·rw[zn hb] at e;exact(I.hok b u e).stay (fun c v _ z=>k c v z) (fun c z=>off z) fun c xs z=>off z
end
theorem zuj (ns:List Int):(ns.map (Sum.inl:Int->Key)).map kV=ns.map V.int:=by rw[xcu];rfl
theorem zjm {P:Program}{w:World}{H:Hp}{kvs:List (List Key×V)}:∀{ks:List (List Int)} {xs:List (List Key×Addr×Value)},
  Paired (fun(p:List Key×V) (q:List Key×Addr×Value)=>p.1=q.1/\H q.2.1=some (.tup (p.1.map kV))/\RelV p.2 q.2.2) kvs xs->kvs.map (·.1)=ks.map (fun ns=>ns.map Sum.inl) ->
   ∃ps:List (Addr×List Int),ps.map (·.2)=ks/\(∀p∈ps,H p.1=some (.tup (p.2.map V.int)))/\xs.map (fun q=>(entryOfKey (tupleKind (mixKind P w)) q).key)=ps.map fun p=>Value.ref p.1:=by
 induction kvs with
 | nil =>
  intro ks xs r e;cases r;cases ks with
  | nil=>exact⟨[],rfl,fun p hp=>(nomatch hp),rfl⟩
  | cons x ks=>cases e
 | cons kv kvs ih =>
  intro ks xs r e;cases r with
  | cons r rs =>
   cases ks with
   | nil=>cases e
   | cons ns ks =>
    rw[xbn,xbn] at e;injection e with e1 e2
    obtain⟨ps,a1,a2,a3⟩:=ih rs e2;rename_i b _;obtain⟨r1,r2,r3⟩:=r;refine⟨(b.2.1,ns)::ps,by rw[xbn,a1],fun p hp=>?_,by rw[xbn,xbn,a3];rfl⟩;rcases xbl.mp hp with z | z
    ·subst z;rw[e1,zuj] at r2;exact r2
    ·exact a2 p z
open PySem.W in
theorem zyh {P:Program}{w:World}{B:Around}{sg:Shared}{ps:List (Addr×List Int)}(h2:2<=ps.length)
  (tup:∀(i:Nat) (p:Addr×List Int), ps[i]?=some p->∃(us:List Value) (o:Obj) (n:Nat), IntsAre us p.2/\sg.heap.get? p.1=some o/\o.cls=.type "tuple"/\o.data=.seq us.toArray n/\p.2≠[]) :
  Srt.Answers P w B (Srt.rank (ps.map (·.2))) (ps.map fun p=>Value.ref p.1) sg:=by
 refine⟨tuples' true,fun R hq=>?_,fun i j C hi hj hC=>?_⟩
 ·have kt:∀(l:List (Addr×List Int)),(∀p∈l,∃i:Nat,ps[i]?=some p)->∃fs:List Value,KatTups sg.heap (l.map fun p=>Value.ref p.1) fs/\fs.length=l.length/\∀v∈fs,∃i t,v=Value.int i t:=fun l=>by
   induction l with
   | nil=>intro _;exact⟨[],KatTups.nil,rfl,fun v hv=>(nomatch hv)⟩
   | cons p l ih =>
    intro hp;obtain⟨fs,b1,b2,b3⟩:=ih fun p' hp'=>hp p' (xbp _ hp')
    obtain⟨i,hi⟩:=hp p xbw;obtain⟨us,o,n,a1,a2,a3,a4,a5⟩:=tup i p hi;obtain⟨pa,pn⟩:=p;dsimp only at a1 a2 a3 a4 a5;cases a1 with
    | nil=>exact absurd rfl a5
    | cons x t r=>exact⟨Value.int x t::fs,KatTups.cons a2 a3 a4 rfl b1,by rw[xby,xby,b2],fun v hv=>(xbl.mp hv).elim (fun z=>⟨x,t,z⟩) (b3 v)⟩
  obtain⟨fs,b1,b2,b3⟩:=kt ps fun p hp=>xkb.mp hp
  exact kat_kind (T:=.type "int") b1 (by lia) (fun v hv=>by
   obtain⟨i,t,rfl⟩:=b3 v hv
   exact Looks.of_pure rfl) rfl hq
 ·rw[xbe] at hi hj;have ei:ps[i]?=some ps[i]:=xbg hi;have ej:ps[j]?=some ps[j]:=xbg hj;obtain⟨us,o,n,a1,a2,a3,a4,a5⟩:=tup i _ ei;obtain⟨us2,o2,n2,c1,c2,c3,c4,c5⟩:=tup j _ ej;unfold kas_ask;rw[zi (fun p:Addr×List Int=>Value.ref p.1) _ ei,zi (fun p:Addr×List Int=>Value.ref p.1) _ ej];refine kat_lt a2 a4 c2 c4 (Srt.zpp 0 a1 c1 ?_);rw[Srt.zop (by rw[xbe];exact hi) (by rw[xbe];exact hj),zi (fun p:Addr×List Int=>p.2) _ ei,zi (fun p:Addr×List Int=>p.2) _ ej] at hC;exact hC
theorem zov {ps:List (Addr×List Int)}{p:Array Nat}(p1:p.Perm (List.toArray (List.range ps.length)))(p2:Srt.Up (Srt.rank (ps.map (·.2))) p ps.length) :
  ∃qs:List (Addr×List Int),qs.Perm ps/\(qs.map (·.2)).Pairwise (fun x y=>HT.lexLt y x=false)/\Srt.outOf (ps.map fun p=>Value.ref p.1) p=(qs.map fun p=>Value.ref p.1).toArray:=by
 have hps:p.size=ps.length:=by rw[p1.size_eq];simp
 have sm:∀i∈p.toList,i < ps.length:=fun i hi=>by
  have h3:=(p1.mem_iff (a:=i)).mp (by rw[← Array.mem_toList_iff];exact hi);exact xcf.mp (List.mem_toArray.mp h3)
 refine⟨p.toList.map fun i=>ps.getD i (0,[]),?_,?_,?_⟩
 ·have e1:p.toList.Perm (List.range ps.length):=by
   have:=xfx.mp p1
   simpa using this
  have e2:=e1.map fun i=>ps.getD i (0,[])
  have e3:((List.range ps.length).map fun i=>ps.getD i (0,[]))=ps:=by
   apply List.ext_getElem
   ·simp
   ·intro i h1 h2;simp[xcc,h2]
  rw[e3] at e2;exact e2
 ·rw[xcu,xfa];intro i j hi hj hij;rw[List.getElem_map,List.getElem_map];rw[xbe] at hi hj;have hi':i < p.size:=by simpa using hi
  have hj':j < p.size:=by simpa using hj
  have hu:=p2 i j (xbv hij) (by lia);have g:∀k,(hk:k < p.toList.length)->p.getD k 0=p.toList[k]:=fun k hk=>by
   have hk':k < p.size:=by simpa using hk
   rw[xcl,xdq hk'];simp
  have si:=sm _ (xdw hi);have sj:=sm _ (xdw hj);have lk:=Srt.zop (ks:=ps.map (·.2)) (i:=p.toList[j]) (j:=p.toList[i]) (by rw[xbe];exact sj) (by rw[xbe];exact si);have hno:Srt.lt (Srt.rank (ps.map (·.2))) p.toList[j] p.toList[i]=false:=by
   refine xcg fun z=>?_
   unfold Srt.At at hu;rw[g i hi,g j hj] at hu;lia
  rw[hno] at lk;have v:∀k,k < ps.length->(ps.map (·.2)).getD k []=(ps.getD k (0,[])).2:=fun k hk=>by
   have ek:ps[k]?=some ps[k]:=xbg hk;rw[zi (fun p:Addr×List Int=>p.2) _ ek,xcc,ek]
   rfl
  rw[v _ sj,v _ si] at lk;exact lk.symm
 ·unfold Srt.outOf;rw[xcu]
  congr 1
  refine xiu fun i hi=>?_
  have hi2:=sm i hi;have ei:ps[i]?=some ps[i]:=xbg hi2;rw[zi (fun p:Addr×List Int=>Value.ref p.1) _ ei];show _=Value.ref (ps.getD i (0,[])).1;rw[xcc,ei]
  rfl
section
variable {X:Cx}
end
section
variable {X:Cx}{aU:List (Addr×Obj)}{σ:St}{H:Hp}{s:Shared}
theorem Inv.freeze {a:Addr}{kvs:List (List Key×V)}{ob:Obj}(I:Inv X aU σ H s)(h:H a=some (.dT kvs))(e:s.heap.get? a=some ob):Inv X aU σ (upd H a (.frz ob (.dT kvs))) s:=by
 have off:∀{b:Addr} {u:HO},H b=some u->(∀l,u≠.dT l)->upd H a (.frz ob (.dT kvs)) b=some u:=fun {b u} q n=>by
  rw[zn (by rintro rfl;rw[h] at q;cases q;exact n _ rfl)];exact q
 have z:=I.un (h':=s.heap) (t':=s.toks) (H':=upd H a (.frz ob (.dT kvs))) ⟨fun b u q _ _ _=>q,fun b u q _ _ _=>⟨u.slots,q⟩,fun b u q n _=>by
   rw[zn (by rintro rfl;rw[h] at n;cases n)];exact n,fun b u q _=>⟨u,q⟩,fun b xs q=>off q (fun l z=>by cases z),fun b o u q=>off q (fun l z=>by cases z),fun b ps q=>⟨#[],by rw[off q (fun l z=>by cases z)];simp⟩⟩ (fun b u q=>by
   by_cases hb:b=a
   ·subst hb;rw[zo] at q;cases q;exact⟨e,(I.hok b _ h).stay (fun c v _ r=>r) (fun c r=>off r (fun l z=>by cases z)) fun c xs r=>off r (fun l z=>by cases z)⟩
   ·rw[zn hb] at q
    exact(I.hok b u q).stay (fun c v _ r=>r) (fun c r=>off r (fun l z=>by cases z)) fun c xs r=>off r (fun l z=>by cases z))
 exact z
end
noncomputable def Itd (a:Addr) (ob:Obj) (kvs:List (List Key×V)) (ps:List (Addr×List Int)):It :=
 ⟨fun i H=>i < ps.length/\H a=some (.frz ob (.dT kvs)),fun i H x H'=>H'=H/\∃p,ps[i]?=some p/\x=.ref p.1,fun i H=>ps.length<=i/\H a=some (.frz ob (.dT kvs))⟩
theorem zrn {P:Program}{w:World}{K:Fg}{tg:Expr}{a it:Addr}{ob:Obj}{kvs:List (List Key×V)}{ps:List (Addr×List Int)}{es:Array DictEntry}{ep:Nat}(ex:ob.ExactDict)(dt:ob.data=.dict es ep)
  (hk:es.toList.map (·.key)=ps.map fun p=>Value.ref p.1):Turn P w K tg (Itd a ob kvs ps) [it] it (fun i h=>h.IsKeyIter it a i es.size ep) where
 mem:=xck.mpr rfl
 obj:=fun i h st b hb=>by
  have e:b=it:=xck.mp hb;subst e;obtain⟨o,e,c,d⟩:=st;exact⟨o,e,fun v z=>by rw[d] at z;cases z⟩
 keep:=fun i h h' st k=>st.at fun o e=>k it (xck.mpr rfl) o e
 item:=by
  intro Y hP hw hK hc i aU s σ H E I hf st hg;subst hP hw hK;obtain⟨hi,hz⟩:=hg;have hsz:es.size=ps.length:=by
   have:=congrArg List.length hk
   rwa [xbe,xbe,xca] at this
  obtain⟨eo,_⟩:=(show ObjOk Y.prog Y.w H s.heap a (.frz ob (.dT kvs)) from I.hok a _ hz)
  obtain⟨f0,f1,f2,f3,f4,f5⟩:=hf it (xck.mpr rfl);have hen:es[i]?=some es[i]:=xdq (by lia);have hpi:ps[i]?=some ps[i]:=xbg hi;have hkey:es[i].key=Value.ref ps[i].1:=by
   have q:=congrArg (fun l=>l[i]?) hk;simp only[xct,xbs,hen,hpi] at q;exact xco q
  refine Dct.zon st ⟨ob,eo,ex,dt⟩ hen fun g st' sb=>?_
  have I1:Inv Y aU σ H {s with heap:=g}:=I.turned (t':=s.toks) (fun b o hb e=>sb.extBut b o hb e) f0 f1 f3 f4 f5;obtain⟨o,e,c,d⟩:=id st';exact⟨_,rfl,zbdp (s:={s with heap:=g}) e c d (by decide) ⟨.ref ps[i].1,H,I1,hkey,⟨rfl,ps[i],hpi,rfl⟩,st',fun b hb=>(hf b hb).1⟩⟩
 done:=by
  intro Y hP hw hK hc i aU s σ H E I hf st hg;subst hP hw hK;obtain⟨hi,hz⟩:=hg;have hsz:es.size=ps.length:=by
   have:=congrArg List.length hk
   rwa [xbe,xbe,xca] at this
  obtain⟨eo,_⟩:=(show ObjOk Y.prog Y.w H s.heap a (.frz ob (.dT kvs)) from I.hok a _ hz)
  obtain⟨f0,f1,f2,f3,f4,f5⟩:=hf it (xck.mpr rfl);exact Dct.zuf (I.ok.hd hc) st ⟨ob,eo,ex,dt⟩ (by lia) fun g eb=>⟨rfl,I.turned (t':=s.toks) (fun b o hb e=>eb b o hb e) f0 f1 f3 f4 f5⟩
 self:=fun _ _ _ _ _ st h=>wpAny_pyIter_keyiter st h
noncomputable def iDct (td:TE):TI:=fun σ H R=>td σ H fun x H1=>∃(a:Addr) (kvs:List (List Key×V)) (ks:List (List Int)),x=.ref a/\H1 a=some (.dT kvs)/\kvs.map (·.1)=ks.map (fun ns=>ns.map Sum.inl) /\
 ∀(ob:Obj) (ps:List (Addr×List Int)),ps.map (·.2)=ks->(∀p∈ps,H1 p.1=some (.tup (p.2.map V.int)))->R (Itd a ob kvs ps) (upd H1 a (.frz ob (.dT kvs)))
theorem zzy {X:Cx}{tg l:Expr}{td:TE}(hl:PE X l td):PI X tg l (iDct td):=by
 intro aU s σ H R I h;refine thn (hl aU s σ H _ I h) fun v s1 hq0=>?_
 obtain⟨x,H1,I1,r1,q1⟩:=hq0;obtain⟨a,kvs,ks,rfl,hd,ek,q⟩:=q1;cases r1;obtain⟨z,ns,ys,rel,ob,es,ep,e1,e2,e3,e4,e5⟩:=(show ObjOk X.prog X.w H1 s1.heap a (.dT kvs) from I1.hok a _ hd)
 obtain⟨ps,a1,a2,a3⟩:=zjm (P:=X.prog) (w:=X.w) rel ek;have hes:es.toList.map (·.key)=ps.map fun p=>Value.ref p.1:=by rw[e4,xcu];exact a3
 refine Dct.zoo ns ⟨ob,e1,e2,e3⟩ ?_;have I2:=I1.freeze hd e1;refine⟨s1.heap.objs.size,[s1.heap.objs.size],_,_,_,rfl,I2.kept (t':=s1.toks) fun b o e=>xbd _ e,zrn e2 e3 hes,⟨_,xbr _ rfl,rfl,rfl⟩,fun b hb=>?_,q ob ps a1 a2⟩;have e:b=s1.heap.objs.size:=xck.mp hb;subst e;exact I2.fpOk (xbf _) (I2.hok.fresh (xbf _))
section
variable {g:TG}{tc:TT}{te:TE}{Q:VK}{σ:St}{H:Hp}{p:Addr}
end
end L2
namespace L2
open PySem PySem.Spec PyProof.Rows PySem.W
noncomputable def TupsG (g:Heap) (ps:List (Addr×List Int)):Prop:=∀ p∈ps, ∃(us:List Value) (o:Obj) (n:Nat), IntsAre us p.2/\g.get? p.1=some o/\o.cls=.type "tuple"/\o.data=.seq us.toArray n
section
variable {P:Program}{w:World}{B:Around}{E:Value->Shared->Prop}{sg:Shared}
theorem zmd:∀{ps:List (Addr×List Int)},TupsG sg.heap ps->∃fs:List (Option Value),fs.map Option.isSome=ps.map (fun p=>!p.2.isEmpty)/\∀(W:List (Option Value)->Shared->Prop),W fs sg->wpAny (model P w) B ((ps.map fun p=>Value.ref p.1).mapM firstOfTuple') W E sg
 | [],_=>⟨[],rfl,fun W h=>by rw[xlm,List.mapM_nil];exact xbc h⟩
 | p::ps,h=>by
  obtain⟨fs,f1,f2⟩:=zmd (ps:=ps) fun q hq=>h q (xbp _ hq)
  obtain⟨us,o,n,a1,a2,a3,a4⟩:=h p xbw;refine⟨us.toArray[0]?::fs,?_,fun W hW=>?_⟩
  ·rw[xbn,xbn,f1]
   congr 1
   obtain⟨pa,pn⟩:=p;dsimp only at a1 ⊢;cases a1 with
   | nil=>rfl
   | cons x t r=>rfl
  ·rw[xbn,List.mapM_cons];have ty:Looks (model P w) sg.heap (typeOf (.ref p.1)) o.cls:=(Looks.ld a2).andThen .now;refine xba ?_;rw[kas_first_eq];refine xba (Looks.here ty ?_);rw[a3,if_neg (by first | decide | simp)];exact xba (listItems_at a2 a4 (xbc (xba (f2 _ (xbc hW)))))
theorem zpe (x y:Value):keyLt' general' x y=oneLt' false x y:=rfl
theorem zye {κ:SortKind}(hκ:κ=general'\/κ=oneType')(hu:B.units < cLine){a b:Addr×List Int}(ha:TupsG sg.heap [a])(hb:TupsG sg.heap [b]){C:Bool->Shared->Prop}(hC:C (HT.lexLt a.2 b.2) sg) :
  wpAny (model P w) B (keyLt' κ (.ref a.1) (.ref b.1)) C E sg:=by
 obtain⟨us,o,n,a1,a2,a3,a4⟩:=ha a xbw;obtain⟨us2,o2,n2,b1,b2,b3,b4⟩:=hb b xbw;rcases hκ with rfl | rfl
 ·rw[zpe];exact kat_one _ _ (HT.zja (items:=us.toArray) (items2:=us2.toArray) ⟨o,a2,a3,n,a4⟩ ⟨o2,b2,b3,n2,b4⟩ a1 b1 hu hC)
 ·rw[keyLt'_oneType,oneLt'_eq];simp only[ite_true];refine xba (wpAny_cRoomFor hu (xba (wpAny_callSpecialIfBound?_slot (T:="tuple") ⟨o, a2, a3⟩ xjz ?_)))
  obtain⟨cls,dd,data,sl⟩:=o;obtain⟨cls2,dd2,data2,sl2⟩:=o2;dsimp only at a3 a4 b3 b4;subst a3 a4 b3 b4;exact xll xjz ⟨_,a2,rfl⟩ F.entry_tuple_lt (F.args_tuple_lt_2 _ _) (HT.zet a.1 b.1 us.toArray us2.toArray n n2 dd dd2 sl sl2 a.2 b.2 a1 b1) ⟨a2,b2,xgi hC⟩
theorem zyi {ps:List (Addr×List Int)}(hu:B.units < cLine)(tup:TupsG sg.heap ps)(emp:∃p∈ps,p.2=[]):Srt.Answers P w B (Srt.rank (ps.map (·.2))) (ps.map fun p=>Value.ref p.1) sg:=by
 obtain⟨fs,f1,f2⟩:=zmd (P:=P) (w:=w) (B:=B) (E:=fun _ _=>False) tup;have notAll:¬ (fs.toArray.all fun x=>x.isSome)=true:=fun z=>by
  have z':fs.all (fun x=>x.isSome)=true:=by simpa using z
  obtain⟨p,hp,he⟩:=emp;have m:(!p.2.isEmpty)∈fs.map Option.isSome:=by rw[f1];exact xkm (f:=fun p:Addr×List Int=>!p.2.isEmpty) hp
  obtain⟨o,ho,e⟩:=xcp.mp m;have:=xed.mp z' o ho;rw[e,he] at this;cases this
 have cmp:∀{κ:SortKind},κ=general'\/κ=oneType'->∀i j C,i < (ps.map fun p=>Value.ref p.1).length->j < (ps.map fun p=>Value.ref p.1).length->C (Srt.lt (Srt.rank (ps.map (·.2))) i j) sg->kas_ask P w B κ (ps.map fun p=>Value.ref p.1) i j C sg:=fun {κ} hκ i j C hi hj hC=>by
  rw[xbe] at hi hj;have ei:ps[i]?=some ps[i]:=xbg hi;have ej:ps[j]?=some ps[j]:=xbg hj;unfold kas_ask;rw[zi (fun p:Addr×List Int=>Value.ref p.1) _ ei,zi (fun p:Addr×List Int=>Value.ref p.1) _ ej];rw[Srt.zop (by rw[xbe];exact hi) (by rw[xbe];exact hj),zi (fun p:Addr×List Int=>p.2) _ ei,zi (fun p:Addr×List Int=>p.2) _ ej] at hC;have one:∀k,(hk:k < ps.length)->TupsG sg.heap [ps[k]]:=fun k hk q hq=>by
   rw[xck.mp hq];exact tup _ (xdw hk)
  exact zye hκ hu (one i hi) (one j hj) hC
 by_cases fst:(fs.toArray[0]?.bind id).isSome=true
 ·refine⟨general',fun R hR=>?_,cmp (.inl rfl)⟩;rw[kat_kind_eq,xlf,xlt];refine xba (xba (f2 _ (xbc ?_)));rw[if_neg notAll,if_pos fst];exact xbc hR
 ·refine⟨oneType',fun R hR=>?_,cmp (.inr rfl)⟩;rw[kat_kind_eq,xlf,xlt];refine xba (xba (f2 _ (xbc ?_)));rw[if_neg notAll,if_neg fst,oneTypeOnly'_eq,xlf,xlt];have ty:∀ v∈(ps.map fun p=>Value.ref p.1), ∀ W:Value->Shared->Prop, W (.type "tuple") sg->wpAny (model P w) B (typeOf v) W (fun _ _=>False) sg:=fun v hv W hW=>by
   obtain⟨p,hp,rfl⟩:=xcp.mp hv;obtain⟨us,o,n,a1,a2,a3,a4⟩:=tup p hp;have lk:Looks (model P w) sg.heap (typeOf (.ref p.1)) o.cls:=(Looks.ld a2).andThen .now;rw[a3] at lk;exact lk.here hW
  refine xba (xba (xba (kas_mapM (r:=Value.type "tuple") _ ty (xbc ?_))))
  obtain⟨p,hp,_⟩:=emp;obtain⟨p0,rest,rfl⟩:∃p0 rest,ps=p0::rest:=by
   cases ps with
   | nil=>exact nomatch hp
   | cons p0 rest=>exact⟨p0,rest,rfl⟩
  have all:((List.map (fun _=>Value.type "tuple") ((p0::rest).map fun p=>Value.ref p.1)).toArray.all fun x=>x==Value.type "tuple")=true:=by
   rw[List.all_toArray,xed];intro x hx;obtain⟨_,_,rfl⟩:=xcp.mp hx
   rfl
  have zero:(List.map (fun _=>Value.type "tuple") ((p0::rest).map fun p=>Value.ref p.1)).toArray[0]?=some (Value.type "tuple"):=by simp
  rw[zero];simp only[all,ite_true];exact xbc (xbc hR)
theorem zvf {ps:List (Addr×List Int)}(hu:B.units < cLine)(h2:2<=ps.length)(tup:TupsG sg.heap ps):Srt.Answers P w B (Srt.rank (ps.map (·.2))) (ps.map fun p=>Value.ref p.1) sg:=by
 by_cases c:∃p∈ps,p.2=[]
 ·exact zyi hu tup c
 ·refine zyh h2 fun i p hi=>?_
  have hp:=xbx hi;obtain⟨us,o,n,a1,a2,a3,a4⟩:=tup p hp;exact⟨us,o,n,a1,a2,a3,a4,fun z=>c ⟨p,hp,z⟩⟩
end
theorem zfo (z:List (Addr×List Int)):Vals (z.map fun p=>V.ref p.1) (z.map fun p=>Value.ref p.1):=by
 induction z with
 | nil=>exact .nil
 | cons x z ih=>exact .cons rfl ih
section
variable {X:Cx}
end
end L2
namespace TS
open PySem PyProof.Rows
noncomputable def kA (R:Keyed->Nat) (xs:Array Keyed) (i:Nat):Nat:=match xs[i]? with
 | some p=>R p
 | none=>0
theorem zck {R:Keyed->Nat}{xs ys:Array Keyed}{i j:Nat}(h:xs[i]?=ys[j]?):kA R xs i=kA R ys j:=by unfold kA;rw[h]
theorem zcr {R:Keyed->Nat}{xs:Array Keyed}{i:Nat}{x:Keyed}(h:xs[i]?=some x):kA R xs i=R x:=by unfold kA;rw[h]
noncomputable def UpA (R:Keyed->Nat) (xs:Array Keyed) (a b:Nat):Prop:=∀i j,a<=i->i<=j->j < b->kA R xs i<=kA R xs j
noncomputable def DnA (R:Keyed->Nat) (xs:Array Keyed) (a b:Nat):Prop:=∀i j,a<=i->i<=j->j < b->kA R xs j<=kA R xs i
section
variable {prog:Program}{w:World}{A:Around}{E:Value->Shared->Prop}{s:Shared}{κ:SortKind}{a₀:Array Keyed}{R:Keyed->Nat}
noncomputable def Orc (prog:Program) (w:World) (A:Around) (s:Shared) (κ:SortKind) (a₀:Array Keyed) (R:Keyed->Nat):Prop :=
 ∀x,x∈a₀.toList->∀y,y∈a₀.toList->∀(C:Bool->Shared->Prop),C (decide (R x < R y)) s->wpAny (model prog w) A (keyLt' κ x.1 y.1) C (fun _ _=>False) s
structure B (κ:SortKind) (a₀:Array Keyed) (st:SortSt):Prop where
 perm:(arrOf st).Perm a₀
 kind:kindOf st=κ
 failed:failedOf st=none
theorem B.size {st:SortSt}(h:B κ a₀ st):(arrOf st).size=a₀.size:=h.perm.size_eq
theorem B.set {st:SortSt}(h:B κ a₀ st){xs:Array Keyed}(hp:xs.Perm (arrOf st)):B κ a₀ (setArr st xs):=⟨hp.trans h.perm,h.kind,h.failed⟩
theorem B.mem {st:SortSt}(h:B κ a₀ st){i:Nat}(hi:i < a₀.size):∃x,(arrOf st)[i]?=some x/\x∈a₀.toList:=by
 have hi':i < (arrOf st).size:=by rw[h.size];exact hi
 exact⟨_,getElem?_pos _ i hi',(xfx.mp h.perm).mem_iff.mp (by simp)⟩
theorem w_lt {x y:Keyed}{st:SortSt}{Q:Option Bool->SortSt->Prop}(O:Orc prog w A s κ a₀ R)(hk:kindOf st=κ)(hx:x∈a₀.toList)(hy:y∈a₀.toList)(h:Q (some (decide (R x < R y))) st):wpS (model prog w) A E s (lt' x y) Q st:=by
 rw[lt'_eq];refine xbi (xhx ?_);rw[hk];refine xbi (xjx (xlb (xev (O x hx y hy (fun b s'=>s'=s/\b=decide (R x < R y)) ⟨rfl,rfl⟩) (fun b s' hb=>?_) fun _ _ f=>f.elim)));obtain⟨rfl,rfl⟩:=hb;exact⟨rfl,xbj h⟩
theorem zil {arr:Array Keyed}{i:Nat}{x:Keyed}{st:SortSt}{Q:Keyed->SortSt->Prop}(e:arr[i]?=some x)(h:Q x st):wpS (model prog w) A E s (elem' arr i) Q st:=by
 rw[elem'_eq,e];exact xbj h
theorem zjs {i j:Nat}{st:SortSt}{Q:Option Bool->SortSt->Prop}(O:Orc prog w A s κ a₀ R)(b:B κ a₀ st)(hi:i < a₀.size)(hj:j < a₀.size)(h:Q (some (decide (kA R (arrOf st) i < kA R (arrOf st) j))) st):wpS (model prog w) A E s (ltAt' i j) Q st:=by
 obtain⟨x,e1,m1⟩:=b.mem hi;obtain⟨y,e2,m2⟩:=b.mem hj;rw[zcr e1,zcr e2] at h;rw[ltAt'_eq];exact xbi (xhx (xbi (zil e1 (xbi (zil e2 (w_lt O b.kind m1 m2 h))))))
theorem zrg {i j:Nat}{st:SortSt}{Q:Unit->SortSt->Prop}(h:Q () (setArr st (mirror (arrOf st) i j ((j - i) / 2)))):wpS (model prog w) A E s (reverseSlice' i j) Q st:=by
 rw[reverseSlice'_eq];exact xgt h
theorem zbdr {i j:Nat}{st:SortSt}{Q:Unit->SortSt->Prop}(h:Q () (setArr st (bubble (arrOf st) i (i - j)))):wpS (model prog w) A E s (moveDown' i j) Q st:=by
 rw[moveDown'_eq];exact xgt h
theorem zyp {lo x n N:Nat}(h:x < n)(hn:lo+n<=N):lo+x < N:=xbh (xeg h lo) hn
theorem zyo {lo x n N:Nat}(h:x < n)(hn:lo+n<=N):lo+x - 1 < N:=xcx (xgq _ _) (zyp h hn)
theorem zps {lo n:Nat}(h:1<=n):lo+n - 1 < lo+n:=xhz (xbh h (xlw _ _)) Nat.one_pos
theorem zbdn {j lo n:Nat}(h:j < lo+(n+1))(e:¬j=lo+n):j < lo+n:=xcy (xce h) e
theorem zbax {i j k:Nat}(c2:k < j):i<=i+j - 1 - k:=Nat.le_sub_of_add_le (xde (xeg c2 i))
theorem zbay {i j k:Nat}(c1:i<=k)(c2:k < j):i+j - 1 - k < j:=xcx (xhs c1 _) (by rw[Nat.sub_right_comm,xcv];exact xhz (xjn c2) Nat.one_pos)
theorem zhw {xs:Array Keyed}{i j:Nat}(hj:j<=xs.size)(k:Nat):kA R (mirror xs i j ((j - i) / 2)) k=if i<=k/\k < j then kA R xs (i+j - 1 - k) else kA R xs k:=by
 have e:=getElem?_mirror_all (i:=i) hj k;split
 ·rename_i c;rw[if_pos c] at e;exact zck e
 ·rename_i c;rw[if_neg c] at e;exact zck e
noncomputable def Out (xs ys:Array Keyed) (a b:Nat):Prop:=∀k,k < a\/b<=k->xs[k]?=ys[k]?
theorem Out.refl (xs:Array Keyed)(a b:Nat):Out xs xs a b:=fun _ _=>rfl
theorem Out.trans {xs ys zs:Array Keyed}{a b:Nat}(h1:Out xs ys a b)(h2:Out ys zs a b):Out xs zs a b:=fun k hk=>(h1 k hk).trans (h2 k hk)
theorem Out.mirror {xs:Array Keyed}{i j a b:Nat}(hj:j<=xs.size)(hi:a<=i)(hb:j<=b):Out (mirror xs i j ((j - i) / 2)) xs a b:=fun k hk=>by
 rw[getElem?_mirror_all (i:=i) hj k,if_neg fun z=>hk.elim (fun h=>xem (xbb hi z.1) h) fun h=>xem (xbb hb h) z.2]
theorem Out.bubble {xs:Array Keyed}{src d a b:Nat}(hs:src < xs.size)(hd:d<=src)(ha:a<=src - d)(hb:src < b):Out (bubble xs src d) xs a b:=fun k hk=>by
 rw[getElem?_bubble hs d hd k,if_neg fun z=>hk.elim (fun h=>xem (xbb ha (xdi z.symm)) h) fun h=>xem h (xcx (xbb (xdi z) (xgq _ _)) hb),if_neg fun z=>hk.elim (fun h=>xem (xbb ha (xbv z.1)) h) fun h=>xem h (xcx z.2 hb)]
structure Sm (st st':SortSt) (a b:Nat):Prop where
 out:Out (arrOf st') (arrOf st) a b
 pend:pendingOf st'=pendingOf st
theorem zza {lo a nrem:Nat}{st:SortSt}{Q:Option (Option Nat)×Nat->SortSt->Prop}(O:Orc prog w A s κ a₀ R)(b:B κ a₀ st)(hn:lo+nrem<=a₀.size)(ha:1<=a)(han:a<=nrem)(hs:UpA R (arrOf st) lo (lo+a))
  (h:∀n,a<=n->n<=nrem->UpA R (arrOf st) lo (lo+n)->(n=nrem\/kA R (arrOf st) (lo+n) < kA R (arrOf st) (lo+n - 1))->Q (none,n) st) :
  wpS (model prog w) A E s (forIn [a:nrem] ((none,a):Option (Option Nat)×Nat) fun _ r=>do
   let x ← ltAt' (lo+r.2) (lo+r.2 - 1)
   match x with
   | some smaller=>if smaller=true then pure (ForInStep.done (none,r.2)) else pure (ForInStep.yield (none,r.2+1))
   | _=>pure (ForInStep.done (some none,r.2))) Q st:=by
 refine xdp (I:=fun x c st'=>st'=st/\c=(none,x)/\UpA R (arrOf st) lo (lo+x)) ?_ ?_ ⟨rfl,rfl,hs⟩
 ·rintro x c st' h1 h2 ⟨rfl,rfl,h3⟩;dsimp only;refine xbi (zjs O b (zyp h2 hn) (zyo h2 hn) ?_);by_cases c:kA R (arrOf st') (lo+x) < kA R (arrOf st') (lo+x - 1)
  ·simp only[c,xgu,xeb];exact xbj (h x h1 (xbv h2) h3 (.inr c))
  ·simp only[c,xgy,xbu,xdc];refine xbj ⟨rfl,rfl,fun i j hi hij hj=>?_⟩;by_cases e:j=lo+x
   ·subst e;by_cases e2:i=lo+x
    ·rw[e2];exact xbf _
    ·exact xbb (h3 i (lo+x - 1) hi (xde (xcy hij e2)) (zps (xbb ha h1))) (xcb c)
   ·exact h3 i j hi hij (zbdn hj e)
 ·rintro c st' ⟨rfl,rfl,h3⟩;rw[xln han] at h3 ⊢;exact h nrem han (xbf _) h3 (.inl rfl)
theorem zfz {xs:Array Keyed}{i j:Nat}(hj:j<=xs.size)(he:∀k,i<=k->k < j->kA R xs k=kA R xs (j - 1))(k:Nat):kA R (mirror xs i j ((j - i) / 2)) k=kA R xs k:=by
 rw[zhw hj];split
 ·rename_i c;rw[he _ (zbax c.2) (zbay c.1 c.2),he k c.1 c.2]
 ·rfl
structure Fl (κ:SortKind) (a₀:Array Keyed) (R:Keyed->Nat) (st₀ st:SortSt) (lo n neq b:Nat):Prop where
 base:B κ a₀ st
 same:Sm st₀ st lo b
 dn:DnA R (arrOf st) lo (lo+n)
 hq:neq+1<=n
 eqs:∀i,lo+n - (neq+1)<=i->i < lo+n->kA R (arrOf st) i=kA R (arrOf st) (lo+n - 1)
theorem Fl.turn {st₀ st:SortSt}{lo n neq b:Nat}(h:Fl κ a₀ R st₀ st lo n neq b)(hb:lo+n<=b)(hs:b<=a₀.size) :
  Fl κ a₀ R st₀ (setArr st (mirror (arrOf st) (lo+n - (neq+1)) (lo+n) ((lo+n - (lo+n - (neq+1))) / 2))) lo n neq b/\∀k,kA R (mirror (arrOf st) (lo+n - (neq+1)) (lo+n) ((lo+n - (lo+n - (neq+1))) / 2)) k=kA R (arrOf st) k:=by
 have hz:=h.base.size;have hq:=h.hq;have hle:lo+n<=(arrOf st).size:=by rw[hz];exact xbb hb hs
 have e:=zfz (R:=R) (xs:=arrOf st) (i:=lo+n - (neq+1)) (j:=lo+n) hle h.eqs;refine⟨⟨h.base.set (mirror_perm _ _ _ _),⟨(Out.mirror hle (Nat.le_sub_of_add_le (xch hq lo)) hb).trans h.same.out,h.same.pend⟩,fun i j a1 a2 a3=>?_,h.hq,fun i a1 a2=>?_⟩,e⟩
 ·show kA R (mirror _ _ _ _) j<=kA R (mirror _ _ _ _) i;rw[e,e];exact h.dn i j a1 a2 a3
 ·show kA R (mirror _ _ _ _) i=kA R (mirror _ _ _ _) _;rw[e,e];exact h.eqs i a1 a2
theorem Fl.less {st₀ st:SortSt}{lo n neq b:Nat}(h:Fl κ a₀ R st₀ st lo n neq b)(c:kA R (arrOf st) (lo+n)<=kA R (arrOf st) (lo+n - 1)):DnA R (arrOf st) lo (lo+(n+1)):=fun i j a1 a2 a3=>by
 have hq:=h.hq;by_cases e:j=lo+n
 ·subst e;by_cases e2:i=lo+n
  ·rw[e2];exact xbf _
  ·exact xbb c (h.dn i (lo+n - 1) a1 (xde (xcy a2 e2)) (zps (xbb (xlw 1 neq) hq)))
 ·exact h.dn i j a1 a2 (zbdn a3 e)
theorem Fl.fresh {st₀ st:SortSt}{lo n neq b:Nat}(h:Fl κ a₀ R st₀ st lo n neq b)(c:kA R (arrOf st) (lo+n)<=kA R (arrOf st) (lo+n - 1)):Fl κ a₀ R st₀ st lo (n+1) 0 b:=⟨h.base,h.same,h.less c,xfg (xec _),fun i g1 g2=>by
 have:i=lo+(n+1) - 1:=xdu (xce g2) g1
 rw[this]⟩
theorem Fl.more {st₀ st:SortSt}{lo n neq b:Nat}(h:Fl κ a₀ R st₀ st lo n neq b)(c:kA R (arrOf st) (lo+n)=kA R (arrOf st) (lo+n - 1)):Fl κ a₀ R st₀ st lo (n+1) (neq+1) b:=by
 have hq:=h.hq;refine⟨h.base,h.same,h.less (xdi c),xfg hq,fun i g1 g2=>?_⟩;rw[show lo+(n+1) - 1=lo+n from rfl];by_cases e:i=lo+n
 ·rw[e]
 ·rw[c];exact h.eqs i (xbb (xdi (Nat.succ_sub_succ (lo+n) (neq+1)).symm) g1) (zbdn g2 e)
theorem zyz {lo nrem:Nat}{st:SortSt}{Q:Option Nat->SortSt->Prop}(O:Orc prog w A s κ a₀ R)(b:B κ a₀ st)(hn:lo+nrem<=a₀.size)(h1:1<=nrem)
  (h:∀m st',1<=m->m<=nrem->B κ a₀ st'->Sm st st' lo (lo+nrem)->UpA R (arrOf st') lo (lo+m)->Q (some m) st'):wpS (model prog w) A E s (countRun' lo nrem) Q st:=by
 have sm0:Sm st st lo (lo+nrem):=⟨Out.refl _ _ _,rfl⟩
 have one:∀xs:Array Keyed,UpA R xs lo (lo+1):=fun xs i j a1 a2 a3=>by
  have:i=j:=xdu a2 (xbb (xce a3) a1);subst this;exact xbf _
 have oneD:∀xs:Array Keyed,DnA R xs lo (lo+1):=fun xs i j a1 a2 a3=>by
  have:i=j:=xdu a2 (xbb (xce a3) a1);subst this;exact xbf _
 rw[countRun'_eq];dsimp only;refine xbi (zza O b hn (xbf _) h1 (one _) fun n n1 n2 hu hlast=>?_);dsimp only;split
 ·exact xbj (h n st n1 n2 b sm0 hu)
 rename_i hne;have hne':n≠nrem:=fun z=>hne (by simp[z])
 have hlt:n < nrem:=xcy n2 hne';have hl:kA R (arrOf st) (lo+n) < kA R (arrOf st) (lo+n - 1):=by
  rcases hlast with z | z
  ·exact absurd z hne'
  ·exact z
 have hz:=b.size;have fin:∀(n:Nat) (st1:SortSt),B κ a₀ st1->Sm st st1 lo (lo+nrem)->1<=n->n<=nrem->DnA R (arrOf st1) lo (lo+n) ->
   B κ a₀ (setArr st1 (mirror (arrOf st1) lo (lo+n) ((lo+n - lo) / 2)))/\Sm st (setArr st1 (mirror (arrOf st1) lo (lo+n) ((lo+n - lo) / 2))) lo (lo+nrem)/\UpA R (mirror (arrOf st1) lo (lo+n) ((lo+n - lo) / 2)) lo (lo+n):=fun n st1 b1 sm1 m1 m2 dn1=>by
  have hz:=b1.size;have hm:=xch m2 lo;have hle:lo+n<=(arrOf st1).size:=by rw[hz];exact xbb hm hn
  refine⟨b1.set (mirror_perm _ _ _ _),⟨(Out.mirror hle (xbf _) hm).trans sm1.out,sm1.pend⟩,fun i j a1 a2 a3=>?_⟩;have hi:=xcx a2 a3;rw[zhw hle,zhw hle,if_pos ⟨a1,hi⟩,if_pos ⟨xbb a1 a2,a3⟩];exact dn1 _ _ (zbax a3) (xhs a2 _) (zbay a1 hi)
 have eqs:¬ kA R (arrOf st) lo < kA R (arrOf st) (lo+n - 1)->∀k,lo<=k->k < lo+n->kA R (arrOf st) k=kA R (arrOf st) (lo+n - 1):=fun c k k1 k2=>by
  have g1:=hu lo k (xbf _) k1 k2;have g2:=hu k (lo+n - 1) k1 (xde k2) (zps n1);exact xdu g2 (xbb (xcb c) g1)
 have dnx:∀xs:Array Keyed,(∀k,kA R xs k=kA R (arrOf st) k)->¬ kA R (arrOf st) lo < kA R (arrOf st) (lo+n - 1)->DnA R xs lo (lo+(n+1)):=fun xs e c i j a1 a2 a3=>by
  rw[e,e];by_cases e2:j=lo+n
  ·subst e2;by_cases e3:i=lo+n
   ·rw[e3];exact xbf _
   ·rw[eqs c i a1 (xcy a2 e3)];exact xbv hl
  ·have jn:=zbdn a3 e2;rw[eqs c i a1 (xcx a2 jn),eqs c j (xbb a1 a2) jn];exact xbf _
 split
 ·have hle:lo+n<=(arrOf st).size:=by rw[hz];exact xbb (xch n2 lo) hn
  refine xbi (zjs O b (xbh (xhw h1) hn) (zyo hlt hn) ?_);by_cases c:kA R (arrOf st) lo < kA R (arrOf st) (lo+n - 1)
  ·simp only[c,xgu,xeb];exact xbj (h n st n1 n2 b sm0 hu)
  ·simp only[c,xgy,xbu,xdc];refine xbi (zrg ?_);have b1:B κ a₀ (setArr st (mirror (arrOf st) lo (lo+n) ((lo+n - lo) / 2))):=b.set (mirror_perm _ _ _ _);have sm1:Sm st (setArr st (mirror (arrOf st) lo (lo+n) ((lo+n - lo) / 2))) lo (lo+nrem):=⟨Out.mirror hle (xbf _) (xch n2 lo),rfl⟩
   have dn1:DnA R (arrOf (setArr st (mirror (arrOf st) lo (lo+n) ((lo+n - lo) / 2)))) lo (lo+(n+1)):=dnx _ (zfz hle (eqs c)) c;generalize (setArr st (mirror (arrOf st) lo (lo+n) ((lo+n - lo) / 2)))=st1 at b1 sm1 dn1 ⊢;refine xbi (xjx (xic ⟨rfl,?_⟩));refine xbi (xfi (xdp (I:=fun x c st'=>∃neq,c=(none,x,neq)/\Fl κ a₀ R st st' lo x neq (lo+nrem)) (Q:=fun c st'=>∃m neq,c=(none,m,neq)/\n+1<=m/\m<=nrem/\Fl κ a₀ R st st' lo m neq (lo+nrem)) ?_ ?_ ?_) ?_)
   ·rintro x c st' a1 a2 ⟨neq,rfl,f⟩;dsimp only;refine xbi (zjs O f.base (zyp a2 hn) (zyo a2 hn) ?_);by_cases c:kA R (arrOf st') (lo+x) < kA R (arrOf st') (lo+x - 1)
    ·simp only[c,xgu,xeb];split
     ·obtain⟨f2,e⟩:=f.turn (xch (xbv a2) lo) hn;refine xbi (zrg (xbj ⟨0,rfl,f2.fresh ?_⟩));refine xbv (?_:kA R (mirror _ _ _ _) _ < kA R (mirror _ _ _ _) _);rw[e,e];exact c
     ·exact xbj ⟨0,rfl,f.fresh (xbv c)⟩
    ·simp only[c,xgy,xbu,xdc];refine xbi (zjs O f.base (zyo a2 hn) (zyp a2 hn) ?_);by_cases c2:kA R (arrOf st') (lo+x - 1) < kA R (arrOf st') (lo+x)
     ·simp only[c2,xgu,xeb];exact xbj ⟨x,neq,rfl,a1,xbv a2,f⟩
     ·simp only[c2,xgy,xbu,xdc];exact xbj ⟨neq+1,rfl,f.more (xdu (xcb c2) (xcb c))⟩
   ·rintro c st' ⟨neq,rfl,f⟩;rw[xln hlt] at f ⊢;exact⟨nrem,neq,rfl,hlt,xbf _,f⟩
   ·exact⟨0,rfl,b1,sm1,dn1,xfg (xec _),fun i g1 g2=>by
     have:i=lo+(n+1) - 1:=xdu (xce g2) g1
     rw[this]⟩
   ·rintro c st' ⟨m,neq,rfl,a1,a2,f⟩;dsimp only;split
    ·obtain⟨f2,e⟩:=f.turn (xch a2 lo) hn;refine xbi (zrg (xbi (zrg ?_)));obtain⟨b3,s3,u3⟩:=fin m _ f2.base f2.same (xdj a1) a2 f2.dn;exact xbi (zza O b3 hn (xdj a1) a2 u3 fun m' m1 m2 hu' _=>xbj (h m' _ (xbb (xdj a1) m1) m2 b3 s3 hu'))
    ·refine xbi (zrg ?_);obtain⟨b3,s3,u3⟩:=fin m _ f.base f.same (xdj a1) a2 f.dn;exact xbi (zza O b3 hn (xdj a1) a2 u3 fun m' m1 m2 hu' _=>xbj (h m' _ (xbb (xdj a1) m1) m2 b3 s3 hu'))
 ·rename_i hn1;have b1:=b;have sm1:=sm0
  have dn1:DnA R (arrOf st) lo (lo+(n+1)):=dnx _ (fun _=>rfl) (by
   have:n=1:=xdu (xcb hn1) n1;subst this
   simp)
  refine xbi (xjx (xic ⟨rfl,?_⟩));refine xbi (xfi (xdp (I:=fun x c st'=>∃neq,c=(none,x,neq)/\Fl κ a₀ R st st' lo x neq (lo+nrem)) (Q:=fun c st'=>∃m neq,c=(none,m,neq)/\n+1<=m/\m<=nrem/\Fl κ a₀ R st st' lo m neq (lo+nrem)) ?_ ?_ ?_) ?_)
  ·rintro x c st' a1 a2 ⟨neq,rfl,f⟩;dsimp only;refine xbi (zjs O f.base (zyp a2 hn) (zyo a2 hn) ?_);by_cases c:kA R (arrOf st') (lo+x) < kA R (arrOf st') (lo+x - 1)
   ·simp only[c,xgu,xeb];split
    ·obtain⟨f2,e⟩:=f.turn (xch (xbv a2) lo) hn;refine xbi (zrg (xbj ⟨0,rfl,f2.fresh ?_⟩));refine xbv (?_:kA R (mirror _ _ _ _) _ < kA R (mirror _ _ _ _) _);rw[e,e];exact c
    ·exact xbj ⟨0,rfl,f.fresh (xbv c)⟩
   ·simp only[c,xgy,xbu,xdc];refine xbi (zjs O f.base (zyo a2 hn) (zyp a2 hn) ?_);by_cases c2:kA R (arrOf st') (lo+x - 1) < kA R (arrOf st') (lo+x)
    ·simp only[c2,xgu,xeb];exact xbj ⟨x,neq,rfl,a1,xbv a2,f⟩
    ·simp only[c2,xgy,xbu,xdc];exact xbj ⟨neq+1,rfl,f.more (xdu (xcb c2) (xcb c))⟩
  ·rintro c st' ⟨neq,rfl,f⟩;rw[xln hlt] at f ⊢;exact⟨nrem,neq,rfl,hlt,xbf _,f⟩
  ·exact⟨0,rfl,b1,sm1,dn1,xfg (xec _),fun i g1 g2=>by
    have:i=lo+(n+1) - 1:=xdu (xce g2) g1
    rw[this]⟩
  ·rintro c st' ⟨m,neq,rfl,a1,a2,f⟩;dsimp only;split
   ·obtain⟨f2,e⟩:=f.turn (xch a2 lo) hn;refine xbi (zrg (xbi (zrg ?_)));obtain⟨b3,s3,u3⟩:=fin m _ f2.base f2.same (xdj a1) a2 f2.dn;exact xbi (zza O b3 hn (xdj a1) a2 u3 fun m' m1 m2 hu' _=>xbj (h m' _ (xbb (xdj a1) m1) m2 b3 s3 hu'))
   ·refine xbi (zrg ?_);obtain⟨b3,s3,u3⟩:=fin m _ f.base f.same (xdj a1) a2 f.dn;exact xbi (zza O b3 hn (xdj a1) a2 u3 fun m' m1 m2 hu' _=>xbj (h m' _ (xbb (xdj a1) m1) m2 b3 s3 hu'))
end
section
variable {prog:Program}{w:World}{A:Around}{E:Value->Shared->Prop}{s:Shared}{κ:SortKind}{a₀:Array Keyed}{R:Keyed->Nat}
theorem zma {xs:Array Keyed}{src d:Nat}(hs:src < xs.size)(hd:d<=src)(k:Nat):kA R (bubble xs src d) k=if k=src - d then kA R xs src else if src - d < k/\k<=src then kA R xs (k - 1) else kA R xs k:=by
 have e:=getElem?_bubble hs d hd k;split
 ·rename_i c;rw[if_pos c] at e;exact zck e
 ·rename_i c;rw[if_neg c] at e;split
  ·rename_i c2;rw[if_pos c2] at e;exact zck e
  ·rename_i c2;rw[if_neg c2] at e;exact zck e
theorem zhp {a b n:Nat}(h1:a<=b)(h:b - a<=n - max 0 n):b=a:=by
 rw[Nat.zero_max,xke] at h;exact xdu (Nat.le_of_sub_eq_zero (Nat.le_zero.mp h)) h1
theorem zbgd {l r:Nat}(h:¬l ≥ r):l<=(l+r) / 2:=(Nat.le_div_iff_mul_le xlz).mpr (by rw[Nat.mul_two];exact xch (xbv (xfz h)) l)
theorem zbdo {l r:Nat}(h:¬l ≥ r):(l+r) / 2 < r:=(Nat.div_lt_iff_lt_mul xlz).mpr (by rw[Nat.mul_two];exact Nat.add_lt_add_right (xfz h) r)
theorem hf_l {l r k x:Nat}(h:¬l ≥ r)(g:r - l<=k - x):(l+r) / 2 - l<=k - (x+1):=xbb (xde (xeh (zbgd h) (zbdo h))) (xfk g 1)
theorem hf_r {l r k x:Nat}(h:¬l ≥ r)(g:r - l<=k - x):r - ((l+r) / 2+1)<=k - (x+1):=xbb (xhs (xfg (zbgd h)) r) (xfk g 1)
theorem zvx {p j q:Nat}(h:p < j)(h2:j<=q):j - 1 < q:=xbh (xhz (xjn h) Nat.one_pos) h2
theorem zbji {lo n ok:Nat}{st:SortSt}{Q:Bool->SortSt->Prop}(O:Orc prog w A s κ a₀ R)(b:B κ a₀ st)(hn:lo+n<=a₀.size)(h1:1<=ok)(h2:ok<=n)(up:UpA R (arrOf st) lo (lo+ok))
  (h:∀st',B κ a₀ st'->Sm st st' lo (lo+n)->UpA R (arrOf st') lo (lo+n)->Q true st'):wpS (model prog w) A E s (binarySort' lo n ok) Q st:=by
 rw[binarySort'_eq]
 refine xbi (xfi (xdp (I:=fun k c st'=>c=(none,())/\B κ a₀ st'/\Sm st st' lo (lo+n)/\UpA R (arrOf st') lo (lo+min k n))
  (Q:=fun c st'=>c=(none,())/\B κ a₀ st'/\Sm st st' lo (lo+n)/\UpA R (arrOf st') lo (lo+n)) ?_ ?_ ?_) ?_)
 ·rintro k c st' k1 k2 ⟨rfl,b1,sm1,up1⟩;rw[xei (xbv k2)] at up1;have hz:=b1.size;have hk:lo+k < a₀.size:=xbh (xeg k2 lo) hn
  refine xbi (xfi (xdp (I:=fun x c st2=>st2=st'/\∃l r,c=(none,l,r)/\l<=r/\r<=k/\r - l<=k - x/\(∀i,i < l->kA R (arrOf st') (lo+i)<=kA R (arrOf st') (lo+k))/\(∀i,r<=i->i < k->kA R (arrOf st') (lo+k)<=kA R (arrOf st') (lo+i)))
   (Q:=fun c st2=>st2=st'/\∃l r,c=(none,l,r)/\l<=k/\(∀i,i < l->kA R (arrOf st') (lo+i)<=kA R (arrOf st') (lo+k))/\(∀i,l<=i->i < k->kA R (arrOf st') (lo+k)<=kA R (arrOf st') (lo+i))) ?_ ?_ ?_) ?_)
  ·rintro x c st2 x1 x2 ⟨rfl,l,r,rfl,g1,g2,g3,g4,g5⟩;dsimp only;by_cases hge:l ≥ r
   ·rw[if_pos hge];have e:l=r:=xdu g1 hge;subst e;exact xbj ⟨rfl,l,l,rfl,g2,g4,g5⟩
   ·have hm:lo+(l+r) / 2 < lo+k:=xeg (xbh (zbdo hge) g2) lo;rw[if_neg hge];refine xbi (zjs O b1 hk (xij hm hk) ?_);by_cases c:kA R (arrOf st2) (lo+k) < kA R (arrOf st2) (lo+(l+r) / 2)
    ·simp only[c,xgu,xeb];exact xbj ⟨rfl,l,(l+r) / 2,rfl,zbgd hge,xbb (xbv (zbdo hge)) g2,hf_l hge g3,g4,fun i a1 a2=>xbb (xbv c) (up1 _ _ (xbz _ _) (xch a1 lo) (xeg a2 lo))⟩
    ·simp only[c,xgy,xbu,xdc];exact xbj ⟨rfl,(l+r) / 2+1,r,rfl,zbdo hge,g2,hf_r hge g3,fun i a1=>xbb (up1 (lo+i) (lo+(l+r) / 2) (xbz _ _) (xch (xce a1) lo) hm) (xcb c),g5⟩
  ·rintro c st2 ⟨rfl,l,r,rfl,g1,g2,g3,g4,g5⟩;have e:=zhp g1 g3;subst e;exact⟨rfl,_,_,rfl,g2,g4,g5⟩
  ·exact⟨rfl,0,k,rfl,xec _,xbf _,xbf _,fun i hi=>absurd hi (xlx _),fun i a1 a2=>absurd a2 (xem a1)⟩
  ·rintro c st2 ⟨rfl,l,r,rfl,g1,g2,g3⟩;dsimp only;have hd:lo+k - (lo+k - (lo+l))=lo+l:=Nat.sub_sub_self (xch g1 lo);have hs:lo+k < (arrOf st2).size:=by rw[hz];exact hk
   refine xbi (zbdr (xbj ⟨rfl,b1.set (bubble_perm _ _ _),⟨(Out.bubble hs (xgq _ _) (by rw[hd];exact xbz _ _) (xeg k2 lo)).trans sm1.out,sm1.pend⟩,fun i j a1 a2 a3=>?_⟩));show kA R (bubble (arrOf st2) (lo+k) (lo+k - (lo+l))) i<=kA R (bubble (arrOf st2) (lo+k) (lo+k - (lo+l))) j;rw[zma hs (xgq _ _),zma hs (xgq _ _),hd];rw[xei k2] at a3;have hj:j<=lo+k:=xce a3;have low:∀q,lo<=q->q < lo+l->kA R (arrOf st2) q<=kA R (arrOf st2) (lo+k):=fun q q1 q2=>by
    have:=g2 (q - lo) (xdr q1 q2);rw[xcj q1] at this;exact this
   have hig:∀q,lo+l<=q->q < lo+k->kA R (arrOf st2) (lo+k)<=kA R (arrOf st2) q:=fun q q1 q2=>by
    have q0:=xbb (xbz _ _) q1;have:=g3 (q - lo) (xeq q1) (xdr q0 q2);rw[xcj q0] at this;exact this
   by_cases i1:i=lo+l
   ·rw[if_pos i1];by_cases j1:j=lo+l
    ·rw[if_pos j1];exact xbf _
    ·have jj:=xcy (i1 ▸ a2) (xda j1);rw[if_neg j1,if_pos ⟨jj,hj⟩];exact hig _ (xde jj) (zvx jj hj)
   ·rw[if_neg i1];by_cases i2:lo+l < i/\i<=lo+k
    ·have jj:=xbh i2.1 a2;rw[if_pos i2,if_neg (xgv jj),if_pos ⟨jj,hj⟩];exact up1 _ _ (xbb (xbz lo l) (xde i2.1)) (xfk a2 1) (zvx jj hj)
    ·have il:i < lo+l:=xcy (xcb fun z=>i2 ⟨z,xbb a2 hj⟩) i1;rw[if_neg i2];by_cases j1:j=lo+l
     ·rw[if_pos j1];exact low i a1 il
     ·rw[if_neg j1];by_cases j2:lo+l < j/\j<=lo+k
      ·rw[if_pos j2];exact up1 _ _ a1 (xde (xij il j2.1)) (zvx j2.1 hj)
      ·rw[if_neg j2];exact up1 _ _ a1 a2 (xbh (xcy (xcb fun z=>j2 ⟨z,hj⟩) j1) (xch g1 lo))
 ·rintro c st' ⟨rfl,b1,sm1,up1⟩;rw[xin (Nat.le_max_right _ _)] at up1;exact⟨rfl,b1,sm1,up1⟩
 ·refine⟨rfl,b,⟨Out.refl _ _ _,rfl⟩,fun i j a1 a2 a3=>up i j a1 a2 (xbh a3 (xch (xbb (xhc _ _) (xdi (Nat.max_eq_left h1))) lo))⟩
 ·rintro c st' ⟨rfl,b1,sm1,up1⟩;exact xbj (h st' b1 sm1 up1)
noncomputable def gallop':Bool->Keyed->Array Keyed->Nat->Nat->Nat->StateT SortSt Sem (Option Nat):=sortPriv% PySem.Builtin.gallop
noncomputable def Cut (left:Bool) (R:Keyed->Nat) (key:Keyed) (arr:Array Keyed) (base n h:Nat):Prop:=h<=n/\(∀i,i < h->if left then kA R arr (base+i) < R key else kA R arr (base+i)<=R key)/\(∀i,h<=i->i < n->if left then R key<=kA R arr (base+i) else R key < kA R arr (base+i))
noncomputable def ahead (left:Bool) (R:Keyed->Nat) (key:Keyed) (arr:Array Keyed) (base i:Nat):Bool:=if left then decide (kA R arr (base+i) < R key) else decide (kA R arr (base+i)<=R key)
theorem zim {left:Bool}{key:Keyed}{arr:Array Keyed}{base i:Nat}{st:SortSt}{Q:Option Bool->SortSt->Prop}(O:Orc prog w A s κ a₀ R)(hk:kindOf st=κ)(mk:key∈a₀.toList)(ma:∃x,arr[base+i]?=some x/\x∈a₀.toList)(h:Q (some (ahead left R key arr base i)) st) :
  wpS (model prog w) A E s (do
   let x ← elem' arr (base+i)
   if left=true then lt' x key else do
    let y ← lt' key x
    pure (Option.map (fun x=>!x) y)) Q st:=by
 obtain⟨x,e,m⟩:=ma;refine xbi (zil e ?_);unfold ahead at h;rw[zcr e] at h;cases left with
 | true =>
  rw[if_pos rfl] at h ⊢;exact w_lt O hk m mk h
 | false =>
  rw[if_neg (by decide)] at h ⊢;refine xbi (w_lt O hk mk m (xbj ?_));have q:(!decide (R key < R x))=decide (R x<=R key):=by
   by_cases c:R key < R x
   ·rw[xcs c,xcg (Nat.not_le_of_lt c)];rfl
   ·rw[xcg c,xcs (xcb c)];rfl
  show Q (some (!decide (R key < R x))) st;rw[q];exact h
theorem zqv {left:Bool}{key:Keyed}{arr:Array Keyed}{base n i j:Nat}(up:UpA R arr base (base+n))(hij:i<=j)(hj:j < n)(h:ahead left R key arr base j=true):ahead left R key arr base i=true:=by
 have:=up (base+i) (base+j) (xbz _ _) (xch hij _) (xeg hj _);unfold ahead at h ⊢;cases left with
 | true=>rw[if_pos rfl] at h ⊢;exact xcs (xcx this (xep h))
 | false=>rw[if_neg (by decide)] at h ⊢;exact xcs (xbb this (xep h))
theorem zbcv {left:Bool}{key:Keyed}{arr:Array Keyed}{base n h:Nat}(h0:h<=n)(h1:∀i,i < h->ahead left R key arr base i=true)(h2:∀i,h<=i->i < n->ahead left R key arr base i=false):Cut left R key arr base n h:=by
 refine⟨h0,fun i hi=>?_,fun i a1 a2=>?_⟩
 ·have:=h1 i hi;unfold ahead at this;cases left with
  | true=>rw[if_pos rfl] at this ⊢;exact xep this
  | false=>rw[if_neg (by decide)] at this ⊢;exact xep this
 ·have:=h2 i a1 a2;unfold ahead at this;cases left with
  | true=>rw[if_pos rfl] at this ⊢;exact xcb (of_decide_eq_false this)
  | false=>rw[if_neg (by decide)] at this ⊢;exact xfz (of_decide_eq_false this)
theorem zun {a b:Nat}(c:¬a ≥ b):(b - a) / 2 < b - a:=Nat.div_lt_self (xfm (xfz c)) (xbf 2)
theorem zbfn {a b:Nat}(c:¬a ≥ b):a+(b - a) / 2 < b:=xdv (zun c)
theorem zyj {a b n:Nat}(c:¬a ≥ b)(h:b<=n):a+(b - a) / 2 < n:=xbh (zbfn c) h
theorem zbba {a b n x:Nat}(h:b - a<=n - x):b - (a+(b - a) / 2+1)<=n - (x+1):=xbb (xhs (xfg (xbz a _)) b) (xfk h 1)
theorem zbaz {a b n x:Nat}(c:¬a ≥ b)(h:b - a<=n - x):a+(b - a) / 2 - a<=n - (x+1):=by
 rw[xcv];exact xbb (xde (zun c)) (xfk h 1)
theorem zbcl (o:Nat):o < 2 * o+1:=Nat.lt_succ_of_le (xjs o xlz)
theorem zbcm {x o:Nat}(h:x+1<=o):x+1+1<=2 * o+1:=xfg (xbb h (xjs o xlz))
theorem zzd {a b n:Nat}(h:a+b < n):b < n - a:=Nat.lt_sub_of_add_lt (Nat.add_comm a b ▸ h)
inductive GI (f:Nat->Bool) (n:Nat) (st:SortSt) (x:Nat):Option (Option Nat)×Nat×Nat->SortSt->Prop where
 | mk {a b:Nat} (q1:a<=b) (q2:b<=n) (q3:b - a<=n - x) (q4:∀i,i < a->f i=true) (q5:∀i,b<=i->i < n->f i=false):GI f n st x (none,a,b) st
inductive GE (f:Nat->Bool) (n:Nat) (st:SortSt):Option (Option Nat)×Nat×Nat->SortSt->Prop where
 | mk {b:Nat} (q2:b<=n) (q4:∀i,i < b->f i=true) (q5:∀i,b<=i->i < n->f i=false):GE f n st (none,b,b) st
inductive GU (f:Nat->Bool) (n hint:Nat) (P:Nat->Prop) (st:SortSt):Option (Option Nat)×Nat×Nat->SortSt->Prop where
 | mk {l o:Nat} (g1:l < o) (g2:hint+l < n) (g3:f (hint+l)=true) (g4:P o):GU f n hint P st (none,l,o) st
inductive GD (f:Nat->Bool) (hint:Nat) (P:Nat->Prop) (st:SortSt):Option (Option Nat)×Nat×Nat->SortSt->Prop where
 | mk {l o:Nat} (g1:l < o) (g2:l<=hint) (g3:f (hint - l)=false) (g4:P o):GD f hint P st (none,l,o) st
theorem zel {left:Bool}{key:Keyed}{arr:Array Keyed}{base n hint:Nat}{st:SortSt}{Q:Option Nat->SortSt->Prop}(O:Orc prog w A s κ a₀ R)(hk:kindOf st=κ)(mk:key∈a₀.toList)(ma:∀i,i < n->∃x,arr[base+i]?=some x/\x∈a₀.toList)(hh:hint < n)
  (up:UpA R arr base (base+n))(h:∀k,Cut left R key arr base n k->Q (some k) st):wpS (model prog w) A E s (gallop' left key arr base n hint) Q st:=by
 have mono:∀i j,i<=j->j < n->ahead left R key arr base j=true->ahead left R key arr base i=true:=fun i j a1 a2=>zqv up a1 a2
 have monoF:∀i j,i<=j->j < n->ahead left R key arr base i=false->ahead left R key arr base j=false:=fun i j a1 a2 e=>by
  cases c:ahead left R key arr base j with
  | false=>rfl
  | true=>rw[mono i j a1 a2 c] at e;cases e
 refine xbi (zim O hk mk (ma hint hh) ?_);dsimp only;cases hr:ahead left R key arr base hint with
 | true =>
  rw[if_pos rfl];refine xbi (xfi (xdp (I:=fun x=>GU (ahead left R key arr base) n hint (x+1<=·) st) (Q:=GU (ahead left R key arr base) n hint (fun o=>n - hint<=o\/(hint+o < n/\ahead left R key arr base (hint+o)=false)) st) ?_ ?_ ?_) ?_)
  ·rintro x c st' x1 x2 @⟨l,o,g1,g2,g3,g4⟩;dsimp only;by_cases c:o ≥ n - hint
   ·rw[if_pos c];exact xbj (.mk g1 g2 g3 (.inl c))
   ·have c3:hint+o < n:=xdv (xfz c);rw[if_neg c];refine xbi (zim O hk mk (ma (hint+o) c3) ?_);dsimp only;cases c2:ahead left R key arr base (hint+o) with
    | true=>exact xbj (.mk (zbcl o) c3 c2 (zbcm g4))
    | false=>exact xbj (.mk g1 g2 g3 (.inr ⟨c3,c2⟩))
  ·rintro c st' @⟨l,o,g1,g2,g3,g4⟩;rw[Nat.zero_max] at g4;exact .mk g1 g2 g3 (.inl (xbb (xgq _ _) (xdf g4)))
  ·exact .mk Nat.one_pos hh hr (xbf _)
  ·rintro c st' @⟨l,o,g1,g2,g3,g4⟩;dsimp only;have f1:∀i,i < hint+l+1->ahead left R key arr base i=true:=fun i hi=>mono i (hint+l) (xce hi) g2 g3
   have f2:∀i,hint+min o (n - hint)<=i->i < n->ahead left R key arr base i=false:=fun i a1 a2=>by
    rcases g4 with g | ⟨ga,gb⟩
    ·rw[xin g,xcj (xbv hh)] at a1;exact absurd a2 (xem a1)
    ·rw[xei (xbv (zzd ga))] at a1;exact monoF (hint+o) i a1 a2 gb
   have f3:hint+l+1<=hint+min o (n - hint):=xch (Nat.le_min.mpr ⟨g1,zzd g2⟩) hint;have f4:hint+min o (n - hint)<=n:=xbb (xch (xfy _ _) hint) (xdi (xcj (xbv hh)));generalize hint+l+1=lo at f1 f3 ⊢;generalize hint+min o (n - hint)=hi at f2 f3 f4 ⊢;refine xbi (xfi (xdp (I:=GI (ahead left R key arr base) n st) (Q:=GE (ahead left R key arr base) n st) ?_ ?_ (.mk f3 f4 (xbb (xgq _ _) f4) f1 f2)) ?_)
   ·rintro x c st2 x1 x2 @⟨a,b,q1,q2,q3,q4,q5⟩;dsimp only;by_cases c:a ≥ b
    ·rw[if_pos c];have e:b=a:=xdu c q1;subst e;exact xbj (.mk q2 q4 q5)
    ·rw[if_neg c];refine xbi (zim O hk mk (ma (a+(b - a) / 2) (zyj c q2)) ?_);dsimp only;cases c2:ahead left R key arr base (a+(b - a) / 2) with
     | true=>exact xbj (.mk (zbfn c) q2 (zbba q3) (fun i hi=>mono i (a+(b - a) / 2) (xce hi) (zyj c q2) c2) q5)
     | false=>exact xbj (.mk (xbz _ _) (xbv (zyj c q2)) (zbaz c q3) q4 fun i a1 a2=>monoF (a+(b - a) / 2) i a1 a2 c2)
   ·rintro c st2 @⟨a,b,q1,q2,q3,q4,q5⟩;have e:=zhp q1 q3;subst e;exact .mk q2 q4 q5
   ·rintro c st2 @⟨b,q2,q4,q5⟩;exact xbj (h b (zbcv q2 q4 q5))
 | false =>
  rw[if_neg (by decide)];refine xbi (xfi (xdp (I:=fun x=>GD (ahead left R key arr base) hint (x+1<=·) st) (Q:=GD (ahead left R key arr base) hint (fun o=>hint+1<=o\/(o<=hint/\ahead left R key arr base (hint - o)=true)) st) ?_ ?_ ?_) ?_)
  ·rintro x c st' x1 x2 @⟨l,o,g1,g2,g3,g4⟩;dsimp only;by_cases c:o ≥ hint+1
   ·rw[if_pos c];exact xbj (.mk g1 g2 g3 (.inl c))
   ·rw[if_neg c];refine xbi (zim O hk mk (ma (hint - o) (xcx (xgq _ _) hh)) ?_);dsimp only;cases c2:ahead left R key arr base (hint - o) with
    | true=>exact xbj (.mk g1 g2 g3 (.inr ⟨xce (xfz c),c2⟩))
    | false=>exact xbj (.mk (zbcl o) (xce (xfz c)) c2 (zbcm g4))
  ·rintro c st' @⟨l,o,g1,g2,g3,g4⟩;rw[Nat.zero_max] at g4;exact .mk g1 g2 g3 (.inl (xbb hh (xdf g4)))
  ·exact .mk Nat.one_pos (xec _) hr (xbf _)
  ·rintro c st' @⟨l,o,g1,g2,g3,g4⟩;dsimp only;have f1:∀i,i < hint+1 - min o (hint+1)->ahead left R key arr base i=true:=fun i hi=>by
    rcases g4 with g | ⟨ga,gb⟩
    ·rw[xin g,xke] at hi;exact absurd hi (xlx _)
    ·rw[xei (xgg ga),Nat.succ_sub ga] at hi;exact mono i (hint - o) (xce hi) (xcx (xgq _ _) hh) gb
   have f2:∀i,hint - l<=i->i < n->ahead left R key arr base i=false:=fun i a1 a2=>monoF (hint - l) i a1 a2 g3
   have f3:hint+1 - min o (hint+1)<=hint - l:=xbb (xhs (Nat.le_min.mpr ⟨g1,xfg g2⟩) _) (xdi (Nat.succ_sub_succ hint l));have f4:hint - l<=n:=xbb (xgq _ _) (xbv hh);generalize hint+1 - min o (hint+1)=lo at f1 f3 ⊢;generalize hint - l=hi at f2 f3 f4 ⊢;refine xbi (xfi (xdp (I:=GI (ahead left R key arr base) n st) (Q:=GE (ahead left R key arr base) n st) ?_ ?_ (.mk f3 f4 (xbb (xgq _ _) f4) f1 f2)) ?_)
   ·rintro x c st2 x1 x2 @⟨a,b,q1,q2,q3,q4,q5⟩;dsimp only;by_cases c:a ≥ b
    ·rw[if_pos c];have e:b=a:=xdu c q1;subst e;exact xbj (.mk q2 q4 q5)
    ·rw[if_neg c];refine xbi (zim O hk mk (ma (a+(b - a) / 2) (zyj c q2)) ?_);dsimp only;cases c2:ahead left R key arr base (a+(b - a) / 2) with
     | true=>exact xbj (.mk (zbfn c) q2 (zbba q3) (fun i hi=>mono i (a+(b - a) / 2) (xce hi) (zyj c q2) c2) q5)
     | false=>exact xbj (.mk (xbz _ _) (xbv (zyj c q2)) (zbaz c q3) q4 fun i a1 a2=>monoF (a+(b - a) / 2) i a1 a2 c2)
   ·rintro c st2 @⟨a,b,q1,q2,q3,q4,q5⟩;have e:=zhp q1 q3;subst e;exact .mk q2 q4 q5
   ·rintro c st2 @⟨b,q2,q4,q5⟩;exact xbj (h b (zbcv q2 q4 q5))
end
section
variable {prog:Program}{w:World}{A:Around}{E:Value->Shared->Prop}{s:Shared}{κ:SortKind}{a₀:Array Keyed}{R:Keyed->Nat}
noncomputable abbrev Ord (R:Keyed->Nat) (l:List Keyed):Prop:=l.Pairwise fun x y=>R x<=R y
structure SmG (st st':SortSt):Prop where
 arr:arrOf st'=arrOf st
 pend:pendingOf st'=pendingOf st
 kind:kindOf st'=kindOf st
 failed:failedOf st'=failedOf st
theorem SmG.refl (st:SortSt):SmG st st:=⟨rfl,rfl,rfl,rfl⟩
theorem SmG.trans {a b c:SortSt}(x:SmG a b)(y:SmG b c):SmG a c:=⟨y.arr.trans x.arr,y.pend.trans x.pend,y.kind.trans x.kind,y.failed.trans x.failed⟩
noncomputable def mergeLo':Array Keyed->Array Keyed->StateT SortSt Sem (Array Keyed):=sortPriv% PySem.Builtin.mergeLo
noncomputable def mergeHi':Array Keyed->Array Keyed->StateT SortSt Sem (Array Keyed):=sortPriv% PySem.Builtin.mergeHi
structure ML (R:Keyed->Nat) (all out rest:List Keyed):Prop where
 perm:(out++rest).Perm all
 ord:Ord R out
 le:∀x∈out,∀y∈rest,R x<=R y
theorem ML.grow {all out rest xs rest':List Keyed}(m:ML R all out rest)(p:rest.Perm (xs++rest'))(o:Ord R xs)(h:∀x∈xs,∀y∈rest',R x<=R y):ML R all (out++xs) rest':=by
 refine⟨?_,xfl.mpr ⟨m.ord,o,fun x hx y hy=>m.le x hx y (p.mem_iff.mpr (xim _ hy))⟩,fun x hx y hy=>?_⟩
 ·rw[xci];exact(xgb out p.symm).trans m.perm
 ·rcases xbt.mp hx with hx | hx
  ·exact m.le x hx y (p.mem_iff.mpr (xdh _ hy))
  ·exact h x hx y hy
theorem ML.fin {all out rest rest':List Keyed}(m:ML R all out rest)(p:rest'.Perm rest)(o:Ord R rest'):(out++rest').Perm all/\Ord R (out++rest') :=
 ⟨(xgb out p).trans m.perm,xfl.mpr ⟨m.ord,o,fun x hx y hy=>m.le x hx y (p.mem_iff.mp hy)⟩⟩
theorem Ord.at {l:List Keyed}(h:Ord R l){i j:Nat}{x y:Keyed}(hi:l[i]?=some x)(hj:l[j]?=some y)(hij:i<=j):R x<=R y:=by
 obtain⟨h1,e1⟩:=xbm.mp hi;obtain⟨h2,e2⟩:=xbm.mp hj;by_cases c:i=j
 ·subst c;rw[← e1,← e2];exact xbf _
 ·rw[← e1,← e2];exact xfa.mp h i j h1 h2 (xcy hij c)
theorem Ord.drop {l:List Keyed}(h:Ord R l)(n:Nat):Ord R (l.drop n):=xgc (xlg _ _) h
theorem Ord.take {l:List Keyed}(h:Ord R l)(n:Nat):Ord R (l.take n):=xgc (xle _ _) h
theorem zt {l:List Keyed}{n:Nat}{y:Keyed}(h:y∈l.drop n):∃j,n<=j/\l[j]?=some y:=by
 obtain⟨i,hi,e⟩:=xen h;refine⟨n+i,xbz _ _,?_⟩;rw[← e,xlh];exact xbg _
theorem zm {l:List Keyed}{n:Nat}{y:Keyed}(h:y∈l.take n):∃j,j < n/\l[j]?=some y:=by
 obtain⟨i,hi,e⟩:=xen h;have hi2:i < n/\i < l.length:=by rw[xcm] at hi;exact Nat.lt_min.mp hi
 refine⟨i,hi2.1,?_⟩;rw[← e,xli];exact xbg _
theorem zgb {l:List Keyed}{i:Nat}{x:Keyed}(h:l[i]?=some x):l.drop i=x::l.drop (i+1):=by
 obtain⟨h1,rfl⟩:=xbm.mp h;exact xfb h1
theorem zjk (l:List Keyed)(i k:Nat):l.drop i=(l.drop i).take k++l.drop (i+k):=by
 rw[← xjg,xcr]
structure Two (R:Keyed->Nat) (la lb:List Keyed):Prop where
 oa:Ord R la
 ob:Ord R lb
 last:∀x,la[la.length - 1]?=some x->∀y∈lb,R y<=R x
noncomputable def Fin (R:Keyed->Nat) (la lb:List Keyed) (r:Array Keyed):Prop:=r.toList.Perm (la++lb)/\Ord R r.toList
variable {la lb:List Keyed}{out:Array Keyed}{ia ib:Nat}
theorem ML.pushB {R:Keyed->Nat}{all:List Keyed}(T:Two R la lb)(m:ML R all out.toList (la.drop ia++lb.drop ib)){y:Keyed}(hy:lb[ib]?=some y)(h:∀z∈la.drop ia,R y<=R z):ML R all (out.push y).toList (la.drop ia++lb.drop (ib+1)):=by
 rw[xeo];refine m.grow ?_ (xjk _ _) fun x hx z hz=>?_
 ·rw[zgb hy];exact xlo
 ·simp at hx;subst hx
  rcases xbt.mp hz with hz | hz
  ·exact h z hz
  ·obtain⟨j,hj,e⟩:=zt hz;exact T.ob.at hy e (xdf hj)
theorem ML.pushA {R:Keyed->Nat}{all:List Keyed}(T:Two R la lb)(m:ML R all out.toList (la.drop ia++lb.drop ib)){x:Keyed}(hx:la[ia]?=some x)(h:∀z∈lb.drop ib,R x<=R z):ML R all (out.push x).toList (la.drop (ia+1)++lb.drop ib):=by
 rw[xeo];refine m.grow ?_ (xjk _ _) fun w hw z hz=>?_
 ·rw[zgb hx];exact .refl _
 ·simp at hw;subst hw
  rcases xbt.mp hz with hz | hz
  ·obtain⟨j,hj,e⟩:=zt hz;exact T.oa.at hx e (xdf hj)
  ·exact h z hz
theorem zbd (xs:Array Keyed)(i j:Nat):(xs.extract i j).toList=(xs.toList.drop i).take (j - i):=by
 rw[xkf,List.extract_eq_take_drop]
theorem zme (xs:Array Keyed)(i:Nat):(xs.extract i).toList=xs.toList.drop i:=by
 rw[zbd];exact xdm (by simp)
theorem zbb {xs:Array Keyed}{i:Nat}{x:Keyed}(h:xs.toList[i]?=some x):kA R xs i=R x:=zcr (by rw[← xbs];exact h)
end
section
variable {prog:Program}{w:World}{A:Around}{E:Value->Shared->Prop}{s:Shared}{κ:SortKind}{a₀:Array Keyed}{R:Keyed->Nat}{a b out:Array Keyed}{ia ib k:Nat}{y x:Keyed}{all:List Keyed}
theorem ML.galA (T:Two R a.toList b.toList)(m:ML R all out.toList (a.toList.drop ia++b.toList.drop ib))(hy:b.toList[ib]?=some y)(c:Cut false R y a ia (a.size - ia) k):ML R all (out++a.extract ia (ia+k)).toList (a.toList.drop (ia+k)++b.toList.drop ib)/\∀z∈a.toList.drop (ia+k),R y<=R z:=by
 have up:∀z∈a.toList.drop (ia+k),R y<=R z:=fun z hz=>by
  obtain⟨j,hj,e⟩:=zt hz;have hj2:j < a.size:=by have:=(xbm.mp e).1;simpa using this
  have h0:=xbb (xbz _ _) hj;have:=c.2.2 (j - ia) (xeq hj) (xeh h0 hj2);rw[xcj h0,zbb e] at this;exact xbv this
 have low:∀z∈(a.toList.drop ia).take k,R z<=R y:=fun z hz=>by
  obtain⟨j,hj,e⟩:=zm hz;rw[xfh] at e;have:=c.2.1 j hj;rw[zbb e] at this;exact this
 refine⟨?_,up⟩;rw[xdk,zbd,xcv];refine m.grow ?_ ((T.oa.drop ia).take k) fun z hz v hv=>?_
 ·conv=>lhs;rw[zjk a.toList ia k]
  rw[xci]
 ·rcases xbt.mp hv with hv | hv
  ·exact xbb (low z hz) (up v hv)
  ·obtain⟨j,hj,e⟩:=zt hv;exact xbb (low z hz) (T.ob.at hy e hj)
theorem ML.galB (T:Two R a.toList b.toList)(m:ML R all out.toList (a.toList.drop ia++b.toList.drop ib))(hx:a.toList[ia]?=some x)(c:Cut true R x b ib (b.size - ib) k):ML R all (out++b.extract ib (ib+k)).toList (a.toList.drop ia++b.toList.drop (ib+k))/\∀z∈b.toList.drop (ib+k),R x<=R z:=by
 have up:∀z∈b.toList.drop (ib+k),R x<=R z:=fun z hz=>by
  obtain⟨j,hj,e⟩:=zt hz;have hj2:j < b.size:=by have:=(xbm.mp e).1;simpa using this
  have h0:=xbb (xbz _ _) hj;have:=c.2.2 (j - ib) (xeq hj) (xeh h0 hj2);rw[xcj h0,zbb e] at this;exact this
 have low:∀z∈(b.toList.drop ib).take k,R z<=R x:=fun z hz=>by
  obtain⟨j,hj,e⟩:=zm hz;rw[xfh] at e;have:=c.2.1 j hj;rw[zbb e] at this;exact xbv this
 refine⟨?_,up⟩;rw[xdk,zbd,xcv];refine m.grow ?_ ((T.ob.drop ib).take k) fun z hz v hv=>?_
 ·conv=>lhs;rw[zjk b.toList ib k]
  rw[← xci,← xci];exact xie _ xhd
 ·rcases xbt.mp hv with hv | hv
  ·obtain⟨j,hj,e⟩:=zt hv;exact xbb (low z hz) (T.oa.at hx e hj)
  ·exact xbb (low z hz) (up v hv)
theorem ML.done (T:Two R a.toList b.toList)(m:ML R (a.toList++b.toList) out.toList (a.toList.drop ia++b.toList.drop ib))(h:ia=a.size\/ib=b.size):Fin R a.toList b.toList (out++a.extract ia++b.extract ib):=by
 unfold Fin;rw[xdk,xdk,zme,zme,xci];refine m.fin (.refl _) ?_;rcases h with rfl | rfl
 ·rw[xif (by simp),xly];exact T.ob.drop _
 ·rw[xif (as:=b.toList) (by simp),xes];exact T.oa.drop _
theorem ML.lastA (T:Two R a.toList b.toList)(m:ML R (a.toList++b.toList) out.toList (a.toList.drop ia++b.toList.drop ib))(h:ia+1=a.size):Fin R a.toList b.toList (out++b.extract ib++a.extract ia):=by
 unfold Fin;rw[xdk,xdk,zme,zme,xci];refine m.fin xhd (xfl.mpr ⟨T.ob.drop _,T.oa.drop _,fun v hv z hz=>?_⟩);obtain⟨j,hj,e⟩:=zt hz;have hj2:j < a.size:=by have:=(xbm.mp e).1;simpa using this
 have:j=a.toList.length - 1:=xdu (xde (by rw[xca];exact hj2)) (by rw[xca,← h];exact hj);subst this;exact T.last z e v (xej hv)
noncomputable def setG':Nat->StateT SortSt Sem Unit:=sortPriv% PySem.Builtin.setMinGallop
theorem zrf {g:Nat}{st:SortSt}{Q:Unit->SortSt->Prop}(h:∀st',SmG st st'->Q () st'):wpS (model prog w) A E s (setG' g) Q st :=
 xgt (h _ ⟨rfl,rfl,rfl,rfl⟩)
theorem zbig {α:Type}{K:Nat->StateT SortSt Sem α}{Q:α->SortSt->Prop}{st:SortSt}(h:∀v,wpS (model prog w) A E s (K v) Q st):∀y x:Nat,wpS (model prog w) A E s (if y > 1 then K x else K y) Q st:=fun y x=>by
 by_cases e:y > 1
 ·rw[if_pos e];exact h x
 ·rw[if_neg e];exact h y
theorem zbii {α:Type}{c c2:Prop}[Decidable c][Decidable c2]{X Y Y':StateT SortSt Sem α}{Q:α->SortSt->Prop}{st:SortSt}(hY:¬c->Y'=Y)(h1:c->c2->wpS (model prog w) A E s X Q st)(h2:(c->¬c2)->wpS (model prog w) A E s Y Q st):wpS (model prog w) A E s (if c then(if c2 then X else Y) else Y') Q st:=by
 by_cases e:c
 ·rw[if_pos e];by_cases e2:c2
  ·rw[if_pos e2];exact h1 e e2
  ·rw[if_neg e2];exact h2 fun _=>e2
 ·rw[if_neg e,hY e];exact h2 fun z=>absurd z e
theorem zyy {α:Type}{c c2 c3:Prop}[Decidable c][Decidable c2][Decidable c3]{X X3 Y Y':StateT SortSt Sem α}{Q:α->SortSt->Prop}{st:SortSt}(hY:¬c->Y'=Y)(h1:c->c2->wpS (model prog w) A E s X Q st)(h3:c->c3->wpS (model prog w) A E s X3 Q st)(h2:(c->¬c2/\¬c3)->wpS (model prog w) A E s Y Q st):wpS (model prog w) A E s (if c then(if c2 then X else if c3 then X3 else Y) else Y') Q st:=by
 by_cases e:c
 ·rw[if_pos e];by_cases e2:c2
  ·rw[if_pos e2];exact h1 e e2
  ·rw[if_neg e2];by_cases e3:c3
   ·rw[if_pos e3];exact h3 e e3
   ·rw[if_neg e3];exact h2 fun _=>⟨e2,e3⟩
 ·rw[if_neg e,hY e];exact h2 fun z=>absurd z e
theorem zbih {α:Type}{c c2:Prop}[Decidable c][Decidable c2]{X X2 Y:StateT SortSt Sem α}{Q:α->SortSt->Prop}{st:SortSt}(h1:c->wpS (model prog w) A E s X Q st)(h2:c2->wpS (model prog w) A E s X2 Q st)(h3:¬c->¬c2->wpS (model prog w) A E s Y Q st):wpS (model prog w) A E s (if c then X else if c2 then X2 else Y) Q st:=by
 by_cases e:c
 ·rw[if_pos e];exact h1 e
 ·rw[if_neg e];by_cases e2:c2
  ·rw[if_pos e2];exact h2 e2
  ·rw[if_neg e2];exact h3 e e2
theorem w_if {α:Type}{c:Prop}[Decidable c]{X Y:StateT SortSt Sem α}{Q:α->SortSt->Prop}{st:SortSt}(h1:c->wpS (model prog w) A E s X Q st)(h2:¬c->wpS (model prog w) A E s Y Q st):wpS (model prog w) A E s (if c then X else Y) Q st:=by
 by_cases e:c
 ·rw[if_pos e];exact h1 e
 ·rw[if_neg e];exact h2 e
theorem w_el {α:Type}{arr:Array Keyed}{i:Nat}{x:Keyed}{f:Keyed->StateT SortSt Sem α}{Q:α->SortSt->Prop}{st:SortSt}(e:arr[i]?=some x)(h:wpS (model prog w) A E s (f x) Q st):wpS (model prog w) A E s (elem' arr i >>= f) Q st:=xbi (zil e h)
theorem zyx {α:Type}{x y:Keyed}{f:Option Bool->StateT SortSt Sem α}{Q:α->SortSt->Prop}{st:SortSt}(O:Orc prog w A s κ a₀ R)(hk:kindOf st=κ)(hx:x∈a₀.toList)(hy:y∈a₀.toList)(h1:R x < R y->wpS (model prog w) A E s (f (some true)) Q st)(h2:R y<=R x->wpS (model prog w) A E s (f (some false)) Q st):wpS (model prog w) A E s (lt' x y >>= f) Q st:=by
 refine xbi (w_lt O hk hx hy ?_);by_cases c:R x < R y
 ·rw[xcs c];exact h1 c
 ·rw[xcg c];exact h2 (xcb c)
inductive Dn {β:Type} (R:Keyed->Nat) (a b:Array Keyed) (st:SortSt):Option (Array Keyed)×β->SortSt->Prop where
 | mk {r:Array Keyed} {z:β} {st':SortSt} (sm:SmG st st') (f:Fin R a.toList b.toList r):Dn R a b st (some r,z) st'
inductive L1 (R:Keyed->Nat) (a b:Array Keyed) (st:SortSt) (x:Nat):Option (Array Keyed)×Array Keyed×Nat×Nat×Nat->SortSt->Prop where
 | mk {out:Array Keyed} {ia ib g:Nat} {st':SortSt} (sm:SmG st st') (m:ML R (a.toList++b.toList) out.toList (a.toList.drop ia++b.toList.drop ib)) (ha:ia+1 < a.size) (hb:ib < b.size) (hx:x < ia+ib):L1 R a b st x (none,out,ia,ib,g) st'
inductive L2' (R:Keyed->Nat) (a b:Array Keyed) (st:SortSt) (x:Nat):Option (Array Keyed)×Array Keyed×Nat×Nat×Nat×Nat->SortSt->Prop where
 | mk {out:Array Keyed} {ia ib ac bc:Nat} {st':SortSt} (sm:SmG st st') (m:ML R (a.toList++b.toList) out.toList (a.toList.drop ia++b.toList.drop ib)) (ha:ia+1 < a.size) (hb:ib < b.size) (hx:x<=ia+ib):L2' R a b st x (none,out,ia,ib,ac,bc) st'
inductive L3 (R:Keyed->Nat) (a b:Array Keyed) (st:SortSt) (x:Nat):Option (Array Keyed)×Array Keyed×Nat×Nat×Nat×Nat×Nat->SortSt->Prop where
 | mk {out:Array Keyed} {ia ib g ac bc:Nat} {st':SortSt} (sm:SmG st st') (m:ML R (a.toList++b.toList) out.toList (a.toList.drop ia++b.toList.drop ib)) (ha:ia+1 < a.size) (hb:ib < b.size) (hx:x<=ia+ib):L3 R a b st x (none,out,ia,ib,g,ac,bc) st'
theorem zrh {st:SortSt}{Q:Array Keyed->SortSt->Prop}(O:Orc prog w A s κ a₀ R)(hk:kindOf st=κ)(ma:∀x∈a.toList,x∈a₀.toList)(mb:∀x∈b.toList,x∈a₀.toList)(T:Two R a.toList b.toList)(ha:1<=a.size)(hb:1<=b.size)
  (fst:∀y,b.toList[0]?=some y->∀x∈a.toList,R y<=R x)(h:∀r st',SmG st st'->Fin R a.toList b.toList r->Q r st'):wpS (model prog w) A E s (mergeLo' a b) Q st:=by
 have atA:∀(i:Nat) (hi:i < a.size),a[i]?=some a[i]/\a.toList[i]?=some a[i]/\a[i]∈a₀.toList:=fun i hi=>⟨getElem?_pos a i hi,by rw[xbs];exact getElem?_pos a i hi,ma _ (by simp)⟩
 have atB:∀(i:Nat) (hi:i < b.size),b[i]?=some b[i]/\b.toList[i]?=some b[i]/\b[i]∈a₀.toList:=fun i hi=>⟨getElem?_pos b i hi,by rw[xbs];exact getElem?_pos b i hi,mb _ (by simp)⟩
 have upA:∀i,UpA R a i (i+(a.size - i)):=fun i p q a1 a2 a3=>by
  have hq:q < a.size:=by lia
  have e1:=(atA p (by lia)).2.1;have e2:=(atA q hq).2.1;rw[zbb e1,zbb e2];exact T.oa.at e1 e2 a2
 have upB:∀i,UpA R b i (i+(b.size - i)):=fun i p q a1 a2 a3=>by
  have hq:q < b.size:=by lia
  have e1:=(atB p (by lia)).2.1;have e2:=(atB q hq).2.1;rw[zbb e1,zbb e2];exact T.ob.at e1 e2 a2
 obtain⟨y0,f0,f1⟩:∃x,b[0]?=some x/\b.toList[0]?=some x:=⟨_,(atB 0 hb).1,(atB 0 hb).2.1⟩
 have start:ML R (a.toList++b.toList) (#[y0]:Array Keyed).toList (a.toList.drop 0++b.toList.drop 1):=by
  have z:ML R (a.toList++b.toList) (#[]:Array Keyed).toList (a.toList.drop 0++b.toList.drop 0):=⟨by simp,List.Pairwise.nil,by simp⟩
  exact z.pushB T f1 fun x hx=>fst y0 f1 x (xej hx)
 refine xbi (xjx (xic ⟨rfl,xbi (zil f0 (zbih (fun c1=>?_) (fun c2=>?_) fun c1 c2=>?_))⟩))
 ·exact xbj (h _ _ (.refl _) (start.done T (.inr (by simpa using c1))))
 ·exact xbj (h _ _ (.refl _) (start.lastA T (by simpa using c2)))
 simp only[xgs] at c1 c2;refine xbi (xhx ?_);refine xbi (xfi (xdp (I:=L1 R a b st) (Q:=Dn R a b st) ?_ ?_ (.mk (.refl _) start (by lia) (by lia) (by lia))) ?_)
 ·rintro x c st1 x1 x2 @⟨out,ia,ib,g,st1,sm1,m,ha1,hb1,hx⟩;dsimp only;refine xbi (xfi (xdp (I:=fun _=>L2' R a b st (ia+ib)) (Q:=fun c st'=>Dn R a b st c st'\/L2' R a b st (ia+ib) c st') ?_ ?_ (.mk sm1 m ha1 hb1 (xbf _))) ?_)
  ·rintro x' c st2 _ _ @⟨out,ia',ib',ac,bc,st2,sm2,m,ha2,hb2,hp⟩;dsimp only;have ea:=(atA ia' (xex ha2)).1;have ela:=(atA ia' (xex ha2)).2.1;have mea:=(atA ia' (xex ha2)).2.2;have eb:=(atB ib' hb2).1;have elb:=(atB ib' hb2).2.1;have meb:=(atB ib' hb2).2.2;refine w_el eb (w_el ea (zyx O (sm2.kind.trans hk) meb mea (fun cw=>w_el eb ?_) fun cw=>w_el ea ?_))
   ·skip
    have m2:=m.pushB T elb fun z hz=>by
     obtain⟨j,hj,e⟩:=zt hz;exact xbb (xbv cw) (T.oa.at ela e hj)
    refine w_if (fun c5=>xbj (.inl (.mk sm2 (m2.done T (.inr (eq_of_beq c5)))))) fun c5=>?_
    rw[xgs] at c5;have hb3:ib'+1 < b.size:=xcy hb2 c5;have hp3:ia+ib<=ia'+(ib'+1):=xgg hp;exact w_if (fun _=>xbj (.inr (.mk sm2 m2 ha2 hb3 hp3))) fun _=>xbj (.mk sm2 m2 ha2 hb3 hp3)
   ·skip
    have m2:=m.pushA T ela fun z hz=>by
     obtain⟨j,hj,e⟩:=zt hz;exact xbb cw (T.ob.at elb e hj)
    refine w_if (fun c5=>xbj (.inl (.mk sm2 (m2.lastA T (eq_of_beq c5))))) fun c5=>?_
    rw[xgs] at c5;have ha3:ia'+1+1 < a.size:=xcy ha2 c5;have hp3:ia+ib<=ia'+1+ib':=Nat.succ_add ia' ib' ▸ xgg hp
    exact w_if (fun _=>xbj (.inr (.mk sm2 m2 ha3 hb2 hp3))) fun _=>xbj (.mk sm2 m2 ha3 hb2 hp3)
  ·exact fun c st2 k=>.inr k
  ·rintro c st2 (⟨sm2,f⟩ | @⟨out,ia',ib',ac,bc,st2,sm2,m,ha2,hb2,hp⟩)
   ·exact xbj (.mk sm2 f)
   ·dsimp only;refine xbi (xjx (xic ⟨rfl,?_⟩));refine xbi (xfi (xdp (I:=fun x'=>L3 R a b st (ia+ib+x')) (Q:=fun c st'=>Dn R a b st c st'\/L3 R a b st (ia+ib+1) c st') ?_ ?_ (.mk sm2 m ha2 hb2 hp)) ?_)
    ·rintro x' c st3 _ x2' @⟨out,ia',ib',g',ac,bc,st3,sm3,m,ha2,hb2,hp⟩;dsimp only;have eb:=(atB ib' hb2).1;have elb:=(atB ib' hb2).2.1;have meb:=(atB ib' hb2).2.2;generalize g' - 1=g1;generalize g'=y;revert g1;revert y
     refine zbig ?_;intro gg;refine xbi (zrf fun st4 sg=>?_);have sm4:=sm3.trans sg;refine w_el eb (xbi (zel O (sm4.kind.trans hk) meb (fun i hi=>⟨_,(atA (ia'+i) (xdv hi)).1,(atA (ia'+i) (xdv hi)).2.2⟩) (xfm (xex ha2)) (upA ia') fun k1 cut1=>?_));have m5:=(m.galA T elb cut1).1;have u5:=(m.galA T elb cut1).2;have hk1:=cut1.1;dsimp only;refine zyy (fun c6=>?_) (fun c6 c7=>?_) (fun c6 c8=>?_) fun hh=>?_
     ·have z:k1=0:=Nat.le_zero.mp (xcb c6);subst z;simp only[xjd,xil (xhc _ _),xks]
     ·exact xbj (.inl (.mk sm4 (m5.lastA T (eq_of_beq c7))))
     ·exact xbj (.inl (.mk sm4 (m5.done T (.inl (eq_of_beq c8)))))
     have ha5:ia'+k1+1 < a.size:=by
      by_cases c6:k1 > 0
      ·have:=hh c6;simp at this;lia
      ·lia
     have hp5:ia+ib+x'<=ia'+k1+ib':=xbb hp (Nat.add_le_add_right (xbz _ _) _);clear hh;generalize ia'+k1=ia5 at m5 u5 ha5 hp5 ⊢;generalize out++a.extract ia' ia5=out5 at m5 ⊢;have m6:=m5.pushB T elb u5;have ea:=(atA _ (xex ha5)).1;have ela:=(atA _ (xex ha5)).2.1;have mea:=(atA _ (xex ha5)).2.2;refine w_el eb (w_if (fun c9=>xbj (.inl (.mk sm4 (m6.done T (.inr (eq_of_beq c9)))))) fun c9=>w_el ea ?_);rw[xgs] at c9;refine xbi (zel O (sm4.kind.trans hk) mea (fun i hi=>⟨_,(atB (ib'+1+i) (xdv hi)).1,(atB (ib'+1+i) (xdv hi)).2.2⟩) (xfm (xcy hb2 c9)) (upB (ib'+1)) fun k2 cut2=>?_);have m7:=(m6.galB T ela cut2).1;have u7:=(m6.galB T ela cut2).2;have hk2:=cut2.1;dsimp only;refine zbii (fun d6=>?_) (fun d6 d7=>?_) fun hh=>?_
     ·have z2:k2=0:=Nat.le_zero.mp (xcb d6);subst z2;simp only[xjd,xil (xhc _ _),xks]
     ·exact xbj (.inl (.mk sm4 (m7.done T (.inr (eq_of_beq d7)))))
     have h20:ib'+1+k2≠b.size:=by
      by_cases d6:k2 > 0
      ·have:=hh d6;simp at this;lia
      ·lia
     have m8:=m7.pushA T ela u7;refine w_el ea (w_if (fun d8=>xbj (.inl (.mk sm4 (m8.lastA T (eq_of_beq d8))))) fun d8=>?_);rw[xgs] at d8;have ha9:ia5+1+1 < a.size:=xcy ha5 d8;have hb9:ib'+1+k2 < b.size:=by lia
     have hp9:ia+ib+(x'+1)<=ia5+1+(ib'+1+k2):=by lia
     exact w_if (fun _=>xbj (.inr (.mk sm4 m8 ha9 hb9 (xbb (xch (xlw 1 x') _) hp9)))) fun _=>xbj (.mk sm4 m8 ha9 hb9 hp9)
    ·rintro c st3 ⟨sm3,m,ha2,hb2,hp⟩;exact .inr (.mk sm3 m ha2 hb2 (by lia))
    ·rintro c st3 (⟨sm3,f⟩ | ⟨sm3,m,ha2,hb2,hp⟩)
     ·exact xbj (.mk sm3 f)
     ·exact xbi (zrf fun st4 sg=>xbj (.mk (sm3.trans sg) m ha2 hb2 (xbh (Nat.succ_lt_succ hx) hp)))
 ·rintro c st1 ⟨sm1,m,ha1,hb1,hx⟩;lia
 ·rintro c st1 ⟨sm1,f⟩;exact xbj (h _ st1 sm1 f)
end
structure MH (R:Keyed->Nat) (all out rest:List Keyed):Prop where
 perm:(rest++out.reverse).Perm all
 ord:Ord R out.reverse
 le:∀x∈rest,∀y∈out,R x<=R y
section
variable {R:Keyed->Nat}
theorem MH.grow {all out rest xs rest':List Keyed}(m:MH R all out rest)(p:rest.Perm (rest'++xs.reverse))(o:Ord R xs.reverse)(h:∀x∈rest',∀y∈xs,R x<=R y):MH R all (out++xs) rest':=by
 refine⟨?_,?_,fun x hx y hy=>?_⟩
 ·rw[List.reverse_append,← xci];exact(xie _ p.symm).trans m.perm
 ·rw[List.reverse_append];exact xfl.mpr ⟨o,m.ord,fun x hx y hy=>m.le x (p.mem_iff.mpr (xdh _ hx)) y (xju.mp hy)⟩
 ·rcases xbt.mp hy with hy | hy
  ·exact m.le x (p.mem_iff.mpr (xim _ hx)) y hy
  ·exact h x hx y hy
theorem MH.fin {all out rest rest':List Keyed}(m:MH R all out rest)(p:rest'.Perm rest)(o:Ord R rest'):(rest'++out.reverse).Perm all/\Ord R (rest'++out.reverse) :=
 ⟨(xie _ p).trans m.perm,xfl.mpr ⟨o,m.ord,fun x hx y hy=>m.le x (p.mem_iff.mp hx) y (xju.mp hy)⟩⟩
theorem zfp {l:List Keyed}{i:Nat}{x:Keyed}(h:l[i]?=some x):l.take (i+1)=l.take i++[x]:=by
 obtain⟨h1,rfl⟩:=xbm.mp h;exact xhp h1
structure TwoH (R:Keyed->Nat) (la lb:List Keyed):Prop where
 oa:Ord R la
 ob:Ord R lb
 first:∀y,lb[0]?=some y->∀x∈la,R y<=R x
variable {la lb all:List Keyed}{out:Array Keyed}{na nb:Nat}
theorem MH.pushB (T:TwoH R la lb)(m:MH R all out.toList (la.take na++lb.take (nb+1))){y:Keyed}(hy:lb[nb]?=some y)(h:∀z∈la.take na,R z<=R y):MH R all (out.push y).toList (la.take na++lb.take nb):=by
 rw[xeo];refine m.grow ?_ (by simp) fun z hz w hw=>?_
 ·rw[zfp hy];simp
 ·simp at hw;subst hw
  rcases xbt.mp hz with hz | hz
  ·exact h z hz
  ·obtain⟨j,hj,e⟩:=zm hz;exact T.ob.at e hy (by lia)
theorem MH.pushA (T:TwoH R la lb)(m:MH R all out.toList (la.take (na+1)++lb.take nb)){x:Keyed}(hx:la[na]?=some x)(h:∀z∈lb.take nb,R z<=R x):MH R all (out.push x).toList (la.take na++lb.take nb):=by
 rw[xeo];refine m.grow ?_ (by simp) fun z hz w hw=>?_
 ·rw[zfp hx];simp only[List.reverse_singleton,xci];exact xgb _ xhd
 ·simp at hw;subst hw
  rcases xbt.mp hz with hz | hz
  ·obtain⟨j,hj,e⟩:=zm hz;exact T.oa.at e hx (by lia)
  ·exact h z hz
end
section
variable {prog:Program}{w:World}{A:Around}{E:Value->Shared->Prop}{s:Shared}{κ:SortKind}{a₀:Array Keyed}{R:Keyed->Nat}{a b out:Array Keyed}{na nb k:Nat}{y x:Keyed}{all:List Keyed}
theorem zqc (l:List Keyed){k n:Nat}(h:k<=n):l.take n=l.take k++(l.drop k).take (n - k):=by
 conv=>lhs;rw[show n=k+(n - k) by lia,List.take_add]
theorem MH.galA (T:TwoH R a.toList b.toList)(m:MH R all out.toList (a.toList.take na++b.toList.take (nb+1)))(hy:b.toList[nb]?=some y)(hn:na<=a.size)(c:Cut false R y a 0 na k):MH R all (out++(a.extract k na).reverse).toList (a.toList.take k++b.toList.take (nb+1))/\∀z∈a.toList.take k,R z<=R y:=by
 have low:∀z∈a.toList.take k,R z<=R y:=fun z hz=>by
  obtain⟨j,hj,e⟩:=zm hz;have:=c.2.1 j hj;rw[xdz,zbb e] at this;exact this
 have up:∀z∈(a.toList.drop k).take (na - k),R y<=R z:=fun z hz=>by
  obtain⟨j,hj,e⟩:=zm hz;rw[xfh] at e;have:=c.2.2 (k+j) (by lia) (by lia);rw[xdz,zbb e] at this;exact xbv this
 refine⟨?_,low⟩;rw[xdk,xio,zbd];refine m.grow ?_ (by rw[xip];exact(T.oa.drop k).take _) fun v hv z hz=>?_
 ·rw[xip,zqc a.toList c.1,xci,xci];exact xgb _ xhd
 ·have hz:=up z (xju.mp hz);rcases xbt.mp hv with hv | hv
  ·exact xbb (low v hv) hz
  ·obtain⟨j,hj,e⟩:=zm hv;exact xbb (T.ob.at e hy (by lia)) hz
theorem MH.galB (T:TwoH R a.toList b.toList)(m:MH R all out.toList (a.toList.take (na+1)++b.toList.take nb))(hx:a.toList[na]?=some x)(hn:nb<=b.size)(c:Cut true R x b 0 nb k):MH R all (out++(b.extract k nb).reverse).toList (a.toList.take (na+1)++b.toList.take k)/\∀z∈b.toList.take k,R z<=R x:=by
 have low:∀z∈b.toList.take k,R z<=R x:=fun z hz=>by
  obtain⟨j,hj,e⟩:=zm hz;have:=c.2.1 j hj;rw[xdz,zbb e] at this;exact xbv this
 have up:∀z∈(b.toList.drop k).take (nb - k),R x<=R z:=fun z hz=>by
  obtain⟨j,hj,e⟩:=zm hz;rw[xfh] at e;have:=c.2.2 (k+j) (by lia) (by lia);rw[xdz,zbb e] at this;exact this
 refine⟨?_,low⟩;rw[xdk,xio,zbd];refine m.grow ?_ (by rw[xip];exact(T.ob.drop k).take _) fun v hv z hz=>?_
 ·rw[xip,zqc b.toList c.1,xci]
 ·have hz:=up z (xju.mp hz);rcases xbt.mp hv with hv | hv
  ·obtain⟨j,hj,e⟩:=zm hv;exact xbb (T.oa.at e hx (by lia)) hz
  ·exact xbb (low v hv) hz
theorem zib (xs:Array Keyed)(n:Nat):(xs.extract 0 n).toList=xs.toList.take n:=by
 rw[zbd,List.drop_zero,Nat.sub_zero]
theorem MH.done (T:TwoH R a.toList b.toList)(m:MH R (a.toList++b.toList) out.toList (a.toList.take na++b.toList.take nb))(h:na=0\/nb=0):Fin R a.toList b.toList (a.extract 0 na++b.extract 0 nb++out.reverse):=by
 unfold Fin;rw[xdk,xdk,zib,zib,xio];refine m.fin (.refl _) ?_;rcases h with rfl | rfl
 ·rw[List.take_zero,xly];exact T.ob.take _
 ·rw[List.take_zero,xes];exact T.oa.take _
theorem MH.firstB (T:TwoH R a.toList b.toList)(m:MH R (a.toList++b.toList) out.toList (a.toList.take na++b.toList.take nb))(h:nb=1):Fin R a.toList b.toList (b.extract 0 nb++a.extract 0 na++out.reverse):=by
 unfold Fin;rw[xdk,xdk,zib,zib,xio];refine m.fin xhd (xfl.mpr ⟨T.ob.take _,T.oa.take _,fun v hv z hz=>?_⟩);obtain⟨j,hj,e⟩:=zm hv;have:j=0:=by lia
 subst this;exact T.first v e z (xdt hz)
inductive H1 (R:Keyed->Nat) (a b:Array Keyed) (st:SortSt) (x:Nat):Option (Array Keyed)×Nat×Nat×Array Keyed×Nat->SortSt->Prop where
 | mk {na nb:Nat} {out:Array Keyed} {g:Nat} {st':SortSt} (sm:SmG st st') (m:MH R (a.toList++b.toList) out.toList (a.toList.take na++b.toList.take nb)) (a1:1<=na) (a2:na<=a.size) (b1:2<=nb) (b2:nb<=b.size) (hx:x+na+nb < a.size+b.size):H1 R a b st x (none,na,nb,out,g) st'
inductive H2 (R:Keyed->Nat) (a b:Array Keyed) (st:SortSt) (x:Nat):Option (Array Keyed)×Nat×Nat×Array Keyed×Nat×Nat->SortSt->Prop where
 | mk {na nb:Nat} {out:Array Keyed} {ac bc:Nat} {st':SortSt} (sm:SmG st st') (m:MH R (a.toList++b.toList) out.toList (a.toList.take na++b.toList.take nb)) (a1:1<=na) (a2:na<=a.size) (b1:2<=nb) (b2:nb<=b.size) (hx:na+nb<=x):H2 R a b st x (none,na,nb,out,ac,bc) st'
inductive H3 (R:Keyed->Nat) (a b:Array Keyed) (st:SortSt) (x y:Nat):Option (Array Keyed)×Nat×Nat×Array Keyed×Nat×Nat×Nat->SortSt->Prop where
 | mk {na nb:Nat} {out:Array Keyed} {g ac bc:Nat} {st':SortSt} (sm:SmG st st') (m:MH R (a.toList++b.toList) out.toList (a.toList.take na++b.toList.take nb)) (a1:1<=na) (a2:na<=a.size) (b1:2<=nb) (b2:nb<=b.size) (hx:y+na+nb<=x):H3 R a b st x y (none,na,nb,out,g,ac,bc) st'
theorem zri {st:SortSt}{Q:Array Keyed->SortSt->Prop}(O:Orc prog w A s κ a₀ R)(hk:kindOf st=κ)(ma:∀x∈a.toList,x∈a₀.toList)(mb:∀x∈b.toList,x∈a₀.toList)(T:TwoH R a.toList b.toList)(ha:1<=a.size)(hb:1<=b.size)
  (lst:∀x,a.toList[a.size - 1]?=some x->∀y∈b.toList,R y<=R x)(h:∀r st',SmG st st'->Fin R a.toList b.toList r->Q r st'):wpS (model prog w) A E s (mergeHi' a b) Q st:=by
 have atA:∀(i:Nat) (hi:i < a.size),a[i]?=some a[i]/\a.toList[i]?=some a[i]/\a[i]∈a₀.toList:=fun i hi=>⟨getElem?_pos a i hi,by rw[xbs];exact getElem?_pos a i hi,ma _ (by simp)⟩
 have atB:∀(i:Nat) (hi:i < b.size),b[i]?=some b[i]/\b.toList[i]?=some b[i]/\b[i]∈a₀.toList:=fun i hi=>⟨getElem?_pos b i hi,by rw[xbs];exact getElem?_pos b i hi,mb _ (by simp)⟩
 have upA:∀n,n<=a.size->UpA R a 0 (0+n):=fun n hn p q a1 a2 a3=>by
  have hq:q < a.size:=xbh a3 (xbb (xdi (xdz n)) hn);have e1:=(atA p (xcx a2 hq)).2.1;have e2:=(atA q hq).2.1;rw[zbb e1,zbb e2];exact T.oa.at e1 e2 a2
 have upB:∀n,n<=b.size->UpA R b 0 (0+n):=fun n hn p q a1 a2 a3=>by
  have hq:q < b.size:=xbh a3 (xbb (xdi (xdz n)) hn);have e1:=(atB p (xcx a2 hq)).2.1;have e2:=(atB q hq).2.1;rw[zbb e1,zbb e2];exact T.ob.at e1 e2 a2
 obtain⟨x0,f0,f1⟩:∃x,a[a.size - 1]?=some x/\a.toList[a.size - 1]?=some x:=⟨_,(atA (a.size - 1) (xhz ha Nat.one_pos)).1,(atA (a.size - 1) (xhz ha Nat.one_pos)).2.1⟩
 have start:MH R (a.toList++b.toList) (#[x0]:Array Keyed).toList (a.toList.take (a.size - 1)++b.toList.take b.size):=by
  have z:MH R (a.toList++b.toList) (#[]:Array Keyed).toList (a.toList.take (a.size - 1+1)++b.toList.take b.size):=by
   refine⟨?_,List.Pairwise.nil,by simp⟩;rw[xgw ha,xdm (by simp),xdm (by simp)];simp
  exact z.pushA T f1 fun y hy=>lst x0 f1 y (xdt hy)
 refine xbi (xjx (xic ⟨rfl,xbi (zil f0 (zbih (fun c1=>?_) (fun c2=>?_) fun c1 c2=>?_))⟩))
 ·exact xbj (h _ _ (.refl _) (start.done T (.inl (by simpa using c1))))
 ·exact xbj (h _ _ (.refl _) (start.firstB T (by simpa using c2)))
 simp only[xgs] at c1 c2;refine xbi (xhx ?_);refine xbi (xfi (xdp (I:=H1 R a b st) (Q:=Dn R a b st) ?_ ?_ (.mk (.refl _) start (by lia) (by lia) (by lia) (xbf _) (by lia))) ?_)
 ·rintro x c st1 x1 x2 @⟨na,nb,out,g,st1,sm1,m,a1,a2,b1,b2,hx⟩;dsimp only;refine xbi (xfi (xdp (I:=fun _=>H2 R a b st (na+nb)) (Q:=fun c st'=>Dn R a b st c st'\/H2 R a b st (na+nb) c st') ?_ ?_ (.mk sm1 m a1 a2 b1 b2 (xbf _))) ?_)
  ·rintro x' c st2 _ _ @⟨na',nb',out,ac,bc,st2,sm2,m,g1,g2,g3,g4,hp⟩;obtain⟨p,rfl⟩:∃p,na'=p+1:=⟨na' - 1,(xgw g1).symm⟩
   obtain⟨q,rfl⟩:∃q,nb'=q+1:=⟨nb' - 1,(xgw (xdf g3)).symm⟩
   dsimp only;have ea:=(atA p g2).1;have ela:=(atA p g2).2.1;have mea:=(atA p g2).2.2;have eb:=(atB q g4).1;have elb:=(atB q g4).2.1;have meb:=(atB q g4).2.2;refine w_el eb (w_el ea (zyx O (sm2.kind.trans hk) meb mea (fun cw=>w_el ea ?_) fun cw=>w_el eb ?_))
   ·skip
    have m2:=m.pushA T ela fun z hz=>by
     obtain⟨j,hj,e⟩:=zm hz;exact xbb (T.ob.at e elb (xce hj)) (xbv cw)
    refine w_if (fun c5=>xbj (.inl (.mk sm2 (m2.done T (.inl (eq_of_beq c5)))))) fun c5=>?_
    rw[xgs] at c5;have a3:1<=p:=xkt c5;have a4:p<=a.size:=xdf g2;have a5:p+(q+1)<=na+nb:=xbb (Nat.add_le_add_right (Nat.le_succ p) _) hp;exact w_if (fun _=>xbj (.inr (.mk sm2 m2 a3 a4 g3 g4 a5))) fun _=>xbj (.mk sm2 m2 a3 a4 g3 g4 a5)
   ·skip
    have m2:=m.pushB T elb fun z hz=>by
     obtain⟨j,hj,e⟩:=zm hz;exact xbb (T.oa.at e ela (xce hj)) cw
    refine w_if (fun c5=>xbj (.inl (.mk sm2 (m2.firstB T (eq_of_beq c5))))) fun c5=>?_
    rw[xgs] at c5;have a3:2<=q:=xcy (Nat.le_of_succ_le_succ g3) (xda c5);have a4:q<=b.size:=xdf g4;have a5:p+1+q<=na+nb:=xdf hp;exact w_if (fun _=>xbj (.inr (.mk sm2 m2 g1 g2 a3 a4 a5))) fun _=>xbj (.mk sm2 m2 g1 g2 a3 a4 a5)
  ·exact fun c st2 k=>.inr k
  ·rintro c st2 (⟨sm2,f⟩ | @⟨na',nb',out,ac,bc,st2,sm2,m,g1,g2,g3,g4,hp⟩)
   ·exact xbj (.mk sm2 f)
   ·dsimp only;refine xbi (xjx (xic ⟨rfl,?_⟩));refine xbi (xfi (xdp (I:=H3 R a b st (na+nb)) (Q:=fun c st'=>Dn R a b st c st'\/H3 R a b st (na+nb) 1 c st') ?_ ?_ (.mk sm2 m g1 g2 g3 g4 (by rw[xdz];exact hp))) ?_)
    ·rintro x' c st3 _ x2' @⟨na',nb',out,g',ac,bc,st3,sm3,m,g1,g2,g3,g4,hp⟩;obtain⟨q,rfl⟩:∃q,nb'=q+1:=⟨nb' - 1,(xgw (xdf g3)).symm⟩
     dsimp only;have eb:=(atB q g4).1;have elb:=(atB q g4).2.1;have meb:=(atB q g4).2.2;generalize g' - 1=g1;generalize g'=y;revert g1;revert y
     refine zbig ?_;intro gg;refine xbi (zrf fun st4 sg=>?_);have sm4:=sm3.trans sg;refine w_el eb (xbi (zel O (sm4.kind.trans hk) meb (fun i hi=>⟨_,(atA (0+i) (by lia)).1,(atA (0+i) (by lia)).2.2⟩) (by lia) (upA na' g2) fun k1 cut1=>?_));have m5:=(m.galA T elb g2 cut1).1;have u5:=(m.galA T elb g2 cut1).2;have hk1:=cut1.1;dsimp only;refine zbii (fun c6=>?_) (fun c6 c7=>?_) fun hh=>?_
     ·have z:k1=na':=by lia
      subst z;rw[show out++(a.extract k1 k1).reverse=out by simp[xhc]]
     ·exact xbj (.inl (.mk sm4 (m5.done T (.inl (eq_of_beq c7)))))
     have g5:1<=k1:=by
      by_cases c6:na' - k1 > 0
      ·have:=hh c6;simp at this;lia
      ·lia
     have g6:k1<=a.size:=xbb hk1 g2;have hp5:x'+k1+(q+1)<=na+nb:=by lia
     clear hh hk1 cut1;generalize out++(a.extract k1 na').reverse=out5 at m5 ⊢;obtain⟨p,rfl⟩:∃p,k1=p+1:=⟨k1 - 1,(xgw g5).symm⟩
     simp only[Nat.add_sub_cancel];have m6:=m5.pushB T elb u5;have ea:=(atA p g6).1;have ela:=(atA p g6).2.1;have mea:=(atA p g6).2.2;refine w_el eb (w_if (fun c9=>xbj (.inl (.mk sm4 (m6.firstB T (eq_of_beq c9))))) fun c9=>w_el ea ?_);rw[xgs] at c9;refine xbi (zel O (sm4.kind.trans hk) mea (fun i hi=>⟨_,(atB (0+i) (by lia)).1,(atB (0+i) (by lia)).2.2⟩) (by lia) (upB q (xdf g4)) fun k2 cut2=>?_);have m7:=(m6.galB T ela (xdf g4) cut2).1;have u7:=(m6.galB T ela (xdf g4) cut2).2;have hk2:=cut2.1;dsimp only;refine zyy (fun d6=>?_) (fun d6 d7=>?_) (fun d6 d9=>?_) fun hh=>?_
     ·have z2:k2=q:=by lia
      subst z2;simp only[xil (xbb (xhc _ _) (xbf _)),Array.reverse_empty,xks]
     ·exact xbj (.inl (.mk sm4 (m7.firstB T (eq_of_beq d7))))
     ·exact xbj (.inl (.mk sm4 (m7.done T (.inr (eq_of_beq d9)))))
     have h20:2<=k2:=by
      by_cases d6:q - k2 > 0
      ·have:=hh d6;simp at this;lia
      ·lia
     have m8:=m7.pushA T ela u7;refine w_el ea (w_if (fun d8=>xbj (.inl (.mk sm4 (m8.done T (.inl (eq_of_beq d8)))))) fun d8=>?_);rw[xgs] at d8;have a3:1<=p:=xkt d8;have a4:p<=a.size:=xdf g6;have a5:k2<=b.size:=xbb hk2 (xdf g4);have a6:x'+1+p+k2<=na+nb:=by lia
     exact w_if (fun _=>xbj (.inr (.mk sm4 m8 a3 a4 h20 a5 (by lia)))) fun _=>xbj (.mk sm4 m8 a3 a4 h20 a5 a6)
    ·rintro c st3 ⟨sm3,m,g1,g2,g3,g4,hp⟩;exact .inr (.mk sm3 m g1 g2 g3 g4 (by lia))
    ·rintro c st3 (⟨sm3,f⟩ | @⟨na',nb',out,g',ac,bc,st3,sm3,m,g1,g2,g3,g4,hp⟩)
     ·exact xbj (.mk sm3 f)
     ·have h9:x+1+na'+nb' < a.size+b.size:=by lia
      exact xbi (zrf fun st4 sg=>xbj (.mk (sm3.trans sg) m g1 g2 g3 g4 h9))
 ·rintro c st1 ⟨sm1,m,a1,a2,b1,b2,hx⟩;lia
 ·rintro c st1 ⟨sm1,f⟩;exact xbj (h _ st1 sm1 f)
end
theorem zos:∀(l:List Keyed) (n off:Nat) (xs:Array Keyed),off+n+l.length<=xs.size->∀i,((l.zipIdx n).foldl (fun a p=>a.setIfInBounds (off+p.2) p.1) xs)[i]?=if off+n<=i/\i < off+n+l.length then l[i - (off+n)]? else xs[i]?
 | [],n,off,xs,h,i=>by
  rw[if_neg (by simp)]
  rfl
 | x::l,n,off,xs,h,i=>by
  rw[List.zipIdx_cons,xhe];rw[xby] at h;have e1:off+(n+1)+l.length=off+n+(l.length+1):=Nat.succ_add_eq_add_succ (off+n) l.length;rw[zos l (n+1) off _ (by rw[Array.size_setIfInBounds];exact xbb (xdi e1) h) i];rw[xby];by_cases c:off+(n+1)<=i/\i < off+(n+1)+l.length
  ·rw[if_pos c,if_pos ⟨xdf c.1,xgd c.2 e1⟩,show i - (off+n)=i - (off+(n+1))+1 from(xgw (xfm c.1)).symm,xjl]
  ·rw[if_neg c];by_cases c2:i=off+n
   ·rw[if_pos ⟨xdi c2.symm,xcx (xdi c2) (xhw (Nat.succ_pos _))⟩,c2,xke,List.getElem?_cons_zero];exact xgj (xbh (xhw (Nat.succ_pos l.length)) h)
   ·rw[if_neg fun z=>c ⟨xcy z.1 (xda c2),xgd z.2 e1.symm⟩];exact xhu (fun z=>c2 z.symm)
theorem zvt {m xs:Array Keyed}{off:Nat}(h:off+m.size<=xs.size):(m.toList.zipIdx.foldl (fun a p=>a.setIfInBounds (off+p.2) p.1) xs).toList=xs.toList.take off++m.toList++xs.toList.drop (off+m.size):=by
 apply xlj;intro i;rw[xbs,zos m.toList 0 off xs (by simpa using h) i];simp only[xjd,xca];have l1:(xs.toList.take off).length=off:=by rw[xcm,xca];exact xei (xbb (xbz _ _) h)
 by_cases c:off<=i/\i < off+m.size
 ·rw[if_pos c,xci,xdo (xbb (xdi l1) c.1),l1,xcw (by rw[xca];exact xdr c.1 c.2)]
 ·rw[if_neg c];by_cases c2:i < off
  ·rw[xci,xcw (xgd c2 l1.symm),List.getElem?_take,if_pos c2,xbs]
  ·have h3:off+m.size<=i:=xcb fun z=>c ⟨xcb c2,z⟩
   rw[xdo (by rw[xbk,l1,xca];exact h3),xfh];simp only[xbk,l1,xca];rw[xcj h3,xbs]
section
variable {prog:Program}{w:World}{A:Around}{E:Value->Shared->Prop}{s:Shared}{κ:SortKind}{a₀:Array Keyed}{R:Keyed->Nat}
theorem zuh {xs:Array Keyed}{i j:Nat}(up:UpA R xs i j)(hj:j<=xs.size):Ord R (xs.extract i j).toList:=by
 rw[zbd];refine xfa.mpr fun p q hp hq hpq=>?_
 simp only[xcm,xgn,xca] at hp hq;simp only[xli,xlh,Array.getElem_toList];have:=up (i+p) (i+q) (xbz _ _) (xch (xbv hpq) i) (xdv (xbh hq (xhc _ _)));rw[zcr (getElem?_pos xs (i+p) (xdv (xbh hp (xfy _ _)))),zcr (getElem?_pos xs (i+q) (xdv (xbh hq (xfy _ _))))] at this;exact this
theorem zgu {xs:Array Keyed}{i j:Nat}{x:Keyed}(h:x∈(xs.extract i j).toList):∃q,i<=q/\q < j/\xs[q]?=some x:=by
 rw[zbd] at h;obtain⟨q,hq,e⟩:=zm h;rw[xfh,xbs] at e;exact⟨i+q,xbz _ _,xdv hq,e⟩
theorem zbbt {xs:Array Keyed}{i j q:Nat}(h:q < j - i):(xs.extract i j).toList[q]?=xs[i+q]?:=by
 rw[zbd,List.getElem?_take,if_pos h,xfh,xbs]
structure Mg (R:Keyed->Nat) (xs ys:Array Keyed) (lo hi:Nat):Prop where
 perm:ys.Perm xs
 out:Out ys xs lo hi
 up:UpA R ys lo hi
theorem zsl {xs m:Array Keyed}{sa sb ea k nb':Nat}{y0 xl:Keyed}(hsb:sb<=ea)(hea:ea<=xs.size)(hk:sa+k < sb)(hnb:sb+nb'<=ea)(hnb1:1<=nb')(upA:UpA R xs sa sb)(upB:UpA R xs sb ea)
  (e0:xs[sb]?=some y0)(el:xs[sb - 1]?=some xl)(c1:Cut false R y0 xs sa (sb - sa) k)(c2:Cut true R xl xs sb (ea - sb) nb')
  (f:Fin R (xs.extract (sa+k) sb).toList (xs.extract sb (sb+nb')).toList m):Mg R xs (m.toList.zipIdx.foldl (fun a p=>a.setIfInBounds (sa+k+p.2) p.1) xs) sa ea:=by
 have lx:(xs.extract (sa+k) sb).toList.length=sb - (sa+k):=by rw[zbd,xcm,xgn,xca];exact xei (xfk (xbb hsb hea) _)
 have ly:(xs.extract sb (sb+nb')).toList.length=nb':=by rw[zbd,xcm,xgn,xca,xcv];exact xei (xeq (xbb hnb hea))
 have lm:m.size=sb+nb' - (sa+k):=by
  have:=f.1.length_eq;rw[xbk,lx,ly,xca] at this;exact this.trans (Nat.sub_add_comm (xbv hk)).symm
 have he:sa+k+m.size=sb+nb':=by rw[lm];exact xcj (xbb (xbv hk) (xbz _ _))
 have hsz:sa+k+m.size<=xs.size:=by rw[he];exact xbb hnb hea
 have hs1:=xde hk;have s1:sb - 1 < sb:=xhz (xjn hk) Nat.one_pos;have g:∀i,(m.toList.zipIdx.foldl (fun a p=>a.setIfInBounds (sa+k+p.2) p.1) xs)[i]?=if sa+k<=i/\i < sb+nb' then m.toList[i - (sa+k)]? else xs[i]?:=fun i=>by
  have:=zos m.toList 0 (sa+k) xs (by simpa using hsz) i;simp only[xjd,xca] at this;rw[he] at this;exact this
 have mid:∀v∈m.toList,R y0<=R v/\R v<=R xl:=fun v hv=>by
  rcases xbt.mp (f.1.mem_iff.mp hv) with hv | hv
  ·obtain⟨q,q1,q2,e⟩:=zgu hv;have q0:=xbb (xbz _ _) q1;have h1:=c1.2.2 (q - sa) (xeq q1) (xeh q0 q2);rw[xcj q0,zcr e] at h1;have h2:=upA q (sb - 1) q0 (xde q2) s1;rw[zcr e,zcr el] at h2;have h1':R y0 < R v:=h1;exact⟨xbv h1',h2⟩
  ·obtain⟨q,q1,q2,e⟩:=zgu hv;have h1:=upB sb q (xbf _) q1 (xbh q2 hnb);rw[zcr e,zcr e0] at h1;have h2:=c2.2.1 (q - sb) (xdr q1 q2);rw[xcj q1,zcr e] at h2;have h2':R v < R xl:=h2;exact⟨h1,xbv h2'⟩
 have low:∀i,sa<=i->i < sa+k->kA R xs i<=R y0:=fun i a1 a2=>by
  have:=c1.2.1 (i - sa) (xdr a1 a2);rw[xcj a1] at this;exact this
 have hig:∀i,sb+nb'<=i->i < ea->R xl<=kA R xs i:=fun i a1 a2=>by
  have i0:=xbb (xbz _ _) a1;have:=c2.2.2 (i - sb) (xeq a1) (xeh i0 a2);rw[xcj i0] at this;exact this
 have kk:∀i,kA R (m.toList.zipIdx.foldl (fun a p=>a.setIfInBounds (sa+k+p.2) p.1) xs) i=if sa+k<=i/\i < sb+nb' then kA R m (i - (sa+k)) else kA R xs i:=fun i=>by
  have:=g i;split
  ·rename_i c;rw[if_pos c,xbs] at this;exact zck this
  ·rename_i c;rw[if_neg c] at this;exact zck this
 have mm:∀i,i < m.size->∃v,m.toList[i]?=some v/\v∈m.toList:=fun i hi=>⟨m.toList[i]'(by simpa using hi),xbg _,xdw _⟩
 refine⟨?_,fun i hi=>?_,fun i j a1 a2 a3=>?_⟩
 ·refine xfx.mpr ?_;rw[zvt hsz,he];have split:xs.toList=xs.toList.take (sa+k)++((xs.extract (sa+k) sb).toList++(xs.extract sb (sb+nb')).toList)++xs.toList.drop (sb+nb'):=by
   rw[zbd,zbd];rw[xcv]
   conv=>lhs;rw[← xcr (sa+k) xs.toList,← xcr (sb - (sa+k)) (xs.toList.drop (sa+k)),xjg,xcj (xbv hk),← xcr nb' (xs.toList.drop sb),xjg]
   simp only[xci]
  conv=>rhs;rw[split]
  exact xie _ (xgb _ f.1)
 ·rw[g i,if_neg fun z=>hi.elim (fun h=>xem (xbb (xbz sa k) z.1) h) fun h=>xem h (xbh z.2 hnb)]
 ·rw[kk,kk];by_cases ci:sa+k<=i/\i < sb+nb'
  ·rw[if_pos ci];obtain⟨v,ev,mv⟩:=mm (i - (sa+k)) (by rw[lm];exact xeh ci.1 ci.2);rw[zbb ev];by_cases cj:sa+k<=j/\j < sb+nb'
   ·rw[if_pos cj];obtain⟨u,eu,mu⟩:=mm (j - (sa+k)) (by rw[lm];exact xeh cj.1 cj.2);rw[zbb eu];exact f.2.at ev eu (xfk a2 _)
   ·rw[if_neg cj];exact xbb (mid v mv).2 (hig j (xcb fun z=>cj ⟨xbb ci.1 a2,z⟩) a3)
  ·rw[if_neg ci];by_cases ci2:i < sa+k
   ·have h1:=low i a1 ci2;by_cases cj:sa+k<=j/\j < sb+nb'
    ·rw[if_pos cj];obtain⟨u,eu,mu⟩:=mm (j - (sa+k)) (by rw[lm];exact xeh cj.1 cj.2);rw[zbb eu];exact xbb h1 (mid u mu).1
    ·rw[if_neg cj];by_cases cj2:j < sa+k
     ·exact upA i j a1 a2 (xij cj2 hk)
     ·have h2:=hig j (xcb fun z=>cj ⟨xcb cj2,z⟩) a3;have h3:R y0<=R xl:=by
       have s0:=xbb (xbz _ _) hs1;have h4:=c1.2.2 (sb - 1 - sa) (xeq hs1) (xeh s0 s1);rw[xcj s0,zcr el] at h4;exact xbv h4
      exact xbb h1 (xbb h3 h2)
   ·have hi2:sb+nb'<=i:=xcb fun z=>ci ⟨xcb ci2,z⟩
    rw[if_neg fun z=>xem (xbb hi2 a2) z.2];exact upB i j (xbb (xbz _ _) hi2) a2 a3
end
section
variable {prog:Program}{w:World}{A:Around}{E:Value->Shared->Prop}{s:Shared}{κ:SortKind}{a₀:Array Keyed}{R:Keyed->Nat}
theorem zbjh {x st:SortSt}{Q:Unit->SortSt->Prop}(h:Q () x):wpS (model prog w) A E s (set x:StateT SortSt Sem PUnit) Q st:=by
 unfold wpS;rw[StateT.run_set];exact xbc ⟨rfl,h⟩
theorem zrj {i sa na pw sb nb pw':Nat}{st:SortSt}{Q:Bool->SortSt->Prop}(O:Orc prog w A s κ a₀ R)(b:B κ a₀ st)(p1:(pendingOf st)[i]?=some (sa,na,pw))(p2:(pendingOf st)[i+1]?=some (sb,nb,pw'))(hsb:sb=sa+na)(hna:1<=na)(hnb:1<=nb)(hz:sb+nb<=a₀.size)
  (upA:UpA R (arrOf st) sa sb)(upB:UpA R (arrOf st) sb (sb+nb))
  (h:∀st',B κ a₀ st'->pendingOf st'=((pendingOf st).setIfInBounds i (sa,na+nb,pw)).eraseIdxIfInBounds (i+1)->Out (arrOf st') (arrOf st) sa (sb+nb)->UpA R (arrOf st') sa (sb+nb)->Q true st'):wpS (model prog w) A E s (mergeAt' i) Q st:=by
 have hsz:=b.size;have bs:sb < a₀.size:=xbh (xhw hnb) hz;refine xbi (xhx ?_);dsimp only;have q1:(sortPriv% PySem.Builtin.SortState.pending) st=pendingOf st:=rfl;rw[q1,p1,p2];dsimp only;refine xbi (zbjh ?_);obtain⟨y0,e0,my0⟩:=b.mem (i:=sb) bs;have inA:∀q,q < a₀.size->∃x,(arrOf st)[q]?=some x/\x∈a₀.toList:=fun q hq=>b.mem hq
 refine xbi (zil e0 ?_);refine xbi (zel O b.kind my0 (fun q hq=>inA (sa+q) (xij (xgd (xeg hq sa) hsb.symm) bs)) hna (by rw[← hsb];exact upA) fun k c1=>?_);dsimp only;have hk:=c1.1;have c1':Cut false R y0 (arrOf st) sa (sb - sa) k:=by rw[show sb - sa=na from by rw[hsb,xcv]];exact c1
 by_cases d1:na - k=0
 ·rw[if_pos (by simpa using d1)];refine xbj (h _ ⟨b.perm,b.kind,b.failed⟩ rfl (Out.refl _ _ _) fun p q a1 a2 a3=>?_);by_cases z1:q < sb
  ·exact upA p q a1 a2 z1
  ·by_cases z2:p < sb
   ·have h1:=c1.2.1 (p - sa) (xbh (xdr a1 (xgd z2 hsb)) (Nat.le_of_sub_eq_zero d1));rw[xcj a1] at h1;have h2:=upB sb q (xbf _) (xcb z1) a3;rw[zcr e0] at h2;exact xbb h1 h2
   ·exact upB p q (xcb z2) a2 a3
 ·rw[if_neg (by simpa using d1)];have hk2:sa+k < sb:=xgd (xeg (xfz fun z=>d1 (Nat.sub_eq_zero_of_le z)) sa) hsb.symm;have s1:sb - 1 < sb:=xhz (xjn hk2) Nat.one_pos;obtain⟨xl,el,mxl⟩:=inA (sb - 1) (xij s1 bs);have el':(arrOf st)[sa+k+(na - k) - 1]?=some xl:=by rw[Nat.add_assoc,xcj hk,← hsb];exact el
  refine xbi (zil el' ?_);refine xbi (zel O b.kind mxl (fun q hq=>inA (sb+q) (xbh (xeg hq sb) hz)) (xhz hnb Nat.one_pos) upB fun nb' c2=>?_);dsimp only;have hn2:=c2.1;have c2':Cut true R xl (arrOf st) sb (sb+nb - sb) nb':=by rw[xcv];exact c2
  by_cases d2:nb'=0
  ·rw[if_pos (by simpa using d2)];refine xbj (h _ ⟨b.perm,b.kind,b.failed⟩ rfl (Out.refl _ _ _) fun p q a1 a2 a3=>?_);subst d2;by_cases z1:q < sb
   ·exact upA p q a1 a2 z1
   ·by_cases z2:p < sb
    ·have h1:=upA p (sb - 1) a1 (xde z2) s1;rw[zcr el] at h1;have h2:=c2.2.2 (q - sb) (xec _) (xdr (xcb z1) a3);rw[xcj (xcb z1)] at h2;exact xbb h1 h2
    ·exact upB p q (xcb z2) a2 a3
  ·rw[if_neg (by simpa using d2)];have hn1:1<=nb':=xkt d2;have hez:sb<=(arrOf st).size:=by rw[hsz];exact xbv bs
   have hbz:sb+nb<=(arrOf st).size:=by rw[hsz];exact hz
   have hb2:sb+nb'<=sb+nb:=xch hn2 sb;have oa:Ord R ((arrOf st).extract (sa+k) sb).toList:=zuh (fun p q a1 a2 a3=>upA p q (xbb (xbz _ _) a1) a2 a3) hez;have ob:Ord R ((arrOf st).extract sb (sb+nb')).toList:=zuh (fun p q a1 a2 a3=>upB p q a1 a2 (xbh a3 hb2)) (xbb hb2 hbz);have ma:∀x∈((arrOf st).extract (sa+k) sb).toList,x∈a₀.toList:=fun x hx=>by
    obtain⟨q,q1,q2,e⟩:=zgu hx;obtain⟨x',e',m'⟩:=inA q (xij q2 bs);rw[e] at e';cases e';exact m'
   have mb:∀x∈((arrOf st).extract sb (sb+nb')).toList,x∈a₀.toList:=fun x hx=>by
    obtain⟨q,q1,q2,e⟩:=zgu hx;obtain⟨x',e',m'⟩:=inA q (xbh q2 (xbb hb2 hz));rw[e] at e';cases e';exact m'
   have sx:((arrOf st).extract (sa+k) sb).size=sb - (sa+k):=by rw[Array.size_extract,xei hez]
   have sy:((arrOf st).extract sb (sb+nb')).size=nb':=by rw[Array.size_extract,xei (xbb hb2 hbz),xcv]
   have fst:∀y,((arrOf st).extract sb (sb+nb')).toList[0]?=some y->∀x∈((arrOf st).extract (sa+k) sb).toList,R y<=R x:=fun y hy x hx=>by
    rw[zbbt (by rw[xcv];exact hn1),xjd,e0] at hy;cases hy;obtain⟨q,q1,q2,e⟩:=zgu hx;have q0:=xbb (xbz _ _) q1;have:=c1.2.2 (q - sa) (xeq q1) (xdr q0 (xgd q2 hsb));rw[xcj q0,zcr e] at this;exact xbv this
   have lst:∀x,((arrOf st).extract (sa+k) sb).toList[sb - (sa+k) - 1]?=some x->∀y∈((arrOf st).extract sb (sb+nb')).toList,R y<=R x:=fun x hx y hy=>by
    rw[zbbt (xhz (xfm hk2) Nat.one_pos),show sa+k+(sb - (sa+k) - 1)=sb - 1 from by rw[← Nat.add_sub_assoc (xfm hk2),xcj (xbv hk2)],el] at hx;cases hx;obtain⟨q,q1,q2,e⟩:=zgu hy;have:=c2.2.1 (q - sb) (xdr q1 q2);rw[xcj q1,zcr e] at this;exact xbv this
   have post:∀m st2,SmG st st2\/True->Fin R ((arrOf st).extract (sa+k) sb).toList ((arrOf st).extract sb (sb+nb')).toList m->Mg R (arrOf st) (m.toList.zipIdx.foldl (fun a p=>a.setIfInBounds (sa+k+p.2) p.1) (arrOf st)) sa (sb+nb):=fun m _ _ f =>
    zsl (xbz _ _) hbz hk2 hb2 hn1 upA upB e0 el c1' c2' f
   by_cases d3:na - k<=nb'
   ·rw[if_pos d3];refine xbi (zrh O b.kind ma mb ⟨oa,ob,fun x hx=>lst x (by rw[xca,sx] at hx;exact hx)⟩ (by show 1<=((arrOf st).extract (sa+k) sb).size;rw[sx];exact xfm hk2) (by show 1<=((arrOf st).extract sb (sb+nb')).size;rw[sy];exact hn1) fst fun m st2 sg f=>?_);have mg:=post m st2 (.inr trivial) f;refine xbi (xgt (xbi (xhx ?_)));have a2:arrOf st2=arrOf st:=sg.arr;have f2:failedOf st2=none:=sg.failed.trans b.failed;refine xbj (?_:Q ((failedOf st2).isNone) (setArr st2 (m.toList.zipIdx.foldl (fun a p=>a.setIfInBounds (sa+k+p.2) p.1) (arrOf st2))));rw[f2,a2];exact h _ ⟨mg.perm.trans b.perm,sg.kind.trans b.kind,f2⟩ sg.pend mg.out mg.up
   ·rw[if_neg d3];refine xbi (zri O b.kind ma mb ⟨oa,ob,fst⟩ (by show 1<=((arrOf st).extract (sa+k) sb).size;rw[sx];exact xfm hk2) (by show 1<=((arrOf st).extract sb (sb+nb')).size;rw[sy];exact hn1) (fun x hx=>lst x (by rw[sx] at hx;exact hx)) fun m st2 sg f=>?_);have mg:=post m st2 (.inr trivial) f;refine xbi (xgt (xbi (xhx ?_)));have a2:arrOf st2=arrOf st:=sg.arr;have f2:failedOf st2=none:=sg.failed.trans b.failed;refine xbj (?_:Q ((failedOf st2).isNone) (setArr st2 (m.toList.zipIdx.foldl (fun a p=>a.setIfInBounds (sa+k+p.2) p.1) (arrOf st2))));rw[f2,a2];exact h _ ⟨mg.perm.trans b.perm,sg.kind.trans b.kind,f2⟩ sg.pend mg.out mg.up
end
noncomputable def Segs (R:Keyed->Nat) (xs:Array Keyed):Nat->List (Nat×Nat×Nat)->Nat->Prop
 | s,[],e=>s=e
 | s,p::r,e=>p.1=s/\1<=p.2.1/\UpA R xs s (s+p.2.1)/\Segs R xs (s+p.2.1) r e
section
variable {R:Keyed->Nat}{xs ys:Array Keyed}
theorem Segs.le:∀{l:List (Nat×Nat×Nat)} {s e:Nat},Segs R xs s l e->s+l.length<=e
 | [],s,e,h=>by cases h;simp
 | p::r,s,e,h=>by
  have:=Segs.le h.2.2.2;have:=h.2.1;simp;lia
theorem Segs.append:∀{l m:List (Nat×Nat×Nat)} {s e:Nat},Segs R xs s (l++m) e↔∃k,Segs R xs s l k/\Segs R xs k m e
 | [],m,s,e=>⟨fun h=>⟨s,rfl,h⟩,fun⟨k,h1,h2⟩=>by cases h1;exact h2⟩
 | p::r,m,s,e=>by
  constructor
  ·rintro⟨h1,h2,h3,h4⟩;obtain⟨k,g1,g2⟩:=Segs.append.mp h4;exact⟨k,⟨h1,h2,h3,g1⟩,g2⟩
  ·rintro⟨k,⟨h1,h2,h3,h4⟩,g2⟩;exact⟨h1,h2,h3,Segs.append.mpr ⟨k,h4,g2⟩⟩
theorem UpA.same {a b:Nat}(h:UpA R xs a b)(e:∀i,a<=i->i < b->ys[i]?=xs[i]?):UpA R ys a b:=fun i j a1 a2 a3=>by
 rw[zck (e i a1 (xcx a2 a3)),zck (e j (xbb a1 a2) a3)];exact h i j a1 a2 a3
theorem Segs.same:∀{l:List (Nat×Nat×Nat)} {s e:Nat},Segs R xs s l e->(∀i,s<=i->i < e->ys[i]?=xs[i]?)->Segs R ys s l e
 | [],s,e,h,_=>h
 | p::r,s,e,h,k=>by
  have:=Segs.le h.2.2.2;exact⟨h.1,h.2.1,h.2.2.1.same fun i a1 a2=>k i a1 (xbh a2 (xbb (xbz _ _) this)),Segs.same h.2.2.2 fun i a1 a2=>k i (xbb (xbz _ _) a1) a2⟩
theorem Segs.power {s e:Nat}:∀{l m:List (Nat×Nat×Nat)},l.map (fun p=>(p.1,p.2.1))=m.map (fun p=>(p.1,p.2.1))->Segs R xs s l e->Segs R xs s m e:=by
 intro l
 induction l generalizing s with
 | nil=>intro m h k;cases m with
  | nil=>exact k
  | cons=>cases h
 | cons p r ih=>intro m h k;cases m with
  | nil=>cases h
  | cons q t =>
   rw[xbn,xbn] at h;obtain⟨h1,h2⟩:=List.cons.inj h;obtain⟨g1,g2⟩:=Prod.mk.inj h1;obtain⟨k1,k2,k3,k4⟩:=k;rw[g2] at k2 k3 k4;exact⟨g1.symm.trans k1,k2,k3,ih h2 k4⟩
end
section
variable {prog:Program}{w:World}{A:Around}{E:Value->Shared->Prop}{s:Shared}{κ:SortKind}{a₀:Array Keyed}{R:Keyed->Nat}
theorem zwr {l:List (Nat×Nat×Nat)}{i:Nat}(h:i+1 < l.length):∃pre p q post,l=pre++p::q::post/\pre.length=i:=by
 refine⟨l.take i,l[i],l[i+1],l.drop (i+2),?_,by rw[xcm];exact xei (xbv (xex h))⟩
 conv=>lhs;rw[← xcr i l,xfb (xex h),xfb h]
theorem w_at {i e:Nat}{st:SortSt}{Q:Bool->SortSt->Prop}(O:Orc prog w A s κ a₀ R)(b:B κ a₀ st)(sg:Segs R (arrOf st) 0 (pendingOf st).toList e)(he:e<=a₀.size)(hi:i+1 < (pendingOf st).size)
  (h:∀st',B κ a₀ st'->Segs R (arrOf st') 0 (pendingOf st').toList e->(pendingOf st').size+1=(pendingOf st).size->(∀k,e<=k->(arrOf st')[k]?=(arrOf st)[k]?)->Q true st'):wpS (model prog w) A E s (mergeAt' i) Q st:=by
 obtain⟨pre,p,q,post,el,hl⟩:=zwr (l:=(pendingOf st).toList) (i:=i) (by simpa using hi);obtain⟨sa,na,pw⟩:=p;obtain⟨sb,nb,pw'⟩:=q;rw[el] at sg;obtain⟨k,g1,g2⟩:=Segs.append.mp sg;obtain⟨h1,h2,h3,h4,h5,h6,h7⟩:=g2;dsimp only at h1 h2 h3 h4 h5 h6 h7;subst h1;have l7:=Segs.le h7;have l1:=Segs.le g1;have p1:(pendingOf st)[i]?=some (sa,na,pw):=by rw[← xbs,el,xdo (xdi hl),hl,xke];rfl
 have p2:(pendingOf st)[i+1]?=some (sb,nb,pw'):=by rw[← xbs,el,xdo (xbb (xdi hl) (xbz i 1)),hl,xcv];rfl
 refine zrj O b p1 p2 h4 h2 h5 (by lia) (by rw[h4];exact h3) (by rw[h4];exact h6) fun st' b' pe ou up=>?_
 have pl:(pendingOf st').toList=pre++(sa,na+nb,pw)::post:=by
  rw[pe];rw[Array.toList_eraseIdxIfInBounds,Array.toList_setIfInBounds,el];rw[List.set_append_right _ _ (xdi hl),hl,xke,List.set_cons_zero,List.eraseIdx_append_of_length_le (xbb (xdi hl) (xbz i 1)),hl,xcv]
  rfl
 have keep:∀j,j < sa\/sb+nb<=j->(arrOf st')[j]?=(arrOf st)[j]?:=ou
 refine h st' b' ?_ ?_ fun j hj=>keep j (.inr (by lia))
 ·rw[pl];refine Segs.append.mpr ⟨sa,g1.same fun j a1 a2=>keep j (.inl a2),rfl,by show 1<=na+nb;lia,?_,?_⟩
  ·show UpA R (arrOf st') sa (sa+(na+nb));rw[show sa+(na+nb)=sb+nb by lia];exact up
  ·show Segs R (arrOf st') (sa+(na+nb)) post e;rw[show sa+(na+nb)=sa+na+nb by lia];exact h7.same fun j a1 a2=>keep j (.inr (by lia))
 ·have e1:(pendingOf st').size=(pendingOf st').toList.length:=by simp
  have e2:(pendingOf st).size=(pendingOf st).toList.length:=by simp
  rw[e1,e2,pl,el];simp only[xbk,xby];lia
theorem zbfo {c:Prop}[Decidable c]{a b n:Nat}(h1:a+1 < n)(h2:b+1 < n):(if c then a else b)+1 < n:=by split<;>assumption
theorem zui {g:Nat×Nat×Nat->Nat×Nat}{f:Nat×Nat×Nat->Nat×Nat×Nat}(h:∀x,g (f x)=g x):∀(l:List (Nat×Nat×Nat)) (i:Nat),(l.modify i f).map g=l.map g
 | [],i=>by simp
 | x::l,0=>by simp[h]
 | x::l,i+1=>by simp[zui h l i]
theorem Segs.mod {xs:Array Keyed}{s e:Nat}{l:List (Nat×Nat×Nat)}(h:Segs R xs s l e)(i c:Nat):Segs R xs s (l.modify i fun x=>(x.1,x.2.1,c)) e :=
 h.power (zui (g:=fun p=>(p.1,p.2.1)) (f:=fun x=>(x.1,x.2.1,c)) (fun _=>rfl) l i).symm
theorem zbdq {st:SortSt}{Q:Unit->SortSt->Prop}(O:Orc prog w A s κ a₀ R)(b:B κ a₀ st)(pe:pendingOf st=#[])(h2:2<=a₀.size)
  (h:∀st',B κ a₀ st'->UpA R (arrOf st') 0 a₀.size->Q () st'):wpS (model prog w) A E s sortRuns' Q st:=by
 have hz:=b.size;rw[sortRuns'_eq];refine xbi (xhx ?_);dsimp only;rw[hz]
 refine xbi (xfi (xdp (I:=fun x c st'=>∃lo,c=(none,lo)/\B κ a₀ st'/\Segs R (arrOf st') 0 (pendingOf st').toList lo/\lo<=a₀.size/\x<=lo)
  (Q:=fun c st'=>c=(none,a₀.size)/\B κ a₀ st'/\Segs R (arrOf st') 0 (pendingOf st').toList a₀.size) ?_ ?_ ⟨0,rfl,b,by rw[pe];rfl,by lia,by lia⟩) ?_)
 ·rintro x c st1 x1 x2 ⟨lo,rfl,b1,sg1,hlo,hx⟩;dsimp only;by_cases c1:lo ≥ a₀.size
  ·rw[if_pos c1];have:lo=a₀.size:=by lia
   subst this;exact xbj ⟨rfl,b1,sg1⟩
  rw[if_neg c1];refine xbi (zyz O b1 (by lia) (by lia) fun m st2 m1 m2 b2 sm2 up2=>?_);dsimp only;have sg2:Segs R (arrOf st2) 0 (pendingOf st2).toList lo:=by
   rw[sm2.pend];exact sg1.same fun i a1 a2=>sm2.out i (.inl a2)
  by_cases c2:m < minRun' a₀.size a₀.size 0
  ·rw[if_pos c2];refine xbi (xjx (xic ⟨rfl,?_⟩));refine xbi (zbji O b2 (by lia) m1 (by lia) up2 fun st3 b3 sm3 up3=>?_);have sg3:Segs R (arrOf st3) 0 (pendingOf st3).toList lo:=by
    rw[sm3.pend];exact sg2.same fun i a1 a2=>sm3.out i (.inl a2)
   have hn1:1<=min (a₀.size - lo) (minRun' a₀.size a₀.size 0):=by lia
   have hn2:lo+min (a₀.size - lo) (minRun' a₀.size a₀.size 0)<=a₀.size:=by lia
   simp only[xhh,xbu,xdc];generalize min (a₀.size - lo) (minRun' a₀.size a₀.size 0)=n at up3 hn1 hn2 sm3 ⊢;refine xbi (xhx ?_);cases hb:(pendingOf st3).back? with
   | none =>
    dsimp only;refine xbi (xgt (xbj ⟨lo+n,rfl,⟨b3.perm,b3.kind,b3.failed⟩,?_,hn2,by lia⟩));show Segs R (arrOf st3) 0 ((pendingOf st3).push (lo,n,0)).toList (lo+n);rw[xeo];exact Segs.append.mpr ⟨lo,sg3,rfl,hn1,up3,rfl⟩
   | some p =>
    obtain⟨s1,n1,p1⟩:=p;dsimp only;refine xbi (xfi (xdp (I:=fun _ c st'=>c=(none,())/\B κ a₀ st'/\Segs R (arrOf st') 0 (pendingOf st').toList lo/\UpA R (arrOf st') lo (lo+n)) (Q:=fun c st'=>c=(none,())/\B κ a₀ st'/\Segs R (arrOf st') 0 (pendingOf st').toList lo/\UpA R (arrOf st') lo (lo+n)) ?_ (fun _ _ hh=>hh) ⟨rfl,b3,sg3,up3⟩) ?_)
    ·rintro x' c st4 _ _ ⟨rfl,b4,sg4,up4⟩;refine xbi (xhx ?_);by_cases hs:(pendingOf st4).size > 1
     ·rw[if_pos hs,getElem?_pos (pendingOf st4) ((pendingOf st4).size - 2) (by lia)];obtain⟨s2,n2,p2⟩:=(pendingOf st4)[(pendingOf st4).size - 2]'(by lia);dsimp only;split
      ·exact xbj ⟨rfl,b4,sg4,up4⟩
      ·refine xbi (w_at O b4 sg4 hlo (by lia) fun st5 b5 sg5 _ k5=>?_);exact xbj ⟨rfl,b5,sg5,up4.same fun i a1 a2=>k5 i a1⟩
     ·rw[if_neg hs];exact xbj ⟨rfl,b4,sg4,up4⟩
    ·rintro c st4 ⟨rfl,b4,sg4,up4⟩;dsimp only;refine xbi (xgt (xbi (xgt (xbj ⟨lo+n,rfl,⟨b4.perm,b4.kind,b4.failed⟩,?_,hn2,by lia⟩))));refine(?_:Segs R (arrOf st4) 0 (((pendingOf st4).modify ((pendingOf st4).size - 1) fun x=>(x.1,x.2.1,_)).push (lo,n,0)).toList (lo+n));rw[xeo,Array.toList_modify];exact Segs.append.mpr ⟨lo,sg4.mod _ _,rfl,hn1,up4,rfl⟩
  ·rw[if_neg c2];have b3:=b2;have sg3:=sg2;have up3:=up2;have hn1:=m1;have hn2:lo+m<=a₀.size:=by lia
   generalize st2=st3 at b3 sg3 up3 ⊢;generalize m=n at up3 hn1 hn2 ⊢;refine xbi (xhx ?_);cases hb:(pendingOf st3).back? with
   | none =>
    dsimp only;refine xbi (xgt (xbj ⟨lo+n,rfl,⟨b3.perm,b3.kind,b3.failed⟩,?_,hn2,by lia⟩));show Segs R (arrOf st3) 0 ((pendingOf st3).push (lo,n,0)).toList (lo+n);rw[xeo];exact Segs.append.mpr ⟨lo,sg3,rfl,hn1,up3,rfl⟩
   | some p =>
    obtain⟨s1,n1,p1⟩:=p;dsimp only;refine xbi (xfi (xdp (I:=fun _ c st'=>c=(none,())/\B κ a₀ st'/\Segs R (arrOf st') 0 (pendingOf st').toList lo/\UpA R (arrOf st') lo (lo+n)) (Q:=fun c st'=>c=(none,())/\B κ a₀ st'/\Segs R (arrOf st') 0 (pendingOf st').toList lo/\UpA R (arrOf st') lo (lo+n)) ?_ (fun _ _ hh=>hh) ⟨rfl,b3,sg3,up3⟩) ?_)
    ·rintro x' c st4 _ _ ⟨rfl,b4,sg4,up4⟩;refine xbi (xhx ?_);by_cases hs:(pendingOf st4).size > 1
     ·rw[if_pos hs,getElem?_pos (pendingOf st4) ((pendingOf st4).size - 2) (by lia)];obtain⟨s2,n2,p2⟩:=(pendingOf st4)[(pendingOf st4).size - 2]'(by lia);dsimp only;split
      ·exact xbj ⟨rfl,b4,sg4,up4⟩
      ·refine xbi (w_at O b4 sg4 hlo (by lia) fun st5 b5 sg5 _ k5=>?_);exact xbj ⟨rfl,b5,sg5,up4.same fun i a1 a2=>k5 i a1⟩
     ·rw[if_neg hs];exact xbj ⟨rfl,b4,sg4,up4⟩
    ·rintro c st4 ⟨rfl,b4,sg4,up4⟩;dsimp only;refine xbi (xgt (xbi (xgt (xbj ⟨lo+n,rfl,⟨b4.perm,b4.kind,b4.failed⟩,?_,hn2,by lia⟩))));refine(?_:Segs R (arrOf st4) 0 (((pendingOf st4).modify ((pendingOf st4).size - 1) fun x=>(x.1,x.2.1,_)).push (lo,n,0)).toList (lo+n));rw[xeo,Array.toList_modify];exact Segs.append.mpr ⟨lo,sg4.mod _ _,rfl,hn1,up4,rfl⟩
 ·rintro c st1 ⟨lo,rfl,b1,sg1,hlo,hx⟩;have:lo=a₀.size:=by lia
  subst this;exact⟨rfl,b1,sg1⟩
 ·rintro c st1 ⟨rfl,b1,sg1⟩;dsimp only
  refine xbi (xfi (xdp (I:=fun x c st'=>c=(none,())/\B κ a₀ st'/\Segs R (arrOf st') 0 (pendingOf st').toList a₀.size/\(pendingOf st').size+x<=a₀.size)
   (Q:=fun c st'=>c=(none,())/\B κ a₀ st'/\Segs R (arrOf st') 0 (pendingOf st').toList a₀.size/\(pendingOf st').size<=1) ?_ ?_ ⟨rfl,b1,sg1,by have:=sg1.le;simp at this;lia⟩) ?_)
  ·rintro x c st2 x1 x2 ⟨rfl,b2,sg2,hp⟩;refine xbi (xhx ?_);by_cases c1:(pendingOf st2).size<=1
   ·rw[if_pos c1];exact xbj ⟨rfl,b2,sg2,c1⟩
   rw[if_neg c1];refine xbi (w_at O b2 sg2 (xbf _) ?_ fun st3 b3 sg3 p3 _=>xbj ⟨rfl,b3,sg3,by lia⟩);exact zbfo (by lia) (by lia)
  ·rintro c st2 ⟨rfl,b2,sg2,hp⟩;exact⟨rfl,b2,sg2,by lia⟩
  ·rintro c st2 ⟨rfl,b2,sg2,hp⟩;refine xbj (h st2 b2 ?_);cases hl:(pendingOf st2).toList with
   | nil=>rw[hl] at sg2;have:0=a₀.size:=sg2;lia
   | cons p r =>
    have:r=[]:=by
     have e2:(pendingOf st2).size=(pendingOf st2).toList.length:=by simp
     rw[e2,hl,xby] at hp;exact List.length_eq_zero_iff.mp (by lia)
    subst this;rw[hl] at sg2;obtain⟨_,_,g3,g4⟩:=sg2;have g4':0+p.2.1=a₀.size:=g4;rw[g4'] at g3;exact g3
end
end TS
namespace Srt
open PySem PySem.W PyProof.Rows
theorem znc {α β:Type}(f:α->β):∀{l m':List β},l.Perm m'->∀m:List α,m'=m.map f->∃p:List α,p.Perm m/\l=p.map f:=by
 intro l m' h
 induction h with
 | nil=>exact fun m e=>⟨[],by rw[List.map_eq_nil_iff.mp e.symm],rfl⟩
 | cons x _ ih =>
  intro m e;cases m with
  | nil=>cases e
  | cons y m =>
   rw[xbn] at e;injection e with e1 e2
   obtain⟨p,p1,p2⟩:=ih m e2;exact⟨y::p,p1.cons y,by rw[xbn,← p2,e1]⟩
 | swap x y l =>
  intro m e
  match m,e with
  | a::b::m,e =>
   rw[xbn,xbn] at e;injection e with e1 e2
   injection e2 with e2 e3
   exact⟨b::a::m,.swap _ _ _,by rw[xbn,xbn,e1,e2,e3]⟩
 | trans _ _ ih1 ih2 =>
  intro m e;obtain⟨p,p1,p2⟩:=ih2 m e;obtain⟨q,q1,q2⟩:=ih1 p p2;exact⟨q,q1.trans p1,q2⟩
noncomputable def Coh (r:Nat->Nat) (xs:List Value):Prop:=∀i j,i < xs.length->j < xs.length->xs.getD i Value.none=xs.getD j Value.none->r i=r j
open Classical in
noncomputable def rankV (r:Nat->Nat) (xs:List Value) (x:Keyed):Nat:=if h:∃i,i < xs.length/\xs.getD i Value.none=x.1 then r h.choose else 0
theorem zka {r:Nat->Nat}{xs:List Value}(coh:Coh r xs){x:Keyed}{i:Nat}(hi:i < xs.length)(e:xs.getD i Value.none=x.1):rankV r xs x=r i:=by
 have h:∃i,i < xs.length/\xs.getD i Value.none=x.1:=⟨i,hi,e⟩
 unfold rankV;rw[dif_pos h];exact coh _ _ h.choose_spec.1 hi (h.choose_spec.2.trans e.symm)
theorem zoc (xs:List Value):(xs.toArray.zip xs.toArray).toList=(List.range xs.length).map fun i=>((xs.getD i Value.none,xs.getD i Value.none):Keyed):=by
 rw[Array.toList_zip];apply List.ext_getElem
 ·simp
 ·intro i h1 h2;have h3:i < xs.length:=by simpa using h2
  simp[xcc,h3]
section
variable {P:Program}{w:World}{B:Around}{E:Value->Shared->Prop}{st:Shared}
theorem zwq {r:Nat->Nat}{xs:List Value}{κ:SortKind}{sg:Shared}(h2:2<=xs.length)(coh:Coh r xs)
  (cmp:∀i j C,i < xs.length->j < xs.length->C (lt r i j) sg->kas_ask P w B κ xs i j C sg) :
  wpAny (model P w) B ((sortRuns').run (SortSt.mk' κ (xs.toArray.zip xs.toArray) #[] 7 none)) (fun y z=>∃p:Array Nat,(p.Perm (List.toArray (List.range xs.length))/\Up r p xs.length)/\(arrOf y.2).map (·.2)=outOf xs p/\failedOf y.2=none/\z=sg) E sg:=by
 have sz:(xs.toArray.zip xs.toArray).size=xs.length:=by simp
 have O:TS.Orc P w B sg κ (xs.toArray.zip xs.toArray) (rankV r xs):=fun x hx y hy C hC=>by
  rw[zoc] at hx hy;obtain⟨i,hi,rfl⟩:=xcp.mp hx;obtain⟨j,hj,rfl⟩:=xcp.mp hy;rw[xcf] at hi hj;rw[zka coh hi rfl,zka coh hj rfl] at hC;exact cmp i j C hi hj hC
 have run:=TS.zbdq (E:=E) (Q:=fun _ y=>∃p:Array Nat,(p.Perm (List.toArray (List.range xs.length))/\Up r p xs.length)/\(arrOf y).map (·.2)=outOf xs p/\failedOf y=none) O (st:=SortSt.mk' κ (xs.toArray.zip xs.toArray) #[] 7 none) ⟨.refl _,rfl,rfl⟩ rfl (by rw[sz];exact h2) fun y b up=>by
  obtain⟨l,l1,l2⟩:=znc (fun i=>((xs.getD i Value.none,xs.getD i Value.none):Keyed)) (xfx.mp b.perm) _ (zoc xs);have ll:l.length=xs.length:=by rw[l1.length_eq,xfn]
  have mem:∀k,(hk:k < l.length)->l[k] < xs.length:=fun k hk=>xcf.mp (l1.mem_iff.mp (xdw hk))
  have key:∀k,k < xs.length->TS.kA (rankV r xs) (arrOf y) k=At r l.toArray k:=fun k hk=>by
   have hk':k < l.length:=by lia
   have e:(arrOf y)[k]?=some (xs.getD l[k] Value.none,xs.getD l[k] Value.none):=by
    rw[← xbs,l2,xct,xbg hk']
    rfl
   rw[TS.zcr e,zka coh (mem k hk') rfl];unfold At;simp[hk']
  refine⟨l.toArray,⟨?_,fun i j hij hj=>?_⟩,?_,b.failed⟩
  ·exact xfx.mpr (by simpa using l1)
  ·rw[← key i (by lia),← key j hj];exact up i j (xec _) hij (by rw[sz];exact hj)
  ·unfold outOf;apply Array.toList_inj.mp;rw[Array.toList_map,l2,xcu]
   rfl
 exact xev run (fun y z hz=>by
  obtain⟨rfl,p,a,b,c⟩:=hz
  exact⟨p,a,b,c,rfl⟩) fun _ _ x=>x
theorem ziq (r:Nat->Nat){d:Addr}{xs:List Value}{k:Nat}{W:Fin->Shared->Prop}(e0:st.heap.get? d=some (seqObj "list" xs.toArray k))(few:xs.length<=sizeLine)(coh:Coh r xs)
  (ask:2<=xs.length->Answers P w B r xs {st with heap:=midHeap st.heap d xs})
  (fin:∀p:Array Nat,p.Perm (List.toArray (List.range xs.length))->Up r p xs.length->W (.done (.ret .none)) {st with heap:=sortedHeap st.heap d xs (outOf xs p)}) :
  wpAny (model P w) B (Builtin.«list.sort» ⟨[.ref d],[]⟩) W E st:=by
 obtain⟨c, ec⟩:∃ c,(st.heap.update d (Obj.mapSeq fun _=>(#[]:Array Value))).get? d=some (seqObj "list" #[] c):=⟨_, get?_update_seq e0 fun _=>#[]⟩
 have em:(midHeap st.heap d xs).get? d=some (seqObj "list" #[] c):=xbd _ (xbd _ ec)
 have szs:xs.toArray.size=xs.length:=xbq;rw[list_sort_plain];refine xba (listItems_at e0 rfl (xba (listUpdate_at e0 rfl (xba (seqEpoch_at ec rfl (xba (wpAny_newTuple (xba (wpAny_newList (xdx ?_) (xec _))) (few))))) (by rw[szs];exact few) (xec _))));show wpAny (model P w) B _ W E {st with heap:=midHeap st.heap d xs};dsimp only;by_cases two:xs.toArray.size < 2
 ·rw[if_pos two,if_pos two];rw[szs] at two;have eo:((arrOf (SortSt.mk' general' (xs.toArray.zip xs.toArray) #[] 7 none)).map (·.2))=outOf xs (List.toArray (List.range xs.length)):=zrr two
  refine xba (xbc (by
   rw[StateT.run_pure];refine xba (xbc (xba (seqEpoch_at em rfl (xba (listUpdate_at em rfl ?_ (xec _) ?_)))))
   ·rw[if_neg (by simp)];refine xbc ?_;rw[eo];exact fin _ (.refl _) fun i j hij hj=>xdi (congrArg (At r _) (by lia))
   ·rw[eo];refine xgg (xbb (xdi ?_) (few));unfold outOf
    simp))
 ·rw[if_neg two,if_neg two];rw[szs] at two;obtain⟨κ,kd,cmp⟩:=ask (by lia);refine xba (xev (kd (fun κ' z=>κ'=κ/\z={st with heap:=midHeap st.heap d xs}) ⟨rfl,rfl⟩) (fun κ' z hz=>?_) fun _ _ x=>x.elim);obtain⟨rfl,rfl⟩:=hz;have run:=zwq (E:=E) (r:=r) (xs:=xs) (κ:=κ') (sg:={st with heap:=midHeap st.heap d xs}) (by lia) coh cmp;refine xba (xev run (fun yy z hz=>?_) fun _ _ x=>x);obtain⟨⟨⟩,y⟩:=yy;obtain⟨p,hp,ho,hf,rfl⟩:=hz;dsimp only at ho hf ⊢;refine xba (seqEpoch_at em rfl (xba (listUpdate_at em rfl ?_ (xec _) ?_)))
  ·rw[hf,if_neg (by simp),ho];exact xbc (fin p hp.1 hp.2)
  ·rw[ho];refine xgg (xbb (xdi ?_) (few));unfold outOf;rw[xbq,xbe,xca,hp.1.size_eq];simp
theorem zjv (r:Nat->Nat){d:Addr}{xs:List Value}{W:Value->Shared->Prop}(isl:st.heap.IsList d xs.toArray)(few:xs.length<=sizeLine)(coh:Coh r xs)
  (ask:2<=xs.length->∀g:Heap,(∀b ob,st.heap.get? b=some ob->g.get? b=some ob)->Answers P w B.in1.in1 r xs {st with heap:=g})
  (fin:∀p:Array Nat,p.Perm (List.toArray (List.range xs.length))->Up r p xs.length->W (.ref (st.heap.objs.size+1)) {st with heap:=sortedAll st.heap xs (outOf xs p)}) :
  wpAny (model P w) B (call (.builtin "sorted") [.ref d]) W E st:=by
 let g0:Heap:=(st.heap.push (seqObj "list" #[] 0)).update st.heap.objs.size (Obj.mapSeq (·++xs.toArray))
 have sz:g0.objs.size=st.heap.objs.size+1:=(Heap.size_update ..).trans (size_push' _ _);have new:(g0.push (seqObj "list" xs.toArray 0)).get? (st.heap.objs.size + 1)=some (seqObj "list" xs.toArray 0):=by
  have z:=xbr g0 (o:=seqObj "list" xs.toArray 0) rfl
  rw[sz] at z;exact z
 have old:∀ b ob, st.heap.get? b=some ob->(g0.push (seqObj "list" xs.toArray 0)).get? b=some ob:=fun b ob e=>by
  have lt:=xbo e;exact xbd _ ((Heap.get?_update_ne _ _ _ _ (xcd lt)).trans (xbd _ e))
 have ar:argsOk "sorted" ⟨[.ref d],[]⟩:=args_sorted1 _
 refine Calls.call_function_entry kind_sorted plain_sorted entry_sorted ar ?_;unfold Builtin.«sorted»;refine xba (m:=checkCount "sorted" 1 1 _) (xbc (xba (collect_list isl (xba (wpAny_newList ?_ (few))) (few))))
 show wpAny _ _ _ _ _ { st with heap:=g0.push (seqObj "list" xs.toArray 0) }
 have esz:(Value.ref g0.objs.size)=Value.ref (st.heap.objs.size+1):=by rw[sz]
 rw[show((st.heap.push (seqObj "list" #[] 0)).update st.heap.objs.size (Obj.mapSeq (·++xs.toArray))).objs.size=st.heap.objs.size + 1 from sz]
 refine xba (xdx (xew slot_list_sort ⟨_, new, rfl⟩ entry_list_sort (ziq r (st:={ st with heap:=g0.push (seqObj "list" xs.toArray 0) }) new few coh (fun two=>?_) fun p p1 p2=>⟨_, rfl, xbc ⟨_, rfl, fin p p1 p2⟩⟩) (args_list_sort _)))
 exact ask two _ fun b ob e=>zgt (xcd (xgh (xbo e))) (old b ob e)
theorem zmz {T:String}{a d:Addr}{n:Nat}{It:Nat->Value->Prop}{OK:Heap->Prop}(S:KdlSrc P w T a d n It OK)(hh:B.handled=none)(ok:OK st.heap)(few:n<=sizeLine){W:Value->Shared->Prop}
  (ask:∀xs:List Value,xs.length=n->(∀(j:Nat) (v:Value),xs[j]?=some v->It j v)->∃r:Nat->Nat,Coh r xs/\(2<=n->∀(g:Heap) (tk:Nat),(∀b ob,st.heap.get? b=some ob->g.get? b=some ob)->Answers P w B.in1.in1 r xs {st with heap:=g,toks:=tk}) /\
   ∀(p:Array Nat) (q:Addr) (g:Heap) (tk c:Nat), p.Perm (List.toArray (List.range xs.length))->Up r p xs.length->(∀ b ob, st.heap.get? b=some ob->g.get? b=some ob)->(∀ b ob, st.heap.get? b=some ob->b≠q)->g.get? q=some (seqObj "list" (outOf xs p) c)->W (.ref q) { st with heap:=g, toks:=tk }) :
  wpAny (model P w) B (call (.builtin "sorted") [.ref a]) W E st:=by
 have ar:argsOk "sorted" ⟨[.ref a],[]⟩:=args_sorted1 _
 refine Calls.call_function_entry kind_sorted plain_sorted entry_sorted ar ?_;unfold Builtin.«sorted»;refine xba (m:=checkCount "sorted" 1 1 _) (xbc (xba (kdu_collect (A:=B.in1) S hh ok (few) fun g tk acc keep items=>?_)))
 have len:acc.toList.length=n:=by rw[xca];exact items.1
 obtain⟨r,coh,an,fin⟩:=ask acc.toList len (fun j v e=>items.2 j v (by rw[← xbs];exact e));refine xba (wpAny_newList ?_ (by rw[len];exact few));have new:(g.push (seqObj "list" acc.toList.toArray 0)).get? g.objs.size=some (seqObj "list" acc.toList.toArray 0):=xbr g rfl
 have old:∀ b ob, st.heap.get? b=some ob->(g.push (seqObj "list" acc.toList.toArray 0)).get? b=some ob:=fun b ob e=>xbd _ (keep b ob e)
 have lt:∀b ob,st.heap.get? b=some ob->b≠g.objs.size:=fun b ob e=>xcd (xbo (keep b ob e))
 show wpAny _ _ _ _ _ { st with heap:=g.push (seqObj "list" acc.toList.toArray 0), toks:=tk }
 refine xba (xdx (xew slot_list_sort ⟨_, new, rfl⟩ entry_list_sort (ziq r (st:={ st with heap:=g.push (seqObj "list" acc.toList.toArray 0), toks:=tk }) new (by rw[len]; exact few) coh (fun two=>?_) fun p p1 p2=>⟨_, rfl, xbc ⟨_, rfl, ?_⟩⟩) (args_list_sort _)))
 ·exact an (by lia) _ tk fun b ob e=>zgt (lt b ob e) (old b ob e)
 ·obtain⟨c,ec⟩:=sortedHeap_at (n:=0) (vs:=acc.toList) (out:=outOf acc.toList p) new;refine fin p g.objs.size _ tk c p1 p2 (fun b ob e=>?_) ?_ ec
  ·rw[sortedHeap_old (lt b ob e) (xbo (old b ob e))];exact old b ob e
  ·exact lt
end
end Srt
namespace L2
open PySem PySem.Spec PyProof.Rows PySem.W
theorem small10000 {n:Nat}(h:n<=1000000):n<=sizeLine:=xbb h (by rw[xgr];lia)
theorem zgx:∀{us:List Value} {a b:List Int},IntsAre us a->IntsAre us b->a=b
 | _,_,_,.nil,.nil=>rfl
 | _,_,_,.cons x t r,.cons _ _ r'=>by rw[zgx r r']
theorem zqg {g:Heap}{ps:List (Addr×List Int)}(tup:TupsG g ps):Srt.Coh (Srt.rank (ps.map (·.2))) (ps.map fun p=>Value.ref p.1):=fun i j hi hj e=>by
 rw[xbe] at hi hj;have ei:ps[i]?=some ps[i]:=xbg hi;have ej:ps[j]?=some ps[j]:=xbg hj;rw[zi (fun p:Addr×List Int=>Value.ref p.1) _ ei,zi (fun p:Addr×List Int=>Value.ref p.1) _ ej] at e;injection e with e
 obtain⟨us,o,n,a1,a2,a3,a4⟩:=tup _ (xdw hi);obtain⟨us2,o2,n2,b1,b2,b3,b4⟩:=tup _ (xdw hj);rw[e,b2] at a2;injection a2 with a2
 subst a2;rw[b4] at a4;injection a4 with a4 _
 have a5:us2=us:=by simpa using a4
 subst a5;have d:=zgx a1 b1;unfold Srt.rank;rw[zi (fun p:Addr×List Int=>p.2) _ ei,zi (fun p:Addr×List Int=>p.2) _ ej,d]
noncomputable def rSortedAL (K:Fg):List V->Hp->VK->Prop:=fun xs H Q=>∃(l:Addr) (ps:List (Addr×List Int)),xs=[.ref l]/\SqL K H l (ps.map fun p=>V.ref p.1)/\ps.length<=1000000/\TupsAt K H ps /\
 ∀(q:Addr) (qs:List (Addr×List Int)),H q=none->qs.Perm ps->(qs.map (·.2)).Pairwise (fun a b=>HT.lexLt b a=false)->Q (.ref q) (upd H q (.lst (qs.map fun p=>V.ref p.1)))
noncomputable def rSortedDAL:List V->Hp->VK->Prop:=fun xs H Q=>∃(a:Addr) (kvs:List (List Key×V)) (ks:List (List Int)),xs=[.ref a]/\Rd H a (.dT kvs)/\kvs.map (·.1)=ks.map (fun ns=>ns.map Sum.inl)/\ks.length<=1000000 /\
 ∀(q:Addr) (qs:List (Addr×List Int)),H q=none->(qs.map (·.2)).Perm ks->(qs.map (·.2)).Pairwise (fun x y=>HT.lexLt y x=false)->(∀p∈qs,H p.1=some (.tup (p.2.map V.int)))->Q (.ref q) (upd H q (.lst (qs.map fun p=>V.ref p.1)))
section
variable {X:Cx}
theorem zjn (hu:X.A.units + 64 < cLine):CallR X (.builtin "sorted") (rSortedAL X.K):=by
 intro aU s σ H xs us Q I r h;obtain⟨l,ps,rfl,hl,h64,ht,q⟩:=h;obtain⟨u,rfl,ru⟩:=vals1 r;cases ru;obtain⟨its,rv,pl,hz⟩:=I.list hl;have eits:its=ps.map fun p=>Value.ref p.1:=by
  have e:(ps.map fun p=>V.ref p.1)=(ps.map (·.1)).map V.ref:=by rw[xcu];rfl
  rw[e] at rv;rw[zlg rv,xcu]
  rfl
 subst eits;have tup:∀g:Heap,(∀b o,s.heap.get? b=some o->g.get? b=some o)->TupsG g ps:=fun g keep p hp=>by
  obtain⟨us,rv',⟨o,b2,b3,n,b4⟩,_⟩:=I.tuple (ht p hp);exact⟨us,o,n,zcy rv',keep _ _ b2,b3,b4⟩
 refine Srt.zjv (Srt.rank (ps.map (·.2))) pl.isList (by rw[xbe];exact small10000 h64) (zqg (tup s.heap fun _ _ z=>z)) (fun h2 g keep=>zvf (by show X.A.units+1+1 < cLine;lia) (by rw[xbe] at h2;exact h2) (tup g keep)) (fun p p1 p2=>?_);rw[xbe] at p1 p2;obtain⟨qs,q1,q2,q3⟩:=zov p1 p2;obtain⟨e,he⟩:=sortedAll_at s.heap (ps.map fun p=>Value.ref p.1) (Srt.outOf (ps.map fun p=>Value.ref p.1) p);rw[q3] at he ⊢;refine⟨.ref (s.heap.objs.size+1),_,I.laid (a:=s.heap.objs.size+1) (o:=.lst (qs.map fun p=>V.ref p.1)) (t':=s.toks) (fun _ _ z=>sortedAll_old z) (Nat.le_succ _) ⟨?_,_,e,zfo qs,he⟩,rfl,q _ _ (I.hok.fresh (Nat.le_succ _)) q1 q2⟩;rw[xbe,q1.length_eq];exact small10000 (by lia)
theorem zih (hc:X.calm=true)(hu:X.A.units + 64 < cLine):CallR X (.builtin "sorted") rSortedDAL:=by
 intro aU s σ H xs us Q I r h;obtain⟨a,kvs,ks,rfl,hd,ek,few,q⟩:=h;obtain⟨u,rfl,ru⟩:=vals1 r;cases ru;obtain⟨z,ns,ys,rel,ob,es,ep,e1,e2,e3,e4,e5⟩:=(show ObjOk X.prog X.w H s.heap a (.dT kvs) from hd.ok I.hok)
 obtain⟨ps,a1,a2,a3⟩:=zjm (P:=X.prog) (w:=X.w) rel ek;have hpl:ps.length=ks.length:=by rw[← a1,xbe]
 have hes:es.toList.map (·.key)=ps.map fun p=>Value.ref p.1:=by rw[e4,xcu];exact a3
 have hsz:es.size=ps.length:=by
  have:=congrArg List.length hes;rw[xbe,xbe,xca] at this;exact this
 have tup:∀g:Heap,(∀b o,s.heap.get? b=some o->g.get? b=some o)->TupsG g ps:=fun g keep p hp=>by
  obtain⟨us,rv,⟨o,b2,b3,n,b4⟩,_⟩:=I.tuple (SqT.of (a2 p hp));exact⟨us,o,n,zcy rv,keep _ _ b2,b3,b4⟩
 refine Srt.zmz (Dct.zzj ns es ep) (I.ok.hd hc) ⟨ob,e1,e2,e3⟩ (small10000 (by lia)) fun vs hl hv=>?_
 have evs:vs=ps.map fun p=>Value.ref p.1:=by
  rw[← hes];apply xlj;intro i;by_cases hi:i < es.size
  ·have h1:vs[i]?=some vs[i]:=xbg (by lia);obtain⟨en,h2,h3⟩:=hv i _ h1;rw[h1,h3,xct,xbs,h2]
   rfl
  ·rw[xkc (by lia),xkc (by rw[xbe,xca];lia)]
 subst evs;refine⟨Srt.rank (ps.map (·.2)),zqg (tup s.heap fun _ _ z=>z),fun h2 g tk keep=>zvf (by show X.A.units+1+1 < cLine;lia) (by lia) (tup g keep),fun p t g tk c p1 p2 keep ne eg=>?_⟩;rw[xbe] at p1 p2;obtain⟨qs,q1,q2,q3⟩:=zov p1 p2;rw[q3] at eg;refine⟨.ref t,_,I.laidN (o:=.lst (qs.map fun p=>V.ref p.1)) keep ne ⟨?_,_,c,zfo qs,eg⟩,rfl,q t qs (I.away ne) ((q1.map _).trans (by rw[a1])) q2 fun p hp=>a2 p (q1.mem_iff.mp hp)⟩;rw[xbe,q1.length_eq];exact small10000 (by lia)
end
end L2
namespace L2
open PySem PySem.Spec PyProof.Rows
theorem zga {κ β:Type}[DecidableEq κ]{k:κ}:∀{xs:List (κ×β)} {j:Nat} {p:β},(xs.map (·.1)).Nodup->xs[j]?=some (k,p)->xs.eraseIdx j=xs.filter fun x=>decide (x.1≠k)
 | [],_,_,_,e=>by simp at e
 | x::r,0,p,nd,e=>by
  simp at e;subst e;rw[xbn,xey] at nd;rw[List.eraseIdx_cons_zero,xdg (by simp)]
  symm
  rw[List.filter_eq_self];intro y hy;refine xcs fun z=>nd.1 ?_
  rw[← z];exact xcp.mpr ⟨y,hy,rfl⟩
 | x::r,j+1,p,nd,e=>by
  rw[xbn,xey] at nd;have e':r[j]?=some (k,p):=by simpa using e
  have hx:x.1≠k:=fun z=>nd.1 (by rw[z];exact xcp.mpr ⟨_,xbx e',rfl⟩)
  rw[xjm,xcq (by simpa using hx),zga nd.2 e']
theorem zmf {α β:Type}(f:α->β):∀(l:List α) (j:Nat),(l.map f).eraseIdx j=(l.eraseIdx j).map f
 | [],_=>rfl
 | _::_,0=>rfl
 | x::l,j+1=>by rw[xbn,xjm,xjm,xbn,zmf f l j]
section
variable {prog:Program}{w:World}{κ:Type}[DecidableEq κ]{knd:HeapKind prog w κ}{A:Around}{E:Value->Shared->Prop}{s:Shared}{d a:Addr}{k:κ}{xs:List (κ×Addr×Value)}{p:Addr×Value}
theorem zro {W:Option DictEntry->Shared->Prop}(hu:knd.room A)(hkey:knd.is s.heap k a)(hm:s.heap.DictOfH knd d xs)(hp:atKey xs k=some p)(hsz:xs.length<=sizeLine)
  (fin:∀e h',e.val=p.2->h'.DictOfH knd d (xs.filter fun x=>decide (x.1≠k))->Heap.SameBut d s.heap h'->W (some e) {s with heap:=h',toks:=s.toks+knd.draws k}) :
  wpAny (model prog w) A (Builtin.Dict.takeOut d (.ref a)) W E s:=by
 obtain⟨o,es,ep,ho,hc,hd,he,his,hn⟩:=hm;unfold Builtin.Dict.takeOut;refine xdx ?_;refine xba (knd.pyHash hu hkey ?_);refine xba (wpAny_dictFind_heap (s:={s with toks:=s.toks+knd.draws k}) hu hkey ho hd he his hn (fun z=>?_) fun j q hj=>?_)
 ·rw[atKey_none_of_get z] at hp;cases hp
 ·have hq:q=p:=by
   have z:=atKey_of_get hn hj;rw[hp] at z;exact(xco z).symm
  subst hq;refine xba (xii (s:={s with toks:=s.toks+knd.draws k}) ho hd ?_);rw[entry_at he j,hj];have big:es.size<=sizeLine:=by have:=size_of_entries he;lia
  refine xba (wpAny_updateDictKeys (hz:=big) (s:={s with toks:=s.toks+knd.draws k}) ho hd (xbc (fin _ _ rfl ⟨_,_,ep+1,xha _ ho (Obj.isFreed_of_dict (Obj.data_mapDictKeys hd _)),hc.mapDictKeys _,Obj.data_mapDictKeys hd _,?_,fun x hx=>?_,?_⟩ (xft ..))))
  ·rw[← zga hn hj];obtain⟨l⟩:=es;have he':l=xs.map (entryOfKey knd):=he;subst he';simp[zmf]
  ·exact knd.keeps (his x (xdn.mp hx).1) ho hd (xft ..)
  ·exact List.Sublist.nodup (List.Sublist.map (fun x:κ×Addr×Value=>x.1) xkn) hn
theorem zvy {W:Value->Shared->Prop}(hu:knd.room A.in1)(hkey:knd.is s.heap k a)(hm:s.heap.DictOfH knd d xs)(hp:atKey xs k=some p)(hsz:xs.length<=sizeLine)
  (fin:∀h',h'.DictOfH knd d (xs.filter fun x=>decide (x.1≠k))->Heap.SameBut d s.heap h'->W p.2 {s with heap:=h',toks:=s.toks+knd.draws k}) :
  wpAny (model prog w) A (call (.builtin "dict.pop") [.ref d, .ref a]) W E s:=by
 have M:MeetsIn prog w (Builtin.«dict.pop» ⟨[.ref d,.ref a],[]⟩) (fun B R g=>B=A/\g=s/\∀h',h'.DictOfH knd d (xs.filter fun x=>decide (x.1≠k))->Heap.SameBut d s.heap h'->R (.ok (.ret p.2)) {s with heap:=h',toks:=s.toks+knd.draws k}) :=
  .of_wp fun B R g hq0=>by
   obtain⟨hB,hg,q⟩:=hq0;subst hB hg;unfold Builtin.«dict.pop» Builtin.Dict.keyAndDefault;refine xba (xba (wpAny_notOrdered_dict hm.typeIs (xbc ?_)));obtain⟨o,es,ep,ho,hc,hd,he,his,hn⟩:=id hm;have ne:es.isEmpty=false:=by
    have:=size_of_entries he;cases xs with
    | nil=>cases hp
    | cons x r =>
     rw[xby] at this;rw[Array.isEmpty_eq_false_iff];intro z;rw[z] at this;simp at this
   simp only[keyPart,Option.isSome_none,xbu,xdc];refine xba (xii ho hd (xba (xbc ?_)));rw[ne];simp only[xbu,xdc];refine xba (zro hu hkey hm hp hsz fun e h' hv dd hs=>?_);simp only[Option.isNone_some,xbu,xdc];exact xba (wpAny_letGo (xbc ⟨e.val,rfl,by rw[hv];exact q h' dd hs⟩))
 exact call_meetsIn F.slot_dict_pop hm.typeIs F.entry_dict_pop (F.args_dict_pop_2 _ _) M ⟨rfl,rfl,fin⟩
end
theorem KT.drop {H:Hp}{kvs:List (List Key×V)}{xs:List (List Key×Addr×Value)}(r:KT H kvs xs)(k:List Key):KT H (dropK kvs k) (xs.filter fun x=>decide (x.1≠k)):=by
 unfold dropK
 induction r with
 | nil=>exact .nil
 | @cons p q ps qs h t ih =>
  by_cases e:p.1=k
  ·rw[xdg (by simp[e]),xdg (by simp[← h.1,e])];exact ih
  ·rw[xcq (by simp[e]),xcq (by simp[← h.1,e])];exact .cons h ih
section
variable {X:Cx}{aU:List (Addr×Obj)}{σ:St}{H:Hp}{s:Shared}{a b:Addr}{kvs:List (List Key×V)}{k:List Key}
theorem zbhb {v:V}{Q:Value->Shared->Prop}{E:Value->Shared->Prop}(hu:X.A.units+1 < cLine)(I:Inv X aU σ H s)(e:H a=some (.dT kvs))(eb:H b=some (.tup (k.map kV)))(l:valV kvs k=some v)
  (h:∀ w' s', Inv X aU σ (upd H a (.dT (dropK kvs k))) s'->RelV v w'->Q w' s'):wpAny (model X.prog X.w) X.A (call (.builtin "dict.pop") [.ref a, .ref b]) Q E s:=by
 obtain⟨z,hd,xs,rel,dd⟩:=zbje I.hok e;obtain⟨w',hw,rw'⟩:=RelO.some_of (v:=v) (o:=(atKey xs k).map (·.2)) (by rw[← l];exact rel.val k);cases hp:atKey xs k with
 | none=>rw[hp] at hw;cases hw
 | some p =>
  rw[hp] at hw;have hw':p.2=w':=xco hw;subst hw';refine zvy (xib hu) (zns I.hok eb) dd hp (by rw[← xis rel];exact z) fun h' dd' hs=>h _ _ ?_ rw'
  obtain⟨q,es,ep,hq,h2,h3,h4,_,h5⟩:=dd';refine zqb I (by rw[e];exact True.intro) hs ⟨q,hq⟩ ⟨xbb (xfc _ _) z,hd,_,(rel.drop k).keeps fun c ys ec=>?_,q,es,ep,hq,h2,h3,h4,h5⟩;rw[zn (zbix ec e (fun z=>nomatch z))];exact ec
end
noncomputable def tDPopT (td ty:TE):TE:=fun σ H Q=>td σ H fun x H1=>∃a,x=.ref a/\IsD H1 a/\ty σ H1 fun y H2=>∃kvs k v b,H2 a=some (.dT kvs)/\y=.ref b/\H2 b=some (.tup (k.map kV))/\valV kvs k=some v/\Q v (upd H2 a (.dT (dropK kvs k)))
section
variable {X:Cx}{o e:Expr}{apos cpos:Pos}{td ty:TE}
theorem zwd (hu:X.A.units + 1 < cLine)(ho:PE X o td)(he:PE X e ty)(m:M1 X o "pop" apos e cpos):PE X (.Call (.Attribute o "pop" apos) [e] [] cpos) (tDPopT td ty):=by
 intro aU s σ H Q I h;refine wpAny_Call_method m.base m.few m.line F.plainAttrs_dict F.slot_dict_pop F.type_dict_pop (thn (ho aU s σ H _ I h) fun u s1 hq0=>?_);obtain⟨x,H1,I1,rx,a,ex,d,q1⟩:=hq0;subst ex;obtain rfl:u=Value.ref a:=rx;obtain⟨t1,t2,_⟩:=zbbj I1 d;refine⟨t1,t2,?_⟩;rw[m.trees];refine xjr rfl (xkd (xiz (thn (he aU s1 σ H1 _ I1 q1) fun iv s2 ⟨y,H2,I2,ry,kvs,k,v,b,ea,ey,eb,l,q2⟩=>xld ?_)));subst ey;cases(show iv=Value.ref b from ry);exact zbhb hu I2 ea eb l fun w' s3 I3 rw'=>⟨v,_,I3,rw',q2⟩
end
noncomputable def rCatA (K:Fg):R2:=fun x y H Q=>∃a b xs ys,x=.ref a/\y=.ref b/\SqT K H a xs/\SqT K H b ys/\xs.length+ys.length<=sizeLine /\
 (xs=[]->Q (.ref b) H)/\(xs≠[]->ys=[]->Q (.ref a) H)/\(xs≠[]->ys≠[]->∀p,H p=none->Q (.ref p) (upd H p (.tup (xs++ys))))
section
variable {X:Cx}
theorem zbam:OpR X (binaryOp .Add) (rCatA X.K):=by
 intro aU s σ H x y v u Q I rx ry h;obtain⟨a,b,xs,ys,rfl,rfl,ha,hb,hz,q0,q1,q2⟩:=h;by_cases hx:xs=[]
 ·cases rx;cases ry;obtain⟨its,r1,p1,_⟩:=I.tuple ha;obtain⟨its2,r2,p2,_⟩:=I.tuple hb;obtain⟨⟨cls,dd,data,sl⟩,ho,hc,n,hd⟩:=id p1;obtain⟨⟨cls2,dd2,data2,sl2⟩,ho2,hc2,n2,hd2⟩:=id p2;simp only at hc hd hc2 hd2;subst hc hd hc2 hd2;have e:its=[]:=r1.nil_iff.mpr hx;exact concat_meets ⟨_,ho,rfl⟩ ⟨_,ho2,rfl⟩ noFill_tuple_add seq_tuple_add xjq xji (xjb _ _)
   (tuple_addW0 a b its.toArray its2.toArray n n2 dd dd2 sl sl2 (by simp[e])) ⟨ho,ho2,⟨.ref b,H,I,rfl,q0 hx⟩⟩
 ·exact zbal aU s σ H _ _ v u Q I rx ry ⟨a,b,xs,ys,rfl,rfl,ha,hb,hx,hz,fun z=>q1 hx z,fun z=>q2 hx z⟩
end
section
variable {prog:Program}{w:World}{A:Around}{E:Value->Shared->Prop}{s:Shared}
theorem ztm {t sl:Addr}{its:Array Value}{vl vu:Value}{lo hi:Option Int}{W:Value->Shared->Prop}(ht:IsTup s.heap t its)(hs:s.heap.IsSliceOf sl vl vu .none)(pl:IsPart vl lo)(pu:IsPart vu hi)
  (h0:HT.sIx its.size 0 lo=0)(h1:HT.sIx its.size its.size hi=its.size)(fin:W (.ref t) s):wpAny (model prog w) A (getItem (.ref t) (.ref sl)) W E s:=by
 obtain⟨os,hos,hcs,hds⟩:=id hs;unfold getItem
 try with_reducible refine xdx ?_
 first | refine xba (xbc ?_) | skip
 refine xba (wpAny_sequenceKey ht.typeIs (by decide) ?_);refine xba (wpAny_callSpecial?_slot (name:=Str.ofString "__getitem__") ht.typeIs xjf (xew xjf ht.typeIs entry_tuple_getitem ?_ (args_tuple_getitem _ _)))
 show wpAny _ _ (Builtin.Tuple.tupleItemsOf (.ref t) >>= _) _ _ s;refine xba (tupleItemsOf_ ht ?_);have hTs:s.TypeIs (.ref sl) "slice":=⟨os, hos, hcs⟩
 refine xba (wpAny_typeOf hTs ?_);rw[if_pos (by decide)];refine xba (HT.zcu hs pl pu ?_);have yes:(((HT.sIx its.size 0 lo:Nat):Int)==0&&(1:Int)==1&&(HT.sIx its.size its.size hi - HT.sIx its.size 0 lo)==its.size)=true:=by
  rw[h0,h1];simp
 show wpAny _ _ (if(((HT.sIx its.size 0 lo:Nat):Int)==0&&(1:Int)==1&&(HT.sIx its.size its.size hi - HT.sIx its.size 0 lo)==its.size)=true then _ else _) _ _ s;rw[if_pos yes];refine xba (?_:wpAny _ _ (Builtin.Tuple.tupleIsExact (.ref t)) _ _ s);unfold Builtin.Tuple.tupleIsExact;refine xba (wpAny_typeOf ht.typeIs (xbc ?_));rw[if_pos (by decide)];exact xba (xic (xbc ⟨_,rfl,xbc fin⟩))
end
noncomputable def rSlA (K:Fg):V->Option Int->Option Int->Hp->VK->Prop:=fun x lo hi H Q=>∃a xs,x=.ref a/\SqT K H a xs/\(cutV xs lo hi=xs->Q (.ref a) H)/\∀p,H p=none->Q (.ref p) (upd H p (.tup (cutV xs lo hi)))
theorem zzf {X:Cx}:SlR X (rSlA X.K):=by
 intro aU s σ H x v vl vu lo hi sl Q I rx hs pl pu h;obtain⟨a,xs,rfl,hx,q1,q2⟩:=h;by_cases hw:HT.sIx xs.length 0 lo=0/\HT.sIx xs.length xs.length hi=xs.length
 ·cases rx;obtain⟨its,r,ht,hz⟩:=I.tuple hx;have hlen:its.toArray.size=xs.length:=by rw[xbq];exact r.length.symm
  refine⟨"tuple", _, xjf.lookup, ht.typeIs, ?_⟩
  refine ztm ht hs pl pu (by rw[hlen];exact hw.1) (by rw[hlen];exact hw.2) ⟨.ref a,H,I,rfl,q1 ?_⟩;unfold cutV;rw[hw.1,hw.2];simp
 ·exact zbdy aU s σ H _ v vl vu lo hi sl Q I rx hs pl pu ⟨a,xs,rfl,hx,hw,q2⟩
theorem zgp (ns:List Int):∀k,k<=ns.length->preSum (fun i=>ns.getD i 0) k=(ns.take k).sum
 | 0,_=>rfl
 | k+1,h=>by
  show preSum (fun i=>ns.getD i 0) k+ns.getD k 0=_;rw[zgp ns k (by lia),xhp (by lia),xds,xcc,xbg (by lia)];simp
theorem zjg:∀{ns:List Int} {us:List Value} {i:Nat} {v:Value},Vals (ns.map V.int) us->us[i]?=some v->∃t,v=.int (ns.getD i 0) t
 | [],_,_,_,.nil,e=>by simp at e
 | n::ns,_,0,_,.cons r _,e=>by
  simp at e;subst e
  obtain⟨t,rfl⟩:=r;exact⟨t,rfl⟩
 | n::ns,_,i+1,v,.cons _ t,e=>by
  have:=zjg (i:=i) t (by simpa using e)
  simpa using this
noncomputable def rSum (K:Fg):List V->Hp->VK->Prop:=fun xs H Q=>∃(a:Addr) (ns:List Int),xs=[.ref a]/\(SqL K H a (ns.map V.int)\/SqT K H a (ns.map V.int))/\Q (.int ns.sum) H
theorem ztr {X:Cx}(hc:X.calm=true):CallR X (.builtin "sum") (rSum X.K):=by
 intro aU s σ H xs us Q I r h;obtain⟨a,ns,rfl,hs,q⟩:=h;obtain⟨u,rfl,ru⟩:=vals1 r;cases ru;have key:∀{its:List Value} (h':Heap) (tk:Nat) (t':Tok) (nn:Nat),nn=ns.length->(∀b o,b≠s.heap.objs.size->s.heap.get? b=some o->h'.get? b=some o) ->
   EP X aU σ Q (.int (preSum (fun i=>ns.getD i 0) nn) t') {s with heap:=h',toks:=tk}:=fun h' tk t' nn hn hk=>by
  subst hn;rw[zgp ns _ (xbf _),xcn];exact⟨.int ns.sum,H,I.kept (t':=tk) fun b o e=>hk b o (xcd (xbo e)) e,⟨_,rfl⟩,q⟩
 refine call_sum_walkG ?_;rcases hs with hs | hs
 ·obtain⟨its,rv,pl,hz⟩:=I.list hs;have hlt:a < s.heap.objs.size:=by obtain⟨o,n,e,_⟩:=pl;exact xbo e
  have hl:=rv.length;rw[xbe] at hl;refine xjp pl.isList ?_;refine⟨s.heap.objs.size,_,[s.heap.objs.size],_,_,_,fun i=>ns.getD i 0,rfl,Walks.list (A:=X.A.in1) (I.ok.hd hc) _ a (xcd hlt) its.toArray,⟨⟨_,xbr _ rfl,rfl,rfl⟩,pl.isList.push _⟩,?_,fun i v e=>zjg rv (by simpa using e),fun h' tk t' hk=>?_⟩
  ·intro b hb;show b < (s.heap.push _).objs.size;rw[show ∀o:Obj,(s.heap.push o).objs.size=s.heap.objs.size+1 from fun o=>by simp[Heap.push]];rcases xbl.mp hb with rfl | hb
   ·exact xiq _
   ·rcases xbl.mp hb with rfl | hb
    ·exact xgh hlt
    ·cases hb
  ·exact key (its:=its) h' tk t' _ (by simp[hl]) fun b o hb e=>hk b o (by simpa using hb) (xbd _ e)
 ·obtain⟨its,rv,pl,hz⟩:=I.tuple hs;have hlt:a < s.heap.objs.size:=pl.lt;have hl:=rv.length;rw[xbe] at hl;have pt:s.heap.IsTuple a its.toArray:=pl;refine xgx pt ?_;refine⟨s.heap.objs.size,_,[s.heap.objs.size],_,_,_,fun i=>ns.getD i 0,rfl,Walks.tuple (A:=X.A.in1) (I.ok.hd hc) _ a (xcd hlt) its.toArray,⟨⟨_,xbr _ rfl,rfl,rfl⟩,pt.push _⟩,?_,fun i v e=>zjg rv (by simpa using e),fun h' tk t' hk=>?_⟩
  ·intro b hb;show b < (s.heap.push _).objs.size;rw[show ∀o:Obj,(s.heap.push o).objs.size=s.heap.objs.size+1 from fun o=>by simp[Heap.push]];rcases xbl.mp hb with rfl | hb
   ·exact xiq _
   ·rcases xbl.mp hb with rfl | hb
    ·exact xgh hlt
    ·cases hb
  ·exact key (its:=its) h' tk t' _ (by simp[hl]) fun b o hb e=>hk b o (by simpa using hb) (xbd _ e)
theorem zol {prog:Program}{w:World}{A:Around}{E:Value->Shared->Prop}{s:Shared}{it t:Addr}{i:Nat}{items:Array Value}{Q:Value->Shared->Prop}(hh:A.handled=none)(hit:s.heap.IsTupleIter it t i)(ht:s.heap.IsTuple t items)
  (hQ:∀x,items[i]?=some x->∀h',h'.IsTupleIter it t (i+1)->Heap.SameBut it s.heap h'->Q x {s with heap:=h'})
  (hE:items[i]?=none->∀ h' e, Heap.ExtBut it s.heap h'->(∃ o, h'.get? e=some o/\o.cls=.type "StopIteration")->E (.ref e) { s with heap:=h' }):wpAny (model prog w) A (Builtin.SmallTypes.nextOf (.ref it)) Q E s:=by
 rcases hit with⟨o,ho,hc,hd⟩
 rcases ht with⟨u,hu,_,n,hs⟩
 refine xba (wpAny_callSpecial?_slot (name:=Str.ofString "__next__") ⟨o, ho, hc⟩ F.slot_tuple_iterator_next (xew F.slot_tuple_iterator_next ⟨o, ho, hc⟩ F.entry_tuple_iterator_next ?_ (F.args_tuple_iterator_next_1 _)))
 have f0:(#[Value.ref t,.int i 0]:Array Value)[0]?=some (.ref t):=rfl;have f1:(#[Value.ref t,.int i 0]:Array Value)[1]?=some (.int i 0):=rfl
 wp_walk using xhl ho hd f0,xhl ho hd f1,xho hu hs
 rw[xig];cases hx:items[i]? with
 | some x =>
  exact xba (xkq ho hd (by simp) (xbc ⟨x,rfl,xbc (hQ x hx _ ⟨_,xha _ ho (Obj.isFreed_of_fields (xjc hd _)),(Obj.cls_mapFields ..).trans hc,by rw[xjc hd];simp[rawInt]⟩ (.update ..))⟩))
 | none =>
  have hh':A.in1.handled=none:=hh
  wp_walk using xkq ho hd (by simp)
  unfold raiseNew;refine xba (wpAny_handled ?_);rw[hh'];exact xba (xbc (wpAny_throw (hE hx _ _ ((xft ..).extBut.push _ |>.push _) ⟨_,xbr _ rfl,rfl⟩)))
section
variable {X:Cx}{aU:List (Addr×Obj)}{σ:St}{H:Hp}{s:Shared}{h':Heap}
end
section
variable {X:Cx}
end
noncomputable def bestI (gt:Bool) (n:Int) (ns:List Int):Int:=ns.foldl (fun i j=>if(if gt then decide (j > i) else decide (j < i))=true then j else i) n
theorem zkz:∀(ns:List Int) (n:Int),bestI true n ns∈n::ns/\∀a∈n::ns,a<=bestI true n ns
 | [],n=>⟨by simp[bestI],by simp[bestI]⟩
 | m::ns,n=>by
  have e:bestI true n (m::ns)=bestI true (if m > n then m else n) ns:=by simp[bestI]
  obtain⟨h1,h2⟩:=zkz ns (if m > n then m else n);rw[e];refine⟨?_,fun a ha=>?_⟩
  ·rcases xbl.mp h1 with z | z
   ·rw[z];split<;>simp
   ·simp[z]
  ·have h3:=h2 _ xbw;rcases xbl.mp ha with rfl | ha
   ·refine Int.le_trans ?_ h3;split<;>lia
   ·rcases xbl.mp ha with rfl | ha
    ·refine Int.le_trans ?_ h3;split<;>lia
    ·exact h2 a (xbp _ ha)
theorem zqp {n:Int}{ns:List Int}{k:Nat}(hk:k=ns.length):(n::ns).getD (argBest (fun i j=>decide ((n::ns).getD i 0 >(n::ns).getD j 0)) k) 0=bestI true n ns:=by
 subst hk;obtain⟨h1,h2⟩:=argBest_gt (fun i=>(n::ns).getD i 0) ns.length;obtain⟨g1,g2⟩:=zkz ns n;have hl:argBest (fun i j=>decide ((n::ns).getD i 0 >(n::ns).getD j 0)) ns.length < (n::ns).length:=by rw[xby];lia
 obtain⟨j,hj,ej⟩:=xen g1;have a1:=h2 j (by simp at hj;lia);have a2:=g2 ((n::ns).getD (argBest (fun i j=>decide ((n::ns).getD i 0 >(n::ns).getD j 0)) ns.length) 0) (by rw[xcc,xbg hl];exact xdw hl);have e:(n::ns).getD j 0=bestI true n ns:=by rw[xcc,xbg hj,ej];rfl
 rw[e] at a1;lia
noncomputable def rBest (K:Fg) (gt:Bool):List V->Hp->VK->Prop:=fun xs H Q=>∃(a:Addr) (n:Int) (ns:List Int),xs=[.ref a]/\(SqL K H a ((n::ns).map V.int)\/SqT K H a ((n::ns).map V.int))/\Q (.int (bestI gt n ns)) H
section
variable {X:Cx}
theorem zre {aU:List (Addr×Obj)}{σ:St}{H:Hp}{s:Shared}{E:Value->Shared->Prop}{a:Addr}{ns:List Int}{R:Value->Shared->Prop}(hc:X.calm=true)(I:Inv X aU σ H s)(hs:SqL X.K H a (ns.map V.int)\/SqT X.K H a (ns.map V.int))
  (h:∀I' fp wr P St s2,Walks X.prog X.w X.A.in1 I' fp wr ns.length P St->St 0 s2.heap->(∀b∈fp,b < s2.heap.objs.size)->(∀i v,P i v->∃t,v=.int (ns.getD i 0) t) ->
   (∀h' tk,(∀b o,b∉wr->s2.heap.get? b=some o->h'.get? b=some o)->Inv X aU σ H {s2 with heap:=h',toks:=tk})->R (.ref I') s2) :
  wpAny (model X.prog X.w) X.A.in1 (pyIter (.ref a)) R E s:=by
 have key:∀(o:Obj) (h':Heap) (tk:Nat),(∀b u,b∉[s.heap.objs.size]->(s.heap.push o).get? b=some u->h'.get? b=some u)->Inv X aU σ H {s with heap:=h',toks:=tk}:=fun o h' tk hk =>
  I.kept (t':=tk) fun b u e=>hk b u (by simp;exact xcd (xbo e)) (xbd _ e)
 have low:∀(o:Obj),a < s.heap.objs.size->∀b∈[s.heap.objs.size,a],b < (s.heap.push o).objs.size:=fun o hlt b hb=>by
  rw[xhn];have hb':b=s.heap.objs.size\/b=a:=by simpa using hb
  rcases hb' with z | z
  ·rw[z];exact xiq _
  ·rw[z];exact xgh hlt
 rcases hs with hs | hs
 ·obtain⟨its,rv,pl,hz⟩:=I.list hs;have hlt:a < s.heap.objs.size:=by obtain⟨o,n,e,_⟩:=pl;exact xbo e
  have hl:=rv.length;rw[xbe] at hl;have W:=Walks.list (prog:=X.prog) (w:=X.w) (A:=X.A.in1) (I.ok.hd hc) s.heap.objs.size a (xcd hlt) its.toArray;rw[show its.toArray.size=ns.length from by rw[xbq];exact hl.symm] at W;exact xjp pl.isList (h _ _ _ _ _ { s with heap:=s.heap.push { cls:=.type "list_iterator", data:=.fields #[.ref a, .int 0 0] } } W ⟨⟨_, xbr _ rfl, rfl, rfl⟩, pl.isList.push _⟩ (low _ hlt) (fun i v e=>zjg rv (by simpa using e)) fun h' tk hk=>key _ h' tk hk)
 ·obtain⟨its,rv,pl,hz⟩:=I.tuple hs;have hlt:a < s.heap.objs.size:=pl.lt;have hl:=rv.length;rw[xbe] at hl;have pt:s.heap.IsTuple a its.toArray:=pl;have W:=Walks.tuple (prog:=X.prog) (w:=X.w) (A:=X.A.in1) (I.ok.hd hc) s.heap.objs.size a (xcd hlt) its.toArray;rw[show its.toArray.size=ns.length from by rw[xbq];exact hl.symm] at W;exact xgx pt (h _ _ _ _ _ { s with heap:=s.heap.push { cls:=.type "tuple_iterator", data:=.fields #[.ref a, .int 0 0] } } W ⟨⟨_, xbr _ rfl, rfl, rfl⟩, pt.push _⟩ (low _ hlt) (fun i v e=>zjg rv (by simpa using e)) fun h' tk hk=>key _ h' tk hk)
theorem zts (hc:X.calm=true):CallR X (.builtin "max") (rBest X.K true):=by
 intro aU s σ H xs us Q I r h;obtain⟨a,n,ns,rfl,hs,q⟩:=h;obtain⟨u,rfl,ru⟩:=vals1 r;cases ru;refine call_max_walk (zre hc I hs fun I' fp wr P St s2 W st low val keep=>?_);refine⟨I',fp,wr,_,P,St,_,rfl,W,st,low,by simp,CmpOf.ints_gt (fun i=>(n::ns).getD i 0) val,fun v h' tk hP hk=>?_⟩;obtain⟨t,rfl⟩:=val _ _ hP;rw[zqp (by simp)];exact⟨.int (bestI true n ns),H,keep h' tk hk,⟨_,rfl⟩,q⟩
theorem Inv.turnedL {aU:List (Addr×Obj)}{σ:St}{H:Hp}{s:Shared}{h':Heap}{t':Nat}{ch:List Addr}(I:Inv X aU σ H s)(k:∀b o,b∉ch->s.heap.get? b=some o->h'.get? b=some o)(hf:∀b∈ch,FpOk X aU H b):Inv X aU σ H {s with heap:=h',toks:=t'}:=by
 have nit:∀b u,H b=some u->b∉ch:=fun b u e z=>by have:=(hf b z).1;rw[e] at this;cases this
 have loc:X.env.locals∉ch:=fun z=>(hf _ z).2.1 rfl
 refine I.step (g':=s.gens) (d':=s.drawn) (ch:=ch) (fun b hb=>?_) (fun b o _ _ hc e _=>k b o hc e) (fun b o _ _ hc e _=>⟨o.slots,k b o hc e⟩) (fun _ _ _ _ n=>n)
  (fun b o hc e=>⟨o,k b o hc e⟩) (fun _ _ e=>e) (fun _ _ _ e=>e) (fun b ps e=>⟨#[],by rw[e];simp⟩) (fun m hm=>?_) (fun b u e=>?_) I.bare
 ·obtain⟨f0,f1,f2,f3,f4,f5⟩:=hf b hb;exact⟨f3,f1,f4,f5⟩
 ·obtain⟨o,es,ep,ho,r⟩:=hm;exact⟨o,es,ep,k _ o loc ho,r⟩
 ·refine(I.hok b u e).stay (fun c v hc q=>k c v ?_ q) (fun _ q=>q) fun _ _ q=>q
  rcases hc with z | z
  ·rw[z];exact nit b u e
  ·exact nit c _ z
end
structure ZRec (z TI TO i1 i2 t1 t2:Addr):Prop where
 nd:[z,TI,TO,i1,i2].Nodup
 o1:t1∉[z,TI,TO,i1,i2]
 o2:t2∉[z,TI,TO,i1,i2]
structure ZAt (h:Heap) (z TI TO i1 i2 t1 t2:Addr) (f0:Value) (j:Nat):Prop where
 zip:IsZip h z TI TO f0
 its:IsPair h TI (.ref i1) (.ref i2)
 out:∃a b,IsPair h TO a b
 it1:h.IsTupleIter i1 t1 j
 it2:h.IsTupleIter i2 t2 j
section
variable {prog:Program}{w:World}{A:Around}{E:Value->Shared->Prop}{s:Shared}{z TI TO i1 i2 t1 t2:Addr}{xs ys:Array Value}{j:Nat}
theorem ztw (a b c d e x:Addr)(h:[a,b,c,d,e].Nodup):a≠b/\a≠c/\a≠d/\a≠e/\b≠c/\b≠d/\b≠e/\c≠d/\c≠e/\d≠e:=by
 simp at h;obtain⟨⟨h1,h2,h3,h4⟩,⟨h5,h6,h7⟩,⟨h8,h9⟩,h10⟩:=h;exact⟨h1,h2,h3,h4,h5,h6,h7,h8,h9,h10⟩
theorem zvj {Q:Fin->Shared->Prop}(hh:A.handled=none)(R:ZRec z TI TO i1 i2 t1 t2)(Z:ZAt s.heap z TI TO i1 i2 t1 t2 .none j)(hx:s.heap.IsTuple t1 xs)(hy:s.heap.IsTuple t2 ys)
  (hQ:∀x y,xs[j]?=some x->ys[j]?=some y->∀g,ZAt g z TI TO i1 i2 t1 t2 (rawInt s.heap.objs.size) (j+1)->IsPair g s.heap.objs.size x y->g.objs.size=s.heap.objs.size+1 ->
   (∀c o,c∉[z,TO,i1,i2]->s.heap.get? c=some o->g.get? c=some o)->Q (.done (.ret (.ref s.heap.objs.size))) {s with heap:=g})
  (hE:xs[j]?=none\/ys[j]?=none->∀ g e,(∀ c o, c∉[z, TO, i1, i2]->s.heap.get? c=some o->g.get? c=some o)->(∃ o, g.get? e=some o/\o.cls=.type "StopIteration")->E (.ref e) { s with heap:=g }):wpAny (model prog w) A (Builtin.«zip.__next__» ⟨[.ref z],[]⟩) Q E s:=by
 obtain⟨n1,n2,n3,n4,n5,n6,n7,n8,n9,n10⟩:=ztw z TI TO i1 i2 0 R.nd;have a1:=R.o1;have a2:=R.o2;simp only[xbl,xga,xjy,not_or] at a1 a2;obtain⟨p1,p2,p3,p4,p5⟩:=a1;obtain⟨q1,q2,q3,q4,q5⟩:=a2;obtain⟨hz,hI,⟨a,b,hO⟩,k1,k2⟩:=Z;refine(?_:wpAny _ _ (field (.ref z) 2 >>= _) Q E s);refine xba (xhl hz rfl (x:=.bool false) rfl (?_:wpAny _ _ (field (.ref z) 3 >>= _) _ _ _));refine xba (xhl hz rfl (x:=.ref TI) rfl (xba (xho hI rfl (?_:wpAny _ _ (Builtin.SmallTypes.ownedTupleIsFree (.ref z) >>= _) _ _ _))));refine xba (m:=Builtin.SmallTypes.ownedTupleIsFree (.ref z)) (show wpAny _ _ (field (.ref z) 0 >>= _) _ _ _ from xba (xhl hz rfl (x:=.none) rfl (xbc ?_)));simp only[xeb];refine xba (xic (xba (xhl hz rfl (x:=.ref TO) rfl (xba (xid hz (by simp) fun g1 hz1 e1=>?_)))));have hz1':IsZip g1 z TI TO .ellipsis:=hz1;simp only[xlv,List.zipIdx_cons,List.forIn_nil,List.zipIdx_nil];refine xba (xba (xba (wpAny_onRaise (?_:wpAny _ _ (Builtin.SmallTypes.nextOf (.ref i1) >>= _) _ _ _))));refine xba (zol hh (s:={s with heap:=g1}) (k1.extBut e1.extBut (xda n3)) (hx.extBut e1.extBut p1) (fun x hx1 g2 k3 e2=>xbc ?_) fun hx1 g2 ee eb he=>?_)
 ·have hO2:IsPair g2 TO a b:=e2.extBut _ _ n8 (e1.extBut _ _ (xda n2) hO);refine xba (xho hO2 rfl (xba (wpAny_updateSeq_pair (s:={s with heap:=g2}) hO2 fun g3 hO3 e3=>xba (wpAny_letGo (xbc ?_)))));have hO3':IsPair g3 TO x b:=hO3;refine xba (xba (wpAny_onRaise (?_:wpAny _ _ (Builtin.SmallTypes.nextOf (.ref i2) >>= _) _ _ _)));refine xba (zol hh (s:={s with heap:=g3}) (((k2.extBut e1.extBut (xda n4)).extBut e2.extBut (xda n10)).extBut e3.extBut (xda n9)) (((hy.extBut e1.extBut q1).extBut e2.extBut q4).extBut e3.extBut q3) (fun y hy1 g4 k4 e4=>xbc ?_) fun hy1 g4 ee eb he=>?_)
  ·have hO4:IsPair g4 TO x b:=e4.extBut _ _ n9 hO3';refine xba (xho hO4 rfl (xba (wpAny_updateSeq_pair (s:={s with heap:=g4}) hO4 fun g5 hO5 e5=>xba (wpAny_letGo (xbc (xbc ?_))))));have hO5':IsPair g5 TO x y:=hO5;refine xba (xho hO5' rfl (xba (wpAny_newTuple ?_)));have sz:g5.objs.size=s.heap.objs.size:=by rw[e5.1,e4.1,e3.1,e2.1,e1.1]
   have hz5:IsZip g5 z TI TO .ellipsis:=e5.extBut _ _ n2 (e4.extBut _ _ n4 (e3.extBut _ _ n2 (e2.extBut _ _ n3 hz1')));have kp:∀c o,c∉[z,TO,i1,i2]->s.heap.get? c=some o->g5.get? c=some o:=fun c o hc e=>by
    simp only[xbl,xga,xjy,not_or] at hc;exact e5.extBut _ _ hc.2.1 (e4.extBut _ _ hc.2.2.2 (e3.extBut _ _ hc.2.1 (e2.extBut _ _ hc.2.2.1 (e1.extBut _ _ hc.1 e))))
   have m1:g5.IsTupleIter i1 t1 (j+1):=((k3.extBut e3.extBut (xda n8)).extBut e4.extBut n10).extBut e5.extBut (xda n8);have m2:g5.IsTupleIter i2 t2 (j+1):=k4.extBut e5.extBut (xda n9);have lz:z < g5.objs.size:=xbo hz5;have hz6:IsZip (g5.push { cls:=.type "tuple", data:=.seq #[x, y] }) z TI TO .ellipsis:=xbd _ hz5
   refine xba (m:=Builtin.SmallTypes.ownedTupleHandOut (.ref z) (.ref g5.objs.size)) (xba (xid hz6 (by simp) fun g7 hz7 e7=>?_));have hz7':IsZip g7 z TI TO (rawInt g5.objs.size):=hz7;refine xid hz7' (by simp) fun g8 hz8 e8=>xbc ?_
   have hz8':IsZip g8 z TI TO (rawInt g5.objs.size):=hz8;have up:∀c o,c≠z->g5.get? c=some o->g8.get? c=some o:=fun c o hc e=>e8.extBut _ _ hc (e7.extBut _ _ hc (xbd _ e))
   have hT:IsPair g8 g5.objs.size x y:=e8.extBut _ _ (xgv lz) (e7.extBut _ _ (xgv lz) (xbr _ rfl));have s8:g8.objs.size=g5.objs.size+1:=by rw[e8.1,e7.1,xhn]
   rw[sz] at hz8' hT s8;have hI5:IsPair g5 TI (.ref i1) (.ref i2):=kp _ _ (by simp[xda n1,n5,n6,n7]) hI;have fin:=hQ x y hx1 hy1 g8 ⟨hz8',up _ _ (xda n1) hI5,⟨x,y,up _ _ (xda n2) hO5'⟩,m1.at fun o e=>up _ o (xda n3) e,m2.at fun o e=>up _ o (xda n4) e⟩ hT s8 fun c o hc e=>up c o (fun q=>hc (by simp[q])) (kp c o hc e)
   show Q (.done (.ret (.ref g5.objs.size))) _;rw[sz];exact fin
  ·obtain⟨oe,he1,he2⟩:=he;have hz4:IsZip g4 z TI TO .ellipsis:=eb _ _ n4 (e3.extBut _ _ n2 (e2.extBut _ _ n3 hz1'));have nz:ee≠z:=fun q=>by rw[q,hz4] at he1;cases he1;simp at he2
   refine xid hz4 (by simp) fun g5 _ e5=>hE (.inr hy1) g5 ee (fun c o hc e=>?_) ⟨oe,e5.extBut _ _ nz he1,he2⟩
   simp only[xbl,xga,xjy,not_or] at hc;exact e5.extBut _ _ hc.1 (eb _ _ hc.2.2.2 (e3.extBut _ _ hc.2.1 (e2.extBut _ _ hc.2.2.1 (e1.extBut _ _ hc.1 e))))
 ·obtain⟨oe,he1,he2⟩:=he;have hz2:IsZip g2 z TI TO .ellipsis:=eb _ _ n3 hz1';have nz:ee≠z:=fun q=>by rw[q,hz2] at he1;cases he1;simp at he2
  refine xid hz2 (by simp) fun g3 _ e3=>hE (.inl hx1) g3 ee (fun c o hc e=>?_) ⟨oe,e3.extBut _ _ nz he1,he2⟩
  simp only[xbl,xga,xjy,not_or] at hc;exact e3.extBut _ _ hc.1 (eb _ _ hc.2.2.1 (e1.extBut _ _ hc.1 e))
end
section
variable {prog:Program}{w:World}{A:Around}{E:Value->Shared->Prop}{s:Shared}{z TI TO i1 i2 t1 t2:Addr}{xs ys:Array Value}{j:Nat}
theorem zob {Q:Option Value->Shared->Prop}(hh:A.handled=none)(R:ZRec z TI TO i1 i2 t1 t2)(Z:ZAt s.heap z TI TO i1 i2 t1 t2 .none j)(hx:s.heap.IsTuple t1 xs)(hy:s.heap.IsTuple t2 ys)
  (hQ:∀x y,xs[j]?=some x->ys[j]?=some y->∀g,ZAt g z TI TO i1 i2 t1 t2 (rawInt s.heap.objs.size) (j+1)->IsPair g s.heap.objs.size x y->g.objs.size=s.heap.objs.size+1 ->
   (∀c o,c∉[z,TO,i1,i2]->s.heap.get? c=some o->g.get? c=some o)->Q (some (.ref s.heap.objs.size)) {s with heap:=g})
  (hE:xs[j]?=none\/ys[j]?=none->∀g,(∀c o,c∉[z,TO,i1,i2]->s.heap.get? c=some o->g.get? c=some o)->Q none {s with heap:=g}):wpAny (model prog w) A (pyNext (.ref z)) Q E s:=by
 have T:s.TypeIs (.ref z) "zip":=⟨_, Z.zip, rfl⟩
 unfold pyNext;refine xba (xlb (wpAny_callSpecial?_slot (name:=Str.ofString "__next__") T F.slot_zip_next (xew F.slot_zip_next T F.entry_zip_next (zvj hh R Z hx hy (fun x y h1 h2 g k1 k2 k3 k4=>⟨_, rfl, xbc (hQ x y h1 h2 g k1 k2 k3 k4)⟩) fun h1 g e k he=>?_) (F.args_zip_next_1 _))))
 obtain⟨o,ho,hc⟩:=he;exact xba (xjw (T:="StopIteration") (b:=true) ⟨o, ho, hc⟩ isSubtype_stop (xbc (hE h1 g k)))
end
noncomputable def Itz (K:Fg) (a b:Addr):It :=
 ⟨fun i H=>∃xs ys x y,SqT K H a xs/\SqT K H b ys/\xs[i]?=some x/\ys[i]?=some y,
  fun i H u H'=>∃p,H p=none/\u=.ref p/\∀xs ys x y,SqT K H a xs->SqT K H b ys->xs[i]?=some x->ys[i]?=some y->H'=upd H p (.tup [x,y]),
  fun i H=>∃xs ys,SqT K H a xs/\SqT K H b ys/\(xs.length<=i\/ys.length<=i)⟩
theorem zvm {P:Program}{w:World}{K:Fg}{elts:List Expr}{k:Nat}{tpos:Pos}{z TI TO i1 i2 a b:Addr}(R:ZRec z TI TO i1 i2 a b) :
  Turn P w K (.Tuple elts k tpos) (Itz K a b) [z,TI,TO,i1,i2] z (fun i h=>ZAt h z TI TO i1 i2 a b .none i) where
 mem:=by simp
 obj:=fun i h st c hc=>by
  obtain⟨u,v,hO⟩:=st.out;obtain⟨o1,e1,_,d1⟩:=st.it1;obtain⟨o2,e2,_,d2⟩:=st.it2;have hc':c=z\/c=TI\/c=TO\/c=i1\/c=i2:=by simpa using hc
  rcases hc' with rfl | rfl | rfl | rfl | rfl
  ·exact⟨_,st.zip,fun v q=>by cases(show Data.fields _=Data.cell v from q)⟩
  ·exact⟨_,st.its,fun v q=>by cases(show Data.seq _ _=Data.cell v from q)⟩
  ·exact⟨_,hO,fun v q=>by cases(show Data.seq _ _=Data.cell v from q)⟩
  ·exact⟨o1,e1,fun v q=>by rw[d1] at q;cases q⟩
  ·exact⟨o2,e2,fun v q=>by rw[d2] at q;cases q⟩
 keep:=fun i h h' st kk=>by
  obtain⟨u,v,hO⟩:=st.out;exact⟨kk z (by simp) _ st.zip,kk TI (by simp) _ st.its,⟨u,v,kk TO (by simp) _ hO⟩,st.it1.at fun o e=>kk i1 (by simp) o e,st.it2.at fun o e=>kk i2 (by simp) o e⟩
 item:=by
  intro X hP hw hK hc i aU s σ H E I hf st hg;subst hP hw hK;obtain⟨xs,ys,x,y,hq1,hq2,hx,hy⟩:=hg;obtain⟨its1,rv1,p1,hz1⟩:=I.tuple hq1;obtain⟨its2,rv2,p2,hz2⟩:=I.tuple hq2;obtain⟨u1,hu1,ru1⟩:=rv1.get hx;obtain⟨u2,hu2,ru2⟩:=rv2.get hy;refine zob (I.ok.hd hc) R st (show s.heap.IsTuple a its1.toArray from p1) (show s.heap.IsTuple b its2.toArray from p2) (fun v1 v2 e1 e2 g Z hT hsz kp=>?_) fun e=>?_
  ·have f1:v1=u1:=by rw[xhf,hu1] at e1;exact(xco e1).symm
   have f2:v2=u2:=by rw[xhf,hu2] at e2;exact(xco e2).symm
   subst f1 f2;refine⟨_,rfl,wpAny_letOwnedTupleGo_zip Z.zip fun g2 hz' e'=>?_⟩;have low:∀c∈[z,TI,TO,i1,i2],c < s.heap.objs.size:=fun c hc'=>by
    obtain⟨uu,vv,hO⟩:=st.out;obtain⟨o1,e1,_⟩:=st.it1;obtain⟨o2,e2,_⟩:=st.it2;have hc'':c=z\/c=TI\/c=TO\/c=i1\/c=i2:=by simpa using hc'
    rcases hc'' with rfl | rfl | rfl | rfl | rfl
    ·exact xbo st.zip
    ·exact xbo st.its
    ·exact xbo hO
    ·exact xbo e1
    ·exact xbo e2
   have hzl:=low z (by simp);have I1:Inv X aU σ (upd H s.heap.objs.size (.tup [x, y])) { s with heap:=s.heap.push { cls:=.type "tuple", data:=.seq #[v1, v2] }, toks:=s.toks } :=
    I.laid (fun _ _ q=>xbd _ q) (xbf _) ⟨by simp;decide,[v1,v2],.cons ru1 (.cons ru2 .nil),⟨_,xbr _ rfl,rfl,_,rfl⟩⟩
   have hf2:∀c∈[z,TI,TO,i1,i2],FpOk X aU (upd H s.heap.objs.size (.tup [x,y])) c:=fun c hc'=>by
    obtain⟨f0,fr⟩:=hf c hc';exact⟨by rw[zn (xcd (low c hc'))];exact f0,fr⟩
   have I2:Inv X aU σ (upd H s.heap.objs.size (.tup [x,y])) {s with heap:=g2,toks:=s.toks}:=by
    refine Inv.turnedL (s:={ s with heap:=s.heap.push { cls:=.type "tuple", data:=.seq #[v1, v2] }, toks:=s.toks }) (h':=g2) (t':=s.toks) (ch:=[z, TI, TO, i1, i2]) I1 (fun c o hc' q=>?_) hf2
    have q':(s.heap.push { cls:=.type "tuple", data:=.seq #[v1, v2] }).get? c=some o:=q
    have cz:c≠z:=fun e=>hc' (by simp[e])
    rcases Heap.get?_push_cases q' with⟨e1,e2⟩ | e1
    ·rw[e1,e2];exact e'.extBut _ _ (xgv hzl) hT
    ·exact e'.extBut _ _ cz (kp c o (fun m=>hc' (by simp at m ⊢;rcases m with m | m | m | m<;>simp[m])) e1)
   obtain⟨d1,d2,d3,d4,_⟩:=ztw z TI TO i1 i2 0 R.nd;obtain⟨uu,vv,hO⟩:=Z.out;refine⟨.ref s.heap.objs.size,_,I2,rfl,⟨s.heap.objs.size,I.fresh,rfl,fun as bs x' y' ha hb ex ey=>?_⟩,⟨hz',e'.extBut _ _ (xda d1) Z.its,⟨uu,vv,e'.extBut _ _ (xda d2) hO⟩,Z.it1.extBut e'.extBut (xda d3),Z.it2.extBut e'.extBut (xda d4)⟩,fun c hc'=>(hf2 c hc').1⟩;rw[I.tuple_inj ha hq1,hx] at ex;rw[I.tuple_inj hb hq2,hy] at ey;cases ex;cases ey
   rfl
  ·rcases e with e | e
   ·rw[xhf,hu1] at e;cases e
   ·rw[xhf,hu2] at e;cases e
 done:=by
  intro X hP hw hK hc i aU s σ H E I hf st hg;subst hP hw hK;obtain⟨xs,ys,hq1,hq2,hl⟩:=hg;obtain⟨its1,rv1,p1,hz1⟩:=I.tuple hq1;obtain⟨its2,rv2,p2,hz2⟩:=I.tuple hq2;have l1:=rv1.length;have l2:=rv2.length;refine zob (I.ok.hd hc) R st (show s.heap.IsTuple a its1.toArray from p1) (show s.heap.IsTuple b its2.toArray from p2) (fun v1 v2 e1 e2 g Z hT hsz kp=>?_) fun _ g kp=>⟨rfl,I.turnedL (t':=s.toks) (ch:=[z,TI,TO,i1,i2]) (fun c o hc' e=>kp c o (fun m=>hc' (by simp at m ⊢;rcases m with m | m | m | m<;>simp[m])) e) hf⟩
  rw[xhf] at e1 e2;have g1:=(xbm.mp e1).1;have g2:=(xbm.mp e2).1;lia
 self:=fun A i s Q E st h=>wpAny_pyIter_zip st.zip h
section
variable {prog:Program}{w:World}{A:Around}{E:Value->Shared->Prop}{s:Shared}
noncomputable abbrev tupIt (l:Addr):Obj:={ cls:=.type "tuple_iterator", data:=.fields #[.ref l, .int 0 0] }
noncomputable abbrev two (a b:Value):Obj:={ cls:=.type "tuple", data:=.seq #[a, b] }
noncomputable abbrev zipOb (a b:Addr):Obj:={ cls:=.type "zip", data:=.fields #[.none, .bool false, .bool false, .ref a, .ref b] }
noncomputable abbrev lay1 (h:Heap) (l1:Addr):Heap:=h.push (tupIt l1)
noncomputable abbrev lay2 (h:Heap) (l1 l2:Addr):Heap:=(lay1 h l1).push (tupIt l2)
noncomputable abbrev lay3 (h:Heap) (l1 l2:Addr):Heap:=(lay2 h l1 l2).push (two (.ref h.objs.size) (.ref (lay1 h l1).objs.size))
noncomputable abbrev lay4 (h:Heap) (l1 l2:Addr):Heap:=(lay3 h l1 l2).push (two .none .none)
noncomputable abbrev lay5 (h:Heap) (l1 l2:Addr):Heap:=(lay4 h l1 l2).push (zipOb (lay2 h l1 l2).objs.size (lay3 h l1 l2).objs.size)
theorem zvk (l1 l2:Addr)(xs ys:Array Value) :
  Meets (Builtin.«zip.__new__» ⟨[.type "zip", .ref l1, .ref l2],[]⟩) (fun _ R s=>s.heap.IsTuple l1 xs/\s.heap.IsTuple l2 ys/\R (.ok (.ret (.ref (lay4 s.heap l1 l2).objs.size))) { s with heap:=lay5 s.heap l1 l2 }) :=
 .of_wp fun prog w A R s h=>by
  obtain⟨hp,g,d,tk,os⟩:=s;obtain⟨k1,k2,h⟩:=h;have sub:=sub_zip;have k1':Heap.IsTuple (Shared.heap ⟨hp,g,d,tk,os⟩) l1 xs:=k1;have k2':Heap.IsTuple (Shared.heap ⟨hp.push (tupIt l1),g,d,tk,os⟩) l2 ys:=k2.push _
  wp_walk using xgx k1',xgx k2'
  exact⟨_,rfl,h⟩
theorem zom {n l1 l2:Nat}(h1:l1 < n)(h2:l2 < n):ZRec (n+4) (n+2) (n+3) n (n+1) l1 l2/\∀c∈[n+4,n+2,n+3,n,n+1],n<=c :=
 have q:∀{l:Nat},l < n->l∉[n+4,n+2,n+3,n,n+1]:=fun {l} h m=>by
  simp only[xbl,xga,xjy] at m;lia
 ⟨⟨by simp,q h1,q h2⟩,fun c hc=>by simp at hc;lia⟩
theorem ztq {l1 l2:Addr}{xs ys:Array Value}{Q:Value->Shared->Prop}(k1:s.heap.IsTuple l1 xs)(k2:s.heap.IsTuple l2 ys)
  (h:∀g z TI TO i1 i2,ZRec z TI TO i1 i2 l1 l2->ZAt g z TI TO i1 i2 l1 l2 .none 0->(∀c∈[z,TI,TO,i1,i2],s.heap.objs.size<=c) ->
   (∀ c o, s.heap.get? c=some o->g.get? c=some o)->Q (.ref z) { s with heap:=g }):wpAny (model prog w) A (call (.type "zip") [.ref l1, .ref l2]) Q E s:=by
 have lt1:l1 < s.heap.objs.size:=by obtain⟨_,e,_⟩:=k1;exact xbo e
 have lt2:l2 < s.heap.objs.size:=by obtain⟨_,e,_⟩:=k2;exact xbo e
 refine callType_new F.called_zip (by decide) (F.typeCall_zip_2 _ _) (F.newCall_zip_2 _ _) (fun obj=>F.args_object_init_3 obj _ _) F.entry_zip_new (zvk l1 l2 xs ys) ⟨k1,k2,?_⟩;have z1:(lay1 s.heap l1).objs.size=s.heap.objs.size+1:=xhn ..
 have z2:(lay2 s.heap l1 l2).objs.size=s.heap.objs.size+2:=(xhn ..).trans (by rw[z1]);have z3:(lay3 s.heap l1 l2).objs.size=s.heap.objs.size+3:=(xhn ..).trans (by rw[z2]);have z4:(lay4 s.heap l1 l2).objs.size=s.heap.objs.size+4:=(xhn ..).trans (by rw[z3]);have g5:(lay5 s.heap l1 l2).get? (lay4 s.heap l1 l2).objs.size=some _:=xbr _ rfl;have g4:(lay5 s.heap l1 l2).get? (lay3 s.heap l1 l2).objs.size=some _:=xbd _ (xbr _ rfl);have g3:(lay5 s.heap l1 l2).get? (lay2 s.heap l1 l2).objs.size=some _:=xbd _ (xbd _ (xbr _ rfl));have g2:(lay5 s.heap l1 l2).get? (lay1 s.heap l1).objs.size=some _:=xbd _ (xbd _ (xbd _ (xbr _ rfl)));have g1:(lay5 s.heap l1 l2).get? s.heap.objs.size=some _:=xbd _ (xbd _ (xbd _ (xbd _ (xbr _ rfl))));have fin:=h (lay5 s.heap l1 l2) (lay4 s.heap l1 l2).objs.size (lay2 s.heap l1 l2).objs.size (lay3 s.heap l1 l2).objs.size s.heap.objs.size (lay1 s.heap l1).objs.size
  (by rw[z4,z3,z2,z1];exact(zom lt1 lt2).1) ⟨g5,g3,⟨_,_,g4⟩,⟨_,g1,rfl,rfl⟩,⟨_,g2,rfl,rfl⟩⟩
  (by rw[z4,z3,z2,z1];exact(zom lt1 lt2).2) fun c o e=>xbd _ (xbd _ (xbd _ (xbd _ (xbd _ e))))
 exact⟨⟨_,g5,rfl⟩,fin⟩
end
section
variable {X:Cx}
noncomputable def iZip (K:Fg) (ta:TA):TI:=fun σ H R=>ta σ H fun vs H1=>∃a b,vs=[.ref a,.ref b]/\(∃xs,SqT K H1 a xs)/\(∃xs,SqT K H1 b xs)/\R (Itz K a b) H1
theorem zbes {elts:List Expr}{k:Nat}{tpos p pos:Pos}{a b:Expr}{ta:TA}(hg:Gl X "zip")(hm:X.mg "zip"=none)(ha:PA X [a, b] ta)
  (hs:starEach [a,b] X.env=[(false,eval a X.env),(false,eval b X.env)]:=by rfl)(hs2:starEach [b] X.env=[(false,eval b X.env)]:=by rfl) :
  PI X (.Tuple elts k tpos) (.Call (.Name "zip" p) [a, b] [] pos) (iZip X.K ta):=by
 intro aU s σ H R I h;refine Call_ (zko I hg hm PyProof.Rows.boot_zip (xfq (thn (ha pos aU s σ H _ I h) fun us s1 ⟨vs,H1,I1,r1,q1⟩=>?_) (by rw[hs,hs2]) (by rw[hs2];rfl)));obtain⟨a,b,e,⟨xs,hx⟩,⟨ys,hy⟩,q⟩:=q1;subst e;obtain⟨u1,u2,rfl,e1,e2⟩:=vals2 r1;cases e1;cases e2;obtain⟨its1,rv1,p1,hz1⟩:=I1.tuple hx;obtain⟨its2,rv2,p2,hz2⟩:=I1.tuple hy;refine ztq (show s1.heap.IsTuple a its1.toArray from p1) (show s1.heap.IsTuple b its2.toArray from p2) fun g z TI TO i1 i2 R Z low kp=>?_
 refine wpAny_pyIter_zip Z.zip ?_;exact⟨z,[z,TI,TO,i1,i2],_,_,H1,rfl,I1.kept (t':=s1.toks) kp,zvm R,Z,fun c hc=>I1.fpOk (low c hc) (I1.hok.fresh (low c hc)),q⟩
end
end L2
namespace Dd
open PySem L2
set_option genInjectivity true in
inductive D where
 | non | bl (b:Bool) | int (i:Int) | str (x:Str) | ty (n:String) | ref (n:Nat) | tup (ds:List D) | lst (ds:List D) | scr (ds:List D) | exn (c:Str) (l:List Int)
set_option genInjectivity true in
inductive O where
 /-- a list that may change;a dict by tuples of ints;one that is only read;gone -/
 | lst (xs:List D) | dT (kvs:List (List Int×D)) | fT (kvs:List (List Int×D)) | dead
 /-- a dict by ints -/
 | dI (kvs:List (Int×D))
 /-- a dict by tuples of tuples of ints,each True -/
 | dP (ks:List (List (List Int)))
 /-- the law's table of codes -/
 | tab
noncomputable abbrev Store:=List O
structure Exc where
 cls:Str
 at_:List Int
set_option genInjectivity true in
inductive Res (α:Type) where
 | ok (a:α) (st:Store) | exc (x:Exc) (st:Store) | stuck
noncomputable def Res.bind {α β:Type}:Res α->(α->Store->Res β)->Res β
 | .ok a st,f=>f a st
 | .exc x st,_=>.exc x st
 | .stuck,_=>.stuck
@[simp] theorem zez {α β:Type} (a:α) (st:Store) (f:α->Store->Res β):(Res.ok a st).bind f=f a st:=rfl
@[simp] theorem zbht {α β:Type} (x:Exc) (st:Store) (f:α->Store->Res β):(Res.exc x st:Res α).bind f=.exc x st:=rfl
@[simp] theorem zbdc {α β:Type} (f:α->Store->Res β):(Res.stuck:Res α).bind f=.stuck:=rfl
theorem za {α β:Type}{r:Res α}{f:α->Store->Res β}{b:β}{st':Store}(h:r.bind f=.ok b st'):∃a st,r=.ok a st/\f a st=.ok b st':=by
 cases r with
 | ok a st=>exact⟨a,st,rfl,h⟩
 | exc x st=>cases h
 | stuck=>cases h
noncomputable abbrev DS:=List (Option D)
noncomputable abbrev SE:=DS->Store->Res D
noncomputable abbrev ST:=DS->Store->Res Bool
noncomputable abbrev SA:=DS->Store->Res (List D)
set_option genInjectivity true in
inductive Fl where
 | nx (σ:DS) | ret (v:D) | brk (σ:DS) | ct (σ:DS)
noncomputable abbrev SS:=DS->Store->Res Fl
noncomputable abbrev DFn:=List D->Store->Res D
structure Loc where
 m:List (Option Addr)
 g:List Addr
noncomputable def Out (ρ:Loc) (a:Addr):Prop:=some a∉ρ.m/\a∉ρ.g
noncomputable def Ls (K:Fg) (ρ:Loc) (H:Hp) (a:Addr) (vs:List V):Prop:=(Rd H a (.lst vs)/\Out ρ a)\/∀H':Hp,SqL K H' a vs
noncomputable def XAt (K:Fg) (ρ:Loc) (H:Hp) (c:Str) (l:List Int) (a:Addr):Prop:=∃C o,W.nsIn K mainGlobals c=some (some (.ref C))/\(H a=some (.frz o (.ext fun _=>True))/\Out ρ a)/\o.cls=.ref C/\(∃vs,o.data=.fields vs/\vs[2]?=some .none) /\
 ((l=[]/\o.dict=none)\/∃ i dx od, l=[i]/\o.dict=some dx/\H dx=some (.frz od (.xd [("at", .int i)]))/\Out ρ dx)
theorem XAt.map {K:Fg}{ρ ρ':Loc}{H H':Hp}{c:Str}{l:List Int}{a:Addr}(h:XAt K ρ H c l a)(f:∀b ob u,H b=some (.frz ob u)->Out ρ b->H' b=some (.frz ob u)/\Out ρ' b):XAt K ρ' H' c l a:=by
 obtain⟨C,o,h1,h2,h3,h4,h5⟩:=h;refine⟨C,o,h1,f _ _ _ h2.1 h2.2,h3,h4,?_⟩;rcases h5 with h5 | ⟨i,dx,od,h6,h7,h8,h9⟩
 ·exact .inl h5
 ·exact .inr ⟨i,dx,od,h6,h7,(f _ _ _ h8 h9).1,(f _ _ _ h8 h9).2⟩
mutual
inductive At (K:Fg) (ρ:Loc) (H:Hp):D->V->Prop
 | non:At K ρ H .non .non
 | bl (b:Bool):At K ρ H (.bl b) (.bl b)
 | int (i:Int):At K ρ H (.int i) (.int i)
 | str (x:Str):At K ρ H (.str x) (.str x)
 | ty (n:String):At K ρ H (.ty n) (.ty n)
 | ref {n:Nat} {v:V}:n < ρ.m.length->(∀a,ρ.m[n]?=some (some a)->v=.ref a)->At K ρ H (.ref n) v
 | tup {a:Addr} {ds:List D} {vs:List V}:H a=some (.tup vs)->Out ρ a->AtAll K ρ H ds vs->At K ρ H (.tup ds) (.ref a)
 | lst {a:Addr} {ds:List D} {vs:List V}:H a=some (.lst vs)->Out ρ a->AtAll K ρ H ds vs->At K ρ H (.lst ds) (.ref a)
 | scr {a:Addr} {ds:List D} {vs:List V}:Ls K ρ H a vs->AtAll K ρ H ds vs->At K ρ H (.scr ds) (.ref a)
 | exn {c:Str} {l:List Int} {a:Addr}:XAt K ρ H c l a->At K ρ H (.exn c l) (.ref a)
inductive AtAll (K:Fg) (ρ:Loc) (H:Hp):List D->List V->Prop
 | nil:AtAll K ρ H [] []
 | cons {d:D} {ds:List D} {v:V} {vs:List V}:At K ρ H d v->AtAll K ρ H ds vs->AtAll K ρ H (d::ds) (v::vs)
end
structure Mv (ρ:Loc) (H:Hp) (ρ':Loc) (H':Hp):Prop where
 out:∀{a:Addr} {o:HO},H a=some o->Out ρ a->H' a=some o/\Out ρ' a
 len:ρ.m.length<=ρ'.m.length
 old:∀(n:Nat) (a:Addr),n < ρ.m.length->ρ'.m[n]?=some (some a)->ρ.m[n]?=some (some a)
theorem Ls.mv {K:Fg}{ρ ρ':Loc}{H H':Hp}{a:Addr}{vs:List V}(x:Mv ρ H ρ' H')(h:Ls K ρ H a vs):Ls K ρ' H' a vs:=by
 rcases h with⟨h | ⟨o,h⟩,n⟩ | h
 ·exact .inl ⟨.inl (x.out h n).1,(x.out h n).2⟩
 ·exact .inl ⟨.inr ⟨o,(x.out h n).1⟩,(x.out h n).2⟩
 ·exact .inr h
theorem At.mv {K:Fg}{ρ ρ':Loc}{H H':Hp}(x:Mv ρ H ρ' H'){d:D}{v:V}(h:At K ρ H d v):At K ρ' H' d v :=
 At.rec (motive_1:=fun d v _=>At K ρ' H' d v) (motive_2:=fun d v _=>AtAll K ρ' H' d v) .non .bl .int .str .ty (fun h e=>.ref (xbh h x.len) fun a q=>e a (x.old _ a h q)) (fun h n _ ih=>.tup (x.out h n).1 (x.out h n).2 ih) (fun h n _ ih=>.lst (x.out h n).1 (x.out h n).2 ih) (fun h _ ih=>.scr (h.mv x) ih) (fun h=>.exn (h.map fun _ _ _ e n=>x.out e n)) .nil (fun _ _ a b=>.cons a b) h
theorem AtAll.mv {K:Fg}{ρ ρ':Loc}{H H':Hp}(x:Mv ρ H ρ' H'){d:List D}{v:List V}(h:AtAll K ρ H d v):AtAll K ρ' H' d v :=
 AtAll.rec (motive_1:=fun _ _ _=>True) (motive_2:=fun d v _=>AtAll K ρ' H' d v) trivial (fun _=>trivial) (fun _=>trivial) (fun _=>trivial) (fun _=>trivial) (fun _ _=>trivial) (fun _ _ _ _=>trivial) (fun _ _ _ _=>trivial) (fun _ _ _=>trivial) (fun _=>trivial) .nil (fun a _ _ b=>.cons (a.mv x) b) h
structure Ext (ρ:Loc) (H:Hp) (ρ':Loc) (H':Hp):Prop where
 len:ρ.m.length<=ρ'.m.length
 old:∀(n:Nat) (a:Addr),n < ρ.m.length->ρ'.m[n]?=some (some a)->ρ.m[n]?=some (some a)
 keep:∀a o,H a=some o->some a∉ρ.m->H' a=some o/\some a∉ρ'.m
 gho:ρ'.g=ρ.g
 frz:∀a ob u,H a=some (.frz ob u)->H' a=some (.frz ob u)
theorem Ext.out {ρ ρ':Loc}{H H':Hp}(x:Ext ρ H ρ' H'){a:Addr}{o:HO}(h:H a=some o)(n:Out ρ a):H' a=some o/\Out ρ' a :=
 ⟨(x.keep a o h n.1).1,(x.keep a o h n.1).2,by rw[x.gho];exact n.2⟩
theorem Ext.mv {ρ ρ':Loc}{H H':Hp}(x:Ext ρ H ρ' H'):Mv ρ H ρ' H':=⟨fun h n=>x.out h n,x.len,x.old⟩
theorem Ls.sq {K:Fg}{ρ:Loc}{H:Hp}{a:Addr}{vs:List V}(h:Ls K ρ H a vs):SqL K H a vs:=by
 rcases h with h | h
 ·exact .inl h.1
 ·exact h H
section
variable {K:Fg}
theorem Ext.refl (ρ:Loc)(H:Hp):Ext ρ H ρ H:=⟨xbf _,fun _ _ _ e=>e,fun _ _ e n=>⟨e,n⟩,rfl,fun _ _ _ e=>e⟩
theorem Ext.trans {ρ ρ1 ρ2:Loc}{H H1 H2:Hp}(a:Ext ρ H ρ1 H1)(b:Ext ρ1 H1 ρ2 H2):Ext ρ H ρ2 H2 :=
 ⟨xbb a.len b.len,fun n c h e=>a.old n c h (b.old n c (xbh h a.len) e),fun c o e n=>by
  obtain⟨e1,n1⟩:=a.keep c o e n
  exact b.keep c o e1 n1,b.gho.trans a.gho,fun c ob u e=>b.frz c ob u (a.frz c ob u e)⟩
theorem At.ext {ρ ρ':Loc}{H H':Hp}(x:Ext ρ H ρ' H'){d:D}{v:V}(h:At K ρ H d v):At K ρ' H' d v:=h.mv x.mv
theorem AtAll.ext {ρ ρ':Loc}{H H':Hp}(x:Ext ρ H ρ' H'){d:List D}{v:List V}(h:AtAll K ρ H d v):AtAll K ρ' H' d v:=h.mv x.mv
theorem AtAll.length {ρ:Loc}{H:Hp}:∀{ds:List D} {vs:List V},AtAll K ρ H ds vs->vs.length=ds.length
 | _,_,.nil=>rfl
 | _,_,.cons _ t=>by rw[xby,xby,AtAll.length t]
theorem AtAll.get {ρ:Loc}{H:Hp}:∀{ds:List D} {vs:List V} {i:Nat} {d:D},AtAll K ρ H ds vs->ds[i]?=some d->∃v,vs[i]?=some v/\At K ρ H d v
 | _,_,_,_,.nil,e=>by simp at e
 | _,_,0,_,.cons a _,e=>by simp at e;subst e;exact⟨_,rfl,a⟩
 | _,_,i+1,d,.cons _ t,e=>by
  obtain⟨u,h1,h2⟩:=AtAll.get (i:=i) (d:=d) t (by simpa using e);exact⟨u,by simpa using h1,h2⟩
theorem AtAll.append {ρ:Loc}{H:Hp}:∀{ds es:List D} {vs us:List V},AtAll K ρ H ds vs->AtAll K ρ H es us->AtAll K ρ H (ds++es) (vs++us)
 | _,_,_,_,.nil,b=>b
 | _,_,_,_,.cons a t,b=>.cons a (AtAll.append t b)
theorem AtAll.take {ρ:Loc}{H:Hp}:∀{ds:List D} {vs:List V} (n:Nat),AtAll K ρ H ds vs->AtAll K ρ H (ds.take n) (vs.take n)
 | _,_,0,_=>.nil
 | _,_,_+1,.nil=>.nil
 | _,_,n+1,.cons a t=>.cons a (AtAll.take n t)
theorem AtAll.drop {ρ:Loc}{H:Hp}:∀{ds:List D} {vs:List V} (n:Nat),AtAll K ρ H ds vs->AtAll K ρ H (ds.drop n) (vs.drop n)
 | _,_,0,h=>h
 | _,_,_+1,.nil=>.nil
 | _,_,n+1,.cons a t=>AtAll.drop n t
theorem AtAll.set {ρ:Loc}{H:Hp}{d:D}{v:V}(a:At K ρ H d v):∀{ds:List D} {vs:List V} (n:Nat),AtAll K ρ H ds vs->AtAll K ρ H (ds.set n d) (vs.set n v)
 | _,_,_,.nil=>.nil
 | _,_,0,.cons _ t=>.cons a t
 | _,_,n+1,.cons b t=>.cons b (AtAll.set a n t)
noncomputable def KvAt (K:Fg) (ρ:Loc) (H:Hp):List (List Int×D)->List (List Key×V)->Prop:=Paired fun p q=>q.1=p.1.map Sum.inl/\At K ρ H p.2 q.2
theorem KvAt.ext {ρ ρ':Loc}{H H':Hp}(x:Ext ρ H ρ' H'){a:List (List Int×D)}{b:List (List Key×V)}(h:KvAt K ρ H a b):KvAt K ρ' H' a b:=Paired.mapP h fun p q z=>⟨z.1,z.2.ext x⟩
noncomputable abbrev lamQ:Str:=(("law" : Str)++".<locals>.")++"<lambda>"
noncomputable def TabOk (H:Hp) (ps:Array Value):Prop:=TriplesOk ps.toList/\∀pos cv,codeAmong pos ps.toList=some cv->∃c oc vs t,cv=.ref c/\H c=some (.frz oc (.ext fun _=>True))/\oc.data=.fields vs/\vs[1]?=some (.str lamQ t)
theorem TabOk.map {H H':Hp}{ps:Array Value}(h:TabOk H ps)(f:∀b ob u,H b=some (.frz ob u)->H' b=some (.frz ob u)):TabOk H' ps :=
 ⟨h.1,fun pos cv e=>by obtain⟨c,oc,vs,t,e1,e2,e3⟩:=h.2 pos cv e;exact⟨c,oc,vs,t,e1,f _ _ _ e2,e3⟩⟩
noncomputable def KiAt (K:Fg) (ρ:Loc) (H:Hp):List (Int×D)->List (Key×V)->Prop:=Paired fun p q=>q.1=Sum.inl p.1/\At K ρ H p.2 q.2
theorem KiAt.ext {K:Fg}{ρ ρ':Loc}{H H':Hp}(x:Ext ρ H ρ' H'){a:List (Int×D)}{b:List (Key×V)}(h:KiAt K ρ H a b):KiAt K ρ' H' a b:=Paired.mapP h fun p q z=>⟨z.1,z.2.ext x⟩
noncomputable def PDict (a:Addr) (es:List DictEntry):Heap->Prop:=fun h=>∃o arr ep,h.get? a=some o/\o.ExactDict/\o.data=.dict arr ep/\arr.toList=es
noncomputable def hashP (k:List (List Int)):Int:=reduceHash (Builtin.Tuple.tupleHashOf (k.map fun r=>reduceHash (Builtin.Tuple.tupleHashOf (r.map hashInt))))
noncomputable def nestD (k:List (List Int)):D:=.tup (k.map fun r=>.tup (r.map .int))
noncomputable def KpAt (K:Fg) (ρ:Loc) (H:Hp):List (List (List Int))->List DictEntry->Prop:=Paired fun k e=>e.hash=hashP k/\e.val=.bool true/\∃b,e.key=.ref b/\At K ρ H (nestD k) (.ref b)
theorem KpAt.map {K:Fg}{ρ ρ':Loc}{H H':Hp}(k:∀d v,At K ρ H d v->At K ρ' H' d v){a:List (List (List Int))}{b:List DictEntry}(h:KpAt K ρ H a b):KpAt K ρ' H' a b:=Paired.mapP h fun p q ⟨z1,z2,c,z3,z4⟩=>⟨z1,z2,c,z3,k _ _ z4⟩
noncomputable def OAt (K:Fg) (ρ:Loc) (H:Hp):O->Addr->Prop
 | .lst xs,a=>∃vs,H a=some (.lst vs)/\AtAll K ρ H xs vs
 | .dT kvs,a=>∃vs,H a=some (.dT vs)/\KvAt K ρ H kvs vs
 | .fT kvs,a=>∃vs ob,H a=some (.frz ob (.dT vs))/\KvAt K ρ H kvs vs
 | .dI kvs,a=>∃vs,H a=some (.dK vs)/\KiAt K ρ H kvs vs
 | .dP ks,a=>∃es,H a=some (.ext (PDict a es))/\(a==sysModules)=false/\ks.length<=sizeLine/\ks.Nodup/\KpAt K ρ H ks es
 | .dead,_=>False
 | .tab, a=>(∃ c, W.tabIn K "law"=some (c, a))/\∃ ps, H a=some (.tbl ps)/\TabOk H ps
structure Rep (K:Fg) (ρ:Loc) (st:Store) (H:Hp):Prop where
 len:ρ.m.length=st.length
 inj:∀(n m:Nat) (a:Addr),ρ.m[n]?=some (some a)->ρ.m[m]?=some (some a)->n=m
 obj:∀(n:Nat) (a:Addr) (o:O),ρ.m[n]?=some (some a)->st[n]?=some o->OAt K ρ H o a
 gh:∀a∈ρ.g,(∃vs,H a=some (.lst vs))/\some a∉ρ.m
 live:∀(n:Nat) (o:O),st[n]?=some o->o≠.dead->∃a,ρ.m[n]?=some (some a)
noncomputable def AtO (K:Fg) (ρ:Loc) (H:Hp) (o:Option D) (v:Option V):Prop:=∀d,o=some d->∃u,v=some u/\At K ρ H d u
noncomputable abbrev AtS (K:Fg) (ρ:Loc) (H:Hp):DS->St->Prop:=Paired (AtO K ρ H)
theorem AtS.ext {ρ ρ':Loc}{H H':Hp}(x:Ext ρ H ρ' H'){σ:DS}{τ:St}(h:AtS K ρ H σ τ):AtS K ρ' H' σ τ:=Paired.mapP h fun o v z d e=>by
 obtain⟨u,e1,a⟩:=z d e;exact⟨u,e1,a.ext x⟩
theorem AtS.get {ρ:Loc}{H:Hp}:∀{σ:DS} {τ:St} {i:Nat} {d:D},AtS K ρ H σ τ->σ[i]?=some (some d)->∃u,τ[i]?=some (some u)/\At K ρ H d u
 | _,_,_,_,.nil,e=>by simp at e
 | _,_,0,_,.cons a _,e=>by
  simp at e;subst e
  obtain⟨u,e1,h⟩:=a _ rfl;exact⟨u,by simp[e1],h⟩
 | _,_,i+1,d,.cons _ t,e=>by
  obtain⟨u,h1,h2⟩:=AtS.get (i:=i) (d:=d) t (by simpa using e);exact⟨u,by simpa using h1,h2⟩
theorem AtS.set {ρ:Loc}{H:Hp}{d:D}{v:V}(a:At K ρ H d v):∀{σ:DS} {τ:St} (i:Nat),AtS K ρ H σ τ->AtS K ρ H (σ.set i (some d)) (τ.set i (some v))
 | _,_,_,.nil=>.nil
 | _,_,0,.cons _ t=>.cons (fun d' e=>by cases e;exact⟨v,rfl,a⟩) t
 | _,_,i+1,.cons q t=>.cons q (AtS.set a i t)
end
noncomputable def tD (K:Fg) (f:SE):TE:=fun τ H Q=>∃ρ σ st v st',AtS K ρ H σ τ/\Rep K ρ st H/\f σ st=.ok v st'/\∀ρ' H' u,Ext ρ H ρ' H'->Rep K ρ' st' H'->At K ρ' H' v u->Q u H'
noncomputable def tDT (K:Fg) (f:ST):TT:=fun τ H Q=>∃ρ σ st v st',AtS K ρ H σ τ/\Rep K ρ st H/\f σ st=.ok v st'/\∀ρ' H',Ext ρ H ρ' H'->Rep K ρ' st' H'->Q v H'
noncomputable def tDA (K:Fg) (f:SA):TA:=fun τ H Q=>∃ρ σ st v st',AtS K ρ H σ τ/\Rep K ρ st H/\f σ st=.ok v st'/\∀ρ' H' u,Ext ρ H ρ' H'->Rep K ρ' st' H'->AtAll K ρ' H' v u->Q u H'
noncomputable def FlOk (K:Fg) (ρ:Loc) (H:Hp) (st':Store) (E:Ends):Fl->Prop
 | .nx σ=>∀ρ' H' τ,Ext ρ H ρ' H'->Rep K ρ' st' H'->AtS K ρ' H' σ τ->E.nx τ H'
 | .brk σ=>∀ρ' H' τ,Ext ρ H ρ' H'->Rep K ρ' st' H'->AtS K ρ' H' σ τ->E.bk τ H'
 | .ct σ=>∀ρ' H' τ,Ext ρ H ρ' H'->Rep K ρ' st' H'->AtS K ρ' H' σ τ->E.ct τ H'
 | .ret v=>∀ρ' H' u,Ext ρ H ρ' H'->Rep K ρ' st' H'->At K ρ' H' v u->E.rt u H'
theorem FlOk.ext {K:Fg}{ρ ρ1:Loc}{H H1:Hp}{st':Store}{E:Ends}{fl:Fl}(x:Ext ρ H ρ1 H1)(h:FlOk K ρ H st' E fl):FlOk K ρ1 H1 st' E fl:=by
 cases fl with
 | nx σ=>exact fun ρ' H' τ e=>h ρ' H' τ (x.trans e)
 | brk σ=>exact fun ρ' H' τ e=>h ρ' H' τ (x.trans e)
 | ct σ=>exact fun ρ' H' τ e=>h ρ' H' τ (x.trans e)
 | ret v=>exact fun ρ' H' τ e=>h ρ' H' τ (x.trans e)
noncomputable def tDS (K:Fg) (f:SS):TS:=fun E τ H=>∃ρ σ st fl st',AtS K ρ H σ τ/\Rep K ρ st H/\f σ st=.ok fl st'/\FlOk K ρ H st' E fl
noncomputable abbrev DE (X:Cx) (e:Expr) (f:SE):Prop:=PE X e (tD X.K f)
noncomputable abbrev DT (X:Cx) (e:Expr) (f:ST):Prop:=PT X e (tDT X.K f)
noncomputable abbrev DW (X:Cx) (e:Expr) (f:ST):Prop:=PW X e (tDT X.K f)
noncomputable abbrev DA (X:Cx) (es:List Expr) (f:SA):Prop:=PA X es (tDA X.K f)
noncomputable abbrev DSt (X:Cx) (s:Stmt) (f:SS):Prop:=PS X s (tDS X.K f)
noncomputable abbrev DSs (X:Cx) (s:List Stmt) (f:SS):Prop:=PSs X s (tDS X.K f)
section
variable {X:Cx}{e:Expr}{es:List Expr}{s:Stmt}{ss:List Stmt}
theorem zfg {t t':TE}(h:PE X e t)(k:∀σ H Q,t' σ H Q->t σ H Q):PE X e t':=fun aU s σ H Q I q=>h aU s σ H Q I (k _ _ _ q)
theorem zbdl {t t':TT}(h:PT X e t)(k:∀σ H Q,t' σ H Q->t σ H Q):PT X e t':=fun aU s σ H Q I q=>h aU s σ H Q I (k _ _ _ q)
theorem pw_to {t t':TT}(h:PW X e t)(k:∀σ H Q,t' σ H Q->t σ H Q):PW X e t':=fun wh aU s σ H Q I q=>h wh aU s σ H Q I (k _ _ _ q)
theorem zbit {t t':TA}(h:PA X es t)(k:∀σ H Q,t' σ H Q->t σ H Q):PA X es t':=fun pos aU s σ H Q I q=>h pos aU s σ H Q I (k _ _ _ q)
theorem zry {t t':TS}(h:PS X s t)(k:∀E σ H,t' E σ H->t E σ H):PS X s t':=fun aU z σ H E I q=>h aU z σ H E I (k _ _ _ q)
theorem zzm {t t':TS}(h:PSs X ss t)(k:∀E σ H,t' E σ H->t E σ H):PSs X ss t':=fun aU z σ H E I q=>h aU z σ H E I (k _ _ _ q)
end
noncomputable def aA (i:Nat):SE:=fun σ st=>match σ[i]? with
 | some (some d)=>.ok d st
 | _=>.stuck
noncomputable def eC (d:D):SE:=fun _ st=>.ok d st
section
variable {X:Cx}
theorem zbkq {e:Expr}{i:Nat}(h:PE X e (tVar i)):DE X e (aA i):=zfg h fun τ H Q hq0=>by
 obtain⟨ρ,σ,st,v,st',a,r,e,q⟩:=hq0;unfold aA at e;split at e
 ·rename_i d hd;cases e;obtain⟨u,e1,e2⟩:=a.get hd;exact⟨u,e1,q ρ H u (.refl _ _) r e2⟩
 ·cases e
theorem zbhj {e:Expr}{v:V}{d:D}(h:PE X e (tC v))(k:∀ρ H,At X.K ρ H d v):DE X e (eC d):=zfg h fun τ H Q hq0=>by
 obtain⟨ρ,σ,st,v,st',a,r,e,q⟩:=hq0;cases e;exact q ρ H _ (.refl _ _) r (k _ _)
theorem zbkw {i j pos}:DE X (.Constant (.int i) j pos) (eC (.int i)):=zbhj zbfa fun _ _=>.int i
theorem d_bl {b j pos}:DE X (.Constant (.bool b) j pos) (eC (.bl b)):=zbhj zbjr fun _ _=>.bl b
end
noncomputable def aS (g:D->D->Store->Res D) (f f':SE):SE:=fun σ st=>(f σ st).bind fun x st1=>(f' σ st1).bind fun y st2=>g x y st2
noncomputable def eUn (g:D->Store->Res D) (f:SE):SE:=fun σ st=>(f σ st).bind fun x st1=>g x st1
noncomputable def OpD (K:Fg) (g:D->D->Store->Res D) (r:R2):Prop :=
 ∀ρ H st x y u v z st' (Q:VK),Rep K ρ st H->At K ρ H x u->At K ρ H y v->g x y st=.ok z st'->(∀ρ' H' w,Ext ρ H ρ' H'->Rep K ρ' st' H'->At K ρ' H' z w->Q w H')->r u v H Q
theorem zbdm {K:Fg}{g:D->D->Store->Res D}{r:R2}(hr:OpD K g r){f f':SE}:∀τ H Q,tD K (aS g f f') τ H Q->tOp r (tD K f) (tD K f') τ H Q:=fun τ H Q hq0=>by
 obtain⟨ρ,σ,st,v,st',a,rp,e,q⟩:=hq0;obtain⟨x,st1,e1,e⟩:=za e;obtain⟨y,st2,e2,e⟩:=za e;refine⟨ρ,σ,st,x,st1,a,rp,e1,fun ρ1 H1 u x1 rp1 a1=>?_⟩;refine⟨ρ1,σ,st1,y,st2,a.ext x1,rp1,e2,fun ρ2 H2 w x2 rp2 a2=>?_⟩;exact hr ρ2 H2 st2 x y u w v st' Q rp2 (a1.ext x2) a2 e fun ρ' H' z x3 rp3 a3=>q ρ' H' z (x1.trans (x2.trans x3)) rp3 a3
section
variable {X:Cx}{a b c:Expr}{f f' f'':SE}{pos:Pos}
theorem d_op {op:Operator}{r:R2}{g:D->D->Store->Res D}(ho:OpR X (binaryOp op) r)(hr:OpD X.K g r)(ha:DE X a f)(hb:DE X b f'):DE X (.BinOp a op b pos) (aS g f f'):=zfg (zbir ho ha hb) (zbdm hr)
theorem zbkx {op:CmpOp}{r:R2}{g:D->D->Store->Res D}(ho:OpR X (compareOp op) r)(hr:OpD X.K g r)(ha:DE X a f)(hb:DE X b f')(hm:behindInMarks op b=false):DE X (.Compare a [op] [b] pos) (aS g f f'):=zfg (zbaf ho ha hb hm) (zbdm hr)
noncomputable def eB (f:SE):ST:=fun σ st=>(f σ st).bind fun v st1=>match v with
 | .bl b=>.ok b st1
 | _=>.stuck
theorem eB_t {K:Fg}{f:SE}:∀τ H Q,tDT K (eB f) τ H Q->tD K f τ H fun x H1=>∃c,x=.bl c/\Q c H1:=fun τ H Q hq0=>by
 obtain⟨ρ,σ,st,v,st',a,rp,e,q⟩:=hq0;obtain⟨x,st1,e1,e⟩:=za e;refine⟨ρ,σ,st,x,st1,a,rp,e1,fun ρ1 H1 u x1 rp1 a1=>?_⟩;cases x<;>try (cases e;done)
 cases e;cases a1;exact⟨_,rfl,q _ _ x1 rp1⟩
theorem zbgo {op:CmpOp}{r:R2}{g:D->D->Store->Res D}(ho:OpR X (compareOp op) r)(hr:OpD X.K g r)(ha:DE X a f)(hb:DE X b f')(hm:behindInMarks op b=false):DT X (.Compare a [op] [b] pos) (eB (aS g f f')) :=
 zbdl (zzl ho ha hb hm) fun τ H Q h=>zbdm hr _ _ _ (eB_t _ _ _ h)
noncomputable def eChain (g g':D->D->Store->Res D) (f f' f'':SE):SE:=fun σ st=>(f σ st).bind fun x st1=>(f' σ st1).bind fun y st2=>(g x y st2).bind fun z st3=>match z with
 | .bl true=>(f'' σ st3).bind fun w st4=>g' y w st4
 | .bl false=>.ok (.bl false) st3
 | _=>.stuck
end
end Dd
namespace Dd
open PySem L2
section
variable {K:Fg}{ρ:Loc}{st:Store}{H:Hp}{p a:Addr}{o:HO}{n:Nat}
theorem Ext.new (hp:H p=none)(o:HO):Ext ρ H ρ (upd H p o):=⟨xbf _,fun _ _ _ e=>e,fun b u e m=>⟨by rw[zn (zh e hp)];exact e,m⟩,rfl,fun b ob u e=>by rw[zn (zh e hp)];exact e⟩
theorem zeo {vs:List V}(h:H a=some (.lst vs)):∀ob u,H a≠some (.frz ob u):=fun ob u z=>by rw[h] at z;cases z
theorem zgs {vs:List (List Key×V)}(h:H a=some (.dT vs)):∀ob u,H a≠some (.frz ob u):=fun ob u z=>by rw[h] at z;cases z
theorem Ext.wr (h:ρ.m[n]?=some (some a))(hz:∀ob u,H a≠some (.frz ob u))(o:HO):Ext ρ H ρ (upd H a o):=⟨xbf _,fun _ _ _ e=>e,fun b u e m=>⟨by
 rw[zn]
 ·exact e
 ·rintro rfl
  exact m (xbx h),m⟩,rfl,fun b ob u e=>by
 rw[zn]
 ·exact e
 ·rintro rfl
  exact hz _ _ e⟩
theorem OAt.has {x:O}(h:OAt K ρ H x a):∃u,H a=some u:=by
 cases x with
 | lst xs=>obtain⟨vs,e,_⟩:=h;exact⟨_,e⟩
 | dT kvs=>obtain⟨vs,e,_⟩:=h;exact⟨_,e⟩
 | fT kvs=>obtain⟨vs,ob,e,_⟩:=h;exact⟨_,e⟩
 | dI kvs=>obtain⟨vs,e,_⟩:=h;exact⟨_,e⟩
 | dP ks=>obtain⟨vs,e,_⟩:=h;exact⟨_,e⟩
 | dead=>exact h.elim
 | tab=>obtain⟨_,ps,e,_⟩:=h;exact⟨_,e⟩
theorem OAt.ext {ρ':Loc}{H':Hp}{x:O}(e:Ext ρ H ρ' H')(same:H' a=H a)(h:OAt K ρ H x a):OAt K ρ' H' x a:=by
 cases x with
 | lst xs=>obtain⟨vs,q,r⟩:=h;exact⟨vs,by rw[same];exact q,r.ext e⟩
 | dT kvs=>obtain⟨vs,q,r⟩:=h;exact⟨vs,by rw[same];exact q,r.ext e⟩
 | fT kvs=>obtain⟨vs,ob,q,r⟩:=h;exact⟨vs,ob,by rw[same];exact q,r.ext e⟩
 | dI kvs=>obtain⟨vs,q,r⟩:=h;exact⟨vs,by rw[same];exact q,r.ext e⟩
 | dP ks=>obtain⟨vs,q,n,l,u,r⟩:=h;exact⟨vs,by rw[same];exact q,n,l,u,r.map fun _ _ z=>z.ext e⟩
 | dead=>exact h.elim
 | tab=>obtain⟨c,ps,q,r⟩:=h;exact⟨c,ps,by rw[same];exact q,r.map e.frz⟩
theorem Rep.has (r:Rep K ρ st H)(h:ρ.m[n]?=some (some a)):∃x,st[n]?=some x/\OAt K ρ H x a:=by
 have hn:n < st.length:=by rw[← r.len];exact(xbm.mp h).1
 exact⟨st[n],xbg hn,r.obj n a _ h (xbg hn)⟩
theorem Rep.new (r:Rep K ρ st H)(hp:H p=none)(o:HO):Rep K ρ st (upd H p o):=⟨r.len,r.inj,fun m b x e1 e2=>by
 have q:=r.obj m b x e1 e2;obtain⟨u,hu⟩:=q.has;exact q.ext (Ext.new hp o) (zn (zh hu hp)),fun b hb=>by
 obtain⟨⟨u,hu⟩,n⟩:=r.gh b hb
 exact⟨⟨u,by rw[zn (zh hu hp)];exact hu⟩,n⟩,r.live⟩
theorem Rep.wr (r:Rep K ρ st H)(h:ρ.m[n]?=some (some a))(hz:∀ob u,H a≠some (.frz ob u)){x:O}{o:HO}(q:OAt K ρ (upd H a o) x a):Rep K ρ (st.set n x) (upd H a o):=⟨by rw[r.len,xfr],r.inj,fun m b y e1 e2=>by
 by_cases hm:m=n
 ·subst hm;have hb:b=a:=by rw[h] at e1;exact(xco (xco e1)).symm
  subst hb;have hl:m < st.length:=by rw[← r.len];exact(xbm.mp h).1
  rw[xel hl] at e2;cases e2;exact q
 ·rw[xdd (xda hm)] at e2;refine(r.obj m b y e1 e2).ext (Ext.wr h hz o) (zn fun z=>hm ?_);subst z;exact r.inj m n b e1 h,fun b hb=>by
 obtain⟨⟨u,hu⟩,n1⟩:=r.gh b hb;refine⟨⟨u,?_⟩,n1⟩;rw[zn]
 ·exact hu
 ·rintro rfl;exact n1 (xbx h),fun m y e ne=>by
 by_cases hm:m=n
 ·subst hm;exact⟨a,h⟩
 ·rw[xdd (xda hm)] at e
  exact r.live m y e ne⟩
theorem Rep.alloc (r:Rep K ρ st H)(hp:H p=none){x:O}{o:HO}(q:Ext ρ H ⟨ρ.m++[some p],ρ.g⟩ (upd H p o)->OAt K ⟨ρ.m++[some p],ρ.g⟩ (upd H p o) x p):Ext ρ H ⟨ρ.m++[some p],ρ.g⟩ (upd H p o)/\Rep K ⟨ρ.m++[some p],ρ.g⟩ (st++[x]) (upd H p o):=by
 have hn:∀(m:Nat) (b:Addr),(ρ.m++[some p])[m]?=some (some b)->(m < ρ.m.length/\ρ.m[m]?=some (some b))\/(m=ρ.m.length/\b=p):=fun m b e=>by
  rcases xik m ρ.m.length with z | z
  ·rw[xcw z] at e;exact .inl ⟨z,e⟩
  ·rw[xdo z] at e;have z2:m - ρ.m.length=0:=by
    have:=(xbm.mp e).1;simp at this;lia
   rw[z2] at e;simp at e;exact .inr ⟨by lia,e.symm⟩
 have nl:∀(m:Nat),ρ.m[m]?≠some (some p):=fun m e=>by
  obtain⟨x,_,q⟩:=r.has e;obtain⟨u,hu⟩:=q.has;rw[hp] at hu;cases hu
 have E:Ext ρ H ⟨ρ.m++[some p],ρ.g⟩ (upd H p o):=⟨by rw[xbk];lia,fun m b h e=>by
   rw[xcw h] at e;exact e,fun b u e m=>⟨by rw[zn (zh e hp)];exact e,fun z=>by
   rcases xbt.mp z with z | z
   ·exact m z
   ·simp at z;subst z;rw[hp] at e;cases e⟩,rfl,fun b ob u e=>by rw[zn (zh e hp)];exact e⟩
 refine⟨E,⟨by rw[xbk,xbk,r.len];rfl,fun m k b e1 e2=>?_,fun m b y e1 e2=>?_,fun b hb=>?_,fun m y e ne=>?_⟩⟩
 ·rcases hn m b e1 with⟨h1,q1⟩ | ⟨h1,rfl⟩
  ·rcases hn k b e2 with⟨h2,q2⟩ | ⟨h2,rfl⟩
   ·exact r.inj m k b q1 q2
   ·exact absurd q1 (nl m)
  ·rcases hn k b e2 with⟨h2,q2⟩ | ⟨h2,_⟩
   ·exact absurd q2 (nl k)
   ·lia
 ·rcases hn m b e1 with⟨h1,q1⟩ | ⟨h1,rfl⟩
  ·rw[xcw (by rw[← r.len];exact h1)] at e2;have q:=r.obj m b y q1 e2;obtain⟨u,hu⟩:=q.has;exact q.ext E (zn (zh hu hp))
  ·rw[h1,r.len,xdo (xbf _)] at e2;simp at e2;subst e2;exact q E
 ·obtain⟨⟨u,hu⟩,n1⟩:=r.gh b hb;refine⟨⟨u,by rw[zn (zh hu hp)];exact hu⟩,fun z=>?_⟩;rcases xbt.mp z with z | z
  ·exact n1 z
  ·simp at z;subst z;rw[hp] at hu;cases hu
 ·rcases xik m st.length with z | z
  ·rw[xcw z] at e;obtain⟨b,hb⟩:=r.live m y e ne;exact⟨b,by rw[xcw (by rw[r.len];exact z)];exact hb⟩
  ·have z2:=(xbm.mp e).1;simp at z2;have z3:m=ρ.m.length:=by rw[r.len];lia
   exact⟨p,by rw[z3,xdo (xbf _)];simp⟩
theorem Rep.kill (r:Rep K ρ st H)(h:n < ρ.m.length):Ext ρ H ⟨ρ.m.set n none,ρ.g⟩ H/\Rep K ⟨ρ.m.set n none,ρ.g⟩ (st.set n .dead) H:=by
 have hn:∀(m:Nat) (b:Addr),(ρ.m.set n none)[m]?=some (some b)->m≠n/\ρ.m[m]?=some (some b):=fun m b e=>by
  by_cases z:m=n
  ·subst z;rw[xel h] at e;simp at e
  ·rw[xdd (xda z)] at e;exact⟨z,e⟩
 have E:Ext ρ H ⟨ρ.m.set n none,ρ.g⟩ H:=⟨by rw[xfr];exact xbf _,fun m b _ e=>(hn m b e).2,fun b o e m=>⟨e,fun z=>by
  obtain⟨i,hi,e2⟩:=xen z;have:(ρ.m.set n none)[i]?=some (some b):=by rw[xbg hi,e2]
  exact m (xbx (hn i b this).2)⟩,rfl,fun _ _ _ e=>e⟩
 refine⟨E,⟨by rw[xfr,xfr,r.len],fun m k b e1 e2=>r.inj m k b (hn m b e1).2 (hn k b e2).2,fun m b y e1 e2=>?_,fun b hb=>⟨(r.gh b hb).1,fun z=>?_⟩,fun m y e ne=>?_⟩⟩
 rotate_left
 ·obtain⟨i,hi,e2⟩:=xen z;have:(ρ.m.set n none)[i]?=some (some b):=by rw[xbg hi,e2]
  exact(r.gh b hb).2 (xbx (hn i b this).2)
 ·have z:m≠n:=by
   rintro rfl;rw[xel (by rw[← r.len];exact h)] at e;cases e;exact ne rfl
  rw[xdd (xda z)] at e;obtain⟨b,hb⟩:=r.live m y e ne;exact⟨b,by rw[xdd (xda z)];exact hb⟩
 obtain⟨z,q⟩:=hn m b e1;rw[xdd (xda z)] at e2;exact(r.obj m b y q e2).ext E rfl
theorem zfi (r:Rep K ρ st H)(hp:H p=none):Out ρ p:=by
 refine⟨fun z=>?_,fun z=>?_⟩
 ·obtain⟨i,hi,e⟩:=xen z;obtain⟨x,_,q⟩:=r.has (n:=i) (a:=p) (by rw[xbg hi,e]);obtain⟨u,hu⟩:=q.has;rw[hp] at hu;cases hu
 ·obtain⟨⟨u,hu⟩,_⟩:=r.gh p z;rw[hp] at hu;cases hu
theorem At.newT (r:Rep K ρ st H)(hp:H p=none){ds:List D}{vs:List V}(h:AtAll K ρ H ds vs):At K ρ (upd H p (.tup vs)) (.tup ds) (.ref p):=.tup zo (zfi r hp) (h.ext (Ext.new hp _))
theorem At.newL (r:Rep K ρ st H)(hp:H p=none){ds:List D}{vs:List V}(h:AtAll K ρ H ds vs):At K ρ (upd H p (.lst vs)) (.lst ds) (.ref p):=.lst zo (zfi r hp) (h.ext (Ext.new hp _))
end
noncomputable def eAnd (f f':SE):SE:=fun σ st=>(f σ st).bind fun v st1=>match v with
 | .bl true=>f' σ st1
 | .bl false=>.ok (.bl false) st1
 | _=>.stuck
noncomputable def eOr (f f':SE):SE:=fun σ st=>(f σ st).bind fun v st1=>match v with
 | .bl true=>.ok (.bl true) st1
 | .bl false=>f' σ st1
 | _=>.stuck
noncomputable def eNot (f:SE):SE:=fun σ st=>(f σ st).bind fun v st1=>match v with
 | .bl b=>.ok (.bl (!b)) st1
 | _=>.stuck
noncomputable def bAnd (f f':ST):ST:=fun σ st=>(f σ st).bind fun b st1=>if b=true then f' σ st1 else .ok false st1
noncomputable def bOr (f f':ST):ST:=fun σ st=>(f σ st).bind fun b st1=>if b=true then .ok true st1 else f' σ st1
noncomputable def bNot (f:ST):ST:=fun σ st=>(f σ st).bind fun b st1=>.ok (!b) st1
noncomputable def eIf (c:ST) (f f':SE):SE:=fun σ st=>(c σ st).bind fun b st1=>if b=true then f σ st1 else f' σ st1
section
variable {X:Cx}{a b:Expr}{rest:List Expr}{f f':SE}{t t':ST}{pos:Pos}
theorem zbks {op}(h:DE X a f):DE X (.BoolOp op [a] pos) f:=zbey h
theorem zbky (ha:DE X a f)(hb:DE X (.BoolOp .And (b::rest) pos) f'):DE X (.BoolOp .And (a::b::rest) pos) (eAnd f f'):=zfg (zbfb ha hb) fun τ H Q hq0=>by
 obtain⟨ρ,σ,st,v,st',at',rp,e,q⟩:=hq0;obtain⟨x,st1,e1,e⟩:=za e;refine⟨ρ,σ,st,x,st1,at',rp,e1,fun ρ1 H1 u x1 rp1 a1=>?_⟩;cases x<;>try (cases e;done)
 rename_i bb;cases a1;refine⟨bb,rfl,?_⟩;cases bb with
 | true =>
  rw[if_pos rfl];exact⟨ρ1,σ,st1,v,st',at'.ext x1,rp1,e,fun ρ' H' u x2=>q ρ' H' u (x1.trans x2)⟩
 | false =>
  rw[if_neg (by decide)];cases e;exact q _ _ _ x1 rp1 (.bl false)
theorem zbkt (ha:DE X a f):DE X (.UnaryOp .Not a pos) (eNot f):=zfg (zbez ha) fun τ H Q hq0=>by
 obtain⟨ρ,σ,st,v,st',at',rp,e,q⟩:=hq0;obtain⟨x,st1,e1,e⟩:=za e;refine⟨ρ,σ,st,x,st1,at',rp,e1,fun ρ1 H1 u x1 rp1 a1=>?_⟩;cases x<;>try (cases e;done)
 rename_i bb;cases a1;cases e;exact⟨bb,rfl,q _ _ _ x1 rp1 (.bl _)⟩
theorem zbgk {op}(h:DT X a t)(hop:op=.And\/op=.Or):DW X (.BoolOp op [a] pos) t:=by
 rcases hop with rfl | rfl
 ·exact pw_and1 h
 ·exact pw_or1 h
theorem zbkm (ha:DT X a t)(hb:DW X (.BoolOp .Or (b::rest) pos) t'):DW X (.BoolOp .Or (a::b::rest) pos) (bOr t t'):=pw_to (pw_or ha hb) fun τ H Q hq0=>by
 obtain⟨ρ,σ,st,v,st',at',rp,e,q⟩:=hq0;obtain⟨x,st1,e1,e⟩:=za e;refine⟨ρ,σ,st,x,st1,at',rp,e1,fun ρ1 H1 x1 rp1=>?_⟩;cases x with
 | false=>exact iteF ⟨ρ1,σ,st1,v,st',at'.ext x1,rp1,e,fun ρ' H' x2=>q ρ' H' (x1.trans x2)⟩
 | true=>cases e;exact iteT (q _ _ x1 rp1)
theorem zbgm (ha:DT X a t):DT X (.UnaryOp .Not a pos) (bNot t):=zbdl (zbek ha) fun τ H Q hq0=>by
 obtain⟨ρ,σ,st,v,st',at',rp,e,q⟩:=hq0;obtain⟨x,st1,e1,e⟩:=za e;cases e;exact⟨ρ,σ,st,x,_,at',rp,e1,fun ρ1 H1 x1 rp1=>q _ _ x1 rp1⟩
end
noncomputable def aC:SA:=fun _ st=>.ok [] st
noncomputable def aB (f:SE) (g:SA):SA:=fun σ st=>(f σ st).bind fun x st1=>(g σ st1).bind fun xs st2=>.ok (x::xs) st2
noncomputable def aR (g:SA):SE:=fun σ st=>(g σ st).bind fun xs st1=>if xs.length<=sizeLine then .ok (.tup xs) st1 else .stuck
noncomputable def eLst (g:SA):SE:=fun σ st=>(g σ st).bind fun xs st1=>if xs.length<=sizeLine then .ok (.lst xs) st1 else .stuck
noncomputable def eLstM (g:SA):SE:=fun σ st=>(g σ st).bind fun xs st1=>if xs.length<=sizeLine then .ok (.ref st1.length) (st1++[.lst xs]) else .stuck
section
variable {X:Cx}{e:Expr}{es:List Expr}{f:SE}{g:SA}{pos:Pos}
theorem zbgz:DA X [] aC:=zbit zse fun τ H Q hq0=>by
 obtain⟨ρ,σ,st,v,st',a,rp,e,q⟩:=hq0;cases e;exact q _ _ _ (.refl _ _) rp .nil
theorem zbcn (ha:DE X e f)(hr:DA X es g)(hs:starEach (e::es) X.env=(false,eval e X.env)::starEach es X.env:=by rfl):DA X (e::es) (aB f g):=zbit (zls ha hr hs) fun τ H Q hq0=>by
 obtain⟨ρ,σ,st,v,st',a,rp,e,q⟩:=hq0;obtain⟨x,st1,e1,e⟩:=za e;obtain⟨y,st2,e2,e⟩:=za e;cases e;refine⟨ρ,σ,st,x,st1,a,rp,e1,fun ρ1 H1 u x1 rp1 a1=>?_⟩;exact⟨ρ1,σ,st1,y,_,a.ext x1,rp1,e2,fun ρ2 H2 w x2 rp2 a2=>q _ _ _ (x1.trans x2) rp2 (.cons (a1.ext x2) a2)⟩
theorem zbkr {x1}(h:DA X es g):DE X (.Tuple es x1 pos) (aR g):=zfg (zbex h) fun τ H Q hq0=>by
 obtain⟨ρ,σ,st,v,st',a,rp,e,q⟩:=hq0;obtain⟨x,st1,e1,e⟩:=za e;split at e
 ·rename_i hl;cases e;refine⟨ρ,σ,st,x,_,a,rp,e1,fun ρ1 H1 u x1 rp1 a1=>⟨by rw[a1.length];exact hl,fun p hp=>?_⟩⟩;exact q ρ1 _ _ (x1.trans (Ext.new hp _)) (rp1.new hp _) (.newT rp1 hp a1)
 ·cases e
theorem zbkv (h:DA X es g):DE X (.List es pos) (eLst g):=zfg (zbac h) fun τ H Q hq0=>by
 obtain⟨ρ,σ,st,v,st',a,rp,e,q⟩:=hq0;obtain⟨x,st1,e1,e⟩:=za e;split at e
 ·rename_i hl;cases e;refine⟨ρ,σ,st,x,_,a,rp,e1,fun ρ1 H1 u x1 rp1 a1=>⟨by rw[a1.length];exact hl,fun p hp=>?_⟩⟩;exact q ρ1 _ _ (x1.trans (Ext.new hp _)) (rp1.new hp _) (.newL rp1 hp a1)
 ·cases e
theorem At.last {K:Fg}{ρ:Loc}{H:Hp}{p:Addr}{n:Nat}(h:n=ρ.m.length):At K ⟨ρ.m++[some p],ρ.g⟩ H (.ref n) (.ref p):=by
 subst h;refine .ref (by simp) fun a e=>?_
 simp at e;rw[e]
theorem zbhd (h:DA X es g):DE X (.List es pos) (eLstM g):=zfg (zbac h) fun τ H Q hq0=>by
 obtain⟨ρ,σ,st,v,st',a,rp,e,q⟩:=hq0;obtain⟨x,st1,e1,e⟩:=za e;split at e
 ·rename_i hl;cases e;refine⟨ρ,σ,st,x,_,a,rp,e1,fun ρ1 H1 u x1 rp1 a1=>⟨by rw[a1.length];exact hl,fun p hp=>?_⟩⟩;obtain⟨E,R⟩:=rp1.alloc hp (x:=.lst x) (o:=.lst u) fun E=>⟨u,zo,a1.ext E⟩
  exact q _ _ _ (x1.trans E) R (.last rp1.len.symm)
 ·cases e
end
noncomputable def asL (st:Store):D->Option (List D)
 | .lst xs=>some xs
 | .ref n=>match st[n]? with
  | some (.lst xs)=>some xs
  | _=>none
 | _=>none
section
variable {K:Fg}{ρ:Loc}{st:Store}{H:Hp}{d:D}{u:V}{xs:List D}
theorem zfa (rp:Rep K ρ st H){n:Nat}{o:O}(a:At K ρ H (.ref n) u)(e:st[n]?=some o)(hd:o≠.dead):∃p,u=.ref p/\ρ.m[n]?=some (some p)/\OAt K ρ H o p:=by
 cases a with
 | ref h1 h2 =>
  obtain⟨p,hp⟩:=rp.live n o e hd;exact⟨p,h2 p hp,hp,rp.obj n p o hp e⟩
theorem zfe (rp:Rep K ρ st H)(a:At K ρ H d u)(e:asL st d=some xs):∃p vs,u=.ref p/\H p=some (.lst vs)/\AtAll K ρ H xs vs:=by
 cases d<;>try (cases e;done)
 ·rename_i n;unfold asL at e;dsimp only at e;split at e
  ·rename_i ys hys;cases e;obtain⟨p,rfl,hp,vs,q1,q2⟩:=zfa rp a hys (by intro z;cases z);exact⟨p,vs,rfl,q1,q2⟩
  ·cases e
 ·cases e;cases a with
  | lst h1 h2 h3=>exact⟨_,_,rfl,h1,h3⟩
end
noncomputable def oI (C:Int->Int->Prop) [DecidableRel C] (h:Int->Int->D) (x y:D) (st:Store):Res D:=match x,y with
 | .int i,.int j=>if C i j then .ok (h i j) st else .stuck
 | _,_=>.stuck
theorem oI_D {K:Fg}{C:Int->Int->Prop}[DecidableRel C]{h:Int->Int->D}{g:Int->Int->V}(k:∀i j ρ H,At K ρ H (h i j) (g i j)):OpD K (oI C h) (rI C g):=fun ρ H st x y u v z st' Q rp a b e q=>by
 unfold oI at e;split at e
 ·cases a;cases b;split at e
  ·rename_i hc;cases e;exact⟨_,_,rfl,rfl,hc,q _ _ _ (.refl _ _) rp (k _ _ _ _)⟩
  ·cases e
 ·cases e
theorem zwl {K:Fg}{h:Int->Int->D}{g:Int->Int->V}(k:∀i j ρ H,At K ρ H (h i j) (g i j)):OpD K (oI (fun _ _=>True) h) (rI0 g):=fun ρ H st x y u v z st' Q rp a b e q=>by
 obtain⟨i,j,e1,e2,_,e3⟩:=oI_D (C:=fun _ _=>True) k ρ H st x y u v z st' Q rp a b e q;exact⟨i,j,e1,e2,e3⟩
noncomputable instance:DecidableRel CMul:=fun i j=>by unfold CMul;infer_instance
noncomputable instance:DecidableRel CDivP:=fun i j=>by unfold CDivP;infer_instance
noncomputable instance:DecidableRel CPow:=fun i j=>by unfold CPow;infer_instance
noncomputable abbrev oSub:=oI (fun _ _=>True) fun i j=>.int (i - j)
noncomputable abbrev oFdiv:=oI CDivP fun i j=>.int (i / j)
noncomputable abbrev oMod:=oI (fun _ j=>0 < j) fun i j=>.int (i % j)
noncomputable abbrev oAndI:=oI (fun _ _=>True) fun i j=>.int (Builtin.bitAnd i j)
noncomputable abbrev oPow:=oI CPow fun i j=>.int (i ^ j.toNat)
noncomputable abbrev oMulI:=oI CMul fun i j=>.int (i * j)
noncomputable def aM (x y:D) (st:Store):Res D:=match x,y with
 | .int i,.int j=>.ok (.int (i+j)) st
 | .tup a,.tup b=>if a.length+b.length<=sizeLine then .ok (.tup (a++b)) st else .stuck
 | .str a,.str b=>if a.length+b.length<=sizeLine then .ok (.str (a++b)) st else .stuck
 | x,y=>match asL st x,asL st y with
  | some a,some b=>if a.length+b.length<=sizeLine then .ok (.lst (a++b)) st else .stuck
  | _,_=>.stuck
noncomputable abbrev rAddA (K:Fg):R2:=fun x y H Q=>rI0 (fun i j=>.int (i+j)) x y H Q\/rCatA K x y H Q\/(∃i j,x=.str i/\y=.str j/\i.length+j.length<=sizeLine/\Q (.str (i++j)) H)\/rCat x y H Q
section
variable {X:Cx}
theorem zbap:OpR X (binaryOp .Add) (rAddA X.K):=zbfi.or (zbam.or (zow.or zbfh))
theorem zbfl {K:Fg}:OpD K aM (rAddA K):=fun ρ H st x y u v z st' Q rp a b e q=>by
 unfold aM at e;split at e
 ·cases a;cases b;cases e;exact .inl ⟨_,_,rfl,rfl,q _ _ _ (.refl _ _) rp (.int _)⟩
 ·rename_i ds es;split at e
  ·rename_i hl;cases e;refine .inr (.inl ?_);cases a with
   | tup h1 h2 h3 =>
    cases b with
    | tup k1 k2 k3 =>
     refine⟨_,_,_,_,rfl,rfl,SqT.of h1,SqT.of k1,by rw[h3.length,k3.length];exact hl,fun z=>?_,fun z1 z2=>?_,fun z1 z2 p hp=>?_⟩
     ·subst z;cases h3;exact q _ _ _ (.refl _ _) rp (.tup k1 k2 k3)
     ·subst z2;cases k3;rw[xes] at q;exact q _ _ _ (.refl _ _) rp (.tup h1 h2 h3)
     ·exact q _ _ _ (Ext.new hp _) (rp.new hp _) (.newT rp hp (h3.append k3))
  ·cases e
 ·split at e
  ·rename_i hl;cases a;cases b;cases e;exact .inr (.inr (.inl ⟨_,_,rfl,rfl,hl,q _ _ _ (.refl _ _) rp (.str _)⟩))
  ·cases e
 ·split at e
  ·rename_i h1 h2;split at e
   ·rename_i hl;cases e;obtain⟨p,vs,rfl,g1,g2⟩:=zfe rp a h1;obtain⟨p',ws,rfl,k1,k2⟩:=zfe rp b h2;exact .inr (.inr (.inr ⟨_,_,_,_,rfl,rfl,g1,k1,by rw[g2.length,k2.length];exact hl,fun t ht=>q _ _ _ (Ext.new ht _) (rp.new ht _) (.newL rp ht (g2.append k2))⟩))
   ·cases e
  ·cases e
end
noncomputable abbrev oLe:=oI (fun _ _=>True) fun i j=>.bl (decide (i<=j))
noncomputable abbrev oGt:=oI (fun _ _=>True) fun i j=>.bl (decide (j < i))
noncomputable abbrev oGe:=oI (fun _ _=>True) fun i j=>.bl (decide (j<=i))
mutual
noncomputable def toData:D->Option PyData
 | .non=>some .none
 | .bl b=>some (.bool b)
 | .int i=>some (.int i)
 | .str x=>some (.str x)
 | .tup ds=>(toDatas ds).map .tuple
 | .lst ds=>(toDatas ds).map .list
 | _=>none
noncomputable def toDatas:List D->Option (List PyData)
 | []=>some []
 | d::ds=>(toData d).bind fun x=>(toDatas ds).map fun xs=>x::xs
end
mutual
theorem zuv {K:Fg}{ρ:Loc}{H:Hp}:∀{d:D} {v:V} {p:PyData},At K ρ H d v->toData d=some p->DAt K H v p
 | _,_,_,.non,e=>by cases e;exact .non
 | _,_,_,.bl b,e=>by cases e;exact .bl b
 | _,_,_,.int i,e=>by cases e;exact .int i
 | _,_,_,.str x,e=>by cases e;exact .str x
 | _,_,_,.ty n,e=>by cases e
 | _,_,_,.exn _,e=>by cases e
 | _,_,_,.ref _ _,e=>by cases e
 | _,_,_,.tup h _ al,e=>by
  rw[toData] at e;obtain⟨ps,e1,rfl⟩:=xdl.mp e;exact .tup (SqT.of h) (zid al e1)
 | _,_,_,.lst h _ al,e=>by
  rw[toData] at e;obtain⟨ps,e1,rfl⟩:=xdl.mp e;exact .lst (SqL.of h) (zid al e1)
 | _,_,_,.scr _ _,e=>by cases e
theorem zid {K:Fg}{ρ:Loc}{H:Hp}:∀{d:List D} {v:List V} {p:List PyData},AtAll K ρ H d v->toDatas d=some p->DAll K H v p
 | _,_,_,.nil,e=>by cases e;exact .nil
 | _,_,_,.cons a b,e=>by
  rw[toDatas] at e;obtain⟨x,e1,e⟩:=xeu.mp e;obtain⟨xs,e2,rfl⟩:=xdl.mp e;exact .cons (zuv a e1) (zid b e2)
end
noncomputable def now (st:Store) (d:D):D:=match asL st d with
 | some xs=>.lst xs
 | none=>d
noncomputable def dataOf (st:Store) (d:D):Option PyData:=toData (now st d)
theorem zdi {K:Fg}{ρ:Loc}{st:Store}{H:Hp}(rp:Rep K ρ st H){d:D}{u:V}{p:PyData}(a:At K ρ H d u)(e:dataOf st d=some p):DAt K H u p:=by
 unfold dataOf now at e;split at e
 ·rename_i xs hx;obtain⟨q,vs,rfl,h1,h2⟩:=zfe rp a hx;rw[toData] at e;obtain⟨ps,e1,rfl⟩:=xdl.mp e;exact .lst (SqL.of h1) (zid h2 e1)
 ·exact zuv a e
noncomputable def oEqG (neg:Bool) (x y:D) (st:Store):Res D:=match dataOf st x,dataOf st y with
 | some a,some b=>if PySem.SeqAt.shaped a=true/\PySem.SeqAt.shaped b=true then .ok (.bl (if neg then !PyData.eqv a b else PyData.eqv a b)) st else .stuck
 | _,_=>.stuck
theorem zpb {K:Fg}{neg:Bool}:OpD K (oEqG neg) (rEqX K neg):=fun ρ H st x y u v z st' Q rp a b e q=>by
 unfold oEqG at e;split at e
 ·rename_i p1 p2 h1 h2;split at e
  ·rename_i hs;cases e;exact⟨_,_,zdi rp a h1,zdi rp b h2,hs.1,hs.2,q _ _ _ (.refl _ _) rp (.bl _)⟩
  ·cases e
 ·cases e
noncomputable abbrev oEq:=oEqG false
noncomputable abbrev oNe:=oEqG true
noncomputable def asInts:List D->Option (List Int)
 | []=>some []
 | .int i::r=>(asInts r).map (i::·)
 | _::_=>none
theorem zco {K:Fg}{ρ:Loc}{H:Hp}:∀{ds:List D} {vs:List V} {ns:List Int},AtAll K ρ H ds vs->asInts ds=some ns->vs=ns.map V.int
 | _,_,_,.nil,e=>by cases e;rfl
 | _,_,_,.cons (d:=d) a b,e=>by
  cases d<;>try (cases e;done)
  rw[asInts] at e;obtain⟨ms,e1,rfl⟩:=xdl.mp e;cases a;rw[zco b e1]
  rfl
noncomputable def oLtT (x y:D) (st:Store):Res D:=match x,y with
 | .int i,.int j=>.ok (.bl (decide (i < j))) st
 | .tup a,.tup b=>match asInts a,asInts b with
  | some ns,some ms=>.ok (.bl (HT.lexLt ns ms)) st
  | _,_=>.stuck
 | _,_=>.stuck
noncomputable abbrev rLtA (K:Fg):R2:=fun x y H Q=>rI0 (fun i j=>.bl (decide (i < j))) x y H Q\/rLtT K x y H Q
theorem zne {X:Cx}(hu:X.A.units < cLine):OpR X (compareOp .Lt) (rLtA X.K):=zbjt.or (zbff hu)
theorem znl {K:Fg}:OpD K oLtT (rLtA K):=fun ρ H st x y u v z st' Q rp a b e q=>by
 unfold oLtT at e;split at e
 ·cases a;cases b;cases e
  exact .inl ⟨_,_,rfl,rfl,q _ _ _ (.refl _ _) rp (.bl _)⟩
 ·split at e
  ·rename_i h1 h2;cases e;cases a with
   | tup g1 g2 g3 =>
    cases b with
    | tup k1 k2 k3 =>
     have e1:=zco g3 h1;have e2:=zco k3 h2;subst e1 e2;exact .inr ⟨_,_,_,_,rfl,rfl,SqT.of g1,SqT.of k1,q _ _ _ (.refl _ _) rp (.bl _)⟩
  ·cases e
 ·cases e
noncomputable def seqOf (st:Store):D->Option (List D)
 | .tup xs=>some xs
 | .scr xs=>some xs
 | d=>asL st d
theorem zfr {K:Fg}{ρ:Loc}{st:Store}{H:Hp}(rp:Rep K ρ st H){d:D}{u:V}{xs:List D}(a:At K ρ H d u)(e:seqOf st d=some xs) :
  ∃p vs,u=.ref p/\(SqL K H p vs\/SqT K H p vs)/\AtAll K ρ H xs vs:=by
 unfold seqOf at e;split at e
 ·cases e;cases a with
  | tup h1 h2 h3=>exact⟨_,_,rfl,.inr (SqT.of h1),h3⟩
 ·cases e;cases a with
  | scr h1 h3=>exact⟨_,_,rfl,.inl h1.sq,h3⟩
 ·obtain⟨p,vs,rfl,h1,h2⟩:=zfe rp a e;exact⟨p,vs,rfl,.inl (SqL.of h1),h2⟩
theorem AtAll.atI {K:Fg}{ρ:Loc}{H:Hp}{ds:List D}{vs:List V}{i:Int}{d:D}(h:AtAll K ρ H ds vs)(e:L2.atI ds i=some d):∃v,L2.atI vs i=some v/\At K ρ H d v:=by
 unfold L2.atI at e ⊢;rw[h.length];cases hi:ixN ds.length i with
 | none=>rw[hi] at e;cases e
 | some j =>
  rw[hi] at e;obtain⟨v,e1,e2⟩:=h.get (i:=j) e;exact⟨v,e1,e2⟩
noncomputable def oIx (x y:D) (st:Store):Res D:=match seqOf st x,y with
 | some xs,.int i=>match L2.atI xs i with
  | some v=>.ok v st
  | none=>.stuck
 | _,_=>.stuck
theorem zbjz {K:Fg}:OpD K oIx (rIx K):=fun ρ H st x y u v z st' Q rp a b e q=>by
 unfold oIx at e;split at e
 ·rename_i h1;split at e
  ·rename_i w hw;cases e;cases b;obtain⟨p,vs,rfl,h2,h3⟩:=zfr rp a h1;obtain⟨w',e2,a2⟩:=h3.atI hw;rcases h2 with h2 | h2
   ·exact .inl ⟨_,_,_,_,rfl,rfl,h2,e2,q _ _ _ (.refl _ _) rp a2⟩
   ·exact .inr (.inl ⟨_,_,_,_,rfl,rfl,h2,e2,q _ _ _ (.refl _ _) rp a2⟩)
  ·cases e
 ·cases e
noncomputable def cutD (xs:List D) (lo hi:Option Int):List D:=(xs.drop (HT.sIx xs.length 0 lo)).take (HT.sIx xs.length xs.length hi - HT.sIx xs.length 0 lo)
theorem AtAll.cut {K:Fg}{ρ:Loc}{H:Hp}{ds:List D}{vs:List V}(h:AtAll K ρ H ds vs)(lo hi:Option Int):AtAll K ρ H (cutD ds lo hi) (cutV vs lo hi):=by
 unfold cutD cutV;rw[h.length];exact(h.drop _).take _
noncomputable def pNone:DS->Store->Res (Option Int):=fun _ st=>.ok none st
noncomputable def pSome (f:SE):DS->Store->Res (Option Int):=fun σ st=>(f σ st).bind fun v st1=>match v with
 | .int i=>.ok (some i) st1
 | _=>.stuck
noncomputable def eSl (f:SE) (lo hi:DS->Store->Res (Option Int)):SE:=fun σ st=>(f σ st).bind fun x st1=>(lo σ st1).bind fun l st2=>(hi σ st2).bind fun h st3=>match x with
 | .tup xs=>.ok (.tup (cutD xs l h)) st3
 | x=>match asL st3 x with
  | some xs=>.ok (.lst (cutD xs l h)) st3
  | none=>.stuck
noncomputable def tDO (K:Fg) (f:DS->Store->Res (Option Int)):TO:=fun τ H Q=>∃ρ σ st v st',AtS K ρ H σ τ/\Rep K ρ st H/\f σ st=.ok v st'/\∀ρ' H',Ext ρ H ρ' H'->Rep K ρ' st' H'->Q v H'
noncomputable abbrev DO (X:Cx) (e:Option Expr) (f:DS->Store->Res (Option Int)):Prop:=PO X e (tDO X.K f)
section
variable {X:Cx}{a b e:Expr}{f f':SE}{pos:Pos}{lo hi:Option Expr}{l h:DS->Store->Res (Option Int)}
theorem zbin {t t':TO}{e:Option Expr}(h:PO X e t)(k:∀σ H Q,t' σ H Q->t σ H Q):PO X e t':=fun aU s σ H Q I q=>h aU s σ H Q I (k _ _ _ q)
theorem zbce:DO X none pNone:=zbin zzs fun τ H Q hq0=>by
 obtain⟨ρ,σ,st,v,st',a,rp,e,q⟩:=hq0;cases e;exact q _ _ (.refl _ _) rp
theorem zbcd (he:DE X e f):DO X (some e) (pSome f):=zbin (zzr he) fun τ H Q hq0=>by
 obtain⟨ρ,σ,st,v,st',a,rp,e,q⟩:=hq0;obtain⟨x,st1,e1,e⟩:=za e;refine⟨ρ,σ,st,x,st1,a,rp,e1,fun ρ1 H1 u x1 rp1 a1=>?_⟩;cases x<;>try (cases e;done)
 cases e;cases a1;exact⟨_,rfl,q _ _ x1 rp1⟩
theorem d_ix (ha:DE X a f)(hb:DE X b f')(hs:PlainIx b):DE X (.Subscript a b pos) (aS oIx f f'):=zfg (zbjq zbfz ha hb hs) (zbdm zbjz)
theorem d_sl {p2:Pos}(he:DE X e f)(hl:DO X lo l)(hu:DO X hi h):DE X (.Subscript e (.Slice lo hi none p2) pos) (eSl f l h):=zfg (zwc (zzf.or zzg) he hl hu) fun τ H Q hq0=>by
 obtain⟨ρ,σ,st,v,st',a,rp,e,q⟩:=hq0;obtain⟨x,st1,e1,e⟩:=za e;obtain⟨y,st2,e2,e⟩:=za e;obtain⟨z,st3,e3,e⟩:=za e;refine⟨ρ,σ,st,x,st1,a,rp,e1,fun ρ1 H1 u x1 rp1 a1=>?_⟩;refine⟨ρ1,σ,st1,y,st2,a.ext x1,rp1,e2,fun ρ2 H2 x2 rp2=>?_⟩;refine⟨ρ2,σ,st2,z,st3,a.ext (x1.trans x2),rp2,e3,fun ρ3 H3 x3 rp3=>?_⟩;have a3:=a1.ext (x2.trans x3);have X3:=x1.trans (x2.trans x3);split at e
 ·cases e;refine .inl ?_;cases a3 with
  | tup h1 h2 h3 =>
   refine⟨_,_,rfl,SqT.of h1,fun ec=>?_,fun p hp=>?_⟩
   ·refine q _ _ _ X3 rp3 (.tup h1 h2 ?_);have:=h3.cut y z;rw[ec] at this;exact this
   ·exact q _ _ _ (X3.trans (Ext.new hp _)) (rp3.new hp _) (.newT rp3 hp (h3.cut y z))
 ·split at e
  ·rename_i xs hx;cases e;obtain⟨p,vs,rfl,g1,g2⟩:=zfe rp3 a3 hx;exact .inr ⟨_,_,rfl,SqL.of g1,fun p hp=>q _ _ _ (X3.trans (Ext.new hp _)) (rp3.new hp _) (.newL rp3 hp (g2.cut y z))⟩
  ·cases e
end
end Dd
namespace Dd
open PySem L2
noncomputable def aE (g:List D->Store->Res D) (f:SA):SE:=fun σ st=>(f σ st).bind fun xs st1=>g xs st1
noncomputable def CaD (K:Fg) (g:List D->Store->Res D) (r:List V->Hp->VK->Prop):Prop :=
 ∀ρ H st xs us z st' (Q:VK),Rep K ρ st H->AtAll K ρ H xs us->g xs st=.ok z st'->(∀ρ' H' w,Ext ρ H ρ' H'->Rep K ρ' st' H'->At K ρ' H' z w->Q w H')->r us H Q
theorem zbjf {K:Fg}{g:List D->Store->Res D}{r:List V->Hp->VK->Prop}(hr:CaD K g r){f:SA}:∀τ H Q,tD K (aE g f) τ H Q->tCB r (tDA K f) τ H Q:=fun τ H Q hq0=>by
 obtain⟨ρ,σ,st,v,st',a,rp,e,q⟩:=hq0;obtain⟨x,st1,e1,e⟩:=za e;exact⟨ρ,σ,st,x,st1,a,rp,e1,fun ρ1 H1 u x1 rp1 a1=>hr ρ1 H1 st1 x u v st' Q rp1 a1 e fun ρ' H' w x2=>q ρ' H' w (x1.trans x2)⟩
section
variable {X:Cx}{x:Str}{p pos:Pos}{e:Expr}{es:List Expr}{f:SA}{id T:String}{r:List V->Hp->VK->Prop}{g:List D->Store->Res D}
theorem zbcs (hc:CallR X (.builtin id) r)(hr:CaD X.K g r)(hg:Gl X x)(hm:X.mg x=none)(hv:bootBuiltins x=some (.builtin id))(ha:DA X (e::es) f)(hn:x≠"__name__":=by decide)(hdb:(x==("__debug__" : Str))=false:=by decide)
 (he:starEach (e::es) X.env=(false,eval e X.env)::starEach es X.env:=by rfl)(hpl:(backTo pos (starEach es X.env)).any (·.1)=false:=by rfl):DE X (.Call (.Name x p) (e::es) [] pos) (aE g f):=zfg (zou hc hg hm hv ha hn hdb he hpl) (zbjf hr)
theorem zxr (hc:CallR X (.type T) r)(hr:CaD X.K g r)(hg:Gl X x)(hm:X.mg x=none)(hv:bootBuiltins x=some (.type T))(ha:DA X (e::es) f)(hn:x≠"__name__":=by decide)(hdb:(x==("__debug__" : Str))=false:=by decide)
 (he:starEach (e::es) X.env=(false,eval e X.env)::starEach es X.env:=by rfl)(hpl:(backTo pos (starEach es X.env)).any (·.1)=false:=by rfl):DE X (.Call (.Name x p) (e::es) [] pos) (aE g f):=zfg (zhj hc hg hm hv ha hn hdb he hpl) (zbjf hr)
end
theorem AtAll.one {K:Fg}{ρ:Loc}{H:Hp}{d:D}{us:List V}(h:AtAll K ρ H [d] us):∃u,us=[u]/\At K ρ H d u:=by
 cases h with
 | cons a b=>cases b;exact⟨_,rfl,a⟩
theorem AtAll.two {K:Fg}{ρ:Loc}{H:Hp}{d e:D}{us:List V}(h:AtAll K ρ H [d,e] us):∃u v,us=[u,v]/\At K ρ H d u/\At K ρ H e v:=by
 cases h with
 | cons a b =>
  obtain⟨v,rfl,c⟩:=b.one;exact⟨_,_,rfl,a,c⟩
noncomputable def bLen:List D->Store->Res D:=fun xs st=>match xs with
 | [x]=>match seqOf st x with
  | some ys=>.ok (.int ys.length) st
  | none=>.stuck
 | _=>.stuck
theorem zqr {K:Fg}:CaD K bLen (fun xs H Q=>∃p ys,xs=[.ref p]/\(SqL K H p ys\/SqT K H p ys)/\Q (.int ys.length) H):=fun ρ H st xs us z st' Q rp aa e q=>by
 unfold bLen at e;split at e
 ·split at e
  ·rename_i h;cases e;obtain⟨u,rfl,a⟩:=aa.one;obtain⟨p,vs,rfl,h1,h2⟩:=zfr rp a h;refine⟨p,vs,rfl,h1,?_⟩;rw[h2.length];exact q _ _ _ (.refl _ _) rp (.int _)
  ·cases e
 ·cases e
noncomputable def bAbs:List D->Store->Res D:=fun xs st=>match xs with
 | [.int i]=>.ok (.int (if i < 0 then -i else i)) st
 | _=>.stuck
theorem zbic {K:Fg}:CaD K bAbs (fun xs H Q=>∃i,xs=[.int i]/\Q (.int (if i < 0 then -i else i)) H):=fun ρ H st xs us z st' Q rp aa e q=>by
 unfold bAbs at e;split at e
 ·cases e;obtain⟨u,rfl,a⟩:=aa.one;cases a;exact⟨_,rfl,q _ _ _ (.refl _ _) rp (.int _)⟩
 ·cases e
noncomputable def b2I (g:Int->Int->Int):List D->Store->Res D:=fun xs st=>match xs with
 | [.int i,.int j]=>.ok (.int (g i j)) st
 | _=>.stuck
theorem zyn {K:Fg}{g:Int->Int->Int}:CaD K (b2I g) (fun xs H Q=>∃i j,xs=[.int i,.int j]/\Q (.int (g i j)) H):=fun ρ H st xs us z st' Q rp aa e q=>by
 unfold b2I at e;split at e
 ·cases e;obtain⟨u,v,rfl,a,b⟩:=aa.two;cases a;cases b;exact⟨_,_,rfl,q _ _ _ (.refl _ _) rp (.int _)⟩
 ·cases e
noncomputable abbrev bMin2:=b2I fun i j=>if j < i then j else i
noncomputable abbrev bMax2:=b2I fun i j=>if j > i then j else i
noncomputable def bSum:List D->Store->Res D:=fun xs st=>match xs with
 | [x]=>match (seqOf st x).bind asInts with
  | some ns=>.ok (.int ns.sum) st
  | none=>.stuck
 | _=>.stuck
theorem zbhx {K:Fg}:CaD K bSum (rSum K):=fun ρ H st xs us z st' Q rp aa e q=>by
 unfold bSum at e;split at e
 ·split at e
  ·rename_i ns h;cases e;obtain⟨ys,h0,h⟩:=xeu.mp h;obtain⟨u,rfl,a⟩:=aa.one;obtain⟨p,vs,rfl,h1,h2⟩:=zfr rp a h0;have e:=zco h2 h;subst e;exact⟨p,ns,rfl,h1,q _ _ _ (.refl _ _) rp (.int _)⟩
  ·cases e
 ·cases e
noncomputable def asBools:List D->Option (List Bool)
 | []=>some []
 | .bl i::r=>(asBools r).map (i::·)
 | _::_=>none
theorem zjq {K:Fg}{ρ:Loc}{H:Hp}:∀{ds:List D} {vs:List V} {ns:List Bool},AtAll K ρ H ds vs->asBools ds=some ns->vs=ns.map V.bl
 | _,_,_,.nil,e=>by cases e;rfl
 | _,_,_,.cons (d:=d) a b,e=>by
  cases d<;>try (cases e;done)
  rw[asBools] at e;obtain⟨ms,e1,rfl⟩:=xdl.mp e;cases a;rw[zjq b e1]
  rfl
noncomputable def bAny (al:Bool):List D->Store->Res D:=fun xs st=>match xs with
 | [x]=>match (asL st x).bind asBools with
  | some bs=>.ok (.bl (if al then bs.all id else bs.any id)) st
  | none=>.stuck
 | _=>.stuck
theorem zyc {K:Fg}{al:Bool}:CaD K (bAny al) (rAny K al):=fun ρ H st xs us z st' Q rp aa e q=>by
 unfold bAny at e;split at e
 ·split at e
  ·rename_i ns h;cases e;obtain⟨ys,h0,h⟩:=xeu.mp h;obtain⟨u,rfl,a⟩:=aa.one;obtain⟨p,vs,rfl,h1,h2⟩:=zfe rp a h0;have e:=zjq h2 h;subst e;exact⟨p,ns,rfl,SqL.of h1,q _ _ _ (.refl _ _) rp (.bl _)⟩
  ·cases e
 ·cases e
noncomputable def tyName (st:Store):D->Option String
 | .non=>some "NoneType"
 | .bl _=>some "bool"
 | .int _=>some "int"
 | .str _=>some "str"
 | .tup _=>some "tuple"
 | .lst _=>some "list"
 | .ref n=>match st[n]? with
  | some (.lst _)=>some "list"
  | some (.dT _)=>some "dict"
  | _=>none
 | _=>none
noncomputable def isTy (t T:String):Bool:=t==T||(t=="bool"&&T=="int")
noncomputable def bIsinst:List D->Store->Res D:=fun xs st=>match xs with
 | [x,.ty T]=>match tyName st x with
  | some t=>if["int", "bool", "str", "tuple", "list", "dict"].contains T=true then .ok (.bl (isTy t T)) st else .stuck
  | none=>.stuck
 | _=>.stuck
theorem zrk {K:Fg}{ρ:Loc}{st:Store}{H:Hp}(rp:Rep K ρ st H){d:D}{u:V}{t:String}(a:At K ρ H d u)(e:tyName st d=some t):TyOf K H u (.type t)/\t∈["NoneType", "bool", "int", "str", "tuple", "list", "dict"]:=by
 cases d<;>try (cases e;done)
 ·cases e;cases a;exact⟨.non,by simp⟩
 ·cases e;cases a;exact⟨.bl _,by simp⟩
 ·cases e;cases a;exact⟨.int _,by simp⟩
 ·cases e;cases a;exact⟨.str _,by simp⟩
 ·unfold tyName at e;dsimp only at e;split at e
  ·rename_i h;cases e;obtain⟨p,rfl,hp,vs,q1,q2⟩:=zfa rp a h (by intro z;cases z);exact⟨.lst q1,by simp⟩
  ·rename_i h;cases e;obtain⟨p,rfl,hp,vs,q1,q2⟩:=zfa rp a h (by intro z;cases z);exact⟨.dT q1,by simp⟩
  ·cases e
 ·cases e;cases a with
  | tup h1 h2 h3=>exact⟨.tup h1,by simp⟩
 ·cases e;cases a with
  | lst h1 h2 h3=>exact⟨.lst h1,by simp⟩
theorem zbfr {K:Fg}{t T:String}(ht:t∈["NoneType", "bool", "int", "str", "tuple", "list", "dict"])(hT:T∈["int", "bool", "str", "tuple", "list", "dict"]):W.kitOne K (.type t) (.type T)=some (isTy t T):=by
 simp only[xbl,xga,xjy] at ht hT;rcases ht with rfl | rfl | rfl | rfl | rfl | rfl | rfl<;>rcases hT with rfl | rfl | rfl | rfl | rfl | rfl<;>rfl
theorem zcn {K:Fg}:CaD K bIsinst (fun xs H Q=>∃x T t b,xs=[x,.ty T]/\TyOf K H x t/\W.kitOne K t (.type T)=some b/\Q (.bl b) H):=fun ρ H st xs us z st' Q rp aa e q=>by
 unfold bIsinst at e;split at e
 ·split at e
  ·rename_i h;split at e
   ·rename_i hT;cases e;obtain⟨u,v,rfl,a,b⟩:=aa.two;cases b;obtain⟨h1,h2⟩:=zrk rp a h;exact⟨_,_,_,_,rfl,h1,zbfr h2 (by simpa using hT),q _ _ _ (.refl _ _) rp (.bl _)⟩
   ·cases e
  ·cases e
 ·cases e
noncomputable def bTuple:List D->Store->Res D:=fun xs st=>match xs with
 | [.tup ys]=>.ok (.tup ys) st
 | [x]=>match asL st x with
  | some ys=>.ok (.tup ys) st
  | none=>.stuck
 | _=>.stuck
theorem zij {K:Fg}:CaD K bTuple (fun xs H Q=>∃p ys,xs=[.ref p]/\((SqL K H p ys/\∀l,H l=none->Q (.ref l) (upd H l (.tup ys)))\/(SqT K H p ys/\Q (.ref p) H))):=fun ρ H st xs us z st' Q rp aa e q=>by
 unfold bTuple at e;split at e
 ·cases e;obtain⟨u,rfl,a⟩:=aa.one;cases a with
  | tup h1 h2 h3=>exact⟨_,_,rfl,.inr ⟨SqT.of h1,q _ _ _ (.refl _ _) rp (.tup h1 h2 h3)⟩⟩
 ·split at e
  ·rename_i h;cases e;obtain⟨u,rfl,a⟩:=aa.one;obtain⟨p,vs,rfl,h1,h2⟩:=zfe rp a h;exact⟨_,_,rfl,.inl ⟨SqL.of h1,fun l hl=>q _ _ _ (Ext.new hl _) (rp.new hl _) (.newT rp hl h2)⟩⟩
  ·cases e
 ·cases e
noncomputable def bList:List D->Store->Res D:=fun xs st=>match xs with
 | [x]=>match seqOf st x with
  | some ys=>.ok (.lst ys) st
  | none=>.stuck
 | _=>.stuck
theorem zmw {K:Fg}:CaD K bList (fun xs H Q=>∃p ys,xs=[.ref p]/\(SqL K H p ys\/SqT K H p ys)/\∀l,H l=none->Q (.ref l) (upd H l (.lst ys))):=fun ρ H st xs us z st' Q rp aa e q=>by
 unfold bList at e;split at e
 ·split at e
  ·rename_i h;cases e;obtain⟨u,rfl,a⟩:=aa.one;obtain⟨p,vs,rfl,h1,h2⟩:=zfr rp a h;exact⟨_,_,rfl,h1,fun l hl=>q _ _ _ (Ext.new hl _) (rp.new hl _) (.newL rp hl h2)⟩
  ·cases e
 ·cases e
noncomputable abbrev aL (ns:List Int):D:=.tup (ns.map .int)
noncomputable abbrev aJ (l:List (List Int)):List D:=l.map aL
noncomputable def insR (a:List Int):List (List Int)->List (List Int)
 | []=>[a]
 | b::r=>if HT.lexLt b a=true then b::insR a r else a::b::r
noncomputable def sortR:List (List Int)->List (List Int)
 | []=>[]
 | a::r=>insR a (sortR r)
noncomputable abbrev UpR (l:List (List Int)):Prop:=l.Pairwise fun a b=>HT.lexLt b a=false
theorem zhy (a:List Int):∀l,(insR a l).Perm (a::l)
 | []=>.refl _
 | b::r=>by
  unfold insR;split
  ·exact(List.Perm.cons b (zhy a r)).trans (.swap a b r)
  ·exact .refl _
theorem zce:∀l,(sortR l).Perm l
 | []=>.refl _
 | a::r=>(zhy a _).trans (.cons a (zce r))
theorem zkn {a b c:List Int}(h1:HT.lexLt b a=false)(h2:HT.lexLt c b=false):HT.lexLt c a=false:=by
 cases h:HT.lexLt c a with
 | false=>rfl
 | true =>
  rcases Srt.zjd a b with z | z | z
  ·have:=Srt.zed h z;rw[h2] at this;cases this
  ·subst z;rw[h2] at h;cases h
  ·rw[h1] at z;cases z
theorem zul (a:List Int):∀l,UpR l->UpR (insR a l)
 | [],_=>xjk _ _
 | b::r,h=>by
  obtain⟨h1,h2⟩:=xek.mp h;unfold insR;split
  ·rename_i c;refine xek.mpr ⟨fun x hx=>?_,zul a r h2⟩;rcases xbl.mp ((zhy a r).mem_iff.mp hx) with rfl | hx
   ·exact Srt.zsq c
   ·exact h1 x hx
  ·rename_i c;have c':HT.lexLt b a=false:=by simpa using c
   refine xek.mpr ⟨fun x hx=>?_,h⟩;rcases xbl.mp hx with rfl | hx
   ·exact c'
   ·exact zkn c' (h1 x hx)
theorem zhg:∀l,UpR (sortR l)
 | []=>.nil
 | a::r=>zul a _ (zhg r)
theorem zlj:∀{l m:List (List Int)},l.Perm m->UpR l->UpR m->l=m
 | [],m,p,_,_=>by rw[List.nil_perm.mp p]
 | a::l,[],p,_,_=>by cases List.perm_nil.mp p
 | a::l,b::m,p,h1,h2=>by
  obtain⟨p1,p2⟩:=xek.mp h1;obtain⟨q1,q2⟩:=xek.mp h2;have e:a=b:=by
   rcases xbl.mp (p.mem_iff.mp xbw) with z | z
   ·exact z
   ·rcases xbl.mp (p.mem_iff.mpr (xbw (a:=b) (l:=m))) with y | y
    ·exact y.symm
    ·have e1:=q1 a z;have e2:=p1 b y;rcases Srt.zjd a b with w | w | w
     ·rw[e1] at w;cases w
     ·exact w
     ·rw[e2] at w;cases w
  subst e;rw[zlj (List.Perm.cons_inv p) p2 q2]
theorem zjw {l m:List (List Int)}(p:m.Perm l)(h:UpR m):m=sortR l:=zlj (p.trans (zce l).symm) h (zhg l)
theorem zjx (l:List (List Int)):(sortR l).length=l.length:=(zce l).length_eq
noncomputable def asRows:List D->Option (List (List Int))
 | []=>some []
 | .tup ds::r=>(asInts ds).bind fun ns=>(asRows r).map (ns::·)
 | _::_=>none
theorem zik {K:Fg}{ρ:Loc}{H:Hp}:∀{ds:List D} {vs:List V} {l:List (List Int)},AtAll K ρ H ds vs->asRows ds=some l ->
  ∃ps:List (Addr×List Int),vs=ps.map (fun p=>V.ref p.1)/\ps.map (·.2)=l/\∀p∈ps,H p.1=some (.tup (p.2.map V.int))/\Out ρ p.1
 | _,_,_,.nil,e=>by cases e;exact⟨[],rfl,rfl,fun _ h=>nomatch h⟩
 | _,_,_,.cons (d:=d) a b,e=>by
  cases d<;>try (cases e;done)
  rw[asRows] at e;obtain⟨ns,e1,e⟩:=xeu.mp e;obtain⟨l,e2,rfl⟩:=xdl.mp e;obtain⟨ps,h1,h2,h3⟩:=zik b e2;cases a with
  | tup g1 g2 g3 =>
   rename_i ad ws;have ew:=zco g3 e1;subst ew;refine⟨(ad,ns)::ps,by rw[h1];rfl,by rw[← h2];rfl,fun p hp=>?_⟩;rcases xbl.mp hp with rfl | hp
   ·exact⟨g1,g2⟩
   ·exact h3 p hp
theorem zhx {K:Fg}{ρ:Loc}{H:Hp}:∀ns:List Int,AtAll K ρ H (ns.map .int) (ns.map V.int)
 | []=>.nil
 | n::ns=>.cons (.int n) (zhx ns)
theorem zjz {K:Fg}{ρ:Loc}{H:Hp}:∀ps:List (Addr×List Int),(∀p∈ps,H p.1=some (.tup (p.2.map V.int))/\Out ρ p.1)->AtAll K ρ H (aJ (ps.map (·.2))) (ps.map fun p=>V.ref p.1)
 | [],_=>.nil
 | p::ps,h=>.cons (.tup (h p xbw).1 (h p xbw).2 (zhx _)) (zjz ps fun q hq=>h q (xbp _ hq))
theorem zlt {K:Fg}{ρ:Loc}{st:Store}{H:Hp}(r:Rep K ρ st H){p:Addr}{vs:List V}(hp:H p=some (.tup vs)):Out ρ p:=by
 refine⟨fun z=>?_,fun z=>?_⟩
 ·obtain⟨i,hi,e⟩:=xen z;obtain⟨x,_,q⟩:=r.has (n:=i) (a:=p) (by rw[xbg hi,e]);cases x with
  | lst xs=>obtain⟨_,e,_⟩:=q;rw[hp] at e;cases e
  | dT kvs=>obtain⟨_,e,_⟩:=q;rw[hp] at e;cases e
  | fT kvs=>obtain⟨_,_,e,_⟩:=q;rw[hp] at e;cases e
  | dI kvs=>obtain⟨_,e,_⟩:=q;rw[hp] at e;cases e
  | dP ks=>obtain⟨_,e,_⟩:=q;rw[hp] at e;cases e
  | dead=>exact q
  | tab=>obtain⟨_,_,e,_⟩:=q;rw[hp] at e;cases e
 ·obtain⟨⟨u,hu⟩,_⟩:=r.gh p z;rw[hp] at hu;cases hu
noncomputable def valD (kvs:List (List Int×D)) (k:List Int):Option D:=(kvs.find? fun kv=>decide (kv.1=k)).map (·.2)
noncomputable def putD (kvs:List (List Int×D)) (k:List Int) (v:D):List (List Int×D) :=
 if(kvs.any fun kv=>decide (kv.1=k))=true then kvs.map (fun kv=>if kv.1=k then(kv.1,v) else kv) else kvs++[(k,v)]
noncomputable def dropD (kvs:List (List Int×D)) (k:List Int):List (List Int×D):=kvs.filter fun kv=>decide (kv.1≠k)
theorem zmc {a b:List Int}:a.map (Sum.inl:Int->Key)=b.map Sum.inl↔a=b:=by
 constructor
 ·intro h;exact(List.map_inj_right (f:=(Sum.inl:Int->Key)) fun x y e=>Sum.inl.inj e).mp h
 ·rintro rfl;rfl
section
variable {K:Fg}{ρ:Loc}{H:Hp}{kvs:List (List Int×D)}{vs:List (List Key×V)}
theorem KvAt.val (h:KvAt K ρ H kvs vs)(k:List Int):match valD kvs k with
  | some d=>∃v,valV vs (k.map Sum.inl)=some v/\At K ρ H d v
  | none=>valV vs (k.map Sum.inl)=none:=by
 induction h with
 | nil=>rfl
 | @cons p q ps qs h t ih =>
  obtain⟨h1,h2⟩:=h;by_cases e:p.1=k
  ·have e1:valD (p::ps) k=some p.2:=by simp[valD,xez,e]
   rw[e1];exact⟨q.2,zhe (by rw[h1,e]),h2⟩
  ·have e1:valD (p::ps) k=valD ps k:=by simp[valD,xez,e]
   have e2:valV (q::qs) (k.map Sum.inl)=valV qs (k.map Sum.inl):=zhf (by rw[h1,zmc];exact e);rw[e1,e2];exact ih
theorem KvAt.keys (h:KvAt K ρ H kvs vs):vs.map (·.1)=(kvs.map (·.1)).map fun ns=>ns.map Sum.inl:=by
 induction h with
 | nil=>rfl
 | @cons p q ps qs h t ih=>rw[xbn,xbn,xbn,ih,h.1]
theorem KvAt.put (h:KvAt K ρ H kvs vs)(k:List Int){d:D}{v:V}(a:At K ρ H d v):KvAt K ρ H (putD kvs k d) (putK vs (k.map Sum.inl) v):=by
 have any:∀{kvs:List (List Int×D)} {vs:List (List Key×V)},KvAt K ρ H kvs vs->(kvs.any fun kv=>decide (kv.1=k))=(vs.any fun kv=>decide (kv.1=k.map Sum.inl)):=fun h=>by
  induction h with
  | nil=>rfl
  | @cons p q ps qs h t ih =>
   rw[xjt,xjt,ih,h.1]
   congr 1
   simp only[zmc]
 unfold putD putK;rw[any h];split
 ·rename_i hh;clear hh any
  induction h with
  | nil=>exact .nil
  | @cons p q ps qs h t ih =>
   refine .cons ?_ ih;obtain⟨h1,h2⟩:=h;dsimp only;by_cases e:p.1=k
   ·rw[if_pos e,if_pos (by rw[h1,e])];exact⟨h1,a⟩
   ·rw[if_neg e,if_neg (by rw[h1,zmc];exact e)];exact⟨h1,h2⟩
 ·have app:∀{kvs:List (List Int×D)} {vs:List (List Key×V)},KvAt K ρ H kvs vs->KvAt K ρ H (kvs++[(k,d)]) (vs++[(k.map Sum.inl,v)]):=fun h=>by
   induction h with
   | nil=>exact .cons ⟨rfl,a⟩ .nil
   | cons h t ih=>exact .cons h ih
  exact app h
theorem KvAt.drop (h:KvAt K ρ H kvs vs)(k:List Int):KvAt K ρ H (dropD kvs k) (dropK vs (k.map Sum.inl)):=by
 unfold dropD dropK
 induction h with
 | nil=>exact .nil
 | @cons p q ps qs h t ih =>
  by_cases e:p.1=k
  ·rw[xdg (by simp[e]),xdg (by simp[h.1,e])];exact ih
  ·rw[xcq (by simp[e]),xcq (by simp[h.1,zmc,e])];exact .cons h ih
theorem KvAt.length (h:KvAt K ρ H kvs vs):kvs.length=vs.length:=xis h
end
noncomputable def pairsOf (st:Store):D->Option (List (List Int×D))
 | .ref n=>match st[n]? with
  | some (.dT kvs)=>some kvs
  | some (.fT kvs)=>some kvs
  | _=>none
 | _=>none
theorem zkc {K:Fg}{ρ:Loc}{st:Store}{H:Hp}(rp:Rep K ρ st H){d:D}{u:V}{kvs:List (List Int×D)}(a:At K ρ H d u)(e:pairsOf st d=some kvs):∃p vs,u=.ref p/\Rd H p (.dT vs)/\KvAt K ρ H kvs vs:=by
 unfold pairsOf at e;split at e
 ·split at e
  ·rename_i h;cases e;obtain⟨p,rfl,hp,vs,q1,q2⟩:=zfa rp a h (by intro z;cases z);exact⟨p,vs,rfl,.inl q1,q2⟩
  ·rename_i h;cases e;obtain⟨p,rfl,hp,vs,ob,q1,q2⟩:=zfa rp a h (by intro z;cases z);exact⟨p,vs,rfl,.inr ⟨ob,q1⟩,q2⟩
  ·cases e
 ·cases e
noncomputable def keyOf:D->Option (List Int)
 | .tup ds=>asInts ds
 | _=>none
theorem zwt {K:Fg}{ρ:Loc}{H:Hp}{d:D}{u:V}{k:List Int}(a:At K ρ H d u)(e:keyOf d=some k):∃p,u=.ref p/\H p=some (.tup ((k.map (Sum.inl:Int->Key)).map kV)):=by
 unfold keyOf at e;split at e
 ·cases a with
  | tup h1 h2 h3 =>
   have:=zco h3 e;subst this;exact⟨_,rfl,by rw[zuj];exact h1⟩
 ·cases e
theorem zqa {K:Fg}{ρ:Loc}{st:Store}{H:Hp}(rp:Rep K ρ st H){d y:D}{u w:V}{kvs:List (List Int×D)}{k:List Int}(a:At K ρ H d u)(b:At K ρ H y w)(e:pairsOf st d=some kvs)(e2:keyOf y=some k) :
  ∃p o,u=.ref p/\DGet H p w o/\match valD kvs k with
   | some z=>∃v,o=some v/\At K ρ H z v
   | none=>o=none:=by
 obtain⟨p,vs,rfl,h1,h2⟩:=zkc rp a e;obtain⟨q,rfl,h3⟩:=zwt b e2;refine⟨p,valV vs (k.map Sum.inl),rfl,.inr ⟨vs,_,q,h1,rfl,h3,rfl⟩,?_⟩;have:=h2.val k;cases hv:valD kvs k with
 | none=>rw[hv] at this;exact this
 | some z=>rw[hv] at this;exact this
noncomputable def oDIn (neg:Bool) (y x:D) (st:Store):Res D:=match keyOf y,pairsOf st x with
 | some k,some kvs=>.ok (.bl (if neg then !(valD kvs k).isSome else(valD kvs k).isSome)) st
 | _,_=>.stuck
noncomputable def oDGet (x y:D) (st:Store):Res D:=match pairsOf st x,keyOf y with
 | some kvs,some k=>match valD kvs k with
  | some v=>.ok v st
  | none=>.stuck
 | _,_=>.stuck
noncomputable def eDGet2 (f g h:SE):SE:=fun σ st=>(f σ st).bind fun x st1=>match pairsOf st1 x with
 | some _=>(g σ st1).bind fun y st2=>(h σ st2).bind fun z st3=>match pairsOf st3 x,keyOf y with
  | some kvs,some k=>.ok ((valD kvs k).getD z) st3
  | _,_=>.stuck
 | none=>.stuck
noncomputable def eDPop (f g:SE):SE:=fun σ st=>(f σ st).bind fun x st1=>match pairsOf st1 x with
 | some _=>(g σ st1).bind fun y st2=>match x,keyOf y with
  | .ref n,some k=>match st2[n]? with
   | some (.dT kvs)=>match valD kvs k with
    | some v=>.ok v (st2.set n (.dT (dropD kvs k)))
    | none=>.stuck
   | _=>.stuck
  | _,_=>.stuck
 | none=>.stuck
noncomputable def sDPut (f g h:SE):SS:=fun σ st=>(h σ st).bind fun v st1=>(f σ st1).bind fun x st2=>(g σ st2).bind fun y st3=>match x,keyOf y with
 | .ref n,some k=>match st3[n]? with
  | some (.dT kvs)=>if kvs.length < sizeLine then .ok (.nx σ) (st3.set n (.dT (putD kvs k v))) else .stuck
  | _=>.stuck
 | _,_=>.stuck
noncomputable def eDNew:SE:=fun _ st=>.ok (.ref st.length) (st++[.dT []])
section
variable {X:Cx}{a b c o i e value f':Expr}{f g h:SE}{pos pos' apos cpos:Pos}
theorem zbbi {K:Fg}{ρ:Loc}{st:Store}{H:Hp}(rp:Rep K ρ st H){d:D}{u:V}{kvs:List (List Int×D)}(a:At K ρ H d u)(e:pairsOf st d=some kvs):∃p,u=.ref p/\IsD H p:=by
 obtain⟨p,vs,rfl,h1,_⟩:=zkc rp a e;exact⟨p,rfl,.inr ⟨vs,h1⟩⟩
theorem zbhh:DE X (.Dict [] [] pos) eDNew:=zfg zwe fun τ H Q hq0 p hp=>by
 obtain⟨ρ,σ,st,v,st',a,rp,e,q⟩:=hq0;cases e;obtain⟨E,R⟩:=rp.alloc hp (x:=.dT []) (o:=.dT []) fun E=>⟨[],zo,.nil⟩
 exact q _ _ _ E R (.last rp.len.symm)
theorem zbjs (hu:X.A.units+1 < cLine)(hi:DE X i g)(ho:DE X o f):PC X .In i o (tD X.K (aS (oDIn false) g f)):=fun aU s σ H Q I hq=>by
 refine zbfd hu hi ho aU s σ H Q I ?_;obtain⟨ρ,σ',st,v,st',a,rp,e,q⟩:=hq;obtain⟨x,st1,e1,e⟩:=za e;obtain⟨y,st2,e2,e⟩:=za e;refine⟨ρ,σ',st,x,st1,a,rp,e1,fun ρ1 H1 u x1 rp1 a1=>?_⟩;refine⟨ρ1,σ',st1,y,st2,a.ext x1,rp1,e2,fun ρ2 H2 w x2 rp2 a2=>?_⟩;unfold oDIn at e;split at e
 ·rename_i kk vv h1 h2;cases e;obtain⟨p,oo,rfl,g1,g2⟩:=zqa rp2 a2 (a1.ext x2) h2 h1;refine⟨p,oo,rfl,g1,?_⟩;have:oo.isSome=(valD vv kk).isSome:=by
   revert g2;split
   ·rename_i hv;rintro⟨v,rfl,_⟩;rw[hv];rfl
   ·rename_i hv;rintro rfl;rw[hv];rfl
  rw[this];exact q _ _ _ (x1.trans x2) rp2 (.bl _)
 ·cases e
theorem zbkn {op:CmpOp}{t:SE}(h:PC X op a b (tD X.K t))(h1:behindInMarks op b=false:=by first | exact nobehind _ (by decide) (by decide) | rfl):DT X (.Compare a [op] [b] pos) (eB t):=zbdl (zbel h h1) fun τ H Q hh=>eB_t _ _ _ hh
theorem zbhi (hu:X.A.units+1 < cLine)(ho:DE X o f)(hi:DE X i g)(hs:NoSl i):DE X (.Subscript o i pos) (aS oDGet f g):=zfg (zbad hu ho hi hs) fun τ H Q hq0=>by
 obtain⟨ρ,σ,st,v,st',a,rp,e,q⟩:=hq0;obtain⟨x,st1,e1,e⟩:=za e;obtain⟨y,st2,e2,e⟩:=za e;refine⟨ρ,σ,st,x,st1,a,rp,e1,fun ρ1 H1 u x1 rp1 a1=>?_⟩;refine⟨ρ1,σ,st1,y,st2,a.ext x1,rp1,e2,fun ρ2 H2 w x2 rp2 a2=>?_⟩;unfold oDGet at e;split at e
 ·rename_i h1 h2;split at e
  ·rename_i z hv;cases e;obtain⟨p,oo,rfl,g1,g2⟩:=zqa rp2 (a1.ext x2) a2 h1 h2;rw[hv] at g2;obtain⟨vv,rfl,g3⟩:=g2;exact⟨p,vv,rfl,g1,q _ _ _ (x1.trans x2) rp2 g3⟩
  ·cases e
 ·cases e
theorem zbcq (hu:X.A.units + 1 < cLine)(ho:DE X o f)(he:DE X e g)(hf:DE X f' h)(m:M2 X o "get" apos e f' cpos):DE X (.Call (.Attribute o "get" apos) [e, f'] [] cpos) (eDGet2 f g h):=zfg (zwf hu ho he hf m) fun τ H Q hq0=>by
 obtain⟨ρ,σ,st,v,st',a,rp,e,q⟩:=hq0;obtain⟨x,st1,e1,e⟩:=za e;refine⟨ρ,σ,st,x,st1,a,rp,e1,fun ρ1 H1 u x1 rp1 a1=>?_⟩;split at e
 ·rename_i h0;obtain⟨p,rfl,hd⟩:=zbbi rp1 a1 h0;obtain⟨y,st2,e2,e⟩:=za e;obtain⟨z,st3,e3,e⟩:=za e;refine⟨p,rfl,hd,?_⟩;refine⟨ρ1,σ,st1,y,st2,a.ext x1,rp1,e2,fun ρ2 H2 w x2 rp2 a2=>?_⟩;refine⟨ρ2,σ,st2,z,st3,a.ext (x1.trans x2),rp2,e3,fun ρ3 H3 t x3 rp3 a3=>?_⟩;split at e
  ·rename_i h1 h2;cases e;obtain⟨p',oo,ep,g1,g2⟩:=zqa rp3 (a1.ext (x2.trans x3)) (a2.ext x3) h1 h2;cases ep;refine⟨oo,g1,q _ _ _ (x1.trans (x2.trans x3)) rp3 ?_⟩;revert g2;split
   ·rename_i hv;rintro⟨vv,rfl,g3⟩;rw[hv];exact g3
   ·rename_i hv;rintro rfl;rw[hv];exact a3
  ·cases e
 ·cases e
theorem zbhg (hu:X.A.units + 1 < cLine)(ho:DE X o f)(he:DE X e g)(m:M1 X o "pop" apos e cpos):DE X (.Call (.Attribute o "pop" apos) [e] [] cpos) (eDPop f g):=zfg (zwd hu ho he m) fun τ H Q hq0=>by
 obtain⟨ρ,σ,st,v,st',a,rp,e,q⟩:=hq0;obtain⟨x,st1,e1,e⟩:=za e;refine⟨ρ,σ,st,x,st1,a,rp,e1,fun ρ1 H1 u x1 rp1 a1=>?_⟩;split at e
 ·rename_i h0;obtain⟨p,rfl,hd⟩:=zbbi rp1 a1 h0;obtain⟨y,st2,e2,e⟩:=za e;refine⟨p,rfl,hd,?_⟩;refine⟨ρ1,σ,st1,y,st2,a.ext x1,rp1,e2,fun ρ2 H2 w x2 rp2 a2=>?_⟩;split at e
  ·rename_i n k hk _;split at e
   ·rename_i kvs hn;split at e
    ·rename_i z hv;cases e;obtain⟨p',ep,hp,vs,g1,g2⟩:=zfa rp2 (a1.ext x2) hn (by intro z;cases z);cases ep;obtain⟨b,rfl,g3⟩:=zwt a2 hk;have g4:=g2.val k;rw[hv] at g4;obtain⟨vv,g5,g6⟩:=g4;have E:Ext ρ2 H2 ρ2 (upd H2 p (.dT (dropK vs (k.map Sum.inl)))):=Ext.wr hp (zgs g1) _;exact⟨vs,_,vv,b,g1,rfl,g3,g5,q _ _ _ ((x1.trans x2).trans E) (rp2.wr hp (zgs g1) ⟨_,zo,(g2.drop k).ext E⟩) (g6.ext E)⟩
    ·cases e
   ·cases e
  ·cases e
 ·cases e
theorem zbca (hu:X.A.units+1 < cLine)(ho:DE X o f)(hi:DE X i g)(hv:DE X value h)(hs:swapsWith value (some (.Subscript o i pos')) pos.line X.env=pure false) :
  DSt X (.Assign [.Subscript o i pos'] value pos) (sDPut f g h):=zry (zzq hu ho hi hv hs) fun E τ H hq0=>by
 obtain⟨ρ,σ,st,fl,st',a,rp,e,q⟩:=hq0;obtain⟨v,st1,e1,e⟩:=za e;obtain⟨x,st2,e2,e⟩:=za e;obtain⟨y,st3,e3,e⟩:=za e;refine⟨ρ,σ,st,v,st1,a,rp,e1,fun ρ1 H1 u x1 rp1 a1=>?_⟩;refine⟨ρ1,σ,st1,x,st2,a.ext x1,rp1,e2,fun ρ2 H2 w x2 rp2 a2=>?_⟩;refine⟨ρ2,σ,st2,y,st3,a.ext (x1.trans x2),rp2,e3,fun ρ3 H3 t x3 rp3 a3=>?_⟩;split at e
 ·rename_i n k hk _;split at e
  ·rename_i kvs hn;split at e
   ·rename_i hl;cases e;obtain⟨p,rfl,hp,vs,g1,g2⟩:=zfa rp3 (a2.ext x3) hn (by intro z;cases z);obtain⟨b,rfl,g3⟩:=zwt a3 hk;have E:Ext ρ3 H3 ρ3 (upd H3 p (.dT (putK vs (k.map Sum.inl) u))):=Ext.wr hp (zgs g1) _;refine⟨p,_,rfl,DPut.t g1 g3 (by rw[← g2.length];exact hl),?_⟩;exact q _ _ _ ((x1.trans (x2.trans x3)).trans E) (rp3.wr hp (zgs g1) ⟨_,zo,(g2.put k (a1.ext (x2.trans x3))).ext E⟩) (a.ext ((x1.trans (x2.trans x3)).trans E))
   ·cases e
  ·cases e
 ·cases e
end
noncomputable def bSorted:List D->Store->Res D:=fun xs st=>match xs with
 | [x]=>match (asL st x).bind asRows with
  | some l=>if l.length<=1000000 then .ok (.lst (aJ (sortR l))) st else .stuck
  | none=>match pairsOf st x with
   | some kvs=>if kvs.length<=1000000 then .ok (.lst (aJ (sortR (kvs.map (·.1))))) st else .stuck
   | none=>.stuck
 | _=>.stuck
theorem zmv {K:Fg}:CaD K bSorted (fun xs H Q=>rSortedAL K xs H Q\/rSortedDAL xs H Q):=fun ρ H st xs us z st' Q rp aa e q=>by
 unfold bSorted at e;split at e
 ·obtain⟨u,rfl,a⟩:=aa.one;split at e
  ·rename_i l hl;obtain⟨ys,h0,hl⟩:=xeu.mp hl;split at e
   ·rename_i few;cases e;obtain⟨p,vs,rfl,h1,h2⟩:=zfe rp a h0;obtain⟨ps,rfl,rfl,h3⟩:=zik h2 hl;rw[xbe] at few;refine .inl ⟨p,ps,rfl,SqL.of h1,few,fun x hx=>SqT.of (h3 x hx).1,fun t qs ht hp hs=>?_⟩;have e2:qs.map (·.2)=sortR (ps.map (·.2)):=zjw (hp.map _) hs;refine q _ _ _ (Ext.new ht _) (rp.new ht _) (.newL rp ht ?_);rw[← e2];exact zjz qs fun x hx=>h3 x (hp.mem_iff.mp hx)
   ·cases e
  ·split at e
   ·rename_i kvs hk;split at e
    ·rename_i few;cases e;obtain⟨p,vs,rfl,h1,h2⟩:=zkc rp a hk;refine .inr ⟨p,vs,kvs.map (·.1),rfl,h1,h2.keys,by rw[xbe];exact few,fun t qs ht hp hs hq=>?_⟩;have e2:qs.map (·.2)=sortR (kvs.map (·.1)):=zjw hp hs;refine q _ _ _ (Ext.new ht _) (rp.new ht _) (.newL rp ht ?_);rw[← e2];exact zjz qs fun x hx=>⟨hq x hx,zlt rp (hq x hx)⟩
    ·cases e
   ·cases e
 ·cases e
theorem zgf {X:Cx}(hc:X.calm=true)(hu:X.A.units + 64 < cLine):CallR X (.builtin "sorted") (fun xs H Q=>rSortedAL X.K xs H Q\/rSortedDAL xs H Q):=(zjn hu).or (zih hc hu)
noncomputable def eAppend (f:SE) (g:SA):SE:=fun σ st=>(f σ st).bind fun x st1=>match x,asL st1 x with
 | .ref n,some _=>(g σ st1).bind fun ys st2=>match ys,st2[n]? with
  | [y],some (.lst xs)=>if xs.length < sizeLine then .ok .non (st2.set n (.lst (xs++[y]))) else .stuck
  | _,_=>.stuck
 | _,_=>.stuck
noncomputable def eExtend (f:SE) (g:SA):SE:=fun σ st=>(f σ st).bind fun x st1=>match x,asL st1 x with
 | .ref n,some _=>(g σ st1).bind fun ys st2=>match ys,st2[n]? with
  | [y],some (.lst xs)=>match asL st2 y with
   | some zs=>if xs.length+zs.length<=sizeLine then .ok .non (st2.set n (.lst (xs++zs))) else .stuck
   | none=>.stuck
  | _,_=>.stuck
 | _,_=>.stuck
section
variable {X:Cx}{o e i value:Expr}{es:List Expr}{f g h:SE}{ga:SA}{pos apos cpos:Pos}
theorem zxs (ho:DE X o f)(ha:DA X (e::es) ga)(hbase:attributeBase o "append" X.env (eval o X.env)=eval o X.env:=by rfl)
  (hfew:((backTo cpos (starEach (e::es) X.env)).all (fun x=>!x.1)&&(backToKw cpos (keywordEach [] X.env)).all (fun x=>x.1.isSome)
   && decide ((e::es).length+([]:List Keyword).length+(if([]:List Keyword).isEmpty then 0 else 1) < 30))=true:=by rfl)
  (hline:(apos.endLine==cpos.line)=true:=by rfl)(hs:starEach (e::es) X.env=(false,eval e X.env)::starEach es X.env:=by rfl)(hplain:(backTo cpos (starEach es X.env)).any (·.1)=false:=by rfl) :
  DE X (.Call (.Attribute o "append" apos) (e::es) [] cpos) (eAppend f ga):=zfg (zbis F.plainAttrs_list F.slot_list_append F.type_list_append zlu ho ha hbase hfew hline hs hplain) fun τ H Q hq0=>by
 obtain⟨ρ,σ,st,v,st',a,rp,e,q⟩:=hq0;obtain⟨x,st1,e1,e⟩:=za e;refine⟨ρ,σ,st,x,st1,a,rp,e1,fun ρ1 H1 u x1 rp1 a1=>?_⟩;split at e
 ·rename_i n _ hL;obtain⟨ys,st2,e2,e⟩:=za e;obtain⟨p,vs,rfl,g1,g2⟩:=zfe rp1 a1 hL;refine⟨.inl ⟨rfl,_,SqL.of g1⟩,ρ1,σ,st1,ys,st2,a.ext x1,rp1,e2,fun ρ2 H2 ws x2 rp2 a2=>?_⟩;split at e
  ·rename_i y xs hn;split at e
   ·rename_i hl;cases e;obtain⟨w,rfl,a3⟩:=a2.one;obtain⟨p',ep,hp,vs2,k1,k2⟩:=zfa rp2 (a1.ext x2) hn (by intro z;cases z);cases ep;have E:Ext ρ2 H2 ρ2 (upd H2 p (.lst (vs2++[w]))):=Ext.wr hp (zeo k1) _;exact⟨p,vs2,w,rfl,rfl,k1,by rw[k2.length];exact hl,q _ _ _ ((x1.trans x2).trans E) (rp2.wr hp (zeo k1) ⟨_,zo,(k2.append (.cons a3 .nil)).ext E⟩) .non⟩
   ·cases e
  ·cases e
 ·cases e
theorem zxp (ho:DE X o f)(ha:DA X (e::es) ga)(hbase:attributeBase o "extend" X.env (eval o X.env)=eval o X.env:=by rfl)
  (hfew:((backTo cpos (starEach (e::es) X.env)).all (fun x=>!x.1)&&(backToKw cpos (keywordEach [] X.env)).all (fun x=>x.1.isSome)
   && decide ((e::es).length+([]:List Keyword).length+(if([]:List Keyword).isEmpty then 0 else 1) < 30))=true:=by rfl)
  (hline:(apos.endLine==cpos.line)=true:=by rfl)(hs:starEach (e::es) X.env=(false,eval e X.env)::starEach es X.env:=by rfl)(hplain:(backTo cpos (starEach es X.env)).any (·.1)=false:=by rfl) :
  DE X (.Call (.Attribute o "extend" apos) (e::es) [] cpos) (eExtend f ga):=zfg (zbis F.plainAttrs_list F.slot_list_extend F.type_list_extend zsj ho ha hbase hfew hline hs hplain) fun τ H Q hq0=>by
 obtain⟨ρ,σ,st,v,st',a,rp,e,q⟩:=hq0;obtain⟨x,st1,e1,e⟩:=za e;refine⟨ρ,σ,st,x,st1,a,rp,e1,fun ρ1 H1 u x1 rp1 a1=>?_⟩;split at e
 ·rename_i n _ hL;obtain⟨ys,st2,e2,e⟩:=za e;obtain⟨p,vs,rfl,g1,g2⟩:=zfe rp1 a1 hL;refine⟨.inl ⟨rfl,_,SqL.of g1⟩,ρ1,σ,st1,ys,st2,a.ext x1,rp1,e2,fun ρ2 H2 ws x2 rp2 a2=>?_⟩;split at e
  ·rename_i y xs hn;split at e
   ·rename_i zs hz;split at e
    ·rename_i hl;cases e;obtain⟨w,rfl,a3⟩:=a2.one;obtain⟨p',ep,hp,vs2,k1,k2⟩:=zfa rp2 (a1.ext x2) hn (by intro z;cases z);cases ep;obtain⟨b,ws2,rfl,m1,m2⟩:=zfe rp2 a3 hz;have E:Ext ρ2 H2 ρ2 (upd H2 p (.lst (vs2++ws2))):=Ext.wr hp (zeo k1) _;exact⟨p,b,vs2,ws2,rfl,rfl,k1,m1,by rw[k2.length,m2.length];exact hl,q _ _ _ ((x1.trans x2).trans E) (rp2.wr hp (zeo k1) ⟨_,zo,(k2.append m2).ext E⟩) .non⟩
    ·cases e
   ·cases e
  ·cases e
 ·cases e
noncomputable def eFz (f:SE):SE:=fun σ st=>(f σ st).bind fun x st1=>match x with
 | .ref n=>match st1[n]? with
  | some (.lst xs)=>.ok (.lst xs) (st1.set n .dead)
  | _=>.stuck
 | _=>.stuck
theorem d_fz (ho:DE X o f):DE X o (eFz f):=zfg ho fun τ H Q hq0=>by
 obtain⟨ρ,σ,st,v,st',a,rp,e,q⟩:=hq0;obtain⟨x,st1,e1,e⟩:=za e;refine⟨ρ,σ,st,x,st1,a,rp,e1,fun ρ1 H1 u x1 rp1 a1=>?_⟩;split at e
 ·rename_i n;split at e
  ·rename_i xs hn;cases e;obtain⟨p,rfl,hp,vs2,k1,k2⟩:=zfa rp1 a1 hn (by intro z;cases z);have hlen:=(xbm.mp hp).1;obtain⟨E,R⟩:=rp1.kill hlen;refine q _ _ _ (x1.trans E) R (.lst k1 ⟨fun z=>?_,fun z=>(rp1.gh p z).2 (xbx hp)⟩ (k2.ext E));obtain⟨i,hi,e2⟩:=xen z;have e3:(ρ1.m.set n none)[i]?=some (some p):=by rw[xbg hi,e2]
   by_cases hin:i=n
   ·subst hin;rw[xel hlen] at e3;simp at e3
   ·rw[xdd (xda hin)] at e3;exact hin (rp1.inj i n p e3 hp)
  ·cases e
 ·cases e
end
noncomputable def sNx:SS:=fun σ st=>.ok (.nx σ) st
noncomputable def sBrk:SS:=fun σ st=>.ok (.brk σ) st
noncomputable def sCt:SS:=fun σ st=>.ok (.ct σ) st
noncomputable def sRet (f:SE):SS:=fun σ st=>(f σ st).bind fun v st1=>.ok (.ret v) st1
noncomputable def sRetN:SS:=fun _ st=>.ok (.ret .non) st
noncomputable def sDrop (f:SE):SS:=fun σ st=>(f σ st).bind fun _ st1=>.ok (.nx σ) st1
noncomputable def aF (i:Nat) (f:SE):SS:=fun σ st=>(f σ st).bind fun v st1=>.ok (.nx (σ.set i (some v))) st1
noncomputable def aD (s t:SS):SS:=fun σ st=>match s σ st with
 | .ok (.nx σ1) st1=>t σ1 st1
 | r=>r
noncomputable def sIf (c:ST) (s t:SS):SS:=fun σ st=>(c σ st).bind fun b st1=>if b=true then s σ st1 else t σ st1
noncomputable def sAug (i:Nat) (g:D->D->Store->Res D) (f:SE):SS:=fun σ st=>match σ[i]? with
 | some (some x)=>(f σ st).bind fun y st1=>(g x y st1).bind fun z st2=>.ok (.nx (σ.set i (some z))) st2
 | _=>.stuck
noncomputable def sSetIx (f g h:SE):SS:=fun σ st=>(h σ st).bind fun v st1=>(f σ st1).bind fun x st2=>(g σ st2).bind fun y st3=>match x,y with
 | .ref n,.int k=>match st3[n]? with
  | some (.lst xs)=>match ixN xs.length k with
   | some j=>.ok (.nx σ) (st3.set n (.lst (xs.set j v)))
   | none=>.stuck
  | _=>.stuck
 | _,_=>.stuck
section
variable {X:Cx}{e c o i value:Expr}{sm:Stmt}{rest:List Stmt}{f g h:SE}{s t:SS}{b:ST}{pos pos':Pos}
theorem zbgs:DSs X [] sNx:=zzm zzo fun E τ H hq0=>by
 obtain⟨ρ,σ,st,fl,st',a,rp,e,q⟩:=hq0;cases e;exact q _ _ _ (.refl _ _) rp a
theorem zbgq (he:DE X e f):DSt X (.Return (some e) pos) (sRet f):=zry (zben he) fun E τ H hq0=>by
 obtain⟨ρ,σ,st,fl,st',a,rp,e,q⟩:=hq0;obtain⟨x,st1,e1,e⟩:=za e;cases e;exact⟨ρ,σ,st,x,_,a,rp,e1,fun ρ1 H1 u x1 rp1 a1=>q _ _ _ x1 rp1 a1⟩
theorem zbbz (he:DE X e f)(hs:swapsWith e none pos.line X.env=pure false:=by rfl):DSt X (.Expr e pos) (sDrop f):=zry (zzp he hs) fun E τ H hq0=>by
 obtain⟨ρ,σ,st,fl,st',a,rp,e,q⟩:=hq0;obtain⟨x,st1,e1,e⟩:=za e;cases e;exact⟨ρ,σ,st,x,_,a,rp,e1,fun ρ1 H1 u x1 rp1 a1=>q _ _ _ x1 rp1 (a.ext x1)⟩
theorem zbjj {K:Fg}{i:Nat}{f:SE}:∀E τ H,tDS K (aF i f) E τ H->tAsg (tD K f) (gName i) E τ H:=fun E τ H hq0=>by
 obtain⟨ρ,σ,st,fl,st',a,rp,e,q⟩:=hq0;obtain⟨x,st1,e1,e⟩:=za e;cases e;exact⟨ρ,σ,st,x,_,a,rp,e1,fun ρ1 H1 u x1 rp1 a1=>q _ _ _ x1 rp1 ((a.ext x1).set a1 i)⟩
theorem zbgp {i:Nat}{x:Str}(hN:X.N.Nodup)(hi:X.N[i]?=some x)(hx:L2.Loc X.env.scope x)(he:DE X e f)(hs:swapsWith e (some (.Name x pos')) pos.line X.env=pure false:=by rfl)(hf:X.fn x=true\/X.env.scope.names.lookup x=some .local:=by first | exact .inl rfl | exact .inr rfl | assumption) :
 DSt X (.Assign [.Name x pos'] e pos) (aF i f):=zry (zbem hN hi hx he hs hf) zbjj
theorem zbgr (h1:DSt X sm s):DSs X [sm] s:=zzn h1
theorem zbcb (h1:DSt X sm s)(h2:DSs X rest t):DSs X (sm::rest) (aD s t):=zzm (zvv h1 h2) fun E τ H hq0=>by
 obtain⟨ρ,σ,st,fl,st',a,rp,e,q⟩:=hq0;unfold aD at e;split at e
 ·rename_i σ1 st1 e1;exact⟨ρ,σ,st,_,st1,a,rp,e1,fun ρ1 H1 τ1 x1 rp1 a1=>⟨ρ1,σ1,st1,fl,st',a1,rp1,e,q.ext x1⟩⟩
 ·rename_i hne;refine⟨ρ,σ,st,fl,st',a,rp,e,?_⟩;cases fl with
  | nx σ'=>exact absurd e (hne σ' st')
  | brk σ'=>exact q
  | ct σ'=>exact q
  | ret v=>exact q
theorem zbko {a' b':List Stmt}(hc:DT X c b)(ha:DSs X a' s)(hb:DSs X b' t):DSt X (.If c a' b' pos) (sIf b s t):=zry (zbjo hc ha hb) fun E τ H hq0=>by
 obtain⟨ρ,σ,st,fl,st',a,rp,e,q⟩:=hq0;obtain⟨x,st1,e1,e⟩:=za e;refine⟨ρ,σ,st,x,st1,a,rp,e1,fun ρ1 H1 x1 rp1=>?_⟩;cases x with
 | true=>exact iteT ⟨ρ1,σ,st1,fl,st',a.ext x1,rp1,e,q.ext x1⟩
 | false=>exact iteF ⟨ρ1,σ,st1,fl,st',a.ext x1,rp1,e,q.ext x1⟩
noncomputable def IpD (K:Fg) (g:D->D->Store->Res D) (r:TIp):Prop :=
 ∀ρ H st x y u v z st' (Q:VK),Rep K ρ st H->At K ρ H x u->At K ρ H y v->g x y st=.ok z st'->(∀ρ' H' w,Ext ρ H ρ' H'->Rep K ρ' st' H'->At K ρ' H' z w->Q w H')->r u v H Q
theorem zbgu {i:Nat}{x:Str}{op:Operator}{ti:TIp}{g:D->D->Store->Res D}(hN:X.N.Nodup)(hi:X.N[i]?=some x)(hx:L2.Loc X.env.scope x)(he:DE X e f)(ho:PIp X op ti)(hr:IpD X.K g ti)(hf:X.fn x=true\/X.env.scope.names.lookup x=some .local:=by first | exact .inl rfl | exact .inr rfl | assumption) :
  DSt X (.AugAssign (.Name x pos') op e pos) (sAug i g f):=zry (zbep hN hi hx he ho hf) fun E τ H hq0=>by
 obtain⟨ρ,σ,st,fl,st',a,rp,e,q⟩:=hq0;unfold sAug at e;split at e
 ·rename_i d hd;obtain⟨y,st1,e1,e⟩:=za e;obtain⟨z,st2,e2,e⟩:=za e;cases e;obtain⟨u,hu,a0⟩:=a.get hd;refine⟨u,hu,ρ,σ,st,y,st1,a,rp,e1,fun ρ1 H1 w x1 rp1 a1=>?_⟩;exact hr ρ1 H1 st1 d y u w z st' _ rp1 (a0.ext x1) a1 e2 fun ρ2 H2 zz x2 rp2 a2=>q _ _ _ (x1.trans x2) rp2 ((a.ext (x1.trans x2)).set a2 i)
 ·cases e
theorem ip_D {K:Fg}{p:Int->Int->Int}:IpD K (oI (fun _ _=>True) fun i j=>.int (p i j)) (ipI p):=fun ρ H st x y u v z st' Q rp a b e q=>by
 unfold oI at e;split at e
 ·cases a;cases b;rw[if_pos True.intro] at e;cases e;exact⟨_,_,rfl,rfl,q _ _ _ (.refl _ _) rp (.int _)⟩
 ·cases e
theorem zxg (he:DE X value h)(ho:DE X o f)(hi:DE X i g)(ha:∀v,assign (.Subscript o i pos') X.env v=(do
   let ov ← holding [v] (eval o X.env)
   let iv ← holding [v,ov] (eval i X.env)
   standAt pos'
   holding [v,ov,iv] (setItem ov iv v)
   release [v,ov,iv] []):=by intro _;rfl)
  (hs:swapsWithSole [.Subscript o i pos'] value pos.line X.env=pure false:=by rfl)(hw:swappedStores [.Subscript o i pos'] value X.env=pure none:=by rfl)
  (h1:(assignEach [.Subscript o i pos'] X.env).map (·.2)=[assign (.Subscript o i pos') X.env]:=by rfl):DSt X (.Assign [.Subscript o i pos'] value pos) (sSetIx f g h) :=
 zry (zbeq he (zbev ho hi zvp ha) hs hw h1) fun E τ H hq0=>by
 obtain⟨ρ,σ,st,fl,st',a,rp,e,q⟩:=hq0;obtain⟨v,st1,e1,e⟩:=za e;obtain⟨x,st2,e2,e⟩:=za e;obtain⟨y,st3,e3,e⟩:=za e;refine⟨ρ,σ,st,v,st1,a,rp,e1,fun ρ1 H1 u x1 rp1 a1=>?_⟩;refine⟨ρ1,σ,st1,x,st2,a.ext x1,rp1,e2,fun ρ2 H2 w x2 rp2 a2=>?_⟩;refine⟨ρ2,σ,st2,y,st3,a.ext (x1.trans x2),rp2,e3,fun ρ3 H3 t x3 rp3 a3=>?_⟩;split at e
 ·rename_i n k _;split at e
  ·rename_i xs hn;split at e
   ·rename_i j hj;cases e;cases a3;obtain⟨p,rfl,hp,vs,g1,g2⟩:=zfa rp3 (a2.ext x3) hn (by intro z;cases z);have E:Ext ρ3 H3 ρ3 (upd H3 p (.lst (vs.set j u))):=Ext.wr hp (zeo g1) _;refine⟨p,vs,k,j,rfl,rfl,g1,by rw[g2.length];exact hj,?_⟩;exact q _ _ _ ((x1.trans (x2.trans x3)).trans E) (rp3.wr hp (zeo g1) ⟨_,zo,(g2.set (a1.ext (x2.trans x3)) j).ext E⟩) (a.ext ((x1.trans (x2.trans x3)).trans E))
   ·cases e
  ·cases e
 ·cases e
end
noncomputable abbrev SG:=D->DS->Option DS
noncomputable def gN (i:Nat):SG:=fun d σ=>some (σ.set i (some d))
noncomputable def gsNil:List D->DS->Option DS:=fun ds σ=>match ds with
 | []=>some σ
 | _=>none
noncomputable def gsCons (t:SG) (u:List D->DS->Option DS):List D->DS->Option DS:=fun ds σ=>match ds with
 | d::r=>(t d σ).bind fun σ1=>u r σ1
 | _=>none
noncomputable def gT (n:Nat) (u:List D->DS->Option DS):SG:=fun d σ=>match d with
 | .tup ds=>if ds.length=n then u ds σ else none
 | _=>none
noncomputable def gD (K:Fg) (b:SG):TG:=fun v τ H Q=>∃ρ σ d σ',AtS K ρ H σ τ/\At K ρ H d v/\b d σ=some σ'/\∀τ',AtS K ρ H σ' τ'->Q τ' H
noncomputable def gDs (K:Fg) (b:List D->DS->Option DS):TGs:=fun vs τ H Q=>∃ρ σ ds σ',AtS K ρ H σ τ/\AtAll K ρ H ds vs/\b ds σ=some σ'/\∀τ',AtS K ρ H σ' τ'->Q τ' H
noncomputable abbrev DG (X:Cx) (tg:Expr) (b:SG):Prop:=PG X tg (gD X.K b)
noncomputable abbrev DGs (X:Cx) (ts:List Expr) (b:List D->DS->Option DS):Prop:=PGs X ts (gDs X.K b)
section
variable {X:Cx}{pos:Pos}{e:Expr}{es:List Expr}{t:SG}{u:List D->DS->Option DS}
theorem zbiq {g g':TG}(h:PG X e g)(k:∀v τ H Q,g' v τ H Q->g v τ H Q):PG X e g':=fun aU s σ H v u Q I r q=>h aU s σ H v u Q I r (k _ _ _ _ q)
theorem zzz {g g':TGs}(h:PGs X es g)(k:∀v τ H Q,g' v τ H Q->g v τ H Q):PGs X es g':=fun aU s σ H v u Q I r q=>h aU s σ H v u Q I r (k _ _ _ _ q)
theorem zbck {i:Nat}{x:Str}(hN:X.N.Nodup)(hi:X.N[i]?=some x)(hx:L2.Loc X.env.scope x)(hf:X.fn x=true\/X.env.scope.names.lookup x=some .local:=by first | exact .inl rfl | exact .inr rfl | assumption):DG X (.Name x pos) (gN i) :=
 zbiq (zbab hN hi hx hf) fun v τ H Q hq0=>by
 obtain⟨ρ,σ,d,σ',a,b,e,q⟩:=hq0;cases e;exact q _ (a.set b i)
theorem zbcj:DGs X [] gsNil:=zzz zbaa fun v τ H Q hq0=>by
 obtain⟨ρ,σ,d,σ',a,b,e,q⟩:=hq0;unfold gsNil at e;split at e
 ·cases e;cases b;exact⟨rfl,q _ a⟩
 ·cases e
theorem zxj (h1:DG X e t)(h2:DGs X es u)(hs:(assignEach (e::es) X.env).map (·.2)=assign e X.env::(assignEach es X.env).map (·.2):=by rfl):DGs X (e::es) (gsCons t u) :=
 zzz (zwa h1 h2 hs) fun v τ H Q hq0=>by
 obtain⟨ρ,σ,d,σ',a,b,e,q⟩:=hq0;unfold gsCons at e;split at e
 ·obtain⟨σ1,e1,e2⟩:=xeu.mp e;cases b with
  | cons b1 b2=>exact⟨_,_,rfl,ρ,σ,_,σ1,a,b1,e1,fun τ1 a1=>⟨ρ,σ1,_,σ',a1,b2,e2,q⟩⟩
 ·cases e
theorem zbgy {k:Nat}{n:Nat}(hc:X.calm=true)(h:DGs X es u)(hn:(assignEach es X.env).length=n:=by rfl)(hst:(assignEach es X.env).findIdx? (·.1)=none:=by rfl):DG X (.Tuple es k pos) (gT n u) :=
 zbiq (zbeu hc h hn hst) fun v τ H Q hq0=>by
 obtain⟨ρ,σ,d,σ',a,b,e,q⟩:=hq0;unfold gT at e;split at e
 ·split at e
  ·rename_i hl;cases b with
   | tup h1 h2 h3=>exact⟨_,_,rfl,SqT.of h1,by rw[h3.length];exact hl,ρ,σ,_,σ',a,h3,e,q⟩
  ·cases e
 ·cases e
end
structure ExtG (ρ:Loc) (H:Hp) (ρ':Loc) (H':Hp):Prop where
 len:ρ.m.length<=ρ'.m.length
 old:∀(n:Nat) (a:Addr),n < ρ.m.length->ρ'.m[n]?=some (some a)->ρ.m[n]?=some (some a)
 keep:∀a o,H a=some o->some a∉ρ.m->H' a=some o/\some a∉ρ'.m
 gho:∀a∈ρ'.g,a∈ρ.g\/H a=none
 frz:∀a ob u,H a=some (.frz ob u)->H' a=some (.frz ob u)
theorem Ext.toG {ρ ρ':Loc}{H H':Hp}(x:Ext ρ H ρ' H'):ExtG ρ H ρ' H':=⟨x.len,x.old,x.keep,fun a h=>.inl (by rw[← x.gho];exact h),x.frz⟩
theorem ExtG.then {ρ ρ1 ρ2:Loc}{H H1 H2:Hp}(a:ExtG ρ H ρ1 H1)(b:Ext ρ1 H1 ρ2 H2):ExtG ρ H ρ2 H2 :=
 ⟨xbb a.len b.len,fun n c h e=>a.old n c h (b.old n c (xbh h a.len) e),fun c o e n=>by
  obtain⟨e1,n1⟩:=a.keep c o e n
  exact b.keep c o e1 n1,fun c h=>a.gho c (by rw[← b.gho];exact h),fun c ob u e=>b.frz c ob u (a.frz c ob u e)⟩
theorem ExtG.out {ρ ρ':Loc}{H H':Hp}(x:ExtG ρ H ρ' H'){a:Addr}{o:HO}(h:H a=some o)(n:Out ρ a):H' a=some o/\Out ρ' a :=
 ⟨(x.keep a o h n.1).1,(x.keep a o h n.1).2,fun z=>by
  rcases x.gho a z with q | q
  ·exact n.2 q
  ·rw[h] at q;cases q⟩
theorem ExtG.mv {ρ ρ':Loc}{H H':Hp}(x:ExtG ρ H ρ' H'):Mv ρ H ρ' H':=⟨fun h n=>x.out h n,x.len,x.old⟩
theorem At.extG {K:Fg}{ρ ρ':Loc}{H H':Hp}(x:ExtG ρ H ρ' H'){d:D}{v:V}(h:At K ρ H d v):At K ρ' H' d v:=h.mv x.mv
theorem Ls.extG {K:Fg}{ρ ρ':Loc}{H H':Hp}{a:Addr}{vs:List V}(x:ExtG ρ H ρ' H')(h:Ls K ρ H a vs):Ls K ρ' H' a vs:=h.mv x.mv
structure ItOk (K:Fg) (ρ:Loc) (H:Hp) (J:It) (xs:List D):Prop where
 item:∀ρ2 H2,ExtG ρ H ρ2 H2->∀(i:Nat) (x:D),xs[i]?=some x->J.go i H2/\∀y H3,J.yld i H2 y H3->Ext ρ2 H2 ρ2 H3/\∀st,Rep K ρ2 st H2->Rep K ρ2 st H3/\At K ρ2 H3 x y
 done:∀ρ2 H2,ExtG ρ H ρ2 H2->∀i:Nat,xs.length<=i->J.stop i H2
noncomputable def iD (K:Fg) (f:SA):TI:=fun τ H R=>∃ρ σ st xs st',AtS K ρ H σ τ/\Rep K ρ st H/\f σ st=.ok xs st'/\∀ρ' H' J,Ext ρ H ρ' H'->Rep K ρ' st' H'->ItOk K ρ' H' J xs->R J H'
noncomputable abbrev DI (X:Cx) (tg iter:Expr) (f:SA):Prop:=PI X tg iter (iD X.K f)
noncomputable def seqV:D->Option (List D)
 | .tup xs=>some xs
 | .lst xs=>some xs
 | .scr xs=>some xs
 | _=>none
noncomputable def aH (f:SE):SA:=fun σ st=>(f σ st).bind fun x st1=>match seqV x with
 | some xs=>.ok xs st1
 | none=>.stuck
noncomputable def rng (lo:Int) (n:Nat):List D:=(List.range n).map fun(i:Nat)=>D.int (lo+i)
noncomputable def iR1 (g:SA):SA:=fun σ st=>(g σ st).bind fun xs st1=>match xs with
 | [.int j]=>if -(2 ^ 62)<=j/\j < 2 ^ 62 then .ok (rng 0 j.toNat) st1 else .stuck
 | _=>.stuck
noncomputable def iR2 (g:SA):SA:=fun σ st=>(g σ st).bind fun xs st1=>match xs with
 | [.int i,.int j]=>if -(2 ^ 62)<=i/\i < 2 ^ 62/\-(2 ^ 62)<=j/\j < 2 ^ 62 then .ok (rng i (j - i).toNat) st1 else .stuck
 | _=>.stuck
theorem zeu {lo:Int}{n i:Nat}{x:D}(h:(rng lo n)[i]?=some x):i < n/\x=.int (lo+i):=by
 unfold rng at h;rw[xct] at h;rcases xik i n with z | z
 ·rw[List.getElem?_range z] at h;exact⟨z,(xco h).symm⟩
 ·rw[xkc (by rw[xfn];exact z)] at h;cases h
theorem zww {K:Fg}{ρ:Loc}{H:Hp}{lo:Int}{n:Nat}:ItOk K ρ H (Itr lo n) (rng lo n) where
 item:=fun ρ2 H2 x i d e=>by
  obtain⟨h1,rfl⟩:=zeu e;refine⟨h1,fun y H3 hy=>?_⟩;obtain⟨rfl,rfl⟩:=hy;exact⟨.refl _ _,fun _ r=>⟨r,.int _⟩⟩
 done:=fun ρ2 H2 x i h=>by
  unfold rng at h;rw[xbe,xfn] at h;exact h
section
variable {X:Cx}{tg l a b:Expr}{f:SE}{g:SA}{p pos:Pos}
theorem zzw {t t':TI}(h:PI X tg l t)(k:∀τ H R,t' τ H R->t τ H R):PI X tg l t':=fun aU s σ H R I q=>h aU s σ H R I (k _ _ _ q)
theorem zbip {t t':TI}(h:PI X tg l t)(h':PI X tg l t'):PI X tg l (fun τ H R=>t τ H R\/t' τ H R):=fun aU s σ H R I q=>by
 rcases q with q | q
 ·exact h aU s σ H R I q
 ·exact h' aU s σ H R I q
theorem zvi {K:Fg}{ρ:Loc}{H:Hp}{p:Addr}{xs:List D}{vs:List V}(hs:∀ρ2 H2,ExtG ρ H ρ2 H2->SqL K H2 p vs)(al:AtAll K ρ H xs vs):ItOk K ρ H (Itl K p) xs where
 item:=fun ρ2 H2 x i d e=>by
  obtain⟨v,hv,a⟩:=al.get e;refine⟨⟨vs,v,hs _ _ x,hv⟩,fun y H3 hy=>?_⟩;obtain⟨rfl,h2⟩:=hy;have:=h2 vs (hs _ _ x);rw[hv] at this;cases this;exact⟨.refl _ _,fun _ r=>⟨r,a.extG x⟩⟩
 done:=fun ρ2 H2 x i h=>⟨vs,hs _ _ x,by rw[al.length];exact h⟩
theorem zbie {K:Fg}{ρ:Loc}{H:Hp}{p:Addr}{xs:List D}{vs:List V}(hs:∀ρ2 H2,ExtG ρ H ρ2 H2->SqT K H2 p vs)(al:AtAll K ρ H xs vs):ItOk K ρ H (Itt K p) xs where
 item:=fun ρ2 H2 x i d e=>by
  obtain⟨v,hv,a⟩:=al.get e;refine⟨⟨vs,v,hs _ _ x,hv⟩,fun y H3 hy=>?_⟩;obtain⟨rfl,h2⟩:=hy;have:=h2 vs (hs _ _ x);rw[hv] at this;cases this;exact⟨.refl _ _,fun _ r=>⟨r,a.extG x⟩⟩
 done:=fun ρ2 H2 x i h=>⟨vs,hs _ _ x,by rw[al.length];exact h⟩
theorem zbgx (hl:DE X l f):DI X tg l (aH f):=zzw (zbip (zzx hl) (zbet hl)) fun τ H R hq0=>by
 obtain⟨ρ,σ,st,xs,st',a,rp,e,q⟩:=hq0;obtain⟨x,st1,e1,e⟩:=za e;cases x with
 | tup ys =>
  cases e;refine .inr ⟨ρ,σ,st,_,_,a,rp,e1,fun ρ1 H1 u x1 rp1 a1=>?_⟩;cases a1 with
  | tup h1 h2 h3=>exact⟨_,rfl,⟨_,SqT.of h1⟩,q _ _ _ x1 rp1 (zbie (fun ρ2 H2 x2=>SqT.of (x2.out h1 h2).1) h3)⟩
 | lst ys =>
  cases e;refine .inl ⟨ρ,σ,st,_,_,a,rp,e1,fun ρ1 H1 u x1 rp1 a1=>?_⟩;cases a1 with
  | lst h1 h2 h3=>exact⟨_,rfl,⟨_,SqL.of h1⟩,q _ _ _ x1 rp1 (zvi (fun ρ2 H2 x2=>SqL.of (x2.out h1 h2).1) h3)⟩
 | scr ys =>
  cases e;refine .inl ⟨ρ,σ,st,_,_,a,rp,e1,fun ρ1 H1 u x1 rp1 a1=>?_⟩;cases a1 with
  | scr h1 h3=>exact⟨_,rfl,⟨_,h1.sq⟩,q _ _ _ x1 rp1 (zvi (fun ρ2 H2 x2=>(h1.extG x2).sq) h3)⟩
 | _=>cases e
theorem zth (hg:Gl X "range")(hm:X.mg "range"=none)(ha:DA X [a] g)(hs:starEach [a] X.env=[(false, eval a X.env)]:=by rfl):DI X tg (.Call (.Name "range" p) [a] [] pos) (iR1 g) :=
 zzw (zsd hg hm ha hs) fun τ H R hq0=>by
 obtain⟨ρ,σ,st,xs,st',a,rp,e,q⟩:=hq0;obtain⟨x,st1,e1,e⟩:=za e;split at e
 ·split at e
  ·rename_i hj;cases e;refine⟨ρ,σ,st,_,_,a,rp,e1,fun ρ1 H1 u x1 rp1 a1=>?_⟩;obtain⟨w,rfl,a2⟩:=a1.one;cases a2;exact⟨_,rfl,hj.1,hj.2,q _ _ _ x1 rp1 zww⟩
  ·cases e
 ·cases e
end
noncomputable def iDict (f:SE):SA:=fun σ st=>(f σ st).bind fun x st1=>match x with
 | .ref n=>match st1[n]? with
  | some (.dT kvs)=>.ok (aJ (kvs.map (·.1))) (st1.set n (.fT kvs))
  | _=>.stuck
 | _=>.stuck
section
variable {X:Cx}{tg l:Expr}{f:SE}
theorem zbci (hl:DE X l f):DI X tg l (iDict f):=zzw (zzy hl) fun τ H R hq0=>by
 obtain⟨ρ,σ,st,xs,st',a,rp,e,q⟩:=hq0;obtain⟨x,st1,e1,e⟩:=za e;refine⟨ρ,σ,st,x,st1,a,rp,e1,fun ρ1 H1 u x1 rp1 a1=>?_⟩;split at e
 ·rename_i n;split at e
  ·rename_i kvs hn;cases e;obtain⟨p,rfl,hp,vs,g1,g2⟩:=zfa rp1 a1 hn (by intro z;cases z);refine⟨p,vs,kvs.map (·.1),rfl,g1,g2.keys,fun ob ps h1 h2=>?_⟩;have E:Ext ρ1 H1 ρ1 (upd H1 p (.frz ob (.dT vs))):=Ext.wr hp (zgs g1) _;have R:Rep X.K ρ1 (st1.set n (.fT kvs)) (upd H1 p (.frz ob (.dT vs))):=rp1.wr hp (zgs g1) ⟨vs,ob,zo,g2.ext E⟩;refine q _ _ _ (x1.trans E) R ⟨fun ρ2 H2 x2 i d e=>?_,fun ρ2 H2 x2 i h=>?_⟩
   ·have e2:(ps.map (·.2))[i]?=(kvs.map (·.1))[i]?:=by rw[h1]
    unfold aJ at e;rw[xct,← e2,xct] at e;cases hi:ps[i]? with
    | none=>rw[hi] at e;cases e
    | some x =>
     rw[hi] at e;cases e;refine⟨⟨(xbm.mp hi).1,x2.frz _ _ _ zo⟩,fun y H3 hy=>?_⟩;obtain⟨rfl,x',hx',rfl⟩:=hy;rw[hi] at hx';cases hx';have ht:=h2 x (xbx hi);have a3:At X.K ρ1 H1 (aL x.2) (.ref x.1):=.tup ht (zlt rp1 ht) (zhx _);exact⟨.refl _ _,fun _ r=>⟨r,(a3.ext E).extG x2⟩⟩
   ·have e2:=congrArg List.length h1;rw[xbe] at e2;unfold aJ at h;rw[xbe,← e2] at h;exact⟨h,x2.frz _ _ _ zo⟩
  ·cases e
 ·cases e
end
noncomputable def forF (bd:SG) (body:SS):List D->SS
 | [],σ,st=>.ok (.nx σ) st
 | x::xs,σ,st=>match bd x σ with
  | none=>.stuck
  | some σ1=>match body σ1 st with
   | .ok (.nx σ2) st2=>forF bd body xs σ2 st2
   | .ok (.ct σ2) st2=>forF bd body xs σ2 st2
   | .ok (.brk σ2) st2=>.ok (.nx σ2) st2
   | r=>r
noncomputable def sFor (it:SA) (bd:SG) (body:SS):SS:=fun σ st=>(it σ st).bind fun xs st1=>forF bd body xs σ st1
noncomputable def whileF (c:ST) (body:SS):Nat->SS
 | 0,_,_=>.stuck
 | n+1,σ,st=>(c σ st).bind fun b st1=>if b=true then(match body σ st1 with
  | .ok (.nx σ2) st2=>whileF c body n σ2 st2
  | .ok (.ct σ2) st2=>whileF c body n σ2 st2
  | .ok (.brk σ2) st2=>.ok (.nx σ2) st2
  | r=>r) else .ok (.nx σ) st1
noncomputable def wCap:Nat:=1000000
noncomputable def sWhile (c:ST) (body:SS):SS:=whileF c body wCap
theorem zuu {α:Type}{xs:List α}{i:Nat}(h:i < xs.length):∃x,xs[i]?=some x/\xs.drop i=x::xs.drop (i+1):=⟨xs[i],xbg h,xfb h⟩
section
variable {X:Cx}{tg iter c:Expr}{body:List Stmt}{it:SA}{bd:SG}{b:SS}{t:ST}{pos:Pos}
theorem zbgt (hp:PassesOwn (model X.prog X.w) X.A X.env X.xe)(hc:X.calm=true)(hi:DI X tg iter it)(hg:DG X tg bd)(hb:DSs X body b)(hs:∀x,foldedSetIterable iter X.env x=pure x:=by intro _;rfl) :
  DSt X (.For tg iter body [] pos) (sFor it bd b):=zry (zbeo hp hc hi hg hb hs) fun E τ H hq0=>by
 obtain⟨ρ,σ,st,fl,st',a,rp,e,q⟩:=hq0;obtain⟨xs,st1,e1,e⟩:=za e;refine⟨ρ,σ,st,xs,st1,a,rp,e1,fun ρ1 H1 J x1 rp1 ok=>?_⟩;have q1:=q.ext x1;refine⟨fun i m τ' H'=>i+m=xs.length/\∃ρ2 σ2 st2,Ext ρ1 H1 ρ2 H'/\AtS X.K ρ2 H' σ2 τ'/\Rep X.K ρ2 st2 H'/\forF bd b (xs.drop i) σ2 st2=.ok fl st',⟨xs.length,by lia,ρ1,σ,st1,.refl _ _,a.ext x1,rp1,e⟩,?_⟩;rintro i m τ' H' ⟨him,ρ2,σ2,st2,x2,a2,rp2,e2⟩;rcases xik i xs.length with hlt | hge
 ·obtain⟨x,hx,hd⟩:=zuu hlt;rw[hd] at e2;obtain⟨go,yl⟩:=ok.item ρ2 H' x2.toG i x hx;refine .inr ⟨go,fun τ3 H3=>∃ρ3 σ3 st3,Ext ρ1 H1 ρ3 H3/\AtS X.K ρ3 H3 σ3 τ3/\Rep X.K ρ3 st3 H3/\forF bd b (xs.drop (i+1)) σ3 st3=.ok fl st',fun τ3 H3 ⟨ρ3,σ3,st3,n1,n2,n3,n4⟩=>⟨m - 1,by lia,by lia,ρ3,σ3,st3,n1,n2,n3,n4⟩,fun y H3 hy=>?_⟩;obtain⟨y1,y4⟩:=yl y H3 hy;obtain⟨y2,y3⟩:=y4 _ rp2;unfold forF at e2;cases hbd:bd x σ2 with
  | none=>rw[hbd] at e2;cases e2
  | some σ1 =>
   rw[hbd] at e2;dsimp only at e2;have X3:=x2.trans y1;refine⟨ρ2,σ2,x,σ1,a2.ext y1,y3,hbd,fun τ4 a4=>?_⟩;cases hr:b σ1 st2 with
   | stuck=>rw[hr] at e2;cases e2
   | exc z w=>rw[hr] at e2;cases e2
   | ok fb st3 =>
    rw[hr] at e2;refine⟨ρ2,σ1,st2,fb,st3,a4,y2,hr,?_⟩;cases fb with
    | nx σ3=>exact fun ρ' H'' τ5 x5 rp5 a5=>⟨ρ',σ3,st3,X3.trans x5,a5,rp5,e2⟩
    | ct σ3=>exact fun ρ' H'' τ5 x5 rp5 a5=>⟨ρ',σ3,st3,X3.trans x5,a5,rp5,e2⟩
    | brk σ3 =>
     dsimp only at e2;cases e2;exact fun ρ' H'' τ5 x5 rp5 a5=>q1 _ _ _ (X3.trans x5) rp5 a5
    | ret v =>
     dsimp only at e2;cases e2;exact fun ρ' H'' u x5 rp5 a5=>q1 _ _ _ (X3.trans x5) rp5 a5
 ·rw[xif hge] at e2;unfold forF at e2;cases e2;exact .inl ⟨ok.done ρ2 H' x2.toG i hge,q1 _ _ _ x2 rp2 a2⟩
theorem zxf (hp:PassesOwn (model X.prog X.w) X.A X.env X.xe)(hc:DT X c t)(hb:DSs X body b):DSt X (.While c body [] pos) (sWhile t b):=zry (zvw hp hc hb) fun E τ H hq0=>by
 obtain⟨ρ,σ,st,fl,st',a,rp,e,q⟩:=hq0;unfold sWhile at e;generalize wCap=n at e;refine⟨fun m τ' H'=>∃ρ2 σ2 st2,Ext ρ H ρ2 H'/\AtS X.K ρ2 H' σ2 τ'/\Rep X.K ρ2 st2 H'/\whileF t b m σ2 st2=.ok fl st',⟨n,ρ,σ,st,.refl _ _,a,rp,e⟩,?_⟩;rintro m τ' H' ⟨ρ2,σ2,st2,x2,a2,rp2,e2⟩;cases m with
 | zero=>unfold whileF at e2;cases e2
 | succ m =>
  unfold whileF at e2;obtain⟨x,st3,e3,e4⟩:=za e2;refine⟨ρ2,σ2,st2,x,st3,a2,rp2,e3,fun ρ3 H3 x3 rp3=>?_⟩;have X3:=x2.trans x3;cases x with
  | false =>
   rw[if_neg (by decide)] at e4;cases e4;exact iteF (q _ _ _ X3 rp3 (a2.ext x3))
  | true =>
   rw[if_pos rfl] at e4;refine iteT ⟨fun τ4 H4=>∃ρ4 σ4 st4,Ext ρ H ρ4 H4/\AtS X.K ρ4 H4 σ4 τ4/\Rep X.K ρ4 st4 H4/\whileF t b m σ4 st4=.ok fl st',fun τ4 H4 hh=>⟨m,xiq m,hh⟩,?_⟩;cases hr:b σ2 st3 with
   | stuck=>rw[hr] at e4;cases e4
   | exc z w=>rw[hr] at e4;cases e4
   | ok fb st5 =>
    rw[hr] at e4;refine⟨ρ3,σ2,st3,fb,st5,a2.ext x3,rp3,hr,?_⟩;cases fb with
    | nx σ3=>exact fun ρ' H'' τ5 x5 rp5 a5=>⟨ρ',σ3,st5,X3.trans x5,a5,rp5,e4⟩
    | ct σ3=>exact fun ρ' H'' τ5 x5 rp5 a5=>⟨ρ',σ3,st5,X3.trans x5,a5,rp5,e4⟩
    | brk σ3 =>
     dsimp only at e4;cases e4;exact fun ρ' H'' τ5 x5 rp5 a5=>q _ _ _ (X3.trans x5) rp5 a5
    | ret v =>
     dsimp only at e4;cases e4;exact fun ρ' H'' u x5 rp5 a5=>q _ _ _ (X3.trans x5) rp5 a5
end
noncomputable def compF (bd:SG) (c:ST) (f:SE):List D->DS->Store->Res (List D)
 | [],_,st=>.ok [] st
 | x::xs,σ,st=>match bd x σ with
  | none=>.stuck
  | some σ1=>(c σ1 st).bind fun b st1=>if b=true then(f σ1 st1).bind fun y st2=>(compF bd c f xs σ1 st2).bind fun ys st3=>.ok (y::ys) st3 else compF bd c f xs σ1 st1
noncomputable def aT (k:Nat) (is:List Nat) (σ:DS):DS:=List.replicate k none++is.map fun i=>(σ[i]?).getD none
noncomputable def aG (it:SA) (k:Nat) (is:List Nat) (bd:SG) (c:ST) (f:SE):SE:=fun σ st=>(it σ st).bind fun xs st1=>if xs.length<=sizeLine then(compF bd c f xs (aT k is σ) st1).bind fun ys st2=>.ok (.lst ys) st2 else .stuck
noncomputable def aI:ST:=fun _ st=>.ok true st
theorem AtS.start {K:Fg}{ρ:Loc}{H:Hp}{σ:DS}{τ:St}(h:AtS K ρ H σ τ)(k:Nat)(is:List Nat):AtS K ρ H (aT k is σ) (startC k is τ):=by
 have app:∀{a c:DS} {b d:St},AtS K ρ H a b->AtS K ρ H c d->AtS K ρ H (a++c) (b++d):=fun h1 h2=>by
  induction h1 with
  | nil=>exact h2
  | cons r t ih=>exact .cons r ih
 refine app ?_ ?_
 ·induction k with
  | zero=>exact .nil
  | succ k ih=>exact .cons (fun d e=>nomatch e) ih
 ·induction is with
  | nil=>exact .nil
  | cons i is ih =>
   refine .cons (fun d e=>?_) ih;have e:(σ[i]?).getD none=some d:=e;have e':σ[i]?=some (some d):=by
    cases q:σ[i]? with
    | none=>rw[q] at e;cases e
    | some o=>rw[q] at e;exact congrArg some e
   obtain⟨u,hu,a⟩:=h.get e';exact⟨u,by show(τ[i]?).getD none=some u;rw[hu];rfl,a⟩
noncomputable def Loc.with (ρ:Loc) (p:Addr):Loc:=⟨ρ.m,p::ρ.g⟩
theorem zyt {ρ:Loc}{H:Hp}{p:Addr}{o:HO}(hp:H p=none):Mv ρ H (ρ.with p) (upd H p o):=⟨fun e n=>⟨by rw[zn (zh e hp)];exact e,n.1,fun z=>by
 rcases xbl.mp z with z | z
 ·exact zh e hp z
 ·exact n.2 z⟩,xbf _,fun _ _ _ e=>e⟩
theorem At.with {K:Fg}{ρ:Loc}{H:Hp}{p:Addr}{o:HO}(hp:H p=none){d:D}{v:V}(h:At K ρ H d v):At K (ρ.with p) (upd H p o) d v:=h.mv (zyt hp)
theorem zuo {ρ ρ':Loc}{H:Hp}{p:Addr}{o:HO}(hm:ρ'.m=ρ.m)(hg:p∈ρ.g)(hs:∀a,a∈ρ'.g->a∈ρ.g):Mv ρ H ρ' (upd H p o):=⟨fun e n=>⟨by rw[zn (by rintro rfl;exact n.2 hg)];exact e,by rw[hm];exact n.1,fun z=>n.2 (hs _ z)⟩,by rw[hm];exact xbf _,fun _ _ _ e=>by rw[hm] at e;exact e⟩
theorem At.grow {K:Fg}{ρ ρ':Loc}{H:Hp}{p:Addr}{o:HO}(hm:ρ'.m=ρ.m)(hg:p∈ρ.g)(hs:∀a,a∈ρ'.g->a∈ρ.g){d:D}{v:V}(h:At K ρ H d v):At K ρ' (upd H p o) d v:=h.mv (zuo hm hg hs)
theorem AtAll.grow {K:Fg}{ρ ρ':Loc}{H:Hp}{p:Addr}{o:HO}(hm:ρ'.m=ρ.m)(hg:p∈ρ.g)(hs:∀a,a∈ρ'.g->a∈ρ.g){d:List D}{v:List V}(h:AtAll K ρ H d v):AtAll K ρ' (upd H p o) d v:=h.mv (zuo hm hg hs)
theorem OAt.map {K:Fg}{ρ ρ':Loc}{H H':Hp}{a:Addr}{x:O}(k:∀d v,At K ρ H d v->At K ρ' H' d v)(fz:∀b ob u,H b=some (.frz ob u)->H' b=some (.frz ob u))(same:H' a=H a)(h:OAt K ρ H x a):OAt K ρ' H' x a:=by
 have ka:∀{d:List D} {v:List V},AtAll K ρ H d v->AtAll K ρ' H' d v:=fun {d v} h=>by
  induction d generalizing v with
  | nil=>cases h;exact .nil
  | cons x xs ih=>cases h with | cons a b=>exact .cons (k _ _ a) (ih b)
 cases x with
 | lst xs=>obtain⟨vs,q,r⟩:=h;exact⟨vs,by rw[same];exact q,ka r⟩
 | dT kvs=>obtain⟨vs,q,r⟩:=h;exact⟨vs,by rw[same];exact q,Paired.mapP r fun p q z=>⟨z.1,k _ _ z.2⟩⟩
 | fT kvs=>obtain⟨vs,ob,q,r⟩:=h;exact⟨vs,ob,by rw[same];exact q,Paired.mapP r fun p q z=>⟨z.1,k _ _ z.2⟩⟩
 | dI kvs=>obtain⟨vs,q,r⟩:=h;exact⟨vs,by rw[same];exact q,Paired.mapP r fun p q z=>⟨z.1,k _ _ z.2⟩⟩
 | dP ks=>obtain⟨vs,q,n,l,u,r⟩:=h;exact⟨vs,by rw[same];exact q,n,l,u,r.map k⟩
 | dead=>exact h.elim
 | tab=>obtain⟨c,ps,q,r⟩:=h;exact⟨c,ps,by rw[same];exact q,r.map fz⟩
theorem Rep.with {K:Fg}{ρ:Loc}{st:Store}{H:Hp}{p:Addr}(r:Rep K ρ st H)(hp:H p=none)(vs:List V):Rep K (ρ.with p) st (upd H p (.lst vs)) :=
 ⟨r.len,r.inj,fun m b y e1 e2=>by
  have q:=r.obj m b y e1 e2;obtain⟨u,hu⟩:=q.has;exact q.map (fun d v h=>h.with hp) (fun b ob u e=>by rw[zn (zh e hp)];exact e) (zn (zh hu hp)),fun a ha=>by
  rcases xbl.mp ha with rfl | ha
  ·exact⟨⟨vs,zo⟩,(zfi r hp).1⟩
  ·obtain⟨⟨ws,h1⟩,h2⟩:=r.gh a ha
   exact⟨⟨ws,by rw[zn (zh h1 hp)];exact h1⟩,h2⟩,r.live⟩
theorem Rep.grow {K:Fg}{ρ ρ':Loc}{st:Store}{H:Hp}{p:Addr}(r:Rep K ρ st H)(hm:ρ'.m=ρ.m)(hg:p∈ρ.g)(hs:∀a,a∈ρ'.g->a∈ρ.g)(vs:List V):Rep K ρ' st (upd H p (.lst vs)) :=
 ⟨by rw[hm];exact r.len,by rw[hm];exact r.inj,fun m b y e1 e2=>by
  rw[hm] at e1;refine(r.obj m b y e1 e2).map (fun d v h=>h.grow hm hg hs) (fun b ob u e=>by rw[zn (by rintro rfl;obtain⟨⟨_,z⟩,_⟩:=r.gh _ hg;rw[e] at z;cases z)];exact e) (zn ?_);rintro rfl;exact(r.gh b hg).2 (xbx e1),fun a ha=>by
  obtain⟨⟨ws,h1⟩,h2⟩:=r.gh a (hs a ha);refine⟨?_,by rw[hm];exact h2⟩;by_cases e:a=p
  ·subst e;exact⟨vs,zo⟩
  ·exact⟨ws,by rw[zn e];exact h1⟩,by rw[hm];exact r.live⟩
theorem AtS.map {K:Fg}{ρ ρ':Loc}{H H':Hp}{σ:DS}{τ:St}(k:∀d v,At K ρ H d v->At K ρ' H' d v)(h:AtS K ρ H σ τ):AtS K ρ' H' σ τ:=Paired.mapP h fun o v z d e=>by
 obtain⟨u,e1,a⟩:=z d e;exact⟨u,e1,k _ _ a⟩
section
variable {X:Cx}{tg iter elt:Expr}{ifs:List Expr}{it:SA}{bd:SG}{c:ST}{f:SE}{N:List Str}{k:Nat}{is:List Nat}{scope:Scope}{pos:Pos}
inductive CI (K:Fg) (bd:SG) (c:ST) (f:SE) (xs ys:List D) (st2:Store) (ρ1:Loc) (H1:Hp) (p:Addr) (i:Nat) (τ:St) (H':Hp):Prop where
 | mk {ρ2:Loc} {σ2:DS} {st3:Store} {acc:List D} {accV:List V} {zs:List D} (x2:ExtG ρ1 H1 ρ2 H') (hg:ρ2.g=p::ρ1.g) (hpp:H' p=some (.lst accV)) (hal:AtAll K ρ2 H' acc accV) (hli:acc.length<=i) (a2:AtS K ρ2 H' σ2 τ) (rp2:Rep K ρ2 st3 H') (e3:compF bd c f (xs.drop i) σ2 st3=.ok zs st2) (hac:acc++zs=ys):CI K bd c f xs ys st2 ρ1 H1 p i τ H'
theorem zbhn {K:Fg}{τ:St}{H:Hp}{Q:V->Hp->Prop}{ρ:Loc}{σ:DS}{st st1 st2:Store}{xs ys:List D}(a:AtS K ρ H σ τ)(rp:Rep K ρ st H)(e1:it σ st=.ok xs st1)(hlen:xs.length<=sizeLine)(e2:compF bd c f xs (aT k is σ) st1=.ok ys st2)
 (fin:∀ρ1 H1 p ρ2 H' accV,Ext ρ H ρ1 H1->Rep K ρ1 st1 H1->H1 p=none->ExtG ρ1 H1 ρ2 H'->ρ2.g=p::ρ1.g->H' p=some (.lst accV)->AtAll K ρ2 H' ys accV->Rep K ρ2 st2 H'->Q (.ref p) H'):tComp (iD K it) k is (gD K bd) (tDT K c) (tD K f) τ H Q:=by
 refine⟨ρ,σ,st,xs,st1,a,rp,e1,fun ρ1 H1 J x1 rp1 ok p hp=>?_⟩
 refine⟨fun i m τ' H'=>i+m=xs.length/\CI K bd c f xs ys st2 ρ1 H1 p i τ' H',
  ⟨xs.length,by lia,.mk ?_ rfl zo .nil (xec _) (((a.ext x1).start k is).map fun d v h=>h.with hp) (rp1.with hp []) e2 rfl⟩,?_⟩
 ·have E:Ext ρ1 H1 ρ1 (upd H1 p (.lst [])):=Ext.new hp _
  exact⟨E.len,E.old,E.keep,fun a h=>by
   rcases xbl.mp h with rfl | h
   ·exact .inr hp
   ·exact .inl h,E.frz⟩
 rintro i m τ' H' ⟨him,@⟨ρ2,σ2,st3,acc,accV,zs,x2,hg,hpp,hal,hli,a2,rp2,e3,hac⟩⟩;have hpg:p∈ρ2.g:=by rw[hg];exact xbw
 rcases xik i xs.length with hlt | hge
 ·obtain⟨x,hx,hd⟩:=zuu hlt;rw[hd] at e3;obtain⟨go,yl⟩:=ok.item ρ2 H' x2 i x hx
  refine .inr ⟨go,CI K bd c f xs ys st2 ρ1 H1 p (i+1),
   fun τ4 H4 hh=>⟨m - 1,by lia,by lia,hh⟩,fun y H3 hy=>?_⟩
  obtain⟨y1,y4⟩:=yl y H3 hy;obtain⟨y2,y3⟩:=y4 _ rp2;unfold compF at e3;cases hbd:bd x σ2 with
  | none=>rw[hbd] at e3;cases e3
  | some σ1 =>
   rw[hbd] at e3;dsimp only at e3;obtain⟨bb,st4,e4,e5⟩:=za e3;refine⟨ρ2,σ2,x,σ1,a2.ext y1,y3,hbd,fun τ4 a4=>?_⟩;have hpm:some p∉ρ2.m:=(rp2.gh p hpg).2;have hpp3:=(y1.keep p _ hpp hpm).1;refine⟨ρ2,σ1,st3,bb,st4,a4,y2,e4,fun ρ5 H5 x5 rp5=>?_⟩;have hpp5:=(x5.keep p _ hpp3 hpm).1;have hal5:=(hal.ext y1).ext x5;have g5:ρ5.g=p::ρ1.g:=x5.gho.trans hg;cases bb with
   | false =>
    rw[if_neg (by decide)] at e5;exact iteF (.mk ((x2.then y1).then x5) g5 hpp5 hal5 (xgg hli) (a4.ext x5) rp5 e5 hac)
   | true =>
    rw[if_pos rfl] at e5;obtain⟨w,st6,e6,e7⟩:=za e5;obtain⟨zs',st7,e8,e9⟩:=za e7;cases e9;refine iteT ⟨ρ5,σ1,st4,w,st6,a4.ext x5,rp5,e6,fun ρ6 H6 u x6 rp6 a6=>?_⟩;have hpm5:some p∉ρ5.m:=(x5.keep p _ hpp3 hpm).2;have hpp6:=(x6.keep p _ hpp5 hpm5).1;have g6:ρ6.g=p::ρ1.g:=x6.gho.trans g5;have hp6:p∈ρ6.g:=by rw[g6];exact xbw
    have hl6:accV.length<=i:=by rw[hal.length];exact hli
    refine⟨accV,hpp6,xcx hl6 (xbh hlt hlen),.mk (acc:=acc++[w]) (accV:=accV++[u]) ?_ g6 zo ?_ (by rw[xbk];exact xfg hli) ?_ (rp6.grow rfl hp6 (fun _ h=>h) _) e8 (by rw[← hac,xci];rfl)⟩
    ·have G:=((x2.then y1).then x5).then x6;refine⟨G.len,G.old,fun b o e n=>?_,G.gho,fun b ob uu e=>?_⟩
     ·rw[zn (zh e hp)];exact G.keep b o e n
     ·rw[zn (zh e hp)];exact G.frz b ob uu e
    ·exact((hal5.ext x6).append (.cons a6 .nil)).grow rfl hp6 (fun _ h=>h)
    ·exact(a4.ext (x5.trans x6)).map fun d v h=>h.grow rfl hp6 (fun _ h=>h)
 ·rw[xif hge] at e3;unfold compF at e3;cases e3;rw[xes] at hac;subst hac;exact .inl ⟨ok.done _ _ x2 i hge,fin _ _ _ _ _ _ x1 rp1 hp x2 hg hpp hal rp2⟩
theorem zbhm {K:Fg}:∀τ H Q,tD K (aG it k is bd c f) τ H Q->tComp (iD K it) k is (gD K bd) (tDT K c) (tD K f) τ H Q:=fun τ H Q hq0=>by
 obtain⟨ρ,σ,st,v,st',a,rp,e,q⟩:=hq0;obtain⟨xs,st1,e1,e⟩:=za e;split at e
 ·rename_i hlen;obtain⟨ys,st2,e2,e⟩:=za e;cases e;refine zbhn a rp e1 hlen e2 fun ρ1 H1 p ρ2 H' accV x1 rp1 hp x2 hg hpp hal rp2=>?_
  have hpg:p∈ρ2.g:=by rw[hg];exact xbw
  have hpm:some p∉ρ2.m:=(rp2.gh p hpg).2;have self:upd H' p (.lst accV)=H':=zvl hpp;have sub:∀a,a∈(⟨ρ2.m,ρ1.g⟩:Loc).g->a∈ρ2.g:=fun b hb=>by rw[hg];exact xbp _ hb
  have E:Ext ρ1 H1 ⟨ρ2.m,ρ1.g⟩ H':=⟨x2.len,x2.old,x2.keep,rfl,x2.frz⟩
  have R:=rp2.grow (ρ':=⟨ρ2.m,ρ1.g⟩) rfl hpg sub accV;have L:=AtAll.grow (ρ:=ρ2) (ρ':=⟨ρ2.m,ρ1.g⟩) (o:=.lst accV) rfl hpg sub hal;rw[self] at R L;refine q _ _ _ (x1.trans E) R (.lst hpp ⟨hpm,fun z=>?_⟩ L);obtain⟨⟨ws,h1⟩,_⟩:=rp1.gh p z;rw[hp] at h1;cases h1
 ·cases e
theorem zbhk (hcalm:X.calm=true)(hi:DI X tg iter it)(hg:∀cl C fp s H,DG (cxC X N scope cl C fp s H) tg bd)(hc:∀cl C fp s H,PIf (cxC X N scope cl C fp s H) ifs (tDT X.K c))(he:∀cl C fp s H,DE (cxC X N scope cl C fp s H) elt f)
 (S:CompScope X N k is scope)(hs:∀x,foldedSetIterable iter X.env x=pure x:=by intro _;rfl):DE X (.ListComp elt [⟨tg,iter,ifs,0⟩] scope pos) (aG it k is bd c f):=zfg (zbae hcalm hi hg hc he S hs) zbhm
theorem zbcg {X:Cx}:PIf X [] (tDT X.K aI):=fun aU s σ H Q I hq0=>by
 obtain⟨ρ,σ',st,v,st',a,rp,e,q⟩:=hq0;cases e;exact zzu aU s σ H Q I (q _ _ (.refl _ _) rp)
theorem zbcf {X:Cx}{c:Expr}{t:ST}(h:DT X c t):PIf X [c] (tDT X.K t):=zzt h
end
end Dd
namespace Dd
open PySem L2 PyProof.Rows
noncomputable def spD (K:Fg) (np:Nat) (F:DFn):Sp:=fun vs H Q _=>∃ρ ds st v st',AtAll K ρ H ds vs/\Rep K ρ st H/\F ds st=.ok v st'/\vs.length=np/\∀ρ' H' u,Ext ρ H ρ' H'->Rep K ρ' st' H'->At K ρ' H' v u->Q u H'
noncomputable def CalD (P:Program) (w:World) (K:Fg) (mg:Str->Option Value) (base:Heap) (x:Str) (k:Nat) (ps:List Str) (F:DFn):Prop:=Callee P w K mg base x k ps (spD K ps.length F)
noncomputable def fnD (n np:Nat) (body:SS):DFn:=fun ds st=>if ds.length=np then(match body (ds.map some++List.replicate (n - np) none) st with
 | .ok (.ret v) st'=>.ok v st'
 | .ok (.nx _) st'=>.ok .non st'
 | .exc x st'=>.exc x st'
 | _=>.stuck) else .stuck
section
variable {X:Cx}{x:Str}{k:Nat}{ps:List Str}{F:DFn}{p pos:Pos}{e:Expr}{es:List Expr}{g:SA}
theorem zbho {K:Fg}{np:Nat}{f:SA}(hn:∀ds st v st',F ds st=.ok v st'->ds.length=np):∀τ H Q,tD K (aE F f) τ H Q->tCall (spD K np F) [] E0 (tDA K f) τ H Q:=fun τ H Q hq0=>by
 obtain⟨ρ,σ,st,v,st',a,rp,e,q⟩:=hq0;obtain⟨x,st1,e1,e⟩:=za e;refine⟨ρ,σ,st,x,st1,a,rp,e1,fun ρ1 H1 u x1 rp1 a1=>?_⟩;show spD K np F (u++[]) H1 Q E0;rw[xes];exact⟨ρ1,x,st1,v,st',a1,rp1,e,by rw[a1.length];exact hn _ _ _ _ e,fun ρ' H' w x2=>q ρ' H' w (x1.trans x2)⟩
theorem zbhl (c:CalD X.prog X.w X.K X.mg X.base x k ps F)(hn:∀ ds st v st', F ds st=.ok v st'->ds.length=ps.length)(hr:Room k X.A)(hg:Gl X x)(ha:DA X (e::es) g)(hdb:(x==("__debug__" : Str))=false:=by decide)
 (he:starEach (e::es) X.env=(false,eval e X.env)::starEach es X.env:=by rfl)(hpl:(backTo pos (starEach es X.env)).any (·.1)=false:=by rfl) :
 DE X (.Call (.Name x p) (e::es) [] pos) (aE F g):=zfg (zwg c hr hg ha hdb he hpl) (zbho hn)
theorem zbbp {n np:Nat}{b:SS}{ds:List D}{st st':Store}{v:D}(h:fnD n np b ds st=.ok v st'):ds.length=np:=by
 unfold fnD at h;split at h
 ·assumption
 ·cases h
end
theorem AtAll.some {K:Fg}{ρ:Loc}{H:Hp}:∀{ds:List D} {vs:List V},AtAll K ρ H ds vs->AtS K ρ H (ds.map Option.some) (vs.map Option.some)
 | _,_,.nil=>.nil
 | _,_,.cons a b=>.cons (fun d e=>by cases e;exact⟨_,rfl,a⟩) (AtAll.some b)
theorem AtS.append {K:Fg}{ρ:Loc}{H:Hp}:∀{a c:DS} {b d:L2.St},AtS K ρ H a b->AtS K ρ H c d->AtS K ρ H (a++c) (b++d)
 | _,_,_,_,.nil,h=>h
 | _,_,_,_,.cons r t,h=>.cons r (AtS.append t h)
theorem AtS.nones {K:Fg}{ρ:Loc}{H:Hp}:∀n,AtS K ρ H (List.replicate n none) (List.replicate n none)
 | 0=>.nil
 | n+1=>.cons (fun d e=>nomatch e) (AtS.nones n)
theorem zbdb {K:Fg}{N:List Str}{np:Nat}{b:SS}{vs:List V}{H:Hp}{Q:VK}{E:XK}(h:spD K np (fnD N.length np b) vs H Q E):tDS K b {nx:=fun _ H'=>Q .non H',rt:=Q} (L2.start N vs) H:=by
 obtain⟨ρ,ds,st,v,st',a,rp,e,hl,q⟩:=h;have hd:ds.length=np:=by rw[← a.length];exact hl
 unfold fnD at e;rw[if_pos hd] at e;have as:AtS K ρ H (ds.map Option.some++List.replicate (N.length - np) none) (L2.start N vs):=by
  unfold L2.start;rw[hl];exact a.some.append (.nones _)
 refine⟨ρ,ds.map Option.some++List.replicate (N.length - np) none,st,?_⟩;cases hr:b (ds.map Option.some++List.replicate (N.length - np) none) st with
 | stuck=>rw[hr] at e;cases e
 | exc z w=>rw[hr] at e;cases e
 | ok fl st1 =>
  rw[hr] at e;cases fl with
  | ret w =>
   dsimp only at e;cases e;exact⟨.ret v,st',as,rp,rfl,fun ρ' H' u x r t=>q ρ' H' u x r t⟩
  | nx σ =>
   dsimp only at e;cases e;exact⟨.nx σ,st',as,rp,rfl,fun ρ' H' τ x r t=>q ρ' H' .non x r .non⟩
  | brk σ=>cases e
  | ct σ=>cases e
theorem zbcy {P:Program}{w:World}{K:Fg}{mg:Str->Option Value}{base h:Heap}{x:Str}{st:Stmt}{N ps:List Str}{k:Nat}{b:SS}(T:TopF K x st)(X:K.In h)(G:h.Ns mainGlobals mg)(S:FnScope N ps (defScope st))
  (bd:∀(kV doc pm:Value) (an:Option Addr) (cdv ct:Value) (us:List Value),us.length=ps.length->bindArgs (W.fnOf x x (defArgs st) (defBody st) (defScope st) .none kV doc pm an cdv ct) ⟨us,[]⟩=pure (ps.zip us))
  (hbody:∀(f:Addr) (cdv:Value) (A:Around) (outer:List Env) (s:Shared) (H:Hp) (E:XK),Room k (A.deeper (envOfC x (defScope st) s.heap.objs.size f cdv)) ->
   DSs (cxOf CX0 P w K mg base N x (defScope st) f cdv A outer s H E).nox (defBody st) b):CalD P w K mg base x (k+1) ps (fnD N.length ps.length b) :=
 ztp T X G S bd (fun vs H Q E hh=>by obtain⟨ρ,ds,st,v,st',a,rp,e,hl,q⟩:=hh;exact hl) fun f cdv A outer s H vs Q E hr hh=>⟨_,hbody f cdv A outer s H E hr,zbdb hh⟩
noncomputable def spLaw (K:Fg):Sp:=fun vs H Q _=>∃(a:Addr) (ns:List Int),vs=[.ref a]/\SqL K H a (ns.map V.int)/\ns.length<=63/\∀H',Q (.bl true) H'
theorem zbfq {P:Program}{w:World}{K:Fg}{mg:Str->Option Value}{base:Heap}{st:Stmt}{N ps:List Str}{k:Nat}{b:SS}{f:Addr}{fd:FuncData}(F:Fun K "law" "law" st f fd)(S:FnScope N ps (defScope st))(hp:ps.length=1)
  (hbody:∀(cdv:Value) (A:Around) (outer:List Env) (s:Shared) (H:Hp) (E:XK), Room k (A.deeper (envOfC "law" (defScope st) s.heap.objs.size f cdv)) ->
   DSs (cxOf CX0 P w K mg base N "law" (defScope st) f cdv A outer s H E).nox (defBody st) b)
  (holds:∀ns:List Int,ns.length<=63->∃st',fnD N.length 1 b [.scr (ns.map .int)] []=.ok (.bl true) st'):FnOk P w K mg base CX0 (k+1) f fd ps (spLaw K):=by
 refine F.ok S (fun vs H Q E hh=>?_) (fun cdv A outer s H vs Q E hr hh=>⟨_,hbody cdv A outer s H E hr,?_⟩)
 ·obtain⟨a,ns,rfl,_⟩:=hh;exact hp.symm
 ·obtain⟨a,ns,rfl,hS,hl,q⟩:=hh;obtain⟨st',e⟩:=holds ns hl;refine zbdb (np:=1) (E:=E) ⟨⟨[],[]⟩,[.scr (ns.map .int)],[],_,st',.cons (.scr ?_ (zhx ns)) .nil,⟨rfl,fun n m a e _=>by simp at e,fun n a o e _=>by simp at e,fun a h=>(by cases h),fun n o e _=>by simp at e⟩,e,rfl,fun ρ' H' u x r t=>?_⟩
  ·rcases hS with h | h
   ·exact .inl ⟨h,by simp[Out]⟩
   ·exact .inr fun H'=>.inr h
  ·cases t;exact q H'
end Dd
namespace Dd
open PySem L2
noncomputable def oNeg:D->Store->Res D:=fun x st=>match x with
 | .int i=>.ok (.int (-i)) st
 | _=>.stuck
noncomputable def sStuck:SS:=fun _ _=>.stuck
noncomputable def tru (st:Store):D->Option Bool
 | .non=>some false
 | .bl b=>some b
 | .int i=>some (i != 0)
 | .tup xs=>some !xs.isEmpty
 | d=>(asL st d).map fun xs=>!xs.isEmpty
noncomputable def eTru (f:SE):ST:=fun σ st=>(f σ st).bind fun v st1=>match tru st1 v with
 | some b=>.ok b st1
 | none=>.stuck
theorem zjf {K:Fg}{ρ:Loc}{H:Hp}{ds:List D}{vs:List V}(h:AtAll K ρ H ds vs):ds.isEmpty=vs.isEmpty:=by
 cases h<;>rfl
theorem zbdv {K:Fg}{ρ:Loc}{st:Store}{H:Hp}(rp:Rep K ρ st H){d:D}{u:V}{b:Bool}(a:At K ρ H d u)(e:tru st d=some b):TruV K u H b:=by
 unfold tru at e;split at e
 ·cases a;cases e;exact rfl
 ·cases a;cases e;exact rfl
 ·cases a;cases e;exact rfl
 ·cases e;cases a with
  | tup h1 h2 h3=>exact .inr (.inl ⟨_,SqT.of h1,by rw[zjf h3]⟩)
 ·obtain⟨xs,h0,rfl⟩:=xdl.mp e;obtain⟨p,vs,rfl,h1,h2⟩:=zfe rp a h0;exact .inl ⟨_,SqL.of h1,by rw[zjf h2]⟩
section
variable {X:Cx}{a b c e:Expr}{f f' f'':SE}{pos:Pos}{sm:Stmt}
theorem zbku (h:DE X a f):DE X (.UnaryOp .USub a pos) (eUn oNeg f):=zfg (zbjp zbds h) fun τ H Q hq0=>by
 obtain⟨ρ,σ,st,v,st',at',rp,e,q⟩:=hq0;obtain⟨x,st1,e1,e⟩:=za e;refine⟨ρ,σ,st,x,st1,at',rp,e1,fun ρ1 H1 u x1 rp1 a1=>?_⟩;cases x<;>try (cases e;done)
 cases e;cases a1;exact⟨_,rfl,q _ _ _ x1 rp1 (.int _)⟩
theorem zxh:DSt X sm sStuck:=fun aU s σ H E I ⟨ρ,σ',st,fl,st',a,rp,e,q⟩=>by cases e
theorem zbgl (h:DE X a f)(he:∀whole,isTrue a X.env whole=(do let v ← whole;standAt a.pos;holding [v] (truthy v)):=by intro _;rfl):DT X a (eTru f):=zbdl (zvu h he) fun τ H Q hq0=>by
 obtain⟨ρ,σ,st,v,st',at',rp,e,q⟩:=hq0;obtain⟨x,st1,e1,e⟩:=za e;refine⟨ρ,σ,st,x,st1,at',rp,e1,fun ρ1 H1 u x1 rp1 a1=>?_⟩;split at e
 ·rename_i bb hb;cases e;exact⟨_,zbdv rp1 a1 hb,q _ _ x1 rp1⟩
 ·cases e
end
end Dd
namespace Dd
open PySem PySem.Spec PyProof.Rows L2
section
variable {X:Cx}{l:Expr}{f:SE}{elts:List Expr}{k j:Nat}{tpos p pos kpos cpos:Pos}
end
end Dd
namespace Dd
open PySem L2
noncomputable def bInt:List D->Store->Res D:=fun xs st=>match xs with
 | [.int i]=>.ok (.int i) st
 | [.bl k]=>.ok (.int (if k then 1 else 0)) st
 | _=>.stuck
theorem zbde {K:Fg}:CaD K bInt (fun xs H Q=>(∃i,xs=[.int i]/\Q (.int i) H)\/∃k,xs=[.bl k]/\Q (.int (if k then 1 else 0)) H):=fun ρ H st xs us z st' Q rp aa e q=>by
 unfold bInt at e;split at e
 ·cases e;obtain⟨u,rfl,a⟩:=aa.one;cases a;exact .inl ⟨_,rfl,q _ _ _ (.refl _ _) rp (.int _)⟩
 ·cases e;obtain⟨u,rfl,a⟩:=aa.one;cases a;exact .inr ⟨_,rfl,q _ _ _ (.refl _ _) rp (.int _)⟩
 ·cases e
noncomputable def eCompM (it:SA) (k:Nat) (is:List Nat) (bd:SG) (c:ST) (f:SE):SE:=fun σ st=>(it σ st).bind fun xs st1=>if xs.length<=sizeLine then(compF bd c f xs (aT k is σ) st1).bind fun ys st2=>.ok (.ref st2.length) (st2++[.lst ys]) else .stuck
section
variable {X:Cx}{tg iter elt:Expr}{ifs:List Expr}{it:SA}{bd:SG}{c:ST}{f:SE}{N:List Str}{k:Nat}{is:List Nat}{scope:Scope}{pos:Pos}
end
noncomputable def plainE:Expr->Bool
 | .Starred _ _=>false
 | _=>true
theorem zct {e:Expr}{es:List Expr}{env:Env}(h:plainE e=true):starEach (e::es) env=(false,eval e env)::starEach es env:=by
 cases e<;>first | rfl | cases h
theorem zxl {X:Cx}{e:Expr}{es:List Expr}{f:SE}{g:SA}(ha:DE X e f)(hr:DA X es g)(hp:plainE e=true:=by rfl):DA X (e::es) (aB f g):=zbcn ha hr (zct hp)
noncomputable def bBest (gt:Bool):List D->Store->Res D:=fun xs st=>match xs with
 | [x]=>match (seqOf st x).bind asInts with
  | some (n::ns)=>.ok (.int (bestI gt n ns)) st
  | _=>.stuck
 | _=>.stuck
theorem zbdf {K:Fg}{gt:Bool}:CaD K (bBest gt) (rBest K gt):=fun ρ H st xs us z st' Q rp aa e q=>by
 unfold bBest at e;split at e
 ·split at e
  ·rename_i n ns h;cases e;obtain⟨ys,h0,h⟩:=xeu.mp h;obtain⟨u,rfl,a⟩:=aa.one;obtain⟨p,vs,rfl,h1,h2⟩:=zfr rp a h0;have e:=zco h2 h;subst e;exact⟨p,n,ns,rfl,h1,q _ _ _ (.refl _ _) rp (.int _)⟩
  ·cases e
 ·cases e
noncomputable def pairsF:List D->List D->List D
 | x::xs,y::ys=>.tup [x,y]::pairsF xs ys
 | _,_=>[]
noncomputable def iZipT (g:SA):SA:=fun σ st=>(g σ st).bind fun xs st1=>match xs with
 | [.tup a,.tup b]=>.ok (pairsF a b) st1
 | _=>.stuck
theorem zit:∀{xs ys:List D} {i:Nat} {d:D},(pairsF xs ys)[i]?=some d->∃x y,xs[i]?=some x/\ys[i]?=some y/\d=.tup [x,y]
 | [],_,_,_,h=>by simp[pairsF] at h
 | _::_,[],_,_,h=>by simp[pairsF] at h
 | x::xs,y::ys,0,d,h=>by
  simp[pairsF] at h;exact⟨x,y,rfl,rfl,h.symm⟩
 | x::xs,y::ys,i+1,d,h=>by
  simp only[pairsF,xjl] at h;obtain⟨x',y',h1,h2,h3⟩:=zit h;exact⟨x',y',by simpa using h1,by simpa using h2,h3⟩
theorem zcv:∀{xs ys:List D},(pairsF xs ys).length=min xs.length ys.length
 | [],_=>by simp[pairsF]
 | _::_,[]=>by simp[pairsF]
 | _::xs,_::ys=>by simp[pairsF,zcv (xs:=xs) (ys:=ys)]
section
variable {X:Cx}{a b:Expr}{g:SA}{elts:List Expr}{k:Nat}{tpos p pos:Pos}
theorem zbgw (hg:Gl X "zip")(hm:X.mg "zip"=none)(ha:DA X [a, b] g)(hs:starEach [a, b] X.env=[(false, eval a X.env),(false, eval b X.env)]:=by rfl)(hs2:starEach [b] X.env=[(false, eval b X.env)]:=by rfl) :
  DI X (.Tuple elts k tpos) (.Call (.Name "zip" p) [a, b] [] pos) (iZipT g):=zzw (zbes hg hm ha hs hs2) fun τ H R hq0=>by
 obtain⟨ρ,σ,st,xs,st',a,rp,e,q⟩:=hq0;obtain⟨x,st1,e1,e⟩:=za e;refine⟨ρ,σ,st,x,st1,a,rp,e1,fun ρ1 H1 u x1 rp1 a1=>?_⟩;split at e
 ·rename_i as bs;cases e;obtain⟨u1,u2,rfl,b1,b2⟩:=a1.two;cases b1 with
  | tup h1 h2 h3 =>
   cases b2 with
   | tup k1 k2 k3 =>
    refine⟨_,_,rfl,⟨_,SqT.of h1⟩,⟨_,SqT.of k1⟩,q _ _ _ x1 rp1 ⟨fun ρ2 H2 x2 i d e=>?_,fun ρ2 H2 x2 i h=>?_⟩⟩
    ·obtain⟨x',y',ex,ey,rfl⟩:=zit e;obtain⟨v1,hv1,av1⟩:=h3.get ex;obtain⟨v2,hv2,av2⟩:=k3.get ey;refine⟨⟨_,_,v1,v2,SqT.of (x2.out h1 h2).1,SqT.of (x2.out k1 k2).1,hv1,hv2⟩,fun y H3 hy=>?_⟩;obtain⟨p,hp,rfl,hH⟩:=hy;rw[hH _ _ _ _ (SqT.of (x2.out h1 h2).1) (SqT.of (x2.out k1 k2).1) hv1 hv2];exact⟨Ext.new hp _,fun st rp2=>⟨rp2.new hp _,At.newT rp2 hp (.cons (av1.extG x2) (.cons (av2.extG x2) .nil))⟩⟩
    ·rw[zcv] at h;exact⟨_,_,SqT.of (x2.out h1 h2).1,SqT.of (x2.out k1 k2).1,by rw[h3.length,k3.length];lia⟩
 ·cases e
end
noncomputable def sSetG (bd:SG) (f:SE):SS:=fun σ st=>(f σ st).bind fun v st1=>match bd v σ with
 | some σ1=>.ok (.nx σ1) st1
 | none=>.stuck
end Dd
namespace Dd
open PySem L2 PyProof.Rows
structure JE (X:Cx) (e:Expr) (f:SE):Prop where out:DE X e f
structure JT (X:Cx) (e:Expr) (f:ST):Prop where out:DT X e f
structure JW (X:Cx) (e:Expr) (f:ST):Prop where out:DW X e f
structure JA (X:Cx) (e:List Expr) (f:SA):Prop where out:DA X e f
structure JS (X:Cx) (s:Stmt) (f:SS):Prop where out:DSt X s f
structure JB (X:Cx) (s:List Stmt) (f:SS):Prop where out:DSs X s f
structure JO (X:Cx) (e:Option Expr) (f:DS->Store->Res (Option Int)):Prop where out:DO X e f
structure JG (X:Cx) (e:Expr) (b:SG):Prop where out:DG X e b
structure JGs (X:Cx) (e:List Expr) (b:List D->DS->Option DS):Prop where out:DGs X e b
structure JI (X:Cx) (tg iter:Expr) (f:SA):Prop where out:DI X tg iter f
structure JIf (X:Cx) (ifs:List Expr) (c:ST):Prop where out:PIf X ifs (tDT X.K c)
structure JC (X:Cx) (op:CmpOp) (a b:Expr) (f:SE):Prop where out:PC X op a b (tD X.K f)
theorem JW.pt {X:Cx}{e:Expr}{t:ST}(h:JW X e t):JT X e t:=⟨PW.pt h.out⟩
section
variable {X:Cx}
theorem zbha {e:Expr}{i:Nat}(h:PE X e (tVar i)):JE X e (aA i):=⟨zbkq h⟩
theorem zks {e:Expr}{v:V}{d:D}(h:PE X e (tC v))(k:∀ρ H,At X.K ρ H d v):JE X e (eC d):=⟨zbhj h k⟩
theorem zc {i j pos}:JE X (.Constant (.int i) j pos) (eC (.int i)):=⟨zbkw⟩
theorem zux {b j pos}:JE X (.Constant (.bool b) j pos) (eC (.bl b)):=⟨d_bl⟩
end
section
variable {X:Cx}{a b c:Expr}{f f' f'':SE}{pos:Pos}
theorem zey {op:Operator}{r:R2}{g:D->D->Store->Res D}(ho:OpR X (binaryOp op) r)(hr:OpD X.K g r)(ha:JE X a f)(hb:JE X b f'):JE X (.BinOp a op b pos) (aS g f f'):=⟨d_op ho hr ha.out hb.out⟩
theorem zkt {op:CmpOp}{r:R2}{g:D->D->Store->Res D}(ho:OpR X (compareOp op) r)(hr:OpD X.K g r)(ha:JE X a f)(hb:JE X b f')(hm:behindInMarks op b=false):JE X (.Compare a [op] [b] pos) (aS g f f'):=⟨zbkx ho hr ha.out hb.out hm⟩
theorem zbs {op:CmpOp}{r:R2}{g:D->D->Store->Res D}(ho:OpR X (compareOp op) r)(hr:OpD X.K g r)(ha:JE X a f)(hb:JE X b f')(hm:behindInMarks op b=false):JT X (.Compare a [op] [b] pos) (eB (aS g f f')):=⟨zbgo ho hr ha.out hb.out hm⟩
end
section
variable {X:Cx}{a b:Expr}{rest:List Expr}{f f':SE}{t t':ST}{pos:Pos}
theorem zxn {op}(h:JE X a f):JE X (.BoolOp op [a] pos) f:=⟨zbks h.out⟩
theorem zxt (ha:JE X a f)(hb:JE X (.BoolOp .And (b::rest) pos) f'):JE X (.BoolOp .And (a::b::rest) pos) (eAnd f f'):=⟨zbky ha.out hb.out⟩
theorem zxo (ha:JE X a f):JE X (.UnaryOp .Not a pos) (eNot f):=⟨zbkt ha.out⟩
theorem zmg {op}(h:JT X a t)(hop:op=.And\/op=.Or):JW X (.BoolOp op [a] pos) t:=⟨zbgk h.out hop⟩
theorem zte (ha:JT X a t)(hb:JW X (.BoolOp .Or (b::rest) pos) t'):JW X (.BoolOp .Or (a::b::rest) pos) (bOr t t'):=⟨zbkm ha.out hb.out⟩
theorem zgz (ha:JT X a t):JT X (.UnaryOp .Not a pos) (bNot t):=⟨zbgm ha.out⟩
end
section
variable {X:Cx}{e:Expr}{es:List Expr}{f:SE}{g:SA}{pos:Pos}
theorem zex :JA X [] aC:=⟨zbgz⟩
theorem zif {x1}(h:JA X es g):JE X (.Tuple es x1 pos) (aR g):=⟨zbkr h.out⟩
theorem zig (h:JA X es g):JE X (.List es pos) (eLst g):=⟨zbkv h.out⟩
theorem zha (h:JA X es g):JE X (.List es pos) (eLstM g):=⟨zbhd h.out⟩
end
section
variable {X:Cx}{a b e:Expr}{f f':SE}{pos:Pos}{lo hi:Option Expr}{l h:DS->Store->Res (Option Int)}
theorem zdu :JO X none pNone:=⟨zbce⟩
theorem zdt (he:JE X e f):JO X (some e) (pSome f):=⟨zbcd he.out⟩
theorem zoa (ha:JE X a f)(hb:JE X b f')(hs:PlainIx b):JE X (.Subscript a b pos) (aS oIx f f'):=⟨d_ix ha.out hb.out hs⟩
theorem zxm {p2:Pos}(he:JE X e f)(hl:JO X lo l)(hu:JO X hi h):JE X (.Subscript e (.Slice lo hi none p2) pos) (eSl f l h):=⟨d_sl he.out hl.out hu.out⟩
end
section
variable {X:Cx}{x:Str}{p pos:Pos}{e:Expr}{es:List Expr}{f:SA}{id T:String}{r:List V->Hp->VK->Prop}{g:List D->Store->Res D}
theorem zl (hc:CallR X (.builtin id) r)(hr:CaD X.K g r)(hg:Gl X x)(hm:X.mg x=none)(hv:bootBuiltins x=some (.builtin id))(ha:JA X (e::es) f)(hn:x≠"__name__":=by decide)(hdb:(x==("__debug__" : Str))=false:=by decide)(he:starEach (e::es) X.env=(false, eval e X.env)::starEach es X.env:=by rfl)(hpl:(backTo pos (starEach es X.env)).any (·.1)=false:=by rfl):JE X (.Call (.Name x p) (e::es) [] pos) (aE g f):=⟨zbcs hc hr hg hm hv ha.out hn hdb he hpl⟩
theorem zbg (hc:CallR X (.type T) r)(hr:CaD X.K g r)(hg:Gl X x)(hm:X.mg x=none)(hv:bootBuiltins x=some (.type T))(ha:JA X (e::es) f)(hn:x≠"__name__":=by decide)(hdb:(x==("__debug__" : Str))=false:=by decide)(he:starEach (e::es) X.env=(false, eval e X.env)::starEach es X.env:=by rfl)(hpl:(backTo pos (starEach es X.env)).any (·.1)=false:=by rfl):JE X (.Call (.Name x p) (e::es) [] pos) (aE g f):=⟨zxr hc hr hg hm hv ha.out hn hdb he hpl⟩
end
section
variable {X:Cx}{a b c o i e value f':Expr}{f g h:SE}{pos pos' apos cpos:Pos}
theorem zuw :JE X (.Dict [] [] pos) eDNew:=⟨zbhh⟩
theorem zbfc (hu:X.A.units+1 < cLine)(hi:JE X i g)(ho:JE X o f):JC X .In i o (aS (oDIn false) g f):=⟨zbjs hu hi.out ho.out⟩
theorem zbgn {op:CmpOp}{t:SE}(h:JC X op a b t)(h1:behindInMarks op b=false:=by first | exact nobehind _ (by decide) (by decide) | rfl):JT X (.Compare a [op] [b] pos) (eB t):=⟨zbkn h.out h1⟩
theorem zbcp (hu:X.A.units+1 < cLine)(ho:JE X o f)(hi:JE X i g)(hs:NoSl i):JE X (.Subscript o i pos) (aS oDGet f g):=⟨zbhi hu ho.out hi.out hs⟩
theorem zxq (hu:X.A.units + 1 < cLine)(ho:JE X o f)(he:JE X e g)(hf:JE X f' h)(m:M2 X o "get" apos e f' cpos):JE X (.Call (.Attribute o "get" apos) [e, f'] [] cpos) (eDGet2 f g h):=⟨zbcq hu ho.out he.out hf.out m⟩
theorem zbco (hu:X.A.units + 1 < cLine)(ho:JE X o f)(he:JE X e g)(m:M1 X o "pop" apos e cpos):JE X (.Call (.Attribute o "pop" apos) [e] [] cpos) (eDPop f g):=⟨zbhg hu ho.out he.out m⟩
theorem zpx (hu:X.A.units+1 < cLine)(ho:JE X o f)(hi:JE X i g)(hv:JE X value h)(hs:swapsWith value (some (.Subscript o i pos')) pos.line X.env=pure false):JS X (.Assign [.Subscript o i pos'] value pos) (sDPut f g h):=⟨zbca hu ho.out hi.out hv.out hs⟩
end
section
variable {X:Cx}{o e i value:Expr}{es:List Expr}{f g h:SE}{ga:SA}{pos apos cpos:Pos}
theorem zdj (ho:JE X o f)(ha:JA X (e::es) ga)(hbase:attributeBase o "append" X.env (eval o X.env)=eval o X.env:=by rfl)(hfew:((backTo cpos (starEach (e::es) X.env)).all (fun x=>!x.1)&&(backToKw cpos (keywordEach [] X.env)).all (fun x=>x.1.isSome)
 && decide ((e::es).length + ([]:List Keyword).length + (if([]:List Keyword).isEmpty then 0 else 1) < 30))=true:=by rfl) (hline:(apos.endLine==cpos.line)=true:=by rfl) (hs:starEach (e::es) X.env=(false, eval e X.env)::starEach es X.env:=by rfl) (hplain:(backTo cpos (starEach es X.env)).any (·.1)=false:=by rfl):JE X (.Call (.Attribute o "append" apos) (e::es) [] cpos) (eAppend f ga):=⟨zxs ho.out ha.out hbase hfew hline hs hplain⟩
theorem ztl (ho:JE X o f)(ha:JA X (e::es) ga)(hbase:attributeBase o "extend" X.env (eval o X.env)=eval o X.env:=by rfl)(hfew:((backTo cpos (starEach (e::es) X.env)).all (fun x=>!x.1)&&(backToKw cpos (keywordEach [] X.env)).all (fun x=>x.1.isSome)
 && decide ((e::es).length + ([]:List Keyword).length + (if([]:List Keyword).isEmpty then 0 else 1) < 30))=true:=by rfl) (hline:(apos.endLine==cpos.line)=true:=by rfl) (hs:starEach (e::es) X.env=(false, eval e X.env)::starEach es X.env:=by rfl) (hplain:(backTo cpos (starEach es X.env)).any (·.1)=false:=by rfl):JE X (.Call (.Attribute o "extend" apos) (e::es) [] cpos) (eExtend f ga):=⟨zxp ho.out ha.out hbase hfew hline hs hplain⟩
theorem zbhf (ho:JE X o f):JE X o (eFz f):=⟨d_fz ho.out⟩
end
section
variable {X:Cx}{e c o i value:Expr}{sm:Stmt}{rest:List Stmt}{f g h:SE}{s t:SS}{b:ST}{pos pos':Pos}
theorem zby :JB X [] sNx:=⟨zbgs⟩
theorem zp (he:JE X e f):JS X (.Return (some e) pos) (sRet f):=⟨zbgq he.out⟩
theorem zcl (he:JE X e f)(hs:swapsWith e none pos.line X.env=pure false:=by rfl):JS X (.Expr e pos) (sDrop f):=⟨zbbz he.out hs⟩
theorem zbbx {i:Nat}{x:Str}(hN:X.N.Nodup)(hi:X.N[i]?=some x)(hx:L2.Loc X.env.scope x)(he:JE X e f)(hs:swapsWith e (some (.Name x pos')) pos.line X.env=pure false:=by rfl)(hf:X.fn x=true\/X.env.scope.names.lookup x=some .local:=by first | exact .inl rfl | exact .inr rfl | assumption):JS X (.Assign [.Name x pos'] e pos) (aF i f):=⟨zbgp hN hi hx he.out hs hf⟩
theorem zf (h1:JS X sm s):JB X [sm] s:=⟨zbgr h1.out⟩
theorem zb (h1:JS X sm s)(h2:JB X rest t):JB X (sm::rest) (aD s t):=⟨zbcb h1.out h2.out⟩
theorem zds {a' b':List Stmt}(hc:JT X c b)(ha:JB X a' s)(hb:JB X b' t):JS X (.If c a' b' pos) (sIf b s t):=⟨zbko hc.out ha.out hb.out⟩
theorem zbcc {i:Nat}{x:Str}{op:Operator}{ti:TIp}{g:D->D->Store->Res D}(hN:X.N.Nodup)(hi:X.N[i]?=some x)(hx:L2.Loc X.env.scope x)(he:JE X e f)(ho:PIp X op ti)(hr:IpD X.K g ti)(hf:X.fn x=true\/X.env.scope.names.lookup x=some .local:=by first | exact .inl rfl | exact .inr rfl | assumption):JS X (.AugAssign (.Name x pos') op e pos) (sAug i g f):=⟨zbgu hN hi hx he.out ho hr hf⟩
theorem zmh (he:JE X value h)(ho:JE X o f)(hi:JE X i g)(ha:∀v,assign (.Subscript o i pos') X.env v=(do
 let ov ← holding [v] (eval o X.env)
 let iv ← holding [v,ov] (eval i X.env)
 standAt pos'
 holding [v,ov,iv] (setItem ov iv v)
 release [v,ov,iv] []):=by intro _;rfl) (hs:swapsWithSole [.Subscript o i pos'] value pos.line X.env=pure false:=by rfl) (hw:swappedStores [.Subscript o i pos'] value X.env=pure none:=by rfl) (h1:(assignEach [.Subscript o i pos'] X.env).map (·.2)=[assign (.Subscript o i pos') X.env]:=by rfl):JS X (.Assign [.Subscript o i pos'] value pos) (sSetIx f g h):=⟨zxg he.out ho.out hi.out ha hs hw h1⟩
end
section
variable {X:Cx}{pos:Pos}{e:Expr}{es:List Expr}{t:SG}{u:List D->DS->Option DS}
theorem zcd {i:Nat}{x:Str}(hN:X.N.Nodup)(hi:X.N[i]?=some x)(hx:L2.Loc X.env.scope x)(hf:X.fn x=true\/X.env.scope.names.lookup x=some .local:=by first | exact .inl rfl | exact .inr rfl | assumption):JG X (.Name x pos) (gN i):=⟨zbck hN hi hx hf⟩
theorem zgc :JGs X [] gsNil:=⟨zbcj⟩
theorem zbf (h1:JG X e t)(h2:JGs X es u)(hs:(assignEach (e::es) X.env).map (·.2)=assign e X.env::(assignEach es X.env).map (·.2):=by rfl):JGs X (e::es) (gsCons t u):=⟨zxj h1.out h2.out hs⟩
theorem zjl {k:Nat}{n:Nat}(hc:X.calm=true)(h:JGs X es u)(hn:(assignEach es X.env).length=n:=by rfl)(hst:(assignEach es X.env).findIdx? (·.1)=none:=by rfl):JG X (.Tuple es k pos) (gT n u):=⟨zbgy hc h.out hn hst⟩
end
section
variable {X:Cx}{tg l a b:Expr}{f:SE}{g:SA}{p pos:Pos}
theorem zbk (hl:JE X l f):JI X tg l (aH f):=⟨zbgx hl.out⟩
theorem zbl (hg:Gl X "range")(hm:X.mg "range"=none)(ha:JA X [a] g)(hs:starEach [a] X.env=[(false, eval a X.env)]:=by rfl):JI X tg (.Call (.Name "range" p) [a] [] pos) (iR1 g):=⟨zth hg hm ha.out hs⟩
end
section
variable {X:Cx}{tg l:Expr}{f:SE}
theorem zxi (hl:JE X l f):JI X tg l (iDict f):=⟨zbci hl.out⟩
end
section
variable {X:Cx}{tg iter c:Expr}{body:List Stmt}{it:SA}{bd:SG}{b:SS}{t:ST}{pos:Pos}
theorem zbby (hp:PassesOwn (model X.prog X.w) X.A X.env X.xe)(hc:X.calm=true)(hi:JI X tg iter it)(hg:JG X tg bd)(hb:JB X body b)(hs:∀x,foldedSetIterable iter X.env x=pure x:=by intro _;rfl):JS X (.For tg iter body [] pos) (sFor it bd b):=⟨zbgt hp hc hi.out hg.out hb.out hs⟩
theorem ztf (hp:PassesOwn (model X.prog X.w) X.A X.env X.xe)(hc:JT X c t)(hb:JB X body b):JS X (.While c body [] pos) (sWhile t b):=⟨zxf hp hc.out hb.out⟩
end
section
variable {X:Cx}{tg iter elt:Expr}{ifs:List Expr}{it:SA}{bd:SG}{c:ST}{f:SE}{N:List Str}{k:Nat}{is:List Nat}{scope:Scope}{pos:Pos}
theorem zgd (hcalm:X.calm=true)(hi:JI X tg iter it)(hg:∀cl C fp s H,JG (cxC X N scope cl C fp s H) tg bd)(hc:∀cl C fp s H,JIf (cxC X N scope cl C fp s H) ifs c)(he:∀cl C fp s H,JE (cxC X N scope cl C fp s H) elt f)(S:CompScope X N k is scope)(hs:∀x,foldedSetIterable iter X.env x=pure x:=by intro _;rfl):JE X (.ListComp elt [⟨tg,iter,ifs,0⟩] scope pos) (aG it k is bd c f):=⟨zbhk hcalm hi.out (fun cl C fp s H=>(hg cl C fp s H).out) (fun cl C fp s H=>(hc cl C fp s H).out) (fun cl C fp s H=>(he cl C fp s H).out) S hs⟩
theorem zkq {X:Cx}:JIf X [] aI:=⟨zbcg⟩
theorem zic {X:Cx}{c:Expr}{t:ST}(h:JT X c t):JIf X [c] t:=⟨zbcf h.out⟩
end
section
variable {X:Cx}{x:Str}{k:Nat}{ps:List Str}{F:DFn}{p pos:Pos}{e:Expr}{es:List Expr}{g:SA}
theorem zbcr (c:CalD X.prog X.w X.K X.mg X.base x k ps F)(hn:∀ ds st v st', F ds st=.ok v st'->ds.length=ps.length)(hr:Room k X.A)(hg:Gl X x)(ha:JA X (e::es) g)(hdb:(x==("__debug__" : Str))=false:=by decide)(he:starEach (e::es) X.env=(false, eval e X.env)::starEach es X.env:=by rfl)(hpl:(backTo pos (starEach es X.env)).any (·.1)=false:=by rfl):JE X (.Call (.Name x p) (e::es) [] pos) (aE F g):=⟨zbhl c hn hr hg ha.out hdb he hpl⟩
end
section
theorem zxy {P:Program}{w:World}{K:Fg}{mg:Str->Option Value}{base h:Heap}{x:Str}{st:Stmt}{N ps:List Str}{k:Nat}{b:SS}(T:TopF K x st)(X:K.In h)(G:h.Ns mainGlobals mg)(S:FnScope N ps (defScope st))(bd:∀(kV doc pm:Value) (an:Option Addr) (cdv ct:Value) (us:List Value),us.length=ps.length->bindArgs (W.fnOf x x (defArgs st) (defBody st) (defScope st) .none kV doc pm an cdv ct) ⟨us,[]⟩=pure (ps.zip us))(hbody:∀(f:Addr) (cdv:Value) (A:Around) (outer:List Env) (s:Shared) (H:Hp) (E:XK),Room k (A.deeper (envOfC x (defScope st) s.heap.objs.size f cdv)) ->
 JB (cxOf CX0 P w K mg base N x (defScope st) f cdv A outer s H E).nox (defBody st) b):CalD P w K mg base x (k+1) ps (fnD N.length ps.length b):=zbcy T X G S bd (fun f cdv A outer s H E rr=>(hbody f cdv A outer s H E rr).out)
end
section
theorem zbbf {P:Program}{w:World}{K:Fg}{mg:Str->Option Value}{base:Heap}{st:Stmt}{N ps:List Str}{k:Nat}{b:SS}{f:Addr}{fd:FuncData}(F:Fun K "law" "law" st f fd)(S:FnScope N ps (defScope st))(hp:ps.length=1)(hbody:∀(cdv:Value) (A:Around) (outer:List Env) (s:Shared) (H:Hp) (E:XK), Room k (A.deeper (envOfC "law" (defScope st) s.heap.objs.size f cdv)) ->
 JB (cxOf CX0 P w K mg base N "law" (defScope st) f cdv A outer s H E).nox (defBody st) b) (holds:∀ ns:List Int, ns.length<=63->∃ st', fnD N.length 1 b [.scr (ns.map .int)] []=.ok (.bl true) st'):FnOk P w K mg base CX0 (k + 1) f fd ps (spLaw K):=zbfq F S hp (fun cdv A outer s H E rr=>(hbody cdv A outer s H E rr).out) holds
end
section
variable {X:Cx}{a b c e:Expr}{f f' f'':SE}{pos:Pos}{sm:Stmt}
theorem zbhc (h:JE X a f):JE X (.UnaryOp .USub a pos) (eUn oNeg f):=⟨zbku h.out⟩
theorem ztg :JS X sm sStuck:=⟨zxh⟩
theorem zew (h:JE X a f)(he:∀whole,isTrue a X.env whole=(do let v ← whole;standAt a.pos;holding [v] (truthy v)):=by intro _;rfl):JT X a (eTru f):=⟨zbgl h.out he⟩
end
section
variable {X:Cx}{l:Expr}{f:SE}{elts:List Expr}{k j:Nat}{tpos p pos kpos cpos:Pos}
end
section
variable {X:Cx}{tg iter elt:Expr}{ifs:List Expr}{it:SA}{bd:SG}{c:ST}{f:SE}{N:List Str}{k:Nat}{is:List Nat}{scope:Scope}{pos:Pos}
end
section
theorem ze {X:Cx}{e:Expr}{es:List Expr}{f:SE}{g:SA}(ha:JE X e f)(hr:JA X es g)(hp:plainE e=true:=by rfl):JA X (e::es) (aB f g):=⟨zxl ha.out hr.out hp⟩
end
section
variable {X:Cx}{a b:Expr}{g:SA}{elts:List Expr}{k:Nat}{tpos p pos:Pos}
theorem zbch (hg:Gl X "zip")(hm:X.mg "zip"=none)(ha:JA X [a, b] g)(hs:starEach [a, b] X.env=[(false, eval a X.env),(false, eval b X.env)]:=by rfl)(hs2:starEach [b] X.env=[(false, eval b X.env)]:=by rfl):JI X (.Tuple elts k tpos) (.Call (.Name "zip" p) [a, b] [] pos) (iZipT g):=⟨zbgw hg hm ha.out hs hs2⟩
end
section
end
end Dd
namespace L2
open PySem PySem.Spec PyProof.Rows
section
variable {prog:Program}{w:World}{A:Around}{R:Result->Shared->Prop}{I:Addr}{fp wr:List Addr}{n:Nat}{P:Nat->Value->Prop}{St:Nat->Heap->Prop}
end
section
variable {prog:Program}{w:World}{A:Around}{E:Value->Shared->Prop}{s:Shared}
end
section
variable {X:Cx}{p pos cpos kpos:Pos}{l:Expr}{t:TA}{d:Int}{j:Nat}
end
section
open PySem.AutoSeq1
end
end L2
namespace Dd
open PySem L2
section
variable {X:Cx}{p pos cpos kpos:Pos}{l:Expr}{f:SA}{d:Int}{j:Nat}
end
section
variable {X:Cx}{o e:Expr}{es:List Expr}{f:SE}{ga:SA}{apos cpos:Pos}
end
end Dd
namespace L2
open PySem PySem.Spec PyProof.Rows
section
variable {X:Cx}{p pos cpos kpos upos:Pos}{l:Expr}{t:TA}{d:Int}{j:Nat}
end
end L2
namespace Dd
open PySem L2 PyProof.Rows
section
variable {X:Cx}{p pos cpos kpos upos:Pos}{l:Expr}{f:SA}{d:Int}{j:Nat}
end
end Dd
namespace L2
open PySem PySem.Spec PyProof.Rows
noncomputable def rInX (K:Fg) (neg:Bool):R2:=fun x c H Q=>∃d p xs,DAt K H x d/\DAt K H c p/\(p=.tuple xs\/p=.list xs)/\PySem.SeqAt.shaped d=true/\PySem.SeqAt.shaped p=true/\Q (.bl (if neg then !xs.any fun y=>PyData.eqv y d else xs.any fun y=>PyData.eqv y d)) H
section
variable {X:Cx}
theorem zbdz {p:PyData}{xs:List PyData}(h:p=.tuple xs\/p=.list xs)(s:PySem.SeqAt.shaped p=true):PyData.canLayAll0 xs=true/\PyData.depthAll xs<=63:=by
 have:(PyData.canLayAll0 xs&&decide (PyData.depthAll xs+1<=64))=true:=by rcases h with rfl | rfl<;>exact s
 rw[xfe] at this;exact⟨this.1,by have:=xep this.2;lia⟩
theorem zub {d:PyData}(s:PySem.SeqAt.shaped d=true):d.canLay0=true:=by
 unfold PySem.SeqAt.shaped at s;rw[xfe] at s;exact s.1
theorem zbfg (hu:X.A.units+64 < cLine):OpR X (compareOp .In) (rInX X.K false):=by
 intro aU s σ H x y v u Q I r1 r2 h;obtain⟨d,p,xs,a1,a2,a3,a4,a5,q⟩:=h;obtain⟨as,ra⟩:=zdq I a1 r1;obtain⟨bs,rb⟩:=zdq I a2 r2;obtain⟨l1,l2⟩:=zbdz a3 a5;have hu':X.A.units+1+min (PyData.depthAll xs) d.depth < cLine:=by have:=xhc (PyData.depthAll xs) d.depth;lia
 rcases a3 with rfl | rfl
 ·exact SeqAt.in_tuple_reads rb ra l1 (zub a4) hu' ⟨.bl _,H,I,rfl,q⟩
 ·exact SeqAt.in_list_reads rb ra l1 (zub a4) hu' ⟨.bl _,H,I,rfl,q⟩
end
section
open PySem.AutoSeq1
variable (l:Addr)(items:Array Value)(n:Nat)(dd:Option Addr)(sl:Array (Option Value))(x:Int)(u:Tok)
end
noncomputable def timesL {α:Type} (xs:List α) (n:Int):List α:=(List.replicate n.toNat xs).flatten
theorem zjh {α:Type}(xs:List α):∀(n:Nat) (acc:List α),(List.foldl (fun(x1 x2:Array α)=>x1++x2) acc.toArray (List.replicate n xs.toArray))=(acc++(List.replicate n xs).flatten).toArray
 | 0,acc=>by simp
 | n+1,acc=>by
  rw[xfu,xhe,xfu,xhj,← xci,← zjh xs n (acc++xs)]
  congr 1
  simp
theorem Vals.times {xs:List V}{us:List Value}(r:Vals xs us):∀n:Nat,Vals (List.replicate n xs).flatten (List.replicate n us).flatten
 | 0=>.nil
 | n+1=>by
  rw[xfu,xhj,xfu,xhj];exact r.append (Vals.times r n)
theorem zlk {α:Type}(xs:List α):∀n:Nat,(List.replicate n xs).flatten.length=n * xs.length
 | 0=>by simp
 | n+1=>by rw[xfu,xhj,xbk,zlk xs n,xje];lia
end L2
namespace Dd
open PySem L2 PyProof.Rows
noncomputable def oInG (neg:Bool) (x c:D) (st:Store):Res D:=match dataOf st x,dataOf st c with
 | some d,some (.tuple xs)=>if PySem.SeqAt.shaped d=true/\PySem.SeqAt.shaped (.tuple xs)=true then .ok (.bl (if neg then !xs.any fun y=>PyData.eqv y d else xs.any fun y=>PyData.eqv y d)) st else .stuck
 | some d,some (.list xs)=>if PySem.SeqAt.shaped d=true/\PySem.SeqAt.shaped (.list xs)=true then .ok (.bl (if neg then !xs.any fun y=>PyData.eqv y d else xs.any fun y=>PyData.eqv y d)) st else .stuck
 | _,_=>.stuck
theorem zbka {K:Fg}{neg:Bool}:OpD K (oInG neg) (rInX K neg):=fun ρ H st x y u v z st' Q rp a b e q=>by
 unfold oInG at e;split at e
 ·rename_i d xs h1 h2;split at e
  ·rename_i hs;cases e;exact⟨_,_,xs,zdi rp a h1,zdi rp b h2,.inl rfl,hs.1,hs.2,q _ _ _ (.refl _ _) rp (.bl _)⟩
  ·cases e
 ·rename_i d xs h1 h2;split at e
  ·rename_i hs;cases e;exact⟨_,_,xs,zdi rp a h1,zdi rp b h2,.inr rfl,hs.1,hs.2,q _ _ _ (.refl _ _) rp (.bl _)⟩
  ·cases e
 ·cases e
theorem AtAll.times {K:Fg}{ρ:Loc}{H:Hp}{ds:List D}{vs:List V}(h:AtAll K ρ H ds vs):∀n:Nat,AtAll K ρ H (List.replicate n ds).flatten (List.replicate n vs).flatten
 | 0=>.nil
 | n+1=>by
  rw[xfu,xhj,xfu,xhj];exact h.append (AtAll.times h n)
end Dd
namespace L2
open PySem PySem.Spec PyProof.Rows PySem.W
section
variable {P:Program}{w:World}{B:Around}{sg:Shared}
end
end L2
namespace Dd
open PySem L2 PyProof.Rows
end Dd
namespace L2
open PySem PySem.Spec PyProof.Rows
end L2
namespace Dd
open PySem L2 PyProof.Rows
section
variable {X:Cx}{o e:Expr}{es:List Expr}{f:SE}{ga:SA}{apos cpos:Pos}
end
end Dd
namespace Dd
variable {α:Type}{motive:List α->Prop}
@[elab_as_elim] theorem len0 (us:List α) (hl:us.length=0) (h:motive []):motive us:=by rw[List.eq_nil_of_length_eq_zero hl];exact h
@[elab_as_elim] theorem lenS {n:Nat} (us:List α) (hl:us.length=n+1) (h:∀a us,us.length=n->motive (a::us)):motive us:=by
 cases us with
 | nil=>cases hl
 | cons a us=>exact h a us (Nat.succ.inj hl)
@[elab_as_elim] theorem len1 (us:List α) (hl:us.length=1) (h:∀a,motive [a]):motive us:=lenS us hl fun a us hl=>len0 us hl (h a)
@[elab_as_elim] theorem len2 (us:List α) (hl:us.length=2) (h:∀a b,motive [a,b]):motive us:=lenS us hl fun a us hl=>len1 us hl (h a)
@[elab_as_elim] theorem len3 (us:List α) (hl:us.length=3) (h:∀a b c,motive [a,b,c]):motive us:=lenS us hl fun a us hl=>len2 us hl (h a)
@[elab_as_elim] theorem len4 (us:List α) (hl:us.length=4) (h:∀a b c d,motive [a,b,c,d]):motive us:=lenS us hl fun a us hl=>len3 us hl (h a)
end Dd
namespace Dd
open PySem L2
end Dd
namespace L2
open PySem PySem.Spec PyProof.Rows
end L2
namespace Dd
open PySem L2 PyProof.Rows
end Dd
namespace L2
open PySem PySem.Spec PyProof.Rows
section
variable {X:Cx}{tg:Expr}
end
end L2
namespace Dd
open PySem L2
section
variable {X:Cx}{tg a b c:Expr}{g:SA}{p pos:Pos}
end
end Dd
namespace Dd
open PySem L2 PyProof.Rows
section
variable {X:Cx}{o e:Expr}{es:List Expr}{f:SE}{ga:SA}{apos cpos:Pos}
end
end Dd
namespace L2
open PySem PySem.Spec PyProof.Rows
variable {X:Cx}{e es:Expr}{te ts:TE}{pos p2:Pos}
end L2
namespace Dd
open PySem L2
section
variable {X:Cx}{e es:Expr}{f g:SE}{pos p2:Pos}
end
end Dd
namespace L2
open PySem PySem.Spec PyProof.Rows
section
variable {prog:Program}{w:World}{A:Around}{E:Value->Shared->Prop}{s:Shared}
end
variable {X:Cx}{e es:Expr}{te ts:TE}{pos p2:Pos}
end L2
namespace Dd
open PySem L2
section
variable {X:Cx}{e es:Expr}{f g:SE}{pos p2:Pos}
end
end Dd
namespace L2
open PySem PySem.Spec PyProof.Rows
end L2
namespace Dd
open PySem L2
end Dd
namespace L2
open PySem PySem.Spec PyProof.Rows
section
variable {X:Cx}{x:Str}{C:Addr}{bmB bmN:List Value}{newId nid initId inN B Bn:String}{e:Expr}{es:List Expr}{ta:TA}{np cpos pos:Pos}
end
section
variable {M:Model}{A:Around}{E:Value->Shared->Prop}{s:Shared}
end
section
variable {P:Program}{w:World}{K:Fg}{mg:Str->Option Value}{base:Heap}{N:List Str}{qual:Str}{scope:Scope}{f:Addr}{cd:Value}{A:Around}{outer:List Env}{s₀:Shared}{H₀:Hp}{E:XK}
end
section
variable {X:Cx}
end
section
variable {X:Cx}{aU pins':List (Addr×Obj)}{σ:St}{H:Hp}{s:Shared}{E:Value->Shared->Prop}{e:Value}
end
section
variable {X:Cx}{body:List Stmt}{x n:Str}{B:Addr}{i:Nat}{b0:Stmt}{suite:List Stmt}{xp hp pos:Pos}{tb:(St->Value->Option Addr->Hp->Prop)->TS}{ts:TS}
end
section
variable {prog:Program}{w:World}{A:Around}{E:Value->Shared->Prop}
end
section
variable {X:Cx}{pos:Pos}
end
section
variable {P:Program}{w:World}{K:Fg}{mg:Str->Option Value}{base:Heap}{N:List Str}{name qual:Str}{params:Arguments}{body:Expr}{scope:Scope}{f:Addr}{cd pm ct:Value}{cl:List (Str×Addr)}{A:Around}{outer:List Env}{s:Shared}{H:Hp}{E:XK}{τ:St}
end
section
variable {X:Cx}{aU:List (Addr×Obj)}{τ:St}{H:Hp}{s:Shared}{c T:Addr}{ps:Array Value}{params:Arguments}{body:Expr}{scope:Scope}{cl:List (Str×Addr)}{pos:Pos}{Q:Value->Shared->Prop}
end
section
variable {X:Cx}
end
section
variable {X:Cx}
end
end L2
namespace L2
open PySem
namespace St
noncomputable abbrev lt (a b:Nat):Prop:=a < b
theorem zpw (xs:Array Nat)(j:Nat)(mono:∀a b,a<=b->b < xs.size->xs.getD a j<=xs.getD b j):∀(fuel lo hi:Nat),lo<=hi->hi<=xs.size->hi - lo<=fuel->(∀i,i < lo->xs.getD i j < j)->(∀i,hi<=i->i < xs.size->j<=xs.getD i j) ->
  SetTable.below.go xs j fuel lo hi<=xs.size/\(∀i,i < SetTable.below.go xs j fuel lo hi->xs.getD i j < j)/\(∀i,SetTable.below.go xs j fuel lo hi<=i->i < xs.size->j<=xs.getD i j)
 | 0,lo,hi,h1,h2,h3,a,b=>by
  have:lo=hi:=by lia
  subst this;unfold SetTable.below.go;exact⟨h2,a,b⟩
 | fuel+1,lo,hi,h1,h2,h3,a,b=>by
  unfold SetTable.below.go;by_cases c:lo < hi
  ·rw[if_pos c];dsimp only;by_cases d:xs.getD ((lo+hi) / 2) j < j
   ·rw[if_pos d]
    exact zpw xs j mono fuel _ hi (by lia) h2 (by lia) (fun i hi'=>by
     have:=mono i ((lo+hi) / 2) (by lia) (by lia)
     lia) b
   ·rw[if_neg d]
    exact zpw xs j mono fuel lo _ (by lia) (by lia) (by lia) a (fun i hi' hs=>by
     have:=mono ((lo+hi) / 2) i hi' hs
     lia)
  ·rw[if_neg c];have:lo=hi:=by lia
   subst this;exact⟨h2,a,b⟩
noncomputable def Up (xs:Array Nat):Prop:=xs.toList.Pairwise lt
theorem zfl (xs:Array Nat)(i d:Nat):xs.getD i d=xs.toList.getD i d:=by
 rw[xcl,xcc,xbs]
theorem Up.mono {xs:Array Nat}(h:Up xs)(d a b:Nat)(hab:a<=b)(hb:b < xs.size):xs.getD a d<=xs.getD b d:=by
 rcases xik a b with c | c
 ·have hb':b < xs.toList.length:=by simpa using hb
  have ha':a < xs.toList.length:=by lia
  rw[zfl,zfl,xcc,xcc,xbg ha',xbg hb'];exact xbv (xfa.mp h a b ha' hb' c)
 ·have:a=b:=by lia
  subst this;exact xbf _
theorem zgg {xs:Array Nat}(h:Up xs)(j:Nat):SetTable.below xs j<=xs.size/\(∀i,i < SetTable.below xs j->xs.getD i j < j)/\(∀i,SetTable.below xs j<=i->i < xs.size->j<=xs.getD i j) :=
 zpw xs j (h.mono j) xs.size 0 xs.size (by lia) (by lia) (by lia) (fun i hi=>absurd hi (by lia)) (fun i h1 h2=>absurd h2 (by lia))
theorem zjo {xs:Array Nat}(h:Up xs)(j:Nat):∀y∈xs.toList.take (SetTable.below xs j),y < j:=fun y hy=>by
 obtain⟨h1,h2,h3⟩:=zgg h j;obtain⟨i,hi,rfl⟩:=List.mem_iff_getElem.mp hy;rw[xcm] at hi;have hi':i < xs.toList.length:=by lia
 have:=h2 i (by lia);rw[zfl,xcc,xbg hi'] at this;rw[xli];exact this
theorem zgh {xs:Array Nat}(h:Up xs)(j:Nat):∀y∈xs.toList.drop (SetTable.below xs j),j<=y:=fun y hy=>by
 obtain⟨h1,h2,h3⟩:=zgg h j;obtain⟨i,hi,rfl⟩:=List.mem_iff_getElem.mp hy;rw[xgn] at hi;have hl:xs.toList.length=xs.size:=by simp
 have hi':SetTable.below xs j+i < xs.toList.length:=by lia
 have:=h3 (SetTable.below xs j+i) (by lia) (by lia);rw[zfl,xcc,xbg hi'] at this;rw[xlh];exact this
theorem zii {xs:Array Nat}(h:Up xs){j:Nat}(hj:j∈xs.toList):xs[SetTable.below xs j]?=some j:=by
 have ht:=zjo h j;have hd:=zgh h j;rw[← xcr (SetTable.below xs j) xs.toList] at hj;rcases xbt.mp hj with hj | hj
 ·exact absurd (ht j hj) (xfw _)
 ·have hp:(xs.toList.drop (SetTable.below xs j)).Pairwise lt:=xgc (xlg _ _) h;have:(xs.toList.drop (SetTable.below xs j))[0]?=some j:=by
   cases e:xs.toList.drop (SetTable.below xs j) with
   | nil=>rw[e] at hj;cases hj
   | cons y l =>
    rw[e] at hj hd hp;rcases xbl.mp hj with rfl | hj
    ·rfl
    ·have h1:=hd y (by simp);have h2:y < j:=(xek.mp hp).1 j hj;lia
  rw[xfh] at this;rw[← xbs]
  simpa using this
theorem zbr {α:Type}(xs:Array α)(p:Nat)(x:α):(SetTable.insertAt xs p x).toList=xs.toList.take p++x::xs.toList.drop p:=by
 unfold SetTable.insertAt;rw[xdk,xeo,xkf,xkf];simp[List.extract];exact xdm (by simp)
theorem Up.insert {xs:Array Nat}(h:Up xs){j:Nat}(hj:j∉xs.toList):Up (SetTable.insertAt xs (SetTable.below xs j) j):=by
 unfold Up;rw[zbr,xfl];refine⟨xgc (xle _ _) h,xek.mpr ⟨fun y hy=>?_,xgc (xlg _ _) h⟩,fun a ha b hb=>?_⟩
 ·have h1:=zgh h j y hy;have h2:y≠j:=fun e=>hj (e ▸ xej hy)
  show j < y;lia
 ·have h1:=zjo h j a ha;rcases xbl.mp hb with rfl | hb
  ·exact h1
  ·have:=zgh h j b hb;show a < b;lia
end St
namespace St
structure Tb (t:SetTable):Prop where
 up:Up t.place
 nd:t.dummies=#[]
 inm:∀y∈t.place.toList,y<=t.mask
 pl:t.plain=true
theorem zpv (j:Nat):SetTable.has #[] j=false:=by
 unfold SetTable.has;simp
theorem Tb.slot {t:SetTable}(h:Tb t)(j:Nat):(t.slot j=.empty/\j∉t.place.toList)\/(∃i,t.slot j=.live i)/\j∈t.place.toList:=by
 unfold SetTable.slot;dsimp only;by_cases c:t.place[SetTable.below t.place j]?=some j
 ·right
  rw[if_pos (by rw[c];exact xef _)];rw[← xbs] at c;exact⟨⟨_,rfl⟩,xbx c⟩
 ·left
  rw[if_neg (by simpa using c),h.nd,zpv];exact⟨rfl,fun hj=>c (zii h.up hj)⟩
noncomputable def iAt (mask:Nat):Nat->Nat->Nat->Nat
 | 0,i,_=>i
 | k+1,i,per=>iAt mask k ((i * 5+1+per / 32) % (mask+1)) (per / 32)
noncomputable def nextP (mask:Nat) (p:SetTable.Probe):SetTable.Probe:={j:=(p.i * 5+1+p.perturb / 32) % (mask+1),more:=SetTable.runEnd mask ((p.i * 5+1+p.perturb / 32) % (mask+1)) - (p.i * 5+1+p.perturb / 32) % (mask+1),i:=(p.i * 5+1+p.perturb / 32) % (mask+1),perturb:=p.perturb / 32,dummy:=p.dummy}
theorem zdx {mask i:Nat}(h:i<=mask):i<=SetTable.runEnd mask i/\SetTable.runEnd mask i<=mask/\SetTable.runEnd mask i<=i+9:=by
 unfold SetTable.runEnd;split<;>lia
/- the leaps meet all places -/
noncomputable def accI (mask:Nat):Nat->Nat->Nat->Nat->Nat
 | 0,acc,_,_=>acc
 | L+1,acc,i,per=>accI mask L (acc ||| 2 ^ i) ((i * 5+1+per / 32) % (mask+1)) (per / 32)
theorem zvh (mask j:Nat):∀(L acc i per:Nat),(accI mask L acc i per).testBit j=true->acc.testBit j=true\/∃k,k < L/\iAt mask k i per=j
 | 0,acc,i,per,h=>.inl h
 | L+1,acc,i,per,h=>by
  rcases zvh mask j L _ _ _ h with h | ⟨k,h1,h2⟩
  ·rw[Nat.testBit_or,Nat.testBit_two_pow,Bool.or_eq_true,xkz] at h;rcases h with h | h
   ·exact .inl h
   ·exact .inr ⟨0,by lia,h⟩
  ·exact .inr ⟨k+1,by lia,h2⟩
noncomputable def MaskOk (m:Nat):Prop:=m=7\/m=31\/m=127
theorem room {t:SetTable}(g:Tb t)(h:t.place.size<=t.mask):∃j,j<=t.mask/\j∉t.place.toList:=by
 by_cases c:∃j,j<=t.mask/\j∉t.place.toList
 ·exact c
 ·exfalso
  have hs:List.range (t.mask+1) ⊆ t.place.toList:=fun j hj=>by
   by_cases z:j∈t.place.toList
   ·exact z
   ·exact absurd ⟨j,by have:=xcf.mp hj;lia,z⟩ c
  have:=List.Nodup.length_le_of_subset (List.nodup_range) hs;simp at this;lia
end St
namespace St
theorem zgy {α:Type}(xs:Array α)(p:Nat)(x:α)(h:p<=xs.size):(SetTable.insertAt xs p x).size=xs.size+1:=by
 have:=congrArg List.length (zbr xs p x);simp at this;lia
/- laid anew -/
noncomputable def ownL (owner:Array (Option Nat)) (mask:Nat):List Nat:=(List.range (mask+1)).filterMap fun j=>owner.getD j none
structure Ow (mask n:Nat) (owner:Array (Option Nat)):Prop where
 size:owner.size=mask+1
 perm:(ownL owner mask).Perm (List.range n)
theorem zbai {mask n:Nat}{owner:Array (Option Nat)}(h:Ow mask n owner)(hn:n<=mask):∃j,j<=mask/\owner.getD j (some 0)=none:=by
 by_cases c:∃j,j<=mask/\owner.getD j (some 0)=none
 ·exact c
 ·exfalso
  have all:∀j∈List.range (mask+1),(owner.getD j none).isSome=true:=fun j hj=>by
   have hj:=xcf.mp hj;have hlt:j < owner.size:=by rw[h.size];exact hj
   cases e:owner.getD j none with
   | some x=>rfl
   | none =>
    refine absurd ⟨j,by lia,?_⟩ c;rw[xcl,xdq hlt] at e ⊢;exact e
  have hl:(ownL owner mask).length=mask+1:=by
   unfold ownL;have:∀l:List Nat,(∀j∈l,(owner.getD j none).isSome=true)->(l.filterMap fun j=>owner.getD j none).length=l.length:=fun l=>by
    induction l with
    | nil=>intro _;rfl
    | cons a l ih =>
     intro hl;obtain⟨x,hx⟩:=xja.mp (hl a (by simp));rw[xdb (f:=fun j=>owner.getD j none) hx,xby,xby,ih fun j hj=>hl j (xbp _ hj)]
   rw[this _ all,xfn]
  have:=h.perm.length_eq;rw[hl,xfn] at this;lia
theorem zuq {mask:Nat}{owner:Array (Option Nat)}:∀(fuel i per:Nat),i<=mask->(∃k,k < fuel/\owner.getD (iAt mask k i per) (some 0)=none)->∃j,SetTable.layClean.free mask owner fuel i per=some j/\j<=mask/\owner.getD j (some 0)=none
 | 0,_,_,_,⟨k,hk,_⟩=>absurd hk (by lia)
 | fuel+1,i,per,hi,⟨k,hk,hk2⟩=>by
  obtain⟨r1,r2,r3⟩:=zdx hi;unfold SetTable.layClean.free;cases e:(List.range (SetTable.runEnd mask i+1 - i)).find? fun k=>(owner.getD (i+k) (some 0)).isNone with
  | some z =>
   have h1:=List.find?_some e;have h2:=xcf.mp (List.mem_of_find?_eq_some e);exact⟨i+z,rfl,by lia,by simpa using h1⟩
  | none =>
   dsimp only;have h0:=List.find?_eq_none.mp e 0 (xcf.mpr (by lia));cases k with
   | zero =>
    exfalso
    rw[xjd] at h0;have hk2:owner.getD i (some 0)=none:=hk2;rw[hk2] at h0;exact h0 rfl
   | succ k =>
    exact zuq fuel _ _ (xce (xjh _ (by lia))) ⟨k,by lia,hk2⟩
theorem zia {α β:Type}{f g:α->Option β}:∀{l:List α},(∀x∈l,f x=g x)->l.filterMap f=l.filterMap g
 | [],_=>rfl
 | a::l,h=>by
  have ih:=zia (l:=l) fun x hx=>h x (xbp _ hx)
  have h1:=h a (by simp);cases e:g a with
  | none=>rw[xee (h1.trans e),xee e,ih]
  | some z=>rw[xdb (h1.trans e),xdb e,ih]
theorem zev (owner:Array (Option Nat)){j n:Nat}(hj:owner.getD j (some 0)=none)(hs:j < owner.size):∀l:List Nat,l.Nodup->j∈l ->
  (l.filterMap fun i=>(owner.setIfInBounds j (some n)).getD i none).Perm (n::l.filterMap fun i=>owner.getD i none)
 | [],_,h=>by cases h
 | a::l,nd,h=>by
  have gd:∀i,i≠j->(owner.setIfInBounds j (some n)).getD i none=owner.getD i none:=fun i hi=>by
   rw[xcl,xcl,xhu (xda hi)]
  have gj:(owner.setIfInBounds j (some n)).getD j none=some n:=by
   rw[xcl,xgj hs]
   rfl
  have g0:owner.getD j none=none:=by
   rw[xcl,xdq hs] at hj ⊢;exact hj
  have nd':=xey.mp nd;by_cases c:a=j
  ·subst c;rw[xdb (f:=fun i=>(owner.setIfInBounds a (some n)).getD i none) gj,xee (f:=fun i=>owner.getD i none) g0];have:(l.filterMap fun i=>(owner.setIfInBounds a (some n)).getD i none)=l.filterMap fun i=>owner.getD i none:=zia fun i hi=>gd i fun e=>nd'.1 (e ▸ hi)
   rw[this]
  ·have hl:j∈l:=by
    rcases xbl.mp h with h | h
    ·exact absurd h.symm c
    ·exact h
   have ih:=zev owner (n:=n) hj hs l nd'.2 hl;cases e:owner.getD a none with
   | none=>rw[xee (f:=fun i=>(owner.setIfInBounds j (some n)).getD i none) (by rw[gd a c];exact e),xee (f:=fun i=>owner.getD i none) e];exact ih
   | some z =>
    rw[xdb (f:=fun i=>(owner.setIfInBounds j (some n)).getD i none) (by rw[gd a c];exact e),xdb (f:=fun i=>owner.getD i none) e];exact(List.Perm.cons z ih).trans (List.Perm.swap n z _)
theorem ow0 (mask:Nat):Ow mask 0 (Array.replicate (mask+1) none):=by
 refine⟨by simp,?_⟩;unfold ownL;have:(List.range (mask+1)).filterMap (fun j=>(Array.replicate (mask+1) (none:Option Nat)).getD j none)=(List.range (mask+1)).filterMap fun _=>(none:Option Nat):=zia fun j _=>by
  rw[xcl,Array.getElem?_replicate];split<;>rfl
 rw[this];have:∀l:List Nat,l.filterMap (fun _=>(none:Option Nat))=[]:=fun l=>by induction l<;>simp_all
 rw[this];exact xkp _
theorem zpo (owner:Array (Option Nat)):∀l:List Nat,(l.filterMap fun j=>(owner.getD j none).map fun k=>(j,k)).map (·.1)=l.filter fun j=>(owner.getD j none).isSome
 | []=>rfl
 | a::l=>by
  have ih:=zpo owner l;cases e:owner.getD a none with
  | none=>rw[xee (f:=fun j=>(owner.getD j none).map fun k=>(j,k)) (by rw[e];rfl),xdg (by rw[e];decide),ih]
  | some z=>rw[xdb (f:=fun j=>(owner.getD j none).map fun k=>(j,k)) (by rw[e];rfl),xcq (by rw[e];rfl),xbn,ih]
theorem zpn (owner:Array (Option Nat)):∀l:List Nat,(l.filterMap fun j=>(owner.getD j none).map fun k=>(j,k)).map (·.2)=l.filterMap fun j=>owner.getD j none
 | []=>rfl
 | a::l=>by
  have ih:=zpn owner l;cases e:owner.getD a none with
  | none=>rw[xee (f:=fun j=>(owner.getD j none).map fun k=>(j,k)) (by rw[e];rfl),xee (f:=fun j=>owner.getD j none) e,ih]
  | some z=>rw[xdb (f:=fun j=>(owner.getD j none).map fun k=>(j,k)) (by rw[e];rfl),xdb (f:=fun j=>owner.getD j none) e,xbn,ih]
theorem zrv {α:Type}(es:List α):(List.range es.length).filterMap (fun i=>es[i]?)=es:=by
 induction es with
 | nil=>rfl
 | cons a l ih =>
  rw[xby,List.range_succ_eq_map,xdb (f:=fun i=>(a::l)[i]?) rfl,List.filterMap_map]
  congr 1
end St
namespace St
theorem zwi {α:Type}{l:List α}{i:Nat}(h:i < l.length):(l[i]::l.eraseIdx i).Perm l:=by
 rw[List.eraseIdx_eq_take_drop_succ];refine xlo.symm.trans ?_;rw[← xfb h,xcr]
theorem zug {α:Type}(next:Nat->Nat):∀(fuel k:Nat) (left:List α) (out:Array α),left.length<=fuel->(pickOrder.go next fuel k left out).toList.Perm (out.toList++left)
 | 0,k,left,out,h=>by
  have:left=[]:=List.length_eq_zero_iff.mp (by lia);subst this;unfold pickOrder.go;rw[xes]
 | fuel+1,k,left,out,h=>by
  unfold pickOrder.go;cases e:left[next k % left.length]? with
  | none =>
   have:left=[]:=by
    cases left with
    | nil=>rfl
    | cons a l =>
     have:=List.getElem?_eq_none_iff.mp e;have:=xjh (next k) (show(a::l).length > 0 by simp);lia
   subst this;dsimp only;rw[xes]
  | some x =>
   dsimp only;obtain⟨hi,rfl⟩:=xbm.mp e;have ih:=zug next fuel (k+1) (left.eraseIdx (next k % left.length)) (out.push left[next k % left.length]) (by rw[List.length_eraseIdx_of_lt hi];lia);refine ih.trans ?_;rw[xeo,xci];exact xgb _ (zwi hi)
theorem zsa {α:Type}(next:Nat->Nat)(xs:Array α):(pickOrder next xs).toList.Perm xs.toList:=by
 unfold pickOrder;exact zug next xs.size 0 xs.toList #[] (by simp)
end St
end L2
namespace L2
open PySem PySem.W PyProof.Rows PySem.Spec
namespace St
theorem zbbm {t:SetTable}{m:Nat}(nd:t.dummies=#[])(mk:MaskOk t.mask)(hm:t.place.size=m+1)(room:m * 5 < t.mask * 3)(few:m+1<=64) :
  (t.tooFull=false/\(m+1) * 5 < t.mask * 3)\/(t.tooFull=true/\MaskOk (SetTable.sizeAbove (SetTable.grown (m+1)) - 1)/\m+1<=SetTable.sizeAbove (SetTable.grown (m+1)) - 1/\(m+1) * 5 < (SetTable.sizeAbove (SetTable.grown (m+1)) - 1) * 3):=by
 have hf:t.fill=m+1:=by
  unfold SetTable.fill;rw[nd,hm]
  rfl
 rcases mk with e | e | e
 ·by_cases c:m=4
  ·subst c
   right
   refine⟨by unfold SetTable.tooFull;rw[hf,e];decide,?_,by decide,by decide⟩;exact .inr (.inl (by decide))
  ·left
   refine⟨?_,by lia⟩;unfold SetTable.tooFull;rw[hf,e];simp;lia
 ·by_cases c:m=18
  ·subst c
   right
   refine⟨by unfold SetTable.tooFull;rw[hf,e];decide,?_,by decide,by decide⟩;exact .inr (.inr (by decide))
  ·left
   refine⟨?_,by lia⟩;unfold SetTable.tooFull;rw[hf,e];simp;lia
 ·left
  refine⟨?_,by lia⟩;unfold SetTable.tooFull;rw[hf,e];simp;lia
theorem zzk {h:Heap}{a:Addr}{o:Obj}{es:Array (Int×Value)}{ep:Nat}{t:SetTable}(ho:h.get? a=some o)(hd:o.data=.set es ep t)(es':Array (Int×Value))(t':SetTable) :
  (h.update a (Obj.putSet es' t')).get? a=some {o with data:=.set es' (ep+1) t'}:=by
 have e:=putSet_of es' t' hd;have g:=xha (Obj.putSet es' t') ho (by rw[e];rfl)
 rwa [e] at g
section
variable {P:Program}{w:World}{B:Around}{E:Value->Shared->Prop}{s:Shared}{a:Addr}
end
end St
namespace St
theorem zjc:entryFor table "set.update.loop"=some Builtin.«set.update.loop»:=entryFor_of_tree (by kernel_rfl)
theorem zfy:plainId "set.update.loop"=true:=by decide +kernel
section
variable {P:Program}{w:World}{B:Around}{R:Result->Shared->Prop}{it:Addr}{fp wr:List Addr}{G:Array GenState->Array GenState->Prop}{N:Nat}{It:Nat->Value->Prop}{St:Nat->Shared->Prop}
end
section
variable {P:Program}{w:World}{B:Around}{E:Value->Shared->Prop}{s:Shared}
noncomputable def newO (w:World):Obj:={ cls:=.type "set", dict:=none, data:=.set #[] 0 (.fresh 0 0 (!w.params.followText "set-order")) }
theorem zbfm (x:Value){W:Value->Shared->Prop}(fin:W (.ref s.heap.objs.size) {s with heap:=s.heap.push (newO w)}) :
  codeAny (model P w) B (.call (.builtin "set.__new__") ⟨[.type "set", x],[]⟩) (wants W E) s:=by
 refine codeAny_call_builtin_code (plainId_quiet F.plain_set_new _) (wpAny_of_eq (F.newCall_set_1 x) (xkk F.entry_set_new ?_));rw[xkg F.plain_set_new _];have sub:=sub_set_self;unfold Builtin.«set.__new__» Builtin.Frozenset.newClass;obtain⟨hp,g,d,tk,os⟩:=s
 wp_walk
 refine xir (xbc ?_);simp only[newObj];exact xba (wpAny_alloc (xbc (xbc fin)))
end
end St
namespace St
section
variable {P:Program}{w:World}{B:Around}{E:Value->Shared->Prop}{s:Shared}{a it:Addr}{es:Array (Int×Value)}{ep:Nat}{t:SetTable}{ks:List Nat}
end
end St
end L2
namespace L2
open PySem PySem.Spec PyProof.Rows PySem.W
end L2
namespace Dd
open PySem L2 PyProof.Rows
section
variable {X:Cx}{x y:Str}{p p2 pos pos2:Pos}{e:Expr}{f:SA}{g:List D->Store->Res D}
end
end Dd
namespace L2
open PySem PySem.Spec PyProof.Rows PySem.W
end L2
namespace Dd
open PySem L2 PyProof.Rows
section
variable {X:Cx}{p p2 pos pos2 cpos apos:Pos}{e o:Expr}{f:SA}{g:SE}
end
section
variable {X:Cx}{R:RXT}{e:Expr}{es:List Expr}{f:SE}{g:SA}{sm:Stmt}{rest body:List Stmt}{s t:SS}{pos p:Pos}{x:Str}{k:Nat}{ps:List Str}{F:DFn}
end
section
variable {P:Program}{w:World}{K:Fg}{mg:Str->Option Value}{base h:Heap}{x:Str}{st:Stmt}{N ps:List Str}{k:Nat}{b:SS}
end
section
variable {X:Cx}{R:RXT}{f:Addr}{σL:DS}{τL:L2.St}{g:SE}{x n y:Str}{p pos pos2 xp hp:Pos}{B:Addr}{i:Nat}{cs:List Str}{b0:Stmt}{suite rest:List Stmt}{u t:SS}
end
section
variable {X:Cx}{y:Str}{p pos lp:Pos}{params:Arguments}{body:Expr}{scope stS:Scope}{N NL:List Str}{is:List Nat}{c T fr:Addr}{fdR:FuncData}{stR:Stmt}{x:Str}{k:Nat}{lam:SE}{b:(Store->Res D)->SS}
end
end Dd
namespace L2
open PySem PySem.Spec PyProof.Rows
end L2
namespace Dd
open PySem L2 PyProof.Rows
section
variable {X:Cx}{o e:Expr}{es:List Expr}{f:SE}{ga:SA}{apos cpos:Pos}
end
end Dd
namespace L2
open PySem PySem.Spec PyProof.Rows
end L2
namespace Dd
open PySem L2 PyProof.Rows
section
variable {X:Cx}{R:RXT}{f:Addr}{σL:DS}{τL:L2.St}{g:SE}{x n y:Str}{p pos pos2 xp hp:Pos}{B:Addr}{i:Nat}{cs:List Str}{b0:Stmt}{suite rest:List Stmt}{u t:SS}
end
section
variable {K:Fg}{cv:Value}
end
section
variable {X:Cx}{pos:Pos}{es:List Expr}{u:List D->DS->Option DS}
end
end Dd
namespace L2
open PySem PySem.Spec PyProof.Rows
section
variable {prog:Program}{w:World}{A:Around}{R:Result->Shared->Prop}{I:Addr}{fp wr:List Addr}{n:Nat}{P:Nat->Value->Prop}{St:Nat->Heap->Prop}
end
section
variable {prog:Program}{w:World}{A:Around}{E:Value->Shared->Prop}{s:Shared}
end
section
variable {X:Cx}{p pos cpos kpos:Pos}{l:Expr}{t:TA}{d:Int}{j:Nat}
end
section
variable {X:Cx}
end
end L2
namespace Dd
open PySem L2 PyProof.Rows
section
variable {X:Cx}{p pos cpos kpos:Pos}{l:Expr}{f:SA}{j:Nat}
end
end Dd
namespace L2
open PySem PySem.Spec PyProof.Rows
section
variable {P:Program}{w:World}{A:Around}{E:Value->Shared->Prop}{s:Shared}{K:Fg}{C fI:Addr}{us:List Value}
end
section
variable {X:Cx}{C f:Addr}{fd:FuncData}{ps:List Str}{sp:Sp}{k:Nat}{x:Str}{p pos:Pos}{e:Expr}{es:List Expr}{t:TA}
end
section
variable {X:Cx}{aU:List (Addr×Obj)}{σ:St}{H:Hp}{s:Shared}
end
end L2
namespace L2
open PySem PySem.Spec PyProof.Rows Builtin Builtin.ObjectAttr
section
variable {P:Program}{w:World}{A:Around}{E:Value->Shared->Prop}{s:Shared}{K:Fg}{C fI ea:Addr}{v:Value}
end
end L2
namespace L2
open PySem PySem.Spec PyProof.Rows
section
variable {X:Cx}{aU:List (Addr×Obj)}{σ:St}{H:Hp}{s:Shared}
end
section
variable {P:Program}{w:World}{K:Fg}{mg:Str->Option Value}{base h:Heap}{C fI R:Addr}{xR qual:Str}{st:Stmt}{fd:FuncData}
end
section
variable {X:Cx}
end
section
variable {X:Cx}{e:Expr}{pos:Pos}{te:TE}
end
section
variable {P:Program}{w:World}{K:Fg}{mg:Str->Option Value}{base:Heap}{N:List Str}{qual:Str}{scope:Scope}{f:Addr}{cd:Value}{A:Around}{outer:List Env}{s₀:Shared}{H₀:Hp}{E:XK}
end
end L2
namespace Dd
open PySem L2 PyProof.Rows
section
variable {X:Cx}{R:RXT}{e:Expr}{es:List Expr}{f:SE}{g:SA}{sm:Stmt}{rest body:List Stmt}{s t:SS}{pos p:Pos}{x:Str}
end
section
variable {X:Cx}{R:RXT}{e:Expr}{es:List Expr}{f:SE}{g:SA}{sm:Stmt}{rest body:List Stmt}{s t:SS}{pos p:Pos}{x:Str}
end
end Dd
namespace L2
open PySem PySem.Spec PyProof.Rows
noncomputable def rMulL:R2:=fun x y H Q=>∃l xs n,x=.ref l/\y=.int n/\H l=some (.lst xs)/\xs≠[]/\0<=n/\n<=1000/\xs.length<=1000/\∀p,H p=none->Q (.ref p) (upd H p (.lst (timesL xs n)))
theorem zbak {X:Cx}:OpR X (binaryOp .Mult) rMulL:=by
 intro aU s σ H x y v u Q I r1 r2 h;obtain⟨l,xs,n,rfl,rfl,hl,ne,lo,hi,hz,q⟩:=h;cases r1;obtain⟨tk,rfl⟩:=r2;obtain⟨z,its,m,r,e⟩:=(show ObjOk X.prog X.w H s.heap l (.lst xs) from I.hok l _ hl)
 have len:=r.length;have ne':¬ its.toArray.isEmpty=true:=by
  cases its with
  | nil=>cases r;exact absurd rfl ne
  | cons a l=>intro z;cases z
 have hm:its.toArray.size * n.toNat<=1000000:=by
  rw[xbq,← len];exact xbb (xmb hz (by lia:n.toNat<=1000)) (by decide)
 have h0:¬(!Builtin.List.listFitsIndex n)=true:=by
  simp[Builtin.List.listFitsIndex];lia
 have h1:¬its.toArray.size * n.toNat >(2 ^ 63 - 1) / 8:=by lia
 have h2:¬Builtin.List.listTooLong (its.toArray.size * n.toNat)=true:=by
  simp only[Builtin.List.listTooLong,xgr,xea];lia
 have ef:List.foldl (fun(x1 x2:Array Value)=>x1++x2) #[] (List.replicate n.toNat its.toArray)=((List.replicate n.toNat its).flatten).toArray:=by
  have:=zjh its n.toNat []
  simpa using this
 refine wpAny_binaryOp_repeat_ref (T:="list") (U:="int") (by decide) ⟨_, e, rfl⟩ (fun s'=>typeIs_int s' n tk) noFill_list_mul F.fills_int_mul F.slot_int_rmul repeat_list F.slot_int_index.lookup
   (xll F.slot_int_rmul (typeIs_int s n tk) F.entry_int_rmul (F.args_int_rmul_2 _ _) (int___rmul___int_list n tk l its.toArray m) ⟨e,rfl,⟨_,e,rfl⟩,?_⟩)
 refine xll F.slot_list_mul ⟨_,e,rfl⟩ F.entry_list_mul (F.args_list_mul_2 _ _) (PySem.AutoListH.list___mul___list_int_3 l its.toArray m n tk h0 h1 h2) ⟨e,?_⟩;rw[if_neg ne',ef];have lenT:(timesL xs n).length=n.toNat * xs.length:=zlk xs n.toNat;have hsl:(timesL xs n).length<=sizeLine:=by
  rw[lenT,xgr,Nat.mul_comm,len,← xbq];lia
 exact⟨.ref s.heap.objs.size,_,I.laid (t':=s.toks) (o:=.lst (timesL xs n)) (fun b ob hb=>xbd _ hb) (xbf _) ⟨hsl,_,0,r.times n.toNat,xbr _ rfl⟩,rfl,q _ (I.hok.fresh (xbf _))⟩
end L2
namespace Dd
open PySem L2 PyProof.Rows
section
variable {X:Cx}{R:RXT}{e:Expr}{es:List Expr}{f:SE}{g:SA}{pos p:Pos}{x:Str}
noncomputable def oMulL (x y:D) (st:Store):Res D:=match x,y with
 | .lst xs,.int n=>if xs≠[]/\0<=n/\n<=1000/\xs.length<=1000 then .ok (.lst (timesL xs n)) st else .stuck
 | _,_=>.stuck
theorem zbat {K:Fg}:OpD K oMulL rMulL:=fun ρ H st x y u v z st' Q rp a b e q=>by
 unfold oMulL at e;split at e
 ·rename_i xs n;split at e
  ·rename_i hs;cases e;cases b;cases a with
   | lst h1 h2 h3 =>
    have hl:=h3.length;refine⟨_,_,n,rfl,rfl,h1,fun z=>?_,hs.2.1,hs.2.2.1,by rw[hl];exact hs.2.2.2,fun p hp=>?_⟩
    ·subst z;cases h3;exact hs.1 rfl
    ·exact q _ _ _ (Ext.new hp _) (rp.new hp _) (.newL rp hp (h3.times n.toNat))
  ·cases e
 ·cases e
end
end Dd
namespace L2
open PySem PySem.Spec PyProof.Rows
section
variable {X:Cx}
end
end L2
namespace Dd
open PySem L2 PyProof.Rows
end Dd
namespace L2
open PySem PySem.Spec PyProof.Rows
end L2
namespace Dd
open PySem L2 PyProof.Rows
section
variable {X:Cx}{o e:Expr}{es:List Expr}{f:SE}{ga:SA}{apos cpos:Pos}
end
end Dd
namespace L2
open PySem PySem.Spec PyProof.Rows
end L2
namespace Dd
open PySem L2 PyProof.Rows
section
variable {K:Fg}{ρ:Loc}{H:Hp}{kvs:List (Int×D)}{vs:List (Key×V)}
end
section
variable {X:Cx}{o e a:Expr}{es:List Expr}{f:SE}{ga:SA}{apos cpos pos:Pos}
end
end Dd
namespace L2
open PySem PySem.Spec PyProof.Rows
end L2
namespace Dd
open PySem L2 PyProof.Rows
end Dd
namespace L2
open PySem PySem.Spec PyProof.Rows
section
variable {X:Cx}{tg:Expr}
end
end L2
namespace Dd
open PySem PySem.Spec PyProof.Rows L2
section
variable {X:Cx}{tg l:Expr}{f:SE}{p pos:Pos}
end
end Dd
namespace L2
open PySem PySem.Spec PyProof.Rows PySem.W
section
variable {X:Cx}{aU:List (Addr×Obj)}{σ:St}{H:Hp}{s:Shared}
end
end L2
namespace Dd
open PySem PySem.Spec PyProof.Rows L2
section
variable {X:Cx}{l a b c o i e value:Expr}{f g h:SE}{elts:List Expr}{n:Nat}{tpos p pos pos':Pos}
end
end Dd
namespace Dd
open PySem L2 PyProof.Rows
section
variable {X:Cx}{pos pos' p:Pos}{x:Str}{i:Nat}
theorem sv (hN:X.N[i]?=some x:=by rfl)(hv:Vis X.env.scope x:=by first | exact Or.inl rfl | exact Or.inr (Or.inl rfl) | exact Or.inr (Or.inr rfl))(hd:(x==("__debug__" : Str))=false:=by decide)
 (hcd:(x==("__classdict__" : Str))=false:=by decide):JE X (.Name x pos) (aA i):=zbha (pv i hN hv hd hcd)
theorem scl {k j:Nat}{ps:List Str}{F:DFn}{e:Expr}{es:List Expr}{g:SA}(c:CalD X.prog X.w X.K X.mg X.base x k ps F)(hr:Room j X.A)(ha:JA X (e::es) g)(hn:∀ds st v st',F ds st=.ok v st'->ds.length=ps.length:=by exact fun _ _ _ _ h=>zbbp h)(hk:k<=j:=by first | decide | lia)(hg:Gl X x:=by rfl)
 (hdb:(x==("__debug__" : Str))=false:=by decide)(he:starEach (e::es) X.env=(false, eval e X.env)::starEach es X.env:=by rfl)(hpl:(backTo pos (starEach es X.env)).any (·.1)=false:=by rfl):JE X (.Call (.Name x p) (e::es) [] pos) (aE F g):=zbcr c hn (hr.mono hk) hg ha hdb he hpl
theorem sst {e:Expr}{f:SE}(hN:X.N.Nodup)(he:JE X e f)(hi:X.N[i]?=some x:=by rfl)(hx:L2.Loc X.env.scope x:=by first | exact Or.inl rfl | exact Or.inr rfl)(hs:swapsWith e (some (.Name x pos')) pos.line X.env=pure false:=by rfl)(hf:X.fn x=true\/X.env.scope.names.lookup x=some .local:=by first | exact .inl rfl | exact .inr rfl | assumption) :
 JS X (.Assign [.Name x pos'] e pos) (aF i f):=zbbx hN hi hx he hs hf
theorem sgn (hN:X.N.Nodup)(hi:X.N[i]?=some x:=by rfl)(hx:L2.Loc X.env.scope x:=by first | exact Or.inl rfl | exact Or.inr rfl)(hf:X.fn x=true\/X.env.scope.names.lookup x=some .local:=by first | exact .inl rfl | exact .inr rfl | assumption):JG X (.Name x pos) (gN i):=zcd hN hi hx hf
theorem sfr {tg iter:Expr}{body:List Stmt}{it:SA}{bd:SG}{b:SS}(hi:JI X tg iter it)(hg:JG X tg bd)(hb:JB X body b)(hp:PassesOwn (model X.prog X.w) X.A X.env X.xe:=by exact PassesOwn.never)(hc:X.calm=true:=by rfl)(hs:∀x,foldedSetIterable iter X.env x=pure x:=by intro _;rfl) :
 JS X (.For tg iter body [] pos) (sFor it bd b):=zbby hp hc hi hg hb hs
theorem scp {iter elt:Expr}{it:SA}{f:SE}(N:List Str){k:Nat}{is:List Nat}{scope:Scope}(hi:JI X (.Name x p) iter it)(he:∀cl C fp s H,JE (cxC X N scope cl C fp s H) elt f)(nd:N.Nodup:=by decide +kernel)(S:CompScope X N k is scope:=by exact zge (by rfl))(hcalm:X.calm=true:=by rfl)
  (hg:N.Nodup->∀cl C fp s H,JG (cxC X N scope cl C fp s H) (.Name x p) (gN 0):=by exact fun nd _ _ _ _ _=>sgn nd)(hs:∀x,foldedSetIterable iter X.env x=pure x:=by intro _;rfl):JE X (.ListComp elt [⟨.Name x p,iter,[],0⟩] scope pos) (aG it k is (gN 0) aI f) :=
 zgd hcalm hi (hg nd) (fun _ _ _ _ _=>zkq) he S hs
theorem sa1 {a:Expr}{f:SE}(ha:JE X a f)(hp:plainE a=true:=by rfl):JA X [a] (aB f aC):=ze ha zex hp
theorem sa2 {a b:Expr}{f g:SE}(ha:JE X a f)(hb:JE X b g)(hp:plainE a=true:=by rfl)(hq:plainE b=true:=by rfl):JA X [a,b] (aB f (aB g aC)):=ze ha (sa1 hb hq) hp
theorem sad {a b:Expr}{f g:SE}(ha:JE X a f)(hb:JE X b g):JE X (.BinOp a .Add b pos) (aS aM f g):=zey zbap zbfl ha hb
theorem ssb {a b:Expr}{f g:SE}(ha:JE X a f)(hb:JE X b g):JE X (.BinOp a .Sub b pos) (aS oSub f g):=zey zbfe (zwl fun _ _ _ _=>.int _) ha hb
end
structure En where
 P:Program
 w:World
 K:Fg
 mg:Str->Option Value
 base:Heap
 h:Heap
 X:K.In h
 G:h.Ns mainGlobals mg
noncomputable abbrev Cl (Y:En) (x:Str) (k:Nat) (ps:List Str) (F:DFn):Prop:=CalD Y.P Y.w Y.K Y.mg Y.base x k ps F
section
variable {Y:En}{x:Str}{st:Stmt}{ps:List Str}{k:Nat}{b:SS}
theorem cmk (N:List Str)(T:TopF Y.K x st)(hbody:N.Nodup->∀(f:Addr) (cdv:Value) (A:Around) (outer:List Env) (s:Shared) (H:Hp) (E:XK),Room k (A.deeper (envOfC x (defScope st) s.heap.objs.size f cdv))->JB (cxOf CX0 Y.P Y.w Y.K Y.mg Y.base N x (defScope st) f cdv A outer s H E).nox (defBody st) b)
 (S:FnScope N ps (defScope st):=by exact⟨rfl,rfl,rfl,by decide +kernel,rfl,by decide +kernel,by decide +kernel⟩)
 (bd:∀(kV doc pm:Value) (an:Option Addr) (cdv ct:Value) (us:List Value),us.length=ps.length->bindArgs (W.fnOf x x (defArgs st) (defBody st) (defScope st) .none kV doc pm an cdv ct) ⟨us,[]⟩=pure (ps.zip us):=by
  first | exact fun _ _ _ _ _ _ us hl=>len1 us hl fun _=>rfl | exact fun _ _ _ _ _ _ us hl=>len2 us hl fun _ _=>rfl | exact fun _ _ _ _ _ _ us hl=>len3 us hl fun _ _ _=>rfl | exact fun _ _ _ _ _ _ us hl=>len4 us hl fun _ _ _ _=>rfl | exact fun _ _ _ _ _ _ us hl=>len0 us hl rfl) :
 Cl Y x (k+1) ps (fnD N.length ps.length b):=zxy T Y.X Y.G S bd (hbody S.nd)
end
end Dd
namespace L2
open PySem PySem.Spec PyProof.Rows PySem.W
end L2
namespace Dd
open PySem L2 PyProof.Rows
section
variable {X:Cx}{R:RXT}{e:Expr}{es:List Expr}{f f':SE}{g:SA}{pos p:Pos}{x:Str}{k:Nat}{ps:List Str}{F:DFn}
end
end Dd
namespace L2
open PySem PySem.Spec PyProof.Rows
open Builtin Builtin.Str in
open Builtin Builtin.Str in
section
variable {X:Cx}{tg:Expr}
end
end L2
namespace Dd
open PySem L2 PyProof.Rows
section
variable {X:Cx}{tg l o e:Expr}{es:List Expr}{f:SE}{ga:SA}{apos cpos pos:Pos}
end
end Dd
namespace L2
open PySem PySem.Spec PyProof.Rows
section
variable {prog:Program}{w:World}{A:Around}{E:Value->Shared->Prop}{s:Shared}{z TI TO i1 i2 t2:Addr}{x0:Str}{tk:Tok}{ys:Array Value}{j:Nat}
end
section
variable {prog:Program}{w:World}{A:Around}{E:Value->Shared->Prop}{s:Shared}
end
section
variable {X:Cx}
end
end L2
namespace Dd
open PySem L2 PyProof.Rows
section
variable {X:Cx}{o a b e:Expr}{es:List Expr}{f f':SE}{ga g:SA}{apos cpos pos p2 q1 q2:Pos}{lo hi:Option Expr}{l h:DS->Store->Res (Option Int)}
end
end Dd
namespace L2
open PySem PySem.Spec PyProof.Rows PySem.W
section
variable {prog:Program}{w:World}{K:Type}[DecidableEq K](knd:PySem.KeyKind prog w K)
variable {knd}
variable {A:Around}{E:Value->Shared->Prop}{s:Shared}
end
end L2
namespace Dd
open PySem PySem.Spec PyProof.Rows PySem.W L2
section
variable {P:Program}{w:World}{K:Fg}{ρ:Loc}{H:Hp}{h:Heap}
end
section
variable {X:Cx}{o i e value:Expr}{f g h:SE}{pos pos' apos cpos:Pos}
end
end Dd
namespace Dd
open PySem L2
noncomputable def zek:DFn:=fnD 5 2 (aD (aF 2 (eC (.int 0)))
 (aD (sIf (eB (aS oLtT (aA 1) (aE bLen (aB (aA 0) aC)))) (aF 2 (aE bAbs (aB (aS oIx (aA 0) (aA 1)) aC))) sNx)
 (aD (aF 3 (aS aM (aS oMulI (eC (.int 7919)) (aA 1)) (eC (.int 17))))
 (aD (sFor (iR1 (aB (aE bMin2 (aB (aE bLen (aB (aA 0) aC)) (aB (eC (.int 60)) aC))) aC)) (gN 4) (aF 3 (aS oMod (aS aM (aS aM (aS oMulI (aA 3) (eC (.int 48271))) (aS oMod (aS oIx (aA 0) (aA 4)) (eC (.int 2147483647)))) (aA 4)) (eC (.int 2147483629)))))
 (aD (sIf (eB (aS oLtT (aA 2) (aS oPow (eC (.int 10)) (eC (.int 18))))) (aF 2 (eC (.int 0))) sNx)
 (sRet (eLstM (aB (aA 2) (aB (aA 3) aC)))))))))
noncomputable def zd:DFn:=fnD 5 2 (aD (sIf (eB (aS oGt (aS oIx (aA 0) (eC (.int 0))) (eC (.int 0)))) (aD (aF 2 (aS oMod (aS oIx (aA 0) (eC (.int 0))) (aA 1)))
 (aD (sSetIx (aA 0) (eC (.int 0)) (aS oFdiv (aS oIx (aA 0) (eC (.int 0))) (aA 1)))
 (sRet (aA 2)))) sNx)
 (aD (aF 3 (eC (.int 0)))
 (aD (aF 4 (eC (.int 1)))
 (aD (sWhile (eB (aS oLtT (aA 4) (aA 1))) (aD (sSetIx (aA 0) (eC (.int 1)) (aS oMod (aS aM (aS oMulI (aS oIx (aA 0) (eC (.int 1))) (eC (.int 48271))) (eC (.int 7919))) (eC (.int 2147483647))))
 (aD (aF 3 (aS aM (aS oMulI (aA 3) (eC (.int 1073741789))) (aS oMod (aS oMulI (aS oFdiv (aS oIx (aA 0) (eC (.int 1))) (eC (.int 8))) (eC (.int 69621))) (eC (.int 1073741789)))))
 (aF 4 (aS oMulI (aA 4) (eC (.int 1073741789)))))))
 (sRet (aS oMod (aA 3) (aA 1)))))))
noncomputable def zra:DFn:=fnD 2 2 (sIf (eB (aS (oDIn false) (aA 1) (aA 0))) (sDrop (eDPop (aA 0) (aA 1))) (sDPut (aA 0) (aA 1) (eC (.bl true))))
noncomputable def zdw:SS:=(sDPut (aA 1) (aA 2) (eNot (eDGet2 (aA 1) (aA 2) (eC (.bl false)))))
noncomputable def zq:DFn:=fnD 3 1 (aD (aF 1 eDNew)
 (aD (sFor (aH (aA 0)) (gN 2) zdw)
 (sRet (aE bTuple (aB (aE bSorted (aB (aG (iDict (aA 1)) 1 [1] (gN 0) (eTru (aS oDGet (aA 1) (aA 0))) (aA 0)) aC)) aC)))))
noncomputable def zeh:DFn:=fnD 2 2 (sRet (aS oEq (aS oAndI (aA 0) (aA 1)) (aA 1)))
noncomputable def zbx:DFn:=fnD 1 1 (sRet (eAnd (aE bIsinst (aB (aA 0) (aB (eC (.ty "int")) aC))) (eNot (aE bIsinst (aB (aA 0) (aB (eC (.ty "bool")) aC))))))
noncomputable def zcb:DFn:=fnD 1 1 (sRet (aS oIx (eLst (aB (eC (.int 1)) (aB (eC (.int 2)) (aB (eC (.int 2)) (aB (eC (.int 2)) (aB (eC (.int 3)) (aB (eC (.int 3)) (aB (eC (.int 3)) (aB (eC (.int 4)) (aB (eC (.int 4)) (aB (eC (.int 5)) (aB (aS aM (eC (.int 5)) (aE zd (aB (aA 0) (aB (eC (.int 6)) aC)))) aC)))))))))))) (aE zd (aB (aA 0) (aB (eC (.int 11)) aC)))))
noncomputable def zbv:SS:=(aD (sDrop (eAppend (aA 4) (aB (aE zd (aB (aA 0) (aB (aS aM (aA 3) (eC (.int 1))) aC))) aC)))
 (aF 3 (aS oSub (aA 3) (aS oIx (aA 4) (eUn oNeg (eC (.int 1)))))))
noncomputable def zca:DFn:=fnD 7 3 (aD (aF 3 (aE zd (aB (aA 0) (aB (aS aM (aA 2) (eC (.int 1))) aC))))
 (aD (sIf (eB (aS oEq (aE zd (aB (aA 0) (aB (eC (.int 2)) aC))) (eC (.int 0)))) (aF 3 (aA 2)) sNx)
 (aD (aF 4 (eLstM aC))
 (aD (sFor (iR1 (aB (aS oSub (aA 1) (eC (.int 1))) aC)) (gN 5) zbv)
 (aD (sDrop (eAppend (aA 4) (aB (aA 3) aC)))
 (aD (aF 6 (aE zd (aB (aA 0) (aB (aA 1) aC))))
 (sRet (aE bTuple (aB (aS aM (eSl (aA 4) (pSome (aA 6)) pNone) (eSl (aA 4) pNone (pSome (aA 6)))) aC)))))))))
noncomputable def zej:DFn:=fnD 4 4 (sRet (aE zq (aB (aG (iR1 (aB (aE zd (aB (aA 0) (aB (aS aM (aA 2) (eC (.int 1))) aC))) aC)) 1 [0,1,3] (gN 0) aI (aE zca (aB (aA 1) (aB (aA 2) (aB (aA 3) aC))))) aC)))
noncomputable def zdm:SS:=(aD (sIf (bOr (bNot (eTru (aE bIsinst (aB (aA 2) (aB (eC (.ty "tuple")) aC))))) (eB (aS oNe (aE bLen (aB (aA 2) aC)) (aA 0)))) (sRet (eC (.bl false))) sNx)
 (sIf (bNot (eTru (aE (bAny true) (aB (aG (aH (aA 2)) 1 [] (gN 0) aI (eAnd (aE zbx (aB (aA 0) aC)) (aS oGe (aA 0) (eC (.int 0))))) aC)))) (sRet (eC (.bl false))) sNx))
noncomputable def zcp:DFn:=fnD 3 2 (aD (sIf (bNot (eTru (aE bIsinst (aB (aA 1) (aB (eC (.ty "tuple")) aC))))) (sRet (eC (.bl false))) sNx)
 (aD (sFor (aH (aA 1)) (gN 2) zdm)
 (sRet (aE (bAny true) (aB (aG (iZipT (aB (aA 1) (aB (eSl (aA 1) (pSome (eC (.int 1))) pNone) aC))) 2 [] (gT 2 (gsCons (gN 0) (gsCons (gN 1) gsNil))) aI (aS oLtT (aA 0) (aA 1))) aC)))))
noncomputable def zhc:SS:=(sDrop (aE zra (aB (aA 2) (aB (aA 4) aC))))
noncomputable def zci:SS:=(aD (aF 7 (aE zd (aB (aA 0) (aB (aS aM (aA 3) (eC (.int 1))) aC))))
 (aD (sIf (eB (aS oEq (aA 5) (eC (.int 0)))) (aF 7 (aE (bBest true) (aB (aG (aH (aR (aB (eC (.int 0)) (aB (eC (.int 1)) (aB (eC (.int 3)) (aB (eC (.int 7)) (aB (eC (.int 15)) aC))))))) 1 [7] (gN 0) (eB (aS oLe (aA 0) (aA 1))) (aA 0)) aC))) sNx)
 (aD (sDrop (eAppend (aA 4) (aB (aA 7) aC)))
 (aF 3 (aS oSub (aA 3) (aA 7))))))
noncomputable def zbh:DFn:=fnD 9 3 (aD (aF 3 (aA 2))
 (aD (aF 4 (eLstM aC))
 (aD (aF 5 (aE zd (aB (aA 0) (aB (eC (.int 3)) aC))))
 (aD (sFor (iR1 (aB (aS oSub (aA 1) (eC (.int 1))) aC)) (gN 6) zci)
 (aD (sDrop (eAppend (aA 4) (aB (aA 3) aC)))
 (aD (aF 8 (aE zd (aB (aA 0) (aB (aA 1) aC))))
 (sRet (aE bTuple (aB (aS aM (eSl (aA 4) (pSome (aA 8)) pNone) (eSl (aA 4) pNone (pSome (aA 8)))) aC)))))))))
noncomputable def zbu:DFn:=fnD 4 4 (sRet (aE zq (aB (aG (iR1 (aB (aE zd (aB (aA 0) (aB (aS aM (aA 3) (eC (.int 1))) aC))) aC)) 1 [0,1,2] (gN 0) aI (aE zbh (aB (aA 1) (aB (aA 2) (aB (aA 3) aC))))) aC)))
noncomputable def zdk:DFn:=fnD 2 2 (sRet (aS oEq (aS oMod (aE bLen (aB (aG (aH (aA 0)) 1 [1] (gN 0) (eB (aS (oInG false) (aA 0) (aA 1))) (aA 0)) aC)) (eC (.int 2))) (eC (.int 1))))
noncomputable def zbc:SS:=(sIf (eTru (aE zeh (aB (aS oSub (aA 1) (aA 6)) (aB (aA 6) aC)))) (sDrop (eAppend (aA 3) (aB (aR (aB (aS aM (aA 4) (aR (aB (aS oSub (aA 1) (aA 6)) aC))) (aB (aS oSub (aA 5) (aA 6)) aC))) aC))) sNx)
noncomputable def zcq:DFn:=fnD 3 2 (aD (aF 2 (aS oIx (eLst (aB (eC (.int 24)) (aB (eC (.int 24)) (aB (eC (.int 18)) (aB (eC (.int 8)) (aB (eC (.int 5)) (aB (eC (.int 4)) (aB (eC (.int 3)) (aB (eC (.int 3)) (aB (eC (.int 3)) (aB (eC (.int 2)) aC))))))))))) (aS oSub (aA 1) (eC (.int 1)))))
 (sRet (aS oIx (eLst (aB (aA 2) (aB (aE zd (aB (aA 0) (aB (aS aM (aA 2) (eC (.int 1))) aC))) aC))) (aE bInt (aB (aS oGt (aE zd (aB (aA 0) (aB (eC (.int 3)) aC))) (eC (.int 0))) aC)))))
end Dd
namespace L2
open PySem
namespace St
theorem zum (mask:Nat):∀(a b i per:Nat),iAt mask (a+b) i per=iAt mask b (iAt mask a i per) (per / 32 ^ a)
 | 0,b,i,per=>by
  rw[xdz,Nat.pow_zero,Nat.div_one]
  rfl
 | a+1,b,i,per=>by
  rw[show a+1+b=(a+b)+1 by lia];show iAt mask (a+b) _ _=_;rw[zum mask a b,Nat.div_div_eq_div_mul,← Nat.pow_succ']
  rfl
theorem zbbl {mask:Nat}:∀(k i per:Nat),i<=mask->iAt mask k i per<=mask
 | 0,_,_,h=>h
 | k+1,i,per,_=>zbbl k _ _ (xce (xjh _ (by lia)))
noncomputable def cov0 (mask i:Nat):Bool:=Nat.beq (accI mask (mask+1) 0 i 0) (2 ^ (mask+1) - 1)
theorem cz7:(List.range 8).all (cov0 7)=true:=by decide +kernel
theorem cz31:(List.range 32).all (cov0 31)=true:=by decide +kernel
theorem cz127:(List.range 128).all (cov0 127)=true:=by decide +kernel
theorem covA {mask per i j:Nat}(hm:MaskOk mask)(hp:per < 2 ^ 64)(hi:i<=mask)(hj:j<=mask):∃k,k < mask+14/\iAt mask k i per=j:=by
 have h13:iAt mask 13 i per<=mask:=zbbl _ _ _ hi;have c:cov0 mask (iAt mask 13 i per)=true:=by
  rcases hm with rfl | rfl | rfl
  ·exact xed.mp cz7 _ (xcf.mpr (by lia))
  ·exact xed.mp cz31 _ (xcf.mpr (by lia))
  ·exact xed.mp cz127 _ (xcf.mpr (by lia))
 have e:=Nat.eq_of_beq_eq_true c;have t:(accI mask (mask+1) 0 (iAt mask 13 i per) 0).testBit j=true:=by
  rw[e,Nat.testBit_two_pow_sub_one];exact xcs (by lia)
 rcases zvh mask j _ _ _ _ t with z | ⟨k,k1,k2⟩
 ·simp at z
 ·refine⟨13+k,by lia,?_⟩;rw[zum,Nat.div_eq_of_lt (by lia)];exact k2
noncomputable def adv (mask:Nat) (p:SetTable.Probe):SetTable.Probe:=if p.more > 0 then {p with j:=p.j+1,more:=p.more - 1} else nextP mask p
theorem zbdh (t:SetTable)(p:SetTable.Probe):t.advance p=adv t.mask p:=by
 unfold SetTable.advance adv;split<;>rfl
noncomputable def pn (mask:Nat) (h:Int):Nat->SetTable.Probe
 | 0=>{j:=SetTable.bits h % (mask+1),more:=SetTable.runEnd mask (SetTable.bits h % (mask+1)) - SetTable.bits h % (mask+1),i:=SetTable.bits h % (mask+1),perturb:=SetTable.bits h,dummy:=none}
 | n+1=>adv mask (pn mask h n)
section
variable {mask:Nat}{h:Int}
theorem zhi:∀n,(pn mask h n).dummy=none
 | 0=>rfl
 | n+1=>by
  have:=zhi n;show(adv mask (pn mask h n)).dummy=none;unfold adv;split
  ·exact this
  ·exact this
theorem zyu:∀(k n:Nat),k<=(pn mask h n).more->(pn mask h (n+k)).j=(pn mask h n).j+k/\(pn mask h (n+k)).more=(pn mask h n).more - k/\(pn mask h (n+k)).i=(pn mask h n).i/\(pn mask h (n+k)).perturb=(pn mask h n).perturb
 | 0,n,_=>⟨rfl,rfl,rfl,rfl⟩
 | k+1,n,hk=>by
  obtain⟨h1,h2,h3,h4⟩:=zyu k n (by lia);have e:pn mask h (n+(k+1))={pn mask h (n+k) with j:=(pn mask h (n+k)).j+1,more:=(pn mask h (n+k)).more - 1}:=by
   show adv mask (pn mask h (n+k))=_;unfold adv;rw[if_pos (by lia)]
  rw[e];dsimp only;exact⟨by lia,by lia,h3,h4⟩
theorem win (n:Nat):pn mask h (n+(pn mask h n).more+1)=nextP mask (pn mask h n):=by
 obtain⟨h1,h2,h3,h4⟩:=zyu (mask:=mask) (h:=h) _ n (xbf _);show adv mask (pn mask h (n+(pn mask h n).more))=_;unfold adv;rw[if_neg (by lia)];unfold nextP;rw[h3,h4,zhi,zhi]
structure Sta (mask:Nat) (p:SetTable.Probe):Prop where
 j:p.j=p.i
 le:p.i<=mask
 more:p.more=SetTable.runEnd mask p.i - p.i
theorem sta0:Sta mask (pn mask h 0):=⟨rfl,xce (xjh _ (by lia)),rfl⟩
theorem Sta.next {n:Nat}(s:Sta mask (pn mask h n)):Sta mask (pn mask h (n+(pn mask h n).more+1)):=by
 rw[win];exact⟨rfl,xce (xjh _ (by lia)),rfl⟩
theorem starts:∀(k n:Nat),Sta mask (pn mask h n)->∃n',n'<=n+10 * k/\(pn mask h n').j=iAt mask k (pn mask h n).i (pn mask h n).perturb
 | 0,n,s=>⟨n,by lia,s.j⟩
 | k+1,n,s=>by
  obtain⟨n',h1,h2⟩:=starts k _ s.next;have:=zdx s.le;have:=s.more;refine⟨n',by lia,h2.trans ?_⟩;rw[win]
  rfl
theorem zvd (h:Int):SetTable.bits h < 2 ^ 64:=by
 unfold SetTable.bits;lia
theorem covers (hm:MaskOk mask)(h:Int){j:Nat}(hj:j<=mask):∃n,n < 10 * SetTable.turns mask/\(pn mask h n).j=j:=by
 obtain⟨k,k1,k2⟩:=covA hm (zvd h) (sta0 (mask:=mask) (h:=h)).le hj;obtain⟨n,n1,n2⟩:=starts (mask:=mask) (h:=h) k 0 sta0;exact⟨n,by unfold SetTable.turns;lia,n2.trans k2⟩
theorem zbio:∀n,(pn mask h n).j+(pn mask h n).more<=mask
 | 0=>by
  have:=zdx (sta0 (mask:=mask) (h:=h)).le;show SetTable.bits h % (mask+1)+(SetTable.runEnd mask (SetTable.bits h % (mask+1)) - SetTable.bits h % (mask+1))<=mask;show _<=mask;have e:(pn mask h 0).i=SetTable.bits h % (mask+1):=rfl;rw[e] at this;lia
 | n+1=>by
  have:=zbio n;show(adv mask (pn mask h n)).j+(adv mask (pn mask h n)).more<=mask;unfold adv;split
  ·dsimp only;lia
  ·unfold nextP;dsimp only;have:=zdx (mask:=mask) (i:=((pn mask h n).i * 5+1+(pn mask h n).perturb / 32) % (mask+1)) (xce (xjh _ (by lia)));lia
theorem zber (n:Nat):(pn mask h n).j<=mask:=by
 have:=zbio (mask:=mask) (h:=h) n;lia
end
theorem least {p:Nat->Prop}:∀n,p n->∃N,N<=n/\p N/\∀m,m < N->¬ p m
 | n,hn=>by
  by_cases c:∃m,m < n/\p m
  ·obtain⟨m,m1,m2⟩:=c;obtain⟨N,N1,N2,N3⟩:=least m m2;exact⟨N,by lia,N2,N3⟩
  ·exact⟨n,xbf _,hn,fun m h1 h2=>c ⟨m,h1,h2⟩⟩
theorem first {t:SetTable}(g:Tb t)(hm:MaskOk t.mask)(hr:t.place.size<=t.mask)(h:Int):∃N,N < 10 * SetTable.turns t.mask/\(pn t.mask h N).j∉t.place.toList/\∀m,m < N->(pn t.mask h m).j∈t.place.toList:=by
 obtain⟨j,j1,j2⟩:=room g hr;obtain⟨n,n1,n2⟩:=covers hm h j1;obtain⟨N,N1,N2,N3⟩:=least (p:=fun n=>(pn t.mask h n).j∉t.place.toList) n (by rw[n2];exact j2);exact⟨N,by lia,N2,fun m hm=>Classical.not_not.mp (N3 m hm)⟩
theorem Tb.empty {t:SetTable}(g:Tb t){j:Nat}(hj:j∉t.place.toList):t.slot j=.empty:=by
 rcases g.slot j with⟨a,_⟩ | ⟨_,a⟩
 ·exact a
 ·exact absurd a hj
theorem Tb.live {t:SetTable}(g:Tb t){i j:Nat}(hi:t.place[i]?=some j):t.slot j=.live i:=by
 have hj:j∈t.place.toList:=by
  rw[← xbs] at hi;exact xbx hi
 have hb:=zii g.up hj;have e:SetTable.below t.place j=i:=by
  rw[← xbs] at hi hb;obtain⟨a1,a2⟩:=xbm.mp hi;obtain⟨b1,b2⟩:=xbm.mp hb;rcases xlk (SetTable.below t.place j) i with c | c | c
  ·have:lt _ _:=xfa.mp g.up _ _ b1 a1 c;unfold lt at this;lia
  ·exact c
  ·have:lt _ _:=xfa.mp g.up _ _ a1 b1 c;unfold lt at this;lia
 unfold SetTable.slot;dsimp only;rw[e,hi,if_pos (xef _)]
theorem Tb.lives {t:SetTable}(g:Tb t){j:Nat}(hj:j∈t.place.toList):∃i:Nat,t.slot j=.live i/\t.place[i]?=some j:=by
 have hb:=zii g.up hj;exact⟨_,g.live hb,hb⟩
theorem zbiz {t:SetTable}(g:Tb t)(ha:Nat->Int)(h:Int){N:Nat}(emp:(pn t.mask h N).j∉t.place.toList)(full:∀m,m < N->(pn t.mask h m).j∈t.place.toList):∀(d n fuel:Nat),n+d=N->d < fuel ->
  (SetTable.probe.go t ha h fuel (pn t.mask h n)=some (.empty (pn t.mask h N).j none)/\∀k,n<=k->k < N->∀i,t.slot (pn t.mask h k).j=.live i->ha i≠h) \/
  ∃m i,n<=m/\m < N/\t.slot (pn t.mask h m).j=.live i/\t.place[i]?=some (pn t.mask h m).j/\ha i=h/\SetTable.probe.go t ha h fuel (pn t.mask h n)=some (.candidate (pn t.mask h m).j i (pn t.mask h (m+1)))/\∀k,n<=k->k < m->∀i,t.slot (pn t.mask h k).j=.live i->ha i≠h
 | _,_,0,_,hf=>absurd hf (by lia)
 | 0,n,fuel+1,hd,_=>by
  have:n=N:=by lia
  subst this
  left
  refine⟨?_,fun k h1 h2=>absurd h1 (by lia)⟩;unfold SetTable.probe.go;rw[g.empty emp];dsimp only;rw[zhi]
 | d+1,n,fuel+1,hd,hf=>by
  obtain⟨i,s1,s2⟩:=g.lives (full n (by lia));by_cases c:ha i=h
  ·right
   refine⟨n,i,xbf _,by lia,s1,s2,c,?_,fun k h1 h2=>absurd h1 (by lia)⟩;unfold SetTable.probe.go;rw[s1];dsimp only;rw[if_pos (by rw[c];exact xef _),zbdh]
   rfl
  ·have e:SetTable.probe.go t ha h (fuel+1) (pn t.mask h n)=SetTable.probe.go t ha h fuel (pn t.mask h (n+1)):=by
    conv=>lhs;unfold SetTable.probe.go
    rw[s1];dsimp only;rw[if_neg (by simpa using c),zbdh]
    rfl
   rw[e];have here:∀i',t.slot (pn t.mask h n).j=.live i'->ha i'≠h:=fun i' hi'=>by
    rw[s1] at hi';injection hi' with hi'
    exact hi' ▸ c
   rcases zbiz g ha h emp full d (n+1) fuel (by lia) (by lia) with⟨a,b⟩ | ⟨m,i2,a1,a2,a3,a4,a5,a6,a7⟩
   ·left
    refine⟨a,fun k h1 h2=>?_⟩;by_cases ck:k=n
    ·exact ck ▸ here
    ·exact b k (by lia) h2
   ·right
    refine⟨m,i2,by lia,a2,a3,a4,a5,a6,fun k h1 h2=>?_⟩;by_cases ck:k=n
    ·exact ck ▸ here
    ·exact a7 k (by lia) h2
noncomputable def Rc (mask:Nat) (place:List Nat) (es:List (Int×Value)):Prop:=∀q∈List.zip place es,∃n,(pn mask q.2.1 n).j=q.1/\∀m,m < n->(pn mask q.2.1 m).j∈place
theorem zyq {α β:Type}{a:List α}{b:List β}(p:Nat)(x:α)(y:β)(h:a.length=b.length):∀q∈List.zip (a.take p++x::a.drop p) (b.take p++y::b.drop p),q=(x,y)\/q∈List.zip a b:=fun q hq=>by
 rw[List.zip_append (by simp[h]),xhy] at hq;rcases xbt.mp hq with hq | hq
 ·right
  rw[List.zip_eq_zipWith,← List.take_zipWith] at hq;exact xdt hq
 ·rcases xbl.mp hq with hq | hq
  ·exact .inl hq
  ·right
   rw[List.zip_eq_zipWith,← List.drop_zipWith] at hq;exact xej hq
theorem Rc.put {mask:Nat}{place:List Nat}{es:List (Int×Value)}(r:Rc mask place es)(hl:place.length=es.length){h:Int}{x:Value}{N:Nat}(p:Nat)(full:∀m,m < N->(pn mask h m).j∈place) :
  Rc mask (place.take p++(pn mask h N).j::place.drop p) (es.take p++(h,x)::es.drop p):=fun q hq=>by
 have sub:∀y,y∈place->y∈place.take p++(pn mask h N).j::place.drop p:=fun y hy=>by
  rw[← xcr p place] at hy;rcases xbt.mp hy with hy | hy
  ·exact xbt.mpr (.inl hy)
  ·exact xbt.mpr (.inr (xbp _ hy))
 rcases zyq p _ _ hl q hq with rfl | hq
 ·exact⟨N,rfl,fun m hm=>sub _ (full m hm)⟩
 ·obtain⟨n,n1,n2⟩:=r q hq;exact⟨n,n1,fun m hm=>sub _ (n2 m hm)⟩
end St
namespace St
section
variable {mask:Nat}{owner:Array (Option Nat)}
theorem zup {h:Int}:∀(fuel n j:Nat),Sta mask (pn mask h n)->SetTable.layClean.free mask owner fuel (pn mask h n).i (pn mask h n).perturb=some j ->
  ∃n',n<=n'/\(pn mask h n').j=j/\owner.getD j (some 0)=none/\∀m,n<=m->m < n'->owner.getD (pn mask h m).j (some 0)≠none
 | 0,_,_,_,e=>by
  unfold SetTable.layClean.free at e;cases e
 | fuel+1,n,j,s,e=>by
  have hr:=zdx s.le;have hmore:=s.more;have hj:=s.j;unfold SetTable.layClean.free at e;cases f:(List.range (SetTable.runEnd mask (pn mask h n).i+1 - (pn mask h n).i)).find? fun k=>(owner.getD ((pn mask h n).i+k) (some 0)).isNone with
  | some z =>
   rw[f] at e;cases e;obtain⟨z1,z2,z3⟩:=List.find?_range_eq_some.mp f;have z2:=xcf.mp z2;obtain⟨w1,_⟩:=zyu (mask:=mask) (h:=h) z n (by lia);refine⟨n+z,by lia,by lia,by simpa using z1,fun m m1 m2=>?_⟩;obtain⟨w2,_⟩:=zyu (mask:=mask) (h:=h) (m - n) n (by lia);rw[show n+(m - n)=m by lia] at w2;have:=z3 (m - n) (by lia);rw[w2,hj];intro z;rw[z] at this;cases this
  | none =>
   rw[f] at e;dsimp only at e;have hn:=List.find?_eq_none.mp f;have e2:SetTable.layClean.free mask owner fuel (pn mask h (n+(pn mask h n).more+1)).i (pn mask h (n+(pn mask h n).more+1)).perturb=some j:=by
    rw[win];exact e
   obtain⟨n',a1,a2,a3,a4⟩:=zup fuel _ j s.next e2;refine⟨n',by lia,a2,a3,fun m m1 m2=>?_⟩;by_cases c:m<=n+(pn mask h n).more
   ·obtain⟨w2,_⟩:=zyu (mask:=mask) (h:=h) (m - n) n (by lia);rw[show n+(m - n)=m by lia] at w2;have:=hn (m - n) (xcf.mpr (by lia));rw[w2,hj];intro z;rw[z] at this;exact this rfl
   ·exact a4 m (by lia) m2
end
structure Ov (mask n:Nat) (hs:List Int) (owner:Array (Option Nat)):Prop where
 ow:Ow mask n owner
 rc:∀j k,owner.getD j none=some k->∃h n',hs[k]?=some h/\(pn mask h n').j=j/\∀m,m < n'->owner.getD (pn mask h m).j none≠none
theorem zbbn {owner:Array (Option Nat)}{j:Nat}(h:j < owner.size)(d:Option Nat):owner.getD j d=owner.getD j none:=by
 rw[xcl,xcl,xdq h]
 rfl
theorem Ov.step {mask n:Nat}{hs:List Int}{owner:Array (Option Nat)}(o:Ov mask n hs owner)(hm:MaskOk mask){h:Int}(hh:hs[n]?=some h)(hn:n<=mask) :
  ∃j,SetTable.layClean.free mask owner (SetTable.turns mask) (SetTable.bits h % (mask+1)) (SetTable.bits h)=some j/\Ov mask (n+1) hs (owner.setIfInBounds j (some n)):=by
 have sz:=o.ow.size;obtain⟨j0,a1,a2⟩:=zbai o.ow hn;obtain⟨k,k1,k2⟩:=covA hm (zvd h) (sta0 (mask:=mask) (h:=h)).le a1
 obtain⟨j,f1,f2,f3⟩:=zuq (owner:=owner) (mask:=mask) (SetTable.turns mask) (SetTable.bits h % (mask+1)) (SetTable.bits h) (xce (xjh _ (by lia))) ⟨k,by unfold SetTable.turns;lia,by
  have k2:iAt mask k (SetTable.bits h % (mask+1)) (SetTable.bits h)=j0:=k2;rw[k2]
  exact a2⟩
 obtain⟨n',b1,b2,b3,b4⟩:=zup (mask:=mask) (owner:=owner) (h:=h) (SetTable.turns mask) 0 j sta0 f1;have hs':j < owner.size:=by lia
 have gj:(owner.setIfInBounds j (some n)).getD j none=some n:=by
  rw[xcl,xgj hs']
  rfl
 have gd:∀i,i≠j->(owner.setIfInBounds j (some n)).getD i none=owner.getD i none:=fun i hi=>by
  rw[xcl,xcl,xhu (xda hi)]
 have up:∀i,owner.getD i none≠none->(owner.setIfInBounds j (some n)).getD i none≠none:=fun i hi=>by
  by_cases c:i=j
  ·rw[c,gj];exact fun z=>by cases z
  ·rw[gd i c];exact hi
 refine⟨j,f1,⟨by rw[Array.size_setIfInBounds];exact sz,?_⟩,fun i k e=>?_⟩
 ·have p:=zev owner (n:=n) f3 hs' (List.range (mask+1)) List.nodup_range (xcf.mpr (by lia));refine p.trans ((List.Perm.cons n o.ow.perm).trans ?_);rw[xiw];exact(List.perm_append_singleton n _).symm
 ·by_cases c:i=j
  ·subst c;rw[gj] at e;cases e;refine⟨h,n',hh,b2,fun m hm=>up _ fun z=>b4 m (xec _) hm ?_⟩;have:=zber (mask:=mask) (h:=h) m;rw[zbbn (by lia)];exact z
  ·rw[gd i c] at e;obtain⟨h2,n2,c1,c2,c3⟩:=o.rc i k e;exact⟨h2,n2,c1,c2,fun m hm=>up _ (c3 m hm)⟩
theorem zlz {mask:Nat}(hm:MaskOk mask){hs:List Int}:∀(l:List Int) (n:Nat) (owner:Array (Option Nat)),Ov mask n hs owner->hs.drop n=l->n+l.length<=mask ->
  ∃owner',l.foldl (fun acc h=>do
   let (owner,k) ← acc
   let j ← SetTable.layClean.free mask owner (SetTable.turns mask) (SetTable.bits h % (mask+1)) (SetTable.bits h)
   pure (owner.setIfInBounds j (some k),k+1)) (some (owner,n))=some (owner',n+l.length)/\Ov mask (n+l.length) hs owner'
 | [],n,owner,o,_,_=>⟨owner,rfl,o⟩
 | h::l,n,owner,o,hd,hl=>by
  rw[xby] at hl ⊢;have hh:hs[n]?=some h:=by
   have:=congrArg (fun l:List Int=>l[0]?) hd
   simpa using this
  obtain⟨j,f1,f2⟩:=o.step hm hh (by lia);obtain⟨o',g1,g2⟩:=zlz hm l (n+1) _ f2 (by rw[← xjg,hd];rfl) (by lia);refine⟨o',?_,by rw[show n+(l.length+1)=n+1+l.length by lia];exact g2⟩;rw[xhe]
  have e:(do
   let (owner,k) ← some (owner,n)
   let j ← SetTable.layClean.free mask owner (SetTable.turns mask) (SetTable.bits h % (mask+1)) (SetTable.bits h)
   pure (owner.setIfInBounds j (some k),k+1):Option (Array (Option Nat)×Nat))=some (owner.setIfInBounds j (some n),n+1):=by
   show(SetTable.layClean.free mask owner (SetTable.turns mask) (SetTable.bits h % (mask+1)) (SetTable.bits h)).bind _=_;rw[f1]
   rfl
  rw[e,g1,show n+(l.length+1)=n+1+l.length by lia]
theorem zpr {mask:Nat}(hm:MaskOk mask){hs:Array Int}(hn:hs.size<=mask):∃owner,SetTable.layClean mask hs=some owner/\Ov mask hs.size hs.toList owner:=by
 obtain⟨o,e,w⟩:=zlz hm (hs:=hs.toList) hs.toList 0 _ ⟨ow0 mask,fun j k e=>by
  rw[xcl,Array.getElem?_replicate] at e
  split at e<;>cases e⟩ rfl (by simpa using hn)
 rw[xdz] at e w;refine⟨o,?_,by simpa using w⟩;unfold SetTable.layClean;rw[← Array.foldl_toList,e]
 rfl
theorem zod {β:Type}(f:Nat->Option β):∀(L:List (Nat×Nat)),(∀q∈L,(f q.2).isSome=true)->∀q∈List.zip (L.map (·.1)) ((L.map (·.2)).filterMap f),∃k,(q.1,k)∈L/\f k=some q.2
 | [],_,q,hq=>by cases hq
 | (j,k)::L,h,q,hq=>by
  obtain⟨x,hx⟩:=xja.mp (h (j,k) (by simp));rw[xbn,xbn,xdb (f:=f) hx,xhy] at hq;rcases xbl.mp hq with rfl | hq
  ·exact⟨k,by simp,hx⟩
  ·obtain⟨k',h1,h2⟩:=zod f L (fun q hq=>h q (xbp _ hq)) q hq;exact⟨k',xbp _ h1,h2⟩
theorem relay2 {t:SetTable}{es:Array (Int×Value)}{wanted:Nat}(g:Tb t)(hm:MaskOk (SetTable.sizeAbove wanted - 1))(hn:es.size<=SetTable.sizeAbove wanted - 1) :
  ∃(order:Array Nat) (t':SetTable),t.relaid (es.map (·.1)) wanted=some (t',order)/\Tb t'/\t'.mask=SetTable.sizeAbove wanted - 1/\t'.led=t.led/\t'.place.size=es.size/\(order.filterMap (es[·]?)).size=es.size/\(order.filterMap (es[·]?)).toList.Perm es.toList /\
   Rc t'.mask t'.place.toList (order.filterMap (es[·]?)).toList:=by
 obtain⟨owner,e1,w⟩:=zpr hm (hs:=es.map (·.1)) (by simpa using hn);rw[Array.size_map] at w;generalize hmk:SetTable.sizeAbove wanted - 1=mask at e1 w hm hn
 let live:=(List.range (mask+1)).filterMap fun j=>(owner.getD j none).map fun k=>(j,k)
 have l1:live.map (·.1)=(List.range (mask+1)).filter fun j=>(owner.getD j none).isSome:=zpo owner _
 have l2:live.map (·.2)=ownL owner mask:=zpn owner _;have hp:=w.ow.perm;rw[← l2] at hp;have hperm:((live.map (·.2)).filterMap fun i=>es[i]?).Perm es.toList:=by
  refine(hp.filterMap _).trans ?_;have:=zrv es.toList;rw[xca] at this;rw[show(List.range es.size).filterMap (fun i=>es[i]?)=es.toList from(zia fun i _=>(xbs (xs:=es)).symm).trans this]
 have hlen:((live.map (·.2)).filterMap fun i=>es[i]?).length=es.size:=by rw[hperm.length_eq,xca]
 have hll:live.length=es.size:=by
  have:=hp.length_eq;rw[xbe,xfn] at this;exact this
 have er:t.relaid (es.map (·.1)) wanted=some ({mask,place:=(live.map (·.1)).toArray,dummies:=#[],finger:=t.finger,led:=t.led,moves:=t.movedTo mask,plain:=t.plain},(live.map (·.2)).toArray):=by
  unfold SetTable.relaid SetTable.laid;rw[hmk,e1]
  rfl
 have c2:(live.map (·.2)).toArray.filterMap (fun x=>es[x]?)=((live.map (·.2)).filterMap fun i=>es[i]?).toArray:=by simp
 refine⟨_,_,er,⟨?_,rfl,fun y hy=>?_,g.pl⟩,rfl,rfl,?_,?_,?_,?_⟩
 ·show(live.map (·.1)).toArray.toList.Pairwise lt;rw[xko,l1];exact xgc xkn List.pairwise_lt_range
 ·dsimp only at hy ⊢;rw[l1] at hy;have:=xcf.mp (xdn.mp hy).1;lia
 ·dsimp only;rw[xbq,xbe,hll]
 ·rw[c2,xbq,hlen]
 ·rw[c2,xko];exact hperm
 ·rw[c2,xko];dsimp only;intro q hq;have kin:∀z∈live,z.2 < es.size:=fun z hz=>by
   have:z.2∈live.map (·.2):=xkm hz;exact xcf.mp (hp.mem_iff.mp this)
  obtain⟨k,k1,k2⟩:=zod (fun i=>es[i]?) live (fun z hz=>by
   rw[xdq (kin z hz)]
   rfl) q hq
  obtain⟨j',j1,j2⟩:=xkr.mp k1;cases ho:owner.getD j' none with
  | none=>rw[ho] at j2;cases j2
  | some k' =>
   rw[ho] at j2;cases j2;obtain⟨h,n,h1,h2,h3⟩:=w.rc _ _ ho;have k2:es[k]?=some q.2:=k2;have eh:h=q.2.1:=by
    rw[Array.toList_map,xct,xbs,k2] at h1;cases h1
    rfl
   subst eh;refine⟨n,h2,fun m hm=>?_⟩;show _∈live.map (·.1);rw[l1];refine xdn.mpr ⟨xcf.mpr ?_,?_⟩
   ·have:=zber (mask:=mask) (h:=q.2.1) m;lia
   ·have:=h3 m hm;cases e:owner.getD (pn mask q.2.1 m).j none with
    | none=>exact absurd e this
    | some z=>rfl
end St
end L2
namespace L2
open PySem PySem.W PyProof.Rows PySem.Spec
namespace St
section
variable {P:Program}{w:World}{A:Around}{E:Value->Shared->Prop}{s:Shared}
theorem zpu {ks:List Int}{a:Addr}{Q:Bool->Shared->Prop}(hk:IsTupleKey (intKind P w) s.heap ks a)(h:Q true s):wpAny (model P w) A (hashByValue 8 (.ref a)) Q E s:=by
 have hT:=hk.typeIs;obtain⟨o,items,n,ho,_,hd,hi⟩:=hk;unfold hashByValue;refine xba (wpAny_specialOf hT F.slot_tuple_hash.lookup ?_);show wpAny _ _ (seqItems? (.ref a) >>= _) _ _ s;refine xba (xho ho hd ?_);refine xba ?_;show wpAny _ _ (forIn items _ _) _ _ s;rw[← Array.forIn_toList];refine xjv _ (fun rest r s'=>r.1=none/\s'=s/\∃l,ItemsAre (intKind P w) l rest) _ ?_ ?_ _ _ ⟨rfl,rfl,ks,hi⟩
 ·rintro v rest r s' ⟨hr,rfl,l,hl⟩;cases hl with
  | cons h1 h2 =>
   obtain⟨t,rfl⟩:=xlc h1;refine xba (xbc ?_);simp only[xhh,xbu,xdc];exact xbc ⟨rfl,rfl,_,h2⟩
 ·rintro⟨r1,r2⟩ s' ⟨hr,rfl,_⟩;simp only at hr;subst hr;exact xbc h
theorem zmm {ks:List Int}{a:Addr}{Q:Bool->Shared->Prop}(hk:IsTupleKey (intKind P w) s.heap ks a)(h:Q false s):wpAny (model P w) A (ofAClassStatement 8 (.ref a)) Q E s:=by
 have hT:=hk.typeIs;obtain⟨o,items,n,ho,_,hd,hi⟩:=hk;unfold ofAClassStatement;refine xba (wpAny_typeOf hT ?_);dsimp only;rw[if_pos (xef _)];refine xba (xbc ?_);simp only[xhh,xbu,xdc];refine xba (xho ho hd ?_);dsimp only;refine xba ?_;show wpAny _ _ (forIn items _ _) _ _ s;rw[← Array.forIn_toList];refine xjv _ (fun rest r s'=>r.1=none/\s'=s/\∃l,ItemsAre (intKind P w) l rest) _ ?_ ?_ _ _ ⟨rfl,rfl,ks,hi⟩
 ·rintro v rest r s' ⟨hr,rfl,l,hl⟩;cases hl with
  | cons h1 h2 =>
   obtain⟨t,rfl⟩:=xlc h1;refine xba (xbc ?_);simp only[xbu,xdc];exact xbc ⟨rfl,rfl,_,h2⟩
 ·rintro⟨r1,r2⟩ s' ⟨hr,rfl,_⟩;simp only at hr;subst hr;exact xbc h
theorem zvq {ks:List Int}{a:Addr}{Q:Bool->Shared->Prop}(hk:IsTupleKey (intKind P w) s.heap ks a){l:List Value}(hl:∀v∈l,∃ks b,v=Value.ref b/\IsTupleKey (intKind P w) s.heap ks b)(h:Q false s):wpAny (model P w) A (searchCouldBeSeen (.ref a) l) Q E s:=by
 unfold searchCouldBeSeen;refine xba ?_;refine xjv _ (fun rest r s'=>r.1=none/\s'=s/\∀v∈rest,∃ks b,v=Value.ref b/\IsTupleKey (intKind P w) s.heap ks b) _ ?_ ?_ _ _ ⟨rfl,rfl,hl⟩
 ·rintro v rest r s' ⟨hr,rfl,hall⟩;obtain⟨k2,b,rfl,hb⟩:=hall v (by simp);have rest':∀v∈rest,∃ks b,v=Value.ref b/\IsTupleKey (intKind P w) s'.heap ks b:=fun v hv=>hall v (xbp _ hv)
  dsimp only;by_cases c:a=b
  ·subst c;simp only[xef,Bool.true_or,xeb];exact xbc ⟨rfl,rfl,rest'⟩
  ·have c':(a==b)=false:=by simpa using c
   simp only[c',carriedByValue,Bool.and_self,Bool.or_self,xbu,xdc];refine xba (wpAny_eqIsQuiet_tuple hk ?_);simp only[xhh,xbu,xdc];refine xba (wpAny_eqIsQuiet_tuple hb ?_);simp only[xhh,xbu,xdc];refine xba (zmm hk ?_);simp only[xbu,xdc];refine xba (zmm hb ?_);simp only[xbu,xdc];exact xbc ⟨rfl,rfl,rest'⟩
 ·rintro⟨r1,r2⟩ s' ⟨hr,rfl,_⟩;simp only at hr;subst hr;exact xbc h
end
section
variable (P:Program)(w:World)
noncomputable def ent (x:List Int×Addr):Int×Value:=(tupleKeyHash (intKind P w) x.1,.ref x.2)
noncomputable def TK (h:Heap) (l:List (List Int×Addr)):Prop:=∀x∈l,IsTupleKey (intKind P w) h x.1 x.2
structure Tu (es:Array (Int×Value)) (t:SetTable) (l:List (List Int×Addr)):Prop where
 tb:Tb t
 mo:MaskOk t.mask
 ld:t.led=!w.params.followText "set-order"
 sz:t.place.size=es.size
 room:t.place.size * 5 < t.mask * 3
 el:es.toList.Perm (l.map (ent P w))
 nd:(l.map (·.1)).Nodup
 rc:Rc t.mask t.place.toList es.toList
noncomputable def Su (h:Heap) (a:Addr) (l:List (List Int×Addr)):Prop:=∃ob es ep t,h.get? a=some ob/\ob.ExactSet/\ob.data=.set es ep t/\Tu P w es t l
end
section
variable {P:Program}{w:World}{A:Around}{E:Value->Shared->Prop}{s:Shared}{es:Array (Int×Value)}{t:SetTable}{l:List (List Int×Addr)}{a:Addr}
theorem Su.kept {h h':Heap}(x:Su P w h a l)(k:∀o,h.get? a=some o->h'.get? a=some o):Su P w h' a l :=
 let ⟨ob,es,ep,t,e,r⟩:=x;⟨ob,es,ep,t,k _ e,r⟩
theorem Tu.fits (h:Tu P w es t l):t.fits es.size=true:=by
 have:=h.room;have hz:=h.sz;unfold SetTable.fits SetTable.fill;rw[h.tb.nd];simp;lia
theorem Tu.len (h:Tu P w es t l):es.size=l.length:=by
 have:=h.el.length_eq
 simpa using this
theorem Tu.ent (h:Tu P w es t l){i:Nat}{e:Int×Value}(he:es[i]?=some e):∃x∈l,e=St.ent P w x:=by
 rw[← xbs] at he;obtain⟨x,h1,h2⟩:=xcp.mp (h.el.mem_iff.mp (xbx he));exact⟨x,h1,h2.symm⟩
theorem Tu.way (h:Tu P w es t l){i j:Nat}{e:Int×Value}(he:es[i]?=some e)(hj:t.place[i]?=some j):∃n,(pn t.mask e.1 n).j=j/\∀m,m < n->(pn t.mask e.1 m).j∈t.place.toList:=by
 rw[← xbs] at he hj;exact h.rc (j,e) (xbx (i:=i) (List.getElem?_zip_eq_some.mpr ⟨hj,he⟩))
theorem zlp (t:SetTable):t.sameMemory t.moves t.mask=some true:=by
 unfold SetTable.sameMemory;rw[if_pos (xef _)]
theorem zln {ob:Obj}{ep:Nat}{b:Addr}{x:List Int}{adding:Bool}{N:Nat}{Q:SetFound->Shared->Prop}(hu:A.units < cLine)(ho:s.heap.get? a=some ob)(hd:ob.data=.set es ep t)(T:Tu P w es t l)(tk:TK P w s.heap l)(hx:IsTupleKey (intKind P w) s.heap x b)
  (hN:N < 10 * SetTable.turns t.mask)(emp:(pn t.mask (tupleKeyHash (intKind P w) x) N).j∉t.place.toList)(full:∀m,m < N->(pn t.mask (tupleKeyHash (intKind P w) x) m).j∈t.place.toList)
  (yes:x∈l.map (·.1)->∀o:Option Nat,(adding=false->o.isSome=true)->Q (.there o) s)(no:x∉l.map (·.1)->Q (.free (pn t.mask (tupleKeyHash (intKind P w) x) N).j false) s) :
  ∀(F n:Nat) (stand:Option SetTable.Probe),stand.getD (t.probeStart (tupleKeyHash (intKind P w) x))=pn t.mask (tupleKeyHash (intKind P w) x) n->n<=N->N - n < F ->
   (x∈l.map (·.1)->∃n0 i0 y,n<=n0/\n0 < N/\t.slot (pn t.mask (tupleKeyHash (intKind P w) x) n0).j=.live i0/\es[i0]?=some (tupleKeyHash (intKind P w) x,.ref y)/\(x,y)∈l) ->
   wpAny (model P w) A (setSearchFrom a (.ref b) (tupleKeyHash (intKind P w) x) adding F stand) Q E s
 | 0,_,_,_,_,hF,_=>absurd hF (by lia)
 | F+1,n,stand,hst,hn,hF,hin=>by
  have gw:t.gaveWay=false:=by
   unfold SetTable.gaveWay;rcases T.mo with e | e | e<;>rw[e]<;>rfl
  unfold setSearchFrom;refine xba (xfp ho hd T.fits ?_);dsimp only;rw[gw,hst];simp only[xbu,xdc];unfold SetTable.probe;rcases zbiz T.tb (fun i=>(es[i]?.map (·.1)).getD 0) (tupleKeyHash (intKind P w) x) emp full (N - n) n (10 * SetTable.turns t.mask) (by lia) (by lia) with⟨g1,g2⟩ | ⟨m,i,m1,m2,m3,m4,m5,m6,m7⟩
  ·generalize hg:SetTable.probe.go t _ _ _ _=r;have er:=hg.symm.trans g1;subst er;dsimp only;refine xbc (no fun hxl=>?_);obtain⟨n0,i0,y,a1,a2,a3,a4,a5⟩:=hin hxl;refine g2 n0 a1 a2 i0 a3 ?_;rw[a4]
   rfl
  ·generalize hg:SetTable.probe.go t _ _ _ _=r;have er:=hg.symm.trans m6;subst er;have hi:i < es.size:=by
    have:=(xit.mp m4).1;have:=T.sz;lia
   have e0:es[i]?=some es[i]:=xdq hi;obtain⟨⟨x',y⟩,z1,z2⟩:=T.ent e0;rw[z2] at e0;have e1:es[i]?=some (tupleKeyHash (intKind P w) x,.ref y):=by
    rw[e0];have m5:(es[i]?.map (·.1)).getD 0=_:=m5;rw[e0] at m5;show some (tupleKeyHash (intKind P w) x',Value.ref y)=_;rw[show tupleKeyHash (intKind P w) x'=_ from m5]
   have hy:=tk _ z1;dsimp only;simp only[e1];cases hled:t.led;simp only[Bool.not_false,xeb]
   refine xba (zvq hx (fun v hv=>by
     obtain⟨e,q1,q2⟩:=xcp.mp hv;rw[Array.toList_filter] at q1;obtain⟨i',q3⟩:=xkb.mp (xdn.mp q1).1;rw[xbs] at q3;obtain⟨u,u1,u2⟩:=T.ent q3;subst u2
     exact⟨u.1,u.2,q2.symm,tk _ u1⟩) ?_)
   all_goals
    simp only[xhh,xbu,xdc];refine xba (xdx (wpAny_eqBool_tuple hu hy hx ?_));refine xba (xfp ho hd T.fits ?_);dsimp only;by_cases ce:x'=x
    ·subst ce;have hxl:x'∈l.map (·.1):=xcp.mpr ⟨_,z1,rfl⟩;simp only[xgu,Bool.and_true];cases ha:adding
     ·simp only[xbu,xdc,zlp,xeb,m3,e1];refine xba (wpAny_isSame_ref_self ?_);refine xba (xbc ?_);simp only[xeb];exact xbc (yes hxl _ fun _=>rfl)
     ·simp only[xeb];exact xbc (yes hxl _ fun z=>by rw[ha] at z;cases z)
    ·simp only[xcg ce,xma,xbu,xdc,zlp,xeb,m3,e1];refine xba (wpAny_isSame_ref_self ?_);refine xba (xbc ?_);simp only[xeb];refine zln hu ho hd T tk hx hN emp full yes no F (m+1) (some _) rfl (by lia) (by lia) fun hxl=>?_
     obtain⟨n0,i0,y0,a1,a2,a3,a4,a5⟩:=hin hxl;refine⟨n0,i0,y0,?_,a2,a3,a4,a5⟩;rcases xlk n0 m with c | c | c
     ·exact absurd (show(es[i0]?.map (·.1)).getD 0=_ by rw[a4];rfl) (m7 n0 a1 c i0 a3)
     ·subst c;rw[m3] at a3;injection a3 with a3
      subst a3;rw[e1] at a4;injection a4 with a4
      injection a4 with _ a4
      injection a4 with a4
      subst a4;exact absurd ((tk _ z1).inj (tk (x,y) a5)) ce
     ·exact c
theorem Tu.spot (T:Tu P w es t l){x:List Int}{N:Nat}(hx:x∈l.map (·.1))(emp:(pn t.mask (tupleKeyHash (intKind P w) x) N).j∉t.place.toList) :
  ∃n0 i0 y,0<=n0/\n0 < N/\t.slot (pn t.mask (tupleKeyHash (intKind P w) x) n0).j=.live i0/\es[i0]?=some (tupleKeyHash (intKind P w) x,.ref y)/\(x,y)∈l:=by
 obtain⟨⟨x',y⟩,h1,rfl⟩:=xcp.mp hx;have h2:St.ent P w (x',y)∈es.toList:=T.el.mem_iff.mpr (xkm h1);obtain⟨i,hi⟩:=xkb.mp h2;rw[xbs] at hi;have hlt:i < t.place.size:=by
  have:=(xit.mp hi).1;have:=T.sz;lia
 have hp:t.place[i]?=some t.place[i]:=xdq hlt;obtain⟨n,n1,n2⟩:=T.way hi hp;have n1:(pn t.mask (tupleKeyHash (intKind P w) x') n).j=t.place[i]:=n1;refine⟨n,i,y,xec _,?_,T.tb.live (by rw[n1];exact hp),hi,h1⟩;rcases xlk n N with c | c | c
 ·exact c
 ·subst c;refine absurd ?_ emp;rw[n1];rw[← xbs] at hp;exact xbx hp
 ·exact absurd (n2 N c) emp
theorem zlv {m:Nat}(h:MaskOk m):m<=127:=by
 rcases h with rfl | rfl | rfl<;>decide
theorem zlo {ob:Obj}{ep:Nat}{b:Addr}{x:List Int}{adding:Bool}{Q:SetFound->Shared->Prop}(hu:A.units < cLine)(ho:s.heap.get? a=some ob)(hd:ob.data=.set es ep t)(T:Tu P w es t l)(tk:TK P w s.heap l)(hx:IsTupleKey (intKind P w) s.heap x b)
  (yes:x∈l.map (·.1)->∀o:Option Nat,(adding=false->o.isSome=true)->Q (.there o) s)
  (no:x∉l.map (·.1)->∀N,(pn t.mask (tupleKeyHash (intKind P w) x) N).j∉t.place.toList->(∀m,m < N->(pn t.mask (tupleKeyHash (intKind P w) x) m).j∈t.place.toList)->Q (.free (pn t.mask (tupleKeyHash (intKind P w) x) N).j false) s) :
  wpAny (model P w) A (setSearch a (.ref b) (tupleKeyHash (intKind P w) x) adding) Q E s:=by
 obtain⟨N,N1,N2,N3⟩:=first T.tb T.mo (by have:=T.room;lia) (tupleKeyHash (intKind P w) x)
 have:=zlv T.mo;unfold setSearch;exact zln hu ho hd T tk hx N1 N2 N3 yes (fun h=>no h N N2 N3) 100000 0 none rfl (xec _) (by unfold SetTable.turns at N1;lia) fun h=>T.spot h N2
theorem zbbs {b:Addr}{x:List Int}{Q:Option Nat->Shared->Prop}(hu:A.units < cLine)(S:Su P w s.heap a l)(tk:TK P w s.heap l)(hx:IsTupleKey (intKind P w) s.heap x b)
  (fin:∀o:Option Nat,o.isSome=decide (x∈l.map (·.1))->Q o s):wpAny (model P w) A (setFind a (.ref b) (tupleKeyHash (intKind P w) x)) Q E s:=by
 obtain⟨ob,es,ep,t,ho,hex,hd,T⟩:=S;unfold setFind setFindIn;refine xba (xfp ho hd T.fits ?_);dsimp only;rw[if_neg (show ¬ byScan (Value.ref b) es=true from fun z=>by cases z)];refine xba (zlo hu ho hd T tk hx (fun h o ho=>?_) fun h N _ _=>?_)
 ·exact xbc (fin o (by rw[ho rfl,xcs h]))
 ·exact xbc (fin none (by rw[xcg h];rfl))
theorem zvg {b:Addr}{x:List Int}{Q:Bool->Shared->Prop}(hu:A.units < cLine)(S:Su P w s.heap a l)(tk:TK P w s.heap l)(hx:IsTupleKey (intKind P w) s.heap x b)(few:l.length < 64)
  (fin:∀h' b',Heap.SameBut a s.heap h'->Su P w h' a (if x∈l.map (·.1) then l else(x,b)::l)->Q b' {s with heap:=h'}) :
  wpAny (model P w) A (setAddHashed a (.ref b) (tupleKeyHash (intKind P w) x)) Q E s:=by
 obtain⟨ob,es,ep,t,ho,hex,hd,T⟩:=id S;unfold setAddHashed setAddHashedIn;refine xdx (xba (xfp ho hd T.fits ?_));dsimp only;rw[if_neg (show ¬ byScan (Value.ref b) es=true from fun z=>by cases z)];refine xba (zlo hu ho hd T tk hx (fun h o _=>?_) fun h N N1 N2=>?_)
 ·have f:=fin s.heap false (Heap.SameBut.refl a s.heap);rw[if_pos h] at f;exact xbc (f S)
 ·rw[if_neg h] at fin;dsimp only;refine xba (xfp ho hd T.fits ?_);generalize hj:(pn t.mask (tupleKeyHash (intKind P w) x) N).j=j at N1;have hb:=(zgg T.tb.up j).1;obtain⟨t1,ht⟩:∃t1:SetTable,{t with place:=SetTable.insertAt t.place (SetTable.below t.place j) j}=t1:=⟨_,rfl⟩
  have e1:t.put j=(t1,SetTable.below t.place j):=by
   rw[← ht];unfold SetTable.put;dsimp only;rw[T.tb.nd,zpv]
   rfl
  have pl1:t1.plain=true:=by
   rw[← ht];exact T.tb.pl
  dsimp only;rw[e1];dsimp only;have sz:=T.sz;have room:=T.room;have ln:=T.len;have s1:=zgy t.place (SetTable.below t.place j) j hb;have s2:=zgy es (SetTable.below t.place j) (tupleKeyHash (intKind P w) x,Value.ref b) (by lia);rw[pl1,if_pos rfl];refine xba (zpu hx ?_);simp only[xeb];refine xba (wpAny_storeSet_of ho hd ?_ (by rw[xgr];lia));have rc1:Rc t.mask (SetTable.insertAt t.place (SetTable.below t.place j) j).toList (SetTable.insertAt es (SetTable.below t.place j) (tupleKeyHash (intKind P w) x,Value.ref b)).toList:=by
   rw[zbr,zbr,← hj];exact T.rc.put (by simpa using sz) _ N2
  have el1:(SetTable.insertAt es (SetTable.below t.place j) (tupleKeyHash (intKind P w) x,Value.ref b)).toList.Perm (((x,b)::l).map (St.ent P w)):=by
   rw[zbr];refine(xlo).trans ?_;rw[xcr];exact T.el.cons _
  have nd1:(((x,b)::l).map (·.1)).Nodup:=xey.mpr ⟨h,T.nd⟩;have tb1:Tb t1:=by
   rw[← ht];refine⟨T.tb.up.insert N1,T.tb.nd,fun y hy=>?_,T.tb.pl⟩;dsimp only at hy ⊢;rw[zbr] at hy;rcases xbt.mp hy with hy | hy
   ·exact T.tb.inm y (xdt hy)
   ·rcases xbl.mp hy with rfl | hy
    ·rw[← hj];exact zber N
    ·exact T.tb.inm y (xej hy)
  generalize hes:SetTable.insertAt es (SetTable.below t.place j) (tupleKeyHash (intKind P w) x,Value.ref b)=es1 at s2 rc1 el1;have rc1:Rc t1.mask t1.place.toList es1.toList:=by
   rw[← ht];exact rc1
  have mk1:t1.mask=t.mask:=by rw[← ht]
  have ld1:t1.led=t.led:=by rw[← ht]
  have sz1:t1.place.size=es.size+1:=by
   rw[← ht];show(SetTable.insertAt t.place (SetTable.below t.place j) j).size=_;lia
  have g1:=zzk ho hd es1 t1;have sb1:=xft s.heap a (Obj.putSet es1 t1);rcases zbbm (t:=t1) (m:=es.size) tb1.nd (by rw[mk1];exact T.mo) sz1 (by rw[mk1];lia) (by lia) with⟨c1,c2⟩ | ⟨c1,c2,c3,c4⟩
  ·rw[c1];simp only[xma,xbu,xdc];exact xbc (fin _ _ sb1 ⟨_,es1,ep+1,t1,g1,hex,rfl,tb1,by rw[mk1];exact T.mo,ld1.trans T.ld,by lia,by lia,el1,nd1,rc1⟩)
  ·rw[c1];simp only[Bool.not_false,Bool.and_true,xeb];have fit1:t1.fits es1.size=true:=by
    unfold SetTable.fits SetTable.fill;rw[tb1.nd,sz1,s2];have:=zlv T.mo;simp;rcases T.mo with e | e | e<;>lia
   obtain⟨order,t2,er,tb2,mk2,ld2,sz2,ln2,pm2,rc2⟩:=relay2 (t:=t1) (es:=es1) (wanted:=SetTable.grown (es.size+1)) tb1 c2 (by lia);unfold setRelay;refine xba (xba (xfp g1 rfl fit1 ?_));dsimp only;have sa:=zlv c2;rw[if_neg (by rw[xgr];lia),er];refine xba ?_;show wpAny _ _ (if((order.filterMap (es1[·]?)).size != es1.size)=true then(unsupported "internal:set-table-lost-an-element" >>= fun(_:PUnit)=>pure (order.filterMap (es1[·]?), t2)) else pure (order.filterMap (es1[·]?), t2)) _ _ _
   rw[if_neg (by rw[ln2];simp)];refine xbc ?_;dsimp only;refine wpAny_storeSet_of g1 rfl ?_ (by rw[xgr];lia);refine xbc (fin _ _ (sb1.trans (xft _ a _)) ⟨_,order.filterMap (es1[·]?),ep+1+1,t2,zzk g1 rfl _ t2,hex,rfl,tb2,by rw[mk2];exact c2,ld2.trans (ld1.trans T.ld),by lia,?_,pm2.trans el1,nd1,rc2⟩);rw[mk2];lia
end
end St
namespace St
noncomputable def addT (x:List Int×Addr) (ks:List (List Int×Addr)):List (List Int×Addr):=if x.1∈ks.map (·.1) then ks else x::ks
noncomputable def metT:List (List Int×Addr)->List (List Int×Addr)->List (List Int×Addr)
 | [],ks=>ks
 | x::l,ks=>metT l (addT x ks)
noncomputable def Keep (h0 h:Heap):Prop:=∀b o,h0.get? b=some o->h.get? b=some o
theorem TK.mono {P:Program}{w:World}{h0 h:Heap}{l:List (List Int×Addr)}(t:TK P w h0 l)(k:Keep h0 h):TK P w h l:=fun x hx=>by
 obtain⟨o,its,n,a,b⟩:=t x hx;exact⟨o,its,n,k _ _ a,b⟩
theorem zlc {x:List Int×Addr}{ks ns:List (List Int×Addr)}(hx:x∈ns)(h:∀y∈ks,y∈ns):∀y∈addT x ks,y∈ns:=fun y hy=>by
 unfold addT at hy;split at hy
 ·exact h y hy
 ·rcases xbl.mp hy with rfl | hy
  ·exact hx
  ·exact h y hy
theorem zld (x:List Int×Addr)(ks:List (List Int×Addr)):(addT x ks).length<=ks.length+1:=by
 unfold addT;split
 ·lia
 ·simp
section
variable {P:Program}{w:World}{B:Around}{R:Result->Shared->Prop}{it:Addr}{fp wr:List Addr}{G:Array GenState->Array GenState->Prop}{N:Nat}{It:Nat->Value->Prop}{St:Nat->Shared->Prop}{h0:Heap}
theorem zpm (hu:B.in1.units < cLine)(W:WalksS P w B.in1 it fp wr G N It St)(a:Addr)(na:a∉fp)(ns:List (List Int×Addr))(hN:ns.length=N)(few:N<=64)(tk:TK P w h0 ns)(fr:∀b∈a::wr,h0.get? b=none)
  (val:∀i v,It i v->∃x,ns[i]?=some x/\v=Value.ref x.2):∀(r:List (List Int×Addr)) (i:Nat) (ks:List (List Int×Addr)) (s:Shared),ns.drop i=r->i<=N->St i s->Su P w s.heap a ks->ks.length<=i->(∀x∈ks,x∈ns)->Keep h0 s.heap ->
   (∀ s', Moved (a::wr) G s s'->Su P w s'.heap a (metT r ks)->Keep h0 s'.heap->R (.ok (.ret .none)) s')->codeAny (model P w) B (.builtin "set.update.loop" ⟨[.ref a, .ref it],[]⟩) R s
 | [],i,ks,s,hr,hi,st,S,_,_,kp,fin=>by
  have e:i=N:=by
   have:=congrArg List.length hr;simp at this;lia
  subst e;refine xkk zjc ?_;rw[xkg zfy _];refine xba (m:=pyNext (.ref it)) (W.done s _ _ st fun s' mv=>?_);have aw:a∉wr:=fun z=>na (W.sub _ z)
  exact xbc (fin s' (mv.mono fun b hb=>xbp _ hb) (S.kept fun o e=>mv.heap a o aw e) fun b o e=>mv.heap b o (fun z=>by have:=fr b (xbp _ z);rw[e] at this;cases this) (kp b o e))
 | x::r,i,ks,s,hr,hi,st,S,lk,sub,kp,fin=>by
  have hlt:i < N:=by
   have:=congrArg List.length hr;simp at this;lia
  have h1:ns[i]?=some x:=by
   have:=congrArg (fun l:List (List Int×Addr)=>l[0]?) hr
   simpa using this
  have hxn:x∈ns:=xbx h1;have hd2:ns.drop (i+1)=r:=by
   rw[← xjg,hr]
   rfl
  have aw:a∉wr:=fun z=>na (W.sub _ z)
  refine xkk zjc ?_;rw[xkg zfy _];refine xba (m:=pyNext (.ref it)) (W.item i s _ _ hlt st fun v s' pv st' mv=>?_);obtain⟨x',e1,rfl⟩:=val i v pv;rw[h1] at e1;cases e1;have kp':Keep h0 s'.heap:=fun b o e=>mv.heap b o (fun z=>by have:=fr b (xbp _ z);rw[e] at this;cases this) (kp b o e)
  refine xba (m:=holding [Value.ref x.2] (setAdd a (.ref x.2))) (xdx ?_);unfold setAdd;have tk':=tk.mono kp';refine xdx (xba (wpAny_pyHash_tuple hu (tk' x hxn) ?_));refine zvg (s:={s' with toks:=_}) hu (S.kept fun o e=>mv.heap a o aw e) (fun y hy=>tk' y (sub y hy)) (tk' x hxn) (by lia) fun h' b sb S'=>?_
  have kp2:Keep h0 h':=fun b o e=>by
   rw[sb.2 b (fun z:b=a=>by have:=fr a xbw;rw[← z,e] at this;cases this)];exact kp' b o e
  refine xbc ⟨plainId_quiet zfy _,zpm hu W a na ns hN few tk fr val r (i+1) (addT x ks) _ hd2 hlt (W.frame _ s' _ _ st' (xbz _ _) fun b hb o e=>?_) S' (by have:=zld x ks;lia) (zlc hxn sub) kp2 fun s2 mv2 S2 k2=>?_⟩
  ·rw[sb.2 b (fun z:b=a=>na (z ▸ hb))];exact e
  ·refine fin s2 (Moved.trans W.gtrans ((mv.mono fun b hb=>xbp _ hb).then_heap (xbz _ _) fun b o hb e=>?_) mv2) S2 k2;rw[sb.2 b (fun z:b=a=>hb (z ▸ xbw))];exact e
end
section
variable {P:Program}{w:World}{B:Around}{E:Value->Shared->Prop}{s:Shared}
theorem zwn {h:Heap}{a:Addr}(e:h.get? a=some (newO w)):Su P w h a [] :=
 ⟨_,#[],0,_,e,⟨rfl,rfl,rfl⟩,rfl,⟨List.Pairwise.nil,rfl,fun y hy=>(by cases hy),rfl⟩,.inl rfl,rfl,rfl,(by show 0 * 5 < 7 * 3;decide),xkp _,xhm,fun q hq=>by cases hq⟩
theorem zxw {l:Addr}{its:List Value}{ns:List (List Int×Addr)}{W:Value->Shared->Prop}(hh:B.handled=none)(hu:B.units+8 < cLine)(isl:s.heap.IsTuple l its.toArray)(iv:its=ns.map fun x=>Value.ref x.2)(tk:TK P w s.heap ns)(few:ns.length<=64)
  (fin:∀(h':Heap) (tk:Nat),Su P w h' s.heap.objs.size (metT ns [])->(∀b o,s.heap.get? b=some o->h'.get? b=some o)->W (.ref s.heap.objs.size) {s with heap:=h',toks:=tk}) :
  wpAny (model P w) B (call (.type "set") [.ref l]) W E s:=by
 have len:its.length=ns.length:=by rw[iv];simp
 obtain⟨c,tl,hmro⟩:=xhq.mro;have hmade:=xhq.made;have hsub:=xhq.sub;have h1:=xhq.notType;have h2:=xhq.canCreate;have hct:=F.typeCall_set_1 (.ref l);refine wpAny_call (codeAny_of_tree (show wpAny _ _ (callAny (.type "set") _) _ _ _ from xbc ⟨Code.quiet_builtin _ (by decide +kernel), xkk F.entry_type_call ?_⟩))
 rw[Around.under_plain (weight_type_call_type "set" [.ref l] []) rfl]
 repeat (any_goals (first | assumption | wp_step))
 refine xkj (zbfm (w:=w) (.ref l) (E:=E) (W:=fun v s1=>v=.ref s.heap.objs.size/\s1={s with heap:=s.heap.push (newO w)}) ⟨rfl,rfl⟩) fun r s1 hr=>?_
 match r,hr with
 | .error e,hr=>exact hr
 | .ok (.ret v),hr =>
  obtain⟨rfl,rfl⟩:=hr;have en:(s.heap.push (newO w)).get? s.heap.objs.size=some (newO w):=xbr _ rfl;have ty:Shared.TypeIs { s with heap:=s.heap.push (newO w) } (.ref s.heap.objs.size) "set":=⟨_, en, rfl⟩
  have hli:=xhq.init.lookup;have hbi:=xhq.init.bind (.ref s.heap.objs.size)
  repeat (any_goals (first | assumption | wp_step))
  refine xkj (codeAny_call_builtin (R:=wants (fun v s2=>v=.none/\∃h' tk,s2={s with heap:=h',toks:=tk}/\Su P w h' s.heap.objs.size (metT ns [])/\∀b o,s.heap.get? b=some o->h'.get? b=some o) E) xhq.init.plain F.entry_set_init (check_set_init_1 ty ?body)) fun r2 s2 hr2=>?_
  case body =>
   obtain⟨ol,hol,hcl,nl,hdl⟩:=id isl;obtain⟨oc,od,odt,osl⟩:=ol;simp only at hcl hdl;subst hcl hdl;have hol':(s.heap.push (newO w)).get? l=some { cls:=.type "tuple", dict:=od, data:=.seq its.toArray nl, slots:=osl }:=xbd _ hol
   have isl':(s.heap.push (newO w)).IsTuple l its.toArray:=⟨_,hol',rfl,nl,rfl⟩
   have ns1:=F.sub_tuple_set;have ns2:=F.sub_tuple_frozenset;have ne:(Value.type "tuple"==Value.type "dict")=false:=by decide
   unfold Builtin.«set.__init__» noKeywords Builtin.Frozenset.updateFrom;generalize hPI:pyIter=PI
   wp_walk
   subst hPI;have ls:l < s.heap.objs.size:=xbo hol;have z1:(s.heap.push (newO w)).objs.size=s.heap.objs.size+1:=xhn ..
   refine xgx isl' (xba (wpAny_runValue ?_))
   refine zpm (h0:=s.heap) ?hu ((Walks.tuple (by simp[hh]) _ l (xcd (by rw[z1];exact xgh ls)) its.toArray).toS) s.heap.objs.size (fun z=>by
    rw[z1] at z;rcases xbl.mp z with z | z
    ·exact xcd (xiq _) z
    ·exact xgv ls (xck.mp z)) ns (by simp[len]) (by simpa [len] using few) tk (fun b hb=>?_) (fun i v hv=>?_) ns 0 [] _ rfl (xec _) ⟨⟨_,xbr _ rfl,rfl,rfl⟩,isl'.push _⟩ (zwn (xbd _ en)) (xbf _) (fun x hx=>by cases hx) (fun b o e=>xbd _ (xbd _ e)) fun s2 mv S2 _=>?_
   case hu =>
    show B.units+1+1+1 < cLine;lia
   ·cases e:s.heap.get? b with
    | none=>rfl
    | some o =>
     have lt:=xbo e;rw[z1] at hb;rcases xbl.mp hb with z | z
     ·exact absurd z (xcd lt)
     ·exact absurd (xck.mp z) (xcd (xgh lt))
   ·have hv:its[i]?=some v:=by simpa using hv
    rw[iv,xct] at hv;cases e:ns[i]? with
    | none=>rw[e] at hv;cases hv
    | some x =>
     rw[e] at hv;cases hv;exact⟨x,rfl,rfl⟩
   ·rw[Moved.eq_with mv];refine xbc (xbc ⟨rfl,s2.heap,s2.toks,rfl,S2,fun b o e=>?_⟩);have lt:=xbo e
    exact mv.heap b o (fun z=>by
     rw[z1] at z;rcases xbl.mp z with z | z
     ·exact xcd lt z
     ·exact xcd (xgh lt) (xck.mp z)) (xbd _ (xbd _ e))
  match r2,hr2 with
  | .error e,hr2=>exact hr2
  | .ok (.ret v),hr2 =>
   obtain⟨rfl,h',tk,rfl,S',keep⟩:=hr2
   repeat (any_goals (first | assumption | wp_step))
   exact fin _ _ S' keep
end
end St
namespace St
section
variable {P:Program}{w:World}{A B:Around}{E:Value->Shared->Prop}{s:Shared}{es:Array (Int×Value)}{t:SetTable}{l:List (List Int×Addr)}{a:Addr}
theorem zyw {ob:Obj}{ep:Nat}{os:List Addr}{f:Option Addr}{Q:Array (Int×Value)->Shared->Prop}(ho:s.heap.get? a=some ob)(hd:ob.data=.set es ep t)(T:Tu P w es t l)
  (fin:∀es':Array (Int×Value),es'.toList.Perm es.toList->Q es' s):wpAny (model P w) A (setWalkUnseen a os f) Q E s:=by
 have hl:=T.ld;unfold setWalkUnseen setsByText;refine xba (xfp ho hd T.fits ?_);dsimp only;refine xba (xba (xir (xbc ?_)));show wpAny _ _ (if(w.params.followText "set-order"||(t.led&&t.plain)||decide (es.size<=1))=true then _ else _) _ _ _
 rw[if_pos (by rw[hl, T.tb.pl]; cases w.params.followText "set-order" <;> rfl)]
 unfold setWalk setsByText;refine xba (xfp ho hd T.fits ?_);dsimp only;refine xba (xba (xir (xbc ?_)));show wpAny _ _ (if w.params.followText "set-order"=true then _ else _) _ _ _
 by_cases hb:w.params.followText "set-order"=true
 ·rw[if_pos hb];exact xba (xir (xbc (fin _ (zsa _ _))))
 ·rw[if_neg hb];have hl:t.led=true:=by rw[T.ld];simpa using hb
  refine wpAny_ite_split (fun z=>?_) (fun _=>?_)
  ·change (!t.plain&&_)=true at z
   rw[T.tb.pl] at z;cases z
  refine xba (wpAny_ite_split (fun z=>?_) (fun _=>xbc (xbc (fin es (xkp _)))))
  ·change (!t.led&&_)=true at z
   rw[hl] at z;cases z
theorem zjj:entryFor table "set.__and__"=some Builtin.«frozenset.__and__» :=
 entryFor_alias (id':="frozenset.__and__") (by kernel_rfl) rfl (by decide +kernel) (by kernel_rfl)
theorem Su.typeIs (S:Su P w s.heap a l):s.TypeIs (.ref a) "set":=let ⟨ob, _, _, _, e, x, _⟩:=S; ⟨ob, e, x.1⟩
theorem zyg (hT:s.TypeIs (.ref a) "set"){Q:Bool->Shared->Prop}(fin:Q true s):wpAny (model P w) A (Builtin.Frozenset.isAnySet (.ref a)) Q E s:=by
 unfold Builtin.Frozenset.isAnySet;exact xba (xjw hT sub_set_self (xbc fin))
theorem zua {Q:Nat->Shared->Prop}(S:Su P w s.heap a l)(fin:Q l.length s):wpAny (model P w) A (Builtin.Frozenset.sizeOf a) Q E s:=by
 obtain⟨ob,es,ep,t,ho,hex,hd,T⟩:=S;unfold Builtin.Frozenset.sizeOf;refine xba (wpAny_setEntries_of ho hd T.fits (xbc ?_));rw[T.len];exact fin
theorem zwb {α β:Type}{f:α->β}{m n:List β}(p:m.Perm n):∀l:List α,n=l.map f->∃l':List α,l'.Perm l/\m=l'.map f:=by
 induction p with
 | nil=>exact fun l h=>⟨l,xkp _,h⟩
 | cons x _ ih =>
  intro l h;cases l with
  | nil=>cases h
  | cons y l =>
   rw[xbn,xkh] at h;obtain⟨l',h1,h2⟩:=ih l h.2;exact⟨y::l',h1.cons _,by rw[xbn,h.1,h2]⟩
 | swap x y l0 =>
  intro l h
  match l,h with
  | [],h=>cases h
  | [_],h=>cases h
  | u::v::l,h =>
   simp only[xbn,xkh] at h;exact⟨v::u::l,List.Perm.swap _ _ _,by simp only[xbn];rw[h.1,h.2.1,h.2.2]⟩
 | trans _ _ ih1 ih2 =>
  intro l h;obtain⟨l1,h1,h2⟩:=ih2 l h;obtain⟨l2,h3,h4⟩:=ih1 l1 h2;exact⟨l2,h3.trans h1,h4⟩
structure Pk (P:Program) (w:World) (h0:Heap) (r:Addr) (la dn:List (List Int×Addr)) (s0:Shared) (h:Heap) (l:List (List Int×Addr)):Prop where
 su:Su P w h r l
 kp:Keep h0 h
 ot:∀b,b≠r->h.get? b=s0.heap.get? b
 ln:l.length<=dn.length
 sb:∀x∈l,x∈dn
 ks:∀k,k∈l.map (·.1)↔k∈dn.map (·.1)/\k∈la.map (·.1)
theorem zud {r wk ak:Addr}{lw la:List (List Int×Addr)}{h0:Heap}{Q:Unit->Shared->Prop}{id:String}(hu:A.units < cLine)(few:lw.length<=64)(tkw:TK P w h0 lw)(tka:TK P w h0 la)(n0:h0.get? r=none)
  (Sw:Su P w h0 wk lw)(Sa:Su P w h0 ak la)(Sr:Su P w s.heap r [])(kp:Keep h0 s.heap)
  (fin:∀h' l',Su P w h' r l'->(∀k,k∈l'.map (·.1)↔k∈lw.map (·.1)/\k∈la.map (·.1))->Keep h0 h'->Q () {s with heap:=h'}) :
  wpAny (model P w) A (do
   let was ← setEpoch wk
   let es ← setWalkUnseen wk [ak,r] (some r)
   forIn es PUnit.unit fun x __s=>do
    holding [x.snd] do
     let d ← setFind ak x.snd x.fst
     if d.isSome=true then do
      let _ ← setAddHashed r x.snd x.fst
      pure ()
     else pure ()
    Builtin.Frozenset.unchanged id wk was
    pure (ForInStep.yield PUnit.unit)
   pure ()) Q E s:=by
 obtain⟨ob,es,ep,t,ho,hex,hd,T⟩:=Sw;refine xba (wpAny_setEpoch_of (kp _ _ ho) hd T.fits ?_);refine xba (zyw (kp _ _ ho) hd T fun es' pm=>?_);obtain⟨lw',p1,p2⟩:=zwb (pm.trans T.el) lw rfl;have lnw:=p1.length_eq;refine xba (wpAny_forIn_array' _ (fun rest _ s'=>∃dn lf h l,lw'=dn++lf/\rest=lf.map (St.ent P w)/\s'={s with heap:=h}/\Pk P w h0 r la dn s h l) _ ?_ ?_ _ _ ⟨[],lw',s.heap,[],rfl,p2,rfl,Sr,kp,fun _ _=>rfl,xbf _,fun x hx=>hx,fun k=>by simp⟩)
 ·rintro x rest _ s' ⟨dn,lf,h,l,e1,e2,rfl,K⟩;cases lf with
  | nil=>cases e2
  | cons y lf =>
   rw[xbn,xkh] at e2;obtain⟨rfl,rfl⟩:=e2;have hy:y∈lw:=p1.mem_iff.mp (by rw[e1];simp);have dnl:∀x∈dn,x∈lw:=fun x hx=>p1.mem_iff.mp (by rw[e1];simp[hx])
   have tw:TK P w h lw:=tkw.mono K.kp;have nr:∀b o,h0.get? b=some o->b≠r:=fun b o e z=>by rw[z,n0] at e;cases e
   have lnd:dn.length < lw.length:=by rw[← lnw,e1];simp
   have go:∀(h2:Heap) (R:ForInStep PUnit->Shared->Prop),Keep h0 h2->R (.yield ⟨⟩) {s with heap:=h2}->wpAny (model P w) A (do
     Builtin.Frozenset.unchanged id wk ep
     pure (ForInStep.yield PUnit.unit)) R E {s with heap:=h2}:=fun h2 R k2 q=>by
    unfold Builtin.Frozenset.unchanged;refine xba (xba (wpAny_setEpoch_of (k2 _ _ ho) hd T.fits ?_));rw[if_neg (by simp)];exact xbc (xbc q)
   have nx:lw'=(dn++[y])++lf:=by rw[e1];simp
   refine xba (xdx ?_);refine xba (zbbs (s:={s with heap:=h}) hu (Sa.kept fun o e=>K.kp _ _ e) (tka.mono K.kp) (tw y hy) fun o ho'=>?_);by_cases c:y.1∈la.map (·.1)
   ·rw[xcs c] at ho';rw[if_pos ho'];refine xba (zvg (s:={s with heap:=h}) hu K.su (fun x hx=>tw x (dnl x (K.sb x hx))) (tw y hy) (by have:=K.ln;lia) fun h' b' sbt S'=>?_);have k2:Keep h0 h':=fun b o e=>by
     rw[sbt.2 b (nr b o e)];exact K.kp b o e
    refine xbc (go h' _ k2 ⟨dn++[y],lf,h',addT y l,nx,rfl,rfl,S',k2,fun b hb=>?_,?_,zlc (by simp) fun z hz=>by have:=K.sb z hz;simp[this],fun k=>?_⟩)
    ·rw[sbt.2 b hb];exact K.ot b hb
    ·have:=zld y l;have:=K.ln;simp;lia
    ·rw[xet,xbt];have:k∈(addT y l).map (·.1)↔k=y.1\/k∈l.map (·.1):=by
      unfold addT;split
      ·rename_i hin;exact⟨.inr,fun z=>z.elim (fun e=>e ▸ hin) fun z=>z⟩
      ·rw[xbn,xbl]
     rw[this,K.ks k];constructor
     ·rintro(rfl | ⟨h1,h2⟩)
      ·exact⟨.inr (by simp),c⟩
      ·exact⟨.inl h1,h2⟩
     ·rintro⟨h1 | h1,h2⟩
      ·exact .inr ⟨h1,h2⟩
      ·exact .inl (by simpa using h1)
   ·rw[xcg c] at ho';rw[if_neg (by rw[ho'];simp)];refine xbc (go h _ K.kp ⟨dn++[y],lf,h,l,nx,rfl,rfl,K.su,K.kp,K.ot,by have:=K.ln;simp;lia,fun x hx=>by have:=K.sb x hx;simp[this],fun k=>?_⟩);rw[K.ks k,xet,xbt];constructor
    ·rintro⟨h1,h2⟩;exact⟨.inl h1,h2⟩
    ·rintro⟨h1 | h1,h2⟩
     ·exact⟨h1,h2⟩
     ·have:k=y.1:=by simpa using h1
      exact absurd (this ▸ h2) c
 ·rintro _ s' ⟨dn,lf,h,l,e1,e2,rfl,K⟩;have:lf=[]:=by
   cases lf with
   | nil=>rfl
   | cons _ _=>cases e2
  subst this;rw[xes] at e1;subst e1;refine xbc (fin h l K.su (fun k=>?_) K.kp);rw[K.ks k,(p1.map (·.1)).mem_iff]
theorem zwz {b:Addr}{la lb:List (List Int×Addr)}{W:Value->Shared->Prop}(hu:A.units+8 < cLine)(ne:a≠b)(Sa:Su P w s.heap a la)(Sb:Su P w s.heap b lb)(tka:TK P w s.heap la)(tkb:TK P w s.heap lb)(fa:la.length<=64)(fb:lb.length<=64)
  (fin:∀(h':Heap) l',Su P w h' s.heap.objs.size l'->(∀k,k∈l'.map (·.1)↔k∈la.map (·.1)/\k∈lb.map (·.1))->(∀b o,s.heap.get? b=some o->h'.get? b=some o)->W (.ref s.heap.objs.size) {s with heap:=h'}) :
  wpAny (model P w) A (binaryOp .BitAnd (.ref a) (.ref b)) W E s:=by
 refine wpAny_binaryOp_same Sa.typeIs Sb.typeIs F.fills_set_and F.slot_set_and (xew F.slot_set_and Sa.typeIs zjj ?_ (F.args_set_and_2 _ _));show wpAny _ _ (Builtin.Frozenset.slot1 "__and__" ⟨[.ref a, .ref b],[]⟩ >>= _) _ _ s
 unfold Builtin.Frozenset.slot1 slotArgs;simp only[List.isEmpty_nil,xhh,xbu,↓reduceIte,bind_assoc,xby,xiv,bne_self_eq_false];refine xba (xbc ?_);dsimp only;refine xba (xbc ?_);dsimp only;refine xba (xba (zyg Sa.typeIs ?_));refine zyg Sb.typeIs ?_;simp only[xhh,xbu,xdc];refine xba (xbc ?_);unfold Builtin.Frozenset.intersection;have ne':(Value.ref b==Value.ref a)=false:=by
  rw[xgm];exact fun z=>ne (Value.ref.inj z).symm
 rw[ne'];simp only[xbu,xdc];unfold Builtin.Frozenset.baseOf;refine xba (xba (xba (xjw Sa.typeIs sub_set_self (xbc ?_))));unfold newSet setsByText;refine xba (xba (xba (xir (xbc ?_))));rw[if_pos rfl];dsimp only;simp only[newObj];refine xba (wpAny_alloc (xbc ?_));refine xba (xbc ?_);have kp:Keep s.heap (s.heap.push (newO w)):=fun b o e=>xbd _ e
 have en:(s.heap.push (newO w)).get? s.heap.objs.size=some (newO w):=xbr _ rfl;have n0:s.heap.get? s.heap.objs.size=none:=by
  cases e:s.heap.get? s.heap.objs.size with
  | none=>rfl
  | some o=>exact absurd (xbo e) (xfw _)
 have Sa1:=Sa.kept fun o e=>kp _ o e
 have Sb1:=Sb.kept fun o e=>kp _ o e
 refine xba (xdx ?_);refine xba (zyg (s:={s with heap:=s.heap.push (newO w)}) Sb1.typeIs ?_);simp only[xeb];refine xba (xbc ?_);refine xba (zua (s:={s with heap:=s.heap.push (newO w)}) Sb1 ?_);refine xba (zua (s:={s with heap:=s.heap.push (newO w)}) Sa1 ?_);have last:∀(h':Heap) l',Su P w h' s.heap.objs.size l'->(∀k,k∈l'.map (·.1)↔k∈la.map (·.1)/\k∈lb.map (·.1))->Keep s.heap h'->wpAny (model P w) A.in1 (pure (Value.ref s.heap.objs.size)) (fun v s'=>wpAny (model P w) A.in1 (ret v) (fun fin s'=>∃v,fin=Fin.done (Flow.ret v)/\v≠Value.notImplemented/\W v s') E s') E {s with heap:=h'}:=fun h' l' S' ks k =>
  xbc (xbc ⟨_,rfl,fun z=>(by cases z),fin h' l' S' ks k⟩)
 by_cases c:lb.length > la.length
 ·simp only[if_pos c];refine zud (s:={s with heap:=s.heap.push (newO w)}) (h0:=s.heap) ?_ fa tka tkb n0 Sa Sb (zwn en) kp fun h' l' S' ks k=>?_
  ·show A.units+1 < cLine;lia
  ·exact last h' l' S' ks k
 ·simp only[if_neg c];refine zud (s:={s with heap:=s.heap.push (newO w)}) (h0:=s.heap) ?_ fb tkb tka n0 Sb Sa (zwn en) kp fun h' l' S' ks k=>?_
  ·show A.units+1 < cLine;lia
  ·exact last h' l' S' (fun k=>(ks k).trans And.comm) k
end
end St
end L2
namespace L2
open PySem PySem.Spec PyProof.Rows PySem.W
noncomputable def setT (P:Program) (w:World) (q:Addr) (l:List (List Int×Addr)):HO:=.ext fun h=>St.Su P w h q l
noncomputable def Tups (H:Hp) (ns:List (List Int×Addr)):Prop:=∀x∈ns,H x.2=some (.tup (x.1.map V.int))
noncomputable def rSetT (P:Program) (w:World):List V->Hp->VK->Prop:=fun xs H Q=>∃(p:Addr) (ns:List (List Int×Addr)),xs=[.ref p]/\H p=some (.tup (ns.map fun x=>V.ref x.2))/\Tups H ns/\ns.length<=64/\∀q,H q=none->Q (.ref q) (upd H q (setT P w q (St.metT ns [])))
noncomputable def rAndT (P:Program) (w:World):R2:=fun x y H Q=>∃a b la lb,x=.ref a/\y=.ref b/\a≠b/\H a=some (setT P w a la)/\H b=some (setT P w b lb)/\Tups H la/\Tups H lb/\la.length<=64/\lb.length<=64 /\
 ∀q l,H q=none->(∀k,k∈l.map (·.1)↔k∈la.map (·.1)/\k∈lb.map (·.1))->(l.map (·.1)).Nodup->Q (.ref q) (upd H q (setT P w q l))
noncomputable def rLenT (P:Program) (w:World):List V->Hp->VK->Prop:=fun xs H Q=>∃a l,xs=[.ref a]/\H a=some (setT P w a l)/\Q (.int l.length) H
section
variable {X:Cx}{aU:List (Addr×Obj)}{σ:St}{H:Hp}{s:Shared}
theorem zwv {P:Program}{w:World}:∀{its:List Value} {ns:List Int},IntsAre its ns->PySem.ItemsAre (intKind P w) ns its
 | _,_,h=>by
  induction h with
  | nil=>exact .nil
  | cons h ih=>exact .cons (intKind_is _ _ _ _) ‹_›
theorem zbdw {ns:List (List Int×Addr)}(I:Inv X aU σ H s)(h:Tups H ns):St.TK X.prog X.w s.heap ns:=fun x hx=>by
 obtain⟨its,rv,tu,_⟩:=I.tuple (SqT.of (h x hx));obtain⟨o,ho,hc,n,hd⟩:=tu;exact⟨o,its.toArray,n,ho,hc,hd,zwv (zcy rv)⟩
theorem zue:∀{ns:List (List Int×Addr)} {its:List Value},Vals (ns.map fun x=>V.ref x.2) its->its=ns.map fun x=>Value.ref x.2
 | [],_,h=>by cases h;rfl
 | x::ns,_,h=>by
  cases h with
  | cons a b =>
   rw[zue b,xbn];cases a
   rfl
theorem zbij {q:Addr}{l:List (List Int×Addr)}{h':Heap}{P:Program}{w:World}{H:Hp}(S:St.Su P w h' q l):ObjOk P w H h' q (setT P w q l):=by
 refine⟨S,?_,fun h1 h2 z k=>z.kept k⟩;obtain⟨ob,_,_,_,e,_⟩:=S;exact⟨ob,e⟩
theorem zmn (hc:X.calm=true)(hu:X.A.units + 64 < cLine):CallR X (.type "set") (rSetT X.prog X.w):=by
 intro aU s σ H xs us Q I r h;obtain⟨l,ns,rfl,hl,tu,few,q⟩:=h;obtain⟨u,rfl,ru⟩:=vals1 r;cases ru;obtain⟨its,rv,pl,hz⟩:=I.tuple (SqT.of hl);refine St.zxw (I.ok.hd hc) (by lia) (show s.heap.IsTuple l its.toArray from pl) (zue rv) (zbdw I tu) few fun h' tk S keep=>?_
 exact⟨.ref s.heap.objs.size,_,I.laid (a:=s.heap.objs.size) (o:=setT X.prog X.w s.heap.objs.size (St.metT ns [])) (t':=tk) keep (xbf _) (zbij S),rfl,q _ (I.hok.fresh (xbf _))⟩
theorem zbdx {a:Addr}{l:List (List Int×Addr)}(I:Inv X aU σ H s)(h:H a=some (setT X.prog X.w a l)):St.Su X.prog X.w s.heap a l :=
 (show ObjOk X.prog X.w H s.heap a (setT X.prog X.w a l) from I.hok a _ h).1
theorem zban (hu:X.A.units+64 < cLine):OpR X (binaryOp .BitAnd) (rAndT X.prog X.w):=by
 intro aU s σ H x y v u Q I rx ry h;obtain⟨a,b,la,lb,rfl,rfl,ne,ha,hb,ta,tb,fa,fb,q⟩:=h;cases rx;cases ry;refine St.zwz (by lia) ne (zbdx I ha) (zbdx I hb) (zbdw I ta) (zbdw I tb) fa fb fun h' l' S ks keep=>?_
 have nd:(l'.map (·.1)).Nodup:=let ⟨_,_,_,_,_,_,_,T⟩:=S;T.nd
 exact⟨.ref s.heap.objs.size,_,I.laid (a:=s.heap.objs.size) (o:=setT X.prog X.w s.heap.objs.size l') (t':=s.toks) keep (xbf _) (zbij S),rfl,q _ l' (I.hok.fresh (xbf _)) ks nd⟩
theorem ztu:CallR X (.builtin "len") (rLenT X.prog X.w):=by
 intro aU s σ H xs us Q I r h;obtain⟨a,l,rfl,ha,q⟩:=h;obtain⟨u,rfl,ru⟩:=vals1 r;cases ru;obtain⟨ob,es,ep,t,ho,hex,hd,T⟩:=zbdx I ha;have:=T.room;have:=T.sz;have:=St.zlv T.mo;have ln:=T.len;refine call_len_set ho hex hd T.fits (by lia) ⟨.int l.length,_,I.tok _,⟨s.toks+1,by rw[ln]⟩,q⟩
end
end L2
namespace Dd
open PySem L2 PyProof.Rows
noncomputable def onceR:List (List Int)->List (List Int)
 | []=>[]
 | n::l=>if n∈l then onceR l else n::onceR l
theorem zfh {k:List Int}:∀{l:List (List Int)},k∈onceR l↔k∈l
 | []=>Iff.rfl
 | n::l=>by
  unfold onceR;split
  ·rename_i h;rw[zfh (l:=l),xbl];exact⟨.inr,fun z=>z.elim (fun e=>e ▸ h) fun z=>z⟩
  ·rw[xbl,xbl,zfh (l:=l)]
theorem zkd:∀l:List (List Int),(onceR l).Nodup
 | []=>xhm
 | n::l=>by
  unfold onceR;split
  ·exact zkd l
  ·rename_i h;exact xey.mpr ⟨fun z=>h (zfh.mp z),zkd l⟩
theorem zox {l:List (List Int)}(h:l.Nodup):onceR l=l:=by
 induction l with
 | nil=>rfl
 | cons n l ih =>
  have h:=xey.mp h;unfold onceR;rw[if_neg h.1,ih h.2]
noncomputable def both (l m:List (List Int)):Nat:=((onceR l).filter fun k=>decide (k∈m)).length
theorem zki {k:List Int}:∀{l ks:List (List Int×Addr)},k∈(St.metT l ks).map (·.1)↔k∈l.map (·.1)\/k∈ks.map (·.1)
 | [],ks=>by simp[St.metT]
 | x::l,ks=>by
  unfold St.metT;rw[zki (l:=l),xbn,xbl];unfold St.addT;split
  ·rename_i h;exact⟨fun z=>z.elim (fun a=>.inl (.inr a)) .inr,fun z=>z.elim (fun a=>a.elim (fun e=>.inr (e ▸ h)) .inl) .inr⟩
  ·rw[xbn,xbl];exact⟨fun z=>z.elim (fun a=>.inl (.inr a)) (fun a=>a.elim (fun e=>.inl (.inl e)) .inr),fun z=>z.elim (fun a=>a.elim (fun e=>.inr (.inl e)) .inl) (fun a=>.inr (.inr a))⟩
theorem zkh:∀{l ks ns:List (List Int×Addr)},(∀x∈l,x∈ns)->(∀x∈ks,x∈ns)->∀x∈St.metT l ks,x∈ns
 | [],_,_,_,h=>h
 | x::l,ks,ns,h1,h2=>zkh (l:=l) (fun y hy=>h1 y (xbp _ hy)) (St.zlc (h1 x (by simp)) h2)
theorem zkj:∀(l ks:List (List Int×Addr)),(St.metT l ks).length<=l.length+ks.length
 | [],_=>by simp[St.metT]
 | x::l,ks=>by
  have:=zkj l (St.addT x ks);have:=St.zld x ks;unfold St.metT;rw[xby];lia
theorem zbda {l:List (List Int×Addr)}{a b:List (List Int)}(ks:∀k,k∈l.map (·.1)↔k∈a/\k∈b)(nd:(l.map (·.1)).Nodup):l.length=both a b:=by
 have p:(l.map (·.1)).Perm ((onceR a).filter fun k=>decide (k∈b)):=by
  refine(xla nd ((zkd a).sublist xkn)).mpr fun k=>?_
  rw[ks k,xdn,zfh,xkz]
 have:=p.length_eq;rw[xbe] at this;exact this
noncomputable def bBoth:D->D->Store->Res D:=fun x y st=>match x with
 | .tup xs=>match y with
  | .tup ys=>match asRows xs with
   | some l=>match asRows ys with
    | some m=>if l.length<=64/\m.length<=64 then .ok (.int (both l m)) st else .stuck
    | none=>.stuck
   | none=>.stuck
  | _=>.stuck
 | _=>.stuck
theorem zyb {x y v:D}{st st':Store}(e:bBoth x y st=.ok v st'):∃xs ys l m,x=.tup xs/\y=.tup ys/\asRows xs=some l/\asRows ys=some m/\l.length<=64/\m.length<=64/\v=.int (both l m)/\st'=st:=by
 unfold bBoth at e;split at e
 ·split at e
  ·split at e
   ·split at e
    ·split at e
     ·rename_i h1 _ _ h2 h3;cases e;exact⟨_,_,_,_,rfl,rfl,h1,h2,h3.1,h3.2,rfl,rfl⟩
     ·cases e
    ·cases e
   ·cases e
  ·cases e
 ·cases e
theorem zlq {K:Fg}{ρ:Loc}{H:Hp}{xs:List D}{l:List (List Int)}{u:V}(a:At K ρ H (.tup xs) u)(h:asRows xs=some l) :
  ∃(p:Addr) (ns:List (List Int×Addr)),u=.ref p/\H p=some (.tup (ns.map fun x=>V.ref x.2))/\Tups H ns/\ns.map (·.1)=l/\∀x∈ns,Out ρ x.2:=by
 cases a with
 | tup g1 g2 g3 =>
  obtain⟨ps,rfl,h2,h3⟩:=zik g3 h;refine⟨_,ps.map fun p=>(p.2,p.1),rfl,by rw[xcu];exact g1,fun x hx=>?_,by rw[xcu];exact h2,fun x hx=>?_⟩
  ·obtain⟨p,hp,rfl⟩:=xcp.mp hx;exact(h3 p hp).1
  ·obtain⟨p,hp,rfl⟩:=xcp.mp hx;exact(h3 p hp).2
section
variable {X:Cx}{x y z:Str}{p p2 p3 pos pos2 pos3 pos4:Pos}{e e':Expr}{f f':SE}
theorem zbct (hc:X.calm=true)(hu:X.A.units + 64 < cLine)(hgx:Gl X x)(hmx:X.mg x=none)(hvx:bootBuiltins x=some (.builtin "len"))(hgy:Gl X y)(hmy:X.mg y=none)(hvy:bootBuiltins y=some (.type "set"))(ha:JE X e f)(hb:JE X e' f')
  (hnx:x≠"__name__":=by decide)(hdx:(x==("__debug__" : Str))=false:=by decide)(hny:y≠"__name__":=by decide)(hdy:(y==("__debug__" : Str))=false:=by decide)(hp:plainE e=true:=by rfl)(hp':plainE e'=true:=by rfl) :
  JE X (.Call (.Name x p) [.BinOp (.Call (.Name y p2) [e] [] pos2) .BitAnd (.Call (.Name y p3) [e'] [] pos3) pos4] [] pos) (aS bBoth f f') :=
 ⟨zfg (zou ztu hgx hmx hvx (zls (zbir (zban hu) (zhj (zmn hc hu) hgy hmy hvy (zls ha.out zse (hs:=zct hp)) hny hdy (zct hp)) (zhj (zmn hc hu) hgy hmy hvy (zls hb.out zse (hs:=zct hp')) hny hdy (zct hp'))) zse) hnx hdx) fun τ H Q hq0=>by
  obtain⟨ρ,σ,st,v,st',a,rp,er,q⟩:=hq0;obtain⟨dx,st1,e1,er⟩:=za er;obtain⟨dy,st2,e2,er⟩:=za er;obtain⟨xs,ys,l,m,rfl,rfl,h1,h2,h3,h4,rfl,rfl⟩:=zyb er;refine⟨ρ,σ,st,_,st1,a,rp,e1,fun ρ1 H1 u x1 rp1 a1=>?_⟩;obtain⟨pa,ns,rfl,g1,g2,g3,g4⟩:=zlq a1 h1;refine⟨pa,ns,rfl,g1,g2,by rw[← g3,xbe] at h3;exact h3,fun q1 hq1=>?_⟩;refine⟨ρ1,σ,st1,_,_,(a.ext x1).ext (Ext.new hq1 _),rp1.new hq1 _,e2,fun ρ2 H2 u2 x2 rp2 a2=>?_⟩;obtain⟨pb,ms,rfl,k1,k2,k3,k4⟩:=zlq a2 h2;refine⟨pb,ms,rfl,k1,k2,by rw[← k3,xbe] at h4;exact h4,fun q2 hq2=>?_⟩;have o1:=zfi rp1 hq1;have s1:=(x2.out (zo (H:=H1) (a:=q1)) o1).1;have ne:q1≠q2:=fun z=>by rw[← z,s1] at hq2;cases hq2
  have tn:Tups H2 ns:=fun x hx=>by
   have:=g4 x hx;have hh:(upd H1 q1 (setT X.prog X.w q1 (St.metT ns []))) x.2=some (.tup (x.1.map V.int)):=by
    rw[zn (zh (g2 x hx) hq1)];exact g2 x hx
   exact(x2.out hh this).1
  have up:∀{ls:List (List Int×Addr)} {o:HO},Tups H2 ls->Tups (upd H2 q2 o) ls:=fun t x hx=>by
   rw[zn (zh (t x hx) hq2)];exact t x hx
  refine⟨q1,q2,_,_,rfl,rfl,ne,by rw[zn ne];exact s1,zo,fun x hx=>up tn x (zkh (fun y hy=>hy) (fun y hy=>by cases hy) x hx),fun x hx=>up k2 x (zkh (fun y hy=>hy) (fun y hy=>by cases hy) x hx),?_,?_,fun q3 l3 hq3 ks nd=>?_⟩
  ·have:=zkj ns [];rw[← g3,xbe] at h3;simp at this;lia
  ·have:=zkj ms [];rw[← k3,xbe] at h4;simp at this;lia
  ·refine⟨q3,l3,rfl,zo,?_⟩;rw[zbda (a:=l) (b:=m) (fun k=>by rw[ks k,zki,zki,g3,k3];simp) nd]
   exact q ρ2 _ _ ((x1.trans (Ext.new hq1 _)).trans (x2.trans ((Ext.new hq2 _).trans (Ext.new hq3 _)))) ((rp2.new hq2 _).new hq3 _) (.int _)⟩
end
end Dd
namespace L2
open PySem PySem.Spec PyProof.Rows PySem.W
theorem zrl {P:Program}{w:World}{K:Fg}{tg:Expr}(it:Addr)(lo:Int):Turn P w K tg (Itr lo 0) [it] it (fun _ h=>IsLongIter h it lo 0 1) where
 mem:=by simp
 obj:=fun i h st b hb=>by
  have e:b=it:=by simpa using hb
  subst e
  exact⟨_,st,fun v z=>by
   have z':Data.fields _=Data.cell v:=z
   cases z'⟩
 keep:=fun i h h' st k=>k it (by simp) _ st
 item:=by
  intro X hP hw hK hc i aU s σ H E I hf st hg;exact absurd hg (xlx _)
 done:=by
  intro X hP hw hK hc i aU s σ H E I hf st hg;subst hP hw hK;obtain⟨f0,f1,f2,f3,f4,f5⟩:=hf it (by simp);exact wpAny_pyNext_long_end (I.ok.hd hc) st (Int.le_refl _) fun h' eb=>⟨rfl,I.turned (t':=s.toks) (fun b o hb e=>eb b o hb e) f0 f1 f3 f4 f5⟩
 self:=fun _ _ _ _ _ st h=>wpAny_pyIter_longiter st h
section
variable {X:Cx}{tg:Expr}
theorem zoq {aU:List (Addr×Obj)}{σ:St}{H:Hp}{s:Shared}{R:It->Hp->Prop}{E:Value->Shared->Prop}{lo hi:Int}{t u v:Tok}{tk:Nat}(I:Inv X aU σ H s)(h:hi<=lo)
  (q:R (Itr lo 0) H):wpAny (model X.prog X.w) X.A (pyIter (.ref s.heap.objs.size)) (PIE X aU σ tg R) E { s with heap:=s.heap.push { cls:=.type "range", data:=.fields #[.int lo t, .int hi u, .int 1 v] }, toks:=tk }:=by
 have I1:Inv X aU σ H { s with heap:=s.heap.push { cls:=.type "range", data:=.fields #[.int lo t, .int hi u, .int 1 v] }, toks:=tk }:=I.kept fun b o e=>xbd _ e
 have sz:Builtin.Range.rangeSize lo hi 1=0:=by rw[rangeSize_one,if_neg (by lia)]
 have fp:∀ b∈[(s.heap.push { cls:=.type "range", data:=.fields #[.int lo t, .int hi u, .int 1 v] }).objs.size], FpOk X aU H b:=fun b hb=>by
  have e:b=(s.heap.push { cls:=.type "range", data:=.fields #[.int lo t, .int hi u, .int 1 v] }).objs.size:=by simpa using hb
  subst e;exact I1.fpOk (xbf _) (I1.hok.fresh (xbf _))
 cases c:Builtin.Range.small lo hi 1 with
 | true =>
  refine wpAny_pyIter_range (IsRange.new ..) c ?_;refine⟨_,[(s.heap.push { cls:=.type "range", data:=.fields #[.int lo t, .int hi u, .int 1 v] }).objs.size], _, _, H, rfl, I1.kept (t':=tk) fun b o e=>xbd _ e, zio _ lo 0, ?_, fp, q⟩
  have e1:lo+((0:Nat):Int) * 1=lo:=by simp
  show IsRangeIter _ _ (lo+((0:Nat):Int) * 1) (((0:Nat):Int) - ((0:Nat):Int)) 1;rw[e1,show((0:Nat):Int) - ((0:Nat):Int)=Builtin.Range.rangeSize lo hi 1 by rw[sz];rfl];exact xbr _ rfl
 | false =>
  refine wpAny_pyIter_longrange (IsRange.new ..) c ?_;refine⟨_,[(s.heap.push { cls:=.type "range", data:=.fields #[.int lo t, .int hi u, .int 1 v] }).objs.size], _, _, H, rfl, I1.kept (t':=tk) fun b o e=>xbd _ e, zrl _ lo, ?_, fp, q⟩
  show IsLongIter _ _ lo 0 1;rw[show(0:Int)=Builtin.Range.rangeSize lo hi 1 from sz.symm];exact xbr _ rfl
noncomputable def iRngE (ta:TA):TI:=fun σ H R=>ta σ H fun vs H1=>∃i j:Int,vs=[.int i,.int j]/\j<=i/\R (Itr i 0) H1
theorem zsb {a b:Expr}{ta:TA}{p pos:Pos}(hg:Gl X "range")(hm:X.mg "range"=none)(ha:PA X [a, b] ta)(hs:starEach [a, b] X.env=[(false, eval a X.env),(false, eval b X.env)]:=by rfl)(hs2:starEach [b] X.env=[(false, eval b X.env)]:=by rfl) :
  PI X tg (.Call (.Name "range" p) [a, b] [] pos) (iRngE ta):=by
 intro aU s σ H R I h;refine Call_ (zko I hg hm boot_range (xfq (thn (ha pos aU s σ H _ I h) fun us s1 ⟨vs,H1,I1,r1,q1⟩=>?_) (by rw[hs,hs2]) (by rw[hs2];rfl)));obtain⟨i,j,e,q1,q⟩:=q1;subst e;cases r1 with
 | cons r rr =>
  cases rr with
  | cons r' rr =>
   cases rr;obtain⟨t,rfl⟩:=r;obtain⟨t',rfl⟩:=r';exact call_range_2 (zoq I1 q1 q)
end
end L2
namespace Dd
open PySem L2 PyProof.Rows
noncomputable def iR2X (g:SA):SA:=fun σ st=>(g σ st).bind fun xs st1=>match xs with
 | [.int i,.int j]=>if j<=i then .ok [] st1 else if -(2 ^ 62)<=i/\i < 2 ^ 62/\-(2 ^ 62)<=j/\j < 2 ^ 62 then .ok (rng i (j - i).toNat) st1 else .stuck
 | _=>.stuck
section
variable {X:Cx}{tg l a b:Expr}{g:SA}{p pos:Pos}
theorem znw (hg:Gl X "range")(hm:X.mg "range"=none)(ha:JA X [a, b] g)(hs:starEach [a, b] X.env=[(false, eval a X.env),(false, eval b X.env)]:=by rfl)(hs2:starEach [b] X.env=[(false, eval b X.env)]:=by rfl):JI X tg (.Call (.Name "range" p) [a, b] [] pos) (iR2X g) :=
 ⟨zzw (zbip (zsb hg hm ha.out hs hs2) (zsc hg hm ha.out hs hs2)) fun τ H R hq0=>by
  obtain⟨ρ,σ,st,xs,st',a,rp,e,q⟩:=hq0;obtain⟨x,st1,e1,e⟩:=za e;split at e
  ·split at e
   ·rename_i hj;cases e;refine .inl ⟨ρ,σ,st,_,_,a,rp,e1,fun ρ1 H1 u x1 rp1 a1=>?_⟩;cases a1 with
    | cons a2 a3 =>
     obtain⟨w,rfl,a4⟩:=a3.one;cases a2;cases a4;exact⟨_,_,rfl,hj,q _ _ _ x1 rp1 (zww (n:=0))⟩
   ·split at e
    ·rename_i hj;cases e;refine .inr ⟨ρ,σ,st,_,_,a,rp,e1,fun ρ1 H1 u x1 rp1 a1=>?_⟩;cases a1 with
     | cons a2 a3 =>
      obtain⟨w,rfl,a4⟩:=a3.one;cases a2;cases a4;exact⟨_,_,rfl,hj,q _ _ _ x1 rp1 zww⟩
    ·cases e
  ·cases e⟩
end
end Dd
namespace Dd
open PySem L2
noncomputable def zbn:DFn:=fnD 2 2 (sRet (aS oEq (aS oMod (aS bBoth (aA 0) (aA 1)) (eC (.int 2))) (eC (.int 1))))
noncomputable def zdd:SS:=(sIf (eB (aS oEq (aS oAndI (aS oSub (aA 5) (aA 9)) (aA 9)) (aA 9))) (sDrop (eAppend (aA 6) (aB (aR (aB (aS aM (aA 7) (aR (aB (aS oSub (aA 5) (aA 9)) aC))) (aB (aS oSub (aA 8) (aA 9)) aC))) aC))) sNx)
noncomputable def zdc:SS:=(sFor (iR1 (aB (aS aM (aE bMin2 (aB (aA 5) (aB (aA 8) aC))) (eC (.int 1))) aC)) (gN 9) zdd)
noncomputable def zbw:SS:=(aD (aF 6 (eLstM aC))
 (aD (sFor (aH (aA 4)) (gT 2 (gsCons (gN 7) (gsCons (gN 8) gsNil))) zdc)
 (aF 4 (eFz (aA 6)))))
noncomputable def zdb:SS:=(aD (aF 4 (eLst (aB (aR (aB (aR aC) (aB (aA 1) aC))) aC)))
 (aD (sFor (aH (aA 3)) (gN 5) zbw)
 (sDrop (eExtend (aA 2) (aB (aG (aH (aA 4)) 2 [] (gT 2 (gsCons (gN 0) (gsCons (gN 1) gsNil))) (eB (aS oEq (aA 1) (eC (.int 0)))) (aA 0)) aC)))))
noncomputable def zbo:DFn:=fnD 10 2 (aD (aF 2 (eLstM aC))
 (aD (sFor (aH (aA 0)) (gN 3) zdb)
 (sRet (aE zq (aB (eFz (aA 2)) aC)))))
noncomputable def zbp:SS:=(sFor (iR2X (aB (aE bMax2 (aB (eC (.int 0)) (aB (aS oSub (aA 5) (aA 2)) aC))) (aB (aS aM (aE bMin2 (aB (aS oFdiv (aA 1) (eC (.int 2))) (aB (aA 5) aC))) (eC (.int 1))) aC))) (gN 6) zbc)
noncomputable def zba:DFn:=fnD 7 3 (aD (aF 3 (eLstM aC))
 (aD (sFor (aH (aA 0)) (gT 2 (gsCons (gN 4) (gsCons (gN 5) gsNil))) zbp)
 (sRet (eFz (aA 3)))))
noncomputable def zbm:SS:=(aD (sAug 3 (oI (fun _ _=>True) fun i j=>.int (i - j)) (aS oFdiv (aA 4) (eC (.int 2))))
 (aF 2 (aE zba (aB (aA 2) (aB (aA 4) (aB (aA 3) aC))))))
noncomputable def zy:DFn:=fnD 5 2 (aD (aF 2 (eLst (aB (aR (aB (aR aC) (aB (aA 1) aC))) aC)))
 (aD (aF 3 (aE bSum (aB (aG (aH (aA 0)) 1 [] (gN 0) aI (aS oFdiv (aA 0) (eC (.int 2)))) aC)))
 (aD (sFor (aH (aA 0)) (gN 4) zbm)
 (sRet (aG (aH (aA 2)) 2 [] (gT 2 (gsCons (gN 0) (gsCons (gN 1) gsNil))) aI (aA 0))))))
noncomputable def zei:SS:=(sFor (aH (aE zy (aB (aA 3) (aB (aA 1) aC)))) (gN 4) zhc)
noncomputable def zda:DFn:=fnD 5 2 (aD (sIf (bOr (bNot (eTru (aE zbx (aB (aA 1) aC)))) (eB (aS oLtT (aA 1) (eC (.int 0))))) sStuck sNx)
 (aD (aF 2 eDNew)
 (aD (sFor (aH (aA 0)) (gN 3) zei)
 (sRet (aE bTuple (aB (aE bSorted (aB (aA 2) aC)) aC))))))
noncomputable def zqz:SS:=(aD (aF 11 (aE zda (aB (aA 4) (aB (aA 8) aC))))
 (sIf (bOr (bNot (eTru (aE zcp (aB (aA 3) (aB (aA 11) aC))))) (eB (aS oNe (aA 11) (aA 9)))) (sRet (eC (.bl false))) sNx))
noncomputable def zle:SS:=(aD (aF 9 (aE zbo (aB (aA 4) (aB (aE bMin2 (aB (aA 8) (aB (eC (.int 30)) aC))) aC))))
 (sFor (iR1 (aB (eC (.int 2)) aC)) (gN 10) zqz))
noncomputable def zqy:SS:=(aD (aF 2 (aE zek (aB (aA 0) (aB (aA 1) aC))))
 (aD (aF 3 (aE zcb (aB (aA 2) aC)))
 (aD (aF 4 (aE zej (aB (aA 2) (aB (aA 3) (aB (eC (.int 8)) (aB (aS oIx (eLst (aB (eC (.int 10)) (aB (eC (.int 24)) aC))) (aE bInt (aB (aS oLtT (aA 3) (eC (.int 4))) aC))) aC))))))
 (aD (aF 5 (aE zq (aB (aS aM (aE bList (aB (eSl (aA 4) pNone (pSome (aE zd (aB (aA 2) (aB (eC (.int 5)) aC))))) aC)) (aE bList (aB (aE zej (aB (aA 2) (aB (aA 3) (aB (eC (.int 4)) (aB (eC (.int 9)) aC))))) aC))) aC)))
 (aD (sIf (eB (aS oEq (aE zd (aB (aA 2) (aB (eC (.int 2)) aC))) (eC (.int 1)))) (aD (aF 6 (aE zcq (aB (aA 2) (aB (aA 3) aC))))
 (aD (aF 4 (aE zbu (aB (aA 2) (aB (aA 3) (aB (aA 6) (aB (eC (.int 8)) aC))))))
 (aF 5 (aE zq (aB (aS aM (aE bList (aB (eSl (aA 4) pNone (pSome (aE zd (aB (aA 2) (aB (eC (.int 5)) aC))))) aC)) (aE bList (aB (aE zbu (aB (aA 2) (aB (aA 3) (aB (aA 6) (aB (eC (.int 3)) aC))))) aC))) aC))))) sNx)
 (aD (aF 7 (eLst (aB (aE zbn (aB (aA 4) (aB (aA 5) aC))) (aB (aE zbn (aB (aA 5) (aB (aA 4) aC))) aC))))
 (aD (sIf (bOr (eB (aS oNe (aA 7) (aS oMulL (eLst (aB (aE zdk (aB (aA 4) (aB (aA 5) aC))) aC)) (eC (.int 2))))) (bNot (eTru (aE (bAny true) (aB (aG (aH (aA 7)) 1 [] (gN 0) aI (aE bIsinst (aB (aA 0) (aB (eC (.ty "bool")) aC)))) aC))))) (sRet (eC (.bl false))) sNx)
 (sFor (aH (eLst (aB (eC (.int 0)) (aB (eC (.int 1)) (aB (eC (.int 2)) (aB (aS aM (eC (.int 1)) (aE zd (aB (aA 2) (aB (eC (.int 24)) aC)))) (aB (aE zd (aB (aA 2) (aB (aS oPow (eC (.int 10)) (eC (.int 39))) aC))) aC))))))) (gN 8) zle))))))))
noncomputable def zbif:DFn:=fnD 12 1 (aD (sFor (iR1 (aB (aS aM (aE bMin2 (aB (eC (.int 5)) (aB (aE bLen (aB (aA 0) aC)) aC))) (eC (.int 1))) aC)) (gN 1) zqy)
 (sRet (eC (.bl true))))
noncomputable def RngOk (j:Int):Prop:=-(2 ^ 62)<=j/\j < 2 ^ 62
noncomputable instance (j:Int):Decidable (RngOk j):=by unfold RngOk;infer_instance
theorem rngOk {j:Int}(h1:-1000000000000<=j)(h2:j<=1000000000000):RngOk j:=⟨by lia,by lia⟩
section
variable {σ:DS}{st:Store}
@[simp] theorem eC_v {d:D}:eC d σ st=.ok d st:=rfl
@[simp] theorem zbgf {i:Nat}:aA i σ st=(match σ[i]? with
 | some (some d)=>.ok d st
 | _=>.stuck):=rfl
@[simp] theorem zbkj {g:D->D->Store->Res D} {f f':SE}:aS g f f' σ st=(f σ st).bind fun x st1=>(f' σ st1).bind fun y st2=>g x y st2:=rfl
@[simp] theorem zble {g:D->Store->Res D} {f:SE}:eUn g f σ st=(f σ st).bind fun x st1=>g x st1:=rfl
@[simp] theorem zut {g:List D->Store->Res D} {f:SA}:aE g f σ st=(f σ st).bind fun xs st1=>g xs st1:=rfl
@[simp] theorem zbid:aC σ st=.ok [] st:=rfl
@[simp] theorem zqx {f:SE} {g:SA}:aB f g σ st=(f σ st).bind fun x st1=>(g σ st1).bind fun xs st2=>.ok (x::xs) st2:=rfl
@[simp] theorem eB_v {f:SE}:eB f σ st=(f σ st).bind fun v st1=>(match v with
 | .bl b=>.ok b st1
 | _=>.stuck):=rfl
@[simp] theorem zbbu {f:SE}:eTru f σ st=(f σ st).bind fun v st1=>(match tru st1 v with
 | some b=>.ok b st1
 | none=>.stuck):=rfl
@[simp] theorem zbgj {f f':SE}:eAnd f f' σ st=(f σ st).bind fun v st1=>(match v with
 | .bl true=>f' σ st1
 | .bl false=>.ok (.bl false) st1
 | _=>.stuck):=rfl
@[simp] theorem zbki {f f':SE}:eOr f f' σ st=(f σ st).bind fun v st1=>(match v with
 | .bl true=>.ok (.bl true) st1
 | .bl false=>f' σ st1
 | _=>.stuck):=rfl
@[simp] theorem zbbv {f:SE}:eNot f σ st=(f σ st).bind fun v st1=>(match v with
 | .bl b=>.ok (.bl (!b)) st1
 | _=>.stuck):=rfl
@[simp] theorem zbib {f f':ST}:bAnd f f' σ st=(f σ st).bind fun b st1=>if b=true then f' σ st1 else .ok false st1:=rfl
@[simp] theorem zbla {f f':ST}:bOr f f' σ st=(f σ st).bind fun b st1=>if b=true then .ok true st1 else f' σ st1:=rfl
@[simp] theorem zblb {f:ST}:bNot f σ st=(f σ st).bind fun b st1=>.ok (!b) st1:=rfl
@[simp] theorem zbkz:aI σ st=.ok true st:=rfl
@[simp] theorem zbkk {c:ST} {f f':SE}:eIf c f f' σ st=(c σ st).bind fun b st1=>if b=true then f σ st1 else f' σ st1:=rfl
@[simp] theorem zbgg {g:SA}:aR g σ st=(g σ st).bind fun xs st1=>if xs.length<=sizeLine then .ok (.tup xs) st1 else .stuck:=rfl
@[simp] theorem zbgh {g:SA}:eLst g σ st=(g σ st).bind fun xs st1=>if xs.length<=sizeLine then .ok (.lst xs) st1 else .stuck:=rfl
@[simp] theorem zbbw {g:SA}:eLstM g σ st=(g σ st).bind fun xs st1=>if xs.length<=sizeLine then .ok (.ref st1.length) (st1++[.lst xs]) else .stuck:=rfl
@[simp] theorem zbgi {g g':D->D->Store->Res D} {f f' f'':SE}:eChain g g' f f' f'' σ st=(f σ st).bind fun x st1=>(f' σ st1).bind fun y st2=>(g x y st2).bind fun z st3=>(match z with
 | .bl true=>(f'' σ st3).bind fun w st4=>g' y w st4
 | .bl false=>.ok (.bl false) st3
 | _=>.stuck):=rfl
@[simp] theorem zbjd:eDNew σ st=.ok (.ref st.length) (st++[.dT []]):=rfl
@[simp] theorem zbld:sNx σ st=.ok (.nx σ) st:=rfl
@[simp] theorem zbjn:sBrk σ st=.ok (.brk σ) st:=rfl
@[simp] theorem zbef {f:SE}:sRet f σ st=(f σ st).bind fun v st1=>.ok (.ret v) st1:=rfl
@[simp] theorem zbik:sRetN σ st=.ok (.ret .non) st:=rfl
@[simp] theorem zbil {f:SE}:sDrop f σ st=(f σ st).bind fun _ st1=>.ok (.nx σ) st1:=rfl
@[simp] theorem zbjk {i:Nat} {f:SE}:aF i f σ st=(f σ st).bind fun v st1=>.ok (.nx (σ.set i (some v))) st1:=rfl
@[simp] theorem zbee {s t:SS}:aD s t σ st=(match s σ st with
 | .ok (.nx σ1) st1=>t σ1 st1
 | r=>r):=rfl
@[simp] theorem zbjl {c:ST} {s t:SS}:sIf c s t σ st=(c σ st).bind fun b st1=>if b=true then s σ st1 else t σ st1:=rfl
@[simp] theorem zbeh {i:Nat} {g:D->D->Store->Res D} {f:SE}:sAug i g f σ st=(match σ[i]? with
 | some (some x)=>(f σ st).bind fun y st1=>(g x y st1).bind fun z st2=>.ok (.nx (σ.set i (some z))) st2
 | _=>.stuck):=rfl
@[simp] theorem zbjm {it:SA} {bd:SG} {body:SS}:sFor it bd body σ st=(it σ st).bind fun xs st1=>forF bd body xs σ st1:=rfl
@[simp] theorem zbgc {f:SE}:aH f σ st=(f σ st).bind fun x st1=>(match seqV x with
 | some xs=>.ok xs st1
 | none=>.stuck):=rfl
@[simp] theorem zbkf {g:SA}:iR1 g σ st=(g σ st).bind fun xs st1=>(match xs with
 | [.int j]=>if RngOk j then .ok (rng 0 j.toNat) st1 else .stuck
 | _=>.stuck):=rfl
@[simp] theorem zbke {g:SA}:iR2 g σ st=(g σ st).bind fun xs st1=>(match xs with
  | [.int i, .int j]=>if RngOk i/\RngOk j then .ok (rng i (j - i).toNat) st1 else .stuck
  | _=>.stuck):=by
  show(g σ st).bind _=_
  congr 1
  funext xs st1
  split
  · unfold RngOk
    simp only[and_assoc]
  · rename_i h
    first
      | rfl
      | (split
         · rename_i i j
           exact absurd rfl (h i j)
         · rfl)
@[simp] theorem zbiy {f:SE}:iDict f σ st=(f σ st).bind fun x st1=>(match x with
 | .ref n=>(match st1[n]? with
  | some (.dT kvs)=>.ok (aJ (kvs.map (·.1))) (st1.set n (.fT kvs))
  | _=>.stuck)
 | _=>.stuck):=rfl
@[simp] theorem zus {it:SA} {k:Nat} {is:List Nat} {bd:SG} {c:ST} {f:SE}:aG it k is bd c f σ st=(it σ st).bind fun xs st1=>if xs.length<=sizeLine then(compF bd c f xs (aT k is σ) st1).bind fun ys st2=>.ok (.lst ys) st2 else .stuck:=rfl
@[simp] theorem zbkl {f:SE}:eFz f σ st=(f σ st).bind fun x st1=>(match x with
 | .ref n=>(match st1[n]? with
  | some (.lst xs)=>.ok (.lst xs) (st1.set n .dead)
  | _=>.stuck)
 | _=>.stuck):=rfl
@[simp] theorem zbiu:pNone σ st=.ok none st:=rfl
@[simp] theorem zbah {f:SE}:pSome f σ st=(f σ st).bind fun v st1=>(match v with
 | .int i=>.ok (some i) st1
 | _=>.stuck):=rfl
@[simp] theorem zbkh {f:SE} {lo hi:DS->Store->Res (Option Int)}:eSl f lo hi σ st=(f σ st).bind fun x st1=>(lo σ st1).bind fun l st2=>(hi σ st2).bind fun h st3=>(match x with
 | .tup xs=>.ok (.tup (cutD xs l h)) st3
 | x=>match asL st3 x with
  | some xs=>.ok (.lst (cutD xs l h)) st3
  | none=>.stuck):=rfl
@[simp] theorem ztd {f:SE} {g:SA}:eAppend f g σ st=(f σ st).bind fun x st1=>(match x,asL st1 x with
 | .ref n,some _=>(g σ st1).bind fun ys st2=>(match ys,st2[n]? with
  | [y],some (.lst xs)=>if xs.length < sizeLine then .ok .non (st2.set n (.lst (xs++[y]))) else .stuck
  | _,_=>.stuck)
 | _,_=>.stuck):=rfl
@[simp] theorem ztc {f:SE} {g:SA}:eExtend f g σ st=(f σ st).bind fun x st1=>(match x,asL st1 x with
 | .ref n,some _=>(g σ st1).bind fun ys st2=>(match ys,st2[n]? with
  | [y],some (.lst xs)=>(match asL st2 y with
   | some zs=>if xs.length+zs.length<=sizeLine then .ok .non (st2.set n (.lst (xs++zs))) else .stuck
   | none=>.stuck)
  | _,_=>.stuck)
 | _,_=>.stuck):=rfl
@[simp] theorem zvr {f g h:SE}:sSetIx f g h σ st=(h σ st).bind fun v st1=>(f σ st1).bind fun x st2=>(g σ st2).bind fun y st3=>(match x,y with
 | .ref n,.int k=>(match st3[n]? with
  | some (.lst xs)=>(match ixN xs.length k with
   | some j=>.ok (.nx σ) (st3.set n (.lst (xs.set j v)))
   | none=>.stuck)
  | _=>.stuck)
 | _,_=>.stuck):=rfl
@[simp] theorem zxd {f g h:SE}:eDGet2 f g h σ st=(f σ st).bind fun x st1=>(match pairsOf st1 x with
 | some _=>(g σ st1).bind fun y st2=>(h σ st2).bind fun z st3=>(match pairsOf st3 x,keyOf y with
  | some kvs,some k=>.ok ((valD kvs k).getD z) st3
  | _,_=>.stuck)
 | none=>.stuck):=rfl
@[simp] theorem zbjc {f g:SE}:eDPop f g σ st=(f σ st).bind fun x st1=>(match pairsOf st1 x with
 | some _=>(g σ st1).bind fun y st2=>(match x,keyOf y with
  | .ref n,some k=>(match st2[n]? with
   | some (.dT kvs)=>(match valD kvs k with
    | some v=>.ok v (st2.set n (.dT (dropD kvs k)))
    | none=>.stuck)
   | _=>.stuck)
  | _,_=>.stuck)
 | none=>.stuck):=rfl
@[simp] theorem zzh {f g h:SE}:sDPut f g h σ st=(h σ st).bind fun v st1=>(f σ st1).bind fun x st2=>(g σ st2).bind fun y st3=>(match x,keyOf y with
 | .ref n,some k=>(match st3[n]? with
  | some (.dT kvs)=>if kvs.length < sizeLine then .ok (.nx σ) (st3.set n (.dT (putD kvs k v))) else .stuck
  | _=>.stuck)
 | _,_=>.stuck):=rfl
theorem zbjb {n np:Nat}{b:SS}{ds:List D}:fnD n np b ds st=if ds.length=np then(match b (ds.map some++List.replicate (n - np) none) st with
 | .ok (.ret v) st'=>.ok v st'
 | .ok (.nx _) st'=>.ok .non st'
 | .exc x st'=>.exc x st'
 | _=>.stuck) else .stuck:=rfl
end
section
variable {st:Store}{i j:Int}
@[simp] theorem oI_v {C:Int->Int->Prop} [DecidableRel C] {h:Int->Int->D}:oI C h (.int i) (.int j) st=if C i j then .ok (h i j) st else .stuck:=rfl
@[simp] theorem zbkc:aM (.int i) (.int j) st=.ok (.int (i+j)) st:=rfl
@[simp] theorem zbfk {a b:List D}:aM (.tup a) (.tup b) st=if a.length+b.length<=sizeLine then .ok (.tup (a++b)) st else .stuck:=rfl
@[simp] theorem zbjy:oLtT (.int i) (.int j) st=.ok (.bl (decide (i < j))) st:=rfl
@[simp] theorem zbjw:oNeg (.int i) st=.ok (.int (-i)) st:=rfl
@[simp] theorem zch (ns:List Int):asInts (ns.map .int)=some ns:=by
 induction ns with
 | nil=>rfl
 | cons n ns ih=>rw[xbn,asInts,ih];rfl
@[simp] theorem zqu (l:List (List Int)):asRows (aJ l)=some l:=by
 induction l with
 | nil=>rfl
 | cons n ns ih =>
  unfold aJ at ih ⊢;rw[xbn,asRows,zch,ih];rfl
@[simp] theorem zef (ns:List Int):keyOf (aL ns)=some ns:=zch ns
theorem zie:dataOf st (.int i)=some (.int i):=rfl
@[simp] theorem zbkb:oEq (.int i) (.int j) st=.ok (.bl (decide (i=j))) st:=by
 show oEqG false (.int i) (.int j) st=_;unfold oEqG;rw[zie,zie];dsimp only;rw[if_pos ⟨rfl,rfl⟩];show Res.ok (D.bl (i==j)) st=_;rw[show(i==j)=decide (i=j) from by rw[xfs];simp]
@[simp] theorem zbjx:oNe (.int i) (.int j) st=.ok (.bl (!decide (i=j))) st:=by
 show oEqG true (.int i) (.int j) st=_;unfold oEqG;rw[zie,zie];dsimp only;rw[if_pos ⟨rfl,rfl⟩];show Res.ok (D.bl (!(i==j))) st=_;rw[show(i==j)=decide (i=j) from by rw[xfs];simp]
theorem zmi (ns:List Int):toDatas (ns.map .int)=some (dI ns):=by
 induction ns with
 | nil=>rfl
 | cons n ns ih=>rw[xbn,toDatas,ih];rfl
theorem zti (l:List (List Int)):toDatas (aJ l)=some (l.map dRow):=by
 induction l with
 | nil=>rfl
 | cons n ns ih =>
  unfold aJ at ih ⊢;rw[xbn,toDatas,ih,toData,zmi];rfl
noncomputable abbrev aK (l:List (List Int)):D:=.tup (aJ l)
theorem zkr (l:List (List Int)):dataOf st (aK l)=some (.tuple (l.map dRow)):=by
 show(toDatas (aJ l)).map PyData.tuple=_;rw[zti];rfl
theorem zxk (l:List Int):dataOf st (aL l)=some (dRow l):=by
 show(toDatas (l.map .int)).map PyData.tuple=_;rw[zmi];rfl
theorem zbau {neg:Bool}(a b:List (List Int)):oEqG neg (aK a) (aK b) st=.ok (.bl (if neg then !decide (a=b) else decide (a=b))) st:=by
 unfold oEqG;rw[zkr,zkr];dsimp only;rw[if_pos ⟨zdv a,zdv b⟩];have e:PyData.eqv (.tuple (a.map dRow)) (.tuple (b.map dRow))=decide (a=b):=zmk a b;rw[e]
theorem small (n:Nat)(h:n<=1000000):n<=sizeLine:=by rw[xgr];lia
theorem smallT (n:Nat)(h:n<=1000000):n < sizeLine:=by rw[xgr];lia
end
theorem zur {bd:SG}{body:SS}(I:Nat->DS->Store->Prop):∀(xs:List D) (k:Nat) (σ:DS) (st:Store),I k σ st ->
  (∀i x σ st,xs[i]?=some x->I (k+i) σ st->∃σ1 σ2 st2,bd x σ=some σ1/\body σ1 st=.ok (.nx σ2) st2/\I (k+i+1) σ2 st2)->∃σ' st',forF bd body xs σ st=.ok (.nx σ') st'/\I (k+xs.length) σ' st'
 | [],k,σ,st,h,_=>⟨σ,st,rfl,h⟩
 | x::xs,k,σ,st,h,s=>by
  obtain⟨σ1,σ2,st2,e1,e2,h2⟩:=s 0 x σ st rfl h;obtain⟨σ',st',e3,h3⟩:=zur I xs (k+1) σ2 st2 h2 fun i y σ st hy hi=>by
   have:=s (i+1) y σ st (by simpa using hy) (by rw[show k+(i+1)=k+1+i by lia];exact hi);rw[show k+(i+1)+1=k+1+i+1 by lia] at this;exact this
  refine⟨σ',st',?_,by rw[xby,show k+(xs.length+1)=k+1+xs.length by lia];exact h3⟩;unfold forF;rw[e1];dsimp only;rw[e2];exact e3
theorem zbbo {bd:SG}{body:SS}(I:Nat->DS->Store->Prop){xs:List D}{σ:DS}{st:Store}(h0:I 0 σ st)
  (s:∀i x σ st,xs[i]?=some x->I i σ st->∃σ1 σ2 st2,bd x σ=some σ1/\body σ1 st=.ok (.nx σ2) st2/\I (i+1) σ2 st2):∃σ' st',forF bd body xs σ st=.ok (.nx σ') st'/\I xs.length σ' st':=by
 have:=zur I xs 0 σ st h0 fun i x σ st hx hi=>by
  rw[xdz] at hi ⊢;exact s i x σ st hx hi
 rw[xdz] at this;exact this
theorem zbej {lo:Int}{n i:Nat}{x:D}(h:(rng lo n)[i]?=some x):i < n/\x=.int (lo+i):=zeu h
theorem zbj (lo:Int)(n:Nat):(rng lo n).length=n:=by simp[rng]
theorem zkv {bd:SG}{c:ST}{f:SE}(I:Nat->List D->DS->Store->Prop):∀(xs:List D) (k:Nat) (acc:List D) (σ:DS) (st:Store),I k acc σ st ->
  (∀i x acc σ st,xs[i]?=some x->I (k+i) acc σ st->∃σ1 b st1,bd x σ=some σ1/\c σ1 st=.ok b st1/\((b=false/\I (k+i+1) acc σ1 st1)\/(b=true/\∃y st2,f σ1 st1=.ok y st2/\I (k+i+1) (acc++[y]) σ1 st2))) ->
  ∃ys σ' st',compF bd c f xs σ st=.ok ys st'/\I (k+xs.length) (acc++ys) σ' st'
 | [],k,acc,σ,st,h,_=>⟨[],σ,st,rfl,by rw[xes];exact h⟩
 | x::xs,k,acc,σ,st,h,s=>by
  have s':∀i y acc σ st,xs[i]?=some y->I (k+1+i) acc σ st->∃σ1 b st1,bd y σ=some σ1/\c σ1 st=.ok b st1/\((b=false/\I (k+1+i+1) acc σ1 st1)\/(b=true/\∃z st2,f σ1 st1=.ok z st2/\I (k+1+i+1) (acc++[z]) σ1 st2)):=fun i y acc σ st hy hi=>by
   have:=s (i+1) y acc σ st (by simpa using hy) (by rw[show k+(i+1)=k+1+i by lia];exact hi);rw[show k+(i+1)+1=k+1+i+1 by lia] at this;exact this
  obtain⟨σ1,b,st1,e1,e2,h2⟩:=s 0 x acc σ st rfl h;rcases h2 with⟨rfl,h2⟩ | ⟨rfl,y,st2,e3,h2⟩
  ·obtain⟨ys,σ',st',e4,h3⟩:=zkv I xs (k+1) acc σ1 st1 h2 s';refine⟨ys,σ',st',?_,by rw[xby,show k+(xs.length+1)=k+1+xs.length by lia];exact h3⟩;unfold compF;rw[e1];dsimp only;rw[e2];exact e4
  ·obtain⟨ys,σ',st',e4,h3⟩:=zkv I xs (k+1) (acc++[y]) σ1 st2 h2 s';refine⟨y::ys,σ',st',?_,by rw[xby,show k+(xs.length+1)=k+1+xs.length by lia];rw[xci] at h3;exact h3⟩;unfold compF;rw[e1];dsimp only;rw[e2];dsimp only[zez];rw[if_pos rfl,e3];dsimp only[zez];rw[e4]
   rfl
theorem zbcw {bd:SG}{c:ST}{f:SE}(I:Nat->List D->DS->Store->Prop){xs:List D}{σ:DS}{st:Store}(h0:I 0 [] σ st)
  (s:∀i x acc σ st,xs[i]?=some x->I i acc σ st->∃σ1 b st1,bd x σ=some σ1/\c σ1 st=.ok b st1/\((b=false/\I (i+1) acc σ1 st1)\/(b=true/\∃y st2,f σ1 st1=.ok y st2/\I (i+1) (acc++[y]) σ1 st2))) :
  ∃ys σ' st',compF bd c f xs σ st=.ok ys st'/\I xs.length ys σ' st':=by
 have:=zkv I xs 0 [] σ st h0 fun i x acc σ st hx hi=>by
  rw[xdz] at hi ⊢;exact s i x acc σ st hx hi
 rw[xdz] at this
 simpa using this
theorem zrd {c:ST}{body:SS}(I:Nat->DS->Store->Prop)(post:DS->Store->Prop){σ:DS}{st:Store}{k:Nat}(h0:I k σ st)(hm:k < wCap)
  (s:∀j σ st,I j σ st->∃b st1,c σ st=.ok b st1/\((b=false/\post σ st1)\/(b=true/\∃i σ2 st2,body σ st1=.ok (.nx σ2) st2/\I i σ2 st2/\i < j))):∃σ' st',sWhile c body σ st=.ok (.nx σ') st'/\post σ' st':=by
 have main:∀n j σ st,I j σ st->j < n->∃σ' st',whileF c body n σ st=.ok (.nx σ') st'/\post σ' st':=by
  intro n
  induction n with
  | zero=>intro j σ st _ h;lia
  | succ n ih =>
   intro j σ st hI hlt;obtain⟨b,st1,e1,h⟩:=s j σ st hI;unfold whileF;rw[e1];dsimp only[zez];rcases h with⟨rfl,h⟩ | ⟨rfl,i,σ2,st2,e2,h2,h3⟩
   ·exact⟨σ,st1,by rw[if_neg (by decide)],h⟩
   ·obtain⟨σ',st',e3,h4⟩:=ih i σ2 st2 h2 (by lia);refine⟨σ',st',?_,h4⟩;rw[if_pos rfl,e2];exact e3
 exact main wCap k σ st h0 hm
section
variable {st:Store}{n:Nat}{xs:List D}{i:Int}
@[simp] theorem zbdi:seqOf st (.tup xs)=some xs:=rfl
@[simp] theorem zbdj:seqOf st (.scr xs)=some xs:=rfl
@[simp] theorem zbdk:seqOf st (.lst xs)=some xs:=rfl
@[simp] theorem zbeb:seqV (.tup xs)=some xs:=rfl
@[simp] theorem zbed:seqV (.lst xs)=some xs:=rfl
@[simp] theorem zbec:seqV (.scr xs)=some xs:=rfl
@[simp] theorem zbjg:asL st (.lst xs)=some xs:=rfl
theorem zgi (h:st[n]?=some (.lst xs)):asL st (.ref n)=some xs:=by
 unfold asL;dsimp only;rw[h]
theorem zhh (h:st[n]?=some (.lst xs)):seqOf st (.ref n)=some xs:=zgi h
theorem zpa {x:D}{d:D}(h:seqOf st x=some xs)(h2:L2.atI xs i=some d):oIx x (.int i) st=.ok d st:=by
 unfold oIx;rw[h];dsimp only;rw[h2]
@[simp] theorem zbhy:bLen [.tup xs] st=.ok (.int xs.length) st:=rfl
@[simp] theorem zbia:bLen [.lst xs] st=.ok (.int xs.length) st:=rfl
@[simp] theorem zbhz:bLen [.scr xs] st=.ok (.int xs.length) st:=rfl
@[simp] theorem zblc:bAbs [.int i] st=.ok (.int (if i < 0 then -i else i)) st:=rfl
@[simp] theorem zblf {g:Int->Int->Int} {j:Int}:b2I g [.int i,.int j] st=.ok (.int (g i j)) st:=rfl
@[simp] theorem zbhw {ns:List Int}:bSum [aL ns] st=.ok (.int ns.sum) st:=by
 unfold bSum;simp
@[simp] theorem zbdd:bTuple [.tup xs] st=.ok (.tup xs) st:=rfl
@[simp] theorem zqq:bTuple [.lst xs] st=.ok (.tup xs) st:=rfl
theorem zla {l:List (List Int)}(h:l.length<=1000000):bSorted [.lst (aJ l)] st=.ok (.lst (aJ (sortR l))) st:=by
 unfold bSorted;simp[h]
theorem zlb {kvs:List (List Int×D)}(h:st[n]?=some (.dT kvs))(hl:kvs.length<=1000000):bSorted [.ref n] st=.ok (.lst (aJ (sortR (kvs.map (·.1))))) st:=by
 unfold bSorted asL pairsOf;simp[h,hl]
theorem zqs {j:Nat}{d:D}(h:xs[j]?=some d):L2.atI xs (j:Int)=some d:=zve h
theorem zfq {o:O}(h:n < st.length):(st.set n o)[n]?=some o:=xel h
theorem zu {o:O}(h:st[n]?=some o):n < st.length:=(xbm.mp h).1
theorem zbea {o:O}(h:st[n]?=some o):st.set n o=st:=by
 apply xlj;intro i;by_cases e:i=n
 ·subst e;rw[xel (zu h),h]
 ·rw[xdd (xda e)]
end
theorem znt {n np:Nat}{b:SS}{ds:List D}{st st':Store}{v:D}(h:ds.length=np)(e:b (ds.map some++List.replicate (n - np) none) st=.ok (.ret v) st'):fnD n np b ds st=.ok v st':=by
 rw[zbjb,if_pos h,e]
theorem zbja {n np:Nat}{b:SS}{ds:List D}{st st':Store}{σ:DS}(h:ds.length=np)(e:b (ds.map some++List.replicate (n - np) none) st=.ok (.nx σ) st'):fnD n np b ds st=.ok .non st':=by
 rw[zbjb,if_pos h,e]
noncomputable abbrev bagO (c x:Int):O:=.lst [.int c,.int x]
noncomputable def BagAt (st:Store) (n:Nat):Prop:=∃c x:Int,st[n]?=some (bagO c x)/\0<=c/\0<=x
structure Drew (st st':Store) (n:Nat):Prop where
 len:st.length<=st'.length
 keep:∀ i, i < st.length->i≠n->st'[i]?=st[i]?
 bag:BagAt st' n
theorem Drew.trans {st st1 st2:Store}{n:Nat}(a:Drew st st1 n)(b:Drew st1 st2 n):Drew st st2 n :=
 ⟨xbb a.len b.len,fun i h1 h2=>(b.keep i (xbh h1 a.len) h2).trans (a.keep i h1 h2),b.bag⟩
theorem Drew.set {st:Store}{n:Nat}{c x:Int}(h:BagAt st n)(hc:0<=c)(hx:0<=x):Drew st (st.set n (bagO c x)) n:=by
 obtain⟨_,_,e,_⟩:=h;exact⟨by rw[xfr];exact xbf _,fun i _ h2=>xdd (xda h2),c,x,zfq (zu e),hc,hx⟩
theorem Drew.more {st:Store}{n:Nat}(h:BagAt st n)(g:Store):Drew st (st++g) n:=by
 obtain⟨c,x,e,h1,h2⟩:=h;exact⟨by rw[xbk];lia,fun i h _=>xcw h,c,x,by rw[xcw (zu e)];exact e,h1,h2⟩
theorem ztz {st:Store}{n:Nat}{m:Int}(hb:BagAt st n)(h1:1<=m)(h2:m < 2 ^ 1000) :
  ∃r st',zd [.ref n,.int m] st=.ok (.int r) st'/\0<=r/\r < m/\Drew st st' n/\st'.length=st.length:=by
 obtain⟨c,x,hn,hc,hx⟩:=id hb;have s0:∀{c x:Int} {st:Store},st[n]?=some (bagO c x)->oIx (.ref n) (.int 0) st=.ok (.int c) st:=fun h=>zpa (zhh h) rfl
 have s1:∀{c x:Int} {st:Store},st[n]?=some (bagO c x)->oIx (.ref n) (.int 1) st=.ok (.int x) st:=fun h=>zpa (zhh h) rfl
 by_cases h0:0 < c
 ·have d1:CDivP c m:=⟨by lia,h2⟩
  have e0:ixN 2 0=some 0:=rfl;refine⟨c % m,st.set n (bagO (c / m) x),znt rfl ?_,xix _ (by lia),Int.emod_lt_of_pos _ (by lia),Drew.set hb (Int.ediv_nonneg hc (by lia)) hx,xfr⟩;simp[s0 hn,h0,hn,e0,show(0:Int) < m by lia,d1]
 ·have hlen:=zu hn
  have W:=zrd (c:=eB (aS oLtT (aA 4) (aA 1))) (body:=aD (sSetIx (aA 0) (eC (.int 1)) (aS oMod (aS aM (aS oMulI (aS oIx (aA 0) (eC (.int 1))) (eC (.int 48271))) (eC (.int 7919))) (eC (.int 2147483647))))
   (aD (aF 3 (aS aM (aS oMulI (aA 3) (eC (.int 1073741789))) (aS oMod (aS oMulI (aS oFdiv (aS oIx (aA 0) (eC (.int 1))) (eC (.int 8))) (eC (.int 69621))) (eC (.int 1073741789)))))
   (aF 4 (aS oMulI (aA 4) (eC (.int 1073741789)))))) (k:=1000) (σ:=[some (.ref n),some (.int m),none,some (.int 0),some (.int 1)]) (st:=st)
   (fun j σ s=>∃c' x' nn rr:Int,σ=[some (.ref n),some (.int m),none,some (.int nn),some (.int rr)]/\s=st.set n (bagO c' x')/\0<=c'/\0<=x'/\0<=nn/\j<=1000/\2 ^ (1000 - j)<=rr)
   (fun σ s=>∃c' x' nn:Int,(∃rr,σ=[some (.ref n),some (.int m),none,some (.int nn),some (.int rr)])/\s=st.set n (bagO c' x')/\0<=c'/\0<=x'/\0<=nn)
   ⟨c,x,0,1,rfl,(zbea hn).symm,hc,hx,by lia,by lia,by decide⟩ (by decide) (by
    rintro j σ s ⟨c',x',nn,rr,rfl,rfl,a1,a2,a3,a4,a5⟩;have g1:(st.set n (bagO c' x'))[n]?=some (bagO c' x'):=zfq hlen;by_cases hlt:rr < m
    ·have hj:1<=j:=by
      rcases xku j with z | z
      ·subst z;have a5':(2:Int) ^ 1000<=rr:=a5;lia
      ·exact z
     have e1:ixN 2 1=some 1:=rfl;have m1:CMul x' 48271:=.inr ⟨by decide,by decide⟩;have m2:CMul nn 1073741789:=.inr ⟨by decide,by decide⟩;have m3:CMul rr 1073741789:=.inr ⟨by decide,by decide⟩;have g2:∀y:Int,(st.set n (bagO c' y))[n]?=some (bagO c' y):=fun y=>zfq hlen
     have m4:∀y:Int,CMul y 69621:=fun y=>.inr ⟨by decide,by decide⟩
     have d8:∀y:Int,CDivP y 8:=fun y=>⟨by decide,by decide +kernel⟩
     refine⟨true,st.set n (bagO c' x'),by simp[hlt],.inr ⟨rfl,j - 1,_,st.set n (bagO c' ((x' * 48271+7919) % 2147483647)),?_,⟨c',(x' * 48271+7919) % 2147483647,nn * 1073741789+(x' * 48271+7919) % 2147483647 / 8 * 69621 % 1073741789,rr * 1073741789,rfl,rfl,a1,?_,?_,by lia,?_⟩,by lia⟩⟩
     ·simp[s1 g1,g1,e1,m1,m2,m3,m4,d8,s1 (g2 _)]
     ·exact xix _ (by lia)
     ·have a1:0<=nn * 1073741789:=Int.mul_nonneg a3 (by lia);have a2:=xix ((x' * 48271+7919) % 2147483647 / 8 * 69621) (show(1073741789:Int)≠0 by lia);lia
     ·have e:(2:Int) ^ (1000 - (j - 1))=2 ^ (1000 - j) * 2:=by
       rw[← Int.pow_succ];congr 1;lia
      rw[e];have hp:(0:Int)<=2 ^ (1000 - j):=Int.pow_nonneg (by decide);lia
    ·exact⟨false,_,by simp[hlt],.inl ⟨rfl,c',x',nn,⟨rr,rfl⟩,rfl,a1,a2,a3⟩⟩)
  obtain⟨σ',st',e,c',x',nn,hσ,hst,k1,k2,k3⟩:=W;obtain⟨rr,rfl⟩:=hσ;subst hst;refine⟨nn % m,st.set n (bagO c' x'),znt rfl ?_,xix _ (by lia),Int.emod_lt_of_pos _ (by lia),Drew.set hb k1 k2,xfr⟩;simp[s0 hn,h0,e,show(0:Int) < m by lia]
theorem zjp {ns:List Int}{j:Nat}(h:j < ns.length):L2.atI (ns.map D.int) (j:Int)=some (.int ns[j]):=zve (by rw[xct,xbg h];rfl)
theorem zbhv {st:Store}{ns:List Int}{i:Nat}(hl:ns.length<=63)(hi:i<=100000):∃c x:Int,0<=c/\0<=x/\zek [.scr (ns.map .int),.int i] st=.ok (.ref st.length) (st++[bagO c x]):=by
 have cell:∃c:Int,0<=c/\sIf (eB (aS oLtT (aA 1) (aE bLen (aB (aA 0) aC)))) (aF 2 (aE bAbs (aB (aS oIx (aA 0) (aA 1)) aC))) sNx [some (.scr (ns.map .int)),some (.int i),some (.int 0),none,none] st
   = .ok (.nx [some (.scr (ns.map .int)),some (.int i),some (.int c),none,none]) st:=by
  by_cases h:i < ns.length
  ·have e:oIx (.scr (ns.map .int)) (.int i) st=.ok (.int ns[i]) st:=zpa rfl (zjp h);refine⟨if ns[i] < 0 then -ns[i] else ns[i],by split<;>lia,?_⟩;simp[h,e]
  ·exact⟨0,by lia,by simp[h]⟩
 obtain⟨c,hc,ec⟩:=cell;have hmin:(if(60:Int) < (ns.length:Int) then(60:Int) else ns.length).toNat<=ns.length:=by split<;>lia
 have W:=zbbo (bd:=gN 4) (body:=aF 3 (aS oMod (aS aM (aS aM (aS oMulI (aA 3) (eC (.int 48271))) (aS oMod (aS oIx (aA 0) (aA 4)) (eC (.int 2147483647)))) (aA 4)) (eC (.int 2147483629))))
  (xs:=rng 0 (if(60:Int) < (ns.length:Int) then(60:Int) else ns.length).toNat) (σ:=[some (.scr (ns.map .int)),some (.int i),some (.int c),some (.int (7919 * i+17)),none]) (st:=st)
  (fun j σ s=>s=st/\∃(mix:Int) (v:Option D),σ=[some (.scr (ns.map .int)),some (.int i),some (.int c),some (.int mix),v]/\0<=mix) ⟨rfl,_,none,rfl,by lia⟩ (by
   rintro j x σ s hx ⟨rfl,mix,v,rfl,hm⟩;obtain⟨hj,rfl⟩:=zbej hx;have hj2:j < ns.length:=by lia
   have e:oIx (.scr (ns.map .int)) (.int (0+j)) s=.ok (.int ns[j]) s:=zpa rfl (by rw[xlp];exact zjp hj2);rw[xlp] at e;have m1:CMul mix 48271:=.inr ⟨by decide,by decide⟩;refine⟨_,[some (.scr (ns.map .int)),some (.int i),some (.int c),some (.int ((mix * 48271+ns[j] % 2147483647+j) % 2147483629)),some (.int (0+j))],s,rfl,?_,rfl,_,_,rfl,xix _ (by lia)⟩
   simp[e,m1])
 obtain⟨σ',st',e,rfl,mix,v,rfl,hm⟩:=W;have m0:CMul 7919 (i:Int):=.inl ⟨by decide,by decide⟩;have p0:CPow 10 18:=⟨by decide,by decide,by decide⟩
 have hr:RngOk (if(60:Int) < (ns.length:Int) then(60:Int) else ns.length):=by
  split<;>exact rngOk (by lia) (by lia)
 by_cases hlt:c < 1000000000000000000
 ·refine⟨0,mix,by lia,hm,znt rfl ?_⟩;have hs:=small 2 (by lia);simp at ec;simp[ec,m0,hr,e,p0,hlt,hs]
 ·refine⟨c,mix,hc,hm,znt rfl ?_⟩;have hs:=small 2 (by lia);simp at ec;simp[ec,m0,hr,e,p0,hlt,hs]
theorem seqN {s t:SS}{σ σ1:DS}{st st1:Store}{r:Res Fl}(h:s σ st=.ok (.nx σ1) st1)(k:t σ1 st1=r):aD s t σ st=r:=by
 rw[zbee,h];exact k
noncomputable def aP (ks:List (List Int)) (k:List Int):List (List Int):=if k∈ks then ks.filter (fun x=>decide (x≠k)) else ks++[k]
noncomputable def aN (l:List (List Int)):List (List Int):=l.foldl aP []
theorem zfm {ks:List (List Int)}{k x:List Int}:x∈aP ks k↔(x∈ks/\x≠k)\/(x=k/\k∉ks):=by
 unfold aP;split
 ·rename_i h;simp[xdn,h]
 ·rename_i h;simp only[xbt,xck];constructor
  ·rintro(z | rfl)
   ·exact .inl ⟨z,fun e=>h (e ▸ z)⟩
   ·exact .inr ⟨rfl,h⟩
  ·rintro(⟨z,_⟩ | ⟨z,_⟩)
   ·exact .inl z
   ·exact .inr z
theorem znu {ks:List (List Int)}{k:List Int}(h:ks.Nodup):(aP ks k).Nodup:=by
 unfold aP;split
 ·exact h.filter _
 ·rename_i hk;rw[List.nodup_append];exact⟨h,by simp,fun a ha b hb=>by simp at hb;subst hb;exact fun e=>hk (e ▸ ha)⟩
theorem zkp (ks:List (List Int))(k:List Int):(aP ks k).length<=ks.length+1:=by
 unfold aP;split
 ·exact xgg (xfc _ _)
 ·simp
theorem zix:∀(l ks:List (List Int)),ks.Nodup->(l.foldl aP ks).Nodup/\(l.foldl aP ks).length<=ks.length+l.length/\∀x,x∈l.foldl aP ks↔(l.count x+if x∈ks then 1 else 0) % 2=1
 | [],ks,h=>⟨h,by simp,fun x=>by by_cases e:x∈ks<;>simp[e]⟩
 | a::l,ks,h=>by
  obtain⟨h1,h2,h3⟩:=zix l (aP ks a) (znu h);refine⟨h1,?_,fun x=>?_⟩
  ·have:=zkp ks a;rw[xhe,xby];lia
  ·rw[xhe,h3 x,List.count_cons];by_cases e:x=a
   ·subst e;by_cases k:x∈ks
    ·have q:x∉aP ks x:=by rw[zfm];simp[k]
     simp only[q,k,xeb,xdc,xef]<;>lia
    ·have q:x∈aP ks x:=by rw[zfm];simp[k]
     simp only[q,k,xeb,xdc,xef]<;>lia
   ·have e':(a==x)=false:=by simpa using fun z:a=x=>e z.symm
    by_cases k:x∈ks
    ·have q:x∈aP ks a:=by rw[zfm];simp[k,e]
     simp[q,k,e']
    ·have q:x∉aP ks a:=by rw[zfm];simp[k,e]
     simp[q,k,e']
theorem zdz (l:List (List Int)):(aN l).Nodup:=(zix l [] xhm).1
theorem zdg (l:List (List Int)):(aN l).length<=l.length:=by have:=(zix l [] xhm).2.1;simpa [aN] using this
theorem zkg {l:List (List Int)}{x:List Int}:x∈aN l↔l.count x % 2=1:=by have:=(zix l [] xhm).2.2 x;simpa [aN] using this
theorem zgq {a b:List (List Int)}(h1:a.Nodup)(h2:b.Nodup)(h:∀x,x∈a↔x∈b):a.Perm b:=(xla h1 h2).mpr h
theorem zna {a b:List (List Int)}(h:a.Perm b):sortR a=sortR b:=zjw ((zce a).trans h) (zhg a)
noncomputable def aO (l:List (List Int)):List (List Int):=sortR (aN l)
theorem zbas {l m:List (List Int)}(h1:m.Nodup)(h:∀x,x∈m↔l.count x % 2=1):sortR m=aO l:=zna (zgq h1 (zdz l) fun x=>by rw[h,zkg])
theorem zwk {l:List (List Int)}{x:List Int}:x∈aO l↔l.count x % 2=1:=by unfold aO;rw[(zce _).mem_iff,zkg]
theorem zcw {l:List (List Int)}{x:List Int}(h:x∈aO l):x∈l:=by
 rw[zwk] at h;rcases xku (l.count x) with z | z
 ·rw[z] at h;cases h
 ·exact xkv.mp z
theorem zdf (l:List (List Int)):(aO l).length<=l.length:=by unfold aO;rw[zjx];exact zdg l
theorem zfv (l:List (List Int)):(aO l).Nodup:=(zce _).nodup_iff.mpr (zdz l)
noncomputable abbrev aQ (ks:List (List Int)):List (List Int×D):=ks.map fun k=>(k,.bl true)
theorem zli {ks:List (List Int)}{k:List Int}:valD (aQ ks) k=if k∈ks then some (.bl true) else none:=by
 induction ks with
 | nil=>rfl
 | cons a ks ih =>
  unfold valD aQ at ih ⊢;rw[xbn,xez];by_cases e:a=k
  ·simp[e]
  ·simp only[xcg e];rw[ih];simp[xbl,show ¬ k=a from fun z=>e z.symm]
theorem zpy {ks:List (List Int)}{k:List Int}:dropD (aQ ks) k=aQ (ks.filter fun x=>decide (x≠k)):=by
 unfold dropD aQ;rw[xiy]
 rfl
theorem zrx {ks:List (List Int)}{k:List Int}(h:k∉ks):putD (aQ ks) k (.bl true)=aQ (ks++[k]):=by
 unfold putD;rw[if_neg]
 ·simp[aQ]
 ·simp only[List.any_map,xlq,not_exists,not_and];intro x hx e;have:x=k:=by simpa using e
  exact h (this ▸ hx)
theorem zkb {st:Store}{n:Nat}{kvs:List (List Int×D)}(h:st[n]?=some (.dT kvs)):pairsOf st (.ref n)=some kvs:=by
 unfold pairsOf;dsimp only;rw[h]
theorem zwh {st:Store}{n:Nat}{kvs:List (List Int×D)}(h:st[n]?=some (.fT kvs)):pairsOf st (.ref n)=some kvs:=by
 unfold pairsOf;dsimp only;rw[h]
theorem zbav {st:Store}{n:Nat}{kvs:List (List Int×D)}{k:List Int}(h:pairsOf st (.ref n)=some kvs):oDIn false (aL k) (.ref n) st=.ok (.bl (valD kvs k).isSome) st:=by
 unfold oDIn;rw[zef,h]
 rfl
theorem zwm {st:Store}{n:Nat}{kvs:List (List Int×D)}{k:List Int}{v:D}(h:pairsOf st (.ref n)=some kvs)(hv:valD kvs k=some v):oDGet (.ref n) (aL k) st=.ok v st:=by
 unfold oDGet;rw[zef,h];dsimp only;rw[hv]
theorem zbbr {st:Store}{n:Nat}{ks:List (List Int)}{k:List Int}(h:st[n]?=some (.dT (aQ ks)))(hl:ks.length<=1000000):zra [.ref n,aL k] st=.ok .non (st.set n (.dT (aQ (aP ks k)))):=by
 have e1:=zbav (k:=k) (zkb h);rw[zli] at e1;by_cases hk:k∈ks
 ·refine zbja (σ:=[some (.ref n),some (aL k)]) rfl ?_;rw[if_pos hk] at e1;have e2:valD (aQ ks) k=some (.bl true):=by rw[zli,if_pos hk]
  have e3:aP ks k=ks.filter fun x=>decide (x≠k):=by unfold aP;rw[if_pos hk]
  rw[e3,← zpy];have e4:=zkb h;have e5:=zef k;simp only[aL,aQ] at *
  simp[e1,e4,e5,h,e2]
 ·refine zbja (σ:=[some (.ref n),some (aL k)]) rfl ?_;rw[if_neg hk] at e1;have e3:aP ks k=ks++[k]:=by unfold aP;rw[if_neg hk]
  rw[e3,← zrx hk];have e5:=zef k;have e6:(aQ ks).length < sizeLine:=by rw[xbe];exact smallT _ hl
  simp only[aL,aQ] at *
  simp[e1,e5,h,e6];rw[xbe] at e6;exact e6
theorem zde {l:List (List Int)}{i:Nat}{x:D}(h:(aJ l)[i]?=some x):∃k,l[i]?=some k/\x=aL k:=by
 unfold aJ at h;rw[xct] at h;cases e:l[i]? with
 | none=>rw[e] at h;cases h
 | some k=>rw[e] at h;exact⟨k,rfl,(xco h).symm⟩
theorem zj (l:List (List Int)):(aJ l).length=l.length:=xbe _
theorem zk {α:Type}{l:List α}{i:Nat}{k:α}(h:l[i]?=some k):l.take (i+1)=l.take i++[k]:=by
 obtain⟨hi,e⟩:=xbm.mp h;rw[xhp hi,e]
theorem zxv (xs:List D)(k:Nat):cutD xs none (some (k:Int))=xs.take k:=by
 unfold cutD;rw[HT.zok,HT.zuc,List.drop_zero,Nat.sub_zero];rcases Nat.le_total k xs.length with h | h
 ·rw[xei h]
 ·rw[xin h,xcn,xdm h]
theorem zqd (xs:List D)(k:Nat):cutD xs (some (k:Int)) none=xs.drop k:=by
 unfold cutD;rw[HT.zok,HT.zuc];rcases Nat.le_total k xs.length with h | h
 ·rw[xei h,xdm (by rw[xgn];exact xbf _)]
 ·rw[xin h,List.drop_length,List.drop_of_length_le h];simp
theorem zhz (l ks:List (List Int))(h:ks.Nodup):(l.foldl aP ks).length<=ks.length+l.length:=(zix l ks h).2.1
theorem zmy {st:Store}{n:Nat}{ks:List (List Int)}(h:st[n]?=some (.dT (aQ ks)))(hl:ks.length<=1000000):bSorted [.ref n] st=.ok (.lst (aJ (sortR ks))) st:=by
 rw[zlb h (by rw[xbe];exact hl),xcu]
 congr 2
 exact congrArg (fun l=>aJ (sortR l)) (List.map_id ks)
end Dd
namespace K07
open PySem L2
noncomputable def oddW (e k:Int):Bool:=decide (V.int (Builtin.bitAnd e k)=V.int k)
theorem zqo (a b:Nat):Builtin.bitAnd (a:Int) (b:Int)=((a &&& b:Nat):Int):=rfl
theorem zoz (a b:Nat):oddW a b=decide (a &&& b=b):=by
 unfold oddW;rw[zqo];by_cases h:a &&& b=b
 ·rw[h];simp
 ·rw[xcg h];refine xcg fun e=>h ?_
  injection e with e
  exact_mod_cast e
end K07
namespace K23
open PySem L2 K07
end K23
namespace Dd
open PySem L2 K07 K23
theorem znk {st:Store}{e k:Int}:zeh [.int e,.int k] st=.ok (.bl (oddW e k)) st:=by
 refine znt rfl ?_;have:decide (Builtin.bitAnd e k=k)=oddW e k:=by
  unfold oddW;rw[xfs];simp
 simp[this]
theorem zgw {st:Store}{i:Int}:zbx [.int i] st=.ok (.bl true) st:=rfl
noncomputable def slowAt (r:List Int) (p:Nat):Prop:=∃a b:Int,r[p]?=some a/\r[p+1]?=some b/\a < 2 * b
noncomputable instance (r:List Int) (p:Nat):Decidable (slowAt r p) :=
 match h1:r[p]?,h2:r[p+1]? with
 | some a,some b=>if h:a < 2 * b then .isTrue ⟨a,b,h1,h2,h⟩ else .isFalse fun⟨x,y,e1,e2,e3⟩=>by rw[h1] at e1;rw[h2] at e2;cases e1;cases e2;exact h e3
 | none,_=>.isFalse fun⟨x,y,e1,_⟩=>by rw[h1] at e1;cases e1
 | some _,none=>.isFalse fun⟨x,y,_,e2,_⟩=>by rw[h2] at e2;cases e2
theorem zuz (r:List Int)(k:Nat):cutD (r.map .int) none (some (k:Int))=(r.take k).map .int:=by rw[zxv,List.map_take]
theorem zml (r:List Int)(k:Nat):cutD (r.map .int) (some (k:Int)) none=(r.drop k).map .int:=by rw[zqd,List.map_drop]
structure CntG (f:Nat->D) (kvs:List (List Int×D)) (l:List (List Int)):Prop where
 nd:(kvs.map (·.1)).Nodup
 mem:∀k,k∈kvs.map (·.1)↔k∈l
 val:∀p∈kvs,p.2=f (l.count p.1)
 len:kvs.length<=l.length
theorem CntG.nil (f:Nat->D):CntG f [] []:=⟨xhm,fun k=>by simp,fun p h=>(by cases h),by simp⟩
theorem CntG.at {f:Nat->D}{kvs:List (List Int×D)}{l:List (List Int)}(h:CntG f kvs l)(k:List Int):valD kvs k=if k∈l then some (f (l.count k)) else none:=by
 have gen:∀kvs:List (List Int×D),(∀p∈kvs,p.2=f (l.count p.1))->valD kvs k=if k∈kvs.map (·.1) then some (f (l.count k)) else none:=by
  intro kvs
  induction kvs with
  | nil=>intro _;rfl
  | cons a kvs ih =>
   intro hv;have ih:=ih fun p hp=>hv p (xbp _ hp)
   unfold valD at ih ⊢;rw[xez];by_cases e:a.1=k
   ·have:=hv a xbw;simp only[e,xgu,Option.map_some,xbn,xbl,true_or,xeb];rw[this,e]
   ·simp only[xcg e];rw[ih];simp only[xbn,xbl,show ¬ k=a.1 from fun z=>e z.symm,false_or]
 rw[gen kvs h.val];simp only[h.mem]
theorem CntG.put {f:Nat->D}{kvs:List (List Int×D)}{l:List (List Int)}(h:CntG f kvs l)(k:List Int):CntG f (putD kvs k (f (l.count k+1))) (l++[k]):=by
 have any:(kvs.any fun kv=>decide (kv.1=k))=decide (k∈l):=by
  rw[xfs,xea,← h.mem,xlq,xcp];constructor
  ·rintro⟨x,hx,e⟩;exact⟨x,hx,by simpa using e⟩
  ·rintro⟨p,hp,e⟩;exact⟨p,hp,by simpa using e⟩
 unfold putD;rw[any];by_cases hk:k∈l
 ·rw[if_pos (by simpa using hk)];have keys:(kvs.map fun kv=>if kv.1=k then(kv.1,f (l.count k+1)) else kv).map (·.1)=kvs.map (·.1):=by
   rw[xcu]
   congr 1
   funext p
   dsimp only[Function.comp];split<;>rfl
  refine⟨by rw[keys];exact h.nd,fun x=>?_,fun p hp=>?_,?_⟩
  ·rw[keys,h.mem,xbt,xck];exact⟨.inl,fun z=>z.elim id fun e=>e ▸ hk⟩
  ·obtain⟨q,hq,rfl⟩:=xcp.mp hp;have:=h.val q hq;by_cases e:q.1=k
   ·rw[if_pos e];dsimp only;rw[e,xjo];simp
   ·rw[if_neg e,this,xjo];have:List.count q.1 [k]=0:=by rw[xia];simpa using e
    rw[this];rfl
  ·rw[xbe,xbk];have:=h.len;lia
 ·rw[if_neg (by simpa using hk)];refine⟨?_,fun x=>?_,fun p hp=>?_,?_⟩
  ·rw[xet,List.nodup_append];refine⟨h.nd,by simp,fun a ha b hb=>?_⟩;simp at hb;subst hb;exact fun e=>hk ((h.mem _).mp (e ▸ ha))
  ·rw[xet,xbt,h.mem,xbt];simp
  ·rcases xbt.mp hp with hp | hp
   ·have e1:=h.val p hp;have e2:p.1≠k:=fun e=>hk ((h.mem _).mp (e ▸ xcp.mpr ⟨p,hp,rfl⟩))
    rw[e1,xjo];have:List.count p.1 [k]=0:=by rw[xia];simpa using e2
    rw[this];rfl
   ·simp at hp;subst hp;rw[xjo,xia.mpr hk];simp
  ·rw[xbk,xbk];have:=h.len;simp;exact this
noncomputable def oddB (n:Nat):D:=.bl (decide (n % 2=1))
theorem zsi (n:Nat):oddB (n+1)=.bl (!decide (n % 2=1)):=by
 unfold oddB
 congr 1
 by_cases h:n % 2=1
 ·rw[xcs h,xcg (by lia)];rfl
 ·rw[xcg h,xcs (by lia)];rfl
theorem znq {st:Store}{x:D}{l:List (List Int)}(hx:seqV x=some (aJ l))(hl:l.length<=1000000)(ho:(aN l).length<=1000000):∃g,zq [x] st=.ok (aK (aO l)) (st++g):=by
 have W:=zbbo (bd:=gN 2) (body:=zdw) (xs:=aJ l) (σ:=[some x,some (.ref st.length),none]) (st:=st++[.dT []])
  (fun i σ s=>∃(v:Option D) (kvs:List (List Int×D)),σ=[some x,some (.ref st.length),v]/\s=st++[.dT kvs]/\CntG oddB kvs (l.take i)) ⟨none,[],rfl,rfl,CntG.nil _⟩ (by
   rintro i y σ s hy ⟨v,kvs,rfl,rfl,hc⟩;obtain⟨k,hk,rfl⟩:=zde hy;have hc':=hc.put k;have hn:(st++[O.dT kvs])[st.length]?=some (.dT kvs):=by simp
   have e2:(valD kvs k).getD (.bl false)=.bl (decide ((l.take i).count k % 2=1)):=by
    rw[hc.at];split
    ·rfl
    ·rename_i z;rw[xia.mpr z];rfl
   have e3:=zef k;have e4:=zkb hn;have e5:kvs.length < sizeLine:=by
    have h1:=hc.len;have h2:(l.take i).length<=l.length:=by rw[xcm];exact xfy _ _
    exact smallT _ (by lia)
   refine⟨[some x,some (.ref st.length),some (aL k)],[some x,some (.ref st.length),some (aL k)],st++[.dT (putD kvs k (oddB ((l.take i).count k+1)))],rfl,?_,some (aL k),_,rfl,rfl,by rw[zk hk];exact hc'⟩;rw[zsi];unfold zdw;simp only[aL] at *
   simp only[zzh,zbbv,zxd,zbgf,eC_v,xjl,List.getElem?_cons_zero,zez,e4,e3,e2,hn,e5,xeb]
   simp)
 obtain⟨σ',st',e,v,kvs,rfl,rfl,hc⟩:=W;rw[zj,xcn] at hc;have V:=zbcw (bd:=gN 0) (c:=eTru (aS oDGet (aA 1) (aA 0))) (f:=aA 0) (xs:=aJ (kvs.map (·.1))) (σ:=[none,some (.ref st.length)]) (st:=st++[.fT kvs])
  (fun i acc σ s=>s=st++[.fT kvs]/\(∃w:Option D,σ=[w,some (.ref st.length)])/\acc=aJ (((kvs.map (·.1)).take i).filter fun k=>decide (l.count k % 2=1))) ⟨rfl,⟨none,rfl⟩,rfl⟩ (by
   rintro i y acc σ s hy ⟨rfl,⟨w,rfl⟩,rfl⟩;obtain⟨k,hk,rfl⟩:=zde hy;have hn:(st++[O.fT kvs])[st.length]?=some (.fT kvs):=by simp
   have hkl:k∈l:=(hc.mem k).mp (xbx hk);have e2:valD kvs k=some (oddB (l.count k)):=by rw[hc.at,if_pos hkl]
   have e3:oDGet (.ref st.length) (aL k) (st++[O.fT kvs])=.ok (oddB (l.count k)) _:=zwm (zwh hn) e2;refine⟨[some (aL k),some (.ref st.length)],decide (l.count k % 2=1),st++[.fT kvs],rfl,?_,?_⟩
   ·rw[zbbu];show((oDGet (.ref st.length) (aL k) (st++[O.fT kvs])).bind _)=_;rw[e3]
    rfl
   ·by_cases ho:l.count k % 2=1
    ·refine .inr ⟨xcs ho,aL k,_,rfl,rfl,⟨_,rfl⟩,?_⟩;rw[zk hk,xge];simp[ho,aJ]
    ·refine .inl ⟨xcg ho,rfl,⟨_,rfl⟩,?_⟩;rw[zk hk,xge]
     simp[ho,aJ])
 obtain⟨ys,σ2,st2,e2,rfl,⟨w,rfl⟩,rfl⟩:=V;rw[zj,xcn] at e2;refine⟨[.fT kvs],znt rfl ?_⟩;have nd:((kvs.map (·.1)).filter fun k=>decide (l.count k % 2=1)).Nodup:=hc.nd.filter _;have mm:∀k,k∈((kvs.map (·.1)).filter fun k=>decide (l.count k % 2=1))↔l.count k % 2=1:=fun k=>by
  rw[xdn,hc.mem,xea];refine⟨fun h=>h.2,fun h=>⟨?_,h⟩⟩;rcases xku (l.count k) with z | z
  ·rw[z] at h;cases h
  ·exact xkv.mp z
 have e5:sortR ((kvs.map (·.1)).filter fun k=>decide (l.count k % 2=1))=aO l:=zbas nd mm;have few:((kvs.map (·.1)).filter fun k=>decide (l.count k % 2=1)).length<=1000000:=by
  have p:=zgq nd (zdz l) fun k=>by rw[mm,zkg]
  rw[p.length_eq];exact ho
 have e6:=zla (st:=st++[.fT kvs]) few;rw[e5] at e6;have hlen:(aJ (kvs.map (·.1))).length<=sizeLine:=by
  rw[zj,xbe];exact small _ (by have:=hc.len;lia)
 refine seqN (σ1:=[some x,some (.ref st.length),none]) (st1:=st++[.dT []]) (by simp) ?_;refine seqN (σ1:=[some x,some (.ref st.length),v]) (st1:=st++[.dT kvs]) (by simp[hx,e]) ?_;have e7:aG (iDict (aA 1)) 1 [1] (gN 0) (eTru (aS oDGet (aA 1) (aA 0))) (aA 0) [some x,some (.ref st.length),v] (st++[.dT kvs])=.ok (.lst (aJ ((kvs.map (·.1)).filter fun k=>decide (l.count k % 2=1)))) (st++[.fT kvs]):=by
  rw[zus];have e8:iDict (aA 1) [some x,some (.ref st.length),v] (st++[.dT kvs])=.ok (aJ (kvs.map (·.1))) (st++[.fT kvs]):=by
   simp
  rw[e8,zez,if_pos hlen];show(compF _ _ _ _ [none,some (.ref st.length)] _).bind _=_;rw[e2]
  rfl
 rw[zbef,zut,zqx,zut,zqx,e7];simp only[zez,zbid,e6,zqq]
theorem zpz {i j:Int}(h0:0 < j)(h1:j<=1000):CDivP i j:=⟨h0,xkw h1 (by decide +kernel)⟩
theorem rngN {j:Int}(h1:-10000<=j)(h2:j<=10000):RngOk j:=rngOk (by lia) (by lia)
theorem Drew.over {st s:Store}{n k:Nat}{o:O}(d:Drew st s n)(hn:n < st.length)(hk:st.length<=k):Drew st (s.set k o) n:=by
 obtain⟨c,x,eb,c0,x0⟩:=d.bag;exact⟨by rw[xfr];exact d.len,fun i h1 h2=>by rw[xdd (by lia)];exact d.keep i h1 h2,c,x,by rw[xdd (by lia)];exact eb,c0,x0⟩
theorem zyd (xs:List D)(y:D):L2.atI (xs++[y]) (-1)=some y:=by
 unfold L2.atI ixN;rw[xbk];have e:((-1:Int)+((xs.length+[y].length:Nat):Int)).toNat=xs.length:=by simp;lia
 rw[if_neg (by lia),if_pos (by simp;lia),e];simp
end Dd
namespace Dd
open PySem L2
noncomputable def WP {α:Type} (r:Res α) (Q:α->Store->Prop):Prop:=match r with
 | .ok a st=>Q a st
 | _=>False
theorem WP.get {α:Type}{r:Res α}{Q:α->Store->Prop}(h:WP r Q):∃a st,r=.ok a st/\Q a st:=by
 cases r with
 | ok a st=>exact⟨a,st,rfl,h⟩
 | exc x st=>exact h.elim
 | stuck=>exact h.elim
theorem WP.of {α:Type}{r:Res α}{Q:α->Store->Prop}{a:α}{st:Store}(e:r=.ok a st)(h:Q a st):WP r Q:=by rw[e];exact h
theorem WP.mono {α:Type}{r:Res α}{Q Q':α->Store->Prop}(h:WP r Q)(k:∀a st,Q a st->Q' a st):WP r Q':=by
 obtain⟨a,st,rfl,q⟩:=h.get;exact k a st q
theorem zg {α β:Type}{r:Res α}{f:α->Store->Res β}{Q:β->Store->Prop}:WP (r.bind f) Q=WP r (fun a st=>WP (f a st) Q):=by
 cases r<;>rfl
noncomputable def seqK (t:SS) (Q:Fl->Store->Prop):Fl->Store->Prop:=fun fl st=>match fl with
 | .nx σ=>WP (t σ st) Q
 | fl=>Q fl st
theorem zyr {s t:SS}{σ:DS}{st:Store}{Q:Fl->Store->Prop}:WP (aD s t σ st) Q=WP (s σ st) (seqK t Q):=by
 unfold aD;cases s σ st with
 | ok fl st1=>cases fl<;>rfl
 | exc x st=>rfl
 | stuck=>rfl
theorem zrb {α:Type}{c:Prop}[Decidable c]{a b:Res α}{Q:α->Store->Prop}:WP (if c then a else b) Q=if c then WP a Q else WP b Q:=by
 split<;>rfl
theorem zhd {α:Type}{c:Prop}[Decidable c]{a:Res α}{Q:α->Store->Prop}:WP (if c then a else .stuck) Q=(c/\WP a Q):=by
 by_cases h:c
 ·rw[if_pos h];simp[h]
 ·rw[if_neg h];simp[h,WP]
noncomputable def retK (Q:D->Store->Prop):Fl->Store->Prop:=fun fl st=>match fl with
 | .ret v=>Q v st
 | .nx _=>Q .non st
 | _=>False
theorem zlf {n np:Nat}{b:SS}{ds:List D}{st:Store}{Q:D->Store->Prop}(h:ds.length=np)(k:WP (b (ds.map some++List.replicate (n - np) none) st) (retK Q)):WP (fnD n np b ds st) Q:=by
 obtain⟨fl,st',e,q⟩:=k.get;unfold fnD;rw[if_pos h,e];cases fl<;>first | exact q | exact q.elim
noncomputable def bK (Q:Bool->Store->Prop):D->Store->Prop:=fun v st=>match v with
 | .bl b=>Q b st
 | _=>False
noncomputable def gK (bd:SG) (Q:Fl->Store->Prop) (σ:DS):D->Store->Prop:=fun v st=>match bd v σ with
 | some σ1=>Q (.nx σ1) st
 | none=>False
theorem W:(∀{α:Type} {a:α} {st:Store} {Q:α->Store->Prop},WP (.ok a st) Q=Q a st)
 /\ (∀{s t:SS} {σ:DS} {st:Store} {Q:Fl->Store->Prop},WP (aD s t σ st) Q=WP (s σ st) (seqK t Q))
 /\ (∀{t:SS} {σ:DS} {st:Store} {Q:Fl->Store->Prop},seqK t Q (.nx σ) st=WP (t σ st) Q)
 /\ (∀{t:SS} {v:D} {st:Store} {Q:Fl->Store->Prop},seqK t Q (.ret v) st=Q (.ret v) st)
 /\ (∀{t:SS} {σ:DS} {st:Store} {Q:Fl->Store->Prop},seqK t Q (.brk σ) st=Q (.brk σ) st)
 /\ (∀{t:SS} {σ:DS} {st:Store} {Q:Fl->Store->Prop},seqK t Q (.ct σ) st=Q (.ct σ) st)
 /\ (∀{v:D} {st:Store} {Q:D->Store->Prop},retK Q (.ret v) st=Q v st)
 /\ (∀{σ:DS} {st:Store} {Q:D->Store->Prop},retK Q (.nx σ) st=Q .non st)
 /\ (∀{b:Bool} {st:Store} {Q:Bool->Store->Prop},bK Q (.bl b) st=Q b st)
 /\ (∀{d:D} {σ:DS} {st:Store} {Q:D->Store->Prop},WP (eC d σ st) Q=Q d st)
 /\ (∀{g:D->D->Store->Res D} {f f':SE} {σ:DS} {st:Store} {Q:D->Store->Prop},WP (aS g f f' σ st) Q=WP (f σ st) (fun x st1=>WP (f' σ st1) (fun y st2=>WP (g x y st2) Q)))
 /\ (∀{g:D->Store->Res D} {f:SE} {σ:DS} {st:Store} {Q:D->Store->Prop},WP (eUn g f σ st) Q=WP (f σ st) (fun x st1=>WP (g x st1) Q))
 /\ (∀{g:List D->Store->Res D} {f:SA} {σ:DS} {st:Store} {Q:D->Store->Prop},WP (aE g f σ st) Q=WP (f σ st) (fun x st1=>WP (g x st1) Q))
 /\ (∀{σ:DS} {st:Store} {Q:List D->Store->Prop},WP (aC σ st) Q=Q [] st)
 /\ (∀{f:SE} {g:SA} {σ:DS} {st:Store} {Q:List D->Store->Prop},WP (aB f g σ st) Q=WP (f σ st) (fun x st1=>WP (g σ st1) (fun xs st2=>Q (x::xs) st2)))
 /\ (∀{f:SE} {σ:DS} {st:Store} {Q:Bool->Store->Prop},WP (eB f σ st) Q=WP (f σ st) (bK Q))
 /\ (∀{f f':ST} {σ:DS} {st:Store} {Q:Bool->Store->Prop},WP (bAnd f f' σ st) Q=WP (f σ st) (fun b st1=>if b=true then WP (f' σ st1) Q else Q false st1))
 /\ (∀{f f':ST} {σ:DS} {st:Store} {Q:Bool->Store->Prop},WP (bOr f f' σ st) Q=WP (f σ st) (fun b st1=>if b=true then Q true st1 else WP (f' σ st1) Q))
 /\ (∀{f:ST} {σ:DS} {st:Store} {Q:Bool->Store->Prop},WP (bNot f σ st) Q=WP (f σ st) (fun b st1=>Q (!b) st1))
 /\ (∀{σ:DS} {st:Store} {Q:Bool->Store->Prop},WP (aI σ st) Q=Q true st)
 /\ (∀{f f':SE} {σ:DS} {st:Store} {Q:D->Store->Prop},WP (eAnd f f' σ st) Q=WP (f σ st) (bK fun b st1=>if b=true then WP (f' σ st1) Q else Q (.bl false) st1))
 /\ (∀{f f':SE} {σ:DS} {st:Store} {Q:D->Store->Prop},WP (eOr f f' σ st) Q=WP (f σ st) (bK fun b st1=>if b=true then Q (.bl true) st1 else WP (f' σ st1) Q))
 /\ (∀{f:SE} {σ:DS} {st:Store} {Q:D->Store->Prop},WP (eNot f σ st) Q=WP (f σ st) (bK fun b st1=>Q (.bl (!b)) st1))
 /\ (∀{c:ST} {f f':SE} {σ:DS} {st:Store} {Q:D->Store->Prop},WP (eIf c f f' σ st) Q=WP (c σ st) (fun b st1=>if b=true then WP (f σ st1) Q else WP (f' σ st1) Q))
 /\ (∀{g:SA} {σ:DS} {st:Store} {Q:D->Store->Prop},WP (aR g σ st) Q=WP (g σ st) (fun xs st1=>xs.length<=sizeLine/\Q (.tup xs) st1))
 /\ (∀{g:SA} {σ:DS} {st:Store} {Q:D->Store->Prop},WP (eLst g σ st) Q=WP (g σ st) (fun xs st1=>xs.length<=sizeLine/\Q (.lst xs) st1))
 /\ (∀{g:SA} {σ:DS} {st:Store} {Q:D->Store->Prop},WP (eLstM g σ st) Q=WP (g σ st) (fun xs st1=>xs.length<=sizeLine/\Q (.ref st1.length) (st1++[.lst xs])))
 /\ (∀{σ:DS} {st:Store} {Q:D->Store->Prop},WP (eDNew σ st) Q=Q (.ref st.length) (st++[.dT []]))
 /\ (∀{σ:DS} {st:Store} {Q:Fl->Store->Prop},WP (sNx σ st) Q=Q (.nx σ) st)
 /\ (∀{σ:DS} {st:Store} {Q:Fl->Store->Prop},WP (sBrk σ st) Q=Q (.brk σ) st)
 /\ (∀{σ:DS} {st:Store} {Q:Fl->Store->Prop},WP (sCt σ st) Q=Q (.ct σ) st)
 /\ (∀{σ:DS} {st:Store} {Q:Fl->Store->Prop},WP (sRetN σ st) Q=Q (.ret .non) st)
 /\ (∀{f:SE} {σ:DS} {st:Store} {Q:Fl->Store->Prop},WP (sRet f σ st) Q=WP (f σ st) (fun v st1=>Q (.ret v) st1))
 /\ (∀{f:SE} {σ:DS} {st:Store} {Q:Fl->Store->Prop},WP (sDrop f σ st) Q=WP (f σ st) (fun _ st1=>Q (.nx σ) st1))
 /\ (∀{i:Nat} {f:SE} {σ:DS} {st:Store} {Q:Fl->Store->Prop},WP (aF i f σ st) Q=WP (f σ st) (fun v st1=>Q (.nx (σ.set i (some v))) st1))
 /\ (∀{bd:SG} {f:SE} {σ:DS} {st:Store} {Q:Fl->Store->Prop},WP (sSetG bd f σ st) Q=WP (f σ st) (gK bd Q σ))
 /\ (∀{c:ST} {s t:SS} {σ:DS} {st:Store} {Q:Fl->Store->Prop},WP (sIf c s t σ st) Q=WP (c σ st) (fun b st1=>if b=true then WP (s σ st1) Q else WP (t σ st1) Q))
 /\ (∀{it:SA} {bd:SG} {body:SS} {σ:DS} {st:Store} {Q:Fl->Store->Prop},WP (sFor it bd body σ st) Q=WP (it σ st) (fun xs st1=>WP (forF bd body xs σ st1) Q))
 /\ (∀{it:SA} {k:Nat} {is:List Nat} {bd:SG} {c:ST} {f:SE} {σ:DS} {st:Store} {Q:D->Store->Prop},WP (aG it k is bd c f σ st) Q=WP (it σ st) (fun xs st1=>xs.length<=sizeLine/\WP (compF bd c f xs (aT k is σ) st1) (fun ys st2=>Q (.lst ys) st2)))
 /\ (∀{it:SA} {k:Nat} {is:List Nat} {bd:SG} {c:ST} {f:SE} {σ:DS} {st:Store} {Q:D->Store->Prop},WP (eCompM it k is bd c f σ st) Q=WP (it σ st) (fun xs st1=>xs.length<=sizeLine/\WP (compF bd c f xs (aT k is σ) st1) (fun ys st2=>Q (.ref st2.length) (st2++[.lst ys]))))
 /\ (∀{C:Int->Int->Prop} [DecidableRel C] {h:Int->Int->D} {i j:Int} {st:Store} {Q:D->Store->Prop},WP (oI C h (.int i) (.int j) st) Q=(C i j/\Q (h i j) st))
 /\ (∀{i j:Int} {st:Store} {Q:D->Store->Prop},WP (aM (.int i) (.int j) st) Q=Q (.int (i+j)) st)
 /\ (∀{a b:List D} {st:Store} {Q:D->Store->Prop},WP (aM (.tup a) (.tup b) st) Q=(a.length+b.length<=sizeLine/\Q (.tup (a++b)) st))
 /\ (∀{i j:Int} {st:Store} {Q:D->Store->Prop},WP (oLtT (.int i) (.int j) st) Q=Q (.bl (decide (i < j))) st)
 /\ (∀{i j:Int} {st:Store} {Q:D->Store->Prop},WP (oEqG false (.int i) (.int j) st) Q=Q (.bl (decide (i=j))) st)
 /\ (∀{i j:Int} {st:Store} {Q:D->Store->Prop},WP (oEqG true (.int i) (.int j) st) Q=Q (.bl (!decide (i=j))) st)
 /\ (∀{i:Int} {st:Store} {Q:D->Store->Prop},WP (oNeg (.int i) st) Q=Q (.int (-i)) st)
 /\ (∀{i j:Int} {g:Int->Int->Int} {st:Store} {Q:D->Store->Prop},WP (b2I g [.int i,.int j] st) Q=Q (.int (g i j)) st)
 /\ (∀{i:Int} {st:Store} {Q:D->Store->Prop},WP (bAbs [.int i] st) Q=Q (.int (if i < 0 then -i else i)) st)
 /\ (∀{b:Bool} {st:Store} {Q:D->Store->Prop},WP (bInt [.bl b] st) Q=Q (.int (if b=true then 1 else 0)) st)
 /\ (∀{xs:List D} {st:Store} {Q:D->Store->Prop},WP (bLen [.tup xs] st) Q=Q (.int xs.length) st)
 /\ (∀{xs:List D} {st:Store} {Q:D->Store->Prop},WP (bLen [.lst xs] st) Q=Q (.int xs.length) st)
 /\ (∀{xs:List D} {st:Store} {Q:D->Store->Prop},WP (bLen [.scr xs] st) Q=Q (.int xs.length) st)
 /\ (∀{xs:List D} {st:Store} {Q:D->Store->Prop},WP (bTuple [.tup xs] st) Q=Q (.tup xs) st)
 /\ (∀{xs:List D} {st:Store} {Q:D->Store->Prop},WP (bTuple [.lst xs] st) Q=Q (.tup xs) st)
 /\ (∀{xs:List D} {st:Store} {Q:D->Store->Prop},WP (bList [.tup xs] st) Q=Q (.lst xs) st)
 /\ (∀{xs:List D} {st:Store} {Q:D->Store->Prop},WP (bList [.lst xs] st) Q=Q (.lst xs) st)
 /\ (∀{d:D} {σ:DS} {st:Store} {Q:D->Store->Prop},WP (aA 0 (some d::σ) st) Q=Q d st)
 /\ (∀{i:Nat} {σ:DS} {st:Store} {Q:D->Store->Prop} {o:Option D},WP (aA (i+1) (o::σ) st) Q=WP (aA i σ st) Q)
 /\ (∀{f:SE} {σ:DS} {st:Store} {Q:List D->Store->Prop},WP (aH f σ st) Q=WP (f σ st) (fun x st1=>∃xs,seqV x=some xs/\Q xs st1))
 /\ (∀{f:SE} {σ:DS} {st:Store} {Q:Bool->Store->Prop},WP (eTru f σ st) Q=WP (f σ st) (fun x st1=>∃b,tru st1 x=some b/\Q b st1))
 /\ (∀{g:SA} {σ:DS} {st:Store} {Q:List D->Store->Prop},WP (iR1 g σ st) Q=WP (g σ st) (fun xs st1=>∃j,xs=[.int j]/\RngOk j/\Q (rng 0 j.toNat) st1))
 /\ (∀{g:SA} {σ:DS} {st:Store} {Q:List D->Store->Prop},WP (iR2 g σ st) Q=WP (g σ st) (fun xs st1=>∃i j,xs=[.int i,.int j]/\RngOk i/\RngOk j/\Q (rng i (j - i).toNat) st1)):=by
 have g2:∀{α:Type} {c:Prop} [Decidable c] {a:α} {st:Store} {Q:α->Store->Prop},WP (if c then .ok a st else .stuck) Q=(c/\Q a st):=fun {α c _ a st Q}=>zhd
 refine⟨rfl,zyr,rfl,rfl,rfl,rfl,rfl,rfl,rfl,rfl,?_⟩;refine⟨?_,?_⟩
 ·intros;rw[zbkj,zg];congr;funext x st1;rw[zg]
 refine⟨zg,zg,rfl,?_⟩;refine⟨?_,?_⟩
 ·intros;rw[zqx,zg];congr;funext x st1;rw[zg];rfl
 refine⟨?_,?_⟩
 ·intros;rw[eB_v,zg];congr;funext x st1;cases x<;>rfl
 refine⟨?_,?_⟩
 ·intros;rw[zbib,zg];congr;funext x st1;rw[zrb];rfl
 refine⟨?_,?_⟩
 ·intros;rw[zbla,zg];congr;funext x st1;rw[zrb];rfl
 refine⟨zg,rfl,?_⟩;refine⟨?_,?_⟩
 ·intros;rw[zbgj,zg];congr;funext x st1;cases x<;>try rfl
  rename_i b;cases b<;>rfl
 refine⟨?_,?_⟩
 ·intros;rw[zbki,zg];congr;funext x st1;cases x<;>try rfl
  rename_i b;cases b<;>rfl
 refine⟨?_,?_⟩
 ·intros;rw[zbbv,zg];congr;funext x st1;cases x<;>rfl
 refine⟨?_,?_⟩
 ·intros;rw[zbkk,zg];congr;funext x st1;rw[zrb]
 refine⟨?_,?_⟩
 ·intros;rw[zbgg,zg];congr;funext x st1;rw[g2]
 refine⟨?_,?_⟩
 ·intros;rw[zbgh,zg];congr;funext x st1;rw[g2]
 refine⟨?_,?_⟩
 ·intros;rw[zbbw,zg];congr;funext x st1;rw[g2]
 refine⟨rfl,rfl,rfl,rfl,rfl,zg,zg,zg,?_⟩;refine⟨?_,?_⟩
 ·intro bd f σ st Q;unfold sSetG;rw[zg];congr;funext x st1;unfold gK;cases bd x σ<;>rfl
 refine⟨?_,?_⟩
 ·intros;rw[zbjl,zg];congr;funext x st1;rw[zrb]
 refine⟨zg,?_⟩;refine⟨?_,?_⟩
 ·intros;rw[zus,zg];congr;funext x st1;rw[zhd,zg];rfl
 refine⟨?_,?_⟩
 ·intros;unfold eCompM;rw[zg];congr;funext x st1;rw[zhd,zg];rfl
 refine⟨?_,?_⟩
 ·intros;rw[oI_v,g2]
 refine⟨rfl,?_⟩;refine⟨?_,?_⟩
 ·intros;rw[zbfk,g2]
 refine⟨rfl,?_⟩;refine⟨?_,?_⟩
 ·intros;rw[show ∀i j st,oEqG false (.int i) (.int j) st=_ from fun i j st=>zbkb];rfl
 refine⟨?_,?_⟩
 ·intros;rw[show ∀i j st,oEqG true (.int i) (.int j) st=_ from fun i j st=>zbjx];rfl
 refine⟨rfl,rfl,rfl,rfl,rfl,rfl,rfl,rfl,rfl,rfl,rfl,fun {d σ st Q}=>rfl,fun {i σ st Q o}=>rfl,?_⟩;refine⟨?_,?_⟩
 ·intros;rw[zbgc,zg];congr;funext x st1
  cases h:seqV x with
  | none=>simp[WP]
  | some xs=>simp[WP]
 refine⟨?_,?_⟩
 ·intros;rw[zbbu,zg];congr;funext x st1
  cases h:tru st1 x with
  | none=>simp[WP]
  | some xs=>simp[WP]
 refine⟨?_,?_⟩
 ·intros;rw[zbkf,zg];congr;funext x st1
  split
  ·rw[g2];simp[RngOk]
  ·rename_i hne;have:∀j,x≠[D.int j]:=fun j h=>hne j h
   simp[WP,this]
 ·intros;rw[zbke,zg];congr;funext x st1
  split
  ·rw[g2];simp only[RngOk,xkh,D.int.injEq,and_true];apply propext;constructor
   ·rintro⟨h,q⟩;exact⟨_,_,⟨rfl,rfl⟩,h.1,h.2,q⟩
   ·rintro⟨i',j',⟨rfl,rfl⟩,h1,h2,q⟩;exact⟨⟨h1,h2⟩,q⟩
  ·rename_i hne;have:∀i j,x≠[D.int i,D.int j]:=fun i j h=>hne i j h
   simp[WP,this]
noncomputable def loopK (I:DS->Store->Prop) (Q:Fl->Store->Prop):Fl->Store->Prop:=fun fl st=>match fl with
 | .nx σ=>I σ st
 | .ct σ=>I σ st
 | .brk σ=>Q (.nx σ) st
 | .ret v=>Q (.ret v) st
theorem zgn {bd:SG}{body:SS}{Q:Fl->Store->Prop}(I:Nat->DS->Store->Prop):∀(xs:List D) (k:Nat) (σ:DS) (st:Store),I k σ st ->
  (∀i x σ st,xs[i]?=some x->I (k+i) σ st->∃σ1,bd x σ=some σ1/\WP (body σ1 st) (loopK (I (k+i+1)) Q))->(∀σ st,I (k+xs.length) σ st->Q (.nx σ) st)->WP (forF bd body xs σ st) Q
 | [],k,σ,st,h,_,q=>q σ st h
 | x::xs,k,σ,st,h,s,q=>by
  obtain⟨σ1,e1,w⟩:=s 0 x σ st rfl h;obtain⟨fl,st2,e2,w⟩:=w.get;unfold forF;rw[e1];dsimp only;rw[e2]
  have go:∀σ2,I (k+0+1) σ2 st2->WP (forF bd body xs σ2 st2) Q:=fun σ2 h2=>zgn I xs (k+1) σ2 st2 h2 (fun i y σ st hy hi=>by
   have:=s (i+1) y σ st (by simpa using hy) (by rw[show k+(i+1)=k+1+i by lia];exact hi);rw[show k+(i+1)+1=k+1+i+1 by lia] at this
   exact this) (fun σ st h=>q σ st (by rw[xby,show k+(xs.length+1)=k+1+xs.length by lia];exact h))
  cases fl with
  | nx σ2=>exact go σ2 w
  | ct σ2=>exact go σ2 w
  | brk σ2=>exact w
  | ret v=>exact w
theorem zdn {bd:SG}{body:SS}{Q:Fl->Store->Prop}(I:Nat->DS->Store->Prop){xs:List D}{σ:DS}{st:Store}(h0:I 0 σ st)
  (s:∀i x σ st,xs[i]?=some x->I i σ st->∃σ1,bd x σ=some σ1/\WP (body σ1 st) (loopK (I (i+1)) Q))(q:∀σ st,I xs.length σ st->Q (.nx σ) st):WP (forF bd body xs σ st) Q :=
 zgn I xs 0 σ st h0 (fun i x σ st hx hi=>by rw[xdz] at hi ⊢;exact s i x σ st hx hi) fun σ st h=>q σ st (by rw[xdz] at h;exact h)
theorem L:(∀{I:DS->Store->Prop} {Q:Fl->Store->Prop} {σ:DS} {st:Store},loopK I Q (.nx σ) st=I σ st)
 /\ (∀{I:DS->Store->Prop} {Q:Fl->Store->Prop} {σ:DS} {st:Store},loopK I Q (.ct σ) st=I σ st)
 /\ (∀{I:DS->Store->Prop} {Q:Fl->Store->Prop} {σ:DS} {st:Store},loopK I Q (.brk σ) st=Q (.nx σ) st)
 /\ (∀{I:DS->Store->Prop} {Q:Fl->Store->Prop} {v:D} {st:Store},loopK I Q (.ret v) st=Q (.ret v) st):=⟨rfl,rfl,rfl,rfl⟩
theorem zdo {bd:SG}{c:ST}{f:SE}(I:Nat->List D->DS->Store->Prop):∀(xs:List D) (k:Nat) (acc:List D) (σ:DS) (st:Store) (Q:List D->Store->Prop),I k acc σ st ->
  (∀i x acc σ st,xs[i]?=some x->I (k+i) acc σ st->∃σ1,bd x σ=some σ1/\WP (c σ1 st) (fun b st1=>if b=true then WP (f σ1 st1) (fun y st2=>I (k+i+1) (acc++[y]) σ1 st2) else I (k+i+1) acc σ1 st1)) ->
  (∀ys σ st,I (k+xs.length) (acc++ys) σ st->Q ys st)->WP (compF bd c f xs σ st) Q
 | [],k,acc,σ,st,Q,h,_,q=>q [] σ st (by rw[xes];exact h)
 | x::xs,k,acc,σ,st,Q,h,s,q=>by
  obtain⟨σ1,e1,w⟩:=s 0 x acc σ st rfl h;obtain⟨b,st1,e2,w⟩:=w.get;have s':∀i y acc σ st,xs[i]?=some y->I (k+1+i) acc σ st->∃σ1,bd y σ=some σ1/\WP (c σ1 st) (fun b st1=>if b=true then WP (f σ1 st1) (fun y st2=>I (k+1+i+1) (acc++[y]) σ1 st2) else I (k+1+i+1) acc σ1 st1):=fun i y acc σ st hy hi=>by
   have:=s (i+1) y acc σ st (by simpa using hy) (by rw[show k+(i+1)=k+1+i by lia];exact hi);rw[show k+(i+1)+1=k+1+i+1 by lia] at this;exact this
  have ln:∀(zs:List D) σ st,I (k+1+xs.length) zs σ st->I (k+(x::xs).length) zs σ st:=fun zs σ st h=>by rw[xby,show k+(xs.length+1)=k+1+xs.length by lia];exact h
  unfold compF;rw[e1];dsimp only;rw[e2];dsimp only[zez];cases b with
  | false =>
   rw[if_neg (by decide)] at w ⊢;exact zdo I xs (k+1) acc σ1 st1 Q w s' fun ys σ st h=>q ys σ st (ln _ _ _ h)
  | true =>
   rw[if_pos rfl] at w ⊢;obtain⟨y,st2,e3,w⟩:=w.get;rw[e3];dsimp only[zez];rw[zg];exact zdo I xs (k+1) (acc++[y]) σ1 st2 _ w s' fun ys σ st h=>q (y::ys) σ st (ln _ _ _ (by rw[xci] at h;exact h))
theorem zoe {bd:SG}{c:ST}{f:SE}{Q:List D->Store->Prop}(I:Nat->List D->DS->Store->Prop){xs:List D}{σ:DS}{st:Store}(h0:I 0 [] σ st)
  (s:∀i x acc σ st,xs[i]?=some x->I i acc σ st->∃σ1,bd x σ=some σ1/\WP (c σ1 st) (fun b st1=>if b=true then WP (f σ1 st1) (fun y st2=>I (i+1) (acc++[y]) σ1 st2) else I (i+1) acc σ1 st1))
  (q:∀ys σ st,I xs.length ys σ st->Q ys st):WP (compF bd c f xs σ st) Q :=
 zdo I xs 0 [] σ st Q h0 (fun i x acc σ st hx hi=>by rw[xdz] at hi ⊢;exact s i x acc σ st hx hi) fun ys σ st h=>q ys σ st (by rw[xdz] at h;simpa using h)
theorem zjr {bd:SG}{c:ST}{f:SE}{α:Type}(S:DS->Prop)(P:α->Bool)(G:α->D)(E:α->D){as:List α}{σ:DS}{st:Store}{Q:List D->Store->Prop}(h0:S σ)
  (s:∀x∈as,∀σ,S σ->∃σ1,bd (E x) σ=some σ1/\S σ1/\WP (c σ1 st) (fun b st1=>st1=st/\b=P x)/\(P x=true->WP (f σ1 st) (fun y st1=>st1=st/\y=G x)))
  (q:Q ((as.filter P).map G) st):WP (compF bd c f (as.map E) σ st) Q:=by
 refine zoe (fun i acc σ s'=>S σ/\s'=st/\acc=((as.take i).filter P).map G) ⟨h0,rfl,rfl⟩ (fun i x acc σ s' hx hI=>?_) fun ys σ s' hI=>?_
 ·obtain⟨hS,rfl,rfl⟩:=hI;rw[xct] at hx;obtain⟨z,hz,rfl⟩:=xdl.mp hx;obtain⟨σ1,e1,hS1,w1,w2⟩:=s z (xbx hz) σ hS;refine⟨σ1,e1,w1.mono fun b st1 hb=>?_⟩;obtain⟨rfl,rfl⟩:=hb;cases hP:P z with
  | false =>
   rw[if_neg (by decide)];refine⟨hS1,rfl,?_⟩;rw[zk hz,xge,xdg (by rw[hP];decide)];simp
  | true =>
   rw[if_pos rfl];refine(w2 hP).mono fun y st2 hy=>?_
   obtain⟨rfl,rfl⟩:=hy;refine⟨hS1,rfl,?_⟩;rw[zk hz,xge,xcq hP,xet];simp
 ·obtain⟨_,rfl,rfl⟩:=hI;rw[xbe,xcn];exact q
theorem V:(∀{α:Type} {a b:α} {l:List α},(a::l).set 0 b=b::l)
 /\ (∀{α:Type} {a b:α} {l:List α} {i:Nat},(a::l).set (i+1) b=a::l.set i b)
 /\ (∀{σ:DS} {k:Nat} {is:List Nat},aT k is σ=List.replicate k none++is.map fun i=>(σ[i]?).getD none)
 /\ (∀{α:Type} {a:α} {k:Nat},List.replicate (k+1) a=a::List.replicate k a)
 /\ (∀{α:Type} {a:α},List.replicate 0 a=[])
 /\ (∀{α β:Type} {f:α->β} {a:α} {l:List α},(a::l).map f=f a::l.map f)
 /\ (∀{α β:Type} {f:α->β},([]:List α).map f=[])
 /\ (∀{α:Type} {a:α} {l m:List α},(a::l)++m=a::(l++m))
 /\ (∀{α:Type} {l:List α},[]++l=l)
 /\ (∀{α:Type} {a:α} {l:List α},(a::l)[0]?=some a)
 /\ (∀{α:Type} {a:α} {l:List α} {i:Nat},(a::l)[i+1]?=l[i]?)
 /\ (∀{α:Type} {a:α} {d:α},(some a).getD d=a)
 /\ (∀{i:Nat} {d:D} {σ:DS},gN i d σ=some (σ.set i (some d)))
 /\ (∀{p:Prop} [Decidable p],(decide p=true)=p)
 /\ (∀{p:Prop} [Decidable p],((!decide p)=true)=¬ p)
 /\ (∀{b:Bool},((!b)=true)=(b=false))
 /\ (∀{a b:Prop},(if True then a else b)=a)
 /\ (∀{a b:Prop},(if False then a else b)=b)
 /\ (∀{a b:Prop},(if true=true then a else b)=a)
 /\ (∀{a b:Prop},(if false=true then a else b)=b)
 /\ (∀{α:Type} {a b:α},(if True then a else b)=a)
 /\ (∀{α:Type} {a b:α},(if False then a else b)=b)
 /\ ((true=false)=False)/\((false=true)=False)/\((true=true)=True)/\((false=false)=True)/\((¬ True)=False)/\((¬ False)=True):=by
 refine⟨rfl,rfl,rfl,rfl,rfl,rfl,rfl,rfl,rfl,rfl,?_,rfl,rfl,?_,?_,?_,rfl,rfl,rfl,rfl,rfl,rfl,by simp,by simp,by simp,by simp,by simp,by simp⟩
 ·intros;rfl
 ·intro p _;simp
 ·intro p _;simp
 ·intro b;simp
theorem M:(∀{f:SE} {σ:DS} {st:Store} {Q:Option Int->Store->Prop},WP (pSome f σ st) Q=WP (f σ st) (fun v st1=>∃i,v=.int i/\Q (some i) st1))
 /\ (∀{σ:DS} {st:Store} {Q:Option Int->Store->Prop},WP (pNone σ st) Q=Q none st)
 /\ (∀{f:SE} {lo hi:DS->Store->Res (Option Int)} {σ:DS} {st:Store} {Q:D->Store->Prop},WP (eSl f lo hi σ st) Q=WP (f σ st) (fun x st1=>WP (lo σ st1) (fun l st2=>WP (hi σ st2) (fun h st3=>(∃xs,x=.tup xs/\Q (.tup (cutD xs l h)) st3)\/(∃xs,asL st3 x=some xs/\Q (.lst (cutD xs l h)) st3)))))
 /\ (∀{f:SE} {σ:DS} {st:Store} {Q:D->Store->Prop},WP (eFz f σ st) Q=WP (f σ st) (fun x st1=>∃n xs,x=.ref n/\st1[n]?=some (.lst xs)/\Q (.lst xs) (st1.set n .dead)))
 /\ (∀{f g h:SE} {σ:DS} {st:Store} {Q:Fl->Store->Prop},WP (sSetIx f g h σ st) Q=WP (h σ st) (fun v st1=>WP (f σ st1) (fun x st2=>WP (g σ st2) (fun y st3=>∃n k xs j,x=.ref n/\y=.int k/\st3[n]?=some (.lst xs)/\ixN xs.length k=some j/\Q (.nx σ) (st3.set n (.lst (xs.set j v)))))))
 /\ (∀{f:SE} {g:SA} {σ:DS} {st:Store} {Q:D->Store->Prop},WP (eAppend f g σ st) Q=WP (f σ st) (fun x st1=>∃n xs0,x=.ref n/\st1[n]?=some (.lst xs0)/\WP (g σ st1) (fun ys st2=>∃y xs,ys=[y]/\st2[n]?=some (.lst xs)/\xs.length < sizeLine/\Q .non (st2.set n (.lst (xs++[y]))))))
 /\ (∀{x:D} {st:Store} {Q:D->Store->Prop},WP (bSum [x] st) Q=∃ns,(seqOf st x).bind asInts=some ns/\Q (.int ns.sum) st)
 /\ (∀{x:D} {al:Bool} {st:Store} {Q:D->Store->Prop},WP (bAny al [x] st) Q=∃bs,(asL st x).bind asBools=some bs/\Q (.bl (if al then bs.all id else bs.any id)) st)
 /\ (∀{x:D} {gt:Bool} {st:Store} {Q:D->Store->Prop},WP (bBest gt [x] st) Q=∃n ns,(seqOf st x).bind asInts=some (n::ns)/\Q (.int (bestI gt n ns)) st)
 /\ (∀{g:SA} {σ:DS} {st:Store} {Q:List D->Store->Prop},WP (iZipT g σ st) Q=WP (g σ st) (fun xs st1=>∃a b,xs=[.tup a,.tup b]/\Q (pairsF a b) st1))
 /\ (∀{i:Nat} {g:D->D->Store->Res D} {f:SE} {σ:DS} {st:Store} {Q:Fl->Store->Prop},WP (sAug i g f σ st) Q=∃x,σ[i]?=some (some x)/\WP (f σ st) (fun y st1=>WP (g x y st1) (fun z st2=>Q (.nx (σ.set i (some z))) st2))):=by
 refine⟨?_,rfl,?_,?_,?_,?_,?_,?_,?_,?_,?_⟩
 ·intros;rw[zbah,zg];congr;funext x st1
  cases x<;>simp[WP]
 ·intros;rw[zbkh,zg];congr;funext x st1;rw[zg];congr;funext l st2;rw[zg];congr;funext h st3
  apply propext;split
  ·constructor
   ·intro q;exact .inl ⟨_,rfl,q⟩
   ·rintro(⟨xs,e,q⟩ | ⟨xs,e,q⟩)
    ·cases e;exact q
    ·cases e
  ·rename_i hne;constructor
   ·intro q;split at q
    ·rename_i xs e;exact .inr ⟨xs,e,q⟩
    ·exact q.elim
   ·rintro(⟨xs,e,q⟩ | ⟨xs,e,q⟩)
    ·exact absurd e (hne xs)
    ·rw[e];exact q
 ·intros;rw[zbkl,zg];congr;funext x st1
  apply propext;constructor
  ·intro q;split at q
   ·split at q
    ·rename_i xs e;exact⟨_,xs,rfl,e,q⟩
    ·exact q.elim
   ·exact q.elim
  ·rintro⟨n,xs,rfl,e,q⟩;dsimp only;rw[e];exact q
 ·intros;rw[zvr,zg];congr;funext v st1;rw[zg];congr;funext x st2;rw[zg];congr;funext y st3
  apply propext;constructor
  ·intro q;split at q
   ·split at q
    ·split at q
     ·exact⟨_,_,_,_,rfl,rfl,by assumption,by assumption,q⟩
     ·exact q.elim
    ·exact q.elim
   ·exact q.elim
  ·rintro⟨n,k,xs,j,rfl,rfl,e1,e2,q⟩;dsimp only;rw[e1];dsimp only;rw[e2];exact q
 ·intros;rw[ztd,zg];congr;funext x st1
  apply propext;constructor
  ·intro q;split at q
   ·rename_i n xs0 e;rw[zg] at q;have e':st1[n]?=some (.lst xs0):=by
     unfold asL at e;dsimp only at e;split at e
     ·cases e;assumption
     ·cases e
    refine⟨n,xs0,rfl,e',q.mono fun ys st2 h=>?_⟩;split at h
    ·split at h
     ·exact⟨_,_,rfl,by assumption,by assumption,h⟩
     ·exact h.elim
    ·exact h.elim
   ·exact q.elim
  ·rintro⟨n,xs0,rfl,e,q⟩;rw[zgi e];dsimp only;rw[zg];refine q.mono fun ys st2 h=>?_
   obtain⟨y,xs,rfl,e2,hl,h⟩:=h;rw[e2];dsimp only;rw[if_pos hl];exact h
 ·intro x st Q;unfold bSum;dsimp only;cases h:(seqOf st x).bind asInts with
  | none=>simp[WP]
  | some ns=>simp[WP]
 ·intro x al st Q;unfold bAny;dsimp only;cases h:(asL st x).bind asBools with
  | none=>simp[WP]
  | some ns=>simp[WP]
 ·intro x gt st Q;unfold bBest;dsimp only;cases h:(seqOf st x).bind asInts with
  | none=>simp[WP]
  | some ns =>
   cases ns with
   | nil=>simp[WP]
   | cons n ns =>
    apply propext;constructor
    ·intro q;exact⟨_,_,rfl,q⟩
    ·rintro⟨a,b,e,q⟩;cases e;exact q
 ·intro g σ st Q;unfold iZipT;rw[zg];congr;funext x st1
  apply propext;constructor
  ·intro q;split at q
   ·exact⟨_,_,rfl,q⟩
   ·exact q.elim
  ·rintro⟨a,b,rfl,q⟩;exact q
 ·intro i g f σ st Q;rw[zbeh];apply propext;constructor
  ·intro q;split at q
   ·rename_i x e;rw[zg] at q;exact⟨x,e,q.mono fun y st1 h=>by rw[zg] at h;exact h⟩
   ·exact q.elim
  ·rintro⟨x,e,q⟩;rw[e];dsimp only;rw[zg];exact q.mono fun y st1 h=>by rw[zg];exact h
theorem N:(∀{xs:List D} {P:List D->Prop},(∃ys,D.tup xs=D.tup ys/\P ys)=P xs)
 /\ (∀{i:Int} {P:Int->Prop},(∃j,D.int i=D.int j/\P j)=P i)
 /\ (∀{xs:List D} {st:Store} {P:List D->Prop},(∃ys,asL st (.tup xs)=some ys/\P ys)=False)
 /\ (∀{xs:List D} {st:Store} {P:List D->Prop},(∃ys,asL st (.lst xs)=some ys/\P ys)=P xs)
 /\ (∀{xs:List D} {P:List D->Prop},(∃ys,seqV (.tup xs)=some ys/\P ys)=P xs)
 /\ (∀{xs:List D} {P:List D->Prop},(∃ys,seqV (.lst xs)=some ys/\P ys)=P xs)
 /\ (∀{b:Bool} {st:Store} {P:Bool->Prop},(∃c,tru st (.bl b)=some c/\P c)=P b)
 /\ (∀{i:Int} {P:Int->Prop},(∃j,[D.int i]=[D.int j]/\P j)=P i)
 /\ (∀{i j:Int} {P:Int->Int->Prop},(∃k l,[D.int i,D.int j]=[D.int k,D.int l]/\P k l)=P i j)
 /\ (∀{x:D} {P:D->Prop},(∃y,[x]=[y]/\P y)=P x)
 /\ (∀{a b:List D} {P:List D->List D->Prop},(∃c d,[D.tup a,D.tup b]=[.tup c,.tup d]/\P c d)=P a b)
 /\ (∀{p:Prop},(p\/False)=p)/\(∀{p:Prop},(True/\p)=p):=by
 refine⟨?_,?_,?_,?_,?_,?_,?_,?_,?_,?_,?_,by simp,by simp⟩
 ·intros;apply propext;exact⟨fun⟨_,e,p⟩=>by cases e;exact p,fun p=>⟨_,rfl,p⟩⟩
 ·intros;apply propext;exact⟨fun⟨_,e,p⟩=>by cases e;exact p,fun p=>⟨_,rfl,p⟩⟩
 ·intros;apply propext;exact⟨fun⟨_,e,p⟩=>(by cases e),fun p=>p.elim⟩
 ·intros;apply propext;exact⟨fun⟨_,e,p⟩=>by cases e;exact p,fun p=>⟨_,rfl,p⟩⟩
 ·intros;apply propext;exact⟨fun⟨_,e,p⟩=>by cases e;exact p,fun p=>⟨_,rfl,p⟩⟩
 ·intros;apply propext;exact⟨fun⟨_,e,p⟩=>by cases e;exact p,fun p=>⟨_,rfl,p⟩⟩
 ·intros;apply propext;exact⟨fun⟨_,e,p⟩=>by cases e;exact p,fun p=>⟨_,rfl,p⟩⟩
 ·intros;apply propext;exact⟨fun⟨_,e,p⟩=>by cases e;exact p,fun p=>⟨_,rfl,p⟩⟩
 ·intros;apply propext;exact⟨fun⟨_,_,e,p⟩=>by cases e;exact p,fun p=>⟨_,_,rfl,p⟩⟩
 ·intros;apply propext;exact⟨fun⟨_,e,p⟩=>by cases e;exact p,fun p=>⟨_,rfl,p⟩⟩
 ·intros;apply propext;exact⟨fun⟨_,_,e,p⟩=>by cases e;exact p,fun p=>⟨_,_,rfl,p⟩⟩
section
variable {st:Store}{n:Nat}{Q:D->Store->Prop}
theorem zbi {m:Int}(hb:BagAt st n)(h1:1<=m)(h2:m<=1000000)(k:∀r st',0<=r->r < m->Drew st st' n->Q (.int r) st'):WP (zd [.ref n,.int m] st) Q:=by
 obtain⟨r,st',e,a1,a2,a3,_⟩:=ztz hb h1 (xkw h2 (by decide +kernel));exact WP.of e (k r st' a1 a2 a3)
theorem zwu {x:D}{xs:List D}{i:Int}{d:D}(h:seqOf st x=some xs)(h2:L2.atI xs i=some d)(q:Q d st):WP (oIx x (.int i) st) Q:=WP.of (zpa h h2) q
theorem zzv {xs:List D}{i:Int}(h0:0<=i)(h1:i < xs.length)(q:∀d∈xs,Q d st):WP (oIx (.lst xs) (.int i) st) Q:=by
 obtain⟨j,rfl⟩:=xdy h0;have hj:j < xs.length:=by lia
 exact zwu (xs:=xs) (d:=xs[j]) rfl (zqs (xbg hj)) (q _ (xdw hj))
theorem zbhu {ns:List Int}{i:Nat}(hl:ns.length<=63)(hi:i<=100000)(k:∀g,BagAt (st++g) st.length->Q (.ref st.length) (st++g)):WP (zek [.scr (ns.map .int),.int i] st) Q:=by
 obtain⟨c,x,hc,hx,e⟩:=zbhv (st:=st) hl hi;exact WP.of e (k _ ⟨c,x,by simp,hc,hx⟩)
end
noncomputable abbrev Rise (l:List (List Int)):Prop:=l.Pairwise fun a b=>HT.lexLt a b=true
theorem Rise.nodup {l:List (List Int)}(h:Rise l):l.Nodup:=List.Pairwise.imp (fun {a b} q e=>by subst e;rw[Srt.zee] at q;cases q) h
theorem zzi {l:List (List Int)}(h:UpR l)(nd:l.Nodup):Rise l:=List.Pairwise.imp (fun {a b} q=>by
 obtain⟨q1,q2⟩:=q;rcases Srt.zjd a b with z | z | z
 ·exact z
 ·exact absurd z q2
 ·rw[q1] at z;cases z) (h.and nd)
theorem zsh (l:List (List Int)):Rise (aO l):=zzi (zhg _) (zfv l)
structure SumOk (n:Nat) (l:List (List Int)):Prop where
 rise:Rise l
 len:∀r∈l,r.length=n
 pos:∀r∈l,∀x∈r,0<=x
theorem zlm {n:Nat}{l:List (List Int)}(h:∀r∈l,r.length=n/\∀x∈r,0<=x):SumOk n (aO l):=⟨zsh l,fun r hr=>(h r (zcw hr)).1,fun r hr=>(h r (zcw hr)).2⟩
theorem Drew.lt {st st':Store}{n:Nat}(d:Drew st st' n)(h:n < st.length):n < st'.length:=xbh h d.len
theorem BagAt.lt {st:Store}{n:Nat}(h:BagAt st n):n < st.length:=by obtain⟨c,x,e,_⟩:=h;exact zu e
theorem zdr {r:List Int}{P:Int->Prop}(h:∀x∈r,P x){y:Int}(hy:P y):∀x∈r++[y],P x:=fun x hx=>by
 rcases xbt.mp hx with hx | hx
 ·exact h x hx
 ·simp at hx;subst hx;exact hy
theorem zfn {α:Type}(l:List α):(l.filter fun _=>true)=l:=List.filter_eq_self.mpr (by simp)
theorem zes {α:Type}(P:α->Bool):∀as:List α,asBools (as.map fun x=>.bl (P x))=some (as.map P)
 | []=>rfl
 | x::as=>by rw[xbn,asBools,zes P as];rfl
noncomputable def riseB (l:List (List Int)):Bool:=(l.zip (l.drop 1)).all fun p=>HT.lexLt p.1 p.2
theorem zlr:∀l:List (List Int),riseB l=true↔Rise l
 | []=>by simp[riseB,Rise]
 | [a]=>by simp[riseB,Rise]
 | a::b::l=>by
  have ih:=zlr (b::l);have e:riseB (a::b::l)=(HT.lexLt a b&&riseB (b::l)):=by simp[riseB]
  rw[e,xfe,ih];constructor
  ·rintro⟨h1,h2⟩;refine xek.mpr ⟨fun x hx=>?_,h2⟩;rcases xbl.mp hx with rfl | hx
   ·exact h1
   ·exact Srt.zed h1 ((xek.mp h2).1 x hx)
  ·intro h;obtain⟨h1,h2⟩:=xek.mp h;exact⟨h1 b xbw,h2⟩
theorem zgr:∀a b:List (List Int),pairsF (aJ a) (aJ b)=(a.zip b).map fun p=>.tup [aL p.1,aL p.2]
 | [],b=>by simp[pairsF]
 | _::_,[]=>by simp[pairsF]
 | x::a,y::b=>by
  rw[xhy,xbn,← zgr a b]
  rfl
theorem zbbb {a b:List Int}{st:Store}:oLtT (aL a) (aL b) st=.ok (.bl (HT.lexLt a b)) st:=by
 show(match asInts (a.map D.int),asInts (b.map D.int) with
  | some ns,some ms=>Res.ok (D.bl (HT.lexLt ns ms)) st
  | _,_=>Res.stuck)=_
 rw[zch,zch]
theorem zrt {l:List (List Int)}{st:Store}{Q:List D->Store->Prop}(q:Q ((l.zip (l.drop 1)).map fun p=>.bl (HT.lexLt p.1 p.2)) st) :
  WP (compF (gT 2 (gsCons (gN 0) (gsCons (gN 1) gsNil))) aI (aS oLtT (aA 0) (aA 1)) (pairsF (aJ l) (cutD (aJ l) (some 1) none)) [none,none] st) Q:=by
 have e:cutD (aJ l) (some 1) none=aJ (l.drop 1):=by
  have:=zqd (aJ l) 1;rw[show((1:Nat):Int)=1 from rfl] at this;rw[this,aJ,aJ,List.map_drop]
 rw[e,zgr];refine zjr (as:=l.zip (l.drop 1)) (fun σ=>∃v w,σ=[v,w]) (fun _=>true) (fun p=>.bl (HT.lexLt p.1 p.2)) (fun p=>.tup [aL p.1,aL p.2]) ⟨_,_,rfl⟩ ?_ (by rw[zfn];exact q);rintro p hp σ ⟨v,w,rfl⟩;refine⟨_,rfl,⟨_,_,rfl⟩,by simp only[W,xhr],fun _=>?_⟩;simp only[W,V];exact WP.of zbbb ⟨rfl,rfl⟩
section
variable {st:Store}{n:Nat}{Q:D->Store->Prop}
theorem zpq (hb:BagAt st n)(k:∀(m:Int) st',1<=m->m<=10->Drew st st' n->Q (.int m) st'):WP (zcb [.ref n] st) Q:=by
 refine zlf rfl ?_;simp only[W,V];refine zbi hb (by lia) (by lia) fun r st1 h1 h2 d1=>?_
 simp only[W,V];refine⟨small _ (by simp),?_⟩;refine zbi d1.bag (by lia) (by lia) fun r2 st2 h3 h4 d2=>?_
 refine zzv h3 (by simp;lia) fun d hd=>?_
 simp only[xbl,xga,xjy] at hd;rcases hd with rfl | rfl | rfl | rfl | rfl | rfl | rfl | rfl | rfl | rfl | rfl<;>exact k _ _ (by lia) (by lia) (d1.trans d2)
theorem zjt (l:List Int)(j:Nat):(l.drop j++l.take j).length=l.length:=by rw[xbk,Nat.add_comm,← xbk,xcr]
theorem zoh {l:List Int}{j:Nat}{s:Store}(h:l.length<=sizeLine):aM (.lst ((l.drop j).map .int)) (.lst ((l.take j).map .int)) s=.ok (.lst ((l.drop j++l.take j).map .int)) s:=by
 show(if _<=sizeLine then Res.ok (D.lst _) s else .stuck)=_;rw[if_pos,xet];rw[xbe,xbe,← xbk,zjt];exact h
theorem ziy {x:D}{l:List (List Int)}(hx:seqV x=some (aJ l))(hl:l.length<=1000000)(k:∀g,Q (aK (aO l)) (st++g)):WP (zq [x] st) Q:=by
 have h1:=zdg l;obtain⟨g,e⟩:=znq (st:=st) hx (by lia) (by lia);exact WP.of e (k g)
theorem zsw {N:Int}{l:List (List Int)}(h:SumOk N.toNat l)(hN:0<=N)(hN2:N<=1000)(hl:l.length<=1000000)(q:Q (.bl true) st):WP (zcp [.int N,aK l] st) Q:=by
 refine zlf rfl ?_;have ty:∀ ds:List D, bIsinst [.tup ds, .ty "tuple"] st=.ok (.bl true) st:=fun ds=>rfl
 simp only[W,V];refine WP.of (ty _) ⟨true,rfl,?_⟩;simp only[W,V];refine⟨_,rfl,?_⟩;refine zdn (fun i σ s=>s=st/\∃v,σ=[some (.int N),some (aK l),v]) ⟨rfl,_,rfl⟩ ?_ ?_
 ·rintro i x σ s hx ⟨rfl,v,rfl⟩;obtain⟨r,hr,rfl⟩:=zde hx;have hm:=xbx hr;refine⟨_,rfl,?_⟩;unfold zdm;simp only[W,V];refine WP.of (ty _) ⟨true,rfl,?_⟩;have e1:((r.map D.int).length:Int)=N:=by rw[xbe,h.len r hm];lia
  simp only[W,V,e1];refine⟨_,rfl,by rw[xbe,h.len r hm];exact small _ (by lia),?_⟩;refine zjr (as:=r) (fun σ=>∃v,σ=[v]) (fun _=>true) (fun x=>.bl (decide (0<=x))) .int ⟨_,rfl⟩ ?_ ?_
  ·rintro x hx σ ⟨v,rfl⟩;refine⟨_,rfl,⟨_,rfl⟩,by simp only[W,xhr],fun _=>?_⟩;simp only[W,V];exact WP.of (zgw (st:=s) (i:=x)) (by simp only[W,V,xhr])
  ·rw[zfn];simp only[M,W,V];refine⟨_,zes _ _,true,?_,?_⟩
   ·rw[List.all_map];show some _=_
    congr 1
    rw[xed];intro x hx;exact xcs (h.pos r hm x hx)
   ·simp only[W,V,L];exact⟨True.intro,_,rfl⟩
 ·rintro σ s ⟨rfl,v,rfl⟩;simp only[W,V,M];refine⟨1,rfl,.inl ⟨_,rfl,?_⟩⟩;refine⟨_,_,rfl,by rw[zcv,zj];exact small _ (by lia),zrt ?_⟩;refine⟨_,zes _ _,?_⟩;rw[List.all_map];have:=(zlr l).mpr h.rise;unfold riseB at this;rw[show((id:Bool->Bool) ∘ fun p:List Int×List Int=>HT.lexLt p.1 p.2)=fun p=>HT.lexLt p.1 p.2 from rfl,this];exact q
end
section
variable {k:Nat}{d:D}{st:Store}
end
section
variable {k:Nat}{d:D}{st:Store}{Q:D->Store->Prop}
end
section
variable {k:Nat}{d:D}{st:Store}{Q:D->Store->Prop}
end
theorem zcs {s t:SS}{σ:DS}{st:Store}{Q R:Fl->Store->Prop}(h:WP (s σ st) R)(k:∀fl s',R fl s'->seqK t Q fl s'):WP (aD s t σ st) Q:=by
 rw[zyr];exact h.mono k
section
variable {st:Store}{n:Nat}{Q:D->Store->Prop}
end
section
variable {st:Store}{n:Nat}{Q:D->Store->Prop}
theorem zbbq {ks:List (List Int)}{k:List Int}(h:st[n]?=some (.dT (aQ ks)))(hl:ks.length<=1000000)(q:Q .non (st.set n (.dT (aQ (aP ks k))))):WP (zra [.ref n,aL k] st) Q:=WP.of (zbbr h hl) q
theorem zrq {ks:List (List Int)}(h:st[n]?=some (.dT (aQ ks)))(hl:ks.length<=1000000)(q:Q (.lst (aJ (sortR ks))) st):WP (bSorted [.ref n] st) Q:=WP.of (zmy h hl) q
end
section
variable {st:Store}{n:Nat}{Q:D->Store->Prop}
theorem zwo {l:List (List Int)}{r:List Int}{P:List Int->Prop}(h:∀x∈l,P x)(hr:P r):∀x∈l++[r],P x:=fun x hx=>by
 rcases xbt.mp hx with hx | hx
 ·exact h x hx
 ·simp at hx;subst hx;exact hr
end
end Dd
namespace K03
end K03
namespace K13
open PySem PyProof.Rows
end K13
namespace Dd
open PySem L2 K13
section
variable {st:Store}{n:Nat}{Q:D->Store->Prop}
end
noncomputable abbrev Pt:=List Int×Int
noncomputable def ptD (p:Pt):D:=.tup [aL p.1,.int p.2]
section
variable {st:Store}{n:Nat}{Q:D->Store->Prop}
theorem zgo (o o':O)(g:Store):(st++o::g).set st.length o'=st++o'::g:=by simp
theorem zdl (o:O)(g:Store):(st++o::g)[st.length]?=some o:=by simp
theorem zlw {α:Type}{f:α->D}{l:List α}{i:Nat}{x:D}(h:(l.map f)[i]?=some x):∃a,l[i]?=some a/\x=f a:=by
 rw[xct] at h;obtain⟨a,h1,h2⟩:=xdl.mp h;exact⟨a,h1,h2.symm⟩
noncomputable def box:List Int->Nat
 | []=>1
 | e::r=>(e.toNat+1) * box r
theorem zcg:∀a b:List Int,box (a++b)=box a * box b
 | [],b=>by simp[box]
 | e::a,b=>by rw[List.cons_append,box,box,zcg a b,Nat.mul_assoc]
theorem zvc:∀a:List Int,1<=box a
 | []=>xbf _
 | e::a=>by have:=zvc a;unfold box;exact xbb this (xjs _ (by lia))
theorem zql (r:List Int)(i:Nat):box (r.take i)<=box r:=by
 have e:=zcg (r.take i) (r.drop i);rw[xcr] at e;rw[e];exact Nat.le_mul_of_pos_right _ (zvc _)
end
theorem znm:∀{r:List Int},(∀x∈r,0<=x)->0<=r.sum
 | [],_=>by simp
 | x::r,h=>by
  have:=znm (r:=r) fun y hy=>h y (xbp _ hy)
  have:=h x xbw;rw[xhi];lia
theorem zbiw:∀{r:List Int},(∀x∈r,0<=x)->∀x∈r,x<=r.sum
 | [],_,_,h=>nomatch h
 | y::r,h,x,hx=>by
  have h1:=fun z hz=>h z (xbp y hz)
  have h2:=znm h1;have h3:=h y xbw;rw[xhi];rcases xbl.mp hx with rfl | hx
  ·lia
  ·have:=zbiw h1 x hx;lia
theorem zvb:∀{r:List Int},(∀x∈r,0<=x)->box r<=2 ^ r.sum.toNat
 | [],_=>by simp[box]
 | e::r,h=>by
  have h1:=h e xbw;have h1':=fun x hx=>h x (xbp e hx)
  have h2:=zvb h1';have h3:=znm h1';rw[xhi,show(e+r.sum).toNat=e.toNat+r.sum.toNat by lia,Nat.pow_add];exact xmb (Nat.succ_le_of_lt Nat.lt_two_pow_self) h2
section
variable {st:Store}{n:Nat}{Q:D->Store->Prop}
theorem zvo {m:Int}(hb:BagAt st n)(h1:1<=m)(h2:m < 2 ^ 1000)(k:∀r st',0<=r->r < m->Drew st st' n->Q (.int r) st'):WP (zd [.ref n,.int m] st) Q:=by
 obtain⟨r,st',e,a1,a2,a3,_⟩:=ztz hb h1 h2;exact WP.of e (k r st' a1 a2 a3)
end
end Dd
namespace K13
end K13
namespace Dd
open PySem L2 K13
theorem zrc {f:SE}{g:SA}{σ:DS}{st:Store}{Q:D->Store->Prop}:WP (eExtend f g σ st) Q=WP (f σ st) (fun x st1=>∃n xs0,x=.ref n/\st1[n]?=some (.lst xs0)/\WP (g σ st1) (fun ys st2=>∃y xs zs,ys=[y]/\st2[n]?=some (.lst xs)/\asL st2 y=some zs/\xs.length+zs.length<=sizeLine/\Q .non (st2.set n (.lst (xs++zs))))):=by
 rw[ztc,zg]
 congr
 funext x st1
 apply propext;constructor
 ·intro q;split at q
  ·rename_i n xs0 e;rw[zg] at q;have e':st1[n]?=some (.lst xs0):=by
    unfold asL at e;dsimp only at e;split at e
    ·cases e;assumption
    ·cases e
   refine⟨n,xs0,rfl,e',q.mono fun ys st2 h=>?_⟩;split at h
   ·split at h
    ·split at h
     ·exact⟨_,_,_,rfl,by assumption,by assumption,by assumption,h⟩
     ·exact h.elim
    ·exact h.elim
   ·exact h.elim
  ·exact q.elim
 ·rintro⟨n,xs0,rfl,e,q⟩;rw[zgi e];dsimp only;rw[zg];refine q.mono fun ys st2 h=>?_
  obtain⟨y,xs,zs,rfl,e2,e3,hl,h⟩:=h;rw[e2];dsimp only;rw[e3];dsimp only;rw[if_pos hl];exact h
section
variable {st:Store}{n:Nat}{Q:D->Store->Prop}
end
section
variable {st:Store}{n:Nat}{Q:D->Store->Prop}
end
end Dd
namespace K08
end K08
namespace Dd
open PySem L2 K13
noncomputable def longL (rows:List (List Int)) (xs:List Int):List (List Int):=rows.flatMap fun row=>xs.map fun x=>row++[x]
theorem zly (xs:List Int):∀rows:List (List Int),(longL rows xs).length=rows.length * xs.length
 | []=>by simp[longL]
 | r::rows=>by
  have e:longL (r::rows) xs=(xs.map fun x=>r++[x])++longL rows xs:=by simp[longL]
  rw[e,xbk,xbe,zly xs rows,xby,xje];lia
theorem ztx {a b:List D}{st:Store}{Q:D->Store->Prop}:WP (aM (.lst a) (.lst b) st) Q=(a.length+b.length<=sizeLine/\Q (.lst (a++b)) st):=by
 show WP (if a.length+b.length<=sizeLine then Res.ok (D.lst (a++b)) st else .stuck) Q=_;rw[zhd]
 rfl
section
variable {st:Store}{n:Nat}{Q:D->Store->Prop}
end
noncomputable abbrev Row:=List Int
noncomputable def tot {α:Type} (l:List α) (c:α->Nat):Nat:=(l.map c).sum
theorem zdp {α:Type}(a:α)(l:List α)(c:α->Nat):tot (a::l) c=c a+tot l c:=by simp[tot]
theorem zff {α:Type}{c d:α->Nat}{l:List α}(h:∀a∈l,c a=d a):tot l c=tot l d:=by
 unfold tot;rw[xiu h]
theorem zty {α:Type}(c d:α->Nat):∀l:List α,tot l (fun a=>c a+d a)=tot l c+tot l d
 | []=>rfl
 | a::l=>by rw[zdp,zdp,zdp,zty c d l];lia
theorem zoi {α β:Type}(c:α->β->Nat)(m:List β):∀l:List α,tot l (fun a=>tot m (c a))=tot m (fun b=>tot l (fun a=>c a b))
 | []=>by
  show 0=tot m fun _=>0
  unfold tot;rw[List.map_const'];simp
 | a::l=>by
  rw[zdp,zoi c m l,← zty];exact zff fun b _=>(zdp a l fun a=>c a b).symm
theorem ztn (x:Row)(g:Row->Row)(l:List Row):(l.map g).count x=tot l fun a=>if g a=x then 1 else 0:=by
 induction l with
 | nil=>rfl
 | cons a l ih =>
  rw[xbn,List.count_cons,ih,zdp];by_cases c:g a=x
  ·subst c;simp;lia
  ·simp[c]
noncomputable def lowJ (e:Int):List Int:=((List.range ((e / 2).toNat+1)).filter fun j:Nat=>decide ((e.toNat - j) &&& j=j)).map fun j:Nat=>(j:Int)
noncomputable def lowO (e:Int):List Int:=(lowJ e).map fun j=>e - j
noncomputable def lowS (m:Row):List Row:=m.foldl (fun rows e=>longL rows (lowO e)) [[]]
theorem zdh (m:Row)(e:Int):lowS (m++[e])=longL (lowS m) (lowO e):=by unfold lowS;rw[xih];rfl
theorem zfw {e j:Int}(he:0<=e):j∈lowJ e↔0<=j/\j<=e / 2/\(e.toNat - j.toNat) &&& j.toNat=j.toNat:=by
 unfold lowJ;simp only[xcp,xdn,xcf,xea];constructor
 ·rintro⟨a,⟨h1,h2⟩,rfl⟩;exact⟨by lia,by lia,h2⟩
 ·rintro⟨h1,h2,h3⟩;exact⟨j.toNat,⟨by lia,h3⟩,by lia⟩
noncomputable def lowLJ (e rest:Int) (p:Pt):List Pt:=((lowJ e).filter fun j=>decide (p.2 - rest<=j/\j<=p.2)).map fun j=>(p.1++[e - j],p.2 - j)
noncomputable def lowLL (e rest:Int) (ps:List Pt):List Pt:=ps.flatMap (lowLJ e rest)
noncomputable def lowFit (k M rest:Int) (rows:List Row):List Pt:=(rows.filter fun u=>decide (0<=k - (M - u.sum)/\k - (M - u.sum)<=rest)).map fun u=>(u,k - (M - u.sum))
theorem zkk {k M e rest:Int}(he:0<=e):∀rows:List Row,lowFit k (M+e) rest (longL rows (lowO e))=lowLL e rest (lowFit k M (e / 2+rest) rows)
 | []=>rfl
 | u::rows=>by
  have ih:=zkk (k:=k) (M:=M) (rest:=rest) he rows;have e1:longL (u::rows) (lowO e)=((lowO e).map fun x=>u++[x])++longL rows (lowO e):=by simp[longL]
  have e2:lowFit k (M+e) rest (longL (u::rows) (lowO e))=lowFit k (M+e) rest ((lowO e).map fun x=>u++[x])++lowFit k (M+e) rest (longL rows (lowO e)):=by
   rw[e1];unfold lowFit;rw[xge,xet]
  have e4:∀j:Int,k - (M+e - (u++[e - j]).sum)=k - (M - u.sum) - j:=fun j=>by rw[xds];simp;lia
  have e3:lowFit k (M+e) rest ((lowO e).map fun x=>u++[x])=lowLJ e rest (u,k - (M - u.sum)):=by
   unfold lowFit lowO lowLJ;rw[xcu,xiy,xcu];have e5:(lowJ e).filter ((fun r:Row=>decide (0<=k - (M+e - r.sum)/\k - (M+e - r.sum)<=rest)) ∘ ((fun x=>u++[x]) ∘ fun j:Int=>e - j))=(lowJ e).filter fun j=>decide (k - (M - u.sum) - rest<=j/\j<=k - (M - u.sum)) :=
    xhk fun j _=>by
     show decide (0<=k - (M+e - (u++[e - j]).sum)/\k - (M+e - (u++[e - j]).sum)<=rest)=_;rw[e4];exact xgp.mpr ⟨fun h=>by lia,fun h=>by lia⟩
   rw[e5];refine xiu fun j _=>?_
   show(u++[e - j],k - (M+e - (u++[e - j]).sum))=_;rw[e4]
  rw[e2,ih,e3];by_cases c:0<=k - (M - u.sum)/\k - (M - u.sum)<=e / 2+rest
  ·have e6:lowFit k M (e / 2+rest) (u::rows)=(u,k - (M - u.sum))::lowFit k M (e / 2+rest) rows:=by
    unfold lowFit;rw[xcq (by simpa using c)]
    rfl
   rw[e6];simp[lowLL]
  ·have e6:lowFit k M (e / 2+rest) (u::rows)=lowFit k M (e / 2+rest) rows:=by
    unfold lowFit;rw[xdg (by simpa using c)]
   have e7:lowLJ e rest (u,k - (M - u.sum))=[]:=by
    unfold lowLJ;rw[xfv.mpr fun j hj=>?_]
    ·rfl
    ·obtain⟨h1,h2,_⟩:=(zfw he).mp hj;simp only[xea];lia
   rw[e6,e7]
   rfl
noncomputable def halves (r:Row):Int:=(r.map (· / 2)).sum
noncomputable def lowStep (s:Int×List Pt) (e:Int):Int×List Pt:=(s.1 - e / 2,lowLL e (s.1 - e / 2) s.2)
noncomputable def lowR (k:Int) (r:Row):List Row:=(r.foldl lowStep (halves r,[([],k)])).2.map (·.1)
theorem zcz (a b:Row):halves (a++b)=halves a+halves b:=by unfold halves;rw[xet,xds]
theorem zfk {r:Row}(h:∀x∈r,0<=x):0<=halves r:=znm fun x hx=>by
 obtain⟨y,hy,rfl⟩:=xcp.mp hx;have:=h y hy;lia
theorem zhq {k:Int}(hk:0<=k):∀(suf m:Row),(∀x∈suf,0<=x)->(suf.foldl lowStep (halves suf,lowFit k m.sum (halves suf) (lowS m))).2=lowFit k (m++suf).sum 0 (lowS (m++suf))
 | [],m,_=>by simp[halves]
 | e::suf,m,h=>by
  have he:=h e xbw;have ih:=zhq hk suf (m++[e]) fun x hx=>h x (xbp _ hx)
  have eh:halves (e::suf)=e / 2+halves suf:=by simp[halves]
  rw[xhe];have es:lowStep (halves (e::suf),lowFit k m.sum (halves (e::suf)) (lowS m)) e=(halves suf,lowFit k (m++[e]).sum (halves suf) (lowS (m++[e]))):=by
   unfold lowStep;rw[eh,show e / 2+halves suf - e / 2=halves suf by lia,zdh,xds,show m.sum+[e].sum=m.sum+e by simp,zkk he]
  rw[es,ih,xci]
  rfl
theorem zkm {r:Row}{k:Int}(ne:r≠[])(h:∀x∈r,0<=x)(hk:0<=k):lowR k r=(lowS r).filter fun u=>decide (u.sum=r.sum - k):=by
 unfold lowR;by_cases c:k<=halves r
 ·have e:=zhq hk r [] h;have e0:lowFit k ([]:Row).sum (halves r) (lowS [])=[([],k)]:=by
   show lowFit k 0 (halves r) [[]]=_;unfold lowFit;rw[xcq (by simp;lia)];simp
  rw[e0] at e;rw[e,xly];unfold lowFit;rw[xcu];have e2:(lowS r).filter (fun u=>decide (0<=k - (r.sum - u.sum)/\k - (r.sum - u.sum)<=0))=(lowS r).filter fun u=>decide (u.sum=r.sum - k):=xhk fun u _=>xgp.mpr ⟨fun h=>by lia,fun h=>by lia⟩
  rw[e2];exact List.map_id _
 ·have e:=zhq hk r [] h;have e0:lowFit k ([]:Row).sum (halves r) (lowS [])=[]:=by
   show lowFit k 0 (halves r) [[]]=_;unfold lowFit;rw[xdg (by simp;lia)];simp
  rw[e0] at e;have none:∀(suf:Row) (ps:List Pt),(∀x∈suf,0<=x)->(∀p∈ps,halves suf < p.2)->(suf.foldl lowStep (halves suf,ps)).2.map (·.1)=([]:List Row)\/(suf=[]/\(suf.foldl lowStep (halves suf,ps)).2=ps):=fun suf=>by
   induction suf with
   | nil=>intro ps _ _;exact .inr ⟨rfl,rfl⟩
   | cons e suf ih =>
    intro ps hs hp
    left
    have he:=hs e xbw;have eh:halves (e::suf)=e / 2+halves suf:=by simp[halves]
    have:lowStep (halves (e::suf),ps) e=(halves suf,[]):=by
     unfold lowStep;rw[eh,show e / 2+halves suf - e / 2=halves suf by lia]
     congr 1
     unfold lowLL;refine List.flatMap_eq_nil_iff.mpr fun p hpp=>?_
     unfold lowLJ;have h1:=hp p hpp;rw[xfv.mpr fun j hj=>?_]
     ·rfl
     ·obtain⟨h2,h3,_⟩:=(zfw he).mp hj;simp only[xea];lia
    rw[xhe,this];rcases ih [] (fun x hx=>hs x (xbp _ hx)) (by simp) with h | ⟨h1,h2⟩
    ·exact h
    ·rw[h2];rfl
  have low:∀(i:Nat),∀u∈lowS (r.take i),(r.take i).sum - halves (r.take i)<=u.sum:=fun i=>by
   induction i with
   | zero=>intro u hu;rw[xck.mp (show u∈[[]] from hu)];simp[halves]
   | succ i ih =>
    by_cases ci:i < r.length
    ·have g:r[i]?=some r[i]:=xbg ci;have h0:=h r[i] (xdw ci);intro u hu;rw[zk g,zdh] at hu;unfold longL lowO at hu;obtain⟨v,hv,hu⟩:=xgo.mp hu;rw[xcu] at hu;obtain⟨j,hj,rfl⟩:=xcp.mp hu;obtain⟨h1,h2,_⟩:=(zfw h0).mp hj;have h3:=ih v hv;rw[zk g,zcz];simp only[Function.comp,xds,xhi,xlr];have:halves [r[i]]=r[i] / 2:=by simp[halves]
     lia
    ·rw[xdm (by lia)] at ih ⊢;exact ih
  have empty:(lowS r).filter (fun u=>decide (u.sum=r.sum - k))=[]:=xfv.mpr fun u hu=>by
   have:=low r.length u (by rw[xcn];exact hu);rw[xcn] at this;simp only[xea];lia
  rw[empty];rcases none r [([],k)] h (fun p hp=>by rw[xck.mp hp];lia) with h1 | ⟨h1,h2⟩
  ·exact h1
  ·exact absurd h1 ne
theorem cnt1 {α:Type}[BEq α][LawfulBEq α]{l:List α}{x:α}(nd:l.Nodup)(h:x∈l):l.count x=1:=by
 have h1:l.count x<=1:=List.nodup_iff_count.mp nd x;have h2:0 < l.count x:=xkv.mpr h;lia
theorem zpj (r:Row)(i:Nat):∀m∈lowS (r.take i),m.length=(r.take i).length:=by
 induction i with
 | zero=>intro m hm;rw[xck.mp (show m∈[[]] from hm)];rfl
 | succ i ih =>
  by_cases c:i < r.length
  ·have g:r[i]?=some r[i]:=xbg c;intro m hm;rw[zk g,zdh] at hm;unfold longL at hm;obtain⟨v,hv,hm⟩:=xgo.mp hm;obtain⟨x,_,rfl⟩:=xcp.mp hm;rw[zk g,xbk,xbk,ih v hv]
   rfl
  ·rw[xdm (by lia)] at ih ⊢;exact ih
noncomputable def lowL (k:Int) (l:List Row):List Row:=l.flatMap (lowR k)
theorem zzb (A B:List Row):tot A (fun a=>B.count a)=tot B fun b=>A.count b:=by
 have one:∀(x:Row) (L:List Row),L.count x=tot L fun y=>if y=x then 1 else 0:=fun x L=>by
  have:=ztn x id L
  simpa using this
 rw[zff (l:=A) fun a _=>one a B,zoi];refine zff fun b _=>?_
 rw[one b A];exact zff fun a _=>by
  by_cases c:a=b
  ·subst c;rfl
  ·rw[if_neg c,if_neg fun z=>c z.symm]
noncomputable def meets (A B:List Row):Nat:=tot A fun a=>B.count a
theorem zfx {A B:List Row}(nd:B.Nodup):(A.filter fun a=>decide (a∈B)).length=meets A B:=by
 unfold meets
 induction A with
 | nil=>rfl
 | cons a A ih =>
  rw[zdp];by_cases c:a∈B
  ·rw[xcq (by simpa using c),xby,ih,cnt1 nd c];lia
  ·rw[xdg (by simpa using c),ih,xia.mpr c];lia
noncomputable def Rows (n:Nat) (l:List Row):Prop:=∀r∈l,r.length=n/\∀x∈r,0<=x
theorem Rows.low {n:Nat}{l:List Row}(hn:n≠0)(h:Rows n l){k:Int}(hk:0<=k):Rows n (lowL k l):=fun m hm=>by
 unfold lowL at hm;obtain⟨r,hr,hm⟩:=xgo.mp hm;rw[zkm (fun z=>by subst z;exact hn (h [] hr).1.symm) (h r hr).2 hk] at hm;have hm:=(xdn.mp hm).1;have hl:=zpj r r.length m (by rw[xcn];exact hm);rw[xcn] at hl;refine⟨by rw[hl,(h r hr).1],fun x hx=>?_⟩;have key:∀i:Nat,∀m∈lowS (r.take i),∀x∈m,0<=x:=fun i=>by
  induction i with
  | zero=>intro m hm;rw[xck.mp (show m∈[[]] from hm)];simp
  | succ i ih =>
   by_cases c:i < r.length
   ·have g:r[i]?=some r[i]:=xbg c;have h0:=(h r hr).2 r[i] (xdw c);intro m hm;rw[zk g,zdh] at hm;unfold longL lowO at hm;obtain⟨v,hv,hm⟩:=xgo.mp hm;rw[xcu] at hm;obtain⟨j,hj,rfl⟩:=xcp.mp hm;obtain⟨h1,h2,_⟩:=(zfw h0).mp hj;exact zdr (ih v hv) (by simp only[Function.comp];lia)
   ·rw[xdm (by lia)] at ih ⊢;exact ih
 exact key r.length m (by rw[xcn];exact hm) x hx
theorem zbdg (row up:List Row):meets up row % 2=meets row up % 2:=by unfold meets;rw[zzb]
section
variable {st:Store}{n:Nat}{Q:D->Store->Prop}
theorem zya {e:Int}(he:0<=e){σ1:DS}{w:D->Store->Prop}(q:∀x,0<=x->x<=e->w (.int x) st) :
  WP (compF (gN 0) (eB (aS oLe (aA 0) (aA 1))) (aA 0) [.int 0,.int 1,.int 3,.int 7,.int 15] [none,some (.int e)] st) (fun ys st2=>WP (bBest true [.lst ys] st2) w):=by
 refine zjr (as:=[(0:Int),1,3,7,15]) (E:=fun x=>D.int x) (fun σ=>∃v,σ=[v,some (.int e)]) (fun x=>decide (x<=e)) (fun x=>.int x) ⟨_,rfl⟩ ?_ ?_
 ·rintro x hx σ ⟨v,rfl⟩;refine⟨_,rfl,⟨_,rfl⟩,?_,fun _=>?_⟩
  ·simp only[W,V,xhr]
  ·simp only[W,V,xhr]
 ·rw[xcq (by simpa using he)];simp only[M];refine⟨0,([1,3,7,15]:List Int).filter (fun x=>decide (x<=e)),?_,?_⟩
  ·have:=zch (0::([1,3,7,15]:List Int).filter (fun x=>decide (x<=e)));exact this
  ·obtain⟨h1,h2⟩:=zkz (([1,3,7,15]:List Int).filter (fun x=>decide (x<=e))) 0;refine q _ (h2 0 xbw) ?_;rcases xbl.mp h1 with h | h
   ·rw[h];exact he
   ·simpa using (xdn.mp h).2
theorem zkf {N d:Int}(hb:BagAt st n)(hN:1<=N)(hN2:N<=1000)(hd:0<=d)(hd2:d<=1000)(k:∀r st',r.length=N.toNat->(∀x∈r,0<=x)->r.sum=d->Drew st st' n->Q (aL r) st'):WP (zbh [.ref n,.int N,.int d] st) Q:=by
 refine zlf rfl ?_;simp only[W,V];refine⟨small _ (by simp),?_⟩;have D0:Drew st (st++[.lst []]) n:=.more hb _;refine zbi D0.bag (by lia) (by lia) fun fk st2 h3 h4 d2=>?_
 have D2:=D0.trans d2;have hk:st.length<=st.length:=xbf _;have hkn:st.length≠n:=xgv hb.lt;have g0:st2[st.length]?=some (.lst []):=(d2.keep _ (by simp) hkn).trans (by simp)
 try simp only[W,V]
 refine⟨trivial,_,rfl,rngN (by lia) (by lia),?_⟩;refine zdn (fun i σ s=>∃(left:Int) (r:List Int) (v w:Option D),σ=[some (.ref n),some (.int N),some (.int d),some (.int left),some (.ref st.length),some (.int fk),v,w,none]/\0<=left/\left+r.sum=d/\r.length=i/\(∀x∈r,0<=x)/\Drew st s n/\s[st.length]?=some (.lst (r.map .int)))
  ⟨d,[],none,none,rfl,hd,by simp,rfl,by simp,D2,g0⟩ ?_ ?_
 ·rintro i x σ s hx ⟨left,r,v,w,rfl,a1,a2,a3,a4,a5,a6⟩;obtain⟨hi,rfl⟩:=zeu hx;have rn:=znm a4;refine⟨_,rfl,?_⟩;unfold zci;refine zcs (R:=fun fl s=>∃y:Int,fl=.nx [some (.ref n),some (.int N),some (.int d),some (.int left),some (.ref st.length),some (.int fk),some (.int (0+(i:Int))),some (.int y),none]/\0<=y/\y<=left/\Drew st s n/\s[st.length]?=some (.lst (r.map .int))) ?_ ?_
  ·simp only[W,V];refine zbi a5.bag (by lia) (by lia) fun y s2 b1 b2 e2=>?_
   exact⟨y,rfl,b1,by lia,a5.trans e2,(e2.keep _ (zu a6) hkn).trans a6⟩
  rintro fl s1 ⟨y,rfl,y1,y2,E1,g1⟩;show WP _ _;refine zcs (R:=fun fl s=>∃y:Int,fl=.nx [some (.ref n),some (.int N),some (.int d),some (.int left),some (.ref st.length),some (.int fk),some (.int (0+(i:Int))),some (.int y),none]/\0<=y/\y<=left/\s=s1) ?_ ?_
  ·simp only[W,V,Dd.N];split
   ·refine⟨small _ (by simp),small _ (by simp),?_⟩;refine zya (σ1:=[]) y1 fun z z1 z2=>?_
    exact⟨z,rfl,z1,by lia,rfl⟩
   ·exact⟨y,rfl,y1,y2,trivial⟩
  rintro fl s2 ⟨y,rfl,y1,y2,rfl⟩;show WP _ _;simp only[W,V,M,Dd.N,L];have hlt:=zu g1;refine⟨_,_,rfl,g1,_,_,rfl,g1,by rw[xbe];exact smallT _ (by lia),left - y,r++[y],_,_,rfl,by lia,by rw[xds];simp;lia,by simp[a3],zdr a4 y1,E1.over hb.lt hk,?_⟩;rw[zfq hlt];simp
 ·rintro σ s ⟨left,r,v,w,rfl,a1,a2,a3,a4,a5,a6⟩;rw[zbj] at a3;simp only[W,V,M];have hlt:=zu a6;refine⟨_,_,rfl,a6,_,_,rfl,a6,by rw[xbe];exact smallT _ (by lia),?_⟩;have a7:(s.set st.length (.lst (r.map D.int++[D.int left])))[st.length]?=some (.lst ((r++[left]).map .int)):=by rw[zfq hlt];simp
  have D5:Drew st (s.set st.length (.lst (r.map D.int++[D.int left]))) n:=a5.over hb.lt hk;refine zbi D5.bag (by lia) (by lia) fun y s2 b1 b2 e2=>?_
  have a8:s2[st.length]?=some (.lst ((r++[left]).map .int)):=(e2.keep _ (zu a7) hkn).trans a7;refine⟨y,rfl,.inr ⟨_,zgi a8,y,rfl,.inr ⟨_,zgi a8,?_⟩⟩⟩;obtain⟨j,rfl⟩:=xdy b1;rw[zml,zuz];refine WP.of (zoh (small _ (by rw[xbk,xhb];lia))) ?_;simp only[W,V];refine k _ _ ?_ ?_ ?_ (D5.trans e2)
  ·rw[zjt,xbk,xhb];lia
  ·intro x hx;rcases xbt.mp hx with hx | hx
   ·exact zdr a4 a1 x (xej hx)
   ·exact zdr a4 a1 x (xdt hx)
  ·have:=congrArg List.sum (xcr j (r++[left]));rw[xds,xds] at this;rw[xds];simp at this;lia
theorem zll {N d m:Int}(hb:BagAt st n)(hN:1<=N)(hN2:N<=1000)(hd:0<=d)(hd2:d<=1000)(hm:0<=m)(hm2:m<=1000)(k:∀l st',(l.length:Int)<=m->Rows N.toNat l->l.Nodup->(∀r∈l,r.sum=d)->Drew st st' n->Q (aK l) st'):WP (zbu [.ref n,.int N,.int d,.int m] st) Q:=by
 refine zlf rfl ?_;simp only[W,V];refine zbi hb (by lia) (by lia) fun c st1 h1 h2 d1=>?_
 simp only[W,V,Dd.N];refine⟨rngN (by lia) (by lia),by rw[zbj];exact small _ (by lia),?_⟩;refine zoe (fun i acc σ s=>∃(l:List (List Int)) (v:Option D),acc=aJ l/\l.length=i/\(∀r∈l,r.length=N.toNat/\(∀x∈r,0<=x)/\r.sum=d)/\σ=[v,some (.ref n),some (.int N),some (.int d)]/\Drew st s n) ⟨[],none,rfl,rfl,by simp,rfl,d1⟩ ?_ ?_
 ·rintro i x acc σ s hx ⟨l,v,rfl,a1,a2,rfl,a3⟩;refine⟨_,rfl,?_⟩;simp only[W,V];exact zkf a3.bag hN hN2 hd hd2 fun r s2 b1 b2 b3 b4=>⟨l++[r],_,by simp[aJ],by simp[a1],zwo a2 ⟨b1,b2,b3⟩,rfl,a3.trans b4⟩
 ·rintro ys σ s ⟨l,v,rfl,a1,a2,rfl,a3⟩;rw[zbj] at a1;refine ziy (l:=l) rfl (by lia) fun g=>k _ _ ?_ (fun r hr=>⟨(a2 r (zcw hr)).1,(a2 r (zcw hr)).2.1⟩) (zfv l) (fun r hr=>(a2 r (zcw hr)).2.2) (a3.trans (.more a3.bag g))
  have:=zdf l;lia
theorem zbgb {neg:Bool}(a:Row)(b:List Row):oInG neg (aL a) (aK b) st=.ok (.bl (if neg then !decide (a∈b) else decide (a∈b))) st:=by
 unfold oInG;rw[zxk,zkr];dsimp only;rw[if_pos ⟨zny a,zdv b⟩];have e:((b.map dRow).any fun y=>PyData.eqv y (dRow a))=decide (a∈b):=by
  rw[List.any_map,xfs,xlq,xkz];constructor
  ·rintro⟨x,hx,h⟩;have h:PyData.eqv (dRow x) (dRow a)=true:=h;rw[zku] at h;have:=xep h;subst this;exact hx
  ·intro h;refine⟨a,h,?_⟩;show PyData.eqv (dRow a) (dRow a)=true;rw[zku];simp
 rw[e]
theorem zwp {A B:List Row}(nd:B.Nodup)(hl:A.length<=1000000)(q:Q (.bl (decide (meets A B % 2=1))) st):WP (zdk [aK A,aK B] st) Q:=by
 refine zlf rfl ?_;simp only[W,V,Dd.N];refine⟨by rw[zj];exact small _ hl,?_⟩;refine zjr (as:=A) (fun σ=>∃v,σ=[v,some (aK B)]) (fun a=>decide (a∈B)) aL aL ⟨_,rfl⟩ ?_ ?_
 ·rintro r hr σ ⟨v,rfl⟩;refine⟨_,rfl,⟨_,rfl⟩,?_,fun _=>?_⟩
  ·simp only[W,V];refine WP.of (zbgb r B) ?_;simp only[W,V,xhr]
  ·simp only[W,V,xhr]
 ·try simp only[W,V,Dd.N]
  rw[xbe,zfx nd];refine⟨by decide,?_⟩;have:decide ((meets A B:Int) % 2=1)=decide (meets A B % 2=1):=xgp.mpr ⟨fun h=>by lia,fun h=>by lia⟩;rw[this];exact q
end
theorem zfs:∀(M lo cnt:Nat),lo+cnt<=M->(List.range M).filter (fun j=>decide (lo<=j/\j < lo+cnt))=(List.range cnt).map fun t=>lo+t
 | 0,lo,cnt,h=>by
  rw[show cnt=0 by lia]
  rfl
 | M+1,lo,cnt,h=>by
  rw[xiw,xge];by_cases c:lo+cnt<=M
  ·rw[zfs M lo cnt c,xdg (by simp;lia)];simp
  ·cases cnt with
   | zero =>
    rw[xfv.mpr fun j _=>by simp,xfv.mpr fun j _=>by simp]
    rfl
   | succ k =>
    have e:(List.range M).filter (fun j=>decide (lo<=j/\j < lo+(k+1)))=(List.range M).filter fun j=>decide (lo<=j/\j < lo+k):=xhk fun j hj=>by
     have:=xcf.mp hj;exact xgp.mpr ⟨fun h=>by lia,fun h=>by lia⟩
    rw[e,zfs M lo k (by lia),xcq (by simp;lia),xiw,xet];simp;lia
noncomputable def loOf (rest left:Int):Int:=if left - rest > 0 then left - rest else 0
noncomputable def hiOf (e left:Int):Int:=(if left < e / 2 then left else e / 2)+1
theorem zbkd {rest left j:Int}(h:0<=j):loOf rest left<=j↔left - rest<=j:=by unfold loOf;split<;>lia
theorem zbfp {e left j:Int}:j < hiOf e left↔j<=left/\j<=e / 2:=by unfold hiOf;split<;>lia
noncomputable def lowT (e rest:Int) (p:Pt) (t:Nat):List Pt:=((List.range t).filter fun i:Nat=>K07.oddW (e - (loOf rest p.2+i)) (loOf rest p.2+i)).map fun i:Nat=>(p.1++[e - (loOf rest p.2+i)],p.2 - (loOf rest p.2+i))
theorem zph {e rest:Int}{p:Pt}(he:0<=e)(hp:0<=p.2):lowT e rest p (hiOf e p.2 - loOf rest p.2).toNat=lowLJ e rest p:=by
 have l0:0<=loOf rest p.2:=by unfold loOf;split<;>lia
 have e0:((e / 2).toNat:Int)=e / 2:=Int.toNat_of_nonneg (Int.ediv_nonneg he (by decide));obtain⟨lo,hlo⟩:=xdy l0;have hh:hiOf e p.2<=e / 2+1:=by unfold hiOf;split<;>lia
 have hle:∀a:Nat,p.2 - rest<=(a:Int)↔lo<=a:=fun a=>by rw[← zbkd (Int.natCast_nonneg a),hlo];exact xls
 unfold lowT lowLJ lowJ;rw[hlo];by_cases c:(lo:Int)<=hiOf e p.2
 ·have part:=zfs ((e / 2).toNat+1) lo (hiOf e p.2 - lo).toNat (by lia);rw[xiy,xkx,xcu];have e1:(List.range ((e / 2).toNat+1)).filter (fun a=>((fun j=>decide (p.2 - rest<=j/\j<=p.2)) ∘ fun j:Nat=>(j:Int)) a&&decide ((e.toNat - a) &&& a=a))=((List.range ((e / 2).toNat+1)).filter (fun j=>decide (lo<=j/\j < lo+(hiOf e p.2 - lo).toNat))).filter fun a=>decide ((e.toNat - a) &&& a=a):=by
   rw[xkx];refine xhk fun a ha=>?_
   have:=xcf.mp ha;rw[Bool.and_comm]
   congr 1
   show decide (p.2 - rest<=(a:Int)/\(a:Int)<=p.2)=_;refine xgp.mpr ?_;have hlt:a < lo+(hiOf e p.2 - lo).toNat↔(a:Int) < hiOf e p.2:=by lia
   have ha2:(a:Int)<=e / 2:=e0 ▸ xls.mpr (xce this)
   exact⟨fun h=>⟨(hle a).mp h.1,hlt.mpr (zbfp.mpr ⟨h.2,ha2⟩)⟩,fun h=>⟨(hle a).mpr h.1,(zbfp.mp (hlt.mp h.2)).1⟩⟩
  rw[e1,part,xiy,xcu];have e2:(List.range (hiOf e p.2 - lo).toNat).filter (fun i:Nat=>K07.oddW (e - ((lo:Int)+i)) ((lo:Int)+i))=(List.range (hiOf e p.2 - lo).toNat).filter ((fun a=>decide ((e.toNat - a) &&& a=a)) ∘ fun t=>lo+t):=xhk fun i hi=>by
   have:=xcf.mp hi;show _=decide ((e.toNat - (lo+i)) &&& (lo+i)=lo+i);rw[← K07.zoz]
   congr 1
   lia
  rw[e2];refine xiu fun i _=>?_
  simp only[Function.comp];rw[show((lo+i:Nat):Int)=(lo:Int)+i by lia]
 ·have hz:(((List.range ((e / 2).toNat+1)).filter fun j:Nat=>decide ((e.toNat - j) &&& j=j)).map fun j:Nat=>(j:Int)).filter (fun j=>decide (p.2 - rest<=j/\j<=p.2))=[]:=xfv.mpr fun j hj=>by
   obtain⟨a,ha,rfl⟩:=xcp.mp hj;have:=xcf.mp (xdn.mp ha).1;rw[xea];exact fun h=>c (Int.le_of_lt (xkw (xls.mpr ((hle a).mp h.1)) (zbfp.mpr ⟨h.2,e0 ▸ xls.mpr (xce this)⟩)))
  rw[hz,show(hiOf e p.2 - lo).toNat=0 by lia]
  rfl
theorem zhr (e rest:Int)(p:Pt)(t:Nat):lowT e rest p (t+1)=lowT e rest p t++if K07.oddW (e - (loOf rest p.2+t)) (loOf rest p.2+t)=true then[(p.1++[e - (loOf rest p.2+t)],p.2 - (loOf rest p.2+t))] else[]:=by
 unfold lowT;rw[xiw,xge,xet]
 congr 1
 split
 ·rename_i h;simp[h]
 ·rename_i h;simp[h]
theorem zpg (e rest:Int)(p:Pt)(t:Nat):(lowT e rest p t).length<=t:=by
 unfold lowT;rw[xbe];exact xbb (xfc _ _) (by simp)
theorem zso {e rest:Int}{p:Pt}:(lowLJ e rest p).length<=e.toNat+1:=by
 unfold lowLJ lowJ;rw[xbe];refine xbb (xfc _ _) ?_;rw[xbe];refine xbb (xfc _ _) ?_;rw[xfn];lia
theorem zfj (e rest:Int):∀ps:List Pt,(lowLL e rest ps).length<=ps.length * (e.toNat+1)
 | []=>by simp[lowLL]
 | p::ps=>by
  have e1:lowLL e rest (p::ps)=lowLJ e rest p++lowLL e rest ps:=by simp[lowLL]
  have:=zfj e rest ps;have:=@zso e rest p;rw[e1,xbk,xby,xje];lia
theorem zjb (e rest:Int)(ps:List Pt)(p:Pt):lowLL e rest (ps++[p])=lowLL e rest ps++lowLJ e rest p:=by simp[lowLL]
section
variable {st:Store}{n:Nat}{Q:D->Store->Prop}
end
theorem zht {r:Row}{k:Int}{P:Row->Int×List Pt->Prop}(h0:P [] (halves r,[([],k)]))(h:∀m e s,P m s->P (m++[e]) (lowStep s e)):∀(i:Nat),P (r.take i) ((r.take i).foldl lowStep (halves r,[([],k)])):=fun i=>by
 induction i with
 | zero=>exact h0
 | succ i ih =>
  by_cases c:i < r.length
  ·have g:r[i]?=some r[i]:=xbg c;rw[zk g,xih];exact h _ _ _ ih
  ·rw[xdm (by lia)] at ih ⊢;exact ih
theorem zhs (r:Row)(k:Int)(i:Nat):((r.take i).foldl lowStep (halves r,[([],k)])).2.length<=box (r.take i):=by
 refine zht (P:=fun m s=>s.2.length<=box m) (by simp[box]) (fun m e s hs=>?_) i;have:=zfj e (s.1 - e / 2) s.2;rw[zcg];show(lowLL e (s.1 - e / 2) s.2).length<=box m * ((e.toNat+1) * 1)
 rw[Nat.mul_one];exact xbb this (xgf _ hs)
theorem zsn (r:Row){k:Int}(hk:0<=k)(i:Nat):∀p∈((r.take i).foldl lowStep (halves r,[([],k)])).2,p.1.length=(r.take i).length/\0<=p.2/\p.2<=k:=by
 refine zht (P:=fun m s=>∀p∈s.2,p.1.length=m.length/\0<=p.2/\p.2<=k) (by simp;lia) (fun m e s hs=>?_) i;intro q hq;unfold lowStep lowLL lowLJ at hq;obtain⟨p,hp,hq⟩:=xgo.mp hq;obtain⟨j,hj,rfl⟩:=xcp.mp hq;obtain⟨hj1,hj2⟩:=xdn.mp hj;simp only[xea] at hj2;have:0<=j:=by
  unfold lowJ at hj1;obtain⟨a,_,rfl⟩:=xcp.mp hj1;lia
 obtain⟨a,b,c⟩:=hs p hp;refine⟨?_,by show 0<=p.2 - j;lia,by show p.2 - j<=k;lia⟩;rw[xbk,xbk,a]
 rfl
theorem zpi (r:Row)(k:Int)(i:Nat):((r.take i).foldl lowStep (halves r,[([],k)])).1+halves (r.take i)=halves r:=by
 refine zht (P:=fun m s=>s.1+halves m=halves r) (by simp[halves]) (fun m e s hs=>?_) i;rw[zcz];show s.1 - e / 2+(halves m+halves [e])=halves r;have:halves [e]=e / 2:=by simp[halves]
 lia
theorem zsz {r:Row}(h:∀x∈r,0<=x):halves r<=r.sum:=by
 induction r with
 | nil=>simp[halves]
 | cons a r ih =>
  have:=ih fun x hx=>h x (xbp _ hx)
  have h1:=h a xbw;have:halves (a::r)=a / 2+halves r:=by simp[halves]
  rw[xhi];lia
section
variable {st:Store}{n:Nat}{Q:D->Store->Prop}
theorem zkl (r:Row)(k:Int):(lowR k r).length<=box r:=by
 have:=zhs r k r.length;rw[xcn] at this;unfold lowR;rw[xbe];exact this
theorem zhu {k:Int}{B:Nat}:∀{l:List Row},(∀r∈l,box r<=B)->(lowL k l).length<=l.length * B
 | [],_=>by simp[lowL]
 | r::l,h=>by
  have e:lowL k (r::l)=lowR k r++lowL k l:=by simp[lowL]
  have h1:=xbb (zkl r k) (h r xbw);have h2:=zhu (k:=k) (l:=l) fun x hx=>h x (xbp _ hx)
  rw[e,xbk,xby,xje];lia
theorem zlx (k:Int)(l:List Row)(r:Row):lowL k (l++[r])=lowL k l++lowR k r:=by simp[lowL]
end
theorem zys {g:SA}{σ:DS}{st:Store}{Q:List D->Store->Prop}(h:WP (g σ st) (fun xs st1=>∃i j,xs=[.int i,.int j]/\(j<=i\/RngOk i/\RngOk j)/\Q (rng i (j - i).toNat) st1)):WP (iR2X g σ st) Q:=by
 obtain⟨x,st1,e,i,j,rfl,b,q⟩:=h.get;unfold iR2X;rw[e];show WP (if j<=i then _ else _) Q;by_cases c:j<=i
 ·rw[if_pos c];rw[show(j - i).toNat=0 by lia] at q;exact WP.of rfl q
 ·rw[if_neg c];rcases b with b | ⟨⟨b1,b2⟩,b3,b4⟩
  ·exact absurd b c
  ·rw[if_pos ⟨b1,b2,b3,b4⟩];exact WP.of rfl q
section
variable {st:Store}{n:Nat}{Q:D->Store->Prop}
theorem zep {e rest:Int}{ps:List Pt}(h0:0<=e)(he:e<=1000)(hl:ps.length * (e.toNat+1)<=100000)(hr:∀p∈ps,p.1.length<=1000/\0<=p.2)(hrr:0<=rest)(k:∀g,Q (.lst ((lowLL e rest ps).map ptD)) (st++g)):WP (zba [.lst (ps.map ptD),.int e,.int rest] st) Q:=by
 refine zlf rfl ?_;simp only[W,V,Dd.N];refine⟨small _ (by simp),?_⟩;refine zdn (fun i σ s=>(∃v w z,σ=[some (.lst (ps.map ptD)),some (.int e),some (.int rest),some (.ref st.length),v,w,z])/\∃g,s=st++(.lst ((lowLL e rest (ps.take i)).map ptD)::g)) ⟨⟨_,_,_,rfl⟩,[],rfl⟩ ?_ ?_
 ·rintro i y σ s hy ⟨⟨v,w,z,rfl⟩,g,rfl⟩;obtain⟨p,hp,rfl⟩:=zlw hy;have hi:i < ps.length:=(xbm.mp hp).1;obtain⟨h3,h4⟩:=hr p (xbx hp);refine⟨_,rfl,?_⟩;unfold zbp;have hlen:(lowLL e rest (ps.take i)).length+(e.toNat+1)<=100000:=by
   have h1:=zfj e rest (ps.take i);have h2:(ps.take i).length=i:=by rw[xcm];lia
   rw[h2] at h1;have h3:(i+1) * (e.toNat+1)<=ps.length * (e.toNat+1):=xgf _ hi;rw[xje] at h3;lia
  have b1:0<=loOf rest p.2:=by unfold loOf;split<;>lia
  have b2:0 < hiOf e p.2/\hiOf e p.2<=e / 2+1:=by unfold hiOf;split<;>lia
  simp only[W,V,Dd.N];refine zys ?_;simp only[W,V,Dd.N];refine⟨zpz (by lia) (by lia),?_,?_⟩
  ·show hiOf e p.2<=loOf rest p.2\/RngOk (loOf rest p.2)/\RngOk (hiOf e p.2);by_cases c:loOf rest p.2<=10000
   ·exact .inr ⟨rngN (show -10000<=loOf rest p.2 by lia) c,rngN (show -10000<=hiOf e p.2 by lia) (show hiOf e p.2<=10000 by lia)⟩
   ·exact .inl (by lia)
  show WP (forF (gN 6) zbc (rng (loOf rest p.2) (hiOf e p.2 - loOf rest p.2).toNat) _ _) _;refine zdn (fun t σ s=>(∃z,σ=[some (.lst (ps.map ptD)),some (.int e),some (.int rest),some (.ref st.length),some (aL p.1),some (.int p.2),z])/\∃g,s=st++(.lst ((lowLL e rest (ps.take i)++lowT e rest p t).map ptD)::g)) ⟨⟨_,rfl⟩,g,by simp[lowT]⟩ ?_ ?_
  ·rintro t y σ s hy ⟨⟨z,rfl⟩,g,rfl⟩;obtain⟨ht,rfl⟩:=zeu hy;refine⟨_,rfl,?_⟩;unfold zbc;simp only[W,V];refine⟨trivial,?_⟩;refine WP.of znk ⟨_,rfl,?_⟩;rw[zhr];have hT:=zpg e rest p t;by_cases c:K07.oddW (e - (loOf rest p.2+t)) (loOf rest p.2+t)=true
   ·rw[if_pos c,if_pos c];simp only[W,V,M,Dd.N,L];refine⟨_,_,rfl,zdl _ _,small _ (by simp),by rw[xbe];exact small _ (by simp;lia),small _ (by simp),_,_,rfl,zdl _ _,by rw[xbe,xbk];exact smallT _ (by lia),⟨_,rfl⟩,g,?_⟩;rw[zgo];simp[ptD,aL]
   ·rw[if_neg c,if_neg c];simp only[W,V,L];exact⟨⟨_,rfl⟩,g,by simp⟩
  ·rintro σ s ⟨⟨z,rfl⟩,g,rfl⟩;simp only[L];refine⟨⟨_,_,_,rfl⟩,g,?_⟩;rw[zbj,zph h0 h4,zk hp,zjb]
 ·rintro σ s ⟨⟨v,w,z,rfl⟩,g,rfl⟩;rw[xbe,xcn];simp only[W,V,M,Dd.N];refine⟨_,_,rfl,zdl _ _,?_⟩;rw[zgo];exact k _
theorem zdy {r:Row}{t:Int}(hp:∀x∈r,0<=x/\x<=1000)(hl:r.length<=1000)(hb:box r<=20000)(ht:0<=t)(k:∀g,Q (.lst (aJ (lowR t r))) (st++g)):WP (zy [aL r,.int t] st) Q:=by
 refine zlf rfl ?_;have pos:∀x∈r,0<=x:=fun x hx=>(hp x hx).1
 refine zcs (R:=fun fl s=>fl=.nx [some (aL r),some (.int t),some (.lst ([(([]:Row),t)].map ptD)),none,none]/\s=st) ?_ ?_
 ·simp only[W,V,Dd.N];exact⟨small _ (by simp),small _ (by simp),small _ (by simp),rfl,trivial⟩
 rintro fl s ⟨rfl,rfl⟩;show WP _ _;refine zcs (R:=fun fl s'=>fl=.nx [some (aL r),some (.int t),some (.lst ([(([]:Row),t)].map ptD)),some (.int (halves r)),none]/\s'=s) ?_ ?_
 ·rw[show ∀{i:Nat} {f:SE} {σ:DS} {st:Store} {Q:Fl->Store->Prop},WP (aF i f σ st) Q=WP (f σ st) (fun v st1=>Q (.nx (σ.set i (some v))) st1) from W.2.2.2.2.2.2.2.2.2.2.2.2.2.2.2.2.2.2.2.2.2.2.2.2.2.2.2.2.2.2.2.2.2.2.1];simp only[W,V,Dd.N];refine⟨by rw[xbe];exact small _ (by lia),?_⟩;refine zjr (as:=r) (fun σ=>∃v,σ=[v]) (fun _=>true) (fun x=>.int (x / 2)) .int ⟨_,rfl⟩ ?_ ?_
  ·rintro x hx σ ⟨v,rfl⟩;exact⟨_,rfl,⟨_,rfl⟩,by simp only[W,xhr],fun _=>by simp only[W,V,and_true];exact zpz (by lia) (by lia)⟩
  ·rw[zfn];simp only[M];refine⟨r.map (· / 2),?_,rfl,trivial⟩;have:=zch (r.map (· / 2));rw[xcu] at this;exact this
 rintro fl s' ⟨rfl,rfl⟩;show WP _ _;simp only[W,V,Dd.N];refine zdn (fun i σ s2=>(∃v,σ=[some (aL r),some (.int t),some (.lst (((r.take i).foldl lowStep (halves r,[([],t)])).2.map ptD)),some (.int ((r.take i).foldl lowStep (halves r,[([],t)])).1),v])/\∃g,s2=s'++g) ⟨⟨_,rfl⟩,[],by simp⟩ ?_ ?_
 ·rintro i y σ s2 hy ⟨⟨v,rfl⟩,g,rfl⟩;obtain⟨e,he,rfl⟩:=zlw hy;refine⟨_,rfl,?_⟩;unfold zbm;obtain⟨h1,h2⟩:=hp e (xbx he);have hlen:=zhs r t i;have hbx:=zql r (i+1);rw[zk he,zcg,show box [e]=e.toNat+1 by simp[box]] at hbx;have hm:((r.take i).foldl lowStep (halves r,[([],t)])).2.length * (e.toNat+1)<=20000:=xbb (xgf _ hlen) (xbb hbx hb);have hrow:=zsn r ht i;have hrest:=zpi r t (i+1);have hn1:=zfk (r:=r.drop (i+1)) fun x hx=>pos x (xej hx)
  have hn3:halves (r.take (i+1))+halves (r.drop (i+1))=halves r:=by rw[← zcz,xcr]
  have hn4:=zfk (r:=r.take (i+1)) fun x hx=>pos x (xdt hx)
  have hn2:=zsz pos;have est:(r.take (i+1)).foldl lowStep (halves r,[([],t)])=lowStep ((r.take i).foldl lowStep (halves r,[([],t)])) e:=by rw[zk he,xih];rfl
  rw[est] at hrest ⊢;generalize (r.take i).foldl lowStep (halves r,[([],t)])=s0 at hm hrow hrest ⊢;have hr1:(lowStep s0 e).1=s0.1 - e / 2:=rfl;simp only[W,V,M,Dd.N,L];refine⟨_,rfl,zpz (by lia) (by lia),?_⟩;refine zep h1 h2 (by lia) (fun p hp=>?_) (by lia) fun g2=>?_
  ·obtain⟨q1,q2,_⟩:=hrow p hp;rw[q1,xcm];exact⟨by lia,q2⟩
  ·simp only[W,V,L];exact⟨⟨_,rfl⟩,g++g2,by simp⟩
 ·rintro σ s2 ⟨⟨v,rfl⟩,g,rfl⟩;rw[xbe,xcn];simp only[W,V,M,Dd.N];have hlen:=zhs r t r.length;rw[xcn] at hlen;refine⟨by rw[xbe];exact small _ (by lia),?_⟩;refine zjr (as:=(r.foldl lowStep (halves r,[([],t)])).2) (fun σ=>∃v w,σ=[v,w]) (fun _=>true) (fun p=>aL p.1) ptD ⟨_,_,rfl⟩ ?_ ?_
  ·rintro p hp σ ⟨v,w,rfl⟩;exact⟨_,rfl,⟨_,_,rfl⟩,by simp only[W,xhr],fun _=>by simp only[W,V,xhr]⟩
  ·rw[zfn];have:=k g;unfold lowR aJ at this;rw[xcu] at this;exact this
theorem znp {l:List Row}{t:Int}(ht:0<=t)(hp:∀r∈l,∀x∈r,0<=x/\x<=1000)(hr:∀r∈l,r.length<=1000)(hb:∀r∈l,box r<=20000)(hl:l.length<=45)(k:∀g,Q (aK (aO (lowL t l))) (st++g)):WP (zda [aK l,.int t] st) Q:=by
 refine zlf rfl ?_;simp only[W,V,Dd.N];refine WP.of (zgw (st:=st) (i:=t)) ⟨true,rfl,?_⟩;have tn:¬ t < 0:=by lia
 simp only[W,V,Dd.N,tn,xgy];have total:∀i,(lowL t (l.take i)).length<=900000:=fun i=>by
  have:=zhu (k:=t) (l:=l.take i) fun x hx=>hb x (xdt hx)
  have h3:(l.take i).length<=l.length:=by rw[xcm];exact xfy _ _
  lia
 refine zdn (fun i σ s=>(∃v w,σ=[some (aK l),some (.int t),some (.ref st.length),v,w])/\∃g,s=st++(.dT (aQ (aN (lowL t (l.take i))))::g)) ⟨⟨_,_,rfl⟩,[],rfl⟩ ?_ ?_
 ·rintro i y σ s hy ⟨⟨v,w,rfl⟩,g,rfl⟩;obtain⟨r,hrr,rfl⟩:=zde hy;have hm:=xbx hrr;refine⟨_,rfl,?_⟩;unfold zei;simp only[W,V,M,Dd.N,L];rw[zk hrr,zlx];have h0:=total i;have h1:=zdg (lowL t (l.take i));refine zdy (hp r hm) (hr r hm) (hb r hm) ht fun g2=>?_
  simp only[W,V,Dd.N];rw[xci,List.cons_append];generalize g++g2=g3;have hpl:=xbb (zkl r t) (hb r hm);refine zdn (fun j σ s=>(∃w,σ=[some (aK l),some (.int t),some (.ref st.length),some (aL r),w])/\s=st++(.dT (aQ (((lowR t r).take j).foldl aP (aN (lowL t (l.take i)))))::g3)) ⟨⟨_,rfl⟩,rfl⟩ ?_ ?_
  ·rintro j y σ s hy ⟨⟨w,rfl⟩,rfl⟩;obtain⟨b,hb',rfl⟩:=zde hy;refine⟨_,rfl,?_⟩;unfold zhc;simp only[W,V,L];have h1:=zhz ((lowR t r).take j) (aN (lowL t (l.take i))) (zdz _);have h2:((lowR t r).take j).length<=(lowR t r).length:=by rw[xcm];exact xfy _ _
   refine zbbq (ks:=((lowR t r).take j).foldl aP (aN (lowL t (l.take i)))) (zdl _ _) (by lia) ⟨⟨_,rfl⟩,?_⟩;rw[zgo,zk hb',xih]
   rfl
  ·rintro σ s ⟨⟨w,rfl⟩,rfl⟩;simp only[L];refine⟨⟨_,_,rfl⟩,g3,?_⟩;rw[zj,xcn];unfold aN;rw[xih]
 ·rintro σ s ⟨⟨v,w,rfl⟩,g,rfl⟩;have h0:=total l.length;rw[xcn] at h0;rw[zj,xcn];simp only[W,V];have h1:=zdg (lowL t l);refine zrq (ks:=aN (lowL t l)) (zdl _ _) (by lia) ?_;simp only[W,V];exact k _
end
section
variable {st:Store}{n:Nat}{Q:D->Store->Prop}
end
end Dd
namespace K11
end K11
namespace Dd
open PySem L2 K13
section
variable {st:Store}{n:Nat}{Q:D->Store->Prop}
end
end Dd
namespace K54
end K54
namespace Dd
open PySem L2 K13
theorem zsg {e j:Int}(h:e / 2 < j)(hj:j<=e)(h0:0<=j):K07.oddW (e - j) j=false:=by
 obtain⟨a,ha⟩:=xdy (show 0<=e - j by lia);obtain⟨b,rfl⟩:=xdy h0;rw[ha,K07.zoz];refine xcg fun z=>?_
 have:=Nat.and_le_left (n:=a) (m:=b);lia
theorem zsm {e rest:Int}{p:Pt}(he:0<=e)(hp:0<=p.2)(hr:p.2<=rest):lowT e rest p ((if p.2 < e then p.2 else e)+1).toNat=lowLJ e rest p:=by
 have lo:loOf rest p.2=0:=by unfold loOf;rw[if_neg (by lia)]
 have more:∀d:Nat,(hiOf e p.2).toNat+d<=((if p.2 < e then p.2 else e)+1).toNat->lowT e rest p ((hiOf e p.2).toNat+d)=lowT e rest p (hiOf e p.2).toNat:=fun d=>by
  induction d with
  | zero=>intro _;rfl
  | succ d ih =>
   intro hd;rw[← Nat.add_assoc,zhr,ih (by lia),lo];have hh:0 < hiOf e p.2:=by unfold hiOf;split<;>lia
   rw[zsg (e:=e) (j:=0+(((hiOf e p.2).toNat+d:Nat):Int)) ?_ ?_ (by lia)]
   ·simp
   ·unfold hiOf at hd ⊢;split at hd<;>split at hd<;>split<;>lia
   ·split at hd<;>lia
 have all:=zph (rest:=rest) he hp;rw[lo,Int.sub_zero] at all;have hle:(hiOf e p.2).toNat<=((if p.2 < e then p.2 else e)+1).toNat:=by
  unfold hiOf;split<;>split<;>lia
 have:=more (((if p.2 < e then p.2 else e)+1).toNat - (hiOf e p.2).toNat) (by lia);rw[show(hiOf e p.2).toNat+(((if p.2 < e then p.2 else e)+1).toNat - (hiOf e p.2).toNat)=((if p.2 < e then p.2 else e)+1).toNat by lia] at this;rw[this,all]
theorem zpl {e x:Int}(he:0<=e)(h:x∈lowO e):0<=x/\x<=e:=by
 unfold lowO at h;obtain⟨j,hj,rfl⟩:=xcp.mp h;obtain⟨h1,h2,_⟩:=(zfw he).mp hj;lia
theorem zpk (r:Row)(h:∀x∈r,0<=x)(i:Nat):(∀m∈lowS (r.take i),m.sum<=(r.take i).sum/\0<=m.sum)/\(lowS (r.take i)).length<=box (r.take i):=by
 induction i with
 | zero=>exact⟨fun m hm=>by rw[xck.mp (show m∈[[]] from hm)];simp,by simp[lowS,box]⟩
 | succ i ih =>
  by_cases c:i < r.length
  ·have g:r[i]?=some r[i]:=xbg c;have he:=h r[i] (xdw _);rw[zk g,zdh];refine⟨fun m hm=>?_,?_⟩
   ·unfold longL at hm;obtain⟨v,hv,hm⟩:=xgo.mp hm;obtain⟨x,hx,rfl⟩:=xcp.mp hm;have:=ih.1 v hv;have:=zpl he hx;rw[xds,xds];simp;lia
   ·rw[zly,zcg];refine xmb ih.2 ?_;unfold lowO lowJ;rw[xbe,xbe];refine xbb (xfc _ _) ?_;rw[xfn];simp[box];lia
  ·rw[xdm (by lia)] at ih ⊢;exact ih
noncomputable def fitS (k:Int) (r:Row) (i:Nat):List Pt:=lowFit k (r.take i).sum (k+halves (r.drop i)) (lowS (r.take i))
theorem zta {k:Int}{r:Row}(hk:0<=k)(h:∀x∈r,0<=x):fitS k r 0=[([],k)]:=by
 have:=zfk h;show lowFit k 0 (k+halves r) [[]]=_;unfold lowFit;rw[xcq (by simp;lia)];simp
theorem ztb {k e:Int}{r:Row}{i:Nat}(g:r[i]?=some e)(he:0<=e):fitS k r (i+1)=lowLL e (k+halves (r.drop (i+1))) (fitS k r i):=by
 unfold fitS;have hd:r.drop i=e::r.drop (i+1):=by
  obtain⟨h1,h2⟩:=xbm.mp g;rw[xfb h1,h2]
 rw[zk g,zdh,xds,show(r.take i).sum+[e].sum=(r.take i).sum+e by simp,zkk he,hd];have:halves (e::r.drop (i+1))=e / 2+halves (r.drop (i+1)):=by simp[halves]
 rw[this,show e / 2+(k+halves (r.drop (i+1)))=k+(e / 2+halves (r.drop (i+1))) by lia]
theorem zji {k:Int}{r:Row}(h:∀x∈r,0<=x)(i:Nat):(∀p∈fitS k r i,p.1.length=(r.take i).length/\0<=p.2/\p.2<=k)/\(fitS k r i).length<=box (r.take i):=by
 have f:=zpk r h i;refine⟨fun p hp=>?_,?_⟩
 ·unfold fitS lowFit at hp;obtain⟨u,hu,rfl⟩:=xcp.mp hp;obtain⟨h1,h2⟩:=xdn.mp hu;simp only[xea] at h2;have:=(f.1 u h1).1;exact⟨zpj r i u h1,h2.1,by show k - ((r.take i).sum - u.sum)<=k;lia⟩
 ·unfold fitS lowFit;rw[xbe];exact xbb (xfc _ _) f.2
theorem zxb {k:Int}{r:Row}(ne:r≠[])(h:∀x∈r,0<=x)(hk:0<=k):((fitS k r r.length).filter fun p=>decide (p.2=0)).map (·.1)=lowR k r:=by
 rw[zkm ne h hk];unfold fitS lowFit;rw[xcn,List.drop_length,xiy,xcu,xkx];have e1:((·.1) ∘ fun u:Row=>(u,k - (r.sum - u.sum)))=id:=rfl;rw[e1,List.map_id];refine xhk fun u hu=>?_
 have z:halves ([]:Row)=0:=rfl;rw[z];show(decide (k - (r.sum - u.sum)=0)&&decide (0<=k - (r.sum - u.sum)/\k - (r.sum - u.sum)<=k+0))=_;rw[← Bool.decide_and];exact xgp.mpr ⟨fun h=>by lia,fun h=>by lia⟩
section
variable {st:Store}{n:Nat}{Q:D->Store->Prop}
theorem znr {a0 a1 a2 a3 v6 v7 v8 v9:Option D}{e rest:Int}{ps:List Pt}{I:DS->Store->Prop}{Q:Fl->Store->Prop}(h0:0<=e)(he:e<=1000)(hl:ps.length * (e.toNat+1)<=100000)(hr:∀p∈ps,p.1.length<=1000/\0<=p.2/\p.2<=rest)
  (k:∀w6 w7 w8 w9 g,I [a0,a1,a2,a3,some (.lst ((lowLL e rest ps).map ptD)),some (.int e),w6,w7,w8,w9] (st++g)) :
  WP (zbw [a0,a1,a2,a3,some (.lst (ps.map ptD)),some (.int e),v6,v7,v8,v9] st) (loopK I Q):=by
 unfold zbw;simp only[W,V,Dd.N];refine⟨small _ (by simp),?_⟩;refine zdn (fun i σ s=>(∃v w z,σ=[a0,a1,a2,a3,some (.lst (ps.map ptD)),some (.int e),some (.ref st.length),v,w,z])/\s=st++[.lst ((lowLL e rest (ps.take i)).map ptD)]) ⟨⟨_,_,_,rfl⟩,rfl⟩ ?_ ?_
 ·rintro i y σ s hy ⟨⟨v,w,z,rfl⟩,rfl⟩;obtain⟨p,hp,rfl⟩:=zlw hy;have hi:i < ps.length:=(xbm.mp hp).1;obtain⟨h3,h4,h5⟩:=hr p (xbx hp);refine⟨_,rfl,?_⟩;have hlen:(lowLL e rest (ps.take i)).length+(e.toNat+1)<=100000:=by
   have h1:=zfj e rest (ps.take i);have h2:(ps.take i).length=i:=by rw[xcm];lia
   rw[h2] at h1;have h3:(i+1) * (e.toNat+1)<=ps.length * (e.toNat+1):=xgf _ hi;rw[xje] at h3;lia
  have lo:loOf rest p.2=0:=by unfold loOf;rw[if_neg (by lia)]
  unfold zdc;simp only[W,V,Dd.N];refine⟨rngN (by split<;>lia) (by split<;>lia),?_⟩;refine zdn (fun t σ s=>(∃z,σ=[a0,a1,a2,a3,some (.lst (ps.map ptD)),some (.int e),some (.ref st.length),some (aL p.1),some (.int p.2),z])/\s=st++[.lst ((lowLL e rest (ps.take i)++lowT e rest p t).map ptD)]) ⟨⟨_,rfl⟩,by simp[lowT]⟩ ?_ ?_
  ·rintro t y σ s hy ⟨⟨z,rfl⟩,rfl⟩;obtain⟨ht,rfl⟩:=zeu hy;refine⟨_,rfl,?_⟩;unfold zdd;simp only[W,V];refine⟨trivial,trivial,?_⟩;rw[zhr,lo];have hT:=zpg e rest p t;have cc:K07.oddW (e - (0+(t:Int))) (0+(t:Int))=true↔(Builtin.bitAnd (e - (0+(t:Int))) (0+(t:Int))=0+(t:Int)):=by
    unfold K07.oddW;simp only[xea,V.int.injEq]
   have ht2:t < e.toNat+1:=by
    split at ht<;>lia
   by_cases c:Builtin.bitAnd (e - (0+(t:Int))) (0+(t:Int))=0+(t:Int)
   ·rw[if_pos c,if_pos (cc.mpr c)];simp only[W,V,M,Dd.N,L];refine⟨_,_,rfl,zdl _ _,small _ (by simp),by rw[xbe];exact small _ (by simp;lia),small _ (by simp),_,_,rfl,zdl _ _,by rw[xbe,xbk];exact smallT _ (by lia),⟨_,rfl⟩,?_⟩;rw[zgo];simp[ptD,aL]
   ·rw[if_neg c,if_neg fun z=>c (cc.mp z)];simp only[W,V,L];exact⟨⟨_,rfl⟩,by simp⟩
  ·rintro σ s ⟨⟨z,rfl⟩,rfl⟩;simp only[L];refine⟨⟨_,_,_,rfl⟩,?_⟩;rw[zbj,zsm h0 h4 h5,zk hp,zjb]
 ·rintro σ s ⟨⟨v,w,z,rfl⟩,rfl⟩;rw[xbe,xcn];simp only[W,V,M,Dd.N,L];refine⟨_,_,rfl,by simp;rfl,?_⟩;have:=k (some (.ref st.length)) v w z [.dead]
  simpa using this
theorem zhv {l:List Row}{t:Int}{B:Nat}(ht:0<=t)(ne:∀r∈l,r≠[])(hp:∀r∈l,∀x∈r,0<=x/\x<=1000)(hr:∀r∈l,r.length<=1000)(hb:∀r∈l,box r<=B)(hB:B<=20000)(hl:l.length * B<=900000)(k:∀g,Q (aK (aO (lowL t l))) (st++g)):WP (zbo [aK l,.int t] st) Q:=by
 refine zlf rfl ?_;simp only[W,V,Dd.N];refine⟨small _ (by simp),?_⟩;have lens:∀i,(lowL t (l.take i)).length<=900000:=fun i=>by
  have h2:=zhu (k:=t) (l:=l.take i) (B:=B) fun x hx=>hb x (xdt hx)
  have h3:(l.take i).length * B<=l.length * B:=xgf _ (by rw[xcm];exact xfy _ _);lia
 refine zdn (fun i σ s=>(∃v w x y z a b,σ=[some (aK l),some (.int t),some (.ref st.length),v,w,x,y,z,a,b])/\∃g,s=st++(.lst (aJ (lowL t (l.take i)))::g)) ⟨⟨_,_,_,_,_,_,_,rfl⟩,[],rfl⟩ ?_ ?_
 ·rintro i y σ s hy ⟨⟨v,w,x,y',z,a,b,rfl⟩,g,rfl⟩;obtain⟨r,hrr,rfl⟩:=zde hy;have hm:=xbx hrr;have pos:∀x∈r,0<=x:=fun x hx=>(hp r hm x hx).1
  refine⟨_,rfl,?_⟩;unfold zdb;simp only[W,V,Dd.N];refine⟨small _ (by simp),small _ (by simp),small _ (by simp),?_⟩;refine zdn (fun j σ s=>(∃x y z a b,σ=[some (aK l),some (.int t),some (.ref st.length),some (aL r),some (.lst ((fitS t r j).map ptD)),x,y,z,a,b])/\∃g,s=st++(.lst (aJ (lowL t (l.take i)))::g)) ⟨⟨_,_,_,_,_,by rw[zta ht pos];rfl⟩,g,rfl⟩ ?_ ?_
  ·rintro j y σ s hy ⟨⟨x,y',z,a,b,rfl⟩,g,rfl⟩;obtain⟨e,he,rfl⟩:=zlw hy;refine⟨_,rfl,?_⟩;obtain⟨h1,h2⟩:=hp r hm e (xbx he);obtain⟨hrow,hlen⟩:=zji (k:=t) pos j;have hbx:=zql r (j+1);rw[zk he,zcg,show box [e]=e.toNat+1 by simp[box]] at hbx;have hmm:(fitS t r j).length * (e.toNat+1)<=20000:=xbb (xgf _ hlen) (xbb hbx (xbb (hb r hm) hB));have hrl:=hr r hm;have hh:=zfk (r:=r.drop (j+1)) fun x hx=>pos x (xej hx)
   rw[ztb he h1];generalize fitS t r j=ps at hmm hrow ⊢;simp only[V];refine znr (rest:=t+halves (r.drop (j+1))) h1 h2 (by lia) (fun p hp=>?_) fun w6 w7 w8 w9 g2=>?_
   ·obtain⟨q1,q2,q3⟩:=hrow p hp;rw[q1,xcm];exact⟨by lia,q2,by lia⟩
   ·refine⟨⟨_,_,_,_,_,rfl⟩,g++g2,by simp⟩
  ·rintro σ s ⟨⟨x,y',z,a,b,rfl⟩,g,rfl⟩;rw[xbe];simp only[W,V,Dd.N,L,zrc];have hlen:=(zji (k:=t) pos r.length).2;rw[xcn] at hlen;have hbr:=hb r hm;refine⟨_,_,rfl,zdl _ _,by rw[xbe];exact small _ (by lia),?_⟩;refine zjr (as:=fitS t r r.length) (fun σ=>∃v w,σ=[v,w]) (fun p=>decide (p.2=0)) (fun p=>aL p.1) ptD ⟨_,_,rfl⟩ ?_ ?_
   ·rintro p hp σ ⟨v,w,rfl⟩;exact⟨_,rfl,⟨_,_,rfl⟩,by simp only[W,V,xhr],fun _=>by simp only[W,V,xhr]⟩
   ·have e1:((fitS t r r.length).filter fun p=>decide (p.2=0)).map (fun p=>aL p.1)=aJ (lowR t r):=by
     rw[← zxb (ne r hm) pos ht];unfold aJ;rw[xcu]
     rfl
    rw[e1];have h1:=lens i;have h2:=xbb (zkl r t) (hb r hm);refine⟨_,_,_,rfl,zdl _ _,rfl,by rw[zj,zj];exact small _ (by lia),⟨_,_,_,_,_,_,_,rfl⟩,g,?_⟩;rw[zgo,zk hrr,zlx];simp[aJ]
 ·rintro σ s ⟨⟨v,w,x,y',z,a,b,rfl⟩,g,rfl⟩;rw[zj,xcn];have h1:=lens l.length;rw[xcn] at h1;simp only[W,V,M,Dd.N];refine⟨_,_,rfl,zdl _ _,?_⟩;refine ziy (l:=lowL t l) rfl (by lia) fun g2=>?_
  rw[zgo,xci];exact k _
end
section
variable {st:Store}{n:Nat}{Q:D->Store->Prop}
theorem zzc:∀{r:List Int},(∀x∈r,0<=x)->0<=r.sum
 | [],_=>by simp
 | a::r,h=>by
  have h1:=h a (by simp);have h2:=zzc fun x hx=>h x (xbp _ hx)
  rw[xhi];lia
theorem zvn (l:List Int)(j:Nat):(l.drop j++l.take j).sum=l.sum:=by
 have:(l.take j++l.drop j).sum=l.sum:=by rw[xcr]
 rw[xds] at this ⊢;lia
theorem znb {N d:Int}(hb:BagAt st n)(hN:1<=N)(hN2:N<=1000)(hd:0<=d)(hd2:d<=1000)(k:∀r st',r.length=N.toNat->(∀x∈r,0<=x)->r.sum<=d->Drew st st' n->Q (aL r) st'):WP (zca [.ref n,.int N,.int d] st) Q:=by
 refine zlf rfl ?_;simp only[W,V];refine zbi hb (by lia) (by lia) fun l0 st1 h1 h2 d1=>?_
 refine zbi d1.bag (by lia) (by lia) fun r1 st2 h3 h4 d2=>?_
 have D2:=d1.trans d2
 have main:∀left:Int,0<=left->left<=d->WP (aD (aF 4 (eLstM aC))
   (aD (sFor (iR1 (aB (aS oSub (aA 1) (eC (.int 1))) aC)) (gN 5) zbv)
   (aD (sDrop (eAppend (aA 4) (aB (aA 3) aC)))
   (aD (aF 6 (aE zd (aB (aA 0) (aB (aA 1) aC))))
   (sRet (aE bTuple (aB (aS aM (eSl (aA 4) (pSome (aA 6)) pNone) (eSl (aA 4) pNone (pSome (aA 6)))) aC)))))) [some (.ref n),some (.int N),some (.int d),some (.int left),none,none,none] st2) (retK Q):=fun left hl0 hl1=>by
  simp only[W,V];refine⟨small _ (by simp),True.intro,_,rfl,rngN (by lia) (by lia),?_⟩;have hk:st.length<=st2.length:=D2.len;have hkn:st2.length≠n:=xgv (D2.lt hb.lt);refine zdn (fun i σ s=>∃(left:Int) (r:List Int) (v:Option D),σ=[some (.ref n),some (.int N),some (.int d),some (.int left),some (.ref st2.length),v,none]/\0<=left/\r.sum+left<=d/\r.length=i/\(∀x∈r,0<=x)/\Drew st s n/\s[st2.length]?=some (.lst (r.map .int)))
   ⟨left,[],none,rfl,hl0,(by rw[xlr,xlp];exact hl1),rfl,by simp,D2.trans (.more D2.bag _),by simp⟩ ?_ ?_
  ·rintro i x σ s hx ⟨left,r,v,rfl,a1,a2,a3,a4,a5,a6⟩;obtain⟨hi,rfl⟩:=zeu hx;refine⟨_,rfl,?_⟩;unfold zbv;simp only[W,V,M];refine⟨_,_,rfl,a6,?_⟩;have a0:=zzc a4;refine zbi a5.bag (by lia) (by lia) fun y s2 b1 b2 e2=>?_
   have a6':s2[st2.length]?=some (.lst (r.map .int)):=(e2.keep _ (zu a6) hkn).trans a6;have E2:=a5.trans e2;have hlt:=zu a6';refine⟨_,_,rfl,a6',by rw[xbe];exact smallT _ (by lia),?_⟩;have a7:(s2.set st2.length (.lst (r.map D.int++[D.int y])))[st2.length]?=some (.lst ((r++[y]).map .int)):=by rw[zfq hlt];simp
   refine zwu (xs:=(r++[y]).map .int) (d:=.int y) (zhh a7) (by rw[xet];exact zyd _ _) ?_;simp only[W,V,L];exact⟨True.intro,left - y,r++[y],_,rfl,by lia,(by rw[xds,xhi,xlr];lia),by simp[a3],zdr a4 b1,E2.over hb.lt hk,a7⟩
  ·rintro σ s ⟨left,r,v,rfl,a1,a2,a3,a4,a5,a6⟩;rw[zbj] at a3;simp only[W,V,M];have hlt:=zu a6;refine⟨_,_,rfl,a6,_,_,rfl,a6,by rw[xbe];exact smallT _ (by lia),?_⟩;have a7:(s.set st2.length (.lst (r.map D.int++[D.int left])))[st2.length]?=some (.lst ((r++[left]).map .int)):=by rw[zfq hlt];simp
   have D5:Drew st (s.set st2.length (.lst (r.map D.int++[D.int left]))) n:=a5.over hb.lt hk;refine zbi D5.bag (by lia) (by lia) fun y s2 b1 b2 e2=>?_
   have a8:s2[st2.length]?=some (.lst ((r++[left]).map .int)):=(e2.keep _ (zu a7) hkn).trans a7;refine⟨y,rfl,.inr ⟨_,zgi a8,y,rfl,.inr ⟨_,zgi a8,?_⟩⟩⟩;obtain⟨j,rfl⟩:=xdy b1;rw[zml,zuz];refine WP.of (zoh (small _ (by rw[xbk,xhb];lia))) ?_;simp only[W,V];refine k _ _ ?_ ?_ ?_ (D5.trans e2)
   ·rw[zjt,xbk,xhb];lia
   ·intro x hx;rcases xbt.mp hx with hx | hx
    ·exact zdr a4 a1 x (xej hx)
    ·exact zdr a4 a1 x (xdt hx)
   ·rw[zvn,xds,xhi,xlr];lia
 simp only[W,V];split
 ·have q:=main d hd (Int.le_refl _);simp only[W,V] at q;exact q
 ·have q:=main l0 h1 (by lia);simp only[W,V] at q;exact q
theorem zoj {N m d:Int}(hb:BagAt st n)(hN:1<=N)(hN2:N<=1000)(hm:0<=m)(hm2:m < 63)(hd:0<=d)(hd2:d<=1000)(k:∀l st',l.length<=m->SumOk N.toNat l->(∀r∈l,r.sum<=d)->Drew st st' n->Q (aK l) st'):WP (zej [.ref n,.int N,.int m,.int d] st) Q:=by
 refine zlf rfl ?_;simp only[W,V];refine zbi hb (by lia) (by lia) fun c st1 h1 h2 d1=>?_
 refine⟨c,rfl,rngN (by lia) (by lia),by rw[zbj];exact small _ (by lia),?_⟩;refine zoe (fun i acc σ s=>∃(l:List (List Int)) (v:Option D),acc=aJ l/\l.length=i/\(∀r∈l,r.length=N.toNat/\∀x∈r,0<=x)/\(∀r∈l,r.sum<=d)/\σ=[v,some (.ref n),some (.int N),some (.int d)]/\Drew st s n) ⟨[],none,rfl,rfl,by simp,by simp,rfl,d1⟩ ?_ ?_
 ·rintro i x acc σ s hx ⟨l,v,rfl,a1,a2,a0,rfl,a3⟩;refine⟨_,rfl,?_⟩;simp only[W,V];refine znb a3.bag hN hN2 hd hd2 fun r s2 b1 b2 b0 b3=>⟨l++[r],_,by simp[aJ],by simp[a1],fun z hz=>?_,fun z hz=>?_,rfl,a3.trans b3⟩
  ·rcases xbt.mp hz with hz | hz
   ·exact a2 z hz
   ·simp at hz;subst hz;exact⟨b1,b2⟩
  ·rcases xbt.mp hz with hz | hz
   ·exact a0 z hz
   ·simp at hz;subst hz;exact b0
 ·rintro ys σ s ⟨l,v,rfl,a1,a2,a0,rfl,a3⟩;rw[zbj] at a1;refine ziy (l:=l) rfl (by lia) fun g=>k _ _ ?_ (zlm a2) (fun r hr=>a0 r (zcw hr)) (a3.trans (.more a3.bag g))
  have:=zdf l;lia
end
theorem zqm:(List.range 25).all (fun a=>(List.range 25).all fun b=>(List.range 25).all fun c=>decide (a+b+c<=24->(a+1) * ((b+1) * (c+1))<=1024))=true:=by decide +kernel
theorem zer {a b c:Nat}(h:a+b+c<=24):(a+1) * ((b+1) * (c+1))<=1024:=by
 have h0:=zqm;rw[xed] at h0;have h1:=h0 a (xcf.mpr (by lia));rw[xed] at h1;have h2:=h1 b (xcf.mpr (by lia));rw[xed] at h2;exact xep (h2 c (xcf.mpr (by lia))) h
theorem zbhs:∀{r:Row},r.length<=3->(∀x∈r,0<=x)->r.sum<=24->box r<=1024
 | [],_,_,_=>by simp[box]
 | [a],_,h,s=>by
  have:=zer (a:=a.toNat) (b:=0) (c:=0) (by simp at s;lia)
  simpa [box] using this
 | [a,b],_,h,s=>by
  have h1:=h a (by simp);have h2:=h b (by simp);have:=zer (a:=a.toNat) (b:=b.toNat) (c:=0) (by simp at s;lia)
  simpa [box] using this
 | [a,b,c],_,h,s=>by
  have h1:=h a (by simp);have h2:=h b (by simp);have h3:=h c (by simp);have:=zer (a:=a.toNat) (b:=b.toNat) (c:=c.toNat) (by simp at s;lia)
  simpa [box] using this
 | _::_::_::_::_,h,_,_=>by simp at h
structure Lw (N:Int) (l:List Row):Prop where
 rows:Rows N.toNat l
 sum:∀r∈l,r.sum<=if N < 4 then 24 else 10
 len:l.length<=8
 nd:l.Nodup
theorem Lw.bx {N:Int}{l:List Row}(h:Lw N l):∀r∈l,box r<=1024:=fun r hr=>by
 have hs:=h.sum r hr;by_cases c:N < 4
 ·rw[if_pos c] at hs;exact zbhs (by rw[(h.rows r hr).1];lia) (h.rows r hr).2 hs
 ·rw[if_neg c] at hs;have h1:=zvb (h.rows r hr).2;have h2:2 ^ r.sum.toNat<=2 ^ 10:=Nat.pow_le_pow_right (by lia) (by lia);lia
theorem Lw.item {N:Int}{l:List Row}(h:Lw N l):∀r∈l,∀x∈r,0<=x/\x<=1000:=fun r hr x hx=>by
 have h1:=zbiw (h.rows r hr).2 x hx;have h2:=h.sum r hr;exact⟨(h.rows r hr).2 x hx,by split at h2<;>lia⟩
theorem zpf {N k:Int}{l:List Row}(hN:1<=N)(h:Lw N l)(hk:24 < k):lowL k l=[]:=by
 refine List.eq_nil_iff_forall_not_mem.mpr fun m hm=>?_
 have hr:=h.rows.low (by lia) (k:=k) (by lia) m hm;have s0:0<=m.sum:=znm hr.2;unfold lowL at hm;obtain⟨r,h1,hm⟩:=xgo.mp hm;rw[zkm (fun z=>by subst z;have:=(h.rows [] h1).1;simp at this;lia) (h.rows r h1).2 (by lia)] at hm;have:=(xdn.mp hm).2;simp only[xea] at this;have:=h.sum r h1;split at this<;>lia
theorem zbbc {N k:Int}{l:List Row}(hN:1<=N)(h:Lw N l):lowL (if 30 < k then 30 else k) l=lowL k l:=by
 split
 ·rw[zpf hN h (by lia),zpf hN h (by lia)]
 ·rfl
section
variable {st:Store}{n:Nat}{Q:D->Store->Prop}
theorem zbbd {N t:Int}{l:List Row}(hN:N<=1000)(h:Lw N l)(ht:0<=t)(k:∀g,Q (aK (aO (lowL t l))) (st++g)):WP (zda [aK l,.int t] st) Q :=
 znp ht h.item (fun r hr=>by rw[(h.rows r hr).1];lia) (fun r hr=>by have:=h.bx r hr;lia) (by have:=h.len;lia) k
theorem zsr {N t:Int}{l:List Row}(hN1:1<=N)(hN:N<=1000)(h:Lw N l)(ht:0<=t)(k:∀g,Q (aK (aO (lowL t l))) (st++g)):WP (zbo [aK l,.int t] st) Q :=
 zhv (B:=1024) ht (fun r hr z=>by subst z;have:=(h.rows [] hr).1;simp at this;lia) h.item (fun r hr=>by rw[(h.rows r hr).1];lia) h.bx (by lia) (by have:=h.len;lia) k
theorem zqn {A B:List Row}(ha:A.Nodup)(hb:B.Nodup):both A B=meets A B:=by
 unfold both;rw[zox ha,zfx hb]
theorem zeb {A B:List Row}(ha:A.Nodup)(hb:B.Nodup)(la:A.length<=8)(lb:B.length<=8)(q:Q (.bl (decide (meets A B % 2=1))) st):WP (zbn [aK A,aK B] st) Q:=by
 refine zlf rfl ?_;simp only[W,V];have e:bBoth (aK A) (aK B) st=.ok (.int (meets A B)) st:=by
  unfold bBoth aK;simp only[zqu];rw[if_pos ⟨by lia,by lia⟩,zqn ha hb]
 refine WP.of e ?_;simp only[W,V];refine⟨by decide,?_⟩;have:decide ((meets A B:Int) % 2=1)=decide (meets A B % 2=1):=xgp.mpr ⟨fun h=>by lia,fun h=>by lia⟩;rw[this];exact q
noncomputable def mosuD (N:Int):Int:=([24,24,18,8,5,4,3,3,3,2]:List Int).getD (N - 1).toNat 0
theorem zsk:(List.range 10).all (fun i=>decide (0<=mosuD ((i:Int)+1)/\mosuD ((i:Int)+1)<=(if((i:Int)+1)<=3 then 24 else 10)/\((mosuD ((i:Int)+1)).toNat+1) ^ i<=100000))=true:=by decide +kernel
theorem ziz {N:Int}(h1:1<=N)(h2:N<=10):0<=mosuD N/\mosuD N<=(if N<=3 then 24 else 10)/\((mosuD N).toNat+1) ^ (N - 1).toNat<=100000:=by
 have:=xed.mp zsk (N - 1).toNat (xcf.mpr (by lia));have:=xep this;rw[show(((N - 1).toNat:Nat):Int)+1=N by lia] at this;exact this
theorem zbaw {N:Int}(h1:1<=N)(h2:N<=10):L2.atI (([24,24,18,8,5,4,3,3,3,2]:List Int).map D.int) (N - 1)=some (.int (mosuD N)):=by
 obtain⟨j,hj⟩:=xdy (show 0<=N - 1 by lia);unfold mosuD;rw[hj];refine zqs ?_;rw[xct];have hlt:j < 10:=by lia
 rw[xig,xcc,xbg (by simpa using hlt)]
 rfl
theorem znx {N:Int}(hb:BagAt st n)(h1:1<=N)(h2:N<=10)(k:∀(d:Int) st',0<=d->d<=mosuD N->Drew st st' n->Q (.int d) st'):WP (zcq [.ref n,.int N] st) Q:=by
 obtain⟨m1,m2,m3⟩:=ziz h1 h2;have m4:mosuD N<=24:=by split at m2<;>lia
 refine zlf rfl ?_;simp only[W,V];refine⟨small _ (by simp),trivial,zwu (xs:=([24,24,18,8,5,4,3,3,3,2]:List Int).map D.int) rfl (zbaw h1 h2) ?_⟩;simp only[W,V];refine zbi hb (by lia) (by lia) fun a s1 a1 a2 d1=>?_
 refine⟨small _ (by simp),?_⟩;refine zbi d1.bag (by lia) (by lia) fun b s2 b1 b2 d2=>?_
 simp only[W,V];refine⟨trivial,?_⟩;by_cases c:0 < b
 ·simp only[c,xgu,xeb];exact zwu (xs:=[.int (mosuD N),.int a]) rfl rfl (k _ _ a1 (by lia) (d1.trans d2))
 ·simp only[c,xgy];exact zwu (xs:=[.int (mosuD N),.int a]) rfl rfl (k _ _ m1 (Int.le_refl _) (d1.trans d2))
theorem zuy {N:Int}{A B:List Row}{c:Nat}(hA:Lw N A)(hc:c<=4)(hB:Rows N.toNat B)(hs:∀r∈B,r.sum<=if N < 4 then 24 else 10)(hl:B.length<=4):Lw N (aO (A.take c++B)):=by
 refine⟨fun r hr=>?_,fun r hr=>?_,?_,zfv _⟩
 ·rcases xbt.mp (zcw hr) with hr | hr
  ·exact hA.rows r (xdt hr)
  ·exact hB r hr
 ·rcases xbt.mp (zcw hr) with hr | hr
  ·exact hA.sum r (xdt hr)
  ·exact hs r hr
 ·have:=zdf (A.take c++B);rw[xbk,xcm] at this;lia
end
theorem zbfw {S v1 v2 v6 v7 v9 v10 v11:Option D}{N k:Int}{A B:List Row}{st:Store}{I:DS->Store->Prop}{Q:Fl->Store->Prop}(hN1:1<=N)(hN:N<=10)(hA:Lw N A)(hk:0<=k)
  (q:∀w9 w10 w11 g,I [S,v1,v2,some (.int N),some (aK A),some (aK B),v6,v7,some (.int k),w9,w10,w11] (st++g)) :
  WP (zle [S,v1,v2,some (.int N),some (aK A),some (aK B),v6,v7,some (.int k),v9,v10,v11] st) (loopK I Q):=by
 unfold zle;simp only[W,V];refine zsr hN1 (by lia) hA (by split<;>lia) fun g=>?_
 rw[zbbc hN1 hA];refine⟨_,rfl,rngN (by lia) (by lia),?_⟩;have ok:SumOk N.toNat (aO (lowL k A)):=zlm fun r hr=>hA.rows.low (by lia) hk r hr
 have ln:(aO (lowL k A)).length<=9000:=by
  have h1:=zhu (k:=k) hA.bx;have h2:=zdf (lowL k A);have:=hA.len;lia
 refine zdn (fun j σ s=>∃w10 w11 g,σ=[S,v1,v2,some (.int N),some (aK A),some (aK B),v6,v7,some (.int k),some (aK (aO (lowL k A))),w10,w11]/\s=st++g) ⟨_,_,g,rfl,rfl⟩ ?_ ?_
 ·rintro j y σ s hy ⟨w10,w11,g,rfl,rfl⟩;obtain⟨_,rfl⟩:=zeu hy;refine⟨_,rfl,?_⟩;unfold zqz;simp only[W,V];refine zbbd (by lia) hA hk fun g2=>?_
  refine zsw ok (by lia) (by lia) (by lia) ⟨true,rfl,?_⟩;show WP (oNe _ _ _) _;have e:oNe (aK (aO (lowL k A))) (aK (aO (lowL k A))) (st++g++g2)=.ok (.bl false) (st++g++g2):=by
   have:=zbau (st:=st++g++g2) (neg:=true) (aO (lowL k A)) (aO (lowL k A))
   simpa using this
  exact WP.of e ⟨_,_,_,rfl,xci _ _ _⟩
 ·rintro σ s ⟨w10,w11,g,rfl,rfl⟩;simp only[L];exact q _ _ _ _
theorem zsu (ns:List Int)(hl:ns.length<=63):∃st',zbif [.scr (ns.map .int)] []=.ok (.bl true) st':=by
 have key:WP (zbif [.scr (ns.map .int)] []) (fun v _=>v=.bl true):=by
  refine zlf rfl ?_;simp only[W,V];have hle:((ns.map D.int).length:Int)<=63:=by rw[xbe];lia
  have hge:(0:Int)<=((ns.map D.int).length:Int):=by lia
  generalize ((ns.map D.int).length:Int)=len at hle hge;refine⟨_,rfl,rngN (by split<;>lia) (by split<;>lia),?_⟩;refine zdn (fun i σ s=>∃v1 v2 v3 v4 v5 v6 v7 v8 v9 v10 v11:Option D,σ=[some (.scr (ns.map .int)),v1,v2,v3,v4,v5,v6,v7,v8,v9,v10,v11]) ⟨_,_,_,_,_,_,_,_,_,_,_,rfl⟩ ?_ ?_
  ·rintro i x σ s0 hx ⟨v1,v2,v3,v4,v5,v6,v7,v8,v9,v10,v11,rfl⟩;obtain⟨hi,rfl⟩:=zeu hx;have hi2:i<=100:=by split at hi<;>lia
   refine⟨_,rfl,?_⟩;unfold zqy;refine zcs (R:=fun fl s=>fl=.nx [some (.scr (ns.map .int)),some (.int i),some (.ref s0.length),v3,v4,v5,v6,v7,v8,v9,v10,v11]/\BagAt s s0.length) ?_ ?_
   ·simp only[W,V];rw[xlp];exact zbhu hl (by lia) fun g hb=>⟨rfl,hb⟩
   rintro fl s ⟨rfl,hb⟩;show WP _ _;generalize s0.length=n at hb ⊢;refine zcs (R:=fun fl s=>∃N:Int,1<=N/\N<=10/\fl=.nx [some (.scr (ns.map .int)),some (.int i),some (.ref n),some (.int N),v4,v5,v6,v7,v8,v9,v10,v11]/\BagAt s n) ?_ ?_
   ·simp only[W,V];exact zpq hb fun N s1 n1 n2 d1=>⟨N,n1,n2,rfl,d1.bag⟩
   rintro fl s ⟨N,hN1,hN,rfl,hb⟩;show WP _ _;refine zcs (R:=fun fl s=>∃A:List Row,Lw N A/\fl=.nx [some (.scr (ns.map .int)),some (.int i),some (.ref n),some (.int N),some (aK A),v5,v6,v7,v8,v9,v10,v11]/\BagAt s n) ?_ ?_
   ·simp only[W,V];refine⟨small _ (by simp),?_⟩;by_cases c:N < 4
    ·simp only[c,xeb];refine zwu (xs:=[.int 10,.int 24]) rfl rfl ?_;exact zoj hb hN1 (by lia) (by lia) (by lia) (by lia) (by lia) fun l st' a1 a2 a3 a4=>⟨l,⟨fun r hr=>⟨a2.len r hr,a2.pos r hr⟩,fun r hr=>by rw[if_pos c];exact a3 r hr,by lia,a2.rise.nodup⟩,rfl,a4.bag⟩
    ·simp only[c,xdc];refine zwu (xs:=[.int 10,.int 24]) rfl rfl ?_;exact zoj hb hN1 (by lia) (by lia) (by lia) (by lia) (by lia) fun l st' a1 a2 a3 a4=>⟨l,⟨fun r hr=>⟨a2.len r hr,a2.pos r hr⟩,fun r hr=>by rw[if_neg c];exact a3 r hr,by lia,a2.rise.nodup⟩,rfl,a4.bag⟩
   rintro fl s ⟨A,hA,rfl,hb⟩;show WP _ _;refine zcs (R:=fun fl s=>∃B:List Row,Lw N B/\fl=.nx [some (.scr (ns.map .int)),some (.int i),some (.ref n),some (.int N),some (aK A),some (aK B),v6,v7,v8,v9,v10,v11]/\BagAt s n) ?_ ?_
   ·simp only[W,V,M,Dd.N];refine zbi hb (by lia) (by lia) fun c s1 c1 c2 e1=>⟨_,rfl,?_⟩
    obtain⟨c',rfl⟩:=xdy c1;have ec:cutD (aJ A) none (some (c':Int))=aJ (A.take c'):=by rw[zxv,aJ,aJ,List.map_take]
    rw[ec];refine zoj e1.bag hN1 (by lia) (by lia) (by lia) (by lia) (by lia) fun l' s2 a1 a2 a3 a4=>?_
    simp only[W,V,M,Dd.N];rw[ztx];have:=hA.len;refine⟨by rw[zj,zj,xcm];exact small _ (by lia),?_⟩;rw[show aJ (A.take c')++aJ l'=aJ (A.take c'++l') by simp[aJ]];exact ziy (l:=A.take c'++l') rfl (by rw[xbk,xcm];lia) fun g=>⟨_,zuy hA (by lia) (fun r hr=>⟨a2.len r hr,a2.pos r hr⟩) (fun r hr=>by have:=a3 r hr;split<;>lia) (by lia),rfl,(Drew.more a4.bag g).bag⟩
   rintro fl s ⟨B,hB,rfl,hb⟩;show WP _ _;refine zcs (R:=fun fl s=>∃(A B:List Row) (w6:Option D),Lw N A/\Lw N B/\fl=.nx [some (.scr (ns.map .int)),some (.int i),some (.ref n),some (.int N),some (aK A),some (aK B),w6,v7,v8,v9,v10,v11]/\BagAt s n) ?_ ?_
   ·simp only[W,V];refine zbi hb (by lia) (by lia) fun c s1 c1 c2 e1=>?_
    simp only[W,V];by_cases c:c=1
    ·rw[if_pos c];obtain⟨m1,m2,_⟩:=ziz hN1 hN;refine znx e1.bag hN1 hN fun d s2 d1 d2 e2=>?_
     have d3:d<=if N < 4 then 24 else 10:=by split at m2<;>split<;>lia
     have d4:d<=24:=by split at d3<;>lia
     refine zll e2.bag hN1 (by lia) d1 (by lia) (by lia) (by lia) fun A' s3 a1 a2 a3 a4 a5=>?_
     have hA':Lw N A':=⟨a2,fun r hr=>by rw[a4 r hr];exact d3,by lia,a3⟩
     simp only[W,V,M,Dd.N];refine zbi a5.bag (by lia) (by lia) fun c s4 c1 c2 e4=>?_
     obtain⟨c',rfl⟩:=xdy c1;have ec:cutD (aJ A') none (some (c':Int))=aJ (A'.take c'):=by rw[zxv,aJ,aJ,List.map_take]
     simp only[W,V,M,Dd.N,ec];refine zll e4.bag hN1 (by lia) d1 (by lia) (by lia) (by lia) fun l' s5 b1 b2 b3 b4 b5=>?_
     simp only[W,V,M,Dd.N];rw[ztx];have:=hA'.len;refine⟨by rw[zj,zj,xcm];exact small _ (by lia),?_⟩;rw[show aJ (A'.take c')++aJ l'=aJ (A'.take c'++l') by simp[aJ]];exact ziy (l:=A'.take c'++l') rfl (by rw[xbk,xcm];lia) fun g=>⟨_,_,_,hA',zuy hA' (by lia) b2 (fun r hr=>by rw[b4 r hr];exact d3) (by lia),rfl,(Drew.more b5.bag g).bag⟩
    ·rw[if_neg c];exact⟨_,_,_,hA,hB,rfl,e1.bag⟩
   clear hA hB;rintro fl s ⟨A,B,w6,hA,hB,rfl,hb⟩;show WP _ _;refine zcs (R:=fun fl s=>fl=.nx [some (.scr (ns.map .int)),some (.int i),some (.ref n),some (.int N),some (aK A),some (aK B),w6,some (.lst [.bl (decide (meets A B % 2=1)),.bl (decide (meets A B % 2=1))]),v8,v9,v10,v11]/\BagAt s n) ?_ ?_
   ·simp only[W,V];refine zeb hA.nd hB.nd hA.len hB.len ?_;refine zeb hB.nd hA.nd hB.len hA.len ?_;refine⟨small _ (by simp),?_,hb⟩;rw[zbdg A B]
   rintro fl s ⟨rfl,hb⟩;show WP _ _;refine zcs (R:=fun fl s=>fl=.nx [some (.scr (ns.map .int)),some (.int i),some (.ref n),some (.int N),some (aK A),some (aK B),w6,some (.lst [.bl (decide (meets A B % 2=1)),.bl (decide (meets A B % 2=1))]),v8,v9,v10,v11]/\BagAt s n) ?_ ?_
   ·simp only[W,V];refine zwp hB.nd (by have:=hA.len;lia) ⟨small _ (by simp),?_⟩;generalize decide (meets A B % 2=1)=b;refine WP.of (a:=.lst [.bl b,.bl b]) (by rfl) ?_;refine WP.of (a:=.bl false) (by cases b<;>rfl) ⟨_,rfl,?_⟩;refine⟨small _ (by simp),?_⟩;refine WP.of (a:=[.bl true,.bl true]) rfl ?_;exact WP.of (a:=.bl true) rfl ⟨true,rfl,trivial,hb⟩
   rintro fl s ⟨rfl,hb⟩;show WP _ _;simp only[W,V];refine zbi hb (by lia) (by lia) fun a s1 a1 a2 d1=>?_
   simp only[W,V];refine⟨⟨by decide,by decide,by decide⟩,?_⟩;refine zvo d1.bag (by decide) (by decide +kernel) fun z s2 z1 z2 d2=>?_
   refine⟨small _ (by simp),_,rfl,?_⟩;refine zdn (fun j σ s=>∃w8 w9 w10 w11,σ=[some (.scr (ns.map .int)),some (.int i),some (.ref n),some (.int N),some (aK A),some (aK B),w6,some (.lst [.bl (decide (meets A B % 2=1)),.bl (decide (meets A B % 2=1))]),w8,w9,w10,w11]) ⟨_,_,_,_,rfl⟩ ?_ ?_
   ·rintro j y σ s hy ⟨w8,w9,w10,w11,rfl⟩;have hy:=xbx hy;simp only[xbl,xga,xjy] at hy;have hk:∃k:Int,0<=k/\y=.int k:=by
     rcases hy with rfl | rfl | rfl | rfl | rfl
     ·exact⟨0,by lia,rfl⟩
     ·exact⟨1,by lia,rfl⟩
     ·exact⟨2,by lia,rfl⟩
     ·exact⟨_,by lia,rfl⟩
     ·exact⟨_,z1,rfl⟩
    obtain⟨k,hk,rfl⟩:=hk;exact⟨_,rfl,zbfw hN1 hN hA hk fun _ _ _ _=>⟨_,_,_,_,rfl⟩⟩
   ·rintro σ s ⟨w8,w9,w10,w11,rfl⟩;simp only[L];exact⟨_,_,_,_,_,_,_,_,_,_,_,rfl⟩
  ·rintro σ s ⟨v1,v2,v3,v4,v5,v6,v7,v8,v9,v10,v11,rfl⟩;simp only[W,V]
 obtain⟨a,st',e,rfl⟩:=key.get;exact⟨st',e⟩
end Dd
namespace K52
theorem holds:∀ns:List Int,ns.length<=63->∃st',Dd.zbif [.scr (ns.map .int)] []=.ok (.bl true) st':=fun ns hl=>Dd.zsu ns hl
end K52
namespace K52
open PySem L2 Dd
noncomputable def top (i:Nat):Stmt:=PySem.Challenge.pw_raisedsums_k52_rows_lowered.main.body.getD i (.Pass ⟨0,0,0,0⟩)
section
variable {Y:En}
theorem znj (T:TopF Y.K "_law_bag" (top 14))(Ac:Y.mg "len"=none)(z_abs:Y.mg "abs"=none)(Af:Y.mg "min"=none)(Ab:Y.mg "range"=none):Cl Y "_law_bag" 1 ["_law_script", "_law_at"] zek:=cmk ["_law_script", "_law_at", "_law_cell", "_law_mix", "_law_k"] T fun nd f cdv A outer s H E hr=>(zb (sst nd zc)
 (zb (zds (zbs (zne hr.units0) znl sv (zl zbt zqr rfl Ac znz (sa1 sv)) (nomark _)) (zf (sst nd (zl zxx zbic rfl z_abs zbhr (sa1 (zoa sv sv (fun _ _=>rfl)))))) zby)
 (zb (sst nd (sad (zey znd (oI_D fun _ _ _ _=>.int _) zc sv) zc))
 (zb (sfr (zbl rfl Ab (sa1 (zl (zeg rfl) zyn rfl Af zqj (sa2 (zl zbt zqr rfl Ac znz (sa1 sv)) zc)))) (sgn nd)
 (zf (sst nd (zey ziu (oI_D fun _ _ _ _=>.int _) (sad (sad (zey znd (oI_D fun _ _ _ _=>.int _) sv zc) (zey ziu (oI_D fun _ _ _ _=>.int _) (zoa sv sv (fun _ _=>rfl)) zc)) sv) zc))))
 (zb (zds (zbs (zne hr.units0) znl sv (zey zbaj (oI_D fun _ _ _ _=>.int _) zc zc) (nomark _)) (zf (sst nd zc)) zby)
 (zf (zp (zha (sa2 sv sv)))))))))
theorem zke (T:TopF Y.K "_law_take" (top 15))  : Cl Y "_law_take" 1 ["_law_bag_here", "_law_many"] zd:=cmk ["_law_bag_here", "_law_many", "_law_digit", "_law_number_here", "_law_room"] T fun nd f cdv A outer s H E hr=>(zb (zds (zbs zbiv (zwl fun _ _ _ _=>.bl _) (zoa sv zc (fun _ _=>rfl)) zc (nomark _)) (zb (sst nd (zey ziu (oI_D fun _ _ _ _=>.int _) (zoa sv zc (fun _ _=>rfl)) sv))
 (zb (zmh (zey zfu (oI_D fun _ _ _ _=>.int _) (zoa sv zc (fun _ _=>rfl)) sv) sv zc)
 (zf (zp sv)))) zby)
 (zb (sst nd zc)
 (zb (sst nd zc)
 (zb (ztf PassesOwn.never (zbs (zne hr.units0) znl sv sv (nomark _)) (zb (zmh (zey ziu (oI_D fun _ _ _ _=>.int _) (sad (zey znd (oI_D fun _ _ _ _=>.int _) (zoa sv zc (fun _ _=>rfl)) zc) zc) zc) sv zc)
 (zb (sst nd (sad (zey znd (oI_D fun _ _ _ _=>.int _) sv zc) (zey ziu (oI_D fun _ _ _ _=>.int _) (zey znd (oI_D fun _ _ _ _=>.int _) (zey zfu (oI_D fun _ _ _ _=>.int _) (zoa sv zc (fun _ _=>rfl)) zc) zc) zc)))
 (zf (sst nd (zey znd (oI_D fun _ _ _ _=>.int _) sv zc))))))
 (zf (zp (zey ziu (oI_D fun _ _ _ _=>.int _) sv sv)))))))
theorem zgl (T:TopF Y.K "_law_letters" (top 21))(Aa:Cl Y "_law_take" 1 ["_law_bag_here", "_law_many"] zd):Cl Y "_law_letters" 2 ["_law_bag_here"] zcb:=cmk ["_law_bag_here"] T fun nd f cdv A outer s H E hr=>(zf (zp (zoa (zig (ze zc (ze zc (ze zc (ze zc (ze zc (ze zc (ze zc (ze zc (ze zc (sa2 zc (sad zc (scl Aa hr (sa2 sv zc)))))))))))))) (scl Aa hr (sa2 sv zc)) (fun _ _=>rfl))))
theorem zni (T:TopF Y.K "_law_odd" (top 16))(Ak:Y.mg "sorted"=none)(Ad:Y.mg "tuple"=none):Cl Y "_law_odd" 1 ["_law_things"] zq:=cmk ["_law_things", "_law_odd_here", "_law_thing"] T fun nd f cdv A outer s H E hr=>(zb (sst nd zuw)
 (zb (sfr (zbk sv) (sgn nd)
 (zf (zpx (zyk hr) sv sv (zxo (zxq (zyk hr) sv sv zux ⟨rfl,rfl,rfl,rfl⟩)) rfl)))
 (zf (zp (zbg zbz zij rfl Ad zeq (sa1 (zl (zgf rfl hr.units) zmv rfl Ak zmp (sa1 (zgd rfl (zxi sv) (fun _ _ _ _ _=>(zcd (i:=0) (show(["_law_thing", "_law_odd_here"]:List Str).Nodup from by decide +kernel) rfl (Or.inl rfl))) (fun _ _ _ _ _=>(zic (zew (zbcp (zyk hr) sv sv (fun _ _=>rfl))))) (fun _ _ _ _ _=>sv) (N:=["_law_thing", "_law_odd_here"]) (k:=1) (is:=[1]) (zge (by rfl)))))))))))
theorem zgj (T:TopF Y.K "_law_product" (top 19))(Ab:Y.mg "range"=none)(Ad:Y.mg "tuple"=none)(Aa:Cl Y "_law_take" 1 ["_law_bag_here", "_law_many"] zd):Cl Y "_law_product" 2 ["_law_bag_here", "_law_n", "_law_degree_here"] zca:=cmk ["_law_bag_here", "_law_n", "_law_degree_here", "_law_left", "_law_exponents", "_law_k", "_law_at"] T fun nd f cdv A outer s H E hr=>(zb (sst nd (scl Aa hr (sa2 sv (sad sv zc))))
 (zb (zds (zbs (ziv hr.units) zpb (scl Aa hr (sa2 sv zc)) zc (nomark _)) (zf (sst nd sv)) zby)
 (zb (sst nd (zha zex))
 (zb (sfr (zbl rfl Ab (sa1 (ssb sv zc))) (sgn nd)
 (zb (zcl (zdj sv (sa1 (scl Aa hr (sa2 sv (sad sv zc))))))
 (zf (sst nd (ssb sv (zoa sv (zbhc zc) (fun _ _=>rfl)))))))
 (zb (zcl (zdj sv (sa1 sv)))
 (zb (sst nd (scl Aa hr (sa2 sv sv)))
 (zf (zp (zbg zbz zij rfl Ad zeq (sa1 (sad (zxm sv (zdt sv) zdu) (zxm sv zdu (zdt sv)))))))))))))
theorem znh (T:TopF Y.K "_law_sum" (top 20))(Ab:Y.mg "range"=none)(Ag:Cl Y "_law_odd" 1 ["_law_things"] zq)(Aa:Cl Y "_law_take" 1 ["_law_bag_here", "_law_many"] zd)(Aq:Cl Y "_law_product" 2 ["_law_bag_here", "_law_n", "_law_degree_here"] zca):Cl Y "_law_sum" 3 ["_law_bag_here", "_law_n", "_law_many", "_law_degree_here"] zej:=cmk ["_law_bag_here", "_law_n", "_law_many", "_law_degree_here"] T fun nd f cdv A outer s H E hr=>(zf (zp (scl Ag hr (sa1 (scp ["_law_k", "_law_bag_here", "_law_n", "_law_degree_here"] (zbl rfl Ab (sa1 (scl Aa hr (sa2 sv (sad sv zc))))) (fun _ _ _ _ _=>(scl Aq hr (ze sv (sa2 sv sv)))))))))
theorem zho (T:TopF Y.K "_law_degree" (top 22))(Ah:Y.mg "int"=none)(Aa:Cl Y "_law_take" 1 ["_law_bag_here", "_law_many"] zd):Cl Y "_law_degree" 2 ["_law_bag_here", "_law_n"] zcq:=cmk ["_law_bag_here", "_law_n", "_law_most"] T fun nd f cdv A outer s H E hr=>(zb (sst nd (zoa (zig (ze zc (ze zc (ze zc (ze zc (ze zc (ze zc (ze zc (ze zc (sa2 zc zc)))))))))) (ssb sv zc) (fun _ _=>rfl)))
 (zf (zp (zoa (zig (sa2 sv (scl Aa hr (sa2 sv (sad sv zc))))) (zbg zmo zbde rfl Ah ztv (sa1 (zkt zbiv (zwl fun _ _ _ _=>.bl _) (scl Aa hr (sa2 sv zc)) zc (nomark _)))) (fun _ _=>rfl)))))
theorem zfc (T:TopF Y.K "_law_of_degree" (top 23))(Ab:Y.mg "range"=none)(Al:Y.mg "max"=none)(Ad:Y.mg "tuple"=none)(Aa:Cl Y "_law_take" 1 ["_law_bag_here", "_law_many"] zd):Cl Y "_law_of_degree" 2 ["_law_bag_here", "_law_n", "_law_d"] zbh:=cmk ["_law_bag_here", "_law_n", "_law_d", "_law_left", "_law_exponents", "_law_fork", "_law_k", "_law_e", "_law_at"] T fun nd f cdv A outer s H E hr=>(zb (sst nd sv)
  (zb (sst nd (zha zex))
  (zb (sst nd (scl Aa hr (sa2 sv zc)))
  (zb (sfr (zbl rfl Ab (sa1 (ssb sv zc))) (sgn nd)
  (zb (sst nd (scl Aa hr (sa2 sv (sad sv zc))))
  (zb (zds (zbs (ziv hr.units) zpb sv zc (nomark _)) (zf (sst nd (zl (zts rfl) zbdf rfl Al zbcz (sa1 (zgd rfl (zbk (zif (ze zc (ze zc (ze zc (sa2 zc zc)))))) (fun _ _ _ _ _=>(zcd (i:=0) (show(["_law_x", "_law_e"]:List Str).Nodup from by decide +kernel) rfl (Or.inl rfl))) (fun _ _ _ _ _=>(zic (zbs zbju (zwl fun _ _ _ _=>.bl _) sv sv (nomark _)))) (fun _ _ _ _ _=>sv) (N:=["_law_x", "_law_e"]) (k:=1) (is:=[7]) (zge (by rfl))))))) zby)
  (zb (zcl (zdj sv (sa1 sv)))
  (zf (sst nd (ssb sv sv)))))))
  (zb (zcl (zdj sv (sa1 sv)))
  (zb (sst nd (scl Aa hr (sa2 sv sv)))
  (zf (zp (zbg zbz zij rfl Ad zeq (sa1 (sad (zxm sv (zdt sv) zdu) (zxm sv zdu (zdt sv)))))))))))))
theorem zhl (T:TopF Y.K "_law_sum_of" (top 24))(Ab:Y.mg "range"=none)(Ag:Cl Y "_law_odd" 1 ["_law_things"] zq)(Aa:Cl Y "_law_take" 1 ["_law_bag_here", "_law_many"] zd)(Ar:Cl Y "_law_of_degree" 2 ["_law_bag_here", "_law_n", "_law_d"] zbh):Cl Y "_law_sum_of" 3 ["_law_bag_here", "_law_n", "_law_d", "_law_many"] zbu:=cmk ["_law_bag_here", "_law_n", "_law_d", "_law_many"] T fun nd f cdv A outer s H E hr=>(zf (zp (scl Ag hr (sa1 (scp ["_law_k", "_law_bag_here", "_law_n", "_law_d"] (zbl rfl Ab (sa1 (scl Aa hr (sa2 sv (sad sv zc))))) (fun _ _ _ _ _=>(scl Ar hr (ze sv (sa2 sv sv)))))))))
theorem zhk (T:TopF Y.K "meets_oddly" (top 9))(Ac:Y.mg "len"=none)(z_set:Y.mg "set"=none):Cl Y "meets_oddly" 1 ["row", "some"] zbn:=cmk ["row", "some"] T fun nd f cdv A outer s H E hr=>(zf (zp (zkt (ziv hr.units) zpb (zey ziu (oI_D fun _ _ _ _=>.int _) (zbct rfl hr.units rfl Ac znz rfl z_set zbhq sv sv) zc) zc (nomark _))))
theorem zgk (T:TopF Y.K "_law_lowered" (top 26))(Af:Y.mg "min"=none)(Ab:Y.mg "range"=none)(Ag:Cl Y "_law_odd" 1 ["_law_things"] zq):Cl Y "_law_lowered" 2 ["_law_row", "_law_k"] zbo:=cmk ["_law_row", "_law_k", "_law_found", "_law_product_here", "_law_ways", "_law_e", "_law_further", "_law_grown", "_law_left", "_law_j"] T fun nd f cdv A outer s H E hr=>(zb (sst nd (zha zex))
 (zb (sfr (zbk sv) (sgn nd)
 (zb (sst nd (zig (sa1 (zif (sa2 (zif zex) sv)))))
 (zb (sfr (zbk sv) (sgn nd)
 (zb (sst nd (zha zex))
 (zb (sfr (zbk sv) (zjl rfl (zbf (sgn nd) (zbf (sgn nd) zgc)))
 (zf (sfr (zbl rfl Ab (sa1 (sad (zl (zeg rfl) zyn rfl Af zqj (sa2 sv sv)) zc))) (sgn nd)
 (zf (zds (zbs (ziv hr.units) zpb (zey zbao (zwl fun _ _ _ _=>.int _) (ssb sv sv) sv) sv (nomark _)) (zf (zcl (zdj sv (sa1 (zif (sa2 (sad sv (zif (sa1 (ssb sv sv)))) (ssb sv sv))))))) zby)))))
 (zf (sst nd (zbhf sv))))))
 (zf (zcl (ztl sv (sa1 (zgd rfl (zbk sv) (fun _ _ _ _ _=>(zjl rfl (zbf (zcd (i:=0) (show(["_law_grown", "_law_left"]:List Str).Nodup from by decide +kernel) rfl (Or.inl rfl)) (zbf (zcd (i:=1) (show(["_law_grown", "_law_left"]:List Str).Nodup from by decide +kernel) rfl (Or.inl rfl)) zgc)))) (fun _ _ _ _ _=>(zic (zbs (ziv hr.units) zpb sv zc (nomark _)))) (fun _ _ _ _ _=>sv) (N:=["_law_grown", "_law_left"]) (k:=2) (is:=[]) (zge (by rfl))))))))))
 (zf (zp (scl Ag hr (sa1 (zbhf sv)))))))
theorem znf (T:TopF Y.K "odd_ways" (top 7))  : Cl Y "odd_ways" 1 ["e", "k"] zeh:=cmk ["e", "k"] T fun nd f cdv A outer s H E hr=>(zf (zp (zkt (ziv hr.units) zpb (zey zbao (zwl fun _ _ _ _=>.int _) sv sv) sv (nomark _))))
theorem zfb (T:TopF Y.K "letter_lowered" (top 10))(Af:Y.mg "min"=none)(Al:Y.mg "max"=none)(Ab:Y.mg "range"=none)(As:Cl Y "odd_ways" 1 ["e", "k"] zeh):Cl Y "letter_lowered" 2 ["partly", "e", "rest"] zba:=cmk ["partly", "e", "rest", "told", "made", "left", "j"] T fun nd f cdv A outer s H E hr=>(zb (sst nd (zha zex))
 (zb (sfr (zbk sv) (zjl rfl (zbf (sgn nd) (zbf (sgn nd) zgc)))
 (zf (sfr (znw rfl Ab (sa2 (zl (ztt rfl) zyn rfl Al zbcz (sa2 zc (ssb sv sv))) (sad (zl (zeg rfl) zyn rfl Af zqj (sa2 (zey zfu (oI_D fun _ _ _ _=>.int _) sv zc) sv)) zc))) (sgn nd)
 (zf (zds (zew (scl As hr (sa2 (ssb sv sv) sv))) (zf (zcl (zdj sv (sa1 (zif (sa2 (sad sv (zif (sa1 (ssb sv sv)))) (ssb sv sv))))))) zby)))))
 (zf (zp (zbhf sv)))))
theorem zen (T:TopF Y.K "product_lowered" (top 11))(z_sum:Y.mg "sum"=none)(Au:Cl Y "letter_lowered" 2 ["partly", "e", "rest"] zba):Cl Y "product_lowered" 3 ["product", "k"] zy:=cmk ["product", "k", "partly", "rest", "e"] T fun nd f cdv A outer s H E hr=>(zb (sst nd (zig (sa1 (zif (sa2 (zif zex) sv)))))
 (zb (sst nd (zl (ztr rfl) zbhx rfl z_sum zbhp (sa1 (scp ["e"] (zbk sv) (fun _ _ _ _ _=>(zey zfu (oI_D fun _ _ _ _=>.int _) sv zc))))))
 (zb (sfr (zbk sv) (sgn nd)
 (zb (zbcc (i:=3) nd rfl (Or.inl rfl) (zey zfu (oI_D fun _ _ _ _=>.int _) sv zc) zbga ip_D)
 (zf (sst nd (scl Au hr (ze sv (sa2 sv sv)))))))
 (zf (zp (zgd rfl (zbk sv) (fun _ _ _ _ _=>(zjl rfl (zbf (zcd (i:=0) (show(["made", "left"]:List Str).Nodup from by decide +kernel) rfl (Or.inl rfl)) (zbf (zcd (i:=1) (show(["made", "left"]:List Str).Nodup from by decide +kernel) rfl (Or.inl rfl)) zgc)))) (fun _ _ _ _ _=>zkq) (fun _ _ _ _ _=>sv) (N:=["made", "left"]) (k:=2) (is:=[]) (zge (by rfl))))))))
theorem zng (T:TopF Y.K "is_whole" (top 4))(Ai:Y.mg "bool"=none)(Ae:Y.mg "isinstance"=none)(Ah:Y.mg "int"=none):Cl Y "is_whole" 1 ["thing"] zbx:=cmk ["thing"] T fun nd f cdv A outer s H E hr=>(zf (zp (zxt (zl zbe zcn rfl Ae zr (sa2 sv (zks (zft (v:=.ty "int") rfl Ah ztv rfl) (fun _ _=>.ty _)))) (zxn (zxo (zl zbe zcn rfl Ae zr (sa2 sv (zks (zft (v:=.ty "bool") rfl Ai zqk rfl) (fun _ _=>.ty _)))))))))
theorem zbaq (T:TopF Y.K "flip" (top 5))  : Cl Y "flip" 1 ["kept", "thing"] zra:=cmk ["kept", "thing"] T fun nd f cdv A outer s H E hr=>(zf (zds (zbgn (zbfc (zyk hr) sv sv)) (zf (zcl (zbco (zyk hr) sv sv ⟨rfl, rfl, rfl, rfl⟩))) (zf (zpx (zyk hr) sv sv zux rfl))))
theorem zoy (T:TopF Y.K "lowered" (top 12))(Ak:Y.mg "sorted"=none)(Ad:Y.mg "tuple"=none)(Av:Cl Y "is_whole" 1 ["thing"] zbx)(Aw:Cl Y "product_lowered" 3 ["product", "k"] zy)(c_flip:Cl Y "flip" 1 ["kept", "thing"] zra):Cl Y "lowered" 4 ["row", "k"] zda:=cmk ["row", "k", "kept", "product", "made"] T fun nd f cdv A outer s H E hr=>(zb (zds (JW.pt (zte (zgz (zew (scl Av hr (sa1 sv)))) (zmg (zbs (zne hr.units0) znl sv zc (nomark _)) (by first | exact Or.inl rfl | exact Or.inr rfl)))) (zf ztg) zby)
 (zb (sst nd zuw)
 (zb (sfr (zbk sv) (sgn nd)
 (zf (sfr (zbk (scl Aw hr (sa2 sv sv))) (sgn nd)
 (zf (zcl (scl c_flip hr (sa2 sv sv)))))))
 (zf (zp (zbg zbz zij rfl Ad zeq (sa1 (zl (zgf rfl hr.units) zmv rfl Ak zmp (sa1 sv)))))))))
theorem ziw (T:TopF Y.K "_law_meets" (top 25))(Ac:Y.mg "len"=none):Cl Y "_law_meets" 1 ["_law_row", "_law_some"] zdk:=cmk ["_law_row", "_law_some"] T fun nd f cdv A outer s H E hr=>(zf (zp (zkt (ziv hr.units) zpb (zey ziu (oI_D fun _ _ _ _=>.int _) (zl zbt zqr rfl Ac znz (sa1 (zgd rfl (zbk sv) (fun _ _ _ _ _=>(zcd (i:=0) (show(["_law_product_here", "_law_some"]:List Str).Nodup from by decide +kernel) rfl (Or.inl rfl))) (fun _ _ _ _ _=>(zic (zbs (zbfg hr.units) zbka sv sv rfl))) (fun _ _ _ _ _=>sv) (N:=["_law_product_here", "_law_some"]) (k:=1) (is:=[1]) (zge (by rfl))))) zc) zc (nomark _))))
theorem zhm (T:TopF Y.K "_law_number" (top 17))(Ai:Y.mg "bool"=none)(Ae:Y.mg "isinstance"=none)(Ah:Y.mg "int"=none):Cl Y "_law_number" 1 ["_law_thing"] zbx:=cmk ["_law_thing"] T fun nd f cdv A outer s H E hr=>(zf (zp (zxt (zl zbe zcn rfl Ae zr (sa2 sv (zks (zft (v:=.ty "int") rfl Ah ztv rfl) (fun _ _=>.ty _)))) (zxn (zxo (zl zbe zcn rfl Ae zr (sa2 sv (zks (zft (v:=.ty "bool") rfl Ai zqk rfl) (fun _ _=>.ty _)))))))))
theorem zhn (T:TopF Y.K "_law_is_sum" (top 18))(Ad:Y.mg "tuple"=none)(Ae:Y.mg "isinstance"=none)(Ac:Y.mg "len"=none)(Aj:Y.mg "all"=none)(z_zip:Y.mg "zip"=none)(Ax:Cl Y "_law_number" 1 ["_law_thing"] zbx):Cl Y "_law_is_sum" 2 ["_law_n", "_law_thing"] zcp:=cmk ["_law_n", "_law_thing", "_law_product_here"] T fun nd f cdv A outer s H E hr=>(zb (zds (zgz (zew (zl zbe zcn rfl Ae zr (sa2 sv (zks (zft (v:=.ty "tuple") rfl Ad zeq rfl) (fun _ _=>.ty _)))))) (zf (zp zux)) zby)
 (zb (sfr (zbk sv) (sgn nd)
 (zb (zds (JW.pt (zte (zgz (zew (zl zbe zcn rfl Ae zr (sa2 sv (zks (zft (v:=.ty "tuple") rfl Ad zeq rfl) (fun _ _=>.ty _)))))) (zmg (zbs (zwj hr.units) zpb (zl zbt zqr rfl Ac znz (sa1 sv)) sv (nomark _)) (by first | exact Or.inl rfl | exact Or.inr rfl)))) (zf (zp zux)) zby)
 (zf (zds (zgz (zew (zl (zky rfl) zyc rfl Aj zxz (sa1 (scp ["_law_e"] (zbk sv) (fun _ _ _ _ _=>(zxt (scl Ax hr (sa1 sv)) (zxn (zkt zbjv (zwl fun _ _ _ _=>.bl _) sv zc (nomark _)))))))))) (zf (zp zux)) zby))))
 (zf (zp (zl (zky rfl) zyc rfl Aj zxz (sa1 (zgd rfl (zbch rfl z_zip (sa2 sv (zxm sv (zdt zc) zdu))) (fun _ _ _ _ _=>(zjl rfl (zbf (zcd (i:=0) (show(["_law_one", "_law_other"]:List Str).Nodup from by decide +kernel) rfl (Or.inl rfl)) (zbf (zcd (i:=1) (show(["_law_one", "_law_other"]:List Str).Nodup from by decide +kernel) rfl (Or.inl rfl)) zgc)))) (fun _ _ _ _ _=>zkq) (fun _ _ _ _ _=>(zkt (zne hr.units0) znl sv sv (nomark _))) (N:=["_law_one", "_law_other"]) (k:=2) (is:=[]) (zge (by rfl)))))))))
theorem zbfj {f:Addr}{fd:FuncData}(F:Fun Y.K "law" "law" (top 27) f fd)(Ac:Y.mg "len"=none)(Af:Y.mg "min"=none)(Ab:Y.mg "range"=none)(Ah:Y.mg "int"=none)(Am:Y.mg "list"=none)(Ai:Y.mg "bool"=none)(Ae:Y.mg "isinstance"=none)(Aj:Y.mg "all"=none)(Ay:Cl Y "_law_bag" 1 ["_law_script", "_law_at"] zek)(Az:Cl Y "_law_letters" 2 ["_law_bag_here"] zcb)(An:Cl Y "_law_sum" 3 ["_law_bag_here", "_law_n", "_law_many", "_law_degree_here"] zej)(Ag:Cl Y "_law_odd" 1 ["_law_things"] zq)(Aa:Cl Y "_law_take" 1 ["_law_bag_here", "_law_many"] zd)(A0:Cl Y "_law_degree" 2 ["_law_bag_here", "_law_n"] zcq)(Ao:Cl Y "_law_sum_of" 3 ["_law_bag_here", "_law_n", "_law_d", "_law_many"] zbu)(Ap:Cl Y "meets_oddly" 1 ["row", "some"] zbn)(A1:Cl Y "_law_meets" 1 ["_law_row", "_law_some"] zdk)(A2:Cl Y "_law_lowered" 2 ["_law_row", "_law_k"] zbo)(A3:Cl Y "lowered" 4 ["row", "k"] zda)(A4:Cl Y "_law_is_sum" 2 ["_law_n", "_law_thing"] zcp):FnOk Y.P Y.w Y.K Y.mg Y.base CX0 5 f fd ["_law_script"] (spLaw Y.K) :=
 have sc:FnScope ["_law_script", "_law_k", "_law_bag_here", "_law_n", "_law_row", "_law_some", "_law_d", "_law_found", "_law_by", "_law_due", "_law_again", "_law_told"] ["_law_script"] (defScope (top 27)):=⟨rfl, rfl, rfl, by decide +kernel, rfl, by decide +kernel, by decide +kernel⟩
 have nd:=sc.nd
 zbbf (k:=4) F sc rfl (fun cdv A outer s H E hr=>(zb (sfr (zbl rfl Ab (sa1 (sad (zl (zeg rfl) zyn rfl Af zqj (sa2 zc (zl zbt zqr rfl Ac znz (sa1 sv)))) zc))) (sgn nd)
 (zb (sst nd (scl Ay hr (sa2 sv sv)))
 (zb (sst nd (scl Az hr (sa1 sv)))
 (zb (sst nd (scl An hr (ze sv (ze sv (sa2 zc (zoa (zig (sa2 zc zc)) (zbg zmo zbde rfl Ah ztv (sa1 (zkt (zne hr.units0) znl sv zc (nomark _)))) (fun _ _=>rfl)))))))
 (zb (sst nd (scl Ag hr (sa1 (sad (zbg zcm zmw rfl Am zmq (sa1 (zxm sv zdu (zdt (scl Aa hr (sa2 sv zc)))))) (zbg zcm zmw rfl Am zmq (sa1 (scl An hr (ze sv (ze sv (sa2 zc zc))))))))))
 (zb (zds (zbs (ziv hr.units) zpb (scl Aa hr (sa2 sv zc)) zc (nomark _)) (zb (sst nd (scl A0 hr (sa2 sv sv)))
 (zb (sst nd (scl Ao hr (ze sv (ze sv (sa2 sv zc)))))
 (zf (sst nd (scl Ag hr (sa1 (sad (zbg zcm zmw rfl Am zmq (sa1 (zxm sv zdu (zdt (scl Aa hr (sa2 sv zc)))))) (zbg zcm zmw rfl Am zmq (sa1 (scl Ao hr (ze sv (ze sv (sa2 sv zc))))))))))))) zby)
 (zb (sst nd (zig (sa2 (scl Ap hr (sa2 sv sv)) (scl Ap hr (sa2 sv sv)))))
 (zb (zds (JW.pt (zte (zbs (zwj hr.units) zpb sv (zey zbak zbat (zig (sa1 (scl A1 hr (sa2 sv sv)))) zc) (nomark _)) (zmg (zgz (zew (zl (zky rfl) zyc rfl Aj zxz (sa1 (scp ["_law_told"] (zbk sv) (fun _ _ _ _ _=>(zl zbe zcn rfl Ae zr (sa2 sv (zks (zft (v:=.ty "bool") rfl Ai zqk rfl) (fun _ _=>.ty _)))))))))) (by first | exact Or.inl rfl | exact Or.inr rfl)))) (zf (zp zux)) zby)
 (zf (sfr (zbk (zig (ze zc (ze zc (ze zc (sa2 (sad zc (scl Aa hr (sa2 sv zc))) (scl Aa hr (sa2 sv (zey zbaj (oI_D fun _ _ _ _=>.int _) zc zc))))))))) (sgn nd)
 (zb (sst nd (scl A2 hr (sa2 sv (zl (zeg rfl) zyn rfl Af zqj (sa2 sv zc)))))
 (zf (sfr (zbl rfl Ab (sa1 zc)) (sgn nd)
 (zb (sst nd (scl A3 hr (sa2 sv sv)))
 (zf (zds (JW.pt (zte (zgz (zew (scl A4 hr (sa2 sv sv)))) (zmg (zbs (zwj hr.units) zpb sv sv (nomark _)) (by first | exact Or.inl rfl | exact Or.inr rfl)))) (zf (zp zux)) zby))))))))))))))))
 (zf (zp zux)))) K52.holds
end
theorem all_mk {l:W.OpenLaw}{w:World}{K:Fg}{h:Heap}{mg:Str->Option Value}{fa:Addr}(X:K.In h)(G:h.Ns mainGlobals mg)(hfa:mg "law"=some (.ref fa))
  (t1:TopF K "_law_bag" (top 14))(t2:TopF K "_law_take" (top 15))(t3:TopF K "_law_letters" (top 21))(t4:TopF K "_law_odd" (top 16))(t5:TopF K "_law_product" (top 19))(t6:TopF K "_law_sum" (top 20))(t7:TopF K "_law_degree" (top 22))(t8:TopF K "_law_of_degree" (top 23))(t9:TopF K "_law_sum_of" (top 24))(t10:TopF K "meets_oddly" (top 9))(t11:TopF K "_law_lowered" (top 26))(t12:TopF K "odd_ways" (top 7))(t13:TopF K "letter_lowered" (top 10))(t14:TopF K "product_lowered" (top 11))(t15:TopF K "is_whole" (top 4))(t16:TopF K "flip" (top 5))(t17:TopF K "lowered" (top 12))(t18:TopF K "_law_meets" (top 25))(t19:TopF K "_law_number" (top 17))(t20:TopF K "_law_is_sum" (top 18))(t21:TopF K "law" (top 27))  (z0:W.nsIn K mainGlobals "len"=some none)(z1:W.nsIn K mainGlobals "abs"=some none)(z2:W.nsIn K mainGlobals "min"=some none)(z3:W.nsIn K mainGlobals "range"=some none)(z4:W.nsIn K mainGlobals "sorted"=some none)(z5:W.nsIn K mainGlobals "tuple"=some none)(z6:W.nsIn K mainGlobals "int"=some none)(z7:W.nsIn K mainGlobals "max"=some none)(z8:W.nsIn K mainGlobals "set"=some none)(z9:W.nsIn K mainGlobals "sum"=some none)(z10:W.nsIn K mainGlobals "bool"=some none)(z11:W.nsIn K mainGlobals "isinstance"=some none)(z12:W.nsIn K mainGlobals "all"=some none)(z13:W.nsIn K mainGlobals "zip"=some none)(z14:W.nsIn K mainGlobals "list"=some none)   :
  ∃ fd:FuncData,(∀(s:Shared) (v:Value), BindsTo s fd ⟨[v],[]⟩ [("_law_script", v)])/\∀ base:Heap, K.In base->base.Ns mainGlobals mg->FnOk l.prog w K mg base CX0 5 fa fd ["_law_script"] (spLaw K):=by
 have Ac:=xcz X G z0;have z_abs:=xcz X G z1;have Af:=xcz X G z2;have Ab:=xcz X G z3;have Ak:=xcz X G z4;have Ad:=xcz X G z5;have Ah:=xcz X G z6;have Al:=xcz X G z7;have z_set:=xcz X G z8;have z_sum:=xcz X G z9;have Ai:=xcz X G z10;have Ae:=xcz X G z11;have Aj:=xcz X G z12;have z_zip:=xcz X G z13;have Am:=xcz X G z14;obtain⟨f,fd,a,F⟩:=t21;have e:=hfa.symm.trans (W.mg_of X G a);cases e;obtain⟨oc,od,kV,doc,pm,an,cdv,ct,osl,rfl,lk,hcd⟩:=id F.ex;refine⟨W.fnOf "law" "law" (defArgs (top 27)) (defBody (top 27)) (defScope (top 27)) .none kV doc pm an cdv ct, fun s v=>.of_eq rfl, fun base _ _=>?_⟩
 let Y:En:=⟨l.prog,w,K,mg,base,h,X,G⟩
 have Ay:=znj (Y:=Y) t1 Ac z_abs Af Ab;have Aa:=zke (Y:=Y) t2;have Az:=zgl (Y:=Y) t3 Aa;have Ag:=zni (Y:=Y) t4 Ak Ad;have Aq:=zgj (Y:=Y) t5 Ab Ad Aa;have An:=znh (Y:=Y) t6 Ab Ag Aa Aq;have A0:=zho (Y:=Y) t7 Ah Aa;have Ar:=zfc (Y:=Y) t8 Ab Al Ad Aa;have Ao:=zhl (Y:=Y) t9 Ab Ag Aa Ar;have Ap:=zhk (Y:=Y) t10 Ac z_set;have A2:=zgk (Y:=Y) t11 Af Ab Ag;have As:=znf (Y:=Y) t12;have Au:=zfb (Y:=Y) t13 Af Al Ab As;have Aw:=zen (Y:=Y) t14 z_sum Au;have Av:=zng (Y:=Y) t15 Ai Ae Ah;have c_flip:=zbaq (Y:=Y) t16;have A3:=zoy (Y:=Y) t17 Ak Ad Av Aw c_flip;have A1:=ziw (Y:=Y) t18 Ac;have Ax:=zhm (Y:=Y) t19 Ai Ae Ah;have A4:=zhn (Y:=Y) t20 Ad Ae Ac Aj z_zip Ax;exact zbfj (Y:=Y) F Ac Af Ab Ah Am Ai Ae Aj Ay Az An Ag Aa A0 Ao Ap A1 A2 A3 A4
end K52
open PySem PySem.W PyProof.Rows
set_option maxRecDepth 100000 in
set_option maxHeartbeats 0 in
theorem PySem.Challenge.cw_raisedsums_k52_rows_lowered_holds : PySem.Challenge.rw_raisedsums_k52_rows_lowered.Holds := by
  w_on; o_law; k_head; (case hw => w_witness2)
  k_fill
  refine L2.zyv (l := PySem.Challenge.rw_raisedsums_k52_rows_lowered) (n := 63) (k := 5) (x := "_law_script") (CX := fun _ => L2.CX0) (sp := fun w => Dd.spLaw _) rfl (by decide) rfl ⟨rfl, by decide, by decide⟩ (fun w h Y => PySem.W.kIn_of Y) ?F (fun _ _ a ns hl _ hS => ⟨a, ns, rfl, hS, hl, fun _ => rfl⟩) (fun _ _ _ _ _ z => z)
  case F =>
    intro w mg fa h KX G hmg
    refine' K52.all_mk KX G hmg ?t1 ?t2 ?t3 ?t4 ?t5 ?t6 ?t7 ?t8 ?t9 ?t10 ?t11 ?t12 ?t13 ?t14 ?t15 ?t16 ?t17 ?t18 ?t19 ?t20 ?t21  ?z0 ?z1 ?z2 ?z3 ?z4 ?z5 ?z6 ?z7 ?z8 ?z9 ?z10 ?z11 ?z12 ?z13 ?z14  
    all_goals first|k_is|kernel_rfl|(refine' L2.zcc ?a ?l ?c ?k;(case a=>k_is);(case l=>k_is);(case c=>k_is);(case k=>k_is))|skip
#print axioms PySem.Challenge.cw_raisedsums_k52_rows_lowered_holds
