import PyProof.Rows.All
import Wide.All
import OpenK.AllK
import Wide.FinOn
import PyProof.EqAt
import PyProof.EqKinds
import PyProof.TupleCall
import PySem.Challenge.RW_raisedsums_k38_counts_done
set_option Elab.async false
set_option linter.all false
set_option maxRecDepth 100000
namespace PySem.W.Fast
theorem tw2495671536090536367:True:=⟨⟩
theorem tw6556403465798170149:True:=⟨⟩
theorem tw14066348950264995058:True:=⟨⟩
theorem tw7260116545999999911:True:=⟨⟩
theorem tw549488838960618947:True:=⟨⟩
theorem tw2131035264673712215:True:=⟨⟩
theorem tw5532915641579744596:True:=⟨⟩
theorem tw8221786675352005812:True:=⟨⟩
theorem tw5801210294907760332:True:=⟨⟩
theorem tw1016495323818555786:True:=⟨⟩
theorem tw10321991661118857198:True:=⟨⟩
theorem tw5449930099408506239:True:=⟨⟩
theorem tw18305969182864842262:True:=⟨⟩
theorem tw17235293171464395973:True:=⟨⟩
theorem tw16936462011989406170:True:=⟨⟩
theorem tw7844449505919494995:True:=⟨⟩
theorem tw12080206702649582560:True:=⟨⟩
theorem tw3743588444466634904:True:=⟨⟩
theorem tw8199994759779529946:True:=⟨⟩
theorem tw11118662876692332385:True:=⟨⟩
theorem tw2351188879288704609:True:=⟨⟩
theorem tw13738633264169295247:True:=⟨⟩
theorem tw13711838323725131975:True:=⟨⟩
theorem tw4224266417619456971:True:=⟨⟩
theorem tw4258683212781960685:True:=⟨⟩
theorem tw2828149494327718240:True:=⟨⟩
theorem tw12010248315927600446:True:=⟨⟩
theorem tw1818311839713236128:True:=⟨⟩
theorem tw11001450668875712247:True:=⟨⟩
theorem tw7928046031371166367:True:=⟨⟩
theorem tw16886818422430979382:True:=⟨⟩
theorem tw15317382685231121062:True:=⟨⟩
theorem tw188973659974752721:True:=⟨⟩
theorem tw10183570130629972090:True:=⟨⟩
theorem tw698446834079877152:True:=⟨⟩
theorem tw2612375651669298288:True:=⟨⟩
theorem tw3795684966141239645:True:=⟨⟩
theorem tw12483318095318467192:True:=⟨⟩
theorem tw1193407709797134351:True:=⟨⟩
theorem tw6962473361726765600:True:=⟨⟩
theorem tw4334241260095329614:True:=⟨⟩
theorem tw15721293682398716301:True:=⟨⟩
end PySem.W.Fast
set_option genSizeOfSpec false
set_option genInjectivity false
abbrev Fg:=PySem.W.Frag
abbrev xba:=@PySem.wpAny_bind
abbrev xbb:=@Nat.le_trans
abbrev xbc:=@List.length_map
abbrev xbd:=@Nat.le_refl
abbrev xbe:=@PySem.wpAny_pure
abbrev xbf:=@List.getElem?_eq_getElem
abbrev xbg:=@Nat.lt_of_lt_of_le
abbrev xbh:=@List.map_cons
abbrev xbi:=@PyProof.Rows.wpS_bind
abbrev xbj:=@PySem.Heap.get?_push_of_some
abbrev xbk:=@PyProof.Rows.wpS_pure
abbrev xbl:=@List.mem_cons_of_mem
abbrev xbm:=@List.getElem?_eq_some_iff
abbrev xbn:=@List.size_toArray
abbrev xbo:=@List.length_append
abbrev xbp:=@List.mem_cons_self
abbrev xbq:=@List.append_assoc
abbrev xbr:=@List.length_cons
abbrev xbs:=@PySem.Heap.lt_size
abbrev xbt:=@List.getD_eq_getElem?_getD
abbrev xbu:=@Nat.le_of_lt
abbrev xbv:=@Array.length_toList
abbrev xbw:=@List.mem_singleton
abbrev xbx:=@Nat.le_add_right
abbrev xby:=@List.mem_of_getElem?
abbrev xbz:=@PySem.Heap.get?_push_size
abbrev xca:=@Nat.le_of_not_lt
abbrev xcb:=@List.getElem?_map
abbrev xcc:=@List.mem_cons
abbrev xcd:=@Option.some.inj
abbrev xce:=@List.mem_append
abbrev xcf:=@Array.getElem?_toList
abbrev xcg:=@Nat.add_sub_cancel'
abbrev xch:=@Nat.add_le_add_left
abbrev xci:=@List.sum_cons
abbrev xcj:=@decide_eq_false
abbrev xck:=@Bool.false_eq_true
abbrev xcl:=@Nat.ne_of_lt
abbrev xcm:=@decide_eq_true
abbrev xcn:=@List.take_length
abbrev xco:=@List.filter_cons_of_neg
abbrev xcp:=@List.filter_cons_of_pos
abbrev xcq:=@Option.map_eq_some_iff
abbrev xcr:=@Nat.add_sub_cancel_left
abbrev xcs:=@List.getElem?_append_left
abbrev xct:=@List.length_take
abbrev xcu:=@Nat.le_of_lt_succ
abbrev xcv:=@Nat.lt_of_le_of_lt
abbrev xcw:=@Nat.lt_of_le_of_ne
abbrev xcx:=@List.getElem?_set_ne
abbrev xcy:=@Nat.le_sub_one_of_lt
abbrev xcz:=@Nat.le_of_succ_le
abbrev xda:=@Int.eq_ofNat_of_zero_le
abbrev xdb:=@List.mem_append_right
abbrev xdc:=@Nat.le_of_eq
abbrev xdd:=@Nat.le_of_add_left_le
abbrev xde:=@List.map_map
abbrev xdf:=@List.getElem?_append_right
abbrev xdg:=@Array.toList_append
abbrev xdh:=@PyProof.Rows.wpS_forRange
abbrev xdi:=@Nat.sub_lt_left_of_lt_add
abbrev xdj:=@decide_eq_true_eq
abbrev xdk:=@List.mem_map
abbrev xdl:=@PySem.W.mg_none_of
abbrev xdm:=@Nat.le_antisymm
abbrev xdn:=@Nat.add_lt_of_lt_sub'
abbrev xdo:=@if_false
abbrev xdp:=@Nat.zero_add
abbrev xdq:=@PySem.wpAny_newObj_type
abbrev xdr:=@List.mem_range
abbrev xds:=@List.map_append
abbrev xdt:=@Bool.and_eq_true
abbrev xdu:=@Nat.add_lt_add_left
abbrev xdv:=@List.take_append_drop
abbrev xdw:=@List.length_filter_le
abbrev xdx:=@PyProof.Rows.slot_tuple_getitem
abbrev xdy:=@Nat.mod_two_eq_zero_or_one
abbrev xdz:=@List.append_nil
abbrev xea:=@Nat.sub_lt_sub_right
abbrev xeb:=@Nat.min_eq_left
abbrev xec:=@List.getElem?_set_self
abbrev xed:=@Nat.zero_le
abbrev xee:=@List.getElem_mem
abbrev xef:=@Nat.not_lt_of_le
abbrev xeg:=@List.getElem_of_mem
abbrev xeh:=@List.flatMap_append
abbrev xei:=@Nat.le_sub_of_add_le'
abbrev xej:=@PySem.W.kia_one
abbrev xek:=@Bool.eq_iff_iff
abbrev xel:=@List.sum_append
abbrev xem:=@Bool.false_ne_true
abbrev xen:=@Option.bind_eq_some_iff
abbrev xeo:=@Nat.succ_le_succ
abbrev xep:=@PySem.wpAny_mono
abbrev xeq:=@PySem.wpAny_call_entry
abbrev xer:=@PySem.wpAny_holding
abbrev xes:=@Nat.le_succ_of_le
abbrev xet:=@Nat.lt_of_succ_lt
abbrev xeu:=@of_decide_eq_true
abbrev xev:=@List.find?_cons
abbrev xew:=@List.lookup_cons
abbrev xex:=@PyProof.Rows.wpS_mono
abbrev xey:=@PySem.Paired.length
abbrev xez:=@Ne.symm
abbrev xfa:=@PySem.F.slot_dict_keyiterator_next
abbrev xfb:=@Nat.sub_le_sub_right
abbrev xfc:=@Nat.mul_le_mul_right
abbrev xfd:=@Nat.sub_pos_of_lt
abbrev xfe:=@Array.toList_push
abbrev xff:=@PySem.wpAny_truthy_bool
abbrev xfg:=@List.mem_filter
abbrev xfh:=@List.nodup_cons
abbrev xfi:=@List.length_set
abbrev xfj:=@Array.perm_iff_toList_perm
abbrev xfk:=@Nat.min_le_right
abbrev xfl:=@Nat.lt_of_not_le
abbrev xfm:=@List.cons_append
abbrev xfn:=@List.getElem?_drop
abbrev xfo:=@Nat.lt_of_lt_of_eq
abbrev xfp:=@List.getElem?_eq_none
abbrev xfq:=@List.drop_eq_getElem_cons
abbrev xfr:=@Nat.sub_le
abbrev xfs:=@List.pairwise_append
abbrev xft:=@List.mem_of_mem_drop
abbrev xfu:=@List.mem_of_mem_take
abbrev xfv:=@beq_iff_eq
abbrev xfw:=@if_true
abbrev xfx:=@PySem.wpAny_typeNameOfWhole_keyiter
abbrev xfy:=@PySem.mem_of_lookup
abbrev xfz:=@List.map_congr_left
abbrev xga:=@Nat.sub_le_sub_left
abbrev xgb:=@beq_eq_false_iff_ne
abbrev xgc:=@List.nodup_nil
abbrev xgd:=@List.all_eq_true
abbrev xge:=@List.take_of_length_le
abbrev xgf:=@PyProof.Rows.wpS_modify
abbrev xgg:=@Nat.sub_add_cancel
abbrev xgh:=@List.length_replicate
abbrev xgi:=@List.Perm.append_left
abbrev xgj:=@List.perm_append_comm
abbrev xgk:=@PySem.wpAny_passesOwn
abbrev xgl:=@Nat.lt_irrefl
abbrev xgm:=@Bool.not_true
abbrev xgn:=@Int.toNat_natCast
abbrev xgo:=@List.length_range
abbrev xgp:=@List.count_append
abbrev xgq:=@PySem.wpAny_rule
abbrev xgr:=@List.length_drop
abbrev xgs:=@List.take_succ_eq_append_getElem
abbrev xgt:=@beq_self_eq_true
abbrev xgu:=@List.length_reverse
abbrev xgv:=@List.countP_cons_of_pos
abbrev xgw:=@Nat.lt_add_of_pos_right
abbrev xgx:=@List.getElem?_cons_succ
abbrev xgy:=@List.getElem?_cons_zero
abbrev xgz:=@PyProof.Rows.wpS_get
abbrev xha:=@PySem.Calls.spliced_cons
abbrev xhb:=@Nat.sub_lt
abbrev xhc:=@Nat.min_le_left
abbrev xhd:=@List.pairwise_cons
abbrev xhe:=@List.filter_append
abbrev xhf:=@PySem.tupleKind_room_in1
abbrev xhg:=@PySem.Calls.callWith_builtin
abbrev xhh:=@List.Perm.append_right
abbrev xhi:=@List.drop_eq_nil_of_le
abbrev xhj:=@decide_true
abbrev xhk:=@List.reverse_cons
abbrev xhl:=@List.flatMap_cons
abbrev xhm:=@PySem.wpAny_dictEntries
abbrev xhn:=@Nat.lt_trans
abbrev xho:=@Nat.lt_or_ge
abbrev xhp:=@Array.extract_eq_empty_of_le
abbrev xhq:=@decide_false
abbrev xhr:=@PyProof.Rows.callWith_type1
abbrev xhs:=@List.mem_append_left
abbrev xht:=@PySem.Calls.evalArgs_plain
abbrev xhu:=@Nat.min_eq_right
abbrev xhv:=@List.mem_reverse
abbrev xhw:=@Array.toList_reverse
abbrev xhx:=@List.reverse_reverse
abbrev xhy:=@List.mem_flatMap
abbrev xhz:=@PySem.wpAny_forIn_list
abbrev xia:=@Nat.add_assoc
abbrev xib:=@PySem.sizeLine_eq
abbrev xic:=@List.filterMap_cons
abbrev xid:=@PySem.Heap.SameBut.update
abbrev xie:=@List.filter_eq_self
abbrev xif:=@Array.getElem?_eq_getElem
abbrev xig:=@List.pairwise_iff_getElem
abbrev xih:=@Int.emod_nonneg
abbrev xii:=@PySem.wpAny_specialOf
abbrev xij:=@PySem.F.args_tuple_add_2
abbrev xik:=@List.map_nil
abbrev xil:=@Nat.sub_self
abbrev xim:=@Nat.pos_of_ne_zero
abbrev xin:=@Nat.eq_zero_or_pos
abbrev xio:=@Int.zero_add
abbrev xip:=@List.count_eq_zero
abbrev xiq:=@List.sum_nil
abbrev xir:=@PyProof.Rows.slot_tuple_getitem
abbrev xis:=@of_decide_eq_false
abbrev xit:=@PySem.F.entry_tuple_add
abbrev xiu:=@PySem.F.plainAttrs_dict
abbrev xiv:=@List.countP_cons_of_neg
abbrev xiw:=@List.pairwise_singleton
abbrev xix:=@List.eraseIdx_cons_succ
abbrev xiy:=@PySem.F.plainAttrs_list
abbrev xiz:=@PySem.Calls.spliced_nil
abbrev xja:=@Nat.zero_lt_of_lt
abbrev xjb:=@List.ext_getElem?
abbrev xjc:=@Nat.lt_succ_of_lt
abbrev xjd:=@PySem.F.slot_tuple_hash
abbrev xje:=@List.nodup_append
abbrev xjf:=@PySem.wpAny_pyIter_list
abbrev xjg:=@PySem.F.slot_tuple_add
abbrev xjh:=@PySem.wpAny_field
abbrev xji:=@List.any_cons
abbrev xjj:=@List.any_eq_true
abbrev xjk:=@Nat.lt_succ_self
abbrev xjl:=@PySem.wpAny_isInstance
abbrev xjm:=@PyProof.Rows.wpS_lift
abbrev xjn:=@PySem.F.slot_tuple_lt
abbrev xjo:=@PySem.Heap.get?_update_self
abbrev xjp:=@List.length_singleton
abbrev xjq:=@PySem.F.slot_dict_get
abbrev xjr:=@PySem.F.slot_dict_pop
abbrev xjs:=@PySem.isSubtype_tuple_tuple
abbrev xjt:=@Nat.ne_of_gt
abbrev xju:=@List.length_nil
abbrev xjv:=@Int.ediv_one
abbrev xjw:=@Nat.add_zero
abbrev xjx:=@List.foldl_cons
abbrev xjy:=@PySem.PassesOwn.never
abbrev xjz:=@PySem.F.slot_tuple_eq
abbrev xka:=@Nat.pow_le_pow_right
abbrev xkb:=@PySem.wpAny_execs_nil
abbrev xkc:=@List.eq_nil_of_length_eq_zero
abbrev xkd:=@Int.mul_le_mul_of_nonneg_left
abbrev xke:=@List.zip_cons_cons
abbrev xkf:=@List.filterMap_map
abbrev xkg:=@PySem.Heap.IsSliceOf.new
abbrev xkh:=@Array.append_empty
abbrev xki:=@Nat.add_sub_cancel
abbrev xkj:=@Array.forIn_toList
abbrev xkk:=@PySem.wpAny_pyIter_tuple
abbrev xkl:=@PySem.wpAny_Call_Name_kw
abbrev xkm:=@PySem.wpAny_tupleItemsOf
abbrev xkn:=@PySem.evalPart_none
abbrev xko:=@Nat.lt_succ_of_le
abbrev xkp:=@List.mapM_toArray
abbrev xkq:=@PySem.wpAny_sequenceKey
abbrev xkr:=@PySem.slot_list_getitem
abbrev xks:=@PySem.wpAny_Call_method
abbrev xkt:=@List.ext_getElem
abbrev xku:=@List.getElem_map
abbrev xkv:=@Nat.max_eq_right
abbrev xkw:=@Int.pow_succ
abbrev xkx:=@List.drop_length
abbrev xky:=@Nat.succ_mul
abbrev xkz:=@map_eq_pure_bind
abbrev xla:=@and_self
abbrev xlb:=@List.of_mem_zip
abbrev xlc:=@Nat.le_add_left
abbrev xld:=@Nat.le_succ
abbrev xle:=@Nat.two_pos
abbrev xlf:=@Int.neg_neg
abbrev xlg:=@List.drop_drop
set_option maxHeartbeats 0
namespace L2
open PySem PySem.Spec PyProof.Rows
noncomputable abbrev Key:=Sum Int Str
noncomputable def keyIs:Key->Value->Bool
 | .inl k,v=>Value.isInt k v
 | .inr x,v=>Value.isStrOf x v
noncomputable def keyH (w:World):Key->Int
 | .inl k=>hashInt k
 | .inr x=>hashStr w x
theorem zy:∀{k:Key} {v:Value},keyIs k v=true->(∃i t,k=Sum.inl i/\v=Value.int i t)\/(∃x t,k=Sum.inr x/\v=Value.str x t)
 | .inl i,v,h=>by
  obtain⟨t,e⟩:=Value.isInt_shape (k:=i) (v:=v) h;exact .inl ⟨i,t,rfl,e⟩
 | .inr x,v,h=>by
  obtain⟨t,e⟩:=Value.isStrOf_shape (x:=x) (v:=v) h;exact .inr ⟨x,t,rfl,e⟩
theorem zrc (i:Int)(t:Tok):keyIs (.inl i) (.int i t)=true:=by simp[keyIs,Value.isInt]
theorem zrb (x:Str)(t:Tok):keyIs (.inr x) (.str x t)=true:=by simp[keyIs,Value.isStrOf]
theorem zbep (a b:Int):decide ((Sum.inl a:Key)=Sum.inl b)=(a==b):=by
 by_cases e:a=b
 ·subst e;simp
 ·have h:¬ (Sum.inl a:Key)=Sum.inl b:=fun q=>e (Sum.inl.inj q)
  rw[xcj h];exact(xgb.mpr e).symm
theorem zbem (a b:Str):decide ((Sum.inr a:Key)=Sum.inr b)=decide (a=b):=by
 by_cases e:a=b
 ·subst e;simp
 ·have h:¬ (Sum.inr a:Key)=Sum.inr b:=fun q=>e (Sum.inr.inj q)
  rw[xcj h,xcj e]
theorem zbeo (a:Int)(b:Str):decide ((Sum.inl a:Key)=Sum.inr b)=false:=xcj (fun q=>nomatch q)
theorem zben (a:Str)(b:Int):decide ((Sum.inr a:Key)=Sum.inl b)=false:=xcj (fun q=>nomatch q)
noncomputable def mixKind (prog:Program) (w:World):PySem.KeyKind prog w Key where
 is:=keyIs
 hash:=keyH w
 inj:=fun v a b ha hb=>by
  rcases zy ha with⟨i,t,rfl,rfl⟩ | ⟨x,t,rfl,rfl⟩
  ·rcases zy hb with⟨j,u,rfl,e⟩ | ⟨y,u,rfl,e⟩
   ·injection e with e1 _;rw[e1]
   ·exact nomatch e
  ·rcases zy hb with⟨j,u,rfl,e⟩ | ⟨y,u,rfl,e⟩
   ·exact nomatch e
   ·injection e with e1 _;rw[e1]
 byValue:=fun k v h=>by
  rcases zy h with⟨i,t,rfl,rfl⟩ | ⟨x,t,rfl,rfl⟩<;>rfl
 pyHash:=fun hv h=>by
  rcases zy hv with⟨i,t,rfl,rfl⟩ | ⟨x,t,rfl,rfl⟩
  ·exact wpAny_pyHash_int h
  ·exact wpAny_pyHash_str h
 eqBool:=fun hu hv h=>by
  rcases zy hu with⟨i,t,rfl,rfl⟩ | ⟨x,t,rfl,rfl⟩
  ·rcases zy hv with⟨j,u,rfl,rfl⟩ | ⟨y,u,rfl,rfl⟩
   ·rw[zbep] at h;exact wpAny_eqBool_int h
   ·rw[zbeo] at h;exact SeqAt.EqAt.int_str i t y u _ _ _ _ h
  ·rcases zy hv with⟨j,u,rfl,rfl⟩ | ⟨y,u,rfl,rfl⟩
   ·rw[zben] at h;exact SeqAt.EqAt.str_int x t j u _ _ _ _ h
   ·rw[zbem] at h;exact wpAny_eqBool_str h
 «strs»:=fun k x t v h=>by
  rcases zy h with⟨i,u,rfl,e⟩ | ⟨y,u,rfl,e⟩
  ·exact nomatch e
  ·injection e with e1 _
   subst e1;cases v<;>rfl
theorem zmc (prog:Program)(w:World)(i:Int)(t:Tok):(mixKind prog w).is (.inl i) (.int i t)=true:=zrc i t
theorem zmb (prog:Program)(w:World)(x:Str)(t:Tok):(mixKind prog w).is (.inr x) (.str x t)=true:=zrb x t
set_option genInjectivity true in
inductive V where
 | non | bl (b:Bool) | int (i:Int) | str (x:Str) | byt (b:Array UInt8) | flt (b:UInt64) | ref (a:Addr) | ty (n:String)
 deriving DecidableEq
noncomputable def RelV:V->Value->Prop
 | .non,u=>u=Value.none
 | .bl b,u=>u=Value.bool b
 | .int i,u=>∃t,u=Value.int i t
 | .str x,u=>∃t,u=Value.str x t
 | .byt b,u=>∃t,u=Value.bytes b t
 | .flt b,u=>∃t,u=Value.float b t
 | .ref a,u=>u=Value.ref a
 | .ty n,u=>u=Value.type n
noncomputable abbrev Vals:List V->List Value->Prop:=Paired RelV
theorem Vals.length {xs:List V}{us:List Value}(r:Vals xs us):xs.length=us.length:=xey r
theorem Vals.get:∀{xs:List V} {us:List Value} {i:Nat} {x:V},Vals xs us->xs[i]?=some x->∃u,us[i]?=some u/\RelV x u
 | _,_,_,_,.nil,e=>by simp at e
 | _,_,0,_,.cons r _,e=>by simp at e;subst e;exact⟨_,rfl,r⟩
 | _,_,i+1,x,.cons _ t,e=>by
  obtain⟨u,h1,h2⟩:=Vals.get (i:=i) (x:=x) t (by simpa using e);exact⟨u,by simpa using h1,h2⟩
theorem Vals.set {x:V}{u:Value}(r:RelV x u):∀{xs:List V} {us:List Value} (i:Nat),Vals xs us->Vals (xs.set i x) (us.set i u)
 | _,_,_,.nil=>.nil
 | _,_,0,.cons _ t=>.cons r t
 | _,_,i+1,.cons q t=>.cons q (Vals.set r i t)
theorem Vals.append:∀{xs ys:List V} {us ws:List Value},Vals xs us->Vals ys ws->Vals (xs++ys) (us++ws)
 | _,_,_,_,.nil,s=>s
 | _,_,_,_,.cons r t,s=>.cons r (Vals.append t s)
theorem Vals.take:∀{xs:List V} {us:List Value} (n:Nat),Vals xs us->Vals (xs.take n) (us.take n)
 | _,_,0,_=>.nil
 | _,_,_+1,.nil=>.nil
 | _,_,n+1,.cons r t=>.cons r (Vals.take n t)
theorem Vals.drop:∀{xs:List V} {us:List Value} (n:Nat),Vals xs us->Vals (xs.drop n) (us.drop n)
 | _,_,0,r=>r
 | _,_,_+1,.nil=>.nil
 | _,_,n+1,.cons _ t=>Vals.drop n t
noncomputable def RelO:Option V->Option Value->Prop
 | some v,some u=>RelV v u
 | none,none=>True
 | _,_=>False
noncomputable def KV {κ:Type}:List (κ×V)->List (κ×Value)->Prop:=Paired fun(p:κ×V) (q:κ×Value)=>p.1=q.1/\RelV p.2 q.2
noncomputable def kV:Key->V
 | .inl i=>.int i
 | .inr x=>.str x
set_option genInjectivity true in
inductive HO where
 /-- a list -/
 | lst (xs:List V)
 /-- a tuple (never changes) -/
 | tup (xs:List V)
 /-- a dict whose keys are ints and texts;one whose keys are tuples of ints and texts (the empty one is both) -/
 | dK (kvs:List (Key×V)) | dT (kvs:List (List Key×V))
 /-- a set of ints: its members,its size -/
 | set (S:Int->Bool) (n:Nat)
 /-- an instance of the class at C,its dict at dx,its attributes -/
 | ins (C dx:Addr) (fs:List (Str×V))
 /-- the dict of the instance at x -/
 | own (x:Addr)
 /-- the dict of an exception -/
 | xd (fs:List (Str×V))
 /-- a bound method,f of x -/
 | met (f x:Addr)
 /-- a range object lo,lo+1,.. below hi -/
 | rng (lo hi:Int)
 /-- a thing that is known to the object (the script;a dict while a loop walks it): read,never written while it is so -/
 | frz (o:Obj) (u:HO)
 /-- a code object's table -/
 | tbl (ps:Array Value)
 /-- any other thing,by what is true of its one object (a def of one's own: SetO a S n:=HO.ext fun h=>..) -/
 | ext (φ:Heap->Prop)
noncomputable abbrev Hp:=Addr->Option HO
noncomputable def upd (H:Hp) (a:Addr) (o:HO):Hp:=fun b=>if b=a then some o else H b
theorem zk {H:Hp}{a:Addr}{o:HO}:upd H a o a=some o:=by unfold upd;rw[if_pos rfl]
theorem zn {H:Hp}{a b:Addr}{o:HO}(h:b≠a):upd H a o b=H b:=by unfold upd;rw[if_neg h]
theorem zbhm {H:Hp}{a b:Addr}{o u:HO}(h:H a=some o)(h':H b=some u)(d:o≠u):a≠b:=by
 intro e;subst e;rw[h] at h';exact d (xcd h')
theorem zh {H:Hp}{a b:Addr}{o:HO}(h:H a=some o)(h':H b=none):a≠b:=by
 intro e;subst e;rw[h] at h';cases h'
section
variable (P:Program)(w:World)
noncomputable def ObjOk (H:Hp) (h:Heap) (a:Addr):HO->Prop
 | .lst xs=>xs.length<=sizeLine/\∃(its:List Value) (n:Nat), Vals xs its/\h.get? a=some { cls:=.type "list", data:=.seq its.toArray n }
 | .tup xs=>xs.length<=sizeLine/\∃its:List Value,Vals xs its/\IsTup h a its.toArray
 | .dK kvs=>kvs.length<=sizeLine/\(a==sysModules)=false/\∃vs,KV kvs vs/\h.DictOf (mixKind P w) a vs
 | .dT kvs=>kvs.length<=sizeLine/\(a==sysModules)=false/\∃xs:List (List Key×Addr×Value),
  Paired (fun(p:List Key×V) (q:List Key×Addr×Value)=>p.1=q.1/\H q.2.1=some (.tup (p.1.map kV))/\RelV p.2 q.2.2) kvs xs /\
  ∃o es ep,h.get? a=some o/\o.ExactDict/\o.data=.dict es ep/\es.toList=xs.map (entryOfKey (tupleKind (mixKind P w)))/\(xs.map (·.1)).Nodup
 | .set S n=>h.SetOf (intKind P w) a S n
 | .ins C dx fs=>H dx=some (.own a)/\fs.length<=1000/\dx≠a/\h.get? a=some (W.instObj C dx) /\
  ∃mA,h.Ns1 dx mA/\(∀f,RelO (fs.lookup f) (mA f))/\PySem.Within mA (fs.map (·.1))
 | .own _=>∃o,h.get? a=some o
 | .xd fs=>∃mA,h.Ns1 a mA/\∀f,RelO (fs.lookup f) (mA f)
 | .rng lo hi=>∃ t u v, h.get? a=some { cls:=.type "range", data:=.fields #[.int lo t, .int hi u, .int 1 v] }
 | .frz o u=>h.get? a=some o/\ObjOk H h a u
 | .tbl ps=>h.get? a=some {cls:=.none,data:=.fields ps}
 | .met f x=>h.get? a=some (W.methodObj (.ref f) (.ref x))
 | .ext φ=>φ h/\(∃o,h.get? a=some o)/\∀h1 h2:Heap,φ h1->(∀o,h1.get? a=some o->h2.get? a=some o)->φ h2
noncomputable def HOk (H:Hp) (h:Heap):Prop:=∀a o,H a=some o->ObjOk P w H h a o
end
section
variable {P:Program}{w:World}{H H':Hp}{h h':Heap}{a:Addr}{o:HO}
theorem ObjOk.lt (x:ObjOk P w H h a o):a < h.objs.size:=by
 cases o with
 | lst xs=>obtain⟨_,_,_,_,e⟩:=x;exact xbs e
 | tup xs=>obtain⟨_,_,_,p⟩:=x;exact p.lt
 | dK kvs=>obtain⟨_,_,_,_,o,_,_,e,_⟩:=x;exact xbs e
 | dT kvs=>obtain⟨_,_,_,_,o,_,_,e,_⟩:=x;exact xbs e
 | set S n=>obtain⟨o,_,_,_,e,_⟩:=x;exact xbs e
 | ins C dx fs=>obtain⟨_,_,_,e,_⟩:=x;exact xbs e
 | own y=>obtain⟨_,e⟩:=x;exact xbs e
 | xd fs=>obtain⟨_,⟨_,_,_,e,_⟩,_⟩:=x;exact xbs e
 | rng lo hi=>obtain⟨_,_,_,e⟩:=x;exact xbs e
 | frz ob u=>obtain⟨e,_⟩:=x;exact xbs e
 | tbl ps=>exact xbs (show h.get? a=some _ from x)
 | met f y=>exact xbs (show h.get? a=some _ from x)
 | ext φ=>obtain⟨_,⟨_,e⟩,_⟩:=x;exact xbs e
theorem Paired.mapP {α β:Type}{F G:α->β->Prop}:∀{l₁:List α} {l₂:List β},Paired F l₁ l₂->(∀a b,F a b->G a b)->Paired G l₁ l₂
 | _,_,.nil,_=>.nil
 | _,_,.cons r t,f=>.cons (f _ _ r) (Paired.mapP t f)
theorem ObjOk.stay (x:ObjOk P w H h a o)(k:∀b u,(b=a\/H b=some (.own a))->h.get? b=some u->h'.get? b=some u)
  (ho:∀b,H b=some (.own a)->H' b=some (.own a))(ht:∀b xs,H b=some (.tup xs)->H' b=some (.tup xs)):ObjOk P w H' h' a o:=by
 induction o with
 | lst xs=>obtain⟨z,its,n,r,e⟩:=x;exact⟨z,its,n,r,k _ _ (.inl rfl) e⟩
 | tup xs=>obtain⟨z,its,r,ob,e,c⟩:=x;exact⟨z,its,r,ob,k _ _ (.inl rfl) e,c⟩
 | dK kvs=>obtain⟨z,y,vs,r,ob,es,ep,e,c⟩:=x;exact⟨z,y,vs,r,ob,es,ep,k _ _ (.inl rfl) e,c⟩
 | dT kvs =>
  obtain⟨z,y,xs,r,ob,es,ep,e,c⟩:=x;exact⟨z,y,xs,Paired.mapP r fun p q z=>⟨z.1,ht _ _ z.2.1,z.2.2⟩,ob,es,ep,k _ _ (.inl rfl) e,c⟩
 | set S n=>obtain⟨ob,es,ep,t,e,c⟩:=x;exact⟨ob,es,ep,t,k _ _ (.inl rfl) e,c⟩
 | ins C dx fs =>
  obtain⟨d,z,ne,e,mA,⟨od,es,ep,e2,c⟩,r⟩:=x;exact⟨ho _ d,z,ne,k _ _ (.inl rfl) e,mA,⟨od,es,ep,k _ _ (.inr d) e2,c⟩,r⟩
 | own y=>obtain⟨ob,e⟩:=x;exact⟨ob,k _ _ (.inl rfl) e⟩
 | xd fs=>obtain⟨mA,⟨od,es,ep,e,c⟩,r⟩:=x;exact⟨mA,⟨od,es,ep,k _ _ (.inl rfl) e,c⟩,r⟩
 | rng lo hi=>obtain⟨t,u,v,e⟩:=x;exact⟨t,u,v,k _ _ (.inl rfl) e⟩
 | frz ob u ih=>obtain⟨e,q⟩:=x;exact⟨k _ _ (.inl rfl) e,ih q⟩
 | tbl ps =>
  have e:h.get? a=some {cls:=.none,data:=.fields ps}:=x;show h'.get? a=some {cls:=.none,data:=.fields ps};exact k a _ (.inl rfl) e
 | met f y =>
  have e:h.get? a=some (W.methodObj (.ref f) (.ref y)):=x;show h'.get? a=some (W.methodObj (.ref f) (.ref y));exact k a _ (.inl rfl) e
 | ext φ=>obtain⟨p,⟨o,e⟩,st⟩:=x;exact⟨st _ _ p fun o q=>k _ _ (.inl rfl) q,⟨o,k _ _ (.inl rfl) e⟩,st⟩
theorem HOk.lt (x:HOk P w H h)(e:H a=some o):a < h.objs.size:=(x a o e).lt
theorem HOk.fresh (x:HOk P w H h)(e:h.objs.size<=a):H a=none:=by
 cases q:H a with
 | none=>rfl
 | some u=>exact absurd (xbg (x.lt q) e) (xgl _)
theorem HOk.kept (x:HOk P w H h)(k:∀b u,h.get? b=some u->h'.get? b=some u):HOk P w H h':=fun a o e =>
 (x a o e).stay (fun b u _ q=>k b u q) (fun _ q=>q) fun _ _ q=>q
theorem HOk.laid (x:HOk P w H h)(k:∀b u,h.get? b=some u->h'.get? b=some u)(hp:h.objs.size<=a)(new:ObjOk P w (upd H a o) h' a o):HOk P w (upd H a o) h':=fun b u e=>by
 have hn:=x.fresh hp;by_cases hb:b=a
 ·subst hb;rw[zk] at e;cases e;exact new
 ·rw[zn hb] at e;exact(x b u e).stay (fun c v _ q=>k c v q) (fun c q=>by rw[zn (zh q hn)];exact q) fun c xs q=>by rw[zn (zh q hn)];exact q
end
noncomputable def Rd (H:Hp) (a:Addr) (u:HO):Prop:=H a=some u\/∃o,H a=some (.frz o u)
theorem Rd.ok {P:Program}{w:World}{H:Hp}{h:Heap}{a:Addr}{u:HO}(r:Rd H a u)(x:HOk P w H h):ObjOk P w H h a u:=by
 rcases r with r | ⟨o,r⟩
 ·exact x a u r
 ·obtain⟨_,q⟩:=x a _ r;exact q
noncomputable def Mut:Option HO->Prop
 | some (.lst _)=>True
 | some (.dK _)=>True
 | some (.dT _)=>True
 | some (.set _ _)=>True
 | some (.ins _ _ _)=>True
 | some (.ext _)=>True
 | _=>False
section
variable {P:Program}{w:World}{H:Hp}{h h':Heap}{x e:Addr}{o':HO}
theorem HOk.write (ok:HOk P w H h)(mu:Mut (H x))(he:e=x\/H e=some (.own x))(k:∀b u,b≠e->h.get? b=some u->h'.get? b=some u)(heo:∃u,h'.get? e=some u)
  (new:ObjOk P w (upd H x o') h' x o'):HOk P w (upd H x o') h':=fun b u q=>by
 have nown:∀c y,H c=some (.own y)->c≠x:=fun c y r z=>by subst z;rw[r] at mu;exact mu
 have ntup:∀c xs,H c=some (.tup xs)->c≠x:=fun c xs r z=>by subst z;rw[r] at mu;exact mu
 by_cases hb:b=x
 ·subst hb;rw[zk] at q;cases q;exact new
 ·rw[zn hb] at q;by_cases hbe:b=e
  ·have q':H b=some (.own x):=by
    rcases he with z | z
    ·exact absurd (hbe.trans z) hb
    ·rw[hbe];exact z
   rw[q] at q';cases q'
   obtain⟨v,hv⟩:=heo;exact⟨v,by rw[hbe];exact hv⟩
  ·refine(ok b u q).stay (fun c v hc r=>k c v ?_ r) (fun c r=>by rw[zn (nown c b r)];exact r) fun c xs r=>by rw[zn (ntup c xs r)];exact r
   rcases hc with rfl | hc
   ·exact hbe
   ·rintro rfl;rcases he with z | z
    ·exact nown c b hc z
    ·rw[hc] at z;cases z;exact hb rfl
end
structure Un (fs ex:List Addr) (H H':Hp) (h h':Heap):Prop where
 keep:∀b o,h.get? b=some o->H b=none->b∉fs->b∉ex->h'.get? b=some o
 slot:∀b o,h.get? b=some o->H b=none->b∈fs->b∉ex->∃sl,h'.get? b=some {o with slots:=sl}
 free:∀b o,h.get? b=some o->H b=none->b∉ex->H' b=none
 there:∀b o,h.get? b=some o->b∉ex->∃o',h'.get? b=some o'
 tups:∀b xs,H b=some (.tup xs)->H' b=some (.tup xs)
 frzs:∀b o u,H b=some (.frz o u)->H' b=some (.frz o u)
 tbls:∀b ps,H b=some (.tbl ps)->∃more,H' b=some (.tbl (ps++more))
section
variable {fs fs' ex ex':List Addr}{H H1 H2:Hp}{h h1 h2 h':Heap}{a x e:Addr}{o:HO}
theorem Un.any (u:Un fs ex H H1 h h1){b:Addr}{ob:Obj}(q:h.get? b=some ob)(n:H b=none)(hx:b∉ex):∃sl,h1.get? b=some {ob with slots:=sl}:=by
 by_cases hb:b∈fs
 ·exact u.slot b ob q n hb hx
 ·exact⟨ob.slots,u.keep b ob q n hb hx⟩
theorem Un.kept (k:∀b u,h.get? b=some u->h'.get? b=some u):Un fs ex H H h h' :=
 ⟨fun b ob q _ _ _=>k b ob q,fun b ob q _ _ _=>⟨ob.slots,k b ob q⟩,fun _ _ _ n _=>n,fun b ob q _=>⟨ob,k b ob q⟩,fun _ _ q=>q,fun _ _ _ q=>q,fun _ ps q=>⟨#[],by rw[q];simp⟩⟩
theorem Un.refl:Un fs ex H H h h:=Un.kept fun _ _ q=>q
theorem Un.laid (k:∀b u,h.get? b=some u->h'.get? b=some u)(hp:h.objs.size<=a)(hn:H a=none):Un fs ex H (upd H a o) h h' where
 keep:=fun b u q _ _ _=>k b u q
 slot:=fun b u q _ _ _=>⟨u.slots,k b u q⟩
 free:=fun b u q n _=>by rw[zn (xcl (xbg (xbs q) hp))];exact n
 there:=fun b u q _=>⟨u,k b u q⟩
 tups:=fun b xs q=>by rw[zn (zh q hn)];exact q
 frzs:=fun b u xs q=>by rw[zn (zh q hn)];exact q
 tbls:=fun b ps q=>⟨#[],by rw[zn (zh q hn),q];simp⟩
theorem Un.write (mu:Mut (H x))(he:e=x\/H e=some (.own x))(k:∀b u,b≠e->h.get? b=some u->h'.get? b=some u)(heo:∃u,h'.get? e=some u):Un fs ex H (upd H x o) h h':=by
 have hx:∀b,H b=none->b≠x:=fun b n z=>by subst z;rw[n] at mu;exact mu
 have hb:∀b,H b=none->b≠e:=fun b n z=>by
  subst z;rcases he with r | r
  ·exact hx b n r
  ·rw[n] at r;cases r
 have hm:∀b u,H b=some u->¬ Mut (some u)->b≠x:=fun b u q nm z=>by subst z;rw[q] at mu;exact nm mu
 refine⟨fun b u q n _ _=>k b u (hb b n) q,fun b u q n _ _=>⟨u.slots,k b u (hb b n) q⟩,fun b u q n _=>by rw[zn (hx b n)];exact n,fun b u q _=>?_,
  fun b xs q=>by rw[zn (hm b _ q fun z=>z)];exact q,fun b u xs q=>by rw[zn (hm b _ q fun z=>z)];exact q,fun b ps q=>⟨#[],by rw[zn (hm b _ q fun z=>z),q];simp⟩⟩
 by_cases hbe:b=e
 ·subst hbe;exact heo
 ·exact⟨u,k b u hbe q⟩
end
noncomputable def trk (h:Heap) (H:Hp):List Addr:=(List.range h.objs.size).filter fun a=>(H a).isSome
noncomputable def hidT (h:Heap) (H:Hp):Heap:=W.hideAll h (trk h H)
theorem zrg (h:Heap)(H:Hp):(hidT h H).objs.size=h.objs.size:=W.hideAll_size _ _
theorem zuy {h:Heap}{H:Hp}{b:Addr}{o:Obj}(e:h.get? b=some o)(n:H b=none):(hidT h H).get? b=some o :=
 W.hideAll_get _ e fun hm=>by
  have q:(H b).isSome=true:=(xfg.mp hm).2;rw[n] at q;simp at q
theorem zyx {h:Heap}{H:Hp}{b:Addr}{o:Obj}(e:(hidT h H).get? b=some o):h.get? b=some o/\H b=none:=by
 have e':h.get? b=some o:=W.of_hideAll (trk h H) e;refine⟨e',?_⟩;cases q:H b with
 | none=>rfl
 | some x =>
  have hm:b∈trk h H:=xfg.mpr ⟨xdr.mpr (xbs e'),by simp[q]⟩;have z:(hidT h H).get? b=none:=W.hideAll_none (trk h H) hm;rw[z] at e;cases e
structure Mod (K:Fg) (mg:Str->Option Value) (base:Heap):Prop where
 kin:K.In base
 glob:base.Ns mainGlobals mg
 blt:∃ mb, base.Ns builtinsNs mb/\∀ x:Str, x≠"__name__"->mb x=bootBuiltins x
 nolimit:base.NoLimit
structure Cx where
 prog:Program
 w:World
 K:Fg
 mg:Str->Option Value
 base:Heap
 A:Around
 N:List Str
 s₀:Shared
 H₀:Hp
 env:Env
 outer:List Env
 stack:List Env
 ex:List Addr
 fn:Str->Bool
 calm:Bool
 pn:List (Addr×Obj)
 xe:Value->Shared->Prop
noncomputable def frs (l:List Env):List Addr:=l.filterMap (·.frame)
noncomputable abbrev Cx.fs (X:Cx):List Addr:=frs X.outer
noncomputable def Vis (sc:Scope) (x:Str):Prop:=sc.names.lookup x=some .local\/sc.names.lookup x=some .cell\/sc.names.lookup x=some .free
noncomputable def Loc (sc:Scope) (x:Str):Prop:=sc.names.lookup x=some .local\/sc.names.lookup x=some .cell
noncomputable def Look (env:Env) (h:Heap) (m:Str->Option Value) (x:Str) (u:Value):Prop :=
 (env.kindOf x=some .local/\m x=some u)\/((env.kindOf x=some .cell\/env.kindOf x=some .free)/\∃c,env.cells.lookup x=some c/\h.IsCell c (some u))
structure Cx.Ok (X:Cx):Prop where
 mod:Mod X.K X.mg X.base
 kind:X.env.scope.kind=.function
 glob:X.env.globals=mainGlobals
 blt:X.env.builtins=builtinsNs
 above:X.s₀.heap.objs.size<=X.env.locals
 inj:∀x y c,X.env.cells.lookup x=some c->X.env.cells.lookup y=some c->x=y
 has:∀x,(X.env.kindOf x=some .cell\/X.env.kindOf x=some .free)->∃c,X.env.cells.lookup x=some c
 cab:∀x c,X.fn x=true->X.env.cells.lookup x=some c->X.s₀.heap.objs.size<=c
 hd:X.calm=true->X.A.handled=none
 frames:X.A.frames=some X.stack
 stk:X.stack=X.outer\/(X.stack=X.env::X.outer/\X.env.frame=some X.env.locals)
 exf:∀b∈X.ex,b≠X.env.locals/\∀x c,X.env.cells.lookup x=some c->c≠b
 bs:∀b o,X.base.get? b=some o->X.s₀.heap.get? b=some o/\X.H₀ b=none
 bsz:X.base.objs.size<=X.s₀.heap.objs.size
 noex:∀b o,X.base.get? b=some o->b∉X.ex
 exfs:∀b∈X.ex,b∉X.fs
 funs:X.s₀.heap.FunFrames X.base X.outer
 frf:∀b∈X.fs,X.H₀ b=none
noncomputable def Hnd (A:Around) (H:Hp):Prop:=∀v,A.handled=some v->∃a o,v=.ref a/\H a=some (.frz o (.ext fun _=>True))/\∃vs,o.data=.fields vs/\vs[2]?=some .none
theorem Hnd.map {A:Around}{H H':Hp}(h:Hnd A H)(f:∀b o u,H b=some (.frz o u)->H' b=some (.frz o u)):Hnd A H':=fun v e=>let ⟨a,o,h1,h2,h3⟩:=h v e;⟨a,o,h1,f _ _ _ h2,h3⟩
theorem Hnd.none {A:Around}{H:Hp}(h:A.handled=.none):Hnd A H:=fun v e=>by rw[h] at e;cases e
structure Inv (X:Cx) (aU:List (Addr×Obj)) (σ:List (Option V)) (H:Hp) (s:Shared):Prop where
 ok:X.Ok
 os:s.os=X.s₀.os
 bare:AllBare s.gens
 base:Un X.fs X.ex X.H₀ H X.s₀.heap s.heap
 loc:∃m,s.heap.Ns X.env.locals m/\∀(i:Nat) (x:Str) (v:V),X.N[i]?=some x->σ[i]?=some (some v)->Vis X.env.scope x->∃u,RelV v u/\Look X.env s.heap m x u
 cell:∀x c,X.env.cells.lookup x=some c->∃v,s.heap.IsCell c v
 free:H X.env.locals=none
 freeC:∀x c,X.env.cells.lookup x=some c->H c=none
 pin:∀p∈X.pn++aU,s.heap.get? p.1=some p.2/\H p.1=none/\p.1≠X.env.locals/\p.1∉X.fs/\∀v,p.2.data≠.cell v
 hok:HOk X.prog X.w H s.heap
 len:σ.length=X.N.length
 hnd:Hnd X.A H
section
variable {X:Cx}{aU:List (Addr×Obj)}{σ:List (Option V)}{H H':Hp}{s:Shared}{h':Heap}
theorem Cx.Ok.nofr (ok:X.Ok){b:Addr}{o:Obj}(e:X.base.get? b=some o):b∉X.fs:=fun hb=>by
 have:=(ok.funs.mem hb).1;rw[e] at this;cases this
theorem Inv.bs (I:Inv X aU σ H s):∀b o,X.base.get? b=some o->s.heap.get? b=some o/\H b=none:=fun b o e =>
 ⟨I.base.keep b o (I.ok.bs b o e).1 (I.ok.bs b o e).2 (I.ok.nofr e) (I.ok.noex b o e),I.base.free b o (I.ok.bs b o e).1 (I.ok.bs b o e).2 (I.ok.noex b o e)⟩
theorem Inv.bk (I:Inv X aU σ H s):∀b o,X.base.get? b=some o->s.heap.get? b=some o:=fun b o e=>(I.bs b o e).1
theorem Inv.mod (I:Inv X aU σ H s):Mod X.K X.mg X.base:=I.ok.mod
theorem Inv.kIn (I:Inv X aU σ H s):X.K.In s.heap:=I.ok.mod.kin.keeps I.bk
theorem Inv.lt (I:Inv X aU σ H s):X.env.locals < s.heap.objs.size:=let ⟨_,hn,_⟩:=I.loc;hn.lt
theorem Inv.sz (I:Inv X aU σ H s):X.s₀.heap.objs.size<=s.heap.objs.size:=xbb I.ok.above (xbu I.lt)
theorem Inv.nofs (I:Inv X aU σ H s){a:Addr}(h:s.heap.objs.size<=a):a∉X.fs:=fun hb=>by
 obtain⟨_,o,ho,_⟩:=I.ok.funs.mem hb;exact absurd (xbg (xbs ho) (xbb I.sz h)) (xgl _)
theorem Inv.cne (I:Inv X aU σ H s):∀x c,X.env.cells.lookup x=some c->c≠X.env.locals:=fun x c e z=>by
 obtain⟨v,o,ho,hd⟩:=I.cell x c e;obtain⟨m,⟨o',es,ep,ho',hd',_⟩,_⟩:=I.loc;rw[z,ho'] at ho;cases ho;rw[hd'] at hd;cases hd
theorem Inv.funs (I:Inv X aU σ H s):s.heap.FunFrames X.base X.outer:=by
 have all:∀(l:List Env),(∀b∈frs l,b∈X.fs)->X.s₀.heap.FunFrames X.base l->s.heap.FunFrames X.base l:=by
  intro l
  induction l with
  | nil=>intro _ _;trivial
  | cons env r ih =>
   intro hs hl;obtain⟨hk,⟨L,o,hf,hn,ho,hd⟩,hr⟩:=hl;have hL:L∈X.fs:=hs L (by unfold frs;rw[xic,hf];exact xbp);obtain⟨sl,e⟩:=I.base.slot L o ho (I.ok.frf L hL) hL fun z=>I.ok.exfs L z hL
   exact⟨hk,⟨L,_,hf,hn,e,hd⟩,ih (fun b hb=>hs b (by unfold frs;rw[xic,hf];exact xbl _ hb)) hr⟩
 exact all X.outer (fun _ hb=>hb) I.ok.funs
theorem Inv.stack (I:Inv X aU σ H s):s.heap.FunFrames X.base X.stack:=by
 rcases I.ok.stk with e | ⟨e,hf⟩
 ·rw[e];exact I.funs
 ·rw[e];obtain⟨m,hn,_⟩:=I.loc;refine .cons (by rw[I.ok.kind];decide) hf hn ?_ I.funs;exact Heap.get?_none_of_le (xbb I.ok.bsz I.ok.above)
theorem Inv.stkSub (I:Inv X aU σ H s):∀b∈frs X.stack,b∈X.env.locals::X.fs:=fun b hb=>by
 rcases I.ok.stk with e | ⟨e,hf⟩
 ·rw[e] at hb;exact xbl _ hb
 ·rw[e] at hb;unfold frs at hb;rw[xic,hf] at hb;exact hb
theorem Inv.stkFree (I:Inv X aU σ H s):∀b∈frs X.stack,H b=none:=fun b hb=>by
 rcases xcc.mp (I.stkSub b hb) with e | hb
 ·rw[e];exact I.free
 ·obtain⟨_,o,ho,_⟩:=I.ok.funs.mem hb;exact I.base.free b o ho (I.ok.frf b hb) fun z=>I.ok.exfs b z hb
theorem Inv.step {g':Array GenState}{t':Nat}{d':Drawn}{ch:List Addr}(I:Inv X aU σ H s)
  (hch:∀b∈ch,(b∈X.ex\/X.s₀.heap.objs.size<=b)/\b≠X.env.locals/\(∀x c,X.env.cells.lookup x=some c->c≠b)/\∀p∈X.pn++aU,p.1≠b)
  (keep:∀b o,b≠X.env.locals->b∉X.fs->b∉ch->s.heap.get? b=some o->H b=none->h'.get? b=some o)
  (slot:∀b o,b≠X.env.locals->b∈X.fs->b∉ch->s.heap.get? b=some o->H b=none->∃sl,h'.get? b=some {o with slots:=sl})(free:∀b o,b∉ch->s.heap.get? b=some o->H b=none->H' b=none)
  (there:∀b o,b∉ch->s.heap.get? b=some o->∃o',h'.get? b=some o')
  (tups:∀b xs,H b=some (.tup xs)->H' b=some (.tup xs))(frzs:∀b o u,H b=some (.frz o u)->H' b=some (.frz o u))(tbls:∀b ps,H b=some (.tbl ps)->∃more,H' b=some (.tbl (ps++more)))
  (ns:∀m,s.heap.Ns X.env.locals m->h'.Ns X.env.locals m)(hok:HOk X.prog X.w H' h')(hg:AllBare g') :
  Inv X aU σ H' {s with heap:=h',gens:=g',drawn:=d',toks:=t'}:=by
 have neL:∀b o,X.s₀.heap.get? b=some o->b≠X.env.locals:=fun b o e=>xcl (xbg (xbs e) I.ok.above)
 have neC:∀b o,X.s₀.heap.get? b=some o->b∉X.ex->b∉ch:=fun b o e hx hb=>by
  rcases(hch b hb).1 with z | z
  ·exact hx z
  ·exact absurd (xbg (xbs e) z) (xgl _)
 have cellK:∀x c,X.env.cells.lookup x=some c->∀v,s.heap.IsCell c v->h'.IsCell c v:=fun x c e v hq0=>by
  obtain⟨o,ho,hd⟩:=hq0;have nch:c∉ch:=fun z=>(hch c z).2.2.1 x c e rfl
  by_cases hc:c∈X.fs
  ·obtain⟨sl,q⟩:=slot c o (I.cne x c e) hc nch ho (I.freeC x c e);exact⟨_,q,hd⟩
  ·exact⟨o,keep c o (I.cne x c e) hc nch ho (I.freeC x c e),hd⟩
 refine⟨I.ok,I.os,hg,⟨fun b o e n hb hx=>?_,fun b o e n hb hx=>?_,fun b o e n hx=>?_,fun b o e hx=>?_,fun b xs e=>tups b xs (I.base.tups b xs e),fun b o xs e=>frzs b o xs (I.base.frzs b o xs e),fun b ps e=>?_⟩,?_,fun x c e=>?_,?_,fun x c e=>?_,fun p hp=>?_,hok,I.len,I.hnd.map frzs⟩
 ·exact keep b o (neL b o e) hb (neC b o e hx) (I.base.keep b o e n hb hx) (I.base.free b o e n hx)
 ·obtain⟨sl,e1⟩:=I.base.slot b o e n hb hx;obtain⟨sl',e2⟩:=slot b _ (neL b o e) hb (neC b o e hx) e1 (I.base.free b o e n hx);exact⟨sl',e2⟩
 ·obtain⟨o',e1⟩:=I.base.there b o e hx;exact free b o' (neC b o e hx) e1 (I.base.free b o e n hx)
 ·obtain⟨o',e1⟩:=I.base.there b o e hx;exact there b o' (neC b o e hx) e1
 ·obtain⟨m1,e1⟩:=I.base.tbls b ps e;obtain⟨m2,e2⟩:=tbls b _ e1;exact⟨m1++m2,by rw[e2,Array.append_assoc]⟩
 ·obtain⟨m,hn,hl⟩:=I.loc;refine⟨m,ns m hn,fun i x v e1 e2 e3=>?_⟩;obtain⟨u,r,l⟩:=hl i x v e1 e2 e3;refine⟨u,r,?_⟩;rcases l with l | ⟨k,c,e,z⟩
  ·exact .inl l
  ·exact .inr ⟨k,c,e,cellK x c e _ z⟩
 ·obtain⟨v,z⟩:=I.cell x c e;exact⟨v,cellK x c e v z⟩
 ·obtain⟨m,⟨o,_,_,ho,_⟩,_⟩:=I.loc;exact free _ o (fun z=>(hch _ z).2.1 rfl) ho I.free
 ·obtain⟨v,o,ho,hd⟩:=I.cell x c e;exact free c o (fun z=>(hch c z).2.2.1 x c e rfl) ho (I.freeC x c e)
 ·obtain⟨e,n,ne,nf,d⟩:=I.pin p hp;have nch:p.1∉ch:=fun z=>(hch p.1 z).2.2.2 p hp rfl
  exact⟨keep p.1 p.2 ne nf nch e n,free p.1 p.2 nch e n,ne,nf,d⟩
theorem Inv.un {t':Nat}(I:Inv X aU σ H s)(u:Un X.fs [] H H' s.heap h')(hok:HOk X.prog X.w H' h'):Inv X aU σ H' {s with heap:=h',toks:=t'}:=by
 obtain⟨m,⟨o,es,ep,ho,r⟩,_⟩:=id I.loc;obtain⟨sl,hL⟩:=u.any ho I.free (by simp)
 exact I.step (g':=s.gens) (d':=s.drawn) (ch:=[]) (fun _ z=>nomatch z) (fun b o _ hb _ e n=>u.keep b o e n hb (by simp)) (fun b o _ hb _ e n=>u.slot b o e n hb (by simp)) (fun b o _ e n=>u.free b o e n (by simp)) (fun b o _ e=>u.there b o e (by simp)) u.tups u.frzs u.tbls (fun m' hm=>by
  obtain⟨o',es',ep',ho',r'⟩:=hm;rw[ho] at ho';cases ho'
  exact⟨_,es',ep',hL,r'⟩) hok I.bare
theorem Inv.call {g':Array GenState}{t':Nat}{d':Drawn}{ch:List Addr}(I:Inv X aU σ H s)(u:Un (frs X.stack) ch H H' s.heap h')(hok:HOk X.prog X.w H' h')(hg:AllBare g')
  (hch:∀b∈ch,(b∈X.ex\/X.s₀.heap.objs.size<=b)/\b≠X.env.locals/\(∀x c,X.env.cells.lookup x=some c->c≠b)/\∀p∈X.pn++aU,p.1≠b) :
  Inv X aU σ H' {s with heap:=h',gens:=g',drawn:=d',toks:=t'}:=by
 obtain⟨m,⟨o,es,ep,ho,r⟩,_⟩:=id I.loc;obtain⟨sl,hL⟩:=u.any ho I.free fun z=>(hch _ z).2.1 rfl
 exact I.step (ch:=ch) hch (fun b o hL hb hc e n=>u.keep b o e n (fun z=>(xcc.mp (I.stkSub b z)).elim hL hb) hc) (fun b o _ _ hc e n=>u.any e n hc) (fun b o hc e n=>u.free b o e n hc) (fun b o hc e=>u.there b o e hc) u.tups u.frzs u.tbls (fun m' hm=>by
  obtain⟨o',es',ep',ho',r'⟩:=hm;rw[ho] at ho';cases ho'
  exact⟨_,es',ep',hL,r'⟩) hok hg
theorem Inv.turned {t':Nat}{it:Addr}(I:Inv X aU σ H s)(k:∀b o,b≠it->s.heap.get? b=some o->h'.get? b=some o)(hn:H it=none)(hL:it≠X.env.locals)
  (h1:it∈X.ex\/X.s₀.heap.objs.size<=it)(h2:∀x c,X.env.cells.lookup x=some c->c≠it)(h3:∀p∈X.pn++aU,p.1≠it):Inv X aU σ H {s with heap:=h',toks:=t'}:=by
 have nit:∀b u,H b=some u->b≠it:=fun b u e z=>by rw[z,hn] at e;cases e
 refine I.step (g':=s.gens) (d':=s.drawn) (ch:=[it]) (fun b hb=>?_) (fun b o _ _ hc e _=>k b o (fun z=>hc (by simp[z])) e) (fun b o _ _ hc e _=>⟨o.slots,k b o (fun z=>hc (by simp[z])) e⟩) (fun _ _ _ _ n=>n)
  (fun b o hc e=>⟨o,k b o (fun z=>hc (by simp[z])) e⟩) (fun _ _ e=>e) (fun _ _ _ e=>e) (fun b ps e=>⟨#[],by rw[e];simp⟩) (fun m hm=>?_) (fun b u e=>?_) I.bare
 ·have e:b=it:=by simpa using hb
  subst e;exact⟨h1,hL,h2,h3⟩
 ·obtain⟨o,es,ep,ho,r⟩:=hm;exact⟨o,es,ep,k _ o (xez hL) ho,r⟩
 ·refine(I.hok b u e).stay (fun c v hc q=>k c v ?_ q) (fun _ q=>q) fun _ _ q=>q
  rcases hc with z | z
  ·rw[z];exact nit b u e
  ·exact nit c _ z
theorem Inv.tok (I:Inv X aU σ H s)(t:Nat):Inv X aU σ H {s with toks:=t}:=I.un (h':=s.heap) (t':=t) Un.refl I.hok
theorem Inv.kept {t':Nat}(I:Inv X aU σ H s)(k:∀b u,s.heap.get? b=some u->h'.get? b=some u):Inv X aU σ H {s with heap:=h',toks:=t'}:=I.un (Un.kept k) (I.hok.kept k)
theorem Inv.laid {a:Addr}{o:HO}{t':Nat}(I:Inv X aU σ H s)(k:∀b u,s.heap.get? b=some u->h'.get? b=some u)(hp:s.heap.objs.size<=a)(new:ObjOk X.prog X.w (upd H a o) h' a o) :
 Inv X aU σ (upd H a o) {s with heap:=h',toks:=t'}:=I.un (Un.laid k hp (I.hok.fresh hp)) (I.hok.laid k hp new)
theorem Inv.write {x e:Addr}{o:HO}{t':Nat}(I:Inv X aU σ H s)(mu:Mut (H x))(he:e=x\/H e=some (.own x))(k:∀b u,b≠e->s.heap.get? b=some u->h'.get? b=some u)(heo:∃u,h'.get? e=some u)
 (new:ObjOk X.prog X.w (upd H x o) h' x o):Inv X aU σ (upd H x o) {s with heap:=h',toks:=t'}:=I.un (Un.write mu he k heo) (I.hok.write mu he k heo new)
theorem Inv.pins_of {pins':List (Addr×Obj)}(I:Inv X aU σ H s)(h:∀p∈pins',s.heap.get? p.1=some p.2/\H p.1=none/\p.1≠X.env.locals/\p.1∉X.fs/\∀v,p.2.data≠.cell v):Inv X pins' σ H s :=
 ⟨I.ok,I.os,I.bare,I.base,I.loc,I.cell,I.free,I.freeC,fun p hp=>(xce.mp hp).elim (fun z=>I.pin p (xhs _ z)) (h p),I.hok,I.len,I.hnd⟩
theorem znm {N:List Str}(hN:N.Nodup){i j:Nat}{x:Str}(a:N[i]?=some x)(b:N[j]?=some x):i=j:=by
 obtain⟨h1,e1⟩:=xbm.mp a;obtain⟨h2,e2⟩:=xbm.mp b;exact(List.getElem_inj hN).mp (e1.trans e2.symm)
theorem zpx {M:Model}{A:Around}{E:Value->Shared->Prop}{i:Nat}{x:Str}{v:V}{u:Value}{Q:Unit->Shared->Prop}(I:Inv X aU σ H s)(hN:X.N.Nodup)(hi:X.N[i]?=some x)(hx:Loc X.env.scope x)(r:RelV v u)
  (h:∀s',Inv X aU (σ.set i (some v)) H s'->(∃a,Heap.SameBut a s.heap s'.heap/\(a=X.env.locals\/X.env.cells.lookup x=some a))->Q () s')(hf:X.fn x=true\/X.env.scope.names.lookup x=some .local:=by first | exact .inl rfl | exact .inr rfl | assumption):wpAny M A (storeName X.env x u) Q E s:=by
 obtain⟨m,hn,hl⟩:=id I.loc;have hcls:(X.env.scope.kind==.class||(X.env.scope.kind==.module&&X.env.locals != X.env.globals))=false:=by rw[I.ok.kind];rfl
 have hiσ:i < σ.length:=by rw[I.len];exact(xbm.mp hi).1
 have cne:=I.cne;have tracked:∀{a:Addr} {h':Heap},(∃o,s.heap.get? a=some o/\H a=none)->Heap.SameBut a s.heap h'->HOk X.prog X.w H h':=fun {a h'} ha hs b ob e=>by
  obtain⟨_,_,hfree⟩:=ha;refine(I.hok b ob e).stay (fun c w' hc q=>(hs.2 c ?_).trans q) (fun _ q=>q) fun _ _ q=>q
  rintro rfl;rcases hc with rfl | hc
  ·rw[hfree] at e;cases e
  ·rw[hfree] at hc;cases hc
 rcases hx with hk | hk
 ·refine wpAny_storeName_local hk hn (fun h' hn' hs=>?_) hcls;obtain⟨oL,_,_,hoL,_⟩:=id hn;refine h _ ⟨I.ok,I.os,I.bare,⟨fun b o e n hb hx=>?_,fun b o e n hb hx=>?_,I.base.free,fun b o e hx=>?_,I.base.tups,I.base.frzs,I.base.tbls⟩,⟨_,hn',fun j y v' e1 e2 e3=>?_⟩,fun y c e=>?_,I.free,I.freeC,fun p hp=>?_,tracked ⟨oL,hoL,I.free⟩ hs,by simpa using I.len,I.hnd⟩ ⟨_,hs,.inl rfl⟩
  ·exact(hs.2 b (xcl (xbg (xbs e) I.ok.above))).trans (I.base.keep b o e n hb hx)
  ·obtain⟨sl,e1⟩:=I.base.slot b o e n hb hx;exact⟨sl,(hs.2 b (xcl (xbg (xbs e) I.ok.above))).trans e1⟩
  ·obtain⟨o',e1⟩:=I.base.there b o e hx;exact⟨o',(hs.2 b (xcl (xbg (xbs e) I.ok.above))).trans e1⟩
  ·by_cases hj:j=i
   ·subst hj;rw[hi] at e1;cases e1
    rw[xec hiσ] at e2;cases e2;exact⟨u,r,.inl ⟨hk,by simp⟩⟩
   ·rw[xcx (xez hj)] at e2;obtain⟨u',r',q⟩:=hl j y v' e1 e2 e3;refine⟨u',r',?_⟩;rcases q with⟨k,e⟩ | ⟨k,c,e,z⟩
    ·refine .inl ⟨k,?_⟩;have:y≠x:=fun e=>hj (znm hN e1 (e ▸ hi))
     simp[this,e]
    ·exact .inr ⟨k,c,e,z.sameBut hs (cne y c e)⟩
  ·obtain⟨w',z⟩:=I.cell y c e;exact⟨w',z.sameBut hs (cne y c e)⟩
  ·obtain⟨e,n,ne,nf,d⟩:=I.pin p hp;exact⟨(hs.2 p.1 ne).trans e,n,ne,nf,d⟩
 ·have hfn:X.fn x=true:=by
   rcases hf with z | z
   ·exact z
   ·rw[z] at hk;cases hk
  obtain⟨c,hc⟩:=I.ok.has x (.inl hk);obtain⟨w',z⟩:=I.cell x c hc;refine wpAny_storeName_cell I.ok.kind hk hc z (fun h' hc' hs=>?_);obtain⟨oc,hoc,hocd⟩:=id z;refine h {s with heap:=h'} ⟨I.ok,I.os,I.bare,⟨fun b o e n hb hx=>?_,fun b o e n hb hx=>?_,I.base.free,fun b o e hx=>?_,I.base.tups,I.base.frzs,I.base.tbls⟩,⟨m,hn.sameBut hs (xez (cne x c hc)),fun j y v' e1 e2 e3=>?_⟩,fun y c' e=>?_,I.free,I.freeC,fun p hp=>?_,tracked ⟨oc,hoc,I.freeC x c hc⟩ hs,by simpa using I.len,I.hnd⟩ ⟨c,hs,.inr hc⟩
  ·exact(hs.2 b (xcl (xbg (xbs e) (I.ok.cab x c hfn hc)))).trans (I.base.keep b o e n hb hx)
  ·obtain⟨sl,e1⟩:=I.base.slot b o e n hb hx;exact⟨sl,(hs.2 b (xcl (xbg (xbs e) (I.ok.cab x c hfn hc)))).trans e1⟩
  ·obtain⟨o',e1⟩:=I.base.there b o e hx;exact⟨o',(hs.2 b (xcl (xbg (xbs e) (I.ok.cab x c hfn hc)))).trans e1⟩
  ·by_cases hj:j=i
   ·subst hj;rw[hi] at e1;cases e1
    rw[xec hiσ] at e2;cases e2;exact⟨u,r,.inr ⟨.inl hk,c,hc,hc'⟩⟩
   ·rw[xcx (xez hj)] at e2;obtain⟨u',r',q⟩:=hl j y v' e1 e2 e3;refine⟨u',r',?_⟩;rcases q with q | ⟨k,c',e,z'⟩
    ·exact .inl q
    ·refine .inr ⟨k,c',e,z'.sameBut hs ?_⟩;rintro rfl;exact hj (znm hN e1 (I.ok.inj _ _ _ e hc ▸ hi))
  ·by_cases hcc:c'=c
   ·subst hcc;exact⟨_,hc'⟩
   ·obtain⟨w2,z2⟩:=I.cell y c' e;exact⟨w2,z2.sameBut hs hcc⟩
  ·obtain⟨e,n,ne,nf,d⟩:=I.pin p hp;refine⟨(hs.2 p.1 ?_).trans e,n,ne,nf,d⟩;intro q;rw[q,hoc] at e;have q':oc=p.2:=xcd e;exact d w' (by rw[← q'];exact hocd)
theorem zir {M:Model}{A:Around}{E:Value->Shared->Prop}{i:Nat}{x:Str}{v:V}{u:Value}{Q:Unit->Shared->Prop}(I:Inv X aU σ H s)(hN:X.N.Nodup)(hi:X.N[i]?=some x)(hx:Loc X.env.scope x)(r:RelV v u)
  (h:∀s',Inv X aU (σ.set i (some v)) H s'->Q () s')(hf:X.fn x=true\/X.env.scope.names.lookup x=some .local:=by first | exact .inl rfl | exact .inr rfl | assumption):wpAny M A (storeName X.env x u) Q E s :=
 zpx I hN hi hx r (fun s' I' _=>h s' I') hf
theorem Inv.call' {s':Shared}{ch:List Addr}(I:Inv X aU σ H s)(ho:s'.os=s.os)(u:Un (frs X.stack) ch H H' s.heap s'.heap)(hok:HOk X.prog X.w H' s'.heap)(hg:AllBare s'.gens)
  (hch:∀b∈ch,(b∈X.ex\/X.s₀.heap.objs.size<=b)/\b≠X.env.locals/\(∀x c,X.env.cells.lookup x=some c->c≠b)/\∀p∈X.pn++aU,p.1≠b):Inv X aU σ H' s':=by
 obtain⟨h',g',d',t',o'⟩:=s';have e:o'=s.os:=ho;subst e;exact I.call (g':=g') (t':=t') (d':=d') u hok hg hch
end
noncomputable abbrev XK:=Value->Option Addr->Hp->Prop
noncomputable abbrev St:=List (Option V)
noncomputable abbrev VK:=V->Hp->Prop
noncomputable abbrev TE:=St->Hp->VK->Prop
noncomputable abbrev TT:=St->Hp->(Bool->Hp->Prop)->Prop
noncomputable abbrev TA:=St->Hp->(List V->Hp->Prop)->Prop
structure Ends where
 nx:St->Hp->Prop
 rt:VK
 bk:St->Hp->Prop:=fun _ _=>False
 ct:St->Hp->Prop:=fun _ _=>False
noncomputable abbrev TS:=Ends->St->Hp->Prop
noncomputable def EP (X:Cx) (aU:List (Addr×Obj)) (σ:St) (Q:VK) (u:Value) (s':Shared):Prop:=∃v H',Inv X aU σ H' s'/\RelV v u/\Q v H'
noncomputable def TP (X:Cx) (aU:List (Addr×Obj)) (σ:St) (Q:Bool->Hp->Prop) (b:Bool) (s':Shared):Prop:=∃H',Inv X aU σ H' s'/\Q b H'
noncomputable def AP (X:Cx) (aU:List (Addr×Obj)) (σ:St) (Q:List V->Hp->Prop) (us:List Value) (s':Shared):Prop:=∃vs H',Inv X aU σ H' s'/\Vals vs us/\Q vs H'
noncomputable def SP (X:Cx) (aU:List (Addr×Obj)) (D:Ends) (f:Flow) (s':Shared):Prop :=
 match f with
 | .next=>∃σ' H',Inv X aU σ' H' s'/\D.nx σ' H'
 | .brk=>∃σ' H',Inv X aU σ' H' s'/\D.bk σ' H'
 | .cont=>∃σ' H',Inv X aU σ' H' s'/\D.ct σ' H'
 | .ret u=>∃v σ' H',Inv X aU σ' H' s'/\RelV v u/\D.rt v H'
noncomputable def PE (X:Cx) (e:Expr) (t:TE):Prop :=
 ∀(aU:List (Addr×Obj)) (s:Shared) (σ:St) (H:Hp) (Q:VK),Inv X aU σ H s->t σ H Q->wpAny (model X.prog X.w) X.A (eval e X.env) (EP X aU σ Q) X.xe s
noncomputable def PT (X:Cx) (e:Expr) (t:TT):Prop :=
 ∀(aU:List (Addr×Obj)) (s:Shared) (σ:St) (H:Hp) (Q:Bool->Hp->Prop),Inv X aU σ H s->t σ H Q->wpAny (model X.prog X.w) X.A (isTrue e X.env (eval e X.env)) (TP X aU σ Q) X.xe s
noncomputable def PW (X:Cx) (e:Expr) (t:TT):Prop :=
 ∀(whole:Sem Value) (aU:List (Addr×Obj)) (s:Shared) (σ:St) (H:Hp) (Q:Bool->Hp->Prop),Inv X aU σ H s->t σ H Q->wpAny (model X.prog X.w) X.A (isTrue e X.env whole) (TP X aU σ Q) X.xe s
theorem PW.pt {X:Cx}{e:Expr}{t:TT}(h:PW X e t):PT X e t:=h _
noncomputable def PA (X:Cx) (es:List Expr) (t:TA):Prop :=
 ∀(pos:Pos) (aU:List (Addr×Obj)) (s:Shared) (σ:St) (H:Hp) (Q:List V->Hp->Prop),Inv X aU σ H s->t σ H Q->wpAny (model X.prog X.w) X.A (spliced (backTo pos (starEach es X.env))) (AP X aU σ Q) X.xe s
noncomputable def PS (X:Cx) (st:Stmt) (t:TS):Prop :=
 ∀(aU:List (Addr×Obj)) (s:Shared) (σ:St) (H:Hp) (D:Ends),Inv X aU σ H s->t D σ H->wpAny (model X.prog X.w) X.A (exec st X.env) (SP X aU D) X.xe s
noncomputable def PSs (X:Cx) (st:List Stmt) (t:TS):Prop :=
 ∀(aU:List (Addr×Obj)) (s:Shared) (σ:St) (H:Hp) (D:Ends),Inv X aU σ H s->t D σ H->wpAny (model X.prog X.w) X.A (execs st X.env) (SP X aU D) X.xe s
theorem thn {α:Type}{t:Sem α}{Q Q':α->Shared->Prop}{M:Model}{A:Around}{E:Value->Shared->Prop}{s:Shared}(h:wpAny M A t Q E s)(hQ:∀a s,Q a s->Q' a s):wpAny M A t Q' E s:=xep h hQ fun _ _ x=>x
section
variable {X:Cx}
noncomputable def tVar (i:Nat):TE:=fun σ H Q=>∃v,σ[i]?=some (some v)/\Q v H
noncomputable def tC (v:V):TE:=fun _ H Q=>Q v H
theorem zbdl {i:Nat}{x:Str}{pos:Pos}(hN:X.N[i]?=some x)(hv:Vis X.env.scope x)(hd:(x==("__debug__" : Str))=false:=by decide)(hcd:(x==("__classdict__" : Str))=false:=by decide):PE X (.Name x pos) (tVar i):=by
 intro aU s σ H Q I h;obtain⟨v,e,h⟩:=h;obtain⟨m,hn,hl⟩:=I.loc;obtain⟨u,r,l⟩:=hl i x v hN e hv;have fin:EP X aU σ Q u s:=⟨v,H,I,r,h⟩
 rcases l with⟨hk,hm⟩ | ⟨hk,c,hc,hcell⟩
 ·exact wpAny_Name (wpAny_loadName_local I.ok.kind hk hn hm fin) hd
 ·rcases hk with hk | hk
  ·exact wpAny_Name (wpAny_loadName_cell I.ok.kind hk hc hcell fin) hd
  ·exact wpAny_Name (wpAny_loadName_free I.ok.kind hk hc hcell fin hcd) hd
theorem zbdp {i j pos}:PE X (.Constant (.int i) j pos) (tC (.int i)):=fun _ _ _ H _ I h=>wpAny_Constant_int ⟨.int i,H,I.tok _,⟨_,rfl⟩,h⟩
theorem zbik {b j pos}:PE X (.Constant (.bool b) j pos) (tC (.bl b)):=fun _ _ _ H _ I h=>Constant_bool ⟨.bl b,H,I,rfl,h⟩
noncomputable def Gl (X:Cx) (x:Str):Prop:=X.env.kindOf x=some .globalImplicit
theorem zzi {E:Value->Shared->Prop}{aU:List (Addr×Obj)}{s:Shared}{σ:St}{H:Hp}{x:Str}{u:Value}{pos:Pos}{Q:Value->Shared->Prop}(I:Inv X aU σ H s)(hg:Gl X x)(hm:X.mg x=some u)(h:Q u s)
  (hd:(x==("__debug__" : Str))=false:=by decide):wpAny (model X.prog X.w) X.A (eval (.Name x pos) X.env) Q E s :=
 Calls.Name_function_global I.ok.kind hg (Calls.loadGlobal_global (by rw[I.ok.glob];exact I.mod.glob.keeps I.bk) hm h) hd
theorem znu {E:Value->Shared->Prop}{aU:List (Addr×Obj)}{s:Shared}{σ:St}{H:Hp}{x:Str}{u:Value}{pos:Pos}{Q:Value->Shared->Prop}(I:Inv X aU σ H s)(hg:Gl X x)(hm:X.mg x=none)(hv:bootBuiltins x=some u)(h:Q u s)
  (hn:x≠"__name__":=by decide)(hd:(x==("__debug__" : Str))=false:=by decide):wpAny (model X.prog X.w) X.A (eval (.Name x pos) X.env) Q E s:=by
 obtain⟨mb,h1,h2⟩:=I.mod.blt;exact Calls.Name_function_global I.ok.kind hg (Calls.loadGlobal_builtin (by rw[I.ok.glob];exact I.mod.glob.keeps I.bk) hm (by rw[I.ok.blt];exact h1.keeps I.bk) ((h2 x hn).trans hv) h) hd
theorem zkh {x:Str}{v:V}{u:Value}{pos:Pos}(hg:Gl X x)(hm:X.mg x=none)(hv:bootBuiltins x=some u)(r:RelV v u)(hn:x≠"__name__":=by decide)(hd:(x==("__debug__" : Str))=false:=by decide):PE X (.Name x pos) (tC v) :=
 fun _ _ _ H _ I h=>znu I hg hm hv ⟨v,H,I,r,h⟩ hn hd
variable {a b:Expr}{ta tb:TE}{pos:Pos}
noncomputable def PC (X:Cx) (op:CmpOp) (a b:Expr) (t:TE):Prop :=
 ∀(aU:List (Addr×Obj)) (s:Shared) (σ:St) (H:Hp) (Q:VK),Inv X aU σ H s->t σ H Q ->
  wpAny (model X.prog X.w) X.A (eval a X.env) (fun v s₁=>wpAny (model X.prog X.w) X.A (eval b X.env) (fun u s₂=>wpAny (model X.prog X.w) X.A (compareOp op v u) (EP X aU σ Q) X.xe s₂) X.xe s₁) X.xe s
noncomputable def tB (t:TE):TT:=fun σ H Q=>t σ H fun x H1=>∃c,x=.bl c/\Q c H1
theorem zbdc {op:CmpOp}{t:TE}(h:PC X op a b t)(h1:behindInMarks op b=false:=by first | exact nobehind _ (by decide) (by decide) | rfl):PT X (.Compare a [op] [b] pos) (tB t):=by
 intro aU s σ H Q I hw;refine wpAny_isTrue_Compare1 (thn (h aU s σ H _ I hw) fun v s1 h1=>thn h1 fun u s2 h2=>thn h2 fun c s3 hq0=>?_) h1;obtain⟨x,H1,I1,r1,q1⟩:=hq0;obtain⟨d,rfl,q⟩:=q1;cases r1;exact xff ⟨H1,I1,q⟩
variable {tA tB':TT}{rest:List Expr}
noncomputable def tAnd (t u:TT):TT:=fun σ H Q=>t σ H fun c H1=>if c=true then u σ H1 Q else Q false H1
noncomputable def tOr (t u:TT):TT:=fun σ H Q=>t σ H fun c H1=>if c=true then Q true H1 else u σ H1 Q
noncomputable def tNot (t:TT):TT:=fun σ H Q=>t σ H fun c H1=>Q (!c) H1
theorem pw_and1 (ha:PT X a tA):PW X (.BoolOp .And [a] pos) tA:=by
 intro wh aU s σ H Q I h;refine isTrue_and (thn (ha aU s σ H Q I h) fun c s1 e=>?_);cases c with
 | true=>exact isTrue_and_nil e
 | false=>exact e
theorem pw_or1 (ha:PT X a tA):PW X (.BoolOp .Or [a] pos) tA:=by
 intro wh aU s σ H Q I h;refine isTrue_or (thn (ha aU s σ H Q I h) fun c s1 e=>?_);cases c with
 | false=>exact isTrue_or_nil e
 | true=>exact e
theorem pw_and (ha:PT X a tA)(hb:PW X (.BoolOp .And (b::rest) pos) tB'):PW X (.BoolOp .And (a::b::rest) pos) (tAnd tA tB'):=by
 intro wh aU s σ H Q I h;refine isTrue_and (thn (ha aU s σ H _ I h) fun c s1 hq0=>?_);obtain⟨H1,I1,q1⟩:=hq0;cases c with
 | true=>exact hb wh aU s1 σ H1 Q I1 q1
 | false=>exact⟨H1,I1,q1⟩
theorem pw_or (ha:PT X a tA)(hb:PW X (.BoolOp .Or (b::rest) pos) tB'):PW X (.BoolOp .Or (a::b::rest) pos) (tOr tA tB'):=by
 intro wh aU s σ H Q I h;refine isTrue_or (thn (ha aU s σ H _ I h) fun c s1 hq0=>?_);obtain⟨H1,I1,q1⟩:=hq0;cases c with
 | true=>exact⟨H1,I1,q1⟩
 | false=>exact hb wh aU s1 σ H1 Q I1 q1
theorem zbdb (ha:PT X a tA):PT X (.UnaryOp .Not a pos) (tNot tA):=by
 intro aU s σ H Q I h;exact isTrue_not (ha aU s σ H (fun c H1=>Q (!c) H1) I h)
noncomputable def tOrV (ta tb:TE):TE:=fun σ H Q=>ta σ H fun x H1=>∃c,x=.bl c/\if c=true then Q (.bl true) H1 else tb σ H1 Q
noncomputable def tNotV (ta:TE):TE:=fun σ H Q=>ta σ H fun x H1=>∃c,x=.bl c/\Q (.bl (!c)) H1
theorem zbdn {op}{t:TE}(h:PE X a t):PE X (.BoolOp op [a] pos) t:=fun aU s σ H Q I hw=>BoolOp_one (h aU s σ H Q I hw)
theorem zbih (ha:PE X a ta)(hb:PE X (.BoolOp .Or (b::rest) pos) tb):PE X (.BoolOp .Or (a::b::rest) pos) (tOrV ta tb):=by
 intro aU s σ H Q I h;refine BoolOp_or (thn (ha aU s σ H _ I h) fun v s1 hq0=>?_);obtain⟨x,H1,I1,r1,q1⟩:=hq0;obtain⟨c,rfl,q1⟩:=q1;cases r1;refine xff ?_;cases c with
 | false=>exact hb aU s1 σ H1 Q I1 q1
 | true=>exact⟨.bl true,H1,I1,rfl,q1⟩
theorem zbdo (ha:PE X a ta):PE X (.UnaryOp .Not a pos) (tNotV ta):=by
 intro aU s σ H Q I h;refine UnaryOp_ (thn (ha aU s σ H _ I h) fun v s1 hq0=>?_);obtain⟨x,H1,I1,r1,q1⟩:=hq0;obtain⟨c,rfl,q1⟩:=q1;cases r1;exact not_of (xff ⟨.bl (!c),H1,I1,rfl,q1⟩)
end
noncomputable def SqL (K:Fg) (H:Hp) (a:Addr) (xs:List V):Prop :=
 Rd H a (.lst xs) \/
  ∃(o:Obj) (its:Array Value) (n:Nat), K.lookup a=some o/\o.cls=.type "list"/\o.dict=none/\o.data=.seq its n/\its.size<=sizeLine/\Vals xs its.toList
noncomputable def SqT (K:Fg) (H:Hp) (a:Addr) (xs:List V):Prop :=
 Rd H a (.tup xs) \/
  ∃(o:Obj) (its:Array Value) (n:Nat), K.lookup a=some o/\o.cls=.type "tuple"/\o.data=.seq its n/\its.size<=sizeLine/\Vals xs its.toList
noncomputable def absV:Value->Option V
 | .none=>some .non
 | .bool b=>some (.bl b)
 | .int i _=>some (.int i)
 | .str x _=>some (.str x)
 | .bytes b _=>some (.byt b)
 | .float b _=>some (.flt b)
 | .ref a=>some (.ref a)
 | .type n=>some (.ty n)
 | _=>none
theorem RelV.abs {x:V}{u:Value}(r:RelV x u):absV u=some x:=by
 cases x with
 | non=>cases r;rfl
 | bl _=>cases r;rfl
 | int _=>obtain⟨t,rfl⟩:=r;rfl
 | str _=>obtain⟨t,rfl⟩:=r;rfl
 | byt _=>obtain⟨t,rfl⟩:=r;rfl
 | flt _=>obtain⟨t,rfl⟩:=r;rfl
 | ref _=>cases r;rfl
 | ty _=>cases r;rfl
theorem RelV.inj {x y:V}{u:Value}(r:RelV x u)(q:RelV y u):x=y:=xcd (r.abs.symm.trans q.abs)
theorem Vals.inj:∀{xs ys:List V} {us:List Value},Vals xs us->Vals ys us->xs=ys
 | _,_,_,.nil,.nil=>rfl
 | _,_,_,.cons r t,.cons r' t'=>by rw[r.inj r',Vals.inj t t']
section
variable {X:Cx}{aU:List (Addr×Obj)}{σ:St}{H:Hp}{s:Shared}{a:Addr}{xs ys:List V}
theorem SqL.of {K:Fg}(h:H a=some (.lst xs)):SqL K H a xs:=.inl (.inl h)
theorem SqT.of {K:Fg}(h:H a=some (.tup xs)):SqT K H a xs:=.inl (.inl h)
theorem Inv.list (I:Inv X aU σ H s)(h:SqL X.K H a xs):∃its:List Value,Vals xs its/\PlainL s.heap a its.toArray/\xs.length<=sizeLine:=by
 rcases h with h | ⟨o,its,n,hk,hc,hd,hs,hz,r⟩
 ·obtain⟨z,its,n,r,e⟩:=h.ok I.hok;exact⟨its,r,⟨_,n,e,rfl,rfl,rfl⟩,z⟩
 ·refine⟨its.toList,r,⟨o,n,I.kIn a o hk,hc,hd,by simpa using hs⟩,?_⟩;have e:=r.length;simp only[xbv] at e;lia
theorem Inv.tuple (I:Inv X aU σ H s)(h:SqT X.K H a xs):∃its:List Value,Vals xs its/\IsTup s.heap a its.toArray/\xs.length<=sizeLine:=by
 rcases h with h | ⟨o,its,n,hk,hc,hs,hz,r⟩
 ·obtain⟨z,its,r,p⟩:=h.ok I.hok;exact⟨its,r,p,z⟩
 ·refine⟨its.toList,r,⟨o,I.kIn a o hk,hc,n,by simpa using hs⟩,?_⟩;have e:=r.length;simp only[xbv] at e;lia
theorem Inv.list_inj (I:Inv X aU σ H s)(h:SqL X.K H a xs)(h':SqL X.K H a ys):xs=ys:=by
 obtain⟨its,r,⟨o,n,e,_,_,d⟩,_⟩:=I.list h;obtain⟨its',r',⟨o',n',e',_,_,d'⟩,_⟩:=I.list h';rw[e] at e';cases e'
 rw[d] at d';injection d' with d1 _
 have:its=its':=by simpa using congrArg Array.toList d1
 subst this;exact r.inj r'
theorem Inv.tuple_inj (I:Inv X aU σ H s)(h:SqT X.K H a xs)(h':SqT X.K H a ys):xs=ys:=by
 obtain⟨its,r,⟨o,e,_,n,d⟩,_⟩:=I.tuple h;obtain⟨its',r',⟨o',e',_,n',d'⟩,_⟩:=I.tuple h';rw[e] at e';cases e'
 rw[d] at d';injection d' with d1 _
 have:its=its':=by simpa using congrArg Array.toList d1
 subst this;exact r.inj r'
end
noncomputable abbrev Cx.wish (X:Cx) (E:Value->Shared->Prop):Cx:={X with xe:=E}
noncomputable abbrev Cx.nox (X:Cx):Cx:=X.wish fun _ _=>False
theorem Cx.Ok.wish {X:Cx}(ok:X.Ok)(E:Value->Shared->Prop):(X.wish E).Ok :=
 ⟨ok.mod,ok.kind,ok.glob,ok.blt,ok.above,ok.inj,ok.has,ok.cab,ok.hd,ok.frames,ok.stk,ok.exf,ok.bs,ok.bsz,ok.noex,ok.exfs,ok.funs,ok.frf⟩
theorem Cx.Ok.unwish {X:Cx}{E:Value->Shared->Prop}(ok:(X.wish E).Ok):X.Ok :=
 ⟨ok.mod,ok.kind,ok.glob,ok.blt,ok.above,ok.inj,ok.has,ok.cab,ok.hd,ok.frames,ok.stk,ok.exf,ok.bs,ok.bsz,ok.noex,ok.exfs,ok.funs,ok.frf⟩
section
variable {X:Cx}{aU:List (Addr×Obj)}{σ:St}{H:Hp}{s:Shared}{E:Value->Shared->Prop}
theorem Inv.wish (I:Inv X aU σ H s)(E:Value->Shared->Prop):Inv (X.wish E) aU σ H s:=⟨I.ok.wish E,I.os,I.bare,I.base,I.loc,I.cell,I.free,I.freeC,I.pin,I.hok,I.len,I.hnd⟩
theorem Inv.unwish (I:Inv (X.wish E) aU σ H s):Inv X aU σ H s:=⟨I.ok.unwish,I.os,I.bare,I.base,I.loc,I.cell,I.free,I.freeC,I.pin,I.hok,I.len,I.hnd⟩
theorem SP.unwish {D:Ends}{f:Flow}{s':Shared}(h:SP (X.wish E) aU D f s'):SP X aU D f s':=by
 cases f with
 | next=>obtain⟨σ',H',I,q⟩:=h;exact⟨σ',H',I.unwish,q⟩
 | brk=>obtain⟨σ',H',I,q⟩:=h;exact⟨σ',H',I.unwish,q⟩
 | cont=>obtain⟨σ',H',I,q⟩:=h;exact⟨σ',H',I.unwish,q⟩
 | ret u=>obtain⟨v,σ',H',I,r,q⟩:=h;exact⟨v,σ',H',I.unwish,r,q⟩
theorem PSs.nox {st:List Stmt}{t:TS}(h:PSs X.nox st t):PSs X st t:=fun aU s σ H D I hw =>
 xep (h aU s σ H D (I.wish _) hw) (fun _ _ q=>q.unwish) fun _ _ z=>False.elim z
end
section
variable {X:Cx}{st:Stmt}{rest:List Stmt}{t u:TS}{e:Expr}{te:TE}{pos:Pos}
noncomputable def tNext:TS:=fun D σ H=>D.nx σ H
noncomputable def tSeq (t u:TS):TS:=fun D σ H=>t {D with nx:=u D} σ H
theorem zxu:PSs X [] tNext:=fun _ _ σ H _ I h=>xkb ⟨σ,H,I,h⟩
theorem zts (h1:PS X st t)(h2:PSs X rest u):PSs X (st::rest) (tSeq t u):=by
 intro aU s σ H D I h;refine wpAny_execs_cons (thn (h1 aU s σ H {D with nx:=u D} I h) fun f s1 q=>?_);cases f with
 | next =>
  obtain⟨σ',H',I',q⟩:=q;exact h2 aU s1 σ' H' D I' q
 | ret v=>exact q
 | brk=>exact q
 | cont=>exact q
theorem zxt (h1:PS X st t):PSs X [st] t:=by
 intro aU s σ H D I h;refine wpAny_execs_cons (thn (h1 aU s σ H D I h) fun f s1 q=>?_);cases f with
 | next=>exact xkb q
 | ret v=>exact q
 | brk=>exact q
 | cont=>exact q
noncomputable def tBreak:TS:=fun D σ H=>D.bk σ H
theorem ztu:PS X (.Break pos) tBreak:=fun _ _ σ H _ I h=>wpAny_Break ⟨σ,H,I,h⟩
theorem Inv.quiet {aU:List (Addr×Obj)}{σ:St}{H:Hp}{s:Shared}(I:Inv X aU σ H s):interactive X.env=false:=by simp[interactive,I.ok.kind]
noncomputable def tDrop (te:TE):TS:=fun D σ H=>te σ H fun _ H1=>D.nx σ H1
theorem zxv (he:PE X e te)(hs:swapsWith e none pos.line X.env=pure false:=by rfl):PS X (.Expr e pos) (tDrop te):=by
 intro aU s σ H D I h;exact wpAny_Expr_any (thn (he aU s σ H _ I h) fun v s1 ⟨x,H1,I1,r1,q1⟩=>⟨σ,H1,I1,q1⟩) I.quiet hs
noncomputable def tRet (te:TE):TS:=fun D σ H=>te σ H D.rt
theorem zbde (he:PE X e te):PS X (.Return (some e) pos) (tRet te):=by
 intro aU s σ H D I h;exact wpAny_Return_some (thn (he aU s σ H _ I h) fun v s1 ⟨x,H1,I1,r1,q1⟩=>⟨x,σ,H1,I1,r1,q1⟩)
noncomputable def tIfS (c:TT) (t u:TS):TS:=fun D σ H=>c σ H fun b H1=>if b=true then t D σ H1 else u D σ H1
theorem zbie {c:Expr}{a b:List Stmt}{tc:TT}(hc:PT X c tc)(ha:PSs X a t)(hb:PSs X b u):PS X (.If c a b pos) (tIfS tc t u):=by
 intro aU s σ H D I h;refine wpAny_If (thn (hc aU s σ H _ I h) fun d s1 hq0=>?_);obtain⟨H1,I1,q1⟩:=hq0;cases d with
 | true=>exact ha aU s1 σ H1 D I1 q1
 | false=>exact hb aU s1 σ H1 D I1 q1
end
noncomputable abbrev TG:=V->St->Hp->(St->Hp->Prop)->Prop
noncomputable abbrev TGs:=List V->St->Hp->(St->Hp->Prop)->Prop
noncomputable def PG (X:Cx) (target:Expr) (t:TG):Prop :=
 ∀(aU:List (Addr×Obj)) (s:Shared) (σ:St) (H:Hp) (v:V) (u:Value) (Q:St->Hp->Prop),Inv X aU σ H s->RelV v u->t v σ H Q ->
  wpAny (model X.prog X.w) X.A (assign target X.env u) (fun _ s'=>∃σ' H',Inv X aU σ' H' s'/\Q σ' H') X.xe s
noncomputable def PGs (X:Cx) (ts:List Expr) (t:TGs):Prop :=
 ∀(aU:List (Addr×Obj)) (s:Shared) (σ:St) (H:Hp) (vs:List V) (us:List Value) (Q:St->Hp->Prop),Inv X aU σ H s->Vals vs us->t vs σ H Q ->
  wpAny (model X.prog X.w) X.A (assignInOrder ((assignEach ts X.env).map (·.2)) us) (fun _ s'=>∃σ' H',Inv X aU σ' H' s'/\Q σ' H') X.xe s
noncomputable abbrev TSet:=V->V->V->Hp->(Hp->Prop)->Prop
noncomputable def PSet (X:Cx) (t:TSet):Prop :=
 ∀(aU:List (Addr×Obj)) (s:Shared) (σ:St) (H:Hp) (o i v:V) (ov iv u:Value) (Q:Hp->Prop),Inv X aU σ H s->RelV o ov->RelV i iv->RelV v u->t o i v H Q ->
  wpAny (model X.prog X.w) X.A (setItem ov iv u) (fun _ s'=>∃H',Inv X aU σ H' s'/\Q H') X.xe s
noncomputable abbrev TIp:=V->V->Hp->VK->Prop
noncomputable def PIp (X:Cx) (op:Operator) (t:TIp):Prop :=
 ∀(aU:List (Addr×Obj)) (s:Shared) (σ:St) (H:Hp) (x y:V) (v u:Value) (Q:VK),Inv X aU σ H s->RelV x v->RelV y u->t x y H Q ->
  wpAny (model X.prog X.w) X.A (inplaceOp op v u) (EP X aU σ Q) X.xe s
section
variable {X:Cx}{pos:Pos}
noncomputable def gName (i:Nat):TG:=fun v σ H Q=>Q (σ.set i (some v)) H
theorem zyj {i:Nat}{x:Str}(hN:X.N.Nodup)(hi:X.N[i]?=some x)(hx:Loc X.env.scope x)(hf:X.fn x=true\/X.env.scope.names.lookup x=some .local:=by first | exact .inl rfl | exact .inr rfl | assumption):PG X (.Name x pos) (gName i):=by
 intro aU s σ H v u Q I r h;exact wpAny_assign_Name (zir I hN hi hx r (fun s' I'=>⟨_,H,I',h⟩) hf)
noncomputable def gNil:TGs:=fun vs σ H Q=>vs=[]/\Q σ H
noncomputable def gCons (t:TG) (u:TGs):TGs:=fun vs σ H Q=>∃v r,vs=v::r/\t v σ H fun σ' H'=>u r σ' H' Q
theorem zyi:PGs X [] gNil:=by
 intro aU s σ H vs us Q I r h;obtain⟨e,h⟩:=h;subst e;cases r;exact assignInOrder_nil ⟨σ,H,I,h⟩
theorem ztz {e:Expr}{es:List Expr}{t:TG}{u:TGs}(h1:PG X e t)(h2:PGs X es u)
  (hs:(assignEach (e::es) X.env).map (·.2)=assign e X.env::(assignEach es X.env).map (·.2):=by rfl):PGs X (e::es) (gCons t u):=by
 intro aU s σ H vs us Q I r h;obtain⟨v,vr,e1,h⟩:=h;subst e1;cases r with
 | cons r rr =>
  rw[hs];refine assignInOrder_cons (thn (h1 aU s σ H _ _ _ I r h) fun _ s1 hq0=>?_);obtain⟨σ1,H1,I1,q1⟩:=hq0;exact h2 aU s1 σ1 H1 _ _ Q I1 rr q1
noncomputable def gTup (K:Fg) (n:Nat) (t:TGs):TG:=fun v σ H Q=>∃a xs,v=.ref a/\SqT K H a xs/\xs.length=n/\t xs σ H Q
theorem zbdj {es:List Expr}{k:Nat}{t:TGs}{n:Nat}(hc:X.calm=true)(h:PGs X es t)
  (hn:(assignEach es X.env).length=n:=by rfl)(hst:(assignEach es X.env).findIdx? (·.1)=none:=by rfl):PG X (.Tuple es k pos) (gTup X.K n t):=by
 intro aU s σ H v u Q I r hw;obtain⟨a,xs,e1,hq,hl,hw⟩:=hw;subst e1;cases r;obtain⟨its,rv,ht,hz⟩:=I.tuple hq;refine assign_Tuple_tuple (I.ok.hd hc) ht (by simp[hn,← hl,rv.length]) hst fun h' hx=>?_
 have I1:Inv X aU σ H {s with heap:=h'}:=I.kept (t':=s.toks) fun b o e=>hx b o (xcl (xbs e)) e
 exact h aU _ σ H xs _ Q I1 (by simpa using rv) hw
noncomputable def gSub (to ti:TE) (t:TSet):TG:=fun v σ H Q=>to σ H fun o H1=>ti σ H1 fun i H2=>t o i v H2 fun H3=>Q σ H3
theorem zbdk {o i:Expr}{to ti:TE}{t:TSet}(ho:PE X o to)(hi:PE X i ti)(hs:PSet X t)
  (ha:∀v,assign (.Subscript o i pos) X.env v=(do
   let ov ← holding [v] (eval o X.env)
   let iv ← holding [v,ov] (eval i X.env)
   standAt pos
   holding [v,ov,iv] (setItem ov iv v)
   release [v,ov,iv] []):=by intro _;rfl):PG X (.Subscript o i pos) (gSub to ti t):=by
 intro aU s σ H v u Q I r h;rw[ha];refine xba (xer (thn (ho aU s σ H _ I h) fun ov s1 hq0=>?_));obtain⟨x,H1,I1,r1,q1⟩:=hq0;refine xba (xer (thn (hi aU s1 σ H1 _ I1 q1) fun iv s2 hq0=>?_));obtain⟨y,H2,I2,r2,q2⟩:=hq0;refine xba (wpAny_standAt (xba (xer (thn (hs aU s2 σ H2 x y v ov iv u _ I2 r1 r2 r q2) fun _ s3 hq0=>?_))));obtain⟨H3,I3,q3⟩:=hq0;exact wpAny_release ⟨σ,H3,I3,q3⟩
noncomputable def tAsg (te:TE) (g:TG):TS:=fun D σ H=>te σ H fun x H1=>g x σ H1 D.nx
theorem zbdh {tg e:Expr}{te:TE}{g:TG}(he:PE X e te)(hg:PG X tg g)(hs:swapsWithSole [tg] e pos.line X.env=pure false:=by rfl)(hw:swappedStores [tg] e X.env=pure none:=by rfl)
  (h1:(assignEach [tg] X.env).map (·.2)=[assign tg X.env]:=by rfl):PS X (.Assign [tg] e pos) (tAsg te g):=by
 intro aU s σ H D I h;refine wpAny_Assign_stores (thn (he aU s σ H _ I h) fun v s1 hq0=>?_) hs hw;obtain⟨x,H1,I1,r1,q1⟩:=hq0;rw[h1];exact thn (hg aU s1 σ H1 x v _ I1 r1 q1) fun _ s2 q=>q
theorem zbdd {i:Nat}{x:Str}{e:Expr}{te:TE}{pos':Pos}(hN:X.N.Nodup)(hi:X.N[i]?=some x)(hx:Loc X.env.scope x)(he:PE X e te)(hs:swapsWith e (some (.Name x pos')) pos.line X.env=pure false:=by rfl)(hf:X.fn x=true\/X.env.scope.names.lookup x=some .local:=by first | exact .inl rfl | exact .inr rfl | assumption) :
  PS X (.Assign [.Name x pos'] e pos) (tAsg te (gName i)):=by
 intro aU s σ H D I h;refine wpAny_Assign_Name (thn (he aU s σ H _ I h) fun v s1 hq0=>?_) hs;obtain⟨y,H1,I1,r1,q1⟩:=hq0;exact zir I1 hN hi hx r1 (fun s2 I2=>⟨_,H1,I2,q1⟩) hf
noncomputable def tAug (i:Nat) (te:TE) (ti:TIp):TS:=fun D σ H=>∃x,σ[i]?=some (some x)/\te σ H fun y H1=>ti x y H1 fun z H2=>D.nx (σ.set i (some z)) H2
theorem zbdg {i:Nat}{x:Str}{e:Expr}{te:TE}{op:Operator}{ti:TIp}{pos':Pos}(hN:X.N.Nodup)(hi:X.N[i]?=some x)(hx:Loc X.env.scope x)(he:PE X e te)(ho:PIp X op ti)(hf:X.fn x=true\/X.env.scope.names.lookup x=some .local:=by first | exact .inl rfl | exact .inr rfl | assumption) :
  PS X (.AugAssign (.Name x pos') op e pos) (tAug i te ti):=by
 intro aU s σ H D I h;obtain⟨v,e1,h⟩:=h;obtain⟨m,hn,hl⟩:=I.loc;have vis:Vis X.env.scope x:=by rcases hx with k | k;exact .inl k;exact .inr (.inl k)
 obtain⟨u,r,l⟩:=hl i x v hi e1 vis;refine wpAny_AugAssign_Name ?_;have go:wpAny (model X.prog X.w) X.A (eval e X.env) (fun w s₂=>wpAny (model X.prog X.w) X.A (inplaceOp op u w) (fun r s₃=>wpAny (model X.prog X.w) X.A (storeName X.env x r) (fun _=>SP X aU D .next) X.xe s₃) X.xe s₂) X.xe s:=by
  refine thn (he aU s σ H _ I h) fun w s1 hq0=>?_
  obtain⟨y,H1,I1,r1,q1⟩:=hq0;refine thn (ho aU s1 σ H1 v y u w _ I1 r r1 q1) fun z s2 hq0=>?_
  obtain⟨zv,H2,I2,r2,q2⟩:=hq0;exact zir I2 hN hi hx r2 (fun s3 I3=>⟨_,H2,I3,q2⟩) hf
 rcases l with⟨hk,hm⟩ | ⟨hk,c,hc,hcell⟩
 ·exact wpAny_loadName_local I.ok.kind hk hn hm go
 ·rcases hk with hk | hk
  ·exact wpAny_loadName_cell I.ok.kind hk hc hcell go
  ·rcases hx with k | k
   ·have:X.env.scope.names.lookup x=some .free:=hk;rw[k] at this;cases this
   ·have:X.env.scope.names.lookup x=some .free:=hk;rw[k] at this;cases this
noncomputable def ipI (f:Int->Int->Int):TIp:=fun x y H Q=>∃i j,x=.int i/\y=.int j/\Q (.int (f i j)) H
theorem zbeu:PIp X .Sub (ipI fun i j=>i - j):=by
 intro aU s σ H x y v u Q I r1 r2 h;obtain⟨i,j,e1,e2,q⟩:=h;subst e1;subst e2
 obtain⟨t,rfl⟩:=r1;obtain⟨t',rfl⟩:=r2;exact isub_int ⟨.int _,H,I.tok _,⟨_,rfl⟩,q⟩
noncomputable def tWhile (c:TT) (tb:TS):TS:=fun D σ H=>∃W:Nat->St->Hp->Prop,(∃m,W m σ H)/\∀m σ H,W m σ H ->
 c σ H fun b H1=>if b=true then ∃N:St->Hp->Prop,(∀σ' H',N σ' H'->∃m',m' < m/\W m' σ' H')/\tb {D with nx:=N,ct:=N,bk:=D.nx} σ H1 else D.nx σ H1
theorem ztt {c:Expr}{body:List Stmt}{tc:TT}{tb:TS}(hp:PassesOwn (model X.prog X.w) X.A X.env X.xe)(hc:PT X c tc)(hb:PSs X body tb):PS X (.While c body [] pos) (tWhile tc tb):=by
 intro aU s σ H D I h;obtain⟨W,⟨m0,w0⟩,turn⟩:=h;refine wpAny_While (codeAny_whileLoop (fun n s'=>∃σ' H',Inv X aU σ' H' s'/\W n σ' H') ?_ m0 ⟨σ,H,I,w0⟩);rintro n s1 ⟨σ1,H1,I1,w1⟩;refine xgk hp (thn (hc aU s1 σ1 H1 _ I1 (turn n σ1 H1 w1)) fun b s2 hq0=>?_);obtain⟨H2,I2,q2⟩:=hq0;cases b with
 | true =>
  obtain⟨N,hN,q2⟩:=q2;rw[if_pos rfl];refine xgk hp (thn (hb aU s2 σ1 H2 _ I2 q2) fun f s3 q3=>?_);cases f with
  | next =>
   obtain⟨σ3,H3,I3,n3⟩:=q3;obtain⟨m',hm,w3⟩:=hN σ3 H3 n3;exact⟨m',hm,σ3,H3,I3,w3⟩
  | cont =>
   obtain⟨σ3,H3,I3,n3⟩:=q3;obtain⟨m',hm,w3⟩:=hN σ3 H3 n3;exact⟨m',hm,σ3,H3,I3,w3⟩
  | brk=>exact q3
  | ret v=>exact q3
 | false =>
  rw[if_neg xem];exact xkb ⟨σ1,H2,I2,q2⟩
end
structure It where
 go:Nat->Hp->Prop
 yld:Nat->Hp->V->Hp->Prop
 stop:Nat->Hp->Prop
noncomputable def FpOk (X:Cx) (aU:List (Addr×Obj)) (H:Hp) (b:Addr):Prop :=
 H b=none/\b≠X.env.locals/\b∉X.fs/\(b∈X.ex\/X.s₀.heap.objs.size<=b)/\(∀x c,X.env.cells.lookup x=some c->c≠b)/\∀p∈X.pn++aU,p.1≠b
theorem Inv.fpOk {X:Cx}{aU:List (Addr×Obj)}{σ:St}{H H':Hp}{s:Shared}{b:Addr}(I:Inv X aU σ H s)(hb:s.heap.objs.size<=b)(hn:H' b=none):FpOk X aU H' b:=by
 refine⟨hn,xjt (xbg I.lt hb),I.nofs hb,.inr (xbb I.sz hb),fun x c e z=>?_,fun p hp z=>?_⟩
 ·obtain⟨v,q⟩:=I.cell x c e;exact absurd (xbg q.lt (by rw[z];exact hb)) (xgl _)
 ·exact absurd (xbg (xbs (I.pin p hp).1) (by rw[z];exact hb)) (xgl _)
structure Turn (P:Program) (w:World) (K:Fg) (tg:Expr) (J:It) (fp:List Addr) (it:Addr) (tn:Nat->Heap->Prop):Prop where
 mem:it∈fp
 obj:∀i h,tn i h->∀b∈fp,∃o,h.get? b=some o/\∀v,o.data≠.cell v
 keep:∀i h h',tn i h->(∀b∈fp,∀o,h.get? b=some o->h'.get? b=some o)->tn i h'
 item:∀(X:Cx),X.prog=P->X.w=w->X.K=K->X.calm=true->∀(i:Nat) (aU:List (Addr×Obj)) (s:Shared) (σ:St) (H:Hp) (E:Value->Shared->Prop),Inv X aU σ H s->(∀b∈fp,FpOk X aU H b)->tn i s.heap->J.go i H ->
  wpAny (model P w) X.A (pyNext (.ref it)) (fun r s1=>∃u,r=some u /\
   wpAny (model P w) X.A (letOwnedTupleGo tg (.ref it) u) (fun _ s2=>∃x H',Inv X aU σ H' s2/\RelV x u/\J.yld i H x H'/\tn (i+1) s2.heap/\∀b∈fp,H' b=none) E s1) E s
 done:∀(X:Cx),X.prog=P->X.w=w->X.K=K->X.calm=true->∀(i:Nat) (aU:List (Addr×Obj)) (s:Shared) (σ:St) (H:Hp) (E:Value->Shared->Prop),Inv X aU σ H s->(∀b∈fp,FpOk X aU H b)->tn i s.heap->J.stop i H ->
  wpAny (model P w) X.A (pyNext (.ref it)) (fun r s1=>r=none/\Inv X aU σ H s1) E s
 self:∀(A:Around) (i:Nat) (s:Shared) (Q:Value->Shared->Prop) (E:Value->Shared->Prop),tn i s.heap->Q (.ref it) s->wpAny (model P w) A (pyIter (.ref it)) Q E s
noncomputable abbrev TI:=St->Hp->(It->Hp->Prop)->Prop
noncomputable def PIE (X:Cx) (aU:List (Addr×Obj)) (σ:St) (tg:Expr) (R:It->Hp->Prop) (itv:Value) (s2:Shared):Prop :=
 ∃(it:Addr) (fp:List Addr) (tn:Nat->Heap->Prop) (J:It) (H':Hp),itv=.ref it/\Inv X aU σ H' s2/\Turn X.prog X.w X.K tg J fp it tn/\tn 0 s2.heap/\(∀b∈fp,FpOk X aU H' b)/\R J H'
noncomputable def PI (X:Cx) (tg iter:Expr) (wi:TI):Prop :=
 ∀(aU:List (Addr×Obj)) (s:Shared) (σ:St) (H:Hp) (R:It->Hp->Prop),Inv X aU σ H s->wi σ H R ->
  wpAny (model X.prog X.w) X.A (eval iter X.env) (fun v s1=>wpAny (model X.prog X.w) X.A (pyIter v) (PIE X aU σ tg R) X.xe s1) X.xe s
theorem zzt {M:Model}{A:Around}{E:Value->Shared->Prop}{s:Shared}{tg:Expr}{it:Addr}{u:Value}{o:Obj}{n:String}{vs:Array Value}{Q:Unit->Shared->Prop}(ho:s.heap.get? it=some o)(hc:o.cls=.type n)(hd:o.data=.fields vs)
    (hn:["enumerate", "zip", "dict_itemiterator", "dict_reverseitemiterator", "odict_iterator", "itertools.zip_longest", "itertools.pairwise"].contains n=false)(hQ:Q () s):wpAny M A (letOwnedTupleGo tg (.ref it) u) Q E s:=by
  unfold letOwnedTupleGo;cases tg <;> first
    | exact xbe hQ
    | (cases u <;> first
        | exact xbe hQ
        | (refine xba (wpAny_load ho ?_)
           rw[hc, hd];show wpAny M A (if(["enumerate", "zip", "dict_itemiterator", "dict_reverseitemiterator", "odict_iterator", "itertools.zip_longest", "itertools.pairwise"].contains n&&vs[0]?==some (rawInt _))=true then _ else _) Q E s
           rw[if_neg (by intro h; rw[hn, Bool.false_and] at h; cases h)]
           exact xbe hQ))
noncomputable def Itl (K:Fg) (a:Addr):It :=
 ⟨fun i H=>∃xs x,SqL K H a xs/\xs[i]?=some x,fun i H x H'=>H'=H/\∀xs,SqL K H a xs->xs[i]?=some x,fun i H=>∃xs,SqL K H a xs/\xs.length<=i⟩
noncomputable def Itt (K:Fg) (a:Addr):It :=
 ⟨fun i H=>∃xs x,SqT K H a xs/\xs[i]?=some x,fun i H x H'=>H'=H/\∀xs,SqT K H a xs->xs[i]?=some x,fun i H=>∃xs,SqT K H a xs/\xs.length<=i⟩
noncomputable def Itr (lo:Int) (n:Nat):It:=⟨fun i _=>i < n,fun i H x H'=>H'=H/\x=.int (lo+i),fun i _=>n<=i⟩
theorem zpr {P:Program}{w:World}{K:Fg}{tg:Expr}(a it:Addr):Turn P w K tg (Itl K a) [it] it (fun i h=>h.IsListIter it a i) where
 mem:=by simp
 obj:=fun i h st b hb=>by
  have e:b=it:=by simpa using hb
  subst e;obtain⟨o,e,c,d⟩:=st;exact⟨o,e,fun v z=>by rw[d] at z;cases z⟩
 keep:=fun i h h' st k=>st.at fun o e=>k it (by simp) o e
 item:=by
  intro X hP hw hK hc i aU s σ H E I hf st hg;subst hP hw hK;obtain⟨xs,x,hq,hx⟩:=hg;obtain⟨its,rv,p,hz⟩:=I.list hq;obtain⟨u,hu,ru⟩:=rv.get hx;obtain⟨f0,f1,f2,f3,f4,f5⟩:=hf it (by simp);refine wpAny_pyNext_list_item st p.isList (x:=u) (by simpa using hu) fun h' st' sb=>?_
  have I1:Inv X aU σ H {s with heap:=h'}:=I.turned (t':=s.toks) (fun b o hb e=>(sb.2 b hb).trans e) f0 f1 f3 f4 f5;obtain⟨o,e,c,d⟩:=id st';exact⟨u,rfl,zzt (s:={s with heap:=h'}) e c d (by decide) ⟨x,H,I1,ru,⟨rfl,fun ys hy=>by rw[I.list_inj hy hq];exact hx⟩,st',fun b hb=>(hf b hb).1⟩⟩
 done:=by
  intro X hP hw hK hc i aU s σ H E I hf st hg;subst hP hw hK;obtain⟨xs,hq,hx⟩:=hg;obtain⟨its,rv,p,hz⟩:=I.list hq;obtain⟨f0,f1,f2,f3,f4,f5⟩:=hf it (by simp);have hl:=rv.length;exact wpAny_pyNext_list_end (I.ok.hd hc) st p.isList (by simp;lia) fun h' eb=>⟨rfl,I.turned (t':=s.toks) (fun b o hb e=>eb b o hb e) f0 f1 f3 f4 f5⟩
 self:=fun _ _ _ _ _ st h=>wpAny_pyIter_listiter st h
theorem zmo {P:Program}{w:World}{K:Fg}{tg:Expr}(a it:Addr):Turn P w K tg (Itt K a) [it] it (fun i h=>h.IsTupleIter it a i) where
 mem:=by simp
 obj:=fun i h st b hb=>by
  have e:b=it:=by simpa using hb
  subst e;obtain⟨o,e,c,d⟩:=st;exact⟨o,e,fun v z=>by rw[d] at z;cases z⟩
 keep:=fun i h h' st k=>st.at fun o e=>k it (by simp) o e
 item:=by
  intro X hP hw hK hc i aU s σ H E I hf st hg;subst hP hw hK;obtain⟨xs,x,hq,hx⟩:=hg;obtain⟨its,rv,p,hz⟩:=I.tuple hq;obtain⟨u,hu,ru⟩:=rv.get hx;obtain⟨f0,f1,f2,f3,f4,f5⟩:=hf it (by simp);refine wpAny_pyNext_tuple_item st (show s.heap.IsTuple a its.toArray from p) (x:=u) (by simpa using hu) fun h' st' sb=>?_
  have I1:Inv X aU σ H {s with heap:=h'}:=I.turned (t':=s.toks) (fun b o hb e=>(sb.2 b hb).trans e) f0 f1 f3 f4 f5;obtain⟨o,e,c,d⟩:=id st';exact⟨u,rfl,zzt (s:={s with heap:=h'}) e c d (by decide) ⟨x,H,I1,ru,⟨rfl,fun ys hy=>by rw[I.tuple_inj hy hq];exact hx⟩,st',fun b hb=>(hf b hb).1⟩⟩
 done:=by
  intro X hP hw hK hc i aU s σ H E I hf st hg;subst hP hw hK;obtain⟨xs,hq,hx⟩:=hg;obtain⟨its,rv,p,hz⟩:=I.tuple hq;obtain⟨f0,f1,f2,f3,f4,f5⟩:=hf it (by simp);have hl:=rv.length;exact wpAny_pyNext_tuple_end (I.ok.hd hc) st (show s.heap.IsTuple a its.toArray from p) (by simp;lia) fun h' eb=>⟨rfl,I.turned (t':=s.toks) (fun b o hb e=>eb b o hb e) f0 f1 f3 f4 f5⟩
 self:=fun _ _ _ _ _ st h=>wpAny_pyIter_tupleiter st h
theorem zmp {P:Program}{w:World}{K:Fg}{tg:Expr}(it:Addr)(lo:Int)(n:Nat):Turn P w K tg (Itr lo n) [it] it (fun i h=>IsRangeIter h it (lo+(i:Nat) * 1) ((n:Int) - (i:Nat)) 1) where
 mem:=by simp
 obj:=fun i h st b hb=>by
  have e:b=it:=by simpa using hb
  subst e
  exact⟨_,st,fun v z=>by
   have z':Data.fields _=Data.cell v:=z
   cases z'⟩
 keep:=fun i h h' st k=>k it (by simp) _ st
 item:=by
  intro X hP hw hK hc i aU s σ H E I hf st hg;subst hP hw hK;obtain⟨f0,f1,f2,f3,f4,f5⟩:=hf it (by simp);have W:=Walks.range (prog:=X.prog) (w:=X.w) (I.ok.hd hc) it lo 1 n;refine W.item i s _ _ hg st fun v h' tk hv st' kk=>?_
  obtain⟨t,rfl⟩:=hv;have I1:Inv X aU σ H {s with heap:=h',toks:=tk}:=I.turned (fun b o hb e=>kk b o (by simpa using hb) e) f0 f1 f3 f4 f5;refine⟨_, rfl, zzt (s:={ s with heap:=h', toks:=tk }) (n:="range_iterator") st' rfl rfl (by decide) ⟨.int (lo + i), H, I1,⟨t, ?_⟩,⟨rfl, rfl⟩, st', fun b hb=>(hf b hb).1⟩⟩
  rw[Int.mul_one]
 done:=by
  intro X hP hw hK hc i aU s σ H E I hf st hg;subst hP hw hK;obtain⟨f0,f1,f2,f3,f4,f5⟩:=hf it (by simp);exact wpAny_pyNext_range_end (I.ok.hd hc) st (by have:n<=i:=hg;lia) fun h' eb=>⟨rfl,I.turned (t':=s.toks) (fun b o hb e=>eb b o hb e) f0 f1 f3 f4 f5⟩
 self:=fun _ _ _ _ _ st h=>wpAny_pyIter_rangeiter st h
section
variable {X:Cx}{tg:Expr}
noncomputable def iList (K:Fg) (tl:TE):TI:=fun σ H R=>tl σ H fun x H1=>∃a,x=.ref a/\(∃xs,SqL K H1 a xs)/\R (Itl K a) H1
noncomputable def iTup (K:Fg) (tl:TE):TI:=fun σ H R=>tl σ H fun x H1=>∃a,x=.ref a/\(∃xs,SqT K H1 a xs)/\R (Itt K a) H1
theorem zyf {l:Expr}{tl:TE}(hl:PE X l tl):PI X tg l (iList X.K tl):=by
 intro aU s σ H R I h;refine thn (hl aU s σ H _ I h) fun v s1 hq0=>?_
 obtain⟨x,H1,I1,r1,q1⟩:=hq0;obtain⟨a,e,⟨xs,hq⟩,q⟩:=q1;subst e;cases r1;obtain⟨its,rv,p,hz⟩:=I1.list hq;refine xjf p.isList ?_;refine⟨s1.heap.objs.size,[s1.heap.objs.size],_,_,H1,rfl,I1.kept (t':=s1.toks) fun b o e=>xbj _ e,zpr a _,⟨_,xbz _ rfl,rfl,rfl⟩,fun b hb=>?_,q⟩;have e:b=s1.heap.objs.size:=by simpa using hb
 subst e;exact I1.fpOk (xbd _) (I1.hok.fresh (xbd _))
theorem zbdi {l:Expr}{tl:TE}(hl:PE X l tl):PI X tg l (iTup X.K tl):=by
 intro aU s σ H R I h;refine thn (hl aU s σ H _ I h) fun v s1 hq0=>?_
 obtain⟨x,H1,I1,r1,q1⟩:=hq0;obtain⟨a,e,⟨xs,hq⟩,q⟩:=q1;subst e;cases r1;obtain⟨its,rv,p,hz⟩:=I1.tuple hq;refine xkk (show s1.heap.IsTuple a its.toArray from p) ?_;refine⟨s1.heap.objs.size,[s1.heap.objs.size],_,_,H1,rfl,I1.kept (t':=s1.toks) fun b o e=>xbj _ e,zmo a _,⟨_,xbz _ rfl,rfl,rfl⟩,fun b hb=>?_,q⟩;have e:b=s1.heap.objs.size:=by simpa using hb
 subst e;exact I1.fpOk (xbd _) (I1.hok.fresh (xbd _))
theorem ztp {aU:List (Addr×Obj)}{σ:St}{H:Hp}{s:Shared}{R:It->Hp->Prop}{E:Value->Shared->Prop}{lo hi:Int}{t u v:Tok}{tk:Nat}(I:Inv X aU σ H s)(h1:-(2 ^ 62)<=lo)(h2:lo < 2 ^ 62)(h3:-(2 ^ 62)<=hi)(h4:hi < 2 ^ 62)
  (q:R (Itr lo (hi - lo).toNat) H):wpAny (model X.prog X.w) X.A (pyIter (.ref s.heap.objs.size)) (PIE X aU σ tg R) E { s with heap:=s.heap.push { cls:=.type "range", data:=.fields #[.int lo t, .int hi u, .int 1 v] }, toks:=tk }:=by
 refine wpAny_pyIter_range (IsRange.new ..) (small_one h1 h2 h3 h4) ?_;have I1:Inv X aU σ H { s with heap:=s.heap.push { cls:=.type "range", data:=.fields #[.int lo t, .int hi u, .int 1 v] }, toks:=tk }:=I.kept fun b o e=>xbj _ e
 refine⟨(s.heap.push { cls:=.type "range", data:=.fields #[.int lo t, .int hi u, .int 1 v] }).objs.size,[(s.heap.push { cls:=.type "range", data:=.fields #[.int lo t, .int hi u, .int 1 v] }).objs.size], _, _, H, rfl,
  I1.kept (t':=tk) fun b o e=>xbj _ e,zmp _ lo (hi - lo).toNat,?_,fun b hb=>?_,q⟩
 ·have e1:lo+((0:Nat):Int) * 1=lo:=by simp
  have e2:(((hi - lo).toNat:Nat):Int) - ((0:Nat):Int)=Builtin.Range.rangeSize lo hi 1:=by rw[rangeSize_one];split<;>lia
  show IsRangeIter _ _ (lo+((0:Nat):Int) * 1) ((((hi - lo).toNat:Nat):Int) - ((0:Nat):Int)) 1;rw[e1,e2];exact xbz _ rfl
 ·have e:b=(s.heap.push { cls:=.type "range", data:=.fields #[.int lo t, .int hi u, .int 1 v] }).objs.size:=by simpa using hb
  subst e;exact I1.fpOk (xbd _) (I1.hok.fresh (xbd _))
noncomputable def iRng1 (ta:TA):TI:=fun σ H R=>ta σ H fun vs H1=>∃j:Int,vs=[.int j]/\-(2 ^ 62)<=j/\j < 2 ^ 62/\R (Itr 0 j.toNat) H1
theorem zqj {a:Expr}{ta:TA}{p pos:Pos}(hg:Gl X "range")(hm:X.mg "range"=none)(ha:PA X [a] ta)(hs:starEach [a] X.env=[(false, eval a X.env)]:=by rfl):PI X tg (.Call (.Name "range" p) [a] [] pos) (iRng1 ta):=by
 intro aU s σ H R I h;refine Call_ (znu I hg hm boot_range (xhr (thn (ha pos aU s σ H _ I h) fun us s1 hq0=>?_) hs rfl));obtain⟨vs,H1,I1,r1,q1⟩:=hq0;obtain⟨j,e,q1,q2,q⟩:=q1;subst e;cases r1 with
 | cons r rr =>
  cases rr;obtain⟨t,rfl⟩:=r;exact call_range_1 (ztp I1 (by lia) (by lia) q1 q2 (by simpa using q))
noncomputable def tFor (wi:TI) (g:TG) (tb:TS):TS:=fun D σ H=>wi σ H fun J H1=>∃W:Nat->Nat->St->Hp->Prop,(∃m,W 0 m σ H1)/\∀i m σ H,W i m σ H ->
 (J.stop i H/\D.nx σ H)\/(J.go i H/\∃N:St->Hp->Prop,(∀σ' H',N σ' H'->∃m',m' < m/\W (i+1) m' σ' H')/\∀x H',J.yld i H x H'->g x σ H' fun σ2 H2=>tb {D with nx:=N,ct:=N,bk:=D.nx} σ2 H2)
noncomputable def pinsAt (fp:List Addr) (h:Heap):List (Addr×Obj):=fp.filterMap fun b=>(h.get? b).map fun o=>(b,o)
theorem zdz {fp:List Addr}{h:Heap}{b:Addr}{o:Obj}(hb:b∈fp)(e:h.get? b=some o):(b,o)∈pinsAt fp h:=List.mem_filterMap.mpr ⟨b,hb,by rw[e];rfl⟩
theorem zqp {fp:List Addr}{h:Heap}{p:Addr×Obj}(hp:p∈pinsAt fp h):p.1∈fp/\h.get? p.1=some p.2:=by
 obtain⟨b,hb,e⟩:=List.mem_filterMap.mp hp;cases q:h.get? b with
 | none=>rw[q] at e;cases e
 | some o =>
  rw[q] at e;have e':(b,o)=p:=xcd e;subst e';exact⟨hb,q⟩
theorem Inv.pinned {aU:List (Addr×Obj)}{σ:St}{H:Hp}{s:Shared}{fp:List Addr}(I:Inv X aU σ H s)(hf:∀b∈fp,FpOk X aU H b)(ho:∀b∈fp,∃o,s.heap.get? b=some o/\∀v,o.data≠.cell v):Inv X (aU++pinsAt fp s.heap) σ H s :=
 I.pins_of fun p hp=>(xce.mp hp).elim (fun z=>I.pin p (xdb _ z)) fun z=>by
  obtain⟨hb,e⟩:=zqp z;obtain⟨f0,f1,f2,_⟩:=hf p.1 hb;obtain⟨o,e',d⟩:=ho p.1 hb;rw[e] at e';cases e'
  exact⟨e,f0,f1,f2,d⟩
theorem Inv.unpinned {aU pl:List (Addr×Obj)}{σ:St}{H:Hp}{s:Shared}(I:Inv X (aU++pl) σ H s):Inv X aU σ H s:=I.pins_of fun p hp=>I.pin p (xdb _ (xhs _ hp))
theorem zbdf {iter:Expr}{body:List Stmt}{wi:TI}{g:TG}{tb:TS}{pos:Pos}(hp:PassesOwn (model X.prog X.w) X.A X.env X.xe)(hc:X.calm=true)(hi:PI X tg iter wi)(hg:PG X tg g)(hb:PSs X body tb)
  (hs:∀x,foldedSetIterable iter X.env x=pure x:=by intro _;rfl):PS X (.For tg iter body [] pos) (tFor wi g tb):=by
 intro aU s σ H D I h;refine wpAny_For (thn (hi aU s σ H _ I h) fun v s1 h1=>thn h1 fun itv s2 h2=>?_) hs;obtain⟨it,fp,tn,J,H2,e,I2,T,st2,f2,W,⟨m0,w0⟩,turn⟩:=h2;subst e;have stat:∀{H':Hp},(∀b∈fp,H' b=none)->∀b∈fp,FpOk X aU H' b:=fun hn b hb=>⟨hn b hb,(f2 b hb).2⟩
 refine codeAny_forLoop_any (fun n s'=>∃i σ' H',Inv X aU σ' H' s'/\tn i s'.heap/\(∀b∈fp,H' b=none)/\W i n σ' H') ?_ m0 ⟨0,σ,H2,I2,st2,fun b hb=>(f2 b hb).1,w0⟩;rintro n s3 ⟨i,σ3,H3,I3,st3,fr3,w3⟩;rcases turn i n σ3 H3 w3 with⟨stop,qn⟩ | ⟨go,N,hN,step⟩
 ·refine xgk hp (thn (T.done X rfl rfl rfl hc i aU s3 σ3 H3 X.xe I3 (stat fr3) st3 stop) fun r s4 hq0=>?_);obtain⟨hr,I4⟩:=hq0;subst hr;exact xkb ⟨σ3,H3,I4,qn⟩
 ·refine xgk hp (thn (T.item X rfl rfl rfl hc i aU s3 σ3 H3 X.xe I3 (stat fr3) st3 go) fun r s4 hq0=>?_);obtain⟨u,hr,h4⟩:=hq0;subst hr;refine xgk hp (thn h4 fun _ s5 hq0=>?_);obtain⟨x,H5,I5,r5,y5,st5,fr5⟩:=hq0;have I5':=I5.pinned (stat fr5) (T.obj _ _ st5);refine xgk hp (thn (hg _ s5 σ3 H5 x u _ I5' r5 (step x H5 y5)) fun _ s6 hq0=>?_);obtain⟨σ6,H6,I6,q6⟩:=hq0;refine xgk hp (thn (hb _ s6 σ6 H6 _ I6 q6) fun f s7 q7=>?_);have again:∀{σ7:St} {H7:Hp},Inv X (aU++pinsAt fp s5.heap) σ7 H7 s7->N σ7 H7->∃m,m < n/\∃i σ' H',Inv X aU σ' H' s7/\tn i s7.heap/\(∀b∈fp,H' b=none)/\W i m σ' H':=fun {σ7 H7} I7 n7=>by
   obtain⟨m',hm,w7⟩:=hN σ7 H7 n7;refine⟨m',hm,i+1,σ7,H7,I7.unpinned,T.keep _ _ _ st5 fun b hb o e=>(I7.pin (b,o) (xdb _ (xdb _ (zdz hb e)))).1,fun b hb=>?_,w7⟩;obtain⟨o,e,d⟩:=T.obj _ _ st5 b hb;exact(I7.pin (b,o) (xdb _ (xdb _ (zdz hb e)))).2.1
  cases f with
  | next=>obtain⟨σ7,H7,I7,n7⟩:=q7;exact again I7 n7
  | cont=>obtain⟨σ7,H7,I7,n7⟩:=q7;exact again I7 n7
  | brk=>obtain⟨σ7,H7,I7,q7⟩:=q7;exact⟨σ7,H7,I7.unpinned,q7⟩
  | ret v=>obtain⟨x7,σ7,H7,I7,r7,q7⟩:=q7;exact⟨x7,σ7,H7,I7.unpinned,r7,q7⟩
end
noncomputable abbrev R2:=V->V->Hp->VK->Prop
noncomputable def OpR (X:Cx) (f:Value->Value->Sem Value) (r:R2):Prop :=
 ∀(aU:List (Addr×Obj)) (s:Shared) (σ:St) (H:Hp) (x y:V) (v u:Value) (Q:VK),Inv X aU σ H s->RelV x v->RelV y u->r x y H Q ->
  wpAny (model X.prog X.w) X.A (f v u) (EP X aU σ Q) X.xe s
noncomputable def UnR (X:Cx) (f:Value->Sem Value) (r:V->Hp->VK->Prop):Prop :=
 ∀(aU:List (Addr×Obj)) (s:Shared) (σ:St) (H:Hp) (x:V) (v:Value) (Q:VK),Inv X aU σ H s->RelV x v->r x H Q ->
  wpAny (model X.prog X.w) X.A (f v) (EP X aU σ Q) X.xe s
noncomputable def CallR (X:Cx) (f:Value) (r:List V->Hp->VK->Prop):Prop :=
 ∀(aU:List (Addr×Obj)) (s:Shared) (σ:St) (H:Hp) (xs:List V) (us:List Value) (Q:VK),Inv X aU σ H s->Vals xs us->r xs H Q ->
  wpAny (model X.prog X.w) X.A (call f us) (EP X aU σ Q) X.xe s
noncomputable def TruR (X:Cx) (r:V->Hp->(Bool->Hp->Prop)->Prop):Prop :=
 ∀(aU:List (Addr×Obj)) (s:Shared) (σ:St) (H:Hp) (x:V) (v:Value) (Q:Bool->Hp->Prop),Inv X aU σ H s->RelV x v->r x H Q ->
  wpAny (model X.prog X.w) X.A (truthy v) (TP X aU σ Q) X.xe s
noncomputable def tOp (r:R2) (ta tb:TE):TE:=fun σ H Q=>ta σ H fun x H1=>tb σ H1 fun y H2=>r x y H2 Q
noncomputable def tUn (r:V->Hp->VK->Prop) (ta:TE):TE:=fun σ H Q=>ta σ H fun x H1=>r x H1 Q
noncomputable def rI (C:Int->Int->Prop) (g:Int->Int->V):R2:=fun x y H Q=>∃i j,x=.int i/\y=.int j/\C i j/\Q (g i j) H
noncomputable def rI0 (g:Int->Int->V):R2:=fun x y H Q=>∃i j,x=.int i/\y=.int j/\Q (g i j) H
noncomputable def rU (g:Int->V):V->Hp->VK->Prop:=fun x H Q=>∃i,x=.int i/\Q (g i) H
section
variable {X:Cx}{a b c:Expr}{ta tb tc:TE}{pos:Pos}
theorem binT (ha:PE X a ta)(hb:PE X b tb){aU:List (Addr×Obj)}{s:Shared}{σ:St}{H:Hp}{R:V->V->Hp->Prop}(I:Inv X aU σ H s)
  (h:ta σ H fun x H1=>tb σ H1 fun y H2=>R x y H2){Q:Value->Shared->Prop}{f:Value->Value->Sem Value}
  (hf:∀v u s2 x y H2,Inv X aU σ H2 s2->RelV x v->RelV y u->R x y H2->wpAny (model X.prog X.w) X.A (f v u) Q X.xe s2) :
  wpAny (model X.prog X.w) X.A (eval a X.env) (fun v s₁=>wpAny (model X.prog X.w) X.A (eval b X.env) (fun u s₂=>wpAny (model X.prog X.w) X.A (f v u) Q X.xe s₂) X.xe s₁) X.xe s:=by
 refine thn (ha aU s σ H _ I h) fun v s1 hq0=>?_
 obtain⟨x,H1,I1,r1,q1⟩:=hq0;refine thn (hb aU s1 σ H1 _ I1 q1) fun u s2 hq0=>?_
 obtain⟨y,H2,I2,r2,q2⟩:=hq0;exact hf v u s2 x y H2 I2 r1 r2 q2
theorem zbii {op:Operator}{r:R2}(ho:OpR X (binaryOp op) r)(ha:PE X a ta)(hb:PE X b tb):PE X (.BinOp a op b pos) (tOp r ta tb):=by
 intro aU s σ H Q I h;exact wpAny_BinOp (binT ha hb I h fun v u s2 x y H2 I2 rx ry q=>ho aU s2 σ H2 x y v u Q I2 rx ry q)
theorem zbig {op:UnaryOp}{r:V->Hp->VK->Prop}(ho:UnR X (unaryOp op) r)(ha:PE X a ta):PE X (.UnaryOp op a pos) (tUn r ta):=by
 intro aU s σ H Q I h;exact UnaryOp_ (thn (ha aU s σ H _ I h) fun v s1 ⟨x,H1,I1,r1,q1⟩=>ho aU s1 σ H1 x v Q I1 r1 q1)
theorem opI {f:Value->Value->Sem Value}{C:Int->Int->Prop}{g:Int->Int->Int}
  (rule:∀(i j:Int) (t u:Tok) (s:Shared) (Q:Value->Shared->Prop) (E:Value->Shared->Prop),C i j->Q (.int (g i j) s.toks) {s with toks:=s.toks+1}->wpAny (model X.prog X.w) X.A (f (.int i t) (.int j u)) Q E s) :
  OpR X f (rI C fun i j=>.int (g i j)):=by
 intro aU s σ H x y v u Q I rx ry h;obtain⟨i,j,rfl,rfl,hc,q⟩:=h;obtain⟨t,rfl⟩:=rx;obtain⟨t',rfl⟩:=ry;exact rule i j t t' s _ _ hc ⟨.int (g i j),H,I.tok _,⟨_,rfl⟩,q⟩
theorem opI0 {f:Value->Value->Sem Value}{g:Int->Int->Int}
  (rule:∀(i j:Int) (t u:Tok) (s:Shared) (Q:Value->Shared->Prop) (E:Value->Shared->Prop),Q (.int (g i j) s.toks) {s with toks:=s.toks+1}->wpAny (model X.prog X.w) X.A (f (.int i t) (.int j u)) Q E s) :
  OpR X f (rI0 fun i j=>.int (g i j)):=by
 intro aU s σ H x y v u Q I rx ry h;obtain⟨i,j,rfl,rfl,q⟩:=h;obtain⟨t,rfl⟩:=rx;obtain⟨t',rfl⟩:=ry;exact rule i j t t' s _ _ ⟨.int (g i j),H,I.tok _,⟨_,rfl⟩,q⟩
theorem opB0 {f:Value->Value->Sem Value}{g:Int->Int->Bool}
  (rule:∀(i j:Int) (t u:Tok) (s:Shared) (Q:Value->Shared->Prop) (E:Value->Shared->Prop),Q (.bool (g i j)) s->wpAny (model X.prog X.w) X.A (f (.int i t) (.int j u)) Q E s) :
  OpR X f (rI0 fun i j=>.bl (g i j)):=by
 intro aU s σ H x y v u Q I rx ry h;obtain⟨i,j,rfl,rfl,q⟩:=h;obtain⟨t,rfl⟩:=rx;obtain⟨t',rfl⟩:=ry;exact rule i j t t' s _ _ ⟨.bl (g i j),H,I,rfl,q⟩
noncomputable def CPow (i j:Int):Prop:=0<=j/\j<=1000000/\i.natAbs < 2 ^ 64
noncomputable def CMul (i j:Int):Prop:=(-(2 ^ 64) < i/\i < 2 ^ 64)\/(-(2 ^ 64) < j/\j < 2 ^ 64)
theorem CMul.ok {i j:Int}(h:CMul i j):IntMulOk i j:=by
 rcases h with⟨h1,h2⟩ | ⟨h1,h2⟩
 ·exact .of_left (intBits_le_64 h1 h2)
 ·exact .of_right (intBits_le_64 h1 h2)
theorem zbeb:OpR X (binaryOp .Add) (rI0 fun i j=>.int (i+j)):=opI0 fun _ _ _ _ _ _ _ q=>add_int q
theorem zbdw:OpR X (binaryOp .Sub) (rI0 fun i j=>.int (i - j)):=opI0 fun _ _ _ _ _ _ _ q=>sub_int q
theorem zfx:OpR X (binaryOp .Mult) (rI CMul fun i j=>.int (i * j)):=opI fun _ _ _ _ _ _ _ hc q=>mul_int q hc.ok
theorem zlw:OpR X (binaryOp .Mod) (rI (fun _ j=>0 < j) fun i j=>.int (i % j)):=opI fun i j _ _ _ _ _ hc q=>by
 have h1:(0:Int) < j:=hc;exact mod_int' (by lia) (by rw[Int.fmod_eq_emod_of_nonneg i (by lia)];exact q)
theorem zbdx:OpR X (binaryOp .Pow) (rI CPow fun i j=>.int (i ^ j.toNat)):=opI fun _ _ _ _ _ _ _ hc q=>pow_int_small hc.1 hc.2.1 hc.2.2 q
theorem zui:OpR X (binaryOp .LShift) (rI CPow fun i j=>.int (i * 2 ^ j.toNat)):=opI fun _ _ _ _ _ _ _ hc q=>lshift_int_small hc.1 hc.2.1 hc.2.2 q
theorem zyu:OpR X (binaryOp .BitAnd) (rI0 fun i j=>.int (Builtin.bitAnd i j)):=opI0 fun _ _ _ _ _ _ _ q=>and_int q
theorem unI {f:Value->Sem Value}{g:Int->Int}
  (rule:∀(i:Int) (t:Tok) (s:Shared) (Q:Value->Shared->Prop) (E:Value->Shared->Prop),Q (.int (g i) s.toks) {s with toks:=s.toks+1}->wpAny (model X.prog X.w) X.A (f (.int i t)) Q E s) :
  UnR X f (rU fun i=>.int (g i)):=by
 intro aU s σ H x v Q I rx h;obtain⟨i,rfl,q⟩:=h;obtain⟨t,rfl⟩:=rx;exact rule i t s _ _ ⟨.int (g i),H,I.tok _,⟨_,rfl⟩,q⟩
theorem zbcj:UnR X (unaryOp .USub) (rU fun i=>.int (-i)):=unI fun _ _ _ _ _ q=>neg_int q
theorem zbim:OpR X (compareOp .Lt) (rI0 fun i j=>.bl (decide (i < j))):=opB0 fun _ _ _ _ _ _ _ q=>lt_int q
theorem zbhk:OpR X (compareOp .LtE) (rI0 fun i j=>.bl (decide (i<=j))):=opB0 fun _ _ _ _ _ _ _ q=>le_int q
theorem zbhl:OpR X (compareOp .Gt) (rI0 fun i j=>.bl (decide (j < i))):=opB0 fun _ _ _ _ _ _ _ q=>gt_int q
theorem zbin:OpR X (compareOp .GtE) (rI0 fun i j=>.bl (decide (j<=i))):=opB0 fun _ _ _ _ _ _ _ q=>ge_int q
theorem OpR.or {f:Value->Value->Sem Value}{r r':R2}(h:OpR X f r)(h':OpR X f r'):OpR X f (fun x y H Q=>r x y H Q\/r' x y H Q):=by
 intro aU s σ H x y v u Q I rx ry q;rcases q with q | q
 ·exact h aU s σ H x y v u Q I rx ry q
 ·exact h' aU s σ H x y v u Q I rx ry q
theorem nomark (b:Expr){op:CmpOp}(h:op≠.In:=by decide)(h2:op≠.NotIn:=by decide):behindInMarks op b=false:=by
 have e1:(op==CmpOp.In)=false:=by cases op<;>first | rfl | exact absurd rfl h
 have e2:(op==CmpOp.NotIn)=false:=by cases op<;>first | rfl | exact absurd rfl h2
 cases b<;>simp[behindInMarks,e1,e2]
noncomputable def tTest (t:TE):TT:=fun σ H Q=>t σ H fun x H'=>∃k,x=.bl k/\Q k H'
theorem zxr {op:CmpOp}{r:R2}(ho:OpR X (compareOp op) r)(ha:PE X a ta)(hb:PE X b tb)(hm:behindInMarks op b=false):PT X (.Compare a [op] [b] pos) (tTest (tOp r ta tb)):=by
 intro aU s σ H Q I h
 refine wpAny_isTrue_Compare1 (thn (ha aU s σ H _ I h) fun v s1 ⟨x,H1,I1,r1,q1⟩=>thn (hb aU s1 σ H1 _ I1 q1) fun u s2 ⟨y,H2,I2,r2,q2⟩ =>
  thn (ho aU s2 σ H2 x y v u _ I2 r1 r2 q2) fun c s3 ⟨z,H3,I3,r3,k,e,q3⟩=>?_) hm
 subst e;cases r3;exact xff ⟨H3,I3,q3⟩
noncomputable def TruV (K:Fg) (x:V) (H:Hp) (k:Bool):Prop :=
 match x with
 | .non=>k=false
 | .bl b=>k=b
 | .int i=>k=(i != 0)
 | .str y=>y.length<=sizeLine/\k=((y.length:Int) != 0)
 | .byt y=>y.size<=sizeLine/\k=((y.size:Int) != 0)
 | .ref p=>(∃xs,SqL K H p xs/\k=!xs.isEmpty)\/(∃xs,SqT K H p xs/\k=!xs.isEmpty)\/∃kvs,H p=some (.dK kvs)/\k=!kvs.isEmpty
 | _=>False
theorem zoc {κ:Type}{kvs:List (κ×V)}{vs:List (κ×Value)}(r:KV kvs vs):(!vs.isEmpty)=!kvs.isEmpty:=by
 cases r<;>rfl
theorem zib {xs:List V}{its:List Value}(r:Vals xs its):(!its.toArray.isEmpty)=!xs.isEmpty:=by
 cases r<;>simp
theorem line63:(sizeLine:Nat) < 2 ^ 63:=by rw[xib];decide
theorem zbcl:TruR X (fun x H Q=>∃k,TruV X.K x H k/\Q k H):=by
 intro aU s σ H x v Q I rx h;obtain⟨k,e,q⟩:=h;have hl:=line63;have hs:sizeLine=16777216:=xib;cases x with
 | non =>
  cases rx;have e':k=false:=e;subst e';exact truthy_none ⟨H,I,q⟩
 | bl b =>
  cases rx;have e':k=b:=e;subst e';exact xff ⟨H,I,q⟩
 | int i =>
  obtain⟨t,rfl⟩:=rx;have e':k=(i != 0):=e;subst e';exact PySem.P.truthy_int ⟨H,I,q⟩
 | str y =>
  obtain⟨t,rfl⟩:=rx;obtain⟨hy,e'⟩:y.length<=sizeLine/\k=((y.length:Int) != 0):=e;subst e';exact PySem.P.truthy_str (by lia) ⟨H,I.tok _,q⟩
 | byt y =>
  obtain⟨t,rfl⟩:=rx;obtain⟨hy,e'⟩:y.size<=sizeLine/\k=((y.size:Int) != 0):=e;subst e';exact W.truthy_bytes (by lia) ⟨H,I.tok _,q⟩
 | ref p =>
  cases rx;have e':(∃xs,SqL X.K H p xs/\k=!xs.isEmpty)\/(∃xs,SqT X.K H p xs/\k=!xs.isEmpty)\/∃kvs,H p=some (.dK kvs)/\k=!kvs.isEmpty:=e
  rcases e' with⟨xs,hx,e'⟩ | ⟨xs,hx,e'⟩ | ⟨kvs,hx,e'⟩
  ·subst e';obtain⟨its,r,pl,hz⟩:=I.list hx;have hlen:=r.length;exact wpAny_truthy_list pl.isList (by simp only[xbn];lia) ⟨H,I.tok _,by rw[zib r];exact q⟩
  ·subst e';obtain⟨its,r,pl,hz⟩:=I.tuple hx;have hlen:=r.length;exact truthy_tuple pl (by simp only[xbn];lia) ⟨H,I.tok _,by rw[zib r];exact q⟩
  ·subst e';obtain⟨hz,hS,vs,r,m⟩:kvs.length<=sizeLine/\(p==sysModules)=false/\∃vs,KV kvs vs/\s.heap.DictOf (mixKind X.prog X.w) p vs:=I.hok p _ hx
   have hlen:kvs.length=vs.length:=xey r;exact wpAny_truthy_dict hS m (by lia) ⟨H,I.tok _,by rw[zoc r];exact q⟩
 | _=>exact(show False from e).elim
theorem ztr (ha:PE X a ta)(he:∀whole,isTrue a X.env whole=(do let v ← whole;standAt a.pos;holding [v] (truthy v))) :
  PT X a (fun σ H Q=>ta σ H fun x H'=>∃k,TruV X.K x H' k/\Q k H'):=by
 intro aU s σ H Q I h;exact isTrue_plain (thn (ha aU s σ H _ I h) fun v s1 ⟨x,H1,I1,r1,q1⟩=>zbcl aU s1 σ H1 x v Q I1 r1 q1) (he _)
theorem zni:OpR X (binaryOp .Add) (fun x y H Q=>∃i j,x=.str i/\y=.str j/\i.length+j.length<=sizeLine/\Q (.str (i++j)) H):=by
 intro aU s σ H x y v u Q I rx ry h;obtain⟨i,j,rfl,rfl,hz,q⟩:=h;obtain⟨t,rfl⟩:=rx;obtain⟨t',rfl⟩:=ry;exact add_str (fun t' tk=>⟨.str (i++j),H,I.tok _,⟨_,rfl⟩,q⟩) hz
theorem vals1 {x:V}{us:List Value}(r:Vals [x] us):∃u,us=[u]/\RelV x u:=by
 cases r with
 | cons r1 r2=>cases r2;exact⟨_,rfl,r1⟩
theorem vals2 {x y:V}{us:List Value}(r:Vals [x,y] us):∃u w',us=[u,w']/\RelV x u/\RelV y w':=by
 cases r with
 | cons r1 r2 =>
  cases r2 with
  | cons r3 r4=>cases r4;exact⟨_,_,rfl,r1,r3⟩
theorem zvx:CallR X (.builtin "abs") (fun xs H Q=>∃ i, xs=[.int i]/\Q (.int (if i < 0 then -i else i)) H):=by
 intro aU s σ H xs us Q I r h;obtain⟨i,rfl,q⟩:=h;obtain⟨u,rfl,t,rfl⟩:=vals1 r;exact call_abs_int fun u tk=>⟨.int (if i < 0 then -i else i),H,I.tok _,⟨_,rfl⟩,q⟩
theorem zhp (hc:X.calm=true):CallR X (.builtin "min") (fun xs H Q=>∃ i j, xs=[.int i, .int j]/\Q (.int (if j < i then j else i)) H):=by
 intro aU s σ H xs us Q I r h;obtain⟨i,j,rfl,q⟩:=h;obtain⟨u,w',rfl,⟨t,rfl⟩,⟨t',rfl⟩⟩:=vals2 r;refine min_two_ints (I.ok.hd hc) fun h' tk k=>⟨_,H,I.kept k,?_,q⟩
 by_cases hj:j < i
 ·rw[if_pos hj,if_pos hj];exact⟨_,rfl⟩
 ·rw[if_neg hj,if_neg hj];exact⟨_,rfl⟩
end
structure ObjM (h:Heap) (x dx C:Addr) (mA:Str->Option Value):Prop where
 obj:h.get? x=some (W.instObj C dx)
 ns:h.Ns1 dx mA
 ne:dx≠x
theorem zqx {h:Heap}{dx:Addr}{mA:Str->Option Value}(n:h.Ns1 dx mA):∃od,h.get? dx=some od/\∀name,W.lookIn name od=some (mA name):=by
 obtain⟨o,es,ep,ho,hd,hk,_,hm⟩:=n;refine⟨o,ho,fun name=>?_⟩;have e:=hm name;unfold nsFind findBy at e;rw[← Array.find?_toList] at e;unfold W.lookIn;rw[hd];dsimp only;split
 ·rename_i y q;rw[q] at e;exact congrArg some e
 ·rename_i q;rw[q] at e;have a:es.toList.any (·.refKey)=false:=by
   rw[List.any_eq_false];intro y hy;obtain⟨z,t,hkey⟩:=hk y (Array.mem_toList_iff.mp hy);simp[DictEntry.refKey,hkey]
  have a':¬ es.toList.any (·.refKey)=true:=by rw[a];exact xem
  rw[if_neg a'];exact congrArg some e
theorem ObjM.look {h:Heap}{x dx C:Addr}{mA:Str->Option Value}(I:ObjM h x dx C mA):∃od,W.InstAt h x (W.instObj C dx) C (some od)/\∀name,W.lookIn name od=some (mA name) :=
 let ⟨od,ho,hl⟩:=zqx I.ns
 ⟨od,⟨I.obj,rfl,rfl,ho⟩,hl⟩
section
variable {prog:Program}{w:World}{A:Around}{E:Value->Shared->Prop}{s:Shared}{K:Fg}{x dx C f:Addr}{mA:Str->Option Value}{name:Str}{v:Value}
end
theorem RelO.some_of {v:V}{o:Option Value}(r:RelO (some v) o):∃u,o=some u/\RelV v u:=by
 cases o with
 | none=>exact(show False from r).elim
 | some u=>exact⟨u,rfl,r⟩
section
variable {P:Program}{w:World}{H H':Hp}{h h':Heap}{a C dx:Addr}{fs fs':List (Str×V)}
theorem zzp (hok:HOk P w H h)(e:H a=some (.ins C dx fs)):∃mA,ObjM h a dx C mA/\(∀f,RelO (fs.lookup f) (mA f))/\PySem.Within mA (fs.map (·.1))/\fs.length<=1000/\H dx=some (.own a):=by
 obtain⟨d,z,ne,ob,mA,n,r,q⟩:=(show ObjOk P w H h a (.ins C dx fs) from hok a _ e)
 exact⟨mA,⟨ob,n,ne⟩,r,q,z,d⟩
end
structure Cls (K:Fg) (C:Addr):Prop where
 pg:W.plainGet K C Str.empty=true
 hd:W.hasDictIn K C=true
 po:W.plainOver K C=true
 sa:W.findIn K (.ref C) "__setattr__"=some (some (.builtin "object.__setattr__"))
theorem Cls.get {K:Fg}{C:Addr}(c:Cls K C)(f:Str):W.plainGet K C f=true:=c.pg
section
variable {X:Cx}{aU:List (Addr×Obj)}{σ:St}{H:Hp}{s:Shared}{a C dx:Addr}{fs:List (Str×V)}{f:Str}{v:V}{A:Around}{E:Value->Shared->Prop}
end
section
variable {X:Cx}{o e value:Expr}{f:Str}{pos pos' tpos:Pos}{ta tv:TE}
end
section
variable {X:Cx}{aU:List (Addr×Obj)}{σ:St}{H:Hp}{s:Shared}{A:Around}{E:Value->Shared->Prop}{Q:Value->Shared->Prop}{c:Value}{b:Bool}
inductive TyOf (K:Fg) (H:Hp):V->Value->Prop where
 | non:TyOf K H .non (.type "NoneType")
 | bl (x:Bool):TyOf K H (.bl x) (.type "bool")
 | int (i:Int):TyOf K H (.int i) (.type "int")
 | str (x:Str):TyOf K H (.str x) (.type "str")
 | flt (x:UInt64):TyOf K H (.flt x) (.type "float")
 | lst {a:Addr} {xs:List V} (e:H a=some (.lst xs)):TyOf K H (.ref a) (.type "list")
 | frz {a:Addr} {o:Obj} {xs:List V} (e:H a=some (.frz o (.lst xs))):TyOf K H (.ref a) (.type "list")
 | tup {a:Addr} {xs:List V} (e:H a=some (.tup xs)):TyOf K H (.ref a) (.type "tuple")
 | dK {a:Addr} {kvs:List (Key×V)} (e:H a=some (.dK kvs)):TyOf K H (.ref a) (.type "dict")
 | dT {a:Addr} {kvs:List (List Key×V)} (e:H a=some (.dT kvs)):TyOf K H (.ref a) (.type "dict")
 | ins {a C dx:Addr} {fs:List (Str×V)} (e:H a=some (.ins C dx fs)) (cl:Cls K C) (ha:W.findIn K (.ref C) "__class__"=some (some (.builtin "object.__class__")))
  (hn:W.specialIn K (.builtin "object.__class__") "__get__"=some (some (.builtin "getset_descriptor.__get__")))(htk:W.takesIn K (.builtin "object.__class__")=some true)
  (hm:W.mroIn K C (.type "object")=some true):TyOf K H (.ref a) (.ref C)
theorem zre {x:V}{u t:Value}(I:Inv X aU σ H s)(rx:RelV x u)(ty:TyOf X.K H x t)(e:W.kitOne X.K t c=some b)(h:∀tk,Q (.bool b) {s with toks:=tk}) :
  wpAny (model X.prog X.w) A (call (.builtin "isinstance") [u, c]) Q E s:=by
 cases ty with
 | non=>cases(show u=Value.none from rx);exact xej W.kitx_none I.kIn True.intro e (fun z=>nomatch z) h
 | bl y=>cases(show u=Value.bool y from rx);exact xej W.kitx_bool I.kIn True.intro e (fun z=>nomatch z) h
 | int i=>obtain⟨t,q⟩:=(show ∃t,u=Value.int i t from rx);cases q;exact xej W.kitx_int I.kIn True.intro e (fun z=>nomatch z) h
 | str y=>obtain⟨t,q⟩:=(show ∃t,u=Value.str y t from rx);cases q;exact xej W.kitx_str I.kIn True.intro e (fun z=>nomatch z) h
 | flt y=>obtain⟨t,q⟩:=(show ∃t,u=Value.float y t from rx);cases q;exact xej W.kitx_float I.kIn True.intro e (fun z=>nomatch z) h
 | @lst a xs ea =>
  cases(show u=Value.ref a from rx);obtain⟨_,_,n,_,h1⟩:=(show ObjOk X.prog X.w H s.heap a (.lst xs) from I.hok a _ ea)
  exact xej W.kitx_list I.kIn ⟨_,h1,rfl⟩ e (fun z=>nomatch z) h
 | @frz a ob xs ea =>
  cases(show u=Value.ref a from rx);obtain⟨_,_,_,n,_,h1⟩:=(show ObjOk X.prog X.w H s.heap a (.frz ob (.lst xs)) from I.hok a _ ea)
  exact xej W.kitx_list I.kIn ⟨_,h1,rfl⟩ e (fun z=>nomatch z) h
 | @tup a xs ea =>
  cases(show u=Value.ref a from rx);obtain⟨_,_,_,p⟩:=(show ObjOk X.prog X.w H s.heap a (.tup xs) from I.hok a _ ea)
  obtain⟨o,h1,h2,_⟩:=p;exact xej W.kitx_tuple I.kIn ⟨o,h1,h2⟩ e (fun z=>nomatch z) h
 | @dK a kvs ea =>
  cases(show u=Value.ref a from rx);obtain⟨_,_,vs,_,p⟩:=(show ObjOk X.prog X.w H s.heap a (.dK kvs) from I.hok a _ ea)
  obtain⟨o,es,ep,h1,h2,_⟩:=p;exact xej W.kitx_dict I.kIn ⟨o,h1,h2.1⟩ e (fun z=>nomatch z) h
 | @dT a kvs ea =>
  cases(show u=Value.ref a from rx);obtain⟨_,_,xs,_,o,es,ep,h1,h2,_⟩:=(show ObjOk X.prog X.w H s.heap a (.dT kvs) from I.hok a _ ea)
  exact xej W.kitx_dict I.kIn ⟨o,h1,h2.1⟩ e (fun z=>nomatch z) h
 | @ins a C dx fs ea cl ha hn htk hm =>
  cases(show u=Value.ref a from rx);obtain⟨mA,O,_⟩:=zzp I.hok ea;obtain⟨od,J,_⟩:=O.look;exact xej (W.kitx_own (cl.get _) cl.hd ha hn htk hm) I.kIn J e (fun z=>nomatch z) h
end
structure Room (k:Nat) (A:Around):Prop where
 hd:A.handled=none
 dp:A.depth+3 * k+5 < recursionLimit
 un:A.units+16 * k+200 < cLine
theorem Room.mono {j k:Nat}{A:Around}(r:Room k A)(h:j<=k):Room j A:=⟨r.hd,by have:=r.dp;lia,by have:=r.un;lia⟩
theorem Room.deeper {k:Nat}{A:Around}(r:Room (k+1) A)(env:Env):Room k (A.deeper env) :=
 ⟨r.hd,by have:=r.dp;show A.depth+1+3 * k+5 < _;lia,by have:=r.un;show A.units+3+16 * k+200 < _;lia⟩
theorem Room.depth {k:Nat}{A:Around}(r:Room k A):A.depth < recursionLimit:=by have:=r.dp;lia
theorem Room.units {k:Nat}{A:Around}(r:Room k A):A.units+64 < cLine:=by have:=r.un;lia
theorem Room.units0 {k:Nat}{A:Around}(r:Room k A):A.units < cLine:=by have:=r.un;lia
noncomputable def tNil:TA:=fun _ H Q=>Q [] H
noncomputable def tCons (ta:TE) (tr:TA):TA:=fun σ H Q=>ta σ H fun x H1=>tr σ H1 fun xs H2=>Q (x::xs) H2
section
variable {X:Cx}{e:Expr}{es:List Expr}{te:TE}{t:TA}{pos:Pos}
theorem zbdu:PA X [] tNil:=fun _ _ _ _ H Q I h=>xiz ⟨[],H,I,.nil,h⟩
theorem zyq (ha:PE X e te)(hr:PA X es t)(hs:starEach (e::es) X.env=(false,eval e X.env)::starEach es X.env:=by rfl):PA X (e::es) (tCons te t):=by
 intro pos aU s σ H Q I h;rw[hs];show wpAny _ _ (spliced ((false,eval e X.env)::backTo pos (starEach es X.env))) _ _ s;refine xha (thn (ha aU s σ H _ I h) fun u s1 hq0=>?_);obtain⟨x,H1,I1,r1,q1⟩:=hq0;exact thn (hr pos aU s1 σ H1 _ I1 q1) fun us s2 ⟨xs,H2,I2,r2,q2⟩=>⟨x::xs,H2,I2,.cons r1 r2,q2⟩
noncomputable def tTup (t:TA):TE:=fun σ H Q=>t σ H fun xs H1=>xs.length<=sizeLine/\∀p,H1 p=none->Q (.ref p) (upd H1 p (.tup xs))
noncomputable def tLst (t:TA):TE:=fun σ H Q=>t σ H fun xs H1=>xs.length<=sizeLine/\∀p,H1 p=none->Q (.ref p) (upd H1 p (.lst xs))
theorem zbdm {x1}(h:PA X es t):PE X (.Tuple es x1 pos) (tTup t):=by
 intro aU s σ H Q I hq;refine wpAny_Tuple_spliced (thn (h pos aU s σ H _ I hq) fun us s1 ⟨xs,H1,I1,r,z,q⟩=>⟨by rw[← r.length];exact z,?_⟩);have hf:H1 s1.heap.objs.size=none:=I1.hok.fresh (xbd _);refine⟨.ref s1.heap.objs.size,upd H1 s1.heap.objs.size (.tup xs),I1.laid (t':=s1.toks) (fun b u e=>xbj _ e) (xbd _) ?_,rfl,q _ hf⟩;exact⟨z,us,r,⟨_,xbz _ rfl,rfl,_,rfl⟩⟩
theorem zyk (h:PA X es t):PE X (.List es pos) (tLst t):=by
 intro aU s σ H Q I hq;refine wpAny_List_spliced (thn (h pos aU s σ H _ I hq) fun us s1 ⟨xs,H1,I1,r,z,q⟩=>⟨by rw[← r.length];exact z,?_⟩);have hf:H1 s1.heap.objs.size=none:=I1.hok.fresh (xbd _);refine⟨.ref s1.heap.objs.size,upd H1 s1.heap.objs.size (.lst xs),I1.laid (t':=s1.toks) (fun b u e=>xbj _ e) (xbd _) ?_,rfl,q _ hf⟩;exact⟨z,us,0,r,xbz _ rfl⟩
end
noncomputable abbrev Sp:=List V->Hp->VK->XK->Prop
noncomputable abbrev CXT:=List Env->Hp->Shared->XK->Value->Shared->Prop
structure Env0 (P:Program) (w:World) (K:Fg) (mg:Str->Option Value) (base:Heap) (A:Around) (outer:List Env) (s:Shared) (H:Hp):Prop where
 frames:A.frames=some outer
 mod:Mod K mg base
 bs:∀b o,base.get? b=some o->s.heap.get? b=some o/\H b=none
 bsz:base.objs.size<=s.heap.objs.size
 funs:s.heap.FunFrames base outer
 frf:∀b∈frs outer,H b=none
 hok:HOk P w H s.heap
 bare:AllBare s.gens
noncomputable def CE (outer:List Env) (P:Program) (w:World) (H:Hp) (s:Shared) (Q:VK) (u:Value) (s':Shared):Prop :=
 ∃v H',s'.os=s.os/\AllBare s'.gens/\Un (frs outer) [] H H' s.heap s'.heap/\HOk P w H' s'.heap/\RelV v u/\Q v H'
noncomputable def CR (CX:CXT) (outer:List Env) (P:Program) (w:World) (H:Hp) (s:Shared) (Q:VK) (E:XK) (r:Result) (s':Shared):Prop :=
 match r with
 | .ok (.ret u)=>CE outer P w H s Q u s'
 | .ok _=>False
 | .error e=>CX outer H s E e s'
structure FnOk (P:Program) (w:World) (K:Fg) (mg:Str->Option Value) (base:Heap) (CX:CXT) (k:Nat) (f:Addr) (fd:FuncData) (ps:List Str) (sp:Sp):Prop where
 len:∀vs H Q E,sp vs H Q E->vs.length=ps.length
 run:∀(A:Around) (outer:List Env) (s:Shared) (H:Hp) (args:Args) (us:List Value) (vs:List V) (Q:VK) (E:XK),Room k A->Env0 P w K mg base A outer s H->BindsTo s fd args (ps.zip us)->Vals vs us->sp vs H Q E ->
  codeAny (model P w) A (.call (.ref f) args) (CR CX outer P w H s Q E) s
section
variable {X:Cx}{aU:List (Addr×Obj)}{σ:St}{H:Hp}{s s':Shared}
theorem Inv.env0 (I:Inv X aU σ H s):Env0 X.prog X.w X.K X.mg X.base X.A X.stack s H :=
 ⟨I.ok.frames,I.ok.mod,I.bs,xbb I.ok.bsz I.sz,I.stack,I.stkFree,I.hok,I.bare⟩
theorem Inv.after {Q:VK}{u:Value}(I:Inv X aU σ H s)(h:CE X.stack X.prog X.w H s Q u s'):EP X aU σ Q u s':=by
 obtain⟨v,H',os,bare,un,hok,r,q⟩:=h;obtain⟨hh,g,d,t,os'⟩:=s';obtain rfl:os'=s.os:=os;exact⟨v,H',I.call (h':=hh) (g':=g) (d':=d) (t':=t) (ch:=[]) un hok bare (fun b z=>absurd z (by simp)),r,q⟩
end
noncomputable def tCall (sp:Sp) (dvs:List V) (E:XK) (t:TA):TE:=fun σ H Q=>t σ H fun vs H1=>sp (vs++dvs) H1 Q E
noncomputable def Binds (K:Fg) (fd:FuncData) (ps:List Str) (ds:List Value):Prop :=
 ∀(s:Shared) (us:List Value),K.In s.heap->(us++ds).length=ps.length->BindsTo s fd ⟨us,[]⟩ (ps.zip (us++ds))
theorem Binds.all {K:Fg}{fd:FuncData}{ps:List Str}(h:∀us:List Value,us.length=ps.length->bindArgs fd ⟨us,[]⟩=pure (ps.zip us)):Binds K fd ps []:=fun s us _ hl=>by
 rw[xdz] at hl ⊢;exact .of_eq (h us hl)
noncomputable def Passes (CX:CXT) (X:Cx) (E:XK):Prop:=∀(aU:List (Addr×Obj)) (σ:St) (H:Hp) (s:Shared) (e:Value) (s':Shared),Inv X aU σ H s->CX X.stack H s E e s'->X.xe e s'
section
variable {X:Cx}{CX:CXT}{k:Nat}{f C:Addr}{fd:FuncData}{ps:List Str}{sp:Sp}{dvs:List V}{ds:List Value}{E:XK}{x m:Str}{p pos apos:Pos}{e o:Expr}{es:List Expr}{ta:TE}{t:TA}
theorem zbcz {aU:List (Addr×Obj)}{σ:St}{H:Hp}{s:Shared}{Q:VK}{us:List Value}{vs:List V}(F:FnOk X.prog X.w X.K X.mg X.base CX k f fd ps sp)(hr:Room k X.A)(hb:Binds X.K fd ps ds)(hd:Vals dvs ds)(hx:Passes CX X E)
  (I:Inv X aU σ H s)(r:Vals vs us)(h:sp (vs++dvs) H Q E):wpAny (model X.prog X.w) X.A (call (.ref f) us) (EP X aU σ Q) X.xe s:=by
 have r2:Vals (vs++dvs) (us++ds):=r.append hd;have hl:(us++ds).length=ps.length:=by rw[← r2.length];exact F.len _ _ _ _ h
 refine wpAny_call (codeAny_mono (F.run X.A X.stack s H ⟨us,[]⟩ (us++ds) (vs++dvs) Q E hr I.env0 (hb s us I.kIn hl) r2 h) fun r s' hq=>?_);cases r with
 | error e=>exact hx aU σ H s e s' I hq
 | ok fl =>
  cases fl with
  | ret u=>exact I.after hq
  | next=>exact False.elim hq
  | brk=>exact False.elim hq
  | cont=>exact False.elim hq
theorem zyn (F:FnOk X.prog X.w X.K X.mg X.base CX k f fd ps sp)(hr:Room k X.A)(hg:Gl X x)(hm:X.mg x=some (.ref f))(hk:W.keepIn X.K (.ref f)=true)(hb:Binds X.K fd ps ds)(hd:Vals dvs ds)(hx:Passes CX X E)
  (ha:PA X (e::es) t)(hdb:(x==("__debug__" : Str))=false:=by decide)(he:starEach (e::es) X.env=(false, eval e X.env)::starEach es X.env:=by rfl)(hpl:(backTo pos (starEach es X.env)).any (·.1)=false:=by rfl) :
  PE X (.Call (.Name x p) (e::es) [] pos) (tCall sp dvs E t):=by
 intro aU s σ H Q I h;refine xkl (zzi I hg hm ?_ hdb);refine W.callWith_K (h₀:=X.base) I.ok.mod.kin hk (thn (ha pos aU s σ H _ I h) fun us s1 ⟨vs,H1,I1,r,q⟩=>⟨I1.kIn,?_⟩) he hpl;exact zbcz F hr hb hd hx I1 r q
end
section
variable {X:Cx}{CX:CXT}{k:Nat}{f C:Addr}{fd:FuncData}{ps ks:List Str}{sp:Sp}{E:XK}{x m:Str}{p pos apos kpos:Pos}{e o:Expr}{es:List Expr}{kws:List Keyword}{te ta:TE}{t tk:TA}{nm:Option Str}
variable {g:List Value->List Value->List Value}{gV:List V->List V->List V}
end
structure FnScope (N P:List Str) (sc:Scope):Prop where
 kind:sc.kind=.function
 co:sc.isCoroutine=false
 gen:sc.isGenerator=false
 nd:N.Nodup
 pre:N.take P.length=P
 par:∀x∈P,sc.names.lookup x=some .local\/sc.names.lookup x=some .cell
 nofree:∀y∈sc.names,y.2≠.free
theorem zld {kindOf:Str->Option NameKind}{x:Str}:∀{binds:List (Str×Value)} {m:Str->Option Value},(∀v,(x,v)∉binds)->bindL kindOf binds m x=m x
 | [],_,_=>rfl
 | (n,v)::r,m,h=>by
  unfold bindL;rw[zld fun w hw=>h w (xbl _ hw)];split
  ·have:x≠n:=by rintro rfl;exact h v xbp
   simp[this]
  ·rfl
theorem zlf {kindOf:Str->Option NameKind}{x:Str}:∀{binds:List (Str×Value)} {m:Str->Option Value},(∀v,(x,v)∉binds)->bindC kindOf binds m x=m x
 | [],_,_=>rfl
 | (n,v)::r,m,h=>by
  unfold bindC;rw[zlf fun w hw=>h w (xbl _ hw)];split
  ·rfl
  ·have:x≠n:=by rintro rfl;exact h v xbp
   simp[this]
theorem zle {kindOf:Str->Option NameKind}{x:Str}{v:Value}:∀{P:List Str} {vs:List Value} {i:Nat} {m:Str->Option Value},P.Nodup->P[i]?=some x->vs[i]?=some v->kindOf x=some .local ->
  bindL kindOf (P.zip vs) m x=some v
 | [],_,_,_,_,h,_,_=>by simp at h
 | _::_,[],_,_,_,_,h,_=>by simp at h
 | p::P,w::vs,0,m,nd,h1,h2,hk=>by
  simp at h1 h2;subst h1;subst h2
  show bindL kindOf ((p,w)::P.zip vs) m p=_;unfold bindL;rw[zld fun v hv=>(xfh.mp nd).1 (xlb hv).1,if_pos hk];simp
 | p::P,w::vs,i+1,m,nd,h1,h2,hk=>by
  show bindL kindOf ((p,w)::P.zip vs) m x=_;unfold bindL;exact zle (i:=i) (xfh.mp nd).2 (by simpa using h1) (by simpa using h2) hk
theorem zlg {kindOf:Str->Option NameKind}{x:Str}{v:Value}:∀{P:List Str} {vs:List Value} {i:Nat} {m:Str->Option Value},P.Nodup->P[i]?=some x->vs[i]?=some v->kindOf x≠some .local ->
  bindC kindOf (P.zip vs) m x=some v
 | [],_,_,_,_,h,_,_=>by simp at h
 | _::_,[],_,_,_,_,h,_=>by simp at h
 | p::P,w::vs,0,m,nd,h1,h2,hk=>by
  simp at h1 h2;subst h1;subst h2
  show bindC kindOf ((p,w)::P.zip vs) m p=_;unfold bindC;rw[zlf fun v hv=>(xfh.mp nd).1 (xlb hv).1,if_neg hk];simp
 | p::P,w::vs,i+1,m,nd,h1,h2,hk=>by
  show bindC kindOf ((p,w)::P.zip vs) m x=_;unfold bindC;exact zlg (i:=i) (xfh.mp nd).2 (by simpa using h1) (by simpa using h2) hk
noncomputable def start (N:List Str) (vs:List V):St:=vs.map some++List.replicate (N.length - vs.length) none
noncomputable def cxOf (CX:CXT) (P:Program) (w:World) (K:Fg) (mg:Str->Option Value) (base:Heap) (N:List Str) (qual:Str) (scope:Scope) (f:Addr) (cd:Value) (A:Around) (outer:List Env) (s:Shared) (H:Hp) (E:XK):Cx where
 prog:=P
 w:=w
 K:=K
 mg:=mg
 base:=base
 A:=A.deeper (envOfC qual scope s.heap.objs.size f cd)
 N:=N
 s₀:=s
 H₀:=H
 env:=envOfC qual scope s.heap.objs.size f cd
 outer:=outer
 stack:=envOfC qual scope s.heap.objs.size f cd::outer
 ex:=[]
 calm:=true
 fn:=fun _=>true
 pn:=[]
 xe:=fun e s'=>wpAny (model P w) (A.deeper (envOfC qual scope s.heap.objs.size f cd)) (leaving (envOfC qual scope s.heap.objs.size f cd) e) (fun _ s''=>CX outer H s E e s'') (fun e' s''=>CX outer H s E e' s'') s'
theorem zox {sc:Scope}{n:Nat}{x:Str}(h:sc.names.lookup x=some .cell):∃c,(cellsFrom n sc.names []).lookup x=some c:=by
 have q:=W.cellsFrom_some sc.names n [] (.inl h);exact Option.isSome_iff_exists.mp q
theorem zrf {CX:CXT}{P:Program}{w:World}{K:Fg}{mg:Str->Option Value}{base:Heap}{N ps:List Str}{qual:Str}{scope:Scope}{f:Addr}{cd:Value}{A:Around}{outer:List Env}{s s1:Shared}{H:Hp}{E:XK}{us:List Value}{vs:List V}
  (S:FnScope N ps scope)(hd:A.handled=none)(e0:Env0 P w K mg base A outer s H)(hl:vs.length=ps.length)(r:Vals vs us)
  (x:InCallC s s.heap.objs.size (bindL (envOfC qual scope s.heap.objs.size f cd).kindOf (ps.zip us) fun _=>none) (cellsFrom (s.heap.objs.size+1) scope.names []) (bindC (envOfC qual scope s.heap.objs.size f cd).kindOf (ps.zip us) fun _=>none) s1) :
  Inv (cxOf CX P w K mg base N qual scope f cd A outer s H E) [] (start N vs) H s1:=by
 have hpl:ps.length<=N.length:=by have:=congrArg List.length S.pre;rw[xct] at this;lia
 obtain⟨h1,tk,rfl,hk⟩:=x.done;have noA:∀b:Addr,b∉(cxOf CX P w K mg base N qual scope f cd A outer s H E).ex:=fun b z=>absurd (show b∈([]:List Addr) from z) (by simp)
 refine⟨⟨e0.mod,S.kind,rfl,rfl,xbd _,fun y z c h1 h2=>?_,fun y hy=>?_,fun y c _ h=>?_,fun _=>hd,Around.frames_deeper e0.frames,.inr ⟨rfl,rfl⟩,fun b z=>absurd z (noA b),e0.bs,e0.bsz,fun b _ _=>noA b,fun b z=>absurd z (noA b),e0.funs,e0.frf⟩,
  rfl,e0.bare,Un.kept hk,⟨_,x.toInCall.ns,fun i y v h1 h2 h3=>?_⟩,fun y c h=>⟨_,x.cell y c h⟩,e0.hok.fresh (xbd _),fun y c h=>?_,fun p hp=>absurd (show p∈([]:List (Addr×Obj)) from hp) (by simp),e0.hok.kept hk,?_,Hnd.none hd⟩
 ·exact name_of_addr x.apart (xfy h1) (xfy h2)
 ·have hy:scope.names.lookup y=some .cell\/scope.names.lookup y=some .free:=hy;rcases hy with hy | hy
  ·exact zox hy
  ·exact absurd rfl (S.nofree _ (xfy hy))
 ·exact xbu (x.above y c (xfy h))
 ·have hi:i < vs.length:=by
   unfold start at h2;by_cases hi:i < vs.length
   ·exact hi
   ·rw[xdf (by simpa using hi)] at h2;rw[List.getElem?_replicate] at h2;split at h2<;>cases h2
  have ha:vs[i]?=some v:=by
   unfold start at h2;rw[xcs (by simpa using hi),xcb] at h2;cases e:vs[i]? with
   | none=>rw[e] at h2;cases h2
   | some a=>rw[e] at h2;cases h2;rfl
  obtain⟨u,hu,rv⟩:=r.get ha;have hp:ps[i]?=some y:=by
   rw[← S.pre,List.getElem?_take_of_lt (by lia)];exact h1
  have ndP:ps.Nodup:=by rw[← S.pre];exact S.nd.sublist (List.take_sublist _ _)
  refine⟨u,rv,?_⟩;rcases S.par y (xby hp) with k | k
  ·exact .inl ⟨k,zle ndP hp hu k⟩
  ·obtain⟨c,e⟩:=zox (n:=s.heap.objs.size+1) k;refine .inr ⟨.inl k,c,e,?_⟩;have q:=x.cell y c e;rw[zlg ndP hp hu (by show scope.names.lookup y≠_;rw[k];decide)] at q;exact q
 ·exact e0.hok.fresh (xbu (x.above y c (xfy h)))
 ·unfold start;show _=N.length;rw[xbo,xbc,xgh];lia
theorem zbix {CX:CXT}{P:Program}{w:World}{K:Fg}{mg:Str->Option Value}{base:Heap}{k:Nat}{f:Addr}{name qual:Str}{params:Arguments}{body:List Stmt}{scope:Scope}{dV kV doc pm cdv ct oc:Value}{an od:Option Addr}
  {osl:Array (Option Value)}{N ps:List Str}{sp:Sp}(lk:K.lookup f=some ⟨oc,od,.func (W.fnOf name qual params body scope dV kV doc pm an cdv ct),osl⟩)(hcd:W.codeIn K cdv qual=true)(S:FnScope N ps scope)
  (len:∀vs H Q E,sp vs H Q E->vs.length=ps.length)
  (hbody:∀(A:Around) (outer:List Env) (s:Shared) (H:Hp) (vs:List V) (Q:VK) (E:XK),Room k (A.deeper (envOfC qual scope s.heap.objs.size f cdv))->sp vs H Q E ->
   ∃t,PSs (cxOf CX P w K mg base N qual scope f cdv A outer s H E) body t/\t {nx:=fun _ H'=>Q .non H',rt:=Q} (start N vs) H) :
  FnOk P w K mg base CX (k+1) f (W.fnOf name qual params body scope dV kV doc pm an cdv ct) ps sp:=by
 refine⟨len,fun A outer s H args us vs Q E hr e0 hb r hsp=>?_⟩;have hl:=len _ _ _ _ hsp;have KX:K.In s.heap:=e0.mod.kin.keeps fun b o e=>(e0.bs b o e).1
 have lim:s.heap.NoLimit:=e0.mod.nolimit.keeps fun b o e=>(e0.bs b o e).1
 have hkind:∀y∈ps.zip us,scope.names.lookup y.1=some .local\/(scope.names.lookup y.1=some .cell/\((cellsFrom (s.heap.objs.size+1) scope.names []).lookup y.1).isSome=true):=fun hq0 hy=>by
  obtain⟨n,v⟩:=hq0;rcases S.par n (xlb hy).1 with q | q
  ·exact .inl q
  ·exact .inr ⟨q,W.cellsFrom_some _ _ _ (.inl q)⟩
 refine codeAny_call_function hr.depth (KX _ _ lk) rfl S.co S.gen rfl (W.codeRec_of KX hcd) (hb _ _ _ _ ?_);refine wpAny_newFunctionEnv_cells S.kind hkind fun env he s1 x=>?_
 subst he;refine⟨lim.keeps x.toInCall.keep,codeAny_func ?_⟩;obtain⟨t,ht,hq⟩:=hbody A outer s H vs Q E (hr.deeper _) hsp;have I:Inv (cxOf CX P w K mg base N qual scope f cdv A outer s H E) [] (start N vs) H s1:=zrf S hr.hd e0 hl r x;refine xep (ht [] s1 (start N vs) H _ I hq) (fun fl s' hs=>?_) fun e s' hs=>hs
 have fin:∀{σ':St} {H':Hp} {v:V} {u:Value},Inv (cxOf CX P w K mg base N qual scope f cdv A outer s H E) [] σ' H' s'->RelV v u->Q v H'->CE outer P w H s Q u s' :=
  fun {σ' H' v u} J rv q=>⟨v,H',J.os,J.bare,J.base,J.hok,rv,q⟩
 cases fl with
 | ret u =>
  obtain⟨v,σ',H',J,rv,q⟩:=hs;exact fin J rv q
 | next =>
  obtain⟨σ',H',J,q⟩:=hs;exact fin (v:=V.non) (u:=Value.none) J rfl q
 | brk =>
  obtain⟨_,_,_,q⟩:=hs;exact False.elim q
 | cont =>
  obtain⟨_,_,_,q⟩:=hs;exact False.elim q
section
variable {X:Cx}{x:Str}{p pos:Pos}{e:Expr}{es:List Expr}{t:TA}{id T:String}{r:List V->Hp->VK->Prop}
noncomputable def tCB (r:List V->Hp->VK->Prop) (t:TA):TE:=fun σ H Q=>t σ H fun vs H1=>r vs H1 Q
theorem zuf (hc:CallR X (.builtin id) r)(hg:Gl X x)(hm:X.mg x=none)(hv:bootBuiltins x=some (.builtin id))(ha:PA X (e::es) t)(hn:x≠"__name__":=by decide)(hdb:(x==("__debug__" : Str))=false:=by decide)
  (he:starEach (e::es) X.env=(false,eval e X.env)::starEach es X.env:=by rfl)(hpl:(backTo pos (starEach es X.env)).any (·.1)=false:=by rfl):PE X (.Call (.Name x p) (e::es) [] pos) (tCB r t):=by
 intro aU s σ H Q I h;refine xkl (znu I hg hm hv ?_ hn hdb);exact PyProof.Rows.callWith_builtin1 (thn (ha pos aU s σ H _ I h) fun us s1 ⟨vs,H1,I1,r1,q1⟩=>hc aU s1 σ H1 vs us Q I1 r1 q1) he hpl
theorem zql (hc:CallR X (.type T) r)(hg:Gl X x)(hm:X.mg x=none)(hv:bootBuiltins x=some (.type T))(ha:PA X (e::es) t)(hn:x≠"__name__":=by decide)(hdb:(x==("__debug__" : Str))=false:=by decide)
  (he:starEach (e::es) X.env=(false,eval e X.env)::starEach es X.env:=by rfl)(hpl:(backTo pos (starEach es X.env)).any (·.1)=false:=by rfl):PE X (.Call (.Name x p) (e::es) [] pos) (tCB r t):=by
 intro aU s σ H Q I h;refine xkl (znu I hg hm hv ?_ hn hdb);exact xhr (thn (ha pos aU s σ H _ I h) fun us s1 ⟨vs,H1,I1,r1,q1⟩=>hc aU s1 σ H1 vs us Q I1 r1 q1) he hpl
end
end L2
namespace HT
open PySem PyProof.Rows
noncomputable def lexLt:List Int->List Int->Bool
 | [],[]=>false
 | [],_::_=>true
 | _::_,[]=>false
 | x::xs,y::ys=>if x=y then lexLt xs ys else decide (x < y)
theorem zck (x y:Int)(xs ys:List Int):lexLt (x::xs) (y::ys)=if x=y then lexLt xs ys else decide (x < y):=rfl
theorem zdc:lexLt [] []=false:=rfl
theorem zbn (y:Int)(ys:List Int):lexLt [] (y::ys)=true:=rfl
theorem zcq (x:Int)(xs:List Int):lexLt (x::xs) []=false:=rfl
theorem zvb (A:Around)(s:Shared)(a:Int)(t:Tok)(c:Int)(u:Tok):∃e,SeqAt.EqAt A s (.int a t) (.int c u) e/\(e=true↔a=c) :=
 ⟨(a==c),SeqAt.EqAt.int_int a t c u,by simp⟩
theorem zto (A:Around)(s:Shared)(a:Int)(t:Tok)(c:Int)(u:Tok)(prog:Program)(w:World)(E:Value->Shared->Prop)(Q:Value->Shared->Prop)(h:Q (.bool (decide (a < c))) s) :
  wpAny (model prog w) A (richCompare .Lt (.int a t) (.int c u)) Q E s :=
 (PyProof.Rows.lt_int h:wpAny (model prog w) A (compareOp .Lt (.int a t) (.int c u)) Q E s)
section
open PySem.SeqAt
open PySem.AutoSeq1 (wpAny_loadPart')
open PySem.MeetsSeq PySem.MeetsSeq2 PySem.MeetsSeq3
theorem zeo (l b:Addr)(items items2:Array Value)(n n2:Nat)(dd dd2:Option Addr)(sl sl2:Array (Option Value))(ns ms:List Int)(hi:IntsAre items.toList ns)(hj:IntsAre items2.toList ms) :
  Meets (Builtin.«tuple.__lt__» ⟨[.ref l,.ref b],[]⟩)
   (fun _ R s=>s.heap.get? l=some { cls:=.type "tuple", dict:=dd, data:=.seq items n, slots:=sl }/\s.heap.get? b=some { cls:=.type "tuple", dict:=dd2, data:=.seq items2 n2, slots:=sl2 } /\
    R (.ok (.ret (.bool (lexLt ns ms)))) s) :=
 .of_wp fun prog w A R s h=>by
  obtain⟨hp,g,d,tk,os⟩:=s;obtain⟨hl,hb,h⟩:=h
  have f2:=AutoSeq1.sub_tuple_tuple;have z1:items.size=ns.length:=by rw[← hi.length];simp
  have z2:items2.size=ms.length:=by rw[← hj.length];simp
  wp_walk using wpAny_loadPart' hl,wpAny_loadPart' hb,xhz _ (fun rest b s'=>b.1=none/\s'=⟨hp,g,d,tk,os⟩/\∃(vs ws:List Value) (ns' ms':List Int),rest=vs.zip ws /\
   IntsAre vs ns'/\IntsAre ws ms'/\ns'.length+items2.size=ms'.length+items.size/\R (.ok (.ret (.bool (lexLt ns' ms')))) ⟨hp,g,d,tk,os⟩) _
  case turn =>
   rintro⟨y,x⟩ rest b s' ⟨hb',rfl,vs,ws,ns',ms',hz,hvi,hwi,hlen,hR⟩;cases hvi with
   | nil=>rw[List.zip_nil_left] at hz;cases hz
   | cons a t hvi' =>
    cases hwi with
    | nil=>rw[List.zip_nil_right] at hz;cases hz
    | cons c u hwi' =>
     rw[xke] at hz;injection hz with hyx hrest
     injection hyx with hy hx
     subst hy hx;rw[zck] at hR;simp only[xbr] at hlen;obtain⟨e,he,hiff⟩:=zvb A.in1 ⟨hp,g,d,tk,os⟩ a t c u;refine xba (he prog w _ _ ?_);cases e with
     | true =>
      rw[if_pos (hiff.mp rfl)] at hR
      wp_walk
      exact⟨rfl,rfl,_,_,_,_,hrest,hvi',hwi',by lia,hR⟩
     | false =>
      rw[if_neg (fun q=>absurd (hiff.mpr q) xem)] at hR;have hri:=zto A.in1 ⟨hp,g,d,tk,os⟩ a t c u prog w
      wp_walk using hri
      exact⟨_,rfl,by simpa using hR⟩
  case fin =>
   rintro⟨b1,b2⟩ s' ⟨hb',rfl,vs,ws,ns',ms',hz,hvi,hwi,hlen,hR⟩;simp only at hb';subst hb';have hv:lexLt ns' ms'=decide (items.size < items2.size):=by
    cases hvi with
    | nil =>
     cases hwi with
     | nil =>
      simp only[xju] at hlen;rw[zdc];exact(xcj (by lia)).symm
     | cons c u hw =>
      simp only[xju,xbr] at hlen;rw[zbn];exact(xcm (by lia)).symm
    | cons a t hv =>
     cases hwi with
     | nil =>
      simp only[xju,xbr] at hlen;rw[zcq];exact(xcj (by lia)).symm
     | cons c u hw =>
      rw[xke] at hz;cases hz
   rw[hv] at hR
   wp_walk
   exact⟨_,rfl,by simpa [Builtin.Tuple.tupleCompareSizes] using hR⟩
  case h =>
   exact⟨rfl,rfl,items.toList,items2.toList,ns,ms,rfl,hi,hj,by lia,h⟩
end
section
variable {prog:Program}{w:World}{A:Around}{E:Value->Shared->Prop}{s:Shared}
theorem zhz {l b:Addr}{items items2:Array Value}{ns ms:List Int}{Q:Value->Shared->Prop}(hl:IsTup s.heap l items)(hb:IsTup s.heap b items2)(hi:IntsAre items.toList ns)(hj:IntsAre items2.toList ms)
  (hu:A.units < cLine)(h:Q (.bool (lexLt ns ms)) s):wpAny (model prog w) A (compareOp .Lt (.ref l) (.ref b)) Q E s:=by
 obtain⟨⟨cls,dd,data,sl⟩,ho,hc,n,hd⟩:=id hl;obtain⟨⟨cls2,dd2,data2,sl2⟩,ho2,hc2,n2,hd2⟩:=id hb;simp only at hc hd hc2 hd2;subst hc hd hc2 hd2;exact richCompare_meets_room (op:=.Lt) ⟨_,ho,rfl⟩ ⟨_,ho2,rfl⟩ xjn F.entry_tuple_lt (F.args_tuple_lt_2 _ _) (zeo l b items items2 n n2 dd dd2 sl sl2 ns ms hi hj)
  ⟨ho,ho2,show Value.bool (lexLt ns ms)≠Value.notImplemented/\Q (.bool (lexLt ns ms)) s from⟨(fun x=>nomatch x),h⟩⟩ hu
theorem zbbk {t b:Addr}{vs ws:List Value}{Q:Value->Shared->Prop}(ht:IsTup s.heap t vs.toArray)(hb:IsTup s.heap b ws.toArray)(hv:vs≠[])
  (h1:ws=[]->Q (.ref t) s)(h2:ws≠[]->Q (.ref s.heap.objs.size) { s with heap:=s.heap.push { cls:=.type "tuple", data:=.seq (vs++ws).toArray } })
  (hsz:vs.length+ws.length<=sizeLine):wpAny (model prog w) A (binaryOp .Add (.ref t) (.ref b)) Q E s:=by
 obtain⟨⟨cls,dd,data,sl⟩,ho,hc,n,hd⟩:=id ht;obtain⟨⟨cls2,dd2,data2,sl2⟩,ho2,hc2,n2,hd2⟩:=id hb;simp only at hc hd hc2 hd2;subst hc hd hc2 hd2;have e:vs.toArray++ws.toArray=(vs++ws).toArray:=by simp
 by_cases hw:ws=[]
 ·exact concat_meets ⟨_,ho,rfl⟩ ⟨_,ho2,rfl⟩ noFill_tuple_add seq_tuple_add xjg xit (xij _ _)
   (tuple_addW1 t b vs.toArray ws.toArray n n2 dd dd2 sl sl2 (by simpa using hv) (by simp[hw])) ⟨ho,ho2,h1 hw⟩
 ·refine concat_meets ⟨_,ho,rfl⟩ ⟨_,ho2,rfl⟩ noFill_tuple_add seq_tuple_add xjg xit (xij _ _)
   (tuple_addW2 t b vs.toArray ws.toArray n n2 dd dd2 sl sl2 (by simpa using hv) (by simpa using hw) (by rw[xbn,xbn];exact hsz)) ⟨ho,ho2,?_⟩
  rw[e];exact h2 hw
noncomputable def sIx (n d:Nat):Option Int->Nat
 | none=>d
 | some v=>if v < 0 then(v+(n:Int)).toNat else min v.toNat n
theorem zmv (n d:Nat):sIx n d none=d:=rfl
theorem zse (n d k:Nat):sIx n d (some (k:Int))=min k n:=by
 show(if(k:Int) < 0 then((k:Int)+(n:Int)).toNat else min (k:Int).toNat n)=min k n;rw[if_neg (by lia),xgn]
theorem zbcv (n d:Nat)(hd:d<=n)(o:Option Int):sIx n d o<=n:=by
 cases o with
 | none=>exact hd
 | some v =>
  show(if v < 0 then(v+(n:Int)).toNat else min v.toNat n)<=n;by_cases hv:v < 0
  ·rw[if_pos hv];lia
  ·rw[if_neg hv];exact xfk _ _
theorem zsz (v:Int)(n d:Nat):(if v < 0 then max (v+(n:Int)) 0 else min v (n:Int))=((sIx n d (some v):Nat):Int):=by
 show(if v < 0 then max (v+(n:Int)) 0 else min v (n:Int))=(((if v < 0 then(v+(n:Int)).toNat else min v.toNat n):Nat):Int)
 by_cases hv:v < 0
 ·simp only[if_pos hv];lia
 ·simp only[if_neg hv];lia
theorem zpe (lo hi:Option Int)(n:Nat):Builtin.Slice.sliceAdjust lo hi 1 (n:Int)=(((sIx n 0 lo:Nat):Int),((sIx n n hi:Nat):Int)):=by
 have h1:¬ ((1:Int) < 0):=by lia
 unfold Builtin.Slice.sliceAdjust;simp only[h1,xdo];refine Prod.ext ?_ ?_
 ·cases lo with
  | none=>rfl
  | some v=>exact zsz v n 0
 ·cases hi with
  | none=>rfl
  | some v=>exact zsz v n n
theorem zne (i j:Nat):Builtin.Slice.slicePlaces (i:Int) (j:Int) 1=j - i:=by
 unfold Builtin.Slice.slicePlaces;have h1:(1:Int) > 0:=by lia
 simp only[h1,xfw,xjv];split<;>lia
theorem zcy {v:Value}{o:Option Int}{Q:Option Int->Shared->Prop}(p:IsPart v o)(h:Q o s):wpAny (model prog w) A (Builtin.Slice.slicePartIndex v) Q E s:=by
 cases p with
 | none=>exact slicePart_none h
 | int i t=>exact slicePart_int h
theorem zcz {sl:Addr}{vl vu:Value}{lo hi:Option Int}{n:Nat}{Q:Int×Int×Nat->Shared->Prop}(hs:s.heap.IsSliceOf sl vl vu .none)(pl:IsPart vl lo)(pu:IsPart vu hi)
  (h:Q (((sIx n 0 lo:Nat):Int),1,sIx n n hi - sIx n 0 lo) s):wpAny (model prog w) A (Builtin.Slice.sliceApplied (.ref sl) (pure (n:Int))) Q E s:=by
 obtain⟨os,hos,hcs,hds⟩:=id hs;unfold Builtin.Slice.sliceApplied Builtin.Slice.sliceFields;refine xba (xba (xjh hos hds (x:=vl) rfl (xba (xjh hos hds (x:=vu) rfl (xba (xjh hos hds (x:=.none) rfl (xbe ?_)))))));refine xba (slicePart_none ?_);show wpAny _ _ (if((1:Int)==0)=true then _ else _) _ _ s;rw[if_neg (by decide)];refine xba (zcy pl (xba (zcy pu (xba (xbe ?_)))));show wpAny _ _ (match Builtin.Slice.sliceAdjust lo hi 1 (n:Int) with | (lo,hi)=>pure (lo,(1:Int),Builtin.Slice.slicePlaces lo hi 1)) _ _ s;rw[zpe lo hi n];show wpAny _ _ (pure (((sIx n 0 lo:Nat):Int),(1:Int),Builtin.Slice.slicePlaces ((sIx n 0 lo:Nat):Int) ((sIx n n hi:Nat):Int) 1)) _ _ s;rw[zne];exact xbe h
theorem zty (xs:Array Value)(i k:Nat):((List.range k).filterMap fun(m:Nat)=>xs[((i:Int)+(m:Int) * 1).toNat]?).toArray=((xs.toList.drop i).take k).toArray:=by
 have e:(fun(m:Nat)=>xs[((i:Int)+(m:Int) * 1).toNat]?)=fun m=>xs[i+m]?:=by
  funext m
  have:((i:Int)+(m:Int) * 1).toNat=i+m:=by lia
  rw[this]
 rw[e];have:=pick_run xs i k;rw[xkf] at this;have e2:((fun x=>xs[x]?) ∘ fun x=>i+x)=fun m=>xs[i+m]?:=rfl
 rw[e2] at this;rw[this]
theorem zeu {t sl:Addr}{items:Array Value}{vl vu:Value}{lo hi:Option Int}{Q:Value->Shared->Prop}(ht:IsTup s.heap t items)(hs:s.heap.IsSliceOf sl vl vu .none)(pl:IsPart vl lo)(pu:IsPart vu hi)
  (hw:¬ (sIx items.size 0 lo=0/\sIx items.size items.size hi=items.size))
  (h:Q (.ref s.heap.objs.size) { s with heap:=s.heap.push { cls:=.type "tuple", data:=.seq ((items.toList.drop (sIx items.size 0 lo)).take (sIx items.size items.size hi - sIx items.size 0 lo)).toArray } })
  (hsz:items.size<=sizeLine):wpAny (model prog w) A (getItem (.ref t) (.ref sl)) Q E s:=by
 have htake:sizeOk (.seq ((items.toList.drop (sIx items.size 0 lo)).take (sIx items.size items.size hi - sIx items.size 0 lo)).toArray):=by
  show((items.toList.drop (sIx items.size 0 lo)).take (sIx items.size items.size hi - sIx items.size 0 lo)).toArray.size<=sizeLine;rw[xbn,xct,xgr,xbv];lia
 have hj:sIx items.size items.size hi<=items.size:=zbcv _ _ (xbd _) hi;obtain⟨os,hos,hcs,hds⟩:=id hs;have hTs:s.TypeIs (.ref sl) "slice":=⟨os, hos, hcs⟩
 unfold getItem
 try with_reducible refine xer ?_
 first | refine xba (xbe ?_) | skip
 refine xba (xkq ht.typeIs (by decide) ?_)
 refine xba (wpAny_callSpecial?_slot (name:=Str.ofString "__getitem__") ht.typeIs xdx
  (xeq xdx ht.typeIs entry_tuple_getitem ?_ (args_tuple_getitem _ _)))
 show wpAny _ _ (Builtin.Tuple.tupleItemsOf (.ref t) >>= _) _ _ s;refine xba (tupleItemsOf_ ht ?_);refine xba (wpAny_typeOf hTs ?_);rw[if_pos (by decide)];refine xba (zcz hs pl pu ?_);have hno:¬ ((((sIx items.size 0 lo:Nat):Int)==0&&(1:Int)==1&&(sIx items.size items.size hi - sIx items.size 0 lo)==items.size)=true):=by
  intro q;rw[xdt,xdt] at q;have q1:((sIx items.size 0 lo:Nat):Int)=0:=eq_of_beq q.1.1;have q2:sIx items.size items.size hi - sIx items.size 0 lo=items.size:=eq_of_beq q.2;exact hw ⟨by lia,by lia⟩
 show wpAny _ _ (if(((sIx items.size 0 lo:Nat):Int)==0&&(1:Int)==1&&(sIx items.size items.size hi - sIx items.size 0 lo)==items.size)=true then _ else _) _ _ s;rw[if_neg hno,zty]
 first
  | exact xba (m:=Builtin.Tuple.tupleExact _) (xdq (xbe ⟨_,rfl,xbe h⟩) htake)
  | exact xba (m:=Builtin.Tuple.tupleExact _) (xdq (xba (xbe (xbe ⟨_,rfl,xbe h⟩))) htake)
  | exact xba (xba (m:=Builtin.Tuple.tupleExact _) (xdq (xbe (xbe ⟨_,rfl,xbe h⟩)) htake))
  | exact xba (xba (m:=Builtin.Tuple.tupleExact _) (xdq (xbe ⟨_,rfl,xbe h⟩) htake))
end
end HT
namespace L2
open PySem PySem.Spec PyProof.Rows
noncomputable abbrev TO:=St->Hp->(Option Int->Hp->Prop)->Prop
noncomputable def PO (X:Cx) (e:Option Expr) (t:TO):Prop :=
 ∀(aU:List (Addr×Obj)) (s:Shared) (σ:St) (H:Hp) (Q:Option Int->Hp->Prop),Inv X aU σ H s->t σ H Q ->
  wpAny (model X.prog X.w) X.A (evalPart e X.env) (fun u s'=>∃o H',Inv X aU σ H' s'/\IsPart u o/\Q o H') X.xe s
noncomputable def tNoPart:TO:=fun _ H Q=>Q none H
noncomputable def tPart (t:TE):TO:=fun σ H Q=>t σ H fun x H1=>∃i,x=.int i/\Q (some i) H1
theorem zeb {ns:List Int}:∀{us:List Value},Vals (ns.map V.int) us->IntsAre us ns:=by
 induction ns with
 | nil=>intro us r;rw[xik] at r;cases r;exact .nil
 | cons n ns ih =>
  intro us r;rw[xbh] at r;cases r with
  | cons r1 r2 =>
   obtain⟨t,e⟩:=r1;subst e;exact .cons n t (ih r2)
section
variable {X:Cx}{e:Expr}{te:TE}{lo hi:Option Expr}{tl th:TO}{pos p2:Pos}
theorem zya:PO X none tNoPart:=by
 intro aU s σ H Q I h;rw[xkn];exact xbe ⟨none,H,I,.none,h⟩
theorem zxz (h:PE X e te):PO X (some e) (tPart te):=by
 intro aU s σ H Q I hw;rw[evalPart_some];refine thn (h aU s σ H _ I hw) fun u s1 hq0=>?_
 obtain⟨x,H1,I1,r1,q1⟩:=hq0;obtain⟨i,rfl,q⟩:=q1;obtain⟨t,rfl⟩:=r1;exact⟨some i,H1,I1,.int i t,q⟩
noncomputable def SlR (X:Cx) (r:V->Option Int->Option Int->Hp->VK->Prop):Prop :=
 ∀(aU:List (Addr×Obj)) (s:Shared) (σ:St) (H:Hp) (x:V) (v vl vu:Value) (lo hi:Option Int) (sl:Addr) (Q:VK),Inv X aU σ H s->RelV x v->s.heap.IsSliceOf sl vl vu .none->IsPart vl lo->IsPart vu hi->r x lo hi H Q ->
  ∃ T id, typeLookup (.type T) "__getitem__"=pure (some (.builtin id))/\s.TypeIs v T/\wpAny (model X.prog X.w) X.A (getItem v (.ref sl)) (EP X aU σ Q) X.xe s
theorem SlR.or {r r':V->Option Int->Option Int->Hp->VK->Prop}(h:SlR X r)(h':SlR X r'):SlR X (fun x lo hi H Q=>r x lo hi H Q\/r' x lo hi H Q):=by
 intro aU s σ H x v vl vu lo hi sl Q I rx hs pl pu q;rcases q with q | q
 ·exact h aU s σ H x v vl vu lo hi sl Q I rx hs pl pu q
 ·exact h' aU s σ H x v vl vu lo hi sl Q I rx hs pl pu q
noncomputable def tSl (r:V->Option Int->Option Int->Hp->VK->Prop) (te:TE) (tl th:TO):TE:=fun σ H Q=>te σ H fun x H1=>tl σ H1 fun l H2=>th σ H2 fun u H3=>r x l u H3 Q
theorem zua {r:V->Option Int->Option Int->Hp->VK->Prop}(hr:SlR X r)(he:PE X e te)(hl:PO X lo tl)(hu:PO X hi th):PE X (.Subscript e (.Slice lo hi none p2) pos) (tSl r te tl th):=by
 intro aU s σ H Q I h;refine Subscript_ (thn (he aU s σ H _ I h) fun v s1 hq0=>?_);obtain⟨x,H1,I1,r1,q1⟩:=hq0;refine wpAny_Slice (thn (hl aU s1 σ H1 _ I1 q1) fun vl s2 ⟨l,H2,I2,pl,q2⟩=>thn (hu aU s2 σ H2 _ I2 q2) fun vu s3 hq0=>?_);obtain⟨u,H3,I3,pu,q3⟩:=hq0;rw[xkn];refine xbe ?_;have I4:Inv X aU σ H3 { s3 with heap:=s3.heap.push { cls:=.type "slice", data:=.fields #[vl, vu, .none] } }:=I3.kept (t':=s3.toks) fun b ob q=>xbj _ q
 obtain⟨T, id, hT, ht, hg⟩:=hr aU { s3 with heap:=s3.heap.push { cls:=.type "slice", data:=.fields #[vl, vu, .none] } } σ H3 x v vl vu l u s3.heap.objs.size Q I4 r1 (xkg ..) pl pu q3
 show wpAny (model X.prog X.w) X.A (subscriptTail e (.Slice lo hi none p2) v (.ref s3.heap.objs.size)) (EP X aU σ Q) X.xe { s3 with heap:=s3.heap.push { cls:=.type "slice", data:=.fields #[vl, vu, .none] } }
 exact tail_any (ops:=[.ref s3.heap.objs.size,v]) ht hT hg (by with_unfolding_all rfl)
noncomputable def cutV (xs:List V) (lo hi:Option Int):List V:=(xs.drop (HT.sIx xs.length 0 lo)).take (HT.sIx xs.length xs.length hi - HT.sIx xs.length 0 lo)
theorem zgn (xs:List V)(lo hi:Option Int):(cutV xs lo hi).length<=xs.length:=by
 unfold cutV;rw[xct,xgr];lia
noncomputable def rSlT (K:Fg):V->Option Int->Option Int->Hp->VK->Prop:=fun x lo hi H Q=>∃a xs,x=.ref a/\SqT K H a xs /\
 ¬ (HT.sIx xs.length 0 lo=0/\HT.sIx xs.length xs.length hi=xs.length)/\∀p,H p=none->Q (.ref p) (upd H p (.tup (cutV xs lo hi)))
theorem zbcn:SlR X (rSlT X.K):=by
 intro aU s σ H x v vl vu lo hi sl Q I rx hs pl pu h;obtain⟨a,xs,rfl,hx,hw,q⟩:=h;cases rx;obtain⟨its,r,ht,hz⟩:=I.tuple hx;have hlen:its.toArray.size=xs.length:=by rw[xbn];exact r.length.symm
 refine⟨"tuple", _, xdx.lookup, ht.typeIs, ?_⟩
 refine HT.zeu ht hs pl pu (by rw[hlen];exact hw) ?_ (by rw[hlen];exact hz);rw[hlen];refine⟨.ref s.heap.objs.size,_,I.laid (t':=s.toks) (o:=.tup (cutV xs lo hi)) (fun b ob q=>xbj _ q) (xbd _) ?_,rfl,q _ (I.hok.fresh (xbd _))⟩;exact⟨xbb (zgn xs lo hi) hz,_,(r.drop (HT.sIx xs.length 0 lo)).take (HT.sIx xs.length xs.length hi - HT.sIx xs.length 0 lo),IsTup.new _ _⟩
noncomputable def rLtT (K:Fg):R2:=fun x y H Q=>∃a b ns ms,x=.ref a/\y=.ref b/\SqT K H a (ns.map V.int)/\SqT K H b (ms.map V.int)/\Q (.bl (HT.lexLt ns ms)) H
theorem zbdz (hu:X.A.units < cLine):OpR X (compareOp .Lt) (rLtT X.K):=by
 intro aU s σ H x y v u Q I rx ry h;obtain⟨a,b,ns,ms,rfl,rfl,ha,hb,q⟩:=h;cases rx;cases ry;obtain⟨its,r1,p1,_⟩:=I.tuple ha;obtain⟨its2,r2,p2,_⟩:=I.tuple hb;have i1:IntsAre its.toArray.toList ns:=zeb r1;have i2:IntsAre its2.toArray.toList ms:=zeb r2;exact HT.zhz p1 p2 i1 i2 hu ⟨.bl (HT.lexLt ns ms),H,I,rfl,q⟩
noncomputable def rCatT (K:Fg):R2:=fun x y H Q=>∃a b xs ys,x=.ref a/\y=.ref b/\SqT K H a xs/\SqT K H b ys/\xs≠[]/\xs.length+ys.length<=sizeLine /\
 (ys=[]->Q (.ref a) H)/\(ys≠[]->∀p,H p=none->Q (.ref p) (upd H p (.tup (xs++ys))))
theorem Vals.nil_iff {xs:List V}{us:List Value}(r:Vals xs us):us=[]↔xs=[]:=by
 cases r with
 | nil=>simp
 | cons _ _=>simp
theorem zys:OpR X (binaryOp .Add) (rCatT X.K):=by
 intro aU s σ H x y v u Q I rx ry h;obtain⟨a,b,xs,ys,rfl,rfl,ha,hb,hx,hz,q1,q2⟩:=h;cases rx;cases ry;obtain⟨its,r1,p1,_⟩:=I.tuple ha;obtain⟨its2,r2,p2,_⟩:=I.tuple hb;refine HT.zbbk p1 p2 (fun z=>hx (r1.nil_iff.mp z)) (fun z=>⟨.ref a,H,I,rfl,q1 (r2.nil_iff.mp z)⟩) (fun z=>?_) (by rw[← r1.length,← r2.length];exact hz);refine⟨.ref s.heap.objs.size,_,I.laid (t':=s.toks) (o:=.tup (xs++ys)) (fun b ob q=>xbj _ q) (xbd _) ?_,rfl,q2 (fun w=>z (r2.nil_iff.mpr w)) _ (I.hok.fresh (xbd _))⟩;exact⟨by rw[xbo];exact hz,_,r1.append r2,IsTup.new _ _⟩
end
noncomputable def ixN (n:Nat) (i:Int):Option Nat:=if 0<=i then(if i < n then some i.toNat else none) else if -(n:Int)<=i then some (i+n).toNat else none
noncomputable def atI {α:Type} (xs:List α) (i:Int):Option α:=(ixN xs.length i).bind fun j=>xs[j]?
theorem zsp {n:Nat}{i:Int}{j:Nat}(h:ixN n i=some j):seqIndex? i n=some j/\j < n/\-(n:Int)<=i/\i < n:=by
 unfold ixN at h;by_cases h0:0<=i
 ·rw[if_pos h0] at h;by_cases h1:i < n
  ·rw[if_pos h1] at h;have e:i.toNat=j:=xcd h;exact⟨by rw[seqIndex_of h0 h1,e],by lia,by lia,h1⟩
  ·rw[if_neg h1] at h;cases h
 ·rw[if_neg h0] at h;by_cases h1:-(n:Int)<=i
  ·rw[if_pos h1] at h;have e:(i+n).toNat=j:=xcd h;exact⟨by rw[seqIndex_neg (by lia) h1,e],by lia,h1,by lia⟩
  ·rw[if_neg h1] at h;cases h
theorem zpc {α:Type}{xs:List α}{i:Int}{v:α}(h:atI xs i=some v):∃j,seqIndex? i xs.length=some j/\xs[j]?=some v/\j < xs.length/\-(xs.length:Int)<=i/\i < xs.length:=by
 unfold atI at h;cases e:ixN xs.length i with
 | none=>rw[e] at h;cases h
 | some j =>
  rw[e] at h;obtain⟨h1,h2,h3,h4⟩:=zsp e;exact⟨j,h1,h,h2,h3,h4⟩
theorem zli {α:Type}{xs:List α}{j:Nat}{v:α}(h:xs[j]?=some v):atI xs (j:Int)=some v:=by
 have hj:j < xs.length:=(xbm.mp h).1;have e:ixN xs.length (j:Int)=some j:=by
  unfold ixN;rw[if_pos (by lia),if_pos (by lia)];simp
 unfold atI;rw[e];exact h
noncomputable def PlainIx (b:Expr):Prop:=∀o i,subscripted b false o i=operate [o,i] (getItem o i)
noncomputable def IxR (X:Cx) (r:R2):Prop :=
 ∀(value slice:Expr) (aU:List (Addr×Obj)) (s:Shared) (σ:St) (H:Hp) (x y:V) (v u:Value) (Q:VK),Inv X aU σ H s->RelV x v->RelV y u->r x y H Q ->
  subscripted slice false v u=operate [v,u] (getItem v u)->wpAny (model X.prog X.w) X.A (subscriptTail value slice v u) (EP X aU σ Q) X.xe s
noncomputable def MtR (X:Cx) (id:String) (r:V->List V->Hp->VK->Prop):Prop :=
 ∀(aU:List (Addr×Obj)) (s:Shared) (σ:St) (H:Hp) (x:V) (xs:List V) (v:Value) (us:List Value) (Q:VK),Inv X aU σ H s->RelV x v->Vals xs us->r x xs H Q ->
  wpAny (model X.prog X.w) X.A (call (.builtin id) (v::us)) (EP X aU σ Q) X.xe s
section
variable {X:Cx}{a b:Expr}{ta tb:TE}{pos:Pos}
theorem IxR.or {r r':R2}(h:IxR X r)(h':IxR X r'):IxR X (fun x y H Q=>r x y H Q\/r' x y H Q):=by
 intro value slice aU s σ H x y v u Q I rx ry q hs;rcases q with q | q
 ·exact h value slice aU s σ H x y v u Q I rx ry q hs
 ·exact h' value slice aU s σ H x y v u Q I rx ry q hs
theorem zbij {r:R2}(hr:IxR X r)(ha:PE X a ta)(hb:PE X b tb)(hs:PlainIx b):PE X (.Subscript a b pos) (tOp r ta tb):=by
 intro aU s σ H Q I h;exact Subscript_ (binT ha hb I h fun v u s2 x y H2 I2 rx ry q=>hr a b aU s2 σ H2 x y v u Q I2 rx ry q (hs _ _))
noncomputable def rIxL (K:Fg):R2:=fun x y H Q=>∃p xs i v,x=.ref p/\y=.int i/\SqL K H p xs/\atI xs i=some v/\Q v H
noncomputable def rIxT (K:Fg):R2:=fun x y H Q=>∃p xs i v,x=.ref p/\y=.int i/\SqT K H p xs/\atI xs i=some v/\Q v H
noncomputable def rIxS:R2:=fun x y H Q=>∃z i c,x=.str z/\y=.int i/\z.length<=sizeLine/\atI z.cps.toList i=some c/\Q (.str ⟨#[c]⟩) H
theorem zzl:IxR X (rIxL X.K):=by
 intro value slice aU s σ H x y v u Q I rx ry h hs;obtain⟨p,xs,i,z,rfl,rfl,hq,he,q⟩:=h;cases rx;obtain⟨t,rfl⟩:=ry;obtain⟨its,r,pl,hz⟩:=I.list hq;obtain⟨j,h1,h2,h3,h4,h5⟩:=zpc he;obtain⟨w,ew,rw'⟩:=r.get h2;have hl:=r.length;have hn:=line63;have fin:EP X aU σ Q w s:=⟨z,H,I,rw',q⟩
 by_cases h0:0<=i
 ·have hj:i.toNat=j:=by
   rw[seqIndex_of h0 h5] at h1;exact xcd h1
  exact item_listR pl.isList h0 (by lia) (by rw[hj];simpa using ew) fin hs
 ·have hj:(i+(its.toArray.size:Int)).toNat=j:=by
   rw[seqIndex_neg (by lia) h4] at h1;rw[xbn,← hl];exact xcd h1
  exact subscriptTail_builtinR (x:=w) pl.isList.typeIs xkr.lookup
   (wpAny_getItem_list_neg (Q:=fun r s'=>r=w/\EP X aU σ Q r s') pl.isList (by lia) (by rw[xbn]<;>lia) (by lia) (by rw[hj];simpa using ew) ⟨rfl,fin⟩) hs
theorem zbeq:IxR X (rIxT X.K):=by
 intro value slice aU s σ H x y v u Q I rx ry h hs;obtain⟨p,xs,i,z,rfl,rfl,hq,he,q⟩:=h;cases rx;obtain⟨t,rfl⟩:=ry;obtain⟨its,r,pl,hz⟩:=I.tuple hq;obtain⟨j,h1,h2,h3,h4,h5⟩:=zpc he;obtain⟨w,ew,rw'⟩:=r.get h2;have hl:=r.length;have hn:=line63;have fin:EP X aU σ Q w s:=⟨z,H,I,rw',q⟩
 exact subscriptTail_builtinR (x:=w) pl.typeIs xir.lookup
  (getItem_tuple (j:=j) (Q:=fun r s'=>r=w/\EP X aU σ Q r s') pl (by lia) (by lia) (by rw[xbn,← hl];exact h1) (by simpa using ew) ⟨rfl,fin⟩) hs
theorem zber:IxR X rIxS:=by
 intro value slice aU s σ H x y v u Q I rx ry h hs;obtain⟨z,i,c,rfl,rfl,hz,he,q⟩:=h;obtain⟨t,rfl⟩:=rx;obtain⟨t',rfl⟩:=ry;obtain⟨j,h1,h2,h3,h4,h5⟩:=zpc he;have hl:z.cps.toList.length=z.length:=by simp[Str.length]
 rw[hl] at h1 h4 h5;have hn:=line63
 exact tail_any (typeIs_str s z t) slot_str_getitem.lookup (getItem_str (c:=c) (by
  have e1:decide (i < -(2 ^ 63:Int))=false:=xcj (by lia);have e2:decide (i ≥ 2 ^ 63)=false:=xcj (by lia)
  rw[e1,e2,Bool.or_false]) (by rw[h1];simpa using h2) ⟨.str ⟨#[c]⟩,H,I.tok _,⟨_,rfl⟩,q⟩) hs
noncomputable def rIx (K:Fg):R2:=fun x y H Q=>rIxL K x y H Q\/rIxT K x y H Q\/rIxS x y H Q
theorem zbes:IxR X (rIx X.K):=zzl.or (zbeq.or zber)
theorem zno (its:List Value)(n j:Nat)(u:Value):Obj.mapSeq (·.setIfInBounds j u) { cls:=.type "list", data:=.seq its.toArray n }={ cls:=.type "list", data:=.seq (its.set j u).toArray n }:=by
 simp[Obj.mapSeq]
theorem Inv.lst {aU:List (Addr×Obj)}{σ:St}{H:Hp}{s:Shared}{p:Addr}{xs:List V}(I:Inv X aU σ H s)(h:H p=some (.lst xs)) :
  ∃(its:List Value) (n:Nat), Vals xs its/\s.heap.get? p=some { cls:=.type "list", data:=.seq its.toArray n }/\xs.length<=sizeLine:=by
 obtain⟨z,its,n,r,e⟩:=I.hok p _ h;exact⟨its,n,r,e,z⟩
theorem Inv.lstUpd {aU:List (Addr×Obj)}{σ:St}{H:Hp}{s:Shared}{p:Addr}{xs ys:List V}{its its':List Value}{n n':Nat}{f:Obj->Obj}(I:Inv X aU σ H s)(h:H p=some (.lst xs))
  (ho:s.heap.get? p=some { cls:=.type "list", data:=.seq its.toArray n })(hf:f { cls:=.type "list", data:=.seq its.toArray n }={ cls:=.type "list", data:=.seq its'.toArray n' })(r:Vals ys its')(hz:ys.length<=sizeLine)(t:Nat) :
  Inv X aU σ (upd H p (.lst ys)) {s with heap:=s.heap.update p f,toks:=t}:=by
 have e:(s.heap.update p f).get? p=some { cls:=.type "list", data:=.seq its'.toArray n' }:=by
  rw[xjo f ho (by rw[hf]<;>rfl),hf]
 refine I.write (x:=p) (e:=p) (by rw[h];trivial) (.inl rfl) (fun b u hb q=>(Heap.get?_update_other _ _ (xez hb)).trans q) ⟨_,e⟩ ?_;exact⟨hz,its',n',r,e⟩
noncomputable def rSetL:V->V->V->Hp->(Hp->Prop)->Prop:=fun o i v H Q=>∃p xs k j,o=.ref p/\i=.int k/\H p=some (.lst xs)/\ixN xs.length k=some j/\Q (upd H p (.lst (xs.set j v)))
theorem ztl:PSet X rSetL:=by
 intro aU s σ H o i v ov iv u Q I ro ri rv h;obtain⟨p,xs,k,j,rfl,rfl,hp,hj,q⟩:=h;cases ro;obtain⟨t,rfl⟩:=ri;obtain⟨its,n,r,ho,hz⟩:=I.lst hp;obtain⟨h1,h2,h3,h4⟩:=zsp hj;have hl:=r.length;have hn:=line63;have I':Inv X aU σ (upd H p (.lst (xs.set j v))) {s with heap:=s.heap.update p (Obj.mapSeq (·.setIfInBounds j u))} :=
  I.lstUpd hp ho (zno its n j u) (r.set rv j) (by rw[xfi];exact hz) s.toks
 by_cases h0:0<=k
 ·have hk:k.toNat=j:=by
   rw[seqIndex_of h0 h4] at h1;exact xcd h1
  exact W.ki_setAt ho h0 (by lia) (by rw[xbn,← hl];exact h4) (by rw[hk];exact⟨_,I',q⟩)
 ·have hk:(k+(its.toArray.size:Int)).toNat=j:=by
   rw[seqIndex_neg (by lia) h3] at h1;rw[xbn,← hl];exact xcd h1
  exact W.ki_setBack ho (by lia) (by rw[xbn,← hl];exact h3) (by lia) (by rw[hk];exact⟨_,I',q⟩)
theorem ziv (lo hi:Option Int)(n:Nat):(sliceBounds lo hi none n).1=((HT.sIx n 0 lo:Nat):Int)/\(sliceBounds lo hi none n).2.1=((HT.sIx n n hi:Nat):Int)/\(sliceBounds lo hi none n).2.2=1:=by
 refine⟨?_,?_,rfl⟩
 ·cases lo with
  | none=>simp[sliceBounds,HT.sIx]
  | some i =>
   simp only[sliceBounds,HT.sIx,Option.getD_none,show(1:Int) > 0 by decide,xfw];by_cases h:i < 0
   ·simp only[h,xfw]<;>lia
   ·simp only[h,xdo]<;>lia
 ·cases hi with
  | none=>simp[sliceBounds,HT.sIx]
  | some i =>
   simp only[sliceBounds,HT.sIx,Option.getD_none,show(1:Int) > 0 by decide,xfw];by_cases h:i < 0
   ·simp only[h,xfw]<;>lia
   ·simp only[h,xdo]<;>lia
theorem zhw (its:List Value)(lo hi:Option Int):slicePick its.toArray lo hi none=((its.drop (HT.sIx its.length 0 lo)).take (HT.sIx its.length its.length hi - HT.sIx its.length 0 lo)).toArray:=by
 obtain⟨h1,h2,h3⟩:=ziv lo hi its.toArray.size;unfold slicePick;rw[h1,h2,h3];simp only[sliceRange_one,pick_run,xbn]<;>rfl
noncomputable def rSlL (K:Fg):V->Option Int->Option Int->Hp->VK->Prop:=fun x lo hi H Q=>∃a xs,x=.ref a/\SqL K H a xs/\∀p,H p=none->Q (.ref p) (upd H p (.lst (cutV xs lo hi)))
theorem zxm:SlR X (rSlL X.K):=by
 intro aU s σ H x v vl vu lo hi sl Q I rx hs pl pu h;obtain⟨a,xs,rfl,hx,q⟩:=h;cases rx;obtain⟨its,r,ht,hz⟩:=I.list hx;have hlen:=r.length;refine⟨"list", _, xkr.lookup, ht.isList.typeIs, ?_⟩
 refine wpAny_getItem_list_slice ht.isList hs pl pu .none (by simp) ?_ (by rw[xbn]<;>lia);rw[zhw,← hlen];refine⟨.ref s.heap.objs.size,_,I.laid (t':=s.toks) (o:=.lst (cutV xs lo hi)) (fun b ob q=>xbj _ q) (xbd _) ?_,rfl,q _ (I.hok.fresh (xbd _))⟩;exact⟨xbb (zgn xs lo hi) hz,_,0,(r.drop (HT.sIx xs.length 0 lo)).take (HT.sIx xs.length xs.length hi - HT.sIx xs.length 0 lo),xbz _ rfl⟩
theorem zbs:CallR X (.builtin "len") (fun xs H Q=>∃ p ys, xs=[.ref p]/\(SqL X.K H p ys\/SqT X.K H p ys)/\Q (.int ys.length) H):=by
 intro aU s σ H xs us Q I r h;obtain⟨p,ys,rfl,hq,q⟩:=h;obtain⟨u,rfl,rx⟩:=vals1 r;cases rx;have hn:=line63;rcases hq with hq | hq
 ·obtain⟨its,r',pl,hz⟩:=I.list hq;have hlen:=r'.length;exact Calls.call_len_list pl.isList (by simp only[xbn]<;>lia) ⟨.int ys.length,H,I.tok _,⟨s.toks+1,by rw[xbn,hlen]⟩,q⟩
 ·obtain⟨its,r',pl,hz⟩:=I.tuple hq;have hlen:=r'.length;exact len_tuple pl (by simp only[xbn]<;>lia) ⟨.int ys.length,H,I.tok _,⟨s.toks+1,by rw[xbn,hlen]⟩,q⟩
theorem CallR.or {f:Value}{r r':List V->Hp->VK->Prop}(h:CallR X f r)(h':CallR X f r'):CallR X f (fun xs H Q=>r xs H Q\/r' xs H Q):=by
 intro aU s σ H xs us Q I rs q;rcases q with q | q
 ·exact h aU s σ H xs us Q I rs q
 ·exact h' aU s σ H xs us Q I rs q
theorem zbx:CallR X (.type "tuple") (fun xs H Q=>∃ p ys, xs=[.ref p]/\((SqL X.K H p ys/\∀ l, H l=none->Q (.ref l) (upd H l (.tup ys)))\/(SqT X.K H p ys/\Q (.ref p) H))):=by
 intro aU s σ H xs us Q I r h;obtain⟨p,ys,rfl,h⟩:=h;obtain⟨u,rfl,rx⟩:=vals1 r;cases rx;rcases h with⟨hq,q⟩ | ⟨hq,q⟩
 ·obtain⟨its,r',pl,hz⟩:=I.list hq;have hlen:=r'.length;refine call_tuple_list pl.isList (fun h' kp=>?_) (by simp only[xbn]<;>lia);have I1:Inv X aU σ H {s with heap:=h'}:=I.kept (t':=s.toks) kp;have I2:Inv X aU σ (upd H h'.objs.size (.tup ys)) { s with heap:=h'.push { cls:=.type "tuple", data:=.seq its.toArray } } :=
   I1.laid (t':=s.toks) (fun b o e=>xbj _ e) (xbd _) (show ObjOk X.prog X.w _ _ _ (.tup ys) from⟨hz,its,r',IsTup.new _ _⟩)
  exact⟨.ref h'.objs.size,_,I2,rfl,q _ (I1.hok.fresh (xbd _))⟩
 ·obtain⟨its,r',pl,hz⟩:=I.tuple hq;exact call_tuple_same pl ⟨.ref p,H,I,rfl,q⟩
noncomputable def tyV (K:Fg) (T:String) (x:V) (H:Hp):Prop:=match x with
 | .str _=>T="str"
 | .int _=>T="int"
 | .ref p=>(T="list"/\∃ xs, SqL K H p xs)\/(T="tuple"/\∃ o, K.lookup p=some o/\o.cls=.type "tuple"/\o.dict=none) \/
  (T="dict"/\((∃ kvs, H p=some (.dK kvs))\/∃ kvs, H p=some (.dT kvs)))\/(T="set"/\∃ S n, H p=some (.set S n))
 | _=>False
theorem zbck {aU:List (Addr×Obj)}{σ:St}{H:Hp}{s:Shared}{T:String}{x:V}{v:Value}(I:Inv X aU σ H s)(r:RelV x v)(ty:tyV X.K T x H) :
  s.TypeIs v T/\∀a,v=.ref a->∃ob,s.heap.get? a=some ob/\ob.dict=none:=by
 cases x with
 | str z =>
  obtain⟨t,rfl⟩:=r;cases(show T="str" from ty)
  exact⟨typeIs_str s z t,fun _ e=>nomatch e⟩
 | int i =>
  obtain⟨t,rfl⟩:=r;cases(show T="int" from ty)
  exact⟨typeIs_int s i t,fun _ e=>nomatch e⟩
 | ref p =>
  cases r;rcases ty with⟨rfl,xs,hq⟩ | ⟨rfl,o,hk,hc,hd⟩ | ⟨rfl,hk⟩ | ⟨rfl,S,n,hk⟩
  ·obtain⟨its,_,pl,_⟩:=I.list hq;refine⟨pl.isList.typeIs,fun a e=>?_⟩;cases e;obtain⟨o,n,e,c,hd,_⟩:=pl;exact⟨o,e,hd⟩
  ·refine⟨⟨o,I.kIn p o hk,hc⟩,fun a e=>?_⟩;cases e;exact⟨o,I.kIn _ o hk,hd⟩
  ·have z:∃o,s.heap.get? p=some o/\o.ExactDict:=by
    rcases hk with⟨kvs,hk⟩ | ⟨kvs,hk⟩
    ·obtain⟨_,_,_,_,o,_,_,e,ex,_⟩:=I.hok p _ hk;exact⟨o,e,ex⟩
    ·obtain⟨_,_,_,_,o,_,_,e,ex,_⟩:=I.hok p _ hk;exact⟨o,e,ex⟩
   obtain⟨o,e,ex⟩:=z;refine⟨⟨o,e,ex.1⟩,fun a e2=>?_⟩;cases e2;exact⟨o,e,ex.2.1⟩
  ·obtain⟨o,_,_,_,e,ex,_⟩:=I.hok p _ hk;refine⟨⟨o,e,ex.1⟩,fun a e2=>?_⟩;cases e2;exact⟨o,e,ex.2.1⟩
 | _=>exact False.elim ty
noncomputable def tBM (K:Fg) (T:String) (r:V->List V->Hp->VK->Prop) (to:TE) (t:TA):TE:=fun σ H Q=>to σ H fun x H1=>tyV K T x H1/\t σ H1 fun xs H2=>r x xs H2 Q
variable {o e:Expr}{es:List Expr}{to:TE}{t:TA}{name:Str}{apos cpos:Pos}{T id:String}{r:V->List V->Hp->VK->Prop}
theorem zbdq (pa:PlainAttrs T)(slot:Slot T name id)(hty:typeOf (.builtin id)=pure (.type "method_descriptor"))(hm:MtR X id r)(ho:PE X o to)(ha:PA X (e::es) t)
  (hbase:attributeBase o name X.env (eval o X.env)=eval o X.env:=by rfl)
  (hfew:((backTo cpos (starEach (e::es) X.env)).all (fun x=>!x.1)&&(backToKw cpos (keywordEach [] X.env)).all (fun x=>x.1.isSome)
   && decide ((e::es).length+([]:List Keyword).length+(if([]:List Keyword).isEmpty then 0 else 1) < 30))=true:=by rfl)
  (hline:(apos.endLine==cpos.line)=true:=by rfl)(hs:starEach (e::es) X.env=(false,eval e X.env)::starEach es X.env:=by rfl)(hplain:(backTo cpos (starEach es X.env)).any (·.1)=false:=by rfl) :
  PE X (.Call (.Attribute o name apos) (e::es) [] cpos) (tBM X.K T r to t):=by
 intro aU s σ H Q I h;refine wpAny_Call_method_late hbase hfew hline rfl (thn (ho aU s σ H _ I h) fun v s1 hq0=>?_);obtain⟨x,H1,I1,r1,ty,q1⟩:=hq0;obtain⟨h1,h2⟩:=zbck I1 r1 ty;refine⟨T,id,pa,slot,hty,h1,h2,?_⟩;have hA:=ha cpos aU s1 σ H1 _ I1 q1;rw[hs] at hA ⊢;refine xhg (by show(false||(backTo cpos (starEach es X.env)).any (·.1))=false;rw[hplain]<;>rfl) (xht ?_);exact thn hA fun us s2 ⟨vs,H2,I2,r2,q2⟩=>hm aU s2 σ H2 x vs v us Q I2 r1 r2 q2
/- xs.append(e),list.index on a module's tuple .. are MtR facts of 06m -/
end
noncomputable def MtM (X:Cx) (id:String) (r:V->List V->Hp->VK->Prop):Prop :=
 ∀(aU:List (Addr×Obj)) (s:Shared) (σ:St) (H:Hp) (x:V) (xs:List V) (v:Value) (us:List Value) (Q:VK),Inv X aU σ H s->RelV x v->Vals xs us->r x xs H Q ->
  wpAny (model X.prog X.w) X.A (call (.builtin id) (v::us)) (EP X aU σ Q) X.xe s
theorem Vals.one:∀{x:V} {us:List Value},Vals [x] us->∃u,us=[u]/\RelV x u
 | _,_,.cons r .nil=>⟨_,rfl,r⟩
theorem Vals.eraseIdx:∀{xs:List V} {us:List Value} (i:Nat),Vals xs us->Vals (xs.eraseIdx i) (us.eraseIdx i)
 | _,_,_,.nil=>.nil
 | _,_,0,.cons _ t=>t
 | _,_,i+1,.cons r t=>.cons r (Vals.eraseIdx i t)
theorem zkm {α:Type}:∀(l:List α) (i:Nat),(l.eraseIdx i).length<=l.length
 | [],_=>xbd _
 | _::_,0=>xld _
 | _::r,i+1=>xeo (zkm r i)
section
variable {X:Cx}{aU:List (Addr×Obj)}{σ:St}{H:Hp}{s:Shared}{l b:Addr}{xs ys zs:List V}
theorem Inv.lset {its its':List Value}{n:Nat}{f:Array Value->Array Value}{t':Nat}(I:Inv X aU σ H s)(hH:H l=some (.lst xs))
  (e:s.heap.get? l=some { cls:=.type "list", data:=.seq its.toArray n })(hf:f its.toArray=its'.toArray)(hv:Vals ys its')(hz:ys.length<=sizeLine) :
  Inv X aU σ (upd H l (.lst ys)) {s with heap:=s.heap.update l (Obj.mapSeq f),toks:=t'}:=by
 have q:=PySem.IsL.update e f;rw[hf] at q;refine I.write (x:=l) (e:=l) (by rw[hH];exact trivial) (.inl rfl) (fun b' u hb hu=>(Heap.get?_update_other s.heap (Obj.mapSeq f) (xez hb)).trans hu) ⟨_,q⟩ ?_;exact⟨hz,its',_,hv,q⟩
theorem Inv.lnew {its:List Value}{t':Nat}(I:Inv X aU σ H s)(hv:Vals ys its)(hz:ys.length<=sizeLine) :
  Inv X aU σ (upd H s.heap.objs.size (.lst ys)) { s with heap:=s.heap.push { cls:=.type "list", data:=.seq its.toArray }, toks:=t' } :=
 I.laid (fun _ _ q=>xbj _ q) (xbd _) ⟨hz,its,0,hv,xbz _ rfl⟩
theorem Inv.fresh (I:Inv X aU σ H s):H s.heap.objs.size=none:=I.hok.fresh (xbd _)
theorem Inv.lstM (I:Inv X aU σ H s)(hH:H l=some (.lst xs)):xs.length<=sizeLine/\∃(its:List Value) (n:Nat), Vals xs its/\xs.length=its.length/\s.heap.get? l=some { cls:=.type "list", data:=.seq its.toArray n }:=by
 obtain⟨z,its,n,r,e⟩:=I.hok l _ hH;exact⟨z,its,n,r,r.length,e⟩
theorem notLongL {n:Nat}(h:n<=sizeLine):Builtin.List.listTooLong n=false:=by
 unfold Builtin.List.listTooLong;exact xcj (by lia)
end
section
variable {X:Cx}
noncomputable def rAppend:V->List V->Hp->VK->Prop:=fun x vs H Q=>∃l xs y,x=.ref l/\vs=[y]/\H l=some (.lst xs)/\xs.length < sizeLine/\Q .non (upd H l (.lst (xs++[y])))
theorem zkl:MtM X "list.append" rAppend:=by
 intro aU s σ H x vs v us Q I rx rv h;obtain⟨l,xs,y,rfl,rfl,hH,hz,q⟩:=h;cases rx;obtain⟨u,rfl,ru⟩:=rv.one;obtain⟨z,its,n,r,hl,e⟩:=I.lstM hH;refine call_meets F.slot_list_append ⟨_,e,rfl⟩ F.entry_list_append (F.args_list_append_2 _ _) (PySem.list_append l its.toArray n u (by rw[xbn];lia)) ⟨e,?_⟩;refine⟨.non,_,I.lset (its':=its++[u]) hH e (by simp) (r.append (.cons ru .nil)) ?_,rfl,q⟩;rw[xbo,xjp];lia
noncomputable def rExtend:V->List V->Hp->VK->Prop:=fun x vs H Q=>∃l b xs zs,x=.ref l/\vs=[.ref b]/\H l=some (.lst xs)/\H b=some (.lst zs)/\xs.length+zs.length<=sizeLine/\Q .non (upd H l (.lst (xs++zs)))
theorem zqv:MtM X "list.extend" rExtend:=by
 intro aU s σ H x vs v us Q I rx rv h;obtain⟨l,b,xs,zs,rfl,rfl,hH,hB,hz,q⟩:=h;cases rx;obtain⟨u,rfl,ru⟩:=rv.one;cases ru;obtain⟨z,its,n,r,hl,e⟩:=I.lstM hH;obtain⟨z2,its2,n2,r2,hl2,e2⟩:=I.lstM hB;have hsz:its.toArray.size+its2.toArray.size<=sizeLine:=by rw[xbn,xbn];lia
 have hlong:¬ (!its.toArray.isEmpty&&Builtin.List.listTooLong (its.toArray.size+its2.toArray.size))=true:=by
  rw[notLongL hsz,Bool.and_false];exact xem
 refine call_meets F.slot_list_extend ⟨_,e,rfl⟩ F.entry_list_extend (F.args_list_extend_2 _ _)
  (AutoSeq1.list_extend_list_list_0 l its.toArray n b its2.toArray n2 hlong (by rw[xbn];lia) (by lia)) ⟨e,e2,?_⟩
 refine⟨.non,_,I.lset (its':=its++its2) hH e (by simp) (r.append r2) ?_,rfl,q⟩;rw[xbo];lia
noncomputable def rPopAt:V->List V->Hp->VK->Prop:=fun x vs H Q=>∃l xs i k y,x=.ref l/\vs=[.int i]/\H l=some (.lst xs)/\-(2 ^ 63)<=i/\i < 2 ^ 63/\seqIndex? i xs.length=some k/\xs[k]?=some y/\Q y (upd H l (.lst (xs.eraseIdx k)))
theorem zun:MtM X "list.pop" rPopAt:=by
 intro aU s σ H x vs v us Q I rx rv h;obtain⟨l,xs,i,k,y,rfl,rfl,hH,h1,h2,hk,hy,q⟩:=h;cases rx;obtain⟨u,rfl,ru⟩:=rv.one;obtain⟨t,rfl⟩:=ru;obtain⟨z,its,n,r,hl,e⟩:=I.lstM hH;obtain⟨w,hw,rw'⟩:=r.get hy;refine call_meets F.slot_list_pop ⟨_,e,rfl⟩ F.entry_list_pop (F.args_list_pop_2 _ _)
  (MeetsSeq.list_pop_at l its.toArray n i t k w (fitsIndex_both h1 h2) (by rw[xbn,← hl];exact hk) (by rw[← xcf];exact hw) (by rw[xbn];lia)) ⟨e,?_⟩
 refine⟨y,_,I.lset (its':=its.eraseIdx k) hH e ?_ (r.eraseIdx k) ?_,rw',q⟩
 ·show its.toArray.eraseIdxIfInBounds k=(its.eraseIdx k).toArray;rw[List.eraseIdxIfInBounds_toArray]
 ·have:=zkm xs k;lia
noncomputable def rCat:R2:=fun x y H Q=>∃l b xs zs,x=.ref l/\y=.ref b/\H l=some (.lst xs)/\H b=some (.lst zs)/\xs.length+zs.length<=sizeLine/\∀p,H p=none->Q (.ref p) (upd H p (.lst (xs++zs)))
theorem zbea:OpR X (binaryOp .Add) rCat:=by
 intro aU s σ H x y v u Q I rx ry h;obtain⟨l,b,xs,zs,rfl,rfl,hH,hB,hz,q⟩:=h;cases rx;cases ry;obtain⟨z,its,n,r,hl,e⟩:=I.lstM hH;obtain⟨z2,its2,n2,r2,hl2,e2⟩:=I.lstM hB;refine PySem.P.add_list e e2 ?_ (by rw[xbn,xbn];lia);have ea:its.toArray++its2.toArray=(its++its2).toArray:=by simp
 rw[ea];exact⟨.ref _,_,I.lnew (t':=s.toks) (r.append r2) (by rw[xbo];lia),rfl,q _ I.fresh⟩
end
section
variable {prog:Program}{w:World}{A:Around}{E:Value->Shared->Prop}{s:Shared}
end
section
variable {X:Cx}
end
section
variable {κ:Type}[DecidableEq κ]
noncomputable def valV (kvs:List (κ×V)) (k:κ):Option V:=(kvs.find? fun kv=>decide (kv.1=k)).map (·.2)
noncomputable def putK (kvs:List (κ×V)) (k:κ) (v:V):List (κ×V) :=
 if(kvs.any fun kv=>decide (kv.1=k))=true then kvs.map (fun kv=>if kv.1=k then(kv.1,v) else kv) else kvs++[(k,v)]
noncomputable def dropK (kvs:List (κ×V)) (k:κ):List (κ×V):=kvs.filter fun kv=>decide (kv.1≠k)
theorem zgq {p:κ×V}{r:List (κ×V)}{k:κ}(e:p.1=k):valV (p::r) k=some p.2:=by simp[valV,xev,e]
theorem zgr {p:κ×V}{r:List (κ×V)}{k:κ}(e:¬ p.1=k):valV (p::r) k=valV r k:=by simp[valV,xev,e]
theorem zmn (k:κ):∀kvs:List (κ×V),(kvs.any fun kv=>decide (kv.1=k))=(valV kvs k).isSome
 | []=>rfl
 | p::r=>by
  rw[xji];by_cases e:p.1=k
  ·simp only[zgq e,xcm e,Bool.true_or,Option.isSome_some]
  ·rw[zgr e,xcj e,Bool.false_or];exact zmn k r
theorem zgk (kvs:List (κ×V))(k:κ)(v:V):(putK kvs k v).length<=kvs.length+1:=by
 unfold putK;split
 ·rw[xbc];lia
 ·rw[xbo,xbr,xju];lia
theorem RelO.isSome_eq {o:Option V}{u:Option Value}(r:RelO o u):o.isSome=u.isSome:=by
 cases o with
 | none=>cases u with
  | none=>rfl
  | some _=>exact(show False from r).elim
 | some _=>cases u with
  | none=>exact(show False from r).elim
  | some _=>rfl
theorem RelO.getD {o:Option V}{u:Option Value}{d:V}{d':Value}(r:RelO o u)(rd:RelV d d'):RelV (o.getD d) (u.getD d'):=by
 cases o with
 | none=>cases u with
  | none=>exact rd
  | some _=>exact(show False from r).elim
 | some _=>cases u with
  | none=>exact(show False from r).elim
  | some _=>exact r
theorem KV.val {kvs:List (κ×V)}{vs:List (κ×Value)}(r:KV kvs vs)(k:κ):RelO (valV kvs k) (valueAt vs k):=by
 unfold KV at r
 induction r with
 | nil=>exact True.intro
 | @cons p q ps qs h t ih =>
  obtain⟨h1,h2⟩:=h;by_cases e:p.1=k
  ·have e':q.1=k:=h1.symm.trans e;have b:valueAt (q::qs) k=some q.2:=by simp[valueAt,xev,e']
   rw[zgq e,b];exact h2
  ·have e':¬ q.1=k:=fun z=>e (h1.trans z)
   have b:valueAt (q::qs) k=valueAt qs k:=by simp[valueAt,xev,e']
   rw[zgr e,b];exact ih
theorem KV.any {kvs:List (κ×V)}{vs:List (κ×Value)}(r:KV kvs vs)(k:κ):(kvs.any fun kv=>decide (kv.1=k))=vs.any fun kv=>decide (kv.1=k):=by
 unfold KV at r
 induction r with
 | nil=>rfl
 | cons h t ih=>rw[xji,xji,ih,h.1]
theorem KV.repl {kvs:List (κ×V)}{vs:List (κ×Value)}(r:KV kvs vs)(k:κ){y:V}{u:Value}(ry:RelV y u) :
  KV (kvs.map fun kv=>if kv.1=k then(kv.1,y) else kv) (vs.map fun kv=>if kv.1=k then(kv.1,u) else kv):=by
 unfold KV at r ⊢
 induction r with
 | nil=>exact .nil
 | @cons p q ps qs h t ih =>
  rw[xbh,xbh];refine .cons ?_ ih;obtain⟨h1,h2⟩:=h;by_cases e:p.1=k
  ·rw[if_pos e,if_pos (h1.symm.trans e)];exact⟨h1,ry⟩
  ·rw[if_neg e,if_neg (fun z=>e (h1.trans z))];exact⟨h1,h2⟩
theorem KV.put {kvs:List (κ×V)}{vs:List (κ×Value)}(r:KV kvs vs)(k:κ){y:V}{u:Value}(ry:RelV y u):KV (putK kvs k y) (stored vs k u):=by
 unfold putK stored;rw[r.any k];by_cases e:(vs.any fun kv=>decide (kv.1=k))=true
 ·rw[if_pos e,if_pos e];exact r.repl k ry
 ·rw[if_neg e,if_neg e];exact Paired.snoc r ⟨rfl,ry⟩
theorem KV.length {kvs:List (κ×V)}{vs:List (κ×Value)}(r:KV kvs vs):kvs.length=vs.length:=xey r
end
theorem zzk {P:Program}{w:World}{k:Key}{u:Value}(r:RelV (kV k) u):(mixKind P w).is k u=true:=by
 cases k with
 | inl i=>obtain⟨t,e⟩:=(show ∃t,u=Value.int i t from r);subst e;exact zmc P w i t
 | inr x=>obtain⟨t,e⟩:=(show ∃t,u=Value.str x t from r);subst e;exact zmb P w x t
theorem zko {P:Program}{w:World}:∀{ks:List Key} {us:List Value},Vals (ks.map kV) us->ItemsAre (mixKind P w) ks us
 | [],_,r=>by rw[xik] at r;cases r;exact .nil
 | k::ks,_,r=>by
  rw[xbh] at r;cases r with
  | cons h t=>exact .cons (zzk h) (zko t)
noncomputable abbrev KT (H:Hp):List (List Key×V)->List (List Key×Addr×Value)->Prop:=Paired fun p q=>p.1=q.1/\H q.2.1=some (.tup (p.1.map kV))/\RelV p.2 q.2.2
theorem KT.val {H:Hp}{kvs:List (List Key×V)}{xs:List (List Key×Addr×Value)}(r:KT H kvs xs)(k:List Key):RelO (valV kvs k) ((atKey xs k).map (·.2)):=by
 induction r with
 | nil=>exact True.intro
 | @cons p q ps qs h t ih =>
  obtain⟨h1,_,h2⟩:=h;by_cases e:p.1=k
  ·have e':q.1=k:=h1.symm.trans e;have b:atKey (q::qs) k=some q.2:=by simp[atKey,xev,e']
   rw[zgq e,b];exact h2
  ·have e':¬ q.1=k:=fun z=>e (h1.trans z)
   have b:atKey (q::qs) k=atKey qs k:=by simp[atKey,xev,e']
   rw[zgr e,b];exact ih
theorem KT.repl {H:Hp}{kvs:List (List Key×V)}{xs:List (List Key×Addr×Value)}(r:KT H kvs xs)(k:List Key){y:V}{u:Value}(ry:RelV y u) :
  KT H (kvs.map fun kv=>if kv.1=k then(kv.1,y) else kv) (xs.map (putAt k u)):=by
 induction r with
 | nil=>exact .nil
 | @cons p q ps qs h t ih =>
  rw[xbh,xbh];refine .cons ?_ ih;obtain⟨h1,h2,h3⟩:=h;unfold putAt;by_cases e:p.1=k
  ·rw[if_pos e,if_pos (h1.symm.trans e)];exact⟨h1,h2,ry⟩
  ·rw[if_neg e,if_neg (fun z=>e (h1.trans z))];exact⟨h1,h2,h3⟩
theorem KT.put {H:Hp}{kvs:List (List Key×V)}{xs:List (List Key×Addr×Value)}(r:KT H kvs xs)(k:List Key){b:Addr}{y:V}{u:Value}(hb:H b=some (.tup (k.map kV)))(ry:RelV y u) :
  KT H (putK kvs k y) (storedH xs k b u):=by
 have e:(kvs.any fun kv=>decide (kv.1=k))=(atKey xs k).isSome:=by
  rw[zmn,(r.val k).isSome_eq,Option.isSome_map]
 unfold putK storedH;rw[e];by_cases q:(atKey xs k).isSome=true
 ·rw[if_pos q,if_pos q];exact r.repl k ry
 ·rw[if_neg q,if_neg q];exact Paired.snoc r ⟨rfl,hb,ry⟩
theorem KT.keeps {H H':Hp}{kvs:List (List Key×V)}{xs:List (List Key×Addr×Value)}(r:KT H kvs xs)(ht:∀b ys,H b=some (.tup ys)->H' b=some (.tup ys)):KT H' kvs xs :=
 Paired.mapP r fun _ _ z=>⟨z.1,ht _ _ z.2.1,z.2.2⟩
section
variable {P:Program}{w:World}{H:Hp}{h:Heap}{a:Addr}
theorem zbhf {u:HO}(ok:HOk P w H h)(e:Rd H a u):ObjOk P w H h a u:=e.ok ok
theorem zwo {kvs:List (Key×V)}(ok:HOk P w H h)(e:Rd H a (.dK kvs)):kvs.length<=sizeLine/\(a==sysModules)=false/\∃vs,KV kvs vs/\h.DictOf (mixKind P w) a vs :=
 show ObjOk P w H h a (.dK kvs) from zbhf ok e
theorem zbjf {kvs:List (Key×V)}(ok:HOk P w H h)(e:H a=some (.dK kvs)):kvs.length<=sizeLine/\(a==sysModules)=false/\∃vs,KV kvs vs/\h.DictOf (mixKind P w) a vs:=zwo ok (.inl e)
theorem zjk {ks:List Key}(ok:HOk P w H h)(e:H a=some (.tup (ks.map kV))):(tupleKind (mixKind P w)).is h ks a:=by
 obtain⟨_,its,r,o,h1,h2,n,h3⟩:=(show ObjOk P w H h a (.tup (ks.map kV)) from ok a _ e)
 exact⟨o,its.toArray,n,h1,h2,h3,by simpa using zko r⟩
theorem zwn {kvs:List (List Key×V)}(ok:HOk P w H h)(e:Rd H a (.dT kvs)):kvs.length<=sizeLine/\(a==sysModules)=false /\
  ∃xs,KT H kvs xs/\h.DictOfH (tupleKind (mixKind P w)) a xs:=by
 obtain⟨z,y,xs,r,o,es,ep,h1,h2,h3,h4,h5⟩:=(show ObjOk P w H h a (.dT kvs) from zbhf ok e)
 refine⟨z,y,xs,r,o,es,ep,h1,h2,h3,h4,fun x hx=>?_,h5⟩;have all:∀{l:List (List Key×V)} {m:List (List Key×Addr×Value)},KT H l m->∀x∈m,(tupleKind (mixKind P w)).is h x.1 x.2.1:=by
  intro l m q
  induction q with
  | nil=>intro x hx;exact nomatch hx
  | @cons p q ps qs hq t ih =>
   intro x hx;rcases xcc.mp hx with e | hx
   ·subst e;exact zjk ok (by rw[← hq.1];exact hq.2.1)
   ·exact ih x hx
 exact all r x hx
theorem zbht {kvs:List (List Key×V)}(ok:HOk P w H h)(e:H a=some (.dT kvs)):kvs.length<=sizeLine/\(a==sysModules)=false /\
 ∃xs,KT H kvs xs/\h.DictOfH (tupleKind (mixKind P w)) a xs:=zwn ok (.inl e)
end
noncomputable def DGet (H:Hp) (a:Addr) (y:V) (r:Option V):Prop :=
 (∃kvs k,Rd H a (.dK kvs)/\y=kV k/\r=valV kvs k)\/∃kvs k b,Rd H a (.dT kvs)/\y=.ref b/\H b=some (.tup (k.map kV))/\r=valV kvs k
noncomputable def DPut (H:Hp) (a:Addr) (y v:V) (H':Hp):Prop :=
 (∃kvs k,H a=some (.dK kvs)/\y=kV k/\kvs.length < sizeLine/\H'=upd H a (.dK (putK kvs k v))) \/
 ∃kvs k b,H a=some (.dT kvs)/\y=.ref b/\H b=some (.tup (k.map kV))/\kvs.length < sizeLine/\H'=upd H a (.dT (putK kvs k v))
theorem DPut.t {H:Hp}{a b:Addr}{kvs:List (List Key×V)}{k:List Key}{v:V}(e:H a=some (.dT kvs))(eb:H b=some (.tup (k.map kV)))(hl:kvs.length < sizeLine) :
 DPut H a (.ref b) v (upd H a (.dT (putK kvs k v))):=.inr ⟨kvs,k,b,e,rfl,eb,hl,rfl⟩
section
variable {X:Cx}{aU:List (Addr×Obj)}{σ:St}{H:Hp}{s:Shared}{a:Addr}{y v:V}{u r:Value}{o:Option V}{A:Around}{E:Value->Shared->Prop}
theorem Inv.big (I:Inv X aU σ H s):sysModules < s.heap.objs.size:=by
 have h:mainGlobals < s.heap.objs.size:=(I.mod.glob.keeps I.bk).lt;exact xhn (by decide) h
theorem zrt {Q:Value->Shared->Prop}(hu:A.units+1 < cLine)(I:Inv X aU σ H s)(g:DGet H a y (some v))(ry:RelV y u)(h:∀w' s',Inv X aU σ H s'->RelV v w'->Q w' s') :
  wpAny (model X.prog X.w) A (getItem (.ref a) u) Q E s:=by
 rcases g with⟨kvs,k,e,ey,l⟩ | ⟨kvs,k,b,e,ey,eb,l⟩
 ·subst ey;obtain⟨z,hd,vs,rel,dd⟩:=zwo I.hok e;obtain⟨w',hw,rw'⟩:=RelO.some_of (v:=v) (o:=valueAt vs k) (by rw[l];exact rel.val k);exact wpAny_getItem_of (zzk ry) dd.mapOf hw (h w' _ (I.tok _) rw')
 ·subst ey;cases(show u=Value.ref b from ry);obtain⟨z,hd,xs,rel,dd⟩:=zwn I.hok e;obtain⟨w',hw,rw'⟩:=RelO.some_of (v:=v) (o:=(atKey xs k).map (·.2)) (by rw[l];exact rel.val k);obtain⟨p,hp,hp2⟩:=xcq.mp hw;refine wpAny_getItem_heap (xhf hu) (zjk I.hok eb) dd hp ?_;rw[hp2];exact h w' _ (I.tok _) rw'
theorem d_in {Q:Value->Shared->Prop}(hu:A.units+1 < cLine)(I:Inv X aU σ H s)(g:DGet H a y o)(ry:RelV y u)(h:∀s',Inv X aU σ H s'->Q (.bool o.isSome) s') :
  wpAny (model X.prog X.w) A (compareOp .In u (.ref a)) Q E s:=by
 rcases g with⟨kvs,k,e,ey,l⟩ | ⟨kvs,k,b,e,ey,eb,l⟩
 ·subst ey;obtain⟨z,hd,vs,rel,dd⟩:=zwo I.hok e;refine wpAny_in_of (zzk ry) hd dd.mapOf ?_;rw[← (rel.val k).isSome_eq,← l];exact h _ (I.tok _)
 ·subst ey;cases(show u=Value.ref b from ry);obtain⟨z,hd,xs,rel,dd⟩:=zwn I.hok e;refine wpAny_in_heap (xhf hu) (zjk I.hok eb) hd dd ?_;have q:=(rel.val k).isSome_eq;rw[Option.isSome_map] at q;rw[← q,← l];exact h _ (I.tok _)
theorem zig {h':Heap}{t':Nat}{ob:HO}(I:Inv X aU σ H s)(mu:Mut (H a))(hs:Heap.SameBut a s.heap h')(he:∃q,h'.get? a=some q)(new:ObjOk X.prog X.w (upd H a ob) h' a ob) :
  Inv X aU σ (upd H a ob) {s with heap:=h',toks:=t'} :=
 I.write (x:=a) (e:=a) mu (.inl rfl) (fun b q hb z=>(hs.2 b hb).trans z) he new
theorem zbfo {P:Program}{w:World}{H':Hp}{h':Heap}{kvs:List (Key×V)}{vs:List (Key×Value)}(z:kvs.length<=sizeLine)(hd:(a==sysModules)=false)(rel:KV kvs vs)(dd:h'.DictOf (mixKind P w) a vs) :
 ObjOk P w H' h' a (.dK kvs):=⟨z,hd,vs,rel,dd⟩
theorem zrr {H':Hp}{Q:Unit->Shared->Prop}(hu:A.units+1 < cLine)(I:Inv X aU σ H s)(g:DPut H a y v H')(ry:RelV y u)(rv:RelV v r)(h:∀s',Inv X aU σ H' s'->Q () s') :
  wpAny (model X.prog X.w) A (setItem (.ref a) u r) Q E s:=by
 rcases g with⟨kvs,k,e,ey,l,eH⟩ | ⟨kvs,k,b,e,ey,eb,l,eH⟩
 ·subst ey eH;obtain⟨z,hd,vs,rel,dd⟩:=zbjf I.hok e;have hz:vs.length<=sizeLine:=by rw[← rel.length];exact z
  have hl:(putK kvs k v).length<=sizeLine:=by have:=zgk kvs k v;lia
  refine wpAny_setItem_pairs (hsz:=hz) (zzk ry) dd fun h' dd' hs=>h _ ?_
  have he:∃q,h'.get? a=some q:=let ⟨q,_,_,hq,_⟩:=dd';⟨q,hq⟩
  exact zig I (by rw[e];exact True.intro) hs he (zbfo hl hd (rel.put k rv) dd')
 ·subst ey eH;cases(show u=Value.ref b from ry);obtain⟨z,hd,xs,rel,dd⟩:=zbht I.hok e;have hz:xs.length<=sizeLine:=by rw[← xey rel];exact z
  have hl:(putK kvs k v).length<=sizeLine:=by have:=zgk kvs k v;lia
  refine wpAny_setItem_heap (hsz:=hz) (xhf hu) (zjk I.hok eb) dd fun h' dd' hs=>h _ ?_
  obtain⟨q,es,ep,hq,h2,h3,h4,_,h5⟩:=dd';refine zig I (by rw[e];exact True.intro) hs ⟨q,hq⟩ ⟨hl,hd,_,(rel.put k eb rv).keeps fun c ys ec=>?_,q,es,ep,hq,h2,h3,h4,h5⟩;rw[zn (zbhm ec e (fun z=>nomatch z))];exact ec
end
section
variable {X:Cx}{aU:List (Addr×Obj)}{σ:St}{H:Hp}{s:Shared}{a:Addr}{kvs:List (Key×V)}{k:Key}{u:Value}{A:Around}{E:Value->Shared->Prop}
end
noncomputable def NoSl (i:Expr):Prop:=∀ov iv,subscripted i false ov iv=operate [ov,iv] (getItem ov iv)
theorem zxe {prog:Program}{w:World}{A:Around}{E:Value->Shared->Prop}{s:Shared}{env:Env}{value slice:Expr}{pos:Pos}{T id:String}{Q:Value->Shared->Prop}
  (hl:typeLookup (.type T) "__getitem__"=pure (some (.builtin id)))(hs:NoSl slice)
  (h:wpAny (model prog w) A (eval value env) (fun o s₁=>wpAny (model prog w) A (eval slice env) (fun i s₂=>s₂.TypeIs o T/\wpAny (model prog w) A (getItem o i) Q E s₂) E s₁) E s) :
  wpAny (model prog w) A (eval (.Subscript value slice pos) env) Q E s:=by
 refine Subscript_ (xep h (fun o s₁ h₁=>xep h₁ (fun i s₂ h₂=>?_) fun _ _ x=>x) fun _ _ x=>x);obtain⟨hT,h₂⟩:=h₂;unfold subscriptTail;refine xba ?_;rw[getitemInPython_of_ne hT.not_modules];refine xba (xii hT hl ?_);have fin:wpAny (model prog w) A (subscripted slice false o i) (fun r s₃=>wpAny (model prog w) A (letTemporaryGo value o r >>= fun _=>pure r) Q E s₃) E s₂:=by
  rw[hs o i];exact wpAny_operating (xep h₂ (fun r s₃ h₃=>xba (wpAny_letTemporaryGo (xbe h₃))) fun _ _ x=>x)
 first
  | exact xbe (xba fin)
  | exact xba (xbe (xba fin))
  | exact xba fin
theorem zmi {X:Cx}{aU:List (Addr×Obj)}{σ:St}{H:Hp}{s:Shared}{a:Addr}{y:V}{o:Option V}(I:Inv X aU σ H s)(g:DGet H a y o):s.TypeIs (.ref a) "dict":=by
 rcases g with⟨kvs,k,e,_,_⟩ | ⟨kvs,k,b,e,_,_,_⟩
 ·obtain⟨_,_,vs,_,dd⟩:=zwo I.hok e;exact dd.typeIs
 ·obtain⟨_,_,xs,_,dd⟩:=zwn I.hok e;exact dd.typeIs
noncomputable def tDGet (td ty:TE):TE:=fun σ H Q=>td σ H fun x H1=>ty σ H1 fun y H2=>∃a v,x=.ref a/\DGet H2 a y (some v)/\Q v H2
noncomputable def tDIn (ty td:TE):TE:=fun σ H Q=>ty σ H fun y H1=>td σ H1 fun x H2=>∃a o,x=.ref a/\DGet H2 a y o/\Q (.bl o.isSome) H2
noncomputable def sDPut (td ty tv:TE):TS:=fun D σ H=>tv σ H fun v H1=>td σ H1 fun x H2=>ty σ H2 fun y H3=>∃a H4,x=.ref a/\DPut H3 a y v H4/\D.nx σ H4
section
variable {X:Cx}{o i e value:Expr}{pos pos' tpos:Pos}{td ty tv:TE}
theorem zyl (hu:X.A.units+1 < cLine)(ho:PE X o td)(hi:PE X i ty)(hs:NoSl i):PE X (.Subscript o i pos) (tDGet td ty):=by
 intro aU s σ H Q I h;refine zxe F.slot_dict_getitem.lookup hs (thn (ho aU s σ H _ I h) fun u s1 ⟨x,H1,I1,rx,q1⟩=>thn (hi aU s1 σ H1 _ I1 q1) fun iv s2 hq0=>?_);obtain⟨y,H2,I2,ry,a,v,ex,g,q2⟩:=hq0;subst ex;obtain rfl:u=Value.ref a:=rx;exact⟨zmi I2 g,zrt hu I2 g ry fun w' s3 I3 rw'=>⟨v,H2,I3,rw',q2⟩⟩
theorem zbdt (hu:X.A.units+1 < cLine)(hi:PE X i ty)(ho:PE X o td):PC X .In i o (tDIn ty td):=by
 intro aU s σ H Q I h;refine thn (hi aU s σ H _ I h) fun iv s1 ⟨y,H1,I1,ry,q1⟩=>thn (ho aU s1 σ H1 _ I1 q1) fun u s2 hq0=>?_
 obtain⟨x,H2,I2,rx,a,ov,ex,g,q2⟩:=hq0;subst ex;obtain rfl:u=Value.ref a:=rx;exact d_in hu I2 g ry fun s3 I3=>⟨.bl ov.isSome,H2,I3,rfl,q2⟩
theorem zxw (hu:X.A.units+1 < cLine)(ho:PE X o td)(hi:PE X i ty)(hv:PE X value tv)(hs:swapsWith value (some (.Subscript o i pos')) pos.line X.env=pure false) :
  PS X (.Assign [.Subscript o i pos'] value pos) (sDPut td ty tv):=by
 intro aU s σ H D I h;refine wpAny_Assign_Subscript (thn (hv aU s σ H _ I h) fun r s1 ⟨v,H1,I1,rv,q1⟩=>thn (ho aU s1 σ H1 _ I1 q1) fun u s2 ⟨x,H2,I2,rx,q2⟩=>thn (hi aU s2 σ H2 _ I2 q2) fun iv s3 hq0=>?_) hs;obtain⟨y,H3,I3,ry,a,H4,ex,g,q3⟩:=hq0;subst ex;obtain rfl:u=Value.ref a:=rx;exact zrr hu I3 g ry rv fun s4 I4=>⟨σ,H4,I4,q3⟩
end
theorem zve {P:Program}{w:World}{H:Hp}(h:Heap)(hb:sysModules < h.objs.size):ObjOk P w H (h.push { cls:=.type "dict", data:=.dict #[] }) h.objs.size (.dT []) :=
 ⟨xed _,xgb.mpr (xez (xcl hb)),[],.nil,_,#[],0,xbz _ rfl,⟨rfl,rfl,rfl⟩,rfl,rfl,xgc⟩
noncomputable def tDNewT:TE:=fun _ H Q=>∀p,H p=none->Q (.ref p) (upd H p (.dT []))
section
variable {X:Cx}{pos:Pos}
theorem zuc:PE X (.Dict [] [] pos) tDNewT:=fun aU s σ H Q I h =>
 wpAny_Dict_empty ⟨.ref s.heap.objs.size,_,I.laid (a:=s.heap.objs.size) (o:=.dT []) (t':=s.toks) (fun _ _ q=>xbj _ q) (xbd _) (zve s.heap I.big),rfl,h _ (I.hok.fresh (xbd _))⟩
end
structure M1 (X:Cx) (o:Expr) (m:Str) (apos:Pos) (e:Expr) (cpos:Pos):Prop where
 base:attributeBase o m X.env (eval o X.env)=eval o X.env
 few:((backTo cpos (starEach [e] X.env)).all (fun x=>!x.1)&&(backToKw cpos (keywordEach [] X.env)).all (fun x=>x.1.isSome)
  && decide (([e]:List Expr).length+([]:List Keyword).length+(if([]:List Keyword).isEmpty then 0 else 1) < 30))=true
 line:(apos.endLine==cpos.line)=true
 trees:backTo cpos (starEach [e] X.env)=[(false,eval e X.env)]
structure M2 (X:Cx) (o:Expr) (m:Str) (apos:Pos) (e f:Expr) (cpos:Pos):Prop where
 base:attributeBase o m X.env (eval o X.env)=eval o X.env
 few:((backTo cpos (starEach [e,f] X.env)).all (fun x=>!x.1)&&(backToKw cpos (keywordEach [] X.env)).all (fun x=>x.1.isSome)
  && decide (([e,f]:List Expr).length+([]:List Keyword).length+(if([]:List Keyword).isEmpty then 0 else 1) < 30))=true
 line:(apos.endLine==cpos.line)=true
 trees:backTo cpos (starEach [e,f] X.env)=[(false,eval e X.env),(false,eval f X.env)]
noncomputable def IsD (H:Hp) (a:Addr):Prop:=(∃kvs,Rd H a (.dK kvs))\/∃kvs,Rd H a (.dT kvs)
theorem zzo {X:Cx}{aU:List (Addr×Obj)}{σ:St}{H:Hp}{s:Shared}{a:Addr}(I:Inv X aU σ H s)(d:IsD H a) :
  s.TypeIs (.ref a) "dict"/\(∀ b, Value.ref a=.ref b->∃ ob, s.heap.get? b=some ob/\ob.dict=none)/\(a==sysModules)=false:=by
 rcases d with⟨kvs,e⟩ | ⟨kvs,e⟩
 ·obtain⟨_,hd,vs,_,dd⟩:=zwo I.hok e;refine⟨dd.typeIs,fun b q=>?_,hd⟩;cases q;obtain⟨ob,_,_,h1,h2,_⟩:=dd;exact⟨ob,h1,h2.2.1⟩
 ·obtain⟨_,hd,xs,_,dd⟩:=zwn I.hok e;refine⟨dd.typeIs,fun b q=>?_,hd⟩;cases q;obtain⟨ob,_,_,h1,h2,_⟩:=dd;exact⟨ob,h1,h2.2.1⟩
section
variable {X:Cx}{aU:List (Addr×Obj)}{σ:St}{H:Hp}{s:Shared}{a:Addr}{y d:V}{u r:Value}{o:Option V}{A:Around}{E:Value->Shared->Prop}
theorem zbfw {Q:Value->Shared->Prop}(hu:A.units+1 < cLine)(I:Inv X aU σ H s)(g:DGet H a y o)(ry:RelV y u)(rd:RelV d r)(h:∀w' s',Inv X aU σ H s'->RelV (o.getD d) w'->Q w' s') :
  wpAny (model X.prog X.w) A (call (.builtin "dict.get") [.ref a, u, r]) Q E s:=by
 rcases g with⟨kvs,k,e,ey,l⟩ | ⟨kvs,k,b,e,ey,eb,l⟩
 ·subst ey;obtain⟨z,hd,vs,rel,dd⟩:=zwo I.hok e;refine call_meetsIn xjq dd.typeIs F.entry_dict_get (F.args_dict_get_3 _ _ _) (meets_dict_get_default (mixKind X.prog X.w) a (zzk ry) hd r) ⟨_,dd.mapOf,h _ _ (I.tok _) ?_⟩;rw[l];exact(rel.val k).getD rd
 ·subst ey;cases(show u=Value.ref b from ry);obtain⟨z,hd,xs,rel,dd⟩:=zwn I.hok e;refine call_meetsIn xjq dd.typeIs F.entry_dict_get (F.args_dict_get_3 _ _ _) (meetsH_dict_get_default (tupleKind (mixKind X.prog X.w)) a b hd r) ⟨xhf hu,k,xs,zjk I.hok eb,dd,h _ _ (I.tok _) ?_⟩;rw[l];exact(rel.val k).getD rd
end
noncomputable def tDGet2 (td ty tx:TE):TE:=fun σ H Q=>td σ H fun x H1=>∃a,x=.ref a/\IsD H1 a/\ty σ H1 fun y H2=>tx σ H2 fun z H3=>∃o,DGet H3 a y o/\Q (o.getD z) H3
section
variable {X:Cx}{o e f:Expr}{apos cpos:Pos}{td ty tx:TE}
theorem zud (hu:X.A.units + 1 < cLine)(ho:PE X o td)(he:PE X e ty)(hf:PE X f tx)(m:M2 X o "get" apos e f cpos):PE X (.Call (.Attribute o "get" apos) [e, f] [] cpos) (tDGet2 td ty tx):=by
 intro aU s σ H Q I h;refine xks m.base m.few m.line xiu xjq F.type_dict_get (thn (ho aU s σ H _ I h) fun u s1 hq0=>?_);obtain⟨x,H1,I1,rx,a,ex,d,q1⟩:=hq0;subst ex;obtain rfl:u=Value.ref a:=rx;obtain⟨t1,t2,_⟩:=zzo I1 d;refine⟨t1,t2,?_⟩;rw[m.trees]
 refine xhg rfl (xht (xha (thn (he aU s1 σ H1 _ I1 q1) fun iv s2 ⟨y,H2,I2,ry,q2⟩ =>
  xha (thn (hf aU s2 σ H2 _ I2 q2) fun fv s3 ⟨z,H3,I3,rz,ov,g,q3⟩=>xiz ?_))))
 exact zbfw hu I3 g ry rz fun w' s4 I4 rw'=>⟨_,H3,I4,rw',q3⟩
end
section
variable {X:Cx}{aU:List (Addr×Obj)}{σ:St}{H:Hp}{s:Shared}{a:Addr}{kvs:List (Key×V)}{A:Around}{E:Value->Shared->Prop}
end
section
variable {X:Cx}{aU:List (Addr×Obj)}{σ:St}{H:Hp}{s:Shared}{a:Addr}{y:V}{u:Value}{A:Around}{E:Value->Shared->Prop}
end
end L2
namespace Att
open PySem PySem.W PySem.Calls PyProof.Rows
theorem zfz {P:Params}{h:Heap}:∀(ns:List Int) (vs:List Value),WellAll P h vs (ns.map WData.int)->IntsAre vs ns:=by
 intro ns
 induction ns with
 | nil =>
  intro vs w;rw[xik] at w;cases w;exact .nil
 | cons n ns ih =>
  intro vs w;rw[xbh] at w;cases w with
  | cons a b =>
   cases a;exact .cons _ _ (ih _ b)
theorem zqc {l:OpenLaw}{n:Nat}(hn:l.most=some n){P:Params}{h:Heap}{args:List WData}{vals:List Value}
  (hpre:l.row.toRowW.claim.pre args=true)(hwl:WellAll P h vals args) :
  ∃ a vs ns, vals=[Value.ref a]/\args=[WData.list (ns.map WData.int)]/\h.get? a=some { cls:=.type "list", data:=.seq vs.toArray }/\IntsAre vs ns/\ns.length<=n:=by
 have hsh:WShape.hasAll [] args [.list .int]=true:=(pre_splitW hpre).1;have hc:l.pre.holds [] {args:=args}=true:=(pre_splitW hpre).2;obtain⟨d,r,rfl,h1,h2⟩:=hasAllW_cons hsh;obtain rfl:=hasAllW_nil h2;obtain⟨xs,rfl,h3⟩:=hasW_list h1;obtain⟨ns,rfl⟩:=items_int h3;have hlen:ns.length<=n:=by
  unfold OpenLaw.pre at hc;have h4:(WTm.not (.lt (.lit (.int (n:Int))) (.len (.arg 0)))).holds [] {args:=[.list (ns.map .int)]}=true:=by
   have h4:=(holds_andW hc).1;rw[hn] at h4;exact h4
  have h5:=condW_of h4 (w_not (w_lt w_lit (w_len_list (w_arg rfl))));rw[xbc] at h5;refine xca fun q=>?_
  have q':(n:Int) < ((ns.length:Nat):Int):=by lia
  first
   | (rw[xcm q'] at h5;exact absurd h5 (by decide))
   | (simp at h5;lia)
 cases hwl with
 | cons w1 w2 =>
  cases w2;cases w1 with
  | list ho hall=>exact⟨_,_,ns,rfl,rfl,ho,zfz ns _ hall,hlen⟩
theorem zqh (l:OpenLaw)(args:List WData):l.row.toRowW.claim.post args (.bool true) args=true :=
 postW_of (r:=l.row.toRowW) (X:=(true==true))
  (show WShape.has [] (.bool true) .bool=true by first | rfl | decide | simp[WShape.has,WShape.arms,WShape.armsAll])
  (show(WTm.eq .res (.lit (.bool true))).value [] {args:=args,res:=some (.bool true),after:=args}=some (.bool (true==true)) from w_eq_bool (w_res rfl) w_lit) rfl
theorem attach_call {l:OpenLaw}{n:Nat}{q:Program}{loose:List Str}{XP:(Str->Option Value)->Heap->Prop}{YP:World->Heap->Prop}{d:DefRec}
  (hn:l.most=some n)(hdf:d.params.defaults=[])
  (call:∀(w:World) (s₀ s₁:Shared) (mg mb:Str->Option Value) (fa:Addr) (o:Obj) (pm cd doc:Value) (a:Addr) (vs:List Value) (ns:List Int),
   Ground q loose [] XP w s₀ mg mb s₁.heap->YP w s₁.heap ->
   s₁.heap.get? fa=some o->o.data=.func (docDef d.name d.params d.body d.scope pm cd doc)->s₁.heap.CodeRec cd d.name->mg d.name=some (.ref fa) ->
   s₁.heap.get? a=some { cls:=.type "list", data:=.seq vs.toArray }->IntsAre vs ns->ns.length<=n->s₁.gens=#[] ->
   codeAny (model l.prog w) callerA (.call (.ref fa) ⟨[.ref a],[]⟩) (fun r s'=>r=.ok (.ret (.bool true))/\OldK s₁.heap s'.heap/\s'.os=s₁.os/\AllBare s'.gens) s₁) :
  WalkO q loose XP YP l.row.toRowW d [] (fun f vs=>PySem.call f vs):=by
 intro w s₀ s₁ mg mb G Y fa o pm cd doc dV kV ho hd hcd hD hmg hg args vals as hpre hlay hrd hwl hlo;obtain rfl:dV=.none:=Dflts.none hD hdf;obtain rfl:kV=.none:=Dflts.noKw hD;obtain⟨a,vs,ns,rfl,rfl,hobj,hints,hlen⟩:=zqc hn hpre hwl;refine enter_call (codeAny_mono (call w s₀ s₁ mg mb fa o pm cd doc a vs ns G Y ho (fd_plain hd) hcd hmg hobj hints hlen hg) fun r s' hq=>?_);obtain⟨rfl,h2,h3,h4⟩:=hq;exact⟨.inl ⟨.bool true,.bool true,[],rfl,fun _=>rfl,.bool true,zqh l _,fun _=>⟨List.Pairwise.nil,fun _ hm=>(nomatch hm)⟩⟩,h2,h3,h4⟩
section
variable {prog:Program}{w:World}{A:Around}{E:Value->Shared->Prop}{s:Shared}{K:Frag}
end
end Att
namespace L2
open PySem PySem.Spec PyProof.Rows
theorem zka:∀{vs:List Value} {ns:List Int},IntsAre vs ns->Vals (ns.map V.int) vs
 | _,_,.nil=>.nil
 | _,_,.cons n t h=>.cons ⟨t,rfl⟩ (zka h)
noncomputable def Only (H:Hp):Prop:=∀b,H b=none\/∃o xs,H b=some (.frz o (.lst xs))
theorem zuq {P:Program}{w:World}{K:Fg}{mg mb:Str->Option Value}{CX:CXT}{k:Nat}{fa a:Addr}{fd:FuncData}{x:Str}{sp:Sp}{s₁:Shared}{vs:List Value}{ns:List Int}
  (KX:K.In s₁.heap)(hns:s₁.heap.Ns mainGlobals mg)(hb:s₁.heap.Ns builtinsNs mb)(hbb:∀ x:Str, x≠"__name__"->mb x=bootBuiltins x)(hlim:s₁.heap.NoLimit)(hg:s₁.gens=#[])
  (ha:s₁.heap.get? a=some { cls:=.type "list", data:=.seq vs.toArray })(hi:IntsAre vs ns)(hl:ns.length<=sizeLine)(hr:Room k callerA)
  (F:∀base:Heap,K.In base->base.Ns mainGlobals mg->FnOk P w K mg base CX k fa fd [x] sp)(hbind:∀(s:Shared) (u:Value),BindsTo s fd ⟨[u],[]⟩ [(x,u)])
  (hsp:∀H:Hp,Only H->SqL K H a (ns.map V.int)->sp [.ref a] H (fun v _=>v=.bl true) fun _ _ _=>False)
  (hCX:∀H e s',CX [] H s₁ (fun _ _ _=>False) e s'->False) :
  codeAny (model P w) callerA (.call (.ref fa) ⟨[.ref a],[]⟩) (fun r s'=>r=.ok (.ret (.bool true))/\OldK s₁.heap s'.heap/\s'.os=s₁.os/\AllBare s'.gens) s₁:=by
 have rv:=zka hi;have lenV:=hi.length;have core:∀H:Hp,Only H->SqL K H a (ns.map V.int)->HOk P w H s₁.heap->(∀b,H b≠none->b=a)->(H a≠none->K.lookup a=none) ->
   codeAny (model P w) callerA (.call (.ref fa) ⟨[.ref a],[]⟩) (fun r s'=>r=.ok (.ret (.bool true))/\OldK s₁.heap s'.heap/\s'.os=s₁.os/\AllBare s'.gens) s₁:=by
  intro H hO hS hok hA hK;have base_of:∀{b:Addr} {o:Obj},s₁.heap.get? b=some o->H b=none->(hidT s₁.heap H).get? b=some o:=fun e n=>zuy e n
  have noA:∀{b:Addr} {o:Obj} {es:Array DictEntry} {ep:Nat},s₁.heap.get? b=some o->o.data=.dict es ep->H b=none:=fun {b o es ep} e d=>by
   cases q:H b with
   | none=>rfl
   | some u =>
    have e':b=a:=hA b (by rw[q];simp);subst e';rw[ha] at e;cases e
    have d':Data.seq vs.toArray _=Data.dict es ep:=d;cases d'
  have nsK:∀{b:Addr} {m:Str->Option Value},s₁.heap.Ns b m->(hidT s₁.heap H).Ns b m:=fun {b m} ⟨o,es,ep,e,d,r⟩=>⟨o,es,ep,base_of e (noA e d),d,r⟩
  have hKb:K.In (hidT s₁.heap H):=fun b o e=>base_of (KX b o e) (by
   cases q:H b with
   | none=>rfl
   | some u =>
    have e':b=a:=hA b (by rw[q];simp);subst e'
    rw[hK (by rw[q];simp)] at e;cases e)
  have hM:Mod K mg (hidT s₁.heap H):=⟨hKb,nsK hns,⟨mb,nsK hb,hbb⟩,let ⟨mc,h1,h2⟩:=hlim;⟨mc,nsK h1,h2⟩⟩
  have e0:Env0 P w K mg (hidT s₁.heap H) callerA [] s₁ H:=⟨rfl,hM,fun b o e=>zyx e,xdc (zrg _ _),trivial,fun b hb=>absurd (show b∈([]:List Addr) from hb) (by simp),hok,.of_eq hg⟩
  refine codeAny_mono ((F _ hKb (nsK hns)).run callerA [] s₁ H ⟨[.ref a],[]⟩ [.ref a] [.ref a] _ _ hr e0 (hbind s₁ (.ref a)) (.cons rfl .nil) (hsp H hO hS)) fun r s' h=>?_
  cases r with
  | error e=>exact(hCX H e s' h).elim
  | ok fl =>
   cases fl with
   | next=>exact False.elim h
   | brk=>exact False.elim h
   | cont=>exact False.elim h
   | ret u =>
    obtain⟨v,H',os,bare,un,hok',r',q⟩:=h;have q':v=.bl true:=q;subst q';obtain rfl:u=Value.bool true:=r';refine⟨rfl,OldK.of_keep fun b o e=>?_,os,bare⟩;cases q:H b with
    | none=>exact un.keep b o e q (by intro z;exact absurd (show b∈([]:List Addr) from z) (by simp)) (by simp)
    | some u =>
     rcases hO b with z | ⟨ob,xs,z⟩
     ·rw[q] at z;cases z
     ·have z2:=un.frzs b ob _ z;obtain⟨e1,_⟩:=hok b _ z;obtain⟨e2,_⟩:=hok' b _ z2;rw[e] at e1;cases e1
      exact e2
 cases hk:K.lookup a with
 | some o =>
  have e:=KX a o hk;rw[ha] at e;cases e;refine core (fun _=>none) (fun _=>.inl rfl) (.inr ⟨_,vs.toArray,_,hk,rfl,rfl,rfl,by rw[xbn,lenV];exact hl,by simpa using rv⟩) (fun b u z=>by have z':(none:Option HO)=some u:=z;cases z') (fun b z=>absurd rfl z) fun z=>absurd rfl z
 | none =>
  refine core (fun b=>if b=a then some (.frz { cls:=.type "list", data:=.seq vs.toArray } (.lst (ns.map V.int))) else none) (fun b=>?_) (.inl (.inr ⟨{ cls:=.type "list", data:=.seq vs.toArray }, if_pos rfl⟩)) (fun b u z=>?_) (fun b z=>?_) fun _=>hk
  ·by_cases hb:b=a
   ·exact .inr ⟨_,_,if_pos hb⟩
   ·exact .inl (if_neg hb)
  ·by_cases hb:b=a
   ·have z':=(if_pos hb).symm.trans z;cases z';subst hb;exact⟨ha,by rw[xbc];exact hl,vs,_,rv,ha⟩
   ·have z':=(if_neg hb).symm.trans z;cases z'
  ·by_cases hb:b=a
   ·exact hb
   ·exact absurd (if_neg hb) z
theorem zwt {l:W.OpenLaw}{n k:Nat}{q:Program}{loose:List Str}{XP:(Str->Option Value)->Heap->Prop}{YP:World->Heap->Prop}{d:DefRec}{K:Params->Fg}{CX:World->CXT}{sp:World->Sp}{x:Str}
  (hn:l.most=some n)(hn2:n<=sizeLine)(hdf:d.params.defaults=[])(hr:Room k callerA)
  (hY:∀(w:World) (h:Heap),YP w h->(K w.params).In h)
  (F:∀(w:World) (mg:Str->Option Value) (fa:Addr) (h:Heap),(K w.params).In h->h.Ns mainGlobals mg->mg d.name=some (.ref fa) ->
   ∃fd:FuncData,(∀(s:Shared) (u:Value),BindsTo s fd ⟨[u],[]⟩ [(x,u)]) /\
    ∀base:Heap,(K w.params).In base->base.Ns mainGlobals mg->FnOk l.prog w (K w.params) mg base (CX w) k fa fd [x] (sp w))
  (hsp:∀(w:World) (H:Hp) (a:Addr) (ns:List Int),ns.length<=n->Only H->SqL (K w.params) H a (ns.map V.int)->sp w [.ref a] H (fun v _=>v=.bl true) fun _ _ _=>False)
  (hCX:∀(w:World) (H:Hp) (s:Shared) (e:Value) (s':Shared),CX w [] H s (fun _ _ _=>False) e s'->False) :
  W.WalkO q loose XP YP l.row.toRowW d [] (fun f vs=>PySem.call f vs):=by
 refine Att.attach_call hn hdf fun w s₀ s₁ mg mb fa o pm cd doc a vs ns G Y ho hd hcd hmg hobj hints hlen hg=>?_
 have KX:=hY w _ Y;obtain⟨fd,hb,hF⟩:=F w mg fa _ KX G.T.g hmg;exact zuq KX G.T.g G.T.b G.T.builtins G.T.nolimit hg hobj hints (xbb hlen hn2) hr hF hb (fun H hO hS=>hsp w H a ns hlen hO hS) fun H e s'=>hCX w H s₁ e s'
end L2
/- THE LAST THEOREM (shape;LID,My.* are yours):
 My.Adr: a structure of the addresses that your layer names (classes,functions);My.Txt K t: a structure (Prop) of the equations over K;
 My.txt_mk:{K} {implicit addresses ..} (e1:nsIn K mainGlobals "law"=some (some (.ref f))) (e2:K.lookup f=some ⟨oc, od, .func (fnOf "law" "law" params body scope dV kV doc pm an cdv ct), sl⟩) (e3:codeIn K cdv "law"=true) ..:∃ t, My.Txt K t
(the tactic k_is has no namespace: write k_is) -/
namespace L2
open PySem PySem.Spec PyProof.Rows
noncomputable def defArgs (s:Stmt):Arguments:=match s with
 | .FunctionDef _ a _ _ _ _ _ _ _ _=>a
 | _=>{posonlyargs:=[],args:=[],vararg:=none,kwonlyargs:=[],kw_defaults:=[],kwarg:=none,defaults:=[]}
noncomputable def defBody (s:Stmt):List Stmt:=match s with
 | .FunctionDef _ _ b _ _ _ _ _ _ _=>b
 | _=>[]
noncomputable def defScope (s:Stmt):Scope:=match s with
 | .FunctionDef _ _ _ _ _ _ sc _ _ _=>sc
 | _=>{kind:=.function,names:=[],isGenerator:=false,isCoroutine:=false}
noncomputable abbrev CX0:CXT:=fun _ _ _ _ _ _=>False
noncomputable abbrev E0:XK:=fun _ _ _=>False
theorem pass0 {X:Cx}:Passes CX0 X E0:=fun _ _ _ _ _ _ _ h=>h.elim
structure Fun (K:Fg) (x qual:Str) (st:Stmt) (f:Addr) (fd:FuncData):Prop where
 ex:∃(oc:Value) (od:Option Addr) (kV doc pm:Value) (an:Option Addr) (cdv ct:Value) (osl:Array (Option Value)),
  fd=W.fnOf x qual (defArgs st) (defBody st) (defScope st) .none kV doc pm an cdv ct/\K.lookup f=some ⟨oc,od,.func fd,osl⟩/\W.codeIn K cdv qual=true
 kp:W.keepIn K (.ref f)=true
section
variable {P:Program}{w:World}{K:Fg}{mg:Str->Option Value}{base:Heap}
theorem Fun.ok {x qual:Str}{st:Stmt}{f:Addr}{fd:FuncData}{N ps:List Str}{k:Nat}{sp:Sp}(F:Fun K x qual st f fd)(S:FnScope N ps (defScope st))(len:∀vs H Q E,sp vs H Q E->vs.length=ps.length)
  (hbody:∀(cdv:Value) (A:Around) (outer:List Env) (s:Shared) (H:Hp) (vs:List V) (Q:VK) (E:XK),Room k (A.deeper (envOfC qual (defScope st) s.heap.objs.size f cdv))->sp vs H Q E ->
   ∃t,PSs (cxOf CX0 P w K mg base N qual (defScope st) f cdv A outer s H E).nox (defBody st) t/\t {nx:=fun _ H'=>Q .non H',rt:=Q} (start N vs) H):FnOk P w K mg base CX0 (k+1) f fd ps sp:=by
 obtain⟨oc,od,kV,doc,pm,an,cdv,ct,osl,rfl,lk,hcd⟩:=F.ex;refine zbix lk hcd S len fun A outer s H vs Q E hr hsp=>?_
 obtain⟨t,h,q⟩:=hbody cdv A outer s H vs Q E hr hsp;exact⟨t,h.nox,q⟩
theorem Fun.binds {x qual:Str}{st:Stmt}{f:Addr}{fd:FuncData}{ps:List Str}(F:Fun K x qual st f fd)
  (h:∀(kV doc pm:Value) (an:Option Addr) (cdv ct:Value) (us:List Value),us.length=ps.length->bindArgs (W.fnOf x qual (defArgs st) (defBody st) (defScope st) .none kV doc pm an cdv ct) ⟨us,[]⟩=pure (ps.zip us)):Binds K fd ps []:=by
 obtain⟨oc,od,kV,doc,pm,an,cdv,ct,osl,rfl,lk,hcd⟩:=F.ex;exact .all (h kV doc pm an cdv ct)
theorem zbex {x qual:Str}{st:Stmt}{f:Addr}{oc:Value}{od an:Option Addr}{osl:Array (Option Value)}{kV doc pm cdv ct:Value}(l:K.lookup f=some ⟨oc,od,.func (W.fnOf x qual (defArgs st) (defBody st) (defScope st) .none kV doc pm an cdv ct),osl⟩)
 (c:W.codeIn K cdv qual=true)(k:W.keepIn K (.ref f)=true):Fun K x qual st f (W.fnOf x qual (defArgs st) (defBody st) (defScope st) .none kV doc pm an cdv ct):=⟨⟨oc,od,kV,doc,pm,an,cdv,ct,osl,rfl,l,c⟩,k⟩
end
theorem zwm {A:Around}{k:Nat}(hr:Room k A):A.units+1 < cLine:=xcv (xch (by decide:1<=64) _) hr.units
section
variable {X:Cx}
theorem pv (i:Nat){x:Str}{pos:Pos}(hN:X.N[i]?=some x:=by rfl)(hv:Vis X.env.scope x:=by first | exact Or.inl rfl | exact Or.inr (Or.inl rfl) | exact Or.inr (Or.inr rfl))(hd:(x==("__debug__" : Str))=false:=by decide)
 (hcd:(x==("__classdict__" : Str))=false:=by decide):PE X (.Name x pos) (tVar i):=zbdl hN hv hd hcd
end
theorem iteF {A B:Prop}(h:B):if false=true then A else B:=by
 rw[if_neg xem];exact h
theorem iteT {A B:Prop}(h:A):if true=true then A else B:=by
 rw[if_pos rfl];exact h
section
variable {X:Cx}
end
section
variable {κ:Type}[DecidableEq κ]
end
section
variable {P:Program}{w:World}{B:Around}{R:Result->Shared->Prop}{sh:Shared}
noncomputable abbrev NoX:Value->Shared->Prop:=fun _ _=>False
noncomputable abbrev testsOf (cs:List Expr) (ev:Env):Sem Bool :=
 forIn cs true fun d b=>if b=true then do let z ← isTrue d ev (eval d ev);pure (ForInStep.yield z) else pure (ForInStep.yield b)
noncomputable def CompStep (P:Program) (w:World) (B:Around) (tg x:Expr) (cs:List Expr) (ev:Env) (i l:Value) (K:Shared->Prop) (v:Value) (sa:Shared):Prop :=
 wpAny (model P w) B (letOwnedTupleGo tg i v) (fun _ sb=>wpAny (model P w) B (assign tg ev v) (fun _ sc=>wpAny (model P w) B (testsOf cs ev) (fun ok sd =>
  if ok=true then wpAny (model P w) B (eval x ev) (fun y se=>wpAny (model P w) B (call (.builtin "list.append") [l, y]) (fun _ sf=>K sf) NoX se) NoX sd else K sd) NoX sc) NoX sb) NoX sa
theorem zrx {tg it x:Expr}{cs:List Expr}{sc:Scope}{ps:Pos}{i l:Value}{ev:Env}(J:Nat->Shared->Prop)
  (go:∀k sk,J k sk->wpAny (model P w) B (pyNext i) (fun o sa=>match o with
   | none=>R (.ok .next) sa
   | some v=>CompStep P w B tg x cs ev i l (fun sf=>∃k',k' < k/\J k' sf) v sa) NoX sk)
  (k:Nat)(hJ:J k sh):codeAny (model P w) B (.compLoop (.ListComp x [⟨tg,it,cs,0⟩] sc ps) 0 i l ev) R sh:=by
 have none_:∀{E:Value->Shared->Prop} (e:Value) (z:Shared),NoX e z->E e z:=fun _ _ z=>z.elim
 refine codeAny_loop rfl J (fun k sk hk=>wpAny_noted (by
  rw[compTurn_list];refine xba (wpAny_standAt (xba (xep (go k sk hk) (fun o sa ho=>?_) none_)))
  match o,ho with
  | none,ho=>exact xbe ho
  | some v,ho =>
   refine xba (xep ho (fun _ sb hb=>xba (xep hb (fun _ sc' hc=>xba (xep hc (fun ok sd hd=>?_) none_)) none_)) none_)
   match ok,hd with
   | false,hd=>exact xbe (And.intro rfl hd)
   | true,hd=>exact xba (xba (xep hd (fun y se he=>xba (xep he (fun _ sf hf=>xbe (xbe (And.intro rfl hf))) none_)) none_)))) k hJ
end
theorem zjs {env:Env}:∀(names:List (Str×NameKind)) (acc:List (Str×Addr)),(∀y∈names,y.2=.free->∃c,env.cells.lookup y.1=some c)->(∀x c,acc.lookup x=some c->env.cells.lookup x=some c) ->
  ∃cl:List (Str×Addr),(forIn names acc (fun x r=>if(x.2==NameKind.free)=true then do let a ← cellOf env x.1;pure (ForInStep.yield ((x.1,a)::r)) else pure (ForInStep.yield r)):Sem (List (Str×Addr)))=pure cl /\
   (∀x c,cl.lookup x=some c->env.cells.lookup x=some c)/\(∀x c,acc.lookup x=some c->∃c',cl.lookup x=some c')/\∀x,(x,NameKind.free)∈names->∃c,cl.lookup x=some c:=by
 intro names
 induction names with
 | nil=>intro acc _ ha;exact⟨acc,rfl,ha,fun x c e=>⟨c,e⟩,fun x z=>(nomatch z)⟩
 | cons y r ih =>
  intro acc hf ha;obtain⟨n,k⟩:=y;by_cases hk:k=.free
  ·subst hk;obtain⟨c,hc⟩:=hf (n,.free) xbp rfl
   obtain⟨cl,e,h1,h2,h3⟩:=ih ((n,c)::acc) (fun y hy=>hf y (xbl _ hy)) (fun x c' e=>by
    rw[xew] at e;by_cases hx:x=n
    ·subst hx;rw[xgt] at e;cases e;exact hc
    ·rw[xgb.mpr hx] at e
     exact ha x c' e)
   refine⟨cl,?_,h1,fun x c' e'=>?_,fun x hx=>?_⟩
   ·rw[List.forIn_cons];simp only[xgt,ite_true];have q:cellOf env n=pure c:=by unfold cellOf;rw[hc]
    rw[q];simp only[pure_bind];exact e
   ·by_cases hx:x=n
    ·subst hx;exact h2 x c (by rw[xew,xgt])
    ·exact h2 x c' (by rw[xew,xgb.mpr hx];exact e')
   ·rcases xcc.mp hx with z | z
    ·cases z;exact h2 n c (by rw[xew,xgt])
    ·exact h3 x z
  ·obtain⟨cl,e,h1,h2,h3⟩:=ih acc (fun y hy=>hf y (xbl _ hy)) ha;refine⟨cl,?_,h1,h2,fun x hx=>?_⟩
   ·rw[List.forIn_cons];have hb:(k==NameKind.free)=false:=by simpa using hk
    simp only[hb,xck,xdo,pure_bind];exact e
   ·rcases xcc.mp hx with z | z
    ·cases z;exact absurd rfl hk
    ·exact h3 x z
theorem zow {scope:Scope}{env:Env}(h:∀y∈scope.names,y.2=.free->∃c,env.cells.lookup y.1=some c) :
  ∃cl,closureFor scope env=pure cl/\(∀x c,cl.lookup x=some c->env.cells.lookup x=some c)/\∀x,(x,NameKind.free)∈scope.names->∃c,cl.lookup x=some c:=by
 obtain⟨cl,e,h1,_,h3⟩:=zjs (env:=env) scope.names [] h (fun x c e=>(nomatch e));refine⟨cl,?_,h1,h3⟩;unfold closureFor;have e':=congrArg (fun m=>m >>= fun r=>(pure r:Sem (List (Str×Addr)))) e;simp only[pure_bind] at e';exact e'
theorem zx {env:Env}:∀{names:List (Str×NameKind)} {x:Str} {k:NameKind},(names.map fun(n,k)=>if(k==NameKind.free&&env.scope.kind==.function&&env.kindOf n==some .cell) then(n,NameKind.cell) else(n,k)).lookup x=some k ->
  names.lookup x=some k\/(k=.cell/\names.lookup x=some .free)
 | [],_,_,h=>by simp at h
 | (n,k')::r,x,k,h=>by
  have ih:=@zx env r x k;have h':List.lookup x ((if(k'==NameKind.free&&env.scope.kind==.function&&env.kindOf n==some .cell)=true then(n,NameKind.cell) else(n,k'))::_)=_:=h;cases hx:x==n with
  | true =>
   by_cases hc:(k'==NameKind.free&&env.scope.kind==.function&&env.kindOf n==some .cell)=true
   ·rw[if_pos hc] at h';simp only[xew,hx] at h' ⊢;cases h';rw[xdt,xdt] at hc;exact .inr ⟨rfl,by rw[eq_of_beq hc.1.1]⟩
   ·rw[if_neg hc] at h';simp only[xew,hx] at h' ⊢;exact .inl h'
  | false =>
   have h2:(r.map fun(n,k)=>if(k==NameKind.free&&env.scope.kind==.function&&env.kindOf n==some .cell) then(n,NameKind.cell) else(n,k)).lookup x=some k:=by
    by_cases hc:(k'==NameKind.free&&env.scope.kind==.function&&env.kindOf n==some .cell)=true
    ·rw[if_pos hc] at h';simp only[xew,hx] at h';exact h'
    ·rw[if_neg hc] at h';simp only[xew,hx] at h';exact h'
   simp only[xew,hx];exact ih h2
noncomputable def cxC (X:Cx) (N:List Str) (scope:Scope) (cl:List (Str×Addr)) (C:Addr) (fp:List Addr) (s:Shared) (H:Hp):Cx :=
 {X with N:=N,s₀:=s,H₀:=H,env:=compEnvC scope cl C X.env,outer:=X.stack,ex:=fp,fn:=fun _=>false,pn:=[],xe:=fun _ _=>False}
noncomputable def startC (k:Nat) (is:List Nat) (σ:St):St:=List.replicate k none++is.map fun i=>(σ[i]?).getD none
structure CompScope (X:Cx) (N:List Str) (k:Nat) (is:List Nat) (scope:Scope):Prop where
 kind:scope.kind=.function
 nocell:∀y∈scope.names,y.2≠.cell
 names:∀y∈scope.names,y.2=.local->scope.names.lookup y.1=some .local
 frees:∀y∈scope.names,y.2=.free->X.env.kindOf y.1=some .cell\/X.env.kindOf y.1=some .free
 len:N.length=k+is.length
 own:∀j i,is[j]?=some i->∃x,N[k+j]?=some x/\X.N[i]?=some x/\scope.names.lookup x=some .free
theorem zea {x:Str}{k:NameKind}{l:List (Str×NameKind)}(h:l.lookup x=some k):(x,k)∈l:=xfy h
section
variable {X:Cx}{aU:List (Addr×Obj)}{σ:St}{H:Hp}{s:Shared}
theorem zuv {N:List Str}{k:Nat}{is:List Nat}{scope:Scope}{cl:List (Str×Addr)}{fp:List Addr}{h1:Heap}{tk:Nat}(S:CompScope X N k is scope)(I:Inv X aU σ H s)
  (c1:∀x c,cl.lookup x=some c->X.env.cells.lookup x=some c)(c2:∀x,(x,NameKind.free)∈scope.names->∃c,cl.lookup x=some c)
  (hf:∀b∈fp,FpOk X aU H b)(hfo:∀b∈fp,∃o,s.heap.get? b=some o)(hn:h1.Ns s.heap.objs.size (fun _=>none))(hk:∀b o,s.heap.get? b=some o->h1.get? b=some o) :
  Inv (cxC X N scope cl s.heap.objs.size fp s H) [] (startC k is σ) H {s with heap:=h1,toks:=tk}:=by
 have hC:∀b o,s.heap.get? b=some o->b≠s.heap.objs.size:=fun b o e=>xcl (xbs e)
 have nfs:∀b∈fp,b∉frs X.stack:=fun b hb z=>by
  rcases xcc.mp (I.stkSub b z) with e | e
  ·exact(hf b hb).2.1 e
  ·exact(hf b hb).2.2.1 e
 refine⟨⟨I.ok.mod,S.kind,I.ok.glob,I.ok.blt,xbd _,fun x y c e1 e2=>I.ok.inj x y c (c1 x c e1) (c1 y c e2),fun x hx=>?_,fun x c z=>?_,I.ok.hd,I.ok.frames,.inl rfl,fun b hb=>⟨?_,fun x c e=>?_⟩,I.bs,xbb I.ok.bsz I.sz,fun b o e hb=>?_,nfs,I.stack,I.stkFree⟩,
  rfl,I.bare,Un.kept hk,⟨_,hn,fun i x v e1 e2 e3=>?_⟩,fun x c e=>?_,I.hok.fresh (xbd _),fun x c e=>I.freeC x c (c1 x c e),fun p hp=>(nomatch hp),I.hok.kept hk,?_,I.hnd⟩
 ·have hx':(scope.names.map fun(n,k)=>if(k==NameKind.free&&X.env.scope.kind==.function&&X.env.kindOf n==some .cell) then(n,NameKind.cell) else(n,k)).lookup x=some .cell\/(scope.names.map fun(n,k)=>if(k==NameKind.free&&X.env.scope.kind==.function&&X.env.kindOf n==some .cell) then(n,NameKind.cell) else(n,k)).lookup x=some .free:=hx;have q:scope.names.lookup x=some .free:=by
   rcases hx' with z | z
   ·rcases zx z with q | ⟨_,q⟩
    ·exact absurd rfl (S.nocell _ (zea q))
    ·exact q
   ·rcases zx z with q | ⟨q,_⟩
    ·exact q
    ·cases q
  exact c2 x (zea q)
 ·cases z
 ·obtain⟨o,e⟩:=hfo b hb;exact hC b o e
 ·exact(hf b hb).2.2.2.2.1 x c (c1 x c e)
 ·rcases(hf b hb).2.2.2.1 with z | z
  ·exact I.ok.noex b o e z
  ·exact absurd (xbg (xbs (I.ok.bs b o e).1) z) (xgl _)
 ·-- a name of the def around
  unfold startC at e2;have hi:k<=i:=by
   rcases xho i k with z | z
   ·rw[xcs (by rw[xgh];exact z),List.getElem?_replicate,if_pos z] at e2;cases e2
   ·exact z
  rw[xdf (by rw[xgh];exact hi),xgh,xcb] at e2;cases ej:is[i - k]? with
  | none=>rw[ej] at e2;cases e2
  | some j =>
   rw[ej] at e2;have e2':(σ[j]?).getD none=some v:=xcd e2;obtain⟨y,y1,y2,y3⟩:=S.own (i - k) j ej;have ey:y=x:=by
    have z:N[i]?=some y:=by rw[← y1];congr 1;lia
    have e1':N[i]?=some x:=e1;rw[z] at e1';exact xcd e1'
   subst ey;have e4:σ[j]?=some (some v):=by
    cases q:σ[j]? with
    | none=>rw[q] at e2';cases e2'
    | some o=>rw[q] at e2';exact congrArg some e2'
   have kd:=S.frees _ (zea y3) rfl;have vis:Vis X.env.scope y:=.inr kd;obtain⟨m,_,hl⟩:=I.loc;obtain⟨u,r,lk⟩:=hl j y v y2 e4 vis;refine⟨u,r,?_⟩;rcases lk with⟨z,_⟩ | ⟨_,c,e5,cc⟩
   ·rcases kd with q | q<;>(rw[q] at z;cases z)
   ·obtain⟨c',e6⟩:=c2 y (zea y3);have:c'=c:=by
     have z:=c1 y c' e6;rw[e5] at z;exact(xcd z).symm
    subst this;refine .inr ⟨?_,c',e6,?_⟩
    ·rcases e3 with z | z | z
     ·exact absurd (zx z) (by
       rw[y3];rintro(q | ⟨q,_⟩)
       ·cases q
       ·cases q)
     ·exact .inl z
     ·exact .inr z
    ·obtain⟨o,ho,hd⟩:=cc;exact⟨o,hk _ o ho,hd⟩
 ·obtain⟨v,o,ho,hd⟩:=I.cell x c (c1 x c e);exact⟨v,o,hk _ o ho,hd⟩
 ·unfold startC;rw[xbo,xgh,xbc];exact S.len.symm
theorem zuw {N:List Str}{scope:Scope}{cl:List (Str×Addr)}{fp:List Addr}{σ':St}{H':Hp}{s':Shared}{h':Heap}(I:Inv X aU σ H s)(hf:∀b∈fp,FpOk X aU H b)(J:Inv (cxC X N scope cl s.heap.objs.size fp s H) [] σ' H' s')
  (hs:Heap.SameBut s.heap.objs.size s'.heap h'):Inv X aU σ H' {s' with heap:=h'}:=by
 have hC:∀b o,s.heap.get? b=some o->b≠s.heap.objs.size:=fun b o e=>xcl (xbs e)
 have hH:H' s.heap.objs.size=none:=J.free;have B:Un (frs X.stack) fp H H' s.heap s'.heap:=J.base
 have U:Un (frs X.stack) fp H H' s.heap h':=⟨fun b o e n h1 h2=>hs.extBut b o (hC b o e) (B.keep b o e n h1 h2),fun b o e n h1 h2=>by
   obtain⟨sl,q⟩:=B.slot b o e n h1 h2;exact⟨sl,hs.extBut b _ (hC b o e) q⟩,B.free,fun b o e hx=>by
   obtain⟨o',q⟩:=B.there b o e hx
   exact⟨o',hs.extBut b o' (hC b o e) q⟩,B.tups,B.frzs,B.tbls⟩
 refine I.call' (s':={s' with heap:=h'}) J.os U (fun a o e=>?_) J.bare (fun b hb=>⟨(hf b hb).2.2.2.1,(hf b hb).2.1,(hf b hb).2.2.2.2.1,(hf b hb).2.2.2.2.2⟩);refine(J.hok a o e).stay (fun b u hb q=>hs.extBut b u ?_ q) (fun _ q=>q) fun _ _ q=>q
 rcases hb with z | z
 ·intro y;rw[z] at y;rw[y,hH] at e;cases e
 ·intro y;rw[y,hH] at z;cases z
end
structure OffC (X:Cx) (aU:List (Addr×Obj)) (H:Hp) (C:Addr):Prop where
 free:H C=none
 loc:C≠X.env.locals
 young:X.s₀.heap.objs.size<=C
 cell:∀x c,X.env.cells.lookup x=some c->c≠C
 pin:∀p∈X.pn++aU,p.1≠C
theorem OffC.back {X:Cx}{aU:List (Addr×Obj)}{σ:St}{H:Hp}{C:Addr}{s:Shared}{h':Heap}(o:OffC X aU H C)(I:Inv X aU σ H s)(hs:Heap.SameBut C s.heap h'):Inv X aU σ H {s with heap:=h'} :=
 I.turned (t':=s.toks) (fun b u hb e=>hs.extBut b u hb e) o.free o.loc (.inr o.young) o.cell o.pin
noncomputable def nxC (p:Addr) (te:TE) (tc:TT) (N:St->Hp->Prop):St->Hp->Prop:=fun σ2 H3=>tc σ2 H3 fun b H4 =>
 if b=true then te σ2 H4 fun y H5=>∃xs,H5 p=some (.lst xs)/\xs.length < sizeLine/\N σ2 (upd H5 p (.lst (xs++[y]))) else N σ2 H4
noncomputable def CompG (J:It) (g:TG) (tc:TT) (te:TE) (Q:VK) (p:Addr) (σ:St) (H:Hp):Prop:=∃W:Nat->Nat->St->Hp->Prop,(∃m,W 0 m σ H) /\
 ∀i m σ' H',W i m σ' H'->(J.stop i H'/\Q (.ref p) H')\/(J.go i H'/\∃N:St->Hp->Prop,(∀σ2 H2,N σ2 H2->∃m',m' < m/\W (i+1) m' σ2 H2)/\∀x H2,J.yld i H' x H2->g x σ' H2 (nxC p te tc N))
noncomputable def tComp (wi:TI) (k:Nat) (is:List Nat) (g:TG) (tc:TT) (te:TE):TE:=fun σ H Q=>wi σ H fun J H1=>∀p,H1 p=none->CompG J g tc te Q p (startC k is σ) (upd H1 p (.lst []))
noncomputable def tYes:TT:=fun _ H Q=>Q true H
section
variable {X:Cx}{tg iter elt:Expr}{ifs:List Expr}{wi:TI}{g:TG}{tc:TT}{te:TE}{N:List Str}{k:Nat}{is:List Nat}{scope:Scope}{pos:Pos}
noncomputable def PIf (X:Cx) (ifs:List Expr) (t:TT):Prop :=
 ∀(aU:List (Addr×Obj)) (s:Shared) (σ:St) (H:Hp) (Q:Bool->Hp->Prop),Inv X aU σ H s->t σ H Q ->
  wpAny (model X.prog X.w) X.A (forIn ifs true fun c r=>if r=true then do let ok ← isTrue c X.env (eval c X.env);pure (ForInStep.yield ok) else pure (ForInStep.yield r)) (TP X aU σ Q) X.xe s
theorem zye:PIf X [] tYes:=fun aU s σ H Q I h=>wpAny_tests_nil ⟨H,I,h⟩
theorem zyd {c:Expr}{t:TT}(h:PT X c t):PIf X [c] t:=fun aU s σ H Q I hq=>wpAny_tests_one (h aU s σ H Q I hq)
theorem zou (hcalm:X.calm=true)(hg:∀cl C fp s H,PG (cxC X N scope cl C fp s H) tg g)(hc:∀cl C fp s H,PIf (cxC X N scope cl C fp s H) ifs tc)(he:∀cl C fp s H,PE (cxC X N scope cl C fp s H) elt te)
  (S:CompScope X N k is scope){aU:List (Addr×Obj)}{σ:St}{H2:Hp}{s2:Shared}{cl:List (Str×Addr)}{it:Addr}{fp:List Addr}{tn:Nat->Heap->Prop}{J:It}{Q:VK}{E:Value->Shared->Prop}{RR:Value->Addr->Result->Shared->Prop}
  (I2:Inv X aU σ H2 s2)(T:Turn X.prog X.w X.K tg J fp it tn)(st2:tn 0 s2.heap)(f2:∀b∈fp,FpOk X aU H2 b)
  (c1:∀x c,cl.lookup x=some c->X.env.cells.lookup x=some c)(c2:∀x,(x,NameKind.free)∈scope.names->∃c,cl.lookup x=some c)
  (h:∀p,H2 p=none->∃W:Nat->Nat->St->Hp->Prop,(∃m,W 0 m (startC k is σ) (upd H2 p (.lst []))) /\
   ∀i m σ' H',W i m σ' H'->(J.stop i H'/\Q (.ref p) H')\/(J.go i H'/\∃N:St->Hp->Prop,(∀σ2 H2,N σ2 H2->∃m',m' < m/\W (i+1) m' σ2 H2)/\∀x H2,J.yld i H' x H2->g x σ' H2 (nxC p te tc N)))
  (hR:∀(p C:Addr) (s':Shared) (H':Hp) (m:Str->Option Value),OffC X aU H' C->s'.heap.Ns C m->Inv X aU σ H' s'->Q (.ref p) H'->RR (.ref p) C (.ok .next) s') :
  wpAny (model X.prog X.w) X.A (newList []) (fun acc s₃=>wpAny (model X.prog X.w) X.A (newFunctionEnv scope X.env.globals cl [] X.env.qual none .none (some X.env)) (fun cenv s₄ =>
   codeAny (model X.prog X.w) X.A (.compStart (.ListComp elt [⟨tg,iter,ifs,0⟩] scope pos) 0 (.ref it) acc {cenv with scope:=relabel scope X.env}) (RR acc cenv.locals) s₄) E s₃) E s2:=by
 refine xdq ?_;have fresh:H2 s2.heap.objs.size=none:=I2.fresh;have I3:Inv X aU σ (upd H2 s2.heap.objs.size (.lst [])) { s2 with heap:=s2.heap.push { cls:=.type "list", dict:=none, data:=.seq ([]:List Value).toArray } }:=I2.lnew (t':=s2.toks) (.nil) (by decide)
 generalize hs3:({ s2 with heap:=s2.heap.push { cls:=.type "list", dict:=none, data:=.seq ([]:List Value).toArray } }:Shared)=s3 at I3
 have k3:∀b o,s2.heap.get? b=some o->s3.heap.get? b=some o:=fun b o e=>by rw[← hs3];exact xbj _ e
 refine wpAny_newFunctionEnv S.nocell (by intro y hy;simp at hy) (fun h₁ hns₁ hsb₁=>?_) S.kind;have st3:tn 0 s3.heap:=T.keep _ _ _ st2 fun b _ o e=>k3 b o e
 have f3:∀b∈fp,FpOk X aU (upd H2 s2.heap.objs.size (.lst [])) b:=fun b hb=>by
  obtain⟨o,e,_⟩:=T.obj _ _ st2 b hb;exact⟨by rw[zn (xcl (xbs e))];exact(f2 b hb).1,(f2 b hb).2⟩
 have k4:∀b o,s3.heap.get? b=some o->h₁.get? b=some o:=fun b o e=>hsb₁.extBut b o (xcl (xbs e)) (xbj _ e)
 have J4:=zuv (tk:=s3.toks+([]:List (Str×Value)).length) S I3 c1 c2 f3 (fun b hb=>let ⟨o,e,_⟩:=T.obj _ _ st3 b hb;⟨o,e⟩) hns₁ k4;obtain⟨W,⟨m0,w0⟩,turn⟩:=h s2.heap.objs.size fresh;have st4:tn 0 h₁:=T.keep _ _ _ st3 fun b _ o e=>k4 b o e
 have loop:codeAny (model X.prog X.w) X.A (.compLoop (.ListComp elt [⟨tg,iter,ifs,0⟩] scope pos) 0 (.ref it) (.ref s2.heap.objs.size) (compEnvC scope cl s3.heap.objs.size X.env)) (RR (.ref s2.heap.objs.size) s3.heap.objs.size) {s3 with heap:=h₁,toks:=s3.toks+([]:List (Str×Value)).length}:=by
  have stat:∀{H':Hp},(∀b∈fp,H' b=none)->∀b∈fp,FpOk (cxC X N scope cl s3.heap.objs.size fp s3 (upd H2 s2.heap.objs.size (.lst []))) [] H' b:=fun {H'} hn b hb=>by
   obtain⟨o,e,_⟩:=T.obj _ _ st3 b hb;refine⟨hn b hb,xcl (xbs e),J4.ok.exfs b hb,.inl hb,fun x c e'=>(f3 b hb).2.2.2.2.1 x c (c1 x c e'),fun p hp=>(nomatch hp)⟩
  refine zrx (fun n s'=>∃i σ' H',Inv (cxC X N scope cl s3.heap.objs.size fp s3 (upd H2 s2.heap.objs.size (.lst []))) [] σ' H' s'/\tn i s'.heap/\(∀b∈fp,H' b=none)/\W i n σ' H') ?_ m0
   ⟨0,_,_,J4,st4,fun b hb=>(f3 b hb).1,w0⟩
  rintro n s5 ⟨i,σ5,H5,I5,st5,fr5,w5⟩;rcases turn i n σ5 H5 w5 with⟨stop,q⟩ | ⟨go,N',hN',step⟩
  ·refine thn (T.done (cxC X N scope cl s3.heap.objs.size fp s3 (upd H2 s2.heap.objs.size (.lst []))) rfl rfl rfl hcalm i [] s5 σ5 H5 _ I5 (stat fr5) st5 stop) fun r s6 hq0=>?_
   obtain⟨hr,I6⟩:=hq0;subst hr;obtain⟨m,hm,_⟩:=I6.loc;refine hR _ _ s6 H5 m ⟨I6.free,xjt I3.lt,I3.sz,fun x c e=>?_,fun p hp=>xcl (xbs (I3.pin p hp).1)⟩ hm (zuw (h':=s6.heap) I3 f3 I6 (.refl ..)) q;obtain⟨v,o,ho,_⟩:=I3.cell x c e;exact xcl (xbs ho)
  ·refine thn (T.item (cxC X N scope cl s3.heap.objs.size fp s3 (upd H2 s2.heap.objs.size (.lst []))) rfl rfl rfl hcalm i [] s5 σ5 H5 _ I5 (stat fr5) st5 go) fun r s6 hq0=>?_
   obtain⟨u,hr,h6⟩:=hq0;subst hr;refine thn h6 fun _ s7 hq0=>?_
   obtain⟨x,H7,I7,r7,y7,st7,fr7⟩:=hq0;have I7':=I7.pinned (stat fr7) (T.obj _ _ st7);refine thn (hg cl s3.heap.objs.size fp s3 _ _ s7 σ5 H7 x u _ I7' r7 (step x H7 y7)) fun _ s8 hq0=>?_
   obtain⟨σ8,H8,I8,q8⟩:=hq0;refine thn (hc cl s3.heap.objs.size fp s3 _ _ s8 σ8 H8 _ I8 q8) fun b s9 hq0=>?_
   obtain⟨H9,I9,q9⟩:=hq0;have again:∀{σ':St} {H':Hp} {s':Shared} {m':Nat},Inv (cxC X N scope cl s3.heap.objs.size fp s3 (upd H2 s2.heap.objs.size (.lst []))) ([]++pinsAt fp s7.heap) σ' H' s'->m' < n->W (i+1) m' σ' H' ->
     ∃m,m < n/\∃i σ' H',Inv (cxC X N scope cl s3.heap.objs.size fp s3 (upd H2 s2.heap.objs.size (.lst []))) [] σ' H' s'/\tn i s'.heap/\(∀b∈fp,H' b=none)/\W i m σ' H':=fun {σ' H' s' m'} I' hm w'=>by
    refine⟨m',hm,i+1,σ',H',I'.unpinned,T.keep _ _ _ st7 fun b hb o e=>(I'.pin (b,o) (xdb _ (xdb _ (zdz hb e)))).1,fun b hb=>?_,w'⟩;obtain⟨o,e,d⟩:=T.obj _ _ st7 b hb;exact(I'.pin (b,o) (xdb _ (xdb _ (zdz hb e)))).2.1
   cases b with
   | false =>
    obtain⟨m',hm,w'⟩:=hN' _ _ q9;exact again I9 hm w'
   | true =>
    refine thn (he cl s3.heap.objs.size fp s3 _ _ s9 σ8 H9 _ I9 q9) fun v s10 hq0=>?_
    obtain⟨y,H10,I10,r10,xs,hxs,hz,n10⟩:=hq0;obtain⟨m',hm,w'⟩:=hN' _ _ n10;refine thn (zkl (X:=cxC X N scope cl s3.heap.objs.size fp s3 (upd H2 s2.heap.objs.size (.lst []))) _ s10 σ8 H10 (.ref s2.heap.objs.size) [y] _ [v] (fun _ H'=>H'=upd H10 s2.heap.objs.size (.lst (xs++[y]))) I10 rfl (.cons r10 .nil) ⟨_,xs,y,rfl,rfl,hxs,hz,rfl⟩) fun _ s11 hq0=>?_
    obtain⟨_,H11,I11,_,e11⟩:=hq0;subst e11;exact again I11 hm w'
 have hs3':s2.heap.push { cls:=.type "list", dict:=none, data:=.seq ([]:List Value).toArray }=s3.heap:=by rw[← hs3]
 have fin:=codeAny_compStart_list (elt:=elt) (target:=tg) (iter:=iter) (ifs:=ifs) (rest:=[]) (scope:=scope) (pos:=pos) loop (T.self X.A 0 _ _ _ st4 loop);exact fin
theorem zjr (S:CompScope X N k is scope){aU:List (Addr×Obj)}{σ:St}{H:Hp}{s:Shared}(I:Inv X aU σ H s) :
  ∃cl,closureFor scope X.env=pure cl/\(∀x c,cl.lookup x=some c->X.env.cells.lookup x=some c)/\∀x,(x,NameKind.free)∈scope.names->∃c,cl.lookup x=some c :=
 zow fun y hy hf=>I.ok.has y.1 (S.frees y hy hf)
theorem zym (hcalm:X.calm=true)(hi:PI X tg iter wi)(hg:∀cl C fp s H,PG (cxC X N scope cl C fp s H) tg g)(hc:∀cl C fp s H,PIf (cxC X N scope cl C fp s H) ifs tc)(he:∀cl C fp s H,PE (cxC X N scope cl C fp s H) elt te)
  (S:CompScope X N k is scope)(hs:∀x,foldedSetIterable iter X.env x=pure x:=by intro _;rfl):PE X (.ListComp elt [⟨tg,iter,ifs,0⟩] scope pos) (tComp wi k is g tc te):=by
 intro aU s σ H Q I h;obtain⟨cl,e,c1,c2⟩:=zjr S I;rw[eval_ListComp];refine wpAny_comprehension_free (use:=none) rfl hs e S.kind S.names (thn (hi aU s σ H _ I h) fun xv s1 h1=>thn h1 fun itv s2 h2=>?_);obtain⟨it,fp,tn,J,H2,e2,I2,T,st2,f2,h3⟩:=h2;subst e2;refine zou (Q:=Q) (RR:=fun acc C=>compPost (model X.prog X.w) X.A X.xe none (EP X aU σ Q) acc C) hcalm hg hc he S I2 T st2 f2 c1 c2 h3 ?_;intro p C s' H' m off hm I' q;exact⟨m,hm,fun h' hs'=>⟨.ref p,H',off.back I' hs',rfl,q⟩⟩
end
section
variable {g:TG}{tc:TT}{te:TE}{Q:VK}{σ:St}{H:Hp}{p:Addr}
end
noncomputable def Callee (P:Program) (w:World) (K:Fg) (mg:Str->Option Value) (base:Heap) (x:Str) (k:Nat) (ps:List Str) (sp:Sp):Prop :=
 ∃f fd,FnOk P w K mg base CX0 k f fd ps sp/\Binds K fd ps []/\W.keepIn K (.ref f)=true/\mg x=some (.ref f)
section
variable {X:Cx}{x:Str}{k:Nat}{ps:List Str}{sp:Sp}{p pos:Pos}{e:Expr}{es:List Expr}{t:TA}
theorem zue (c:Callee X.prog X.w X.K X.mg X.base x k ps sp)(hr:Room k X.A)(hg:Gl X x)(ha:PA X (e::es) t)(hdb:(x==("__debug__" : Str))=false:=by decide)
  (he:starEach (e::es) X.env=(false,eval e X.env)::starEach es X.env:=by rfl)(hpl:(backTo pos (starEach es X.env)).any (·.1)=false:=by rfl) :
  PE X (.Call (.Name x p) (e::es) [] pos) (tCall sp [] E0 t):=by
 obtain⟨f,fd,F,b,kp,m⟩:=c;exact zyn F hr hg m kp b .nil pass0 ha hdb he hpl
end
noncomputable def TopF (K:Fg) (x:Str) (st:Stmt):Prop :=
 ∃f fd,W.nsIn K mainGlobals x=some (some (.ref f))/\Fun K x x st f fd
theorem zcv {K:Fg}{x:Str}{st:Stmt}{f:Addr}{od an:Option Addr}{sl:Array (Option Value)}{oc kV dc pm cd ct:Value}
  (a:W.nsIn K mainGlobals x=some (some (.ref f)))(l:K.lookup f=some ⟨oc,od,.func (W.fnOf x x (defArgs st) (defBody st) (defScope st) .none kV dc pm an cd ct),sl⟩)(c:W.codeIn K cd x=true)(k:W.keepIn K (.ref f)=true):TopF K x st :=
 ⟨f,_,a,zbex l c k⟩
theorem zry {P:Program}{w:World}{K:Fg}{mg:Str->Option Value}{base h:Heap}{x:Str}{st:Stmt}{N ps:List Str}{k:Nat}{sp:Sp}(T:TopF K x st)(X:K.In h)(G:h.Ns mainGlobals mg)(S:FnScope N ps (defScope st))
  (bd:∀(kV doc pm:Value) (an:Option Addr) (cdv ct:Value) (us:List Value),us.length=ps.length->bindArgs (W.fnOf x x (defArgs st) (defBody st) (defScope st) .none kV doc pm an cdv ct) ⟨us,[]⟩=pure (ps.zip us))
  (len:∀vs H Q E,sp vs H Q E->vs.length=ps.length)
  (hbody:∀(f:Addr) (cdv:Value) (A:Around) (outer:List Env) (s:Shared) (H:Hp) (vs:List V) (Q:VK) (E:XK),Room k (A.deeper (envOfC x (defScope st) s.heap.objs.size f cdv))->sp vs H Q E ->
   ∃t,PSs (cxOf CX0 P w K mg base N x (defScope st) f cdv A outer s H E).nox (defBody st) t/\t {nx:=fun _ H'=>Q .non H',rt:=Q} (start N vs) H):Callee P w K mg base x (k+1) ps sp:=by
 obtain⟨f,fd,a,F⟩:=T;exact⟨f,fd,F.ok S len (hbody f),F.binds bd,F.kp,W.mg_of X G a⟩
section
variable {X:Cx}
theorem zdm:CallR X (.builtin "isinstance") (fun xs H Q=>∃ x T t b, xs=[x, .ty T]/\TyOf X.K H x t/\W.kitOne X.K t (.type T)=some b/\Q (.bl b) H):=by
 intro aU s σ H xs us Q I r h;obtain⟨x,T,t,b,rfl,ty,e,q⟩:=h;obtain⟨u,w',rfl,ru,rw'⟩:=vals2 r;cases(show w'=Value.type T from rw');exact zre I ru ty e fun tk=>⟨.bl b,H,I.tok tk,rfl,q⟩
noncomputable def CDivP (i j:Int):Prop:=0 < j/\j < 2 ^ 1000
theorem zjc:OpR X (binaryOp .FloorDiv) (rI CDivP fun i j=>.int (i / j)):=opI fun i j _ _ _ _ _ hc q=>by
 have e:i.fdiv j=i / j:=Int.fdiv_eq_ediv_of_nonneg i (by have:=hc.1;lia);refine floordiv_int (by have:=hc.1;lia) (by rw[e];exact q) (.inl (PyProof.noPylong_of_log2 ?_));have h1:j.natAbs < 2 ^ 1000:=by
  have h2:=hc.1;have h3:=hc.2;have h4:(j.natAbs:Int)=j:=by lia
  have h5:(j.natAbs:Int) < ((2 ^ 1000:Nat):Int):=by
   rw[h4];exact_mod_cast h3
  exact_mod_cast h5
 have h0:j.natAbs≠0:=by have:=hc.1;lia
 have:=(Nat.log2_lt h0).mpr h1;lia
end
section
variable {X:Cx}{st:Stmt}{t:TS}
end
noncomputable def compLook (XN:List Str) (xs:List (Str×NameKind)) (N:List Str) (k:Nat) (is:List Nat) (scope:Scope):Bool :=
 (scope.kind==.function)&&scope.names.all (fun y=>y.2 != .cell)&&scope.names.all (fun y=>y.2 != .local||scope.names.lookup y.1==some .local) &&
 scope.names.all (fun y=>y.2 != .free||(xs.lookup y.1==some .cell||xs.lookup y.1==some .free))&&(N.length==k+is.length) &&
 (List.range is.length).all (fun j=>match is[j]?,N[k+j]? with
  | some i,some x=>XN[i]?==some x&&scope.names.lookup x==some .free
  | _,_=>false)
theorem zfv {X:Cx}{N:List Str}{k:Nat}{is:List Nat}{scope:Scope}(h:compLook X.N X.env.scope.names N k is scope=true):CompScope X N k is scope:=by
 unfold compLook at h;simp only[xdt,xgd] at h;obtain⟨⟨⟨⟨⟨h1,h2⟩,h3⟩,h4⟩,h5⟩,h6⟩:=h;refine⟨eq_of_beq h1,fun y hy e=>?_,fun y hy e=>?_,fun y hy e=>?_,eq_of_beq h5,fun j i e=>?_⟩
 ·have:=h2 y hy;rw[e] at this;simp at this
 ·have:=h3 y hy;rw[e] at this;simp at this;exact this
 ·have:=h4 y hy;rw[e] at this;simp at this;exact this
 ·have hj:j < is.length:=(xbm.mp e).1;have:=h6 j (xdr.mpr hj);rw[e] at this;cases e2:N[k+j]? with
  | none=>rw[e2] at this;cases this
  | some x =>
   rw[e2] at this;simp only[xdt,xfv] at this;exact⟨x,rfl,this.1,this.2⟩
theorem zoz:bootBuiltins "len"=some (.builtin "len"):=by decide +kernel
theorem zbgi:bootBuiltins "abs"=some (.builtin "abs"):=by decide +kernel
theorem zvz:bootBuiltins "min"=some (.builtin "min"):=by decide +kernel
theorem zbbn:bootBuiltins "sum"=some (.builtin "sum"):=by decide +kernel
theorem zlc:bootBuiltins "sorted"=some (.builtin "sorted"):=by decide +kernel
theorem zbbq:bootBuiltins "any"=some (.builtin "any"):=by decide +kernel
theorem zby:bootBuiltins "isinstance"=some (.builtin "isinstance"):=by decide +kernel
theorem zbgh:bootBuiltins "int"=some (.type "int"):=by decide +kernel
theorem zbbp:bootBuiltins "bool"=some (.type "bool"):=by decide +kernel
theorem zem:bootBuiltins "tuple"=some (.type "tuple"):=by decide +kernel
theorem zbbo:bootBuiltins "list"=some (.type "list"):=by decide +kernel
theorem zte {H:Hp}{p:Addr}{o:HO}(h:H p=some o):upd H p o=H:=by
 funext b
 unfold upd;split
 ·subst b;exact h.symm
 ·rfl
section
variable {X:Cx}{K:Fg}
end
end L2
namespace Srt
open PySem PySem.W PyProof.Rows
section
variable (r:Nat->Nat)
noncomputable def lt (i j:Nat):Bool:=decide (r i < r j)
noncomputable def At (p:Array Nat) (i:Nat):Nat:=r (p.getD i 0)
noncomputable def Up (p:Array Nat) (n:Nat):Prop:=∀i j,i<=j->j < n->At r p i<=At r p j
end
section
variable {r:Nat->Nat}{p:Array Nat}{n:Nat}
end
section
variable {n:Nat}
end
section
variable {P:Program}{w:World}{B:Around}{E:Value->Shared->Prop}{st:Shared}
noncomputable def midHeap (h:Heap) (d:Addr) (xs:List Value):Heap:=((h.update d (Obj.mapSeq fun _=>(#[]:Array Value))).push (seqObj "tuple" xs.toArray 0)).push (seqObj "list" #[] 0)
theorem zgi {h:Heap}{d b:Addr}{xs:List Value}{ob:Obj}(ne:b≠d)(e:h.get? b=some ob):(midHeap h d xs).get? b=some ob :=
 xbj _ (xbj _ ((Heap.get?_update_ne _ _ _ _ ne).trans e))
noncomputable def Answers (P:Program) (w:World) (B:Around) (r:Nat->Nat) (xs:List Value) (sg:Shared):Prop :=
 ∃κ,(∀R:SortKind->Shared->Prop,R κ sg->wpAny (model P w) B (keyKind' xs.toArray) R (fun _ _=>False) sg) /\
  ∀i j C,i < xs.length->j < xs.length->C (lt r i j) sg->kas_ask P w B κ xs i j C sg
noncomputable def outOf (xs:List Value) (p:Array Nat):Array Value:=List.toArray (p.toList.map fun i=>xs.getD i Value.none)
theorem zpz {xs:List Value}(h:xs.length < 2):(xs.toArray.zip xs.toArray).map (·.2)=outOf xs (List.toArray (List.range xs.length)):=by
 unfold outOf
 match xs,h with
 | [],_=>simp
 | [_],_=>simp[List.range_succ]
 | _::_::_,h=>exact absurd h (by simp)
end
end Srt
namespace Srt
open PySem PySem.W PyProof.Rows HT
theorem zfm:∀a:List Int,lexLt a a=false
 | []=>rfl
 | x::a=>by rw[zck,if_pos rfl];exact zfm a
theorem zez:∀{a b c:List Int},lexLt a b=true->lexLt b c=true->lexLt a c=true
 | _,[],[],_,h=>by rw[zdc] at h;cases h
 | _,_::_,[],_,h=>by rw[zcq] at h;cases h
 | [],[],_::_,h,_=>by rw[zdc] at h;cases h
 | _::_,[],_::_,h,_=>by rw[zcq] at h;cases h
 | [],_::_,_::_,_,_=>zbn _ _
 | x::a,y::b,z::c,h1,h2=>by
  rw[zck] at h1 h2 ⊢;by_cases e1:x=y
  ·rw[if_pos e1] at h1;subst e1;by_cases e2:x=z
   ·rw[if_pos e2] at h2 ⊢;exact zez h1 h2
   ·rw[if_neg e2] at h2 ⊢;exact h2
  ·rw[if_neg e1] at h1;have h1':=xeu h1;by_cases e2:y=z
   ·subst e2;rw[if_neg e1];exact h1
   ·rw[if_neg e2] at h2;have h2':=xeu h2;rw[if_neg (by lia)];exact xcm (by lia)
theorem zia:∀a b:List Int,lexLt a b=true\/a=b\/lexLt b a=true
 | [],[]=>.inr (.inl rfl)
 | [],_::_=>.inl (zbn _ _)
 | _::_,[]=>.inr (.inr (zbn _ _))
 | x::a,y::b=>by
  rw[zck,zck];by_cases e:x=y
  ·subst e;rw[if_pos rfl,if_pos rfl];rcases zia a b with h | h | h
   ·exact .inl h
   ·exact .inr (.inl (by rw[h]))
   ·exact .inr (.inr h)
  ·rw[if_neg e,if_neg (fun z=>e z.symm)];rcases Int.lt_or_gt_of_ne e with h | h
   ·exact .inl (xcm h)
   ·exact .inr (.inr (xcm h))
theorem zqy {a b:List Int}(h:lexLt a b=true):lexLt b a=false:=by
 cases e:lexLt b a with
 | false=>rfl
 | true=>have:=zez h e;rw[zfm] at this;cases this
theorem zot {p q:Nat->Bool}(hpq:∀x,p x=true->q x=true):∀{l:List Nat} {y:Nat},y∈l->q y=true->p y=false->l.countP p < l.countP q
 | [],_,h,_,_=>nomatch h
 | x::l,y,h,h1,h2=>by
  have mono:∀l:List Nat,l.countP p<=l.countP q:=fun l=>List.countP_mono_left fun x _=>hpq x
  rcases xcc.mp h with rfl | h
  ·rw[xgv h1,xiv (by rw[h2];decide)];exact xko (mono l)
  ·have ih:=zot hpq h h1 h2;by_cases c:p x=true
   ·rw[xgv c,xgv (hpq x c)];lia
   ·rw[xiv c];by_cases d:q x=true
    ·rw[xgv d];lia
    ·rw[xiv d];exact ih
noncomputable def rank (ks:List (List Int)) (i:Nat):Nat:=(List.range ks.length).countP fun k=>lexLt (ks.getD k []) (ks.getD i [])
theorem zmz {ks:List (List Int)}{i j:Nat}(hi:i < ks.length)(hj:j < ks.length):lt (rank ks) i j=lexLt (ks.getD i []) (ks.getD j []):=by
 have up:∀{a b:Nat},a < ks.length->lexLt (ks.getD a []) (ks.getD b [])=true->rank ks a < rank ks b:=fun {a b} ha h =>
  zot (fun x hx=>zez hx h) (xdr.mpr ha) h (zfm _)
 cases e:lexLt (ks.getD i []) (ks.getD j []) with
 | true=>exact xcm (up hi e)
 | false =>
  refine xcj fun h=>?_
  rcases zia (ks.getD i []) (ks.getD j []) with z | z | z
  ·rw[e] at z;cases z
  ·unfold rank at h;rw[z] at h;exact absurd h (xgl _)
  ·have:=up hj z;lia
section
variable {prog:Program}{w:World}{A:Around}{s:Shared}{b:Bool}{Q:Bool->Shared->Prop}
theorem znq:∀{us ws:List Value} {ns ms:List Int} (i:Nat),IntsAre us ns->IntsAre ws ms->Q (lexLt ns ms) s->KatLex prog w A b (decide (us.length < ws.length)) Q (us.zip ws) i s
 | _,_,_,_,_,.nil,.nil,h=>h
 | _,_,_,_,_,.nil,.cons _ _ _,h=>h
 | _,_,_,_,_,.cons _ _ _,.nil,h=>h
 | _,_,_,_,i,.cons x t (vs:=us) (ns:=ns) r1,.cons y u (vs:=ws) (ns:=ms) r2,h=>by
  rw[zck] at h;refine kat_cons (wpAny_eqBool_int (kat_go (fun e=>kat_yes ?_) fun e=>kat_no ?_))
  ·rw[if_pos (eq_of_beq e)] at h;have q:=znq (i+1) r1 r2 h;have ee:decide ((Value.int x t::us).length < (Value.int y u::ws).length)=decide (us.length < ws.length):=by
    rw[xbr,xbr,xek];simp
   rw[ee];exact q
  ·rw[if_neg (xgb.mp e)] at h;cases hb:(b&&i==0) with
   | true=>exact oneLt_int h
   | false=>exact kat_one _ _ (PyProof.Rows.lt_int h)
end
end Srt
namespace L2
open PySem PySem.Spec PyProof.Rows PySem.W
theorem zjz:∀{as:List Addr} {us:List Value},Vals (as.map V.ref) us->us=as.map Value.ref
 | [],_,.nil=>rfl
 | a::as,_,.cons r t=>by
  rw[show _=Value.ref a from r,zjz t]
  rfl
noncomputable def TupsAt (K:Fg) (H:Hp) (ps:List (Addr×List Int)):Prop:=∀p∈ps,SqT K H p.1 (p.2.map V.int)
theorem zg {α β:Type}(f:α->β)(d:β){l:List α}{i:Nat}{x:α}(h:l[i]?=some x):(l.map f).getD i d=f x:=by
 rw[xbt,xcb,h]
 rfl
section
variable {X:Cx}
end
end L2
namespace L2
open PySem PySem.Spec PyProof.Rows
mutual
inductive DAt (K:Fg) (H:Hp):V->PyData->Prop
 | non:DAt K H .non .none
 | bl (b:Bool):DAt K H (.bl b) (.bool b)
 | int (i:Int):DAt K H (.int i) (.int i)
 | str (x:Str):DAt K H (.str x) (.str x)
 | lst {a:Addr} {xs:List V} {ds:List PyData}:SqL K H a xs->DAll K H xs ds->DAt K H (.ref a) (.list ds)
 | tup {a:Addr} {xs:List V} {ds:List PyData}:SqT K H a xs->DAll K H xs ds->DAt K H (.ref a) (.tuple ds)
inductive DAll (K:Fg) (H:Hp):List V->List PyData->Prop
 | nil:DAll K H [] []
 | cons {x:V} {xs:List V} {d:PyData} {ds:List PyData}:DAt K H x d->DAll K H xs ds->DAll K H (x::xs) (d::ds)
end
section
variable {X:Cx}{aU:List (Addr×Obj)}{σ:St}{H:Hp}{s:Shared}
mutual
theorem zfi (I:Inv X aU σ H s):∀{v:V} {d:PyData} {u:Value},DAt X.K H v d->RelV v u->∃as,Reads s.heap u d as
 | _,_,_,.non,r=>by cases r;exact⟨_,.none⟩
 | _,_,_,.bl b,r=>by cases r;exact⟨_,.bool b⟩
 | _,_,_,.int i,r=>by obtain⟨t,rfl⟩:=r;exact⟨_,.int i t⟩
 | _,_,_,.str x,r=>by obtain⟨t,rfl⟩:=r;exact⟨_,.str x t⟩
 | _,_,_,.lst h all,r=>by
  cases r;obtain⟨its,rv,⟨o,n,e,c,_,dd⟩,_⟩:=I.list h;obtain⟨as,q⟩:=zei I all rv;exact⟨_,.list e c dd q⟩
 | _,_,_,.tup h all,r=>by
  cases r;obtain⟨its,rv,⟨o,e,c,n,dd⟩,_⟩:=I.tuple h;obtain⟨as,q⟩:=zei I all rv;exact⟨_,.tuple e c dd q⟩
theorem zei (I:Inv X aU σ H s):∀{vs:List V} {ds:List PyData} {us:List Value},DAll X.K H vs ds->Vals vs us->∃as,ReadsAll s.heap us ds as
 | _,_,_,.nil,.nil=>⟨_,.nil⟩
 | _,_,_,.cons h t,.cons r rs=>by
  obtain⟨as,q⟩:=zfi I h r;obtain⟨bs,q'⟩:=zei I t rs;exact⟨_,.cons q q'⟩
end
end
noncomputable def rEqX (K:Fg) (neg:Bool):R2:=fun x y H Q=>∃dx dy,DAt K H x dx/\DAt K H y dy/\PySem.SeqAt.shaped dx=true/\PySem.SeqAt.shaped dy=true/\Q (.bl (if neg then !PyData.eqv dx dy else PyData.eqv dx dy)) H
section
variable {X:Cx}
theorem znh (hu:X.A.units+64 < cLine):OpR X (compareOp .Eq) (rEqX X.K false):=by
 intro aU s σ H x y v u Q I r1 r2 h;obtain⟨dx,dy,a1,a2,a3,a4,q⟩:=h;obtain⟨as,ra⟩:=zfi I a1 r1;obtain⟨bs,rb⟩:=zfi I a2 r2;exact eq_dataH ra rb a3 a4 hu ⟨.bl (PyData.eqv dx dy),H,I,rfl,q⟩
theorem zbdy (hu:X.A.units+64 < cLine):OpR X (compareOp .NotEq) (rEqX X.K true):=by
 intro aU s σ H x y v u Q I r1 r2 h;obtain⟨dx,dy,a1,a2,a3,a4,q⟩:=h;obtain⟨as,ra⟩:=zfi I a1 r1;obtain⟨bs,rb⟩:=zfi I a2 r2;exact ne_dataH ra rb a3 a4 hu ⟨.bl (!PyData.eqv dx dy),H,I,rfl,q⟩
end
noncomputable def dI (ns:List Int):List PyData:=ns.map PyData.int
noncomputable def dRow (ns:List Int):PyData:=.tuple (dI ns)
theorem zbbh:∀a b:List Int,PyData.eqvAll (dI a) (dI b)=decide (a=b)
 | [],[]=>by rfl
 | [],_::_=>by rfl
 | _::_,[]=>by rfl
 | x::a,y::b=>by
  show(x==y&&PyData.eqvAll (dI a) (dI b))=_;rw[zbbh a b,xek];simp
theorem zvu (a b:List Int):PyData.eqv (dRow a) (dRow b)=decide (a=b):=zbbh a b
theorem zla:∀a b:List (List Int),PyData.eqvAll (a.map dRow) (b.map dRow)=decide (a=b)
 | [],[]=>by rfl
 | [],_::_=>by rfl
 | _::_,[]=>by rfl
 | x::a,y::b=>by
  show(PyData.eqv (dRow x) (dRow y)&&PyData.eqvAll (a.map dRow) (b.map dRow))=_;rw[zla a b,zvu,xek];simp
theorem zbbg:∀a:List Int,PyData.canLayAll0 (dI a)=true/\PyData.depthAll (dI a)=0
 | []=>⟨rfl,rfl⟩
 | x::a=>by
  obtain⟨h1,h2⟩:=zbbg a;refine⟨?_,?_⟩
  ·show(true&&PyData.canLayAll0 (dI a))=true;rw[h1];rfl
  ·show max 0 (PyData.depthAll (dI a))=0;rw[h2];rfl
theorem zkz:∀a:List (List Int),PyData.canLayAll0 (a.map dRow)=true/\PyData.depthAll (a.map dRow)<=1
 | []=>⟨rfl,xed _⟩
 | x::a=>by
  obtain⟨h1,h2⟩:=zkz a;obtain⟨h3,h4⟩:=zbbg x;refine⟨?_,?_⟩
  ·show(PyData.canLayAll0 (dI x)&&PyData.canLayAll0 (a.map dRow))=true;rw[h1,h3];rfl
  ·show max (PyData.depthAll (dI x)+1) (PyData.depthAll (a.map dRow))<=1;rw[h4];lia
theorem zft (a:List (List Int)):PySem.SeqAt.shaped (.tuple (a.map dRow))=true:=by
 obtain⟨h1,h2⟩:=zkz a;show(PyData.canLayAll0 (a.map dRow)&&decide (PyData.depthAll (a.map dRow)+1<=64))=true;rw[h1,xcm (by lia)];rfl
section
variable {X:Cx}
theorem zhu:∀{bs:List Bool} {us:List Value},Vals (bs.map V.bl) us->us=bs.map Value.bool
 | [],_,.nil=>rfl
 | b::bs,_,.cons r t=>by
  rw[show _=Value.bool b from r,zhu t]
  rfl
theorem zqe (bs:List Bool):((List.range bs.length).any fun i=>bs.getD i false)=bs.any id:=by
 rw[xek];simp only[xjj,xdr];constructor
 ·rintro⟨i,hi,h⟩;rw[xbt,xbf hi] at h;exact⟨bs[i],xee hi,h⟩
 ·rintro⟨b,hb,h⟩;obtain⟨i,hi,rfl⟩:=xeg hb;exact⟨i,hi,by rw[xbt,xbf hi];exact h⟩
noncomputable def rAny (K:Fg) (al:Bool):List V->Hp->VK->Prop:=fun xs H Q=>∃(l:Addr) (bs:List Bool),xs=[.ref l]/\SqL K H l (bs.map V.bl)/\Q (.bl (if al then bs.all id else bs.any id)) H
theorem zln {prog:Program}{w:World}{A:Around}(bs:List Bool):TruthOf prog w A (fun i v=>(bs.map Value.bool).toArray[i]?=some v) (fun i=>bs.getD i false):=fun i v s Q E hP hQ=>by
 have hP':(bs.map Value.bool)[i]?=some v:=by simpa using hP
 rw[xcb] at hP';cases e:bs[i]? with
 | none=>rw[e] at hP';cases hP'
 | some b =>
  rw[e] at hP';cases hP';dsimp only at hQ;rw[xbt,e] at hQ;exact xff hQ
theorem zwf (hc:X.calm=true){aU:List (Addr×Obj)}{σ:St}{H:Hp}{s:Shared}{l:Addr}{bs:List Bool}{R:Bool->Prop}(I:Inv X aU σ H s)(hl:SqL X.K H l (bs.map V.bl)){Q:Value->Shared->Prop}{F:(Nat->Bool)->Nat->Bool}
  (hQ:∀s',Inv X aU σ H s'->Q (.bool (F (fun i=>bs.getD i false) bs.length)) s') :
  wpAny (model X.prog X.w) X.A.in1 (pyIter (.ref l)) (fun it s₂=>∃I fp wr n P St tr,it=.ref I/\Walks X.prog X.w X.A.in1 I fp wr n P St/\St 0 s₂.heap/\TruthOf X.prog X.w X.A.in1 P tr /\
   ∀h' tk,(∀b o,b∉wr->s₂.heap.get? b=some o->h'.get? b=some o)->Q (.bool (F tr n)) {s₂ with heap:=h',toks:=tk}) X.xe s:=by
 obtain⟨its,rv,pl,hz⟩:=I.list hl;have e:=zhu rv;subst e;have hlt:l < s.heap.objs.size:=by obtain⟨o,n,e,_⟩:=pl;exact xbs e
 refine xjf pl.isList ?_;refine⟨s.heap.objs.size,_,[s.heap.objs.size],_,_,_,_,rfl,Walks.list (A:=X.A.in1) (I.ok.hd hc) _ l (xcl hlt) (bs.map Value.bool).toArray,⟨⟨_,xbz _ rfl,rfl,rfl⟩,pl.isList.push _⟩,zln bs,fun h' tk hk=>?_⟩;have e2:(bs.map Value.bool).toArray.size=bs.length:=by simp
 rw[e2];refine hQ _ ?_;refine I.kept (t':=tk) fun b o e=>hk b o ?_ (xbj _ e)
 intro z;have z':b=s.heap.objs.size:=by simpa using z
 have z2:=xbs e;rw[z'] at z2;exact absurd z2 (xgl _)
theorem zvw (hc:X.calm=true):CallR X (.builtin "any") (rAny X.K false):=by
 intro aU s σ H xs us Q I r h;obtain⟨l,bs,rfl,hl,q⟩:=h;obtain⟨u,rfl,ru⟩:=vals1 r;cases ru;refine call_any_walk (zwf (R:=fun _=>True) hc I hl (F:=fun tr n=>(List.range n).any tr) fun s' I'=>⟨.bl ((List.range bs.length).any fun i=>bs.getD i false),H,I',rfl,?_⟩);rw[zqe];exact q
end
end L2
namespace Dct
open PySem PySem.W PyProof.Rows
noncomputable def Raw (h:Heap) (d:Addr) (es:Array DictEntry) (ep:Nat):Prop:=∃ob,h.get? d=some ob/\ob.ExactDict/\ob.data=.dict es ep
theorem Raw.kept {h h':Heap}{d:Addr}{es:Array DictEntry}{ep:Nat}(x:Raw h d es ep)(k:∀ob,h.get? d=some ob->h'.get? d=some ob):Raw h' d es ep :=
 let ⟨ob,e,r⟩:=x;⟨ob,k ob e,r⟩
theorem Raw.lt {h:Heap}{d:Addr}{es:Array DictEntry}{ep:Nat}(x:Raw h d es ep):d < h.objs.size:=let ⟨_,e,_⟩:=x;xbs e
theorem Raw.is {st:Shared}{d:Addr}{es:Array DictEntry}{ep:Nat}(x:Raw st.heap d es ep):st.TypeIs (.ref d) "dict":=let ⟨ob, e, c, _⟩:=x; ⟨ob, e, c.1⟩
section
variable {P:Program}{w:World}{B:Around}{E:Value->Shared->Prop}{st:Shared}{d it:Addr}{es:Array DictEntry}{ep k:Nat}
noncomputable def iterObj (d:Addr) (n ep:Nat):Obj:={ cls:=.type "dict_keyiterator", data:=.fields #[.ref d, .int 0 0, .int n 0, .int ep 0] }
theorem zmy {W:Value->Shared->Prop}(ns:(d==sysModules)=false)(x:Raw st.heap d es ep)(fin:W (.ref st.heap.objs.size) {st with heap:=st.heap.push (iterObj d es.size ep)}):wpAny (model P w) B (pyIter (.ref d)) W E st:=by
 obtain⟨ob,e,c,dt⟩:=id x;have ty:=x.is;refine wpAny_pyIter_slot ty F.slot_dict_iter (xeq F.slot_dict_iter ty F.entry_dict_iter ?body (F.args_dict_iter_1 _))
 case body =>
  unfold Builtin.«dict.__iter__» Builtin.Dict.dictSlotNone Builtin.Dict.showsAll;refine xba (xba (wpAny_notOrdered_dict ty (xbe ?_)));show wpAny _ _ ((if(d==sysModules)=true then _ else _) >>= _) _ _ st;rw[if_neg (fun z=>xem (ns.symm.trans z))];refine xba (xbe (xba (xhm e dt (xba (wpAny_dictEpoch e dt (xba (xdq (xbe ⟨_, rfl, "dict_keyiterator", _,⟨_, xbz _ rfl, rfl⟩, xfa.lookup, ?_⟩))))))))
  exact fin
theorem zmx {W:Option Value->Shared->Prop}{en:DictEntry}(hi:st.heap.IsKeyIter it d k es.size ep)(x:Raw st.heap d es ep)(hk:es[k]?=some en)
  (fin:∀g:Heap,g.IsKeyIter it d (k+1) es.size ep->Heap.SameBut it st.heap g->W (some en.key) {st with heap:=g}):wpAny (model P w) B (pyNext (.ref it)) W E st:=by
 obtain⟨oi,ei,ci,di⟩:=id hi;obtain⟨ob,e,c,dt⟩:=id x;have lt:k < es.size:=(Array.getElem?_eq_some_iff.mp hk).1;unfold pyNext;refine xba (wpAny_attempt (wpAny_callSpecial?_slot (name:=Str.ofString "__next__") hi.typeIs xfa (xeq xfa hi.typeIs F.entry_dict_keyiterator_next ?body (F.args_dict_keyiterator_next_1 _))))
 case body =>
  refine xba (xbe (xba (xba (xba (xfx hi.typeIs (xbe (xba (wpAny_fieldsOf ei di ?_))))))));simp only[show Builtin.Dict_items.ownsTuple "dict_keyiterator"=false from by decide, xck, ite_false]
  show wpAny _ _ (if(Value.ref d==Value.none)=true then _ else _) _ _ st;have nn:¬ (Value.ref d==Value.none)=true:=xem;rw[if_neg nn];refine xba (xbe (xba (xhm e dt ?_)));rw[if_neg (by simp)];refine xba (xbe (xba (wpAny_dictEpoch e dt ?_)));rw[if_neg (by simp)];refine xbe ?_;simp only[show ¬ ((k:Int) < 0) from by lia,ite_false,xgn,hk];refine xba (xba (xfx hi.typeIs (xbe (xba (wpAny_isOneOf_keyiter hi.typeIs ?_)))));show wpAny _ _ (setField (.ref it) 1 (rawInt ((k:Int)+1)) >>= _) _ _ st;refine xba (wpAny_setField ei di (by simp) ?_);have hi':(st.heap.update it (Obj.mapFields (·.setIfInBounds 1 (rawInt ((k:Int)+1))))).IsKeyIter it d (k+1) es.size ep :=
   ⟨_,xjo _ ei (Obj.isFreed_of_fields (Obj.data_mapFields di _)),(Obj.cls_mapFields ..).trans ci,by rw[Obj.data_mapFields di];simp[rawInt]⟩
  refine xba (xer (xba (wpAny_isOneOf_keyiter (s:={st with heap:=st.heap.update it (Obj.mapFields (·.setIfInBounds 1 (rawInt ((k:Int)+1))))}) hi'.typeIs ?_)));show wpAny _ _ (pure en.key) _ _ _;exact xbe (xbe ⟨_,rfl,xbe (fin _ hi' (xid ..))⟩)
theorem zsg {W:Option Value->Shared->Prop}(hh:B.handled=none)(hi:st.heap.IsKeyIter it d k es.size ep)(x:Raw st.heap d es ep)(hk:es.size<=k)
  (fin:∀g:Heap,Heap.ExtBut it st.heap g->W none {st with heap:=g}):wpAny (model P w) B (pyNext (.ref it)) W E st:=by
 obtain⟨oi,ei,ci,di⟩:=id hi;obtain⟨ob,e,c,dt⟩:=id x;unfold pyNext;refine xba (wpAny_attempt (wpAny_callSpecial?_slot (name:=Str.ofString "__next__") hi.typeIs xfa (xeq xfa hi.typeIs F.entry_dict_keyiterator_next ?body (F.args_dict_keyiterator_next_1 _))))
 case body =>
  refine xba (xbe (xba (xba (xba (xfx hi.typeIs (xbe (xba (wpAny_fieldsOf ei di ?_))))))));simp only[show Builtin.Dict_items.ownsTuple "dict_keyiterator"=false from by decide, xck, ite_false]
  show wpAny _ _ (if(Value.ref d==Value.none)=true then _ else _) _ _ st;have nn:¬ (Value.ref d==Value.none)=true:=xem;rw[if_neg nn];refine xba (xbe (xba (xhm e dt ?_)));rw[if_neg (by simp)];refine xba (xbe (xba (wpAny_dictEpoch e dt ?_)));rw[if_neg (by simp)];refine xbe ?_;simp only[show ¬ ((k:Int) < 0) from by lia,ite_false,xgn,Array.getElem?_eq_none hk];refine xba (xba (xfx hi.typeIs (xbe ?_)));show wpAny _ _ (setField (.ref it) 0 .none >>= _) _ _ st;refine xba (wpAny_setField ei di (by simp) ?_);show wpAny _ _ (newExc (.type "StopIteration") [] >>= _) _ _ _
  refine xba ?_;simp only[newExc,newTuple];refine xba (xdq (xba (m:=firstArgMember _ _) (wpAny_of_eq (a:=Value.none) (by first | rfl | (simp only[firstArgMember];rfl)) (xdq ?_ (by size_fits)))) (by size_fits));simp only[raiseNew];refine xba (wpAny_handled ?_);rw[show B.in1.handled=none from hh];refine xba (xbe (wpAny_throw ?_));refine xba (xjl (T:="StopIteration") (b:=true) ?_ isSubtype_stop (xbe (fin _ (((xid ..).extBut.push _).push _))))
  exact⟨_,xbz _ rfl,rfl⟩
theorem zqd (hh:B.handled=none)(ne:d≠it)(es:Array DictEntry)(ep:Nat) :
  Walks P w B it [it,d] [it] es.size (fun i v=>∃en,es[i]?=some en/\v=en.key) (fun i h=>h.IsKeyIter it d i es.size ep/\Raw h d es ep) where
 sub:=fun b hb=>xcc.mpr (.inl (xbw.mp hb))
 frame:=fun _ _ _ z hk=>⟨z.1.at fun o e=>hk it xbp o e,z.2.kept fun o e=>hk d (xbl _ (xbw.mpr rfl)) o e⟩
 item:=fun i sh W' E' hi z hQ=>by
  have hx:es[i]?=some es[i]:=xif hi;exact zmx z.1 z.2 hx fun g a b=>hQ es[i].key g sh.toks ⟨_,hx,rfl⟩ ⟨a,z.2.kept fun o e=>b.extBut d o ne e⟩ fun c o hc e=>b.extBut c o (fun q=>hc (xbw.mpr q)) e
 done:=fun sh W' E' z hQ=>zsg hh z.1 z.2 (xbd _) fun g b=>hQ g sh.toks fun c o hc e=>b c o (fun q=>hc (xbw.mpr q)) e
 self:=fun _ _ _ _ z hQ=>wpAny_pyIter_keyiter z.1 hQ
theorem zsf (ns:(d==sysModules)=false)(es:Array DictEntry)(ep:Nat):KdlSrc P w "dict" d d es.size (fun i v=>∃ en, es[i]?=some en/\v=en.key) (fun h=>Raw h d es ep) where
 type:=fun _ x=>x.is
 there:=fun _ x=>⟨x.lt,x.lt⟩
 keep:=fun _ _ x hk=>x.kept fun o e=>hk d (.inl rfl) o e
 notList:=by decide
 notTuple:=by decide
 hint:=fun _ _ _ _ x hq=>kdl_hint_dict x.is hq
 iter:=fun _ sh hh x=>⟨_,_,fun _ _ hq=>zmy ns x hq,zqd hh (xcl x.lt) es ep,⟨⟨_,xbz _ rfl,rfl,rfl⟩,x.kept fun o e=>xbj _ e⟩⟩
end
end Dct
namespace Srt
open PySem PySem.W PyProof.Rows
section
variable {P:Program}{w:World}{B:Around}{E:Value->Shared->Prop}{st:Shared}
end
end Srt
namespace L2
open PySem PySem.Spec PyProof.Rows
theorem ObjOk.ob {P:Program}{w:World}{H:Hp}{h:Heap}{a:Addr}{o:HO}(x:ObjOk P w H h a o):∃ob,h.get? a=some ob:=by
 cases o with
 | lst xs=>obtain⟨_,_,_,_,e⟩:=x;exact⟨_,e⟩
 | tup xs=>obtain⟨_,_,_,ob,e,_⟩:=x;exact⟨_,e⟩
 | dK kvs=>obtain⟨_,_,_,_,ob,_,_,e,_⟩:=x;exact⟨_,e⟩
 | dT kvs=>obtain⟨_,_,_,_,ob,_,_,e,_⟩:=x;exact⟨_,e⟩
 | set S n=>obtain⟨ob,_,_,_,e,_⟩:=x;exact⟨_,e⟩
 | ins C dx fs=>obtain⟨_,_,_,e,_⟩:=x;exact⟨_,e⟩
 | own y=>obtain⟨_,e⟩:=x;exact⟨_,e⟩
 | xd fs=>obtain⟨_,⟨_,_,_,e,_⟩,_⟩:=x;exact⟨_,e⟩
 | rng lo hi=>obtain⟨_,_,_,e⟩:=x;exact⟨_,e⟩
 | frz ob u=>obtain⟨e,_⟩:=x;exact⟨_,e⟩
 | tbl ps=>exact⟨_,(show h.get? a=some _ from x)⟩
 | met f y=>exact⟨_,(show h.get? a=some _ from x)⟩
 | ext φ=>obtain⟨_,⟨_,e⟩,_⟩:=x;exact⟨_,e⟩
section
variable {X:Cx}{aU:List (Addr×Obj)}{σ:St}{H:Hp}{s:Shared}
theorem Inv.away (I:Inv X aU σ H s){q:Addr}(ne:∀b ob,s.heap.get? b=some ob->b≠q):H q=none:=by
 cases e:H q with
 | none=>rfl
 | some o =>
  obtain⟨ob,z⟩:=(I.hok q o e).ob;exact absurd rfl (ne q ob z)
theorem Inv.laidN {q:Addr}{o:HO}{g:Heap}{t':Nat}(I:Inv X aU σ H s)(k:∀b u,s.heap.get? b=some u->g.get? b=some u)(ne:∀b ob,s.heap.get? b=some ob->b≠q)(new:ObjOk X.prog X.w (upd H q o) g q o) :
  Inv X aU σ (upd H q o) {s with heap:=g,toks:=t'}:=by
 have hn:=I.away ne;have off:∀{b:Addr} {u:HO},H b=some u->upd H q o b=some u:=fun {b u} e=>by rw[zn (zh e hn)];exact e
 refine I.un ⟨fun b u e _ _ _=>k b u e,fun b u e _ _ _=>⟨u.slots,k b u e⟩,fun b u e n _=>by rw[zn (ne b u e)];exact n,fun b u e _=>⟨u,k b u e⟩,fun b xs e=>off e,fun b ob u e=>off e,fun b ps e=>⟨#[],by rw[off e];simp⟩⟩ fun b u e=>?_
 by_cases hb:b=q
 ·subst hb;rw[zk] at e;cases e;exact new
 ·rw[zn hb] at e;exact(I.hok b u e).stay (fun c v _ z=>k c v z) (fun c z=>off z) fun c xs z=>off z
end
theorem zob (ns:List Int):(ns.map (Sum.inl:Int->Key)).map kV=ns.map V.int:=by rw[xde];rfl
theorem zih {P:Program}{w:World}{H:Hp}{kvs:List (List Key×V)}:∀{ks:List (List Int)} {xs:List (List Key×Addr×Value)},
  Paired (fun(p:List Key×V) (q:List Key×Addr×Value)=>p.1=q.1/\H q.2.1=some (.tup (p.1.map kV))/\RelV p.2 q.2.2) kvs xs->kvs.map (·.1)=ks.map (fun ns=>ns.map Sum.inl) ->
   ∃ps:List (Addr×List Int),ps.map (·.2)=ks/\(∀p∈ps,H p.1=some (.tup (p.2.map V.int)))/\xs.map (fun q=>(entryOfKey (tupleKind (mixKind P w)) q).key)=ps.map fun p=>Value.ref p.1:=by
 induction kvs with
 | nil =>
  intro ks xs r e;cases r;cases ks with
  | nil=>exact⟨[],rfl,fun p hp=>(nomatch hp),rfl⟩
  | cons x ks=>cases e
 | cons kv kvs ih =>
  intro ks xs r e;cases r with
  | cons r rs =>
   cases ks with
   | nil=>cases e
   | cons ns ks =>
    rw[xbh,xbh] at e;injection e with e1 e2
    obtain⟨ps,a1,a2,a3⟩:=ih rs e2;rename_i b _;obtain⟨r1,r2,r3⟩:=r;refine⟨(b.2.1,ns)::ps,by rw[xbh,a1],fun p hp=>?_,by rw[xbh,xbh,a3];rfl⟩;rcases xcc.mp hp with z | z
    ·subst z;rw[e1,zob] at r2;exact r2
    ·exact a2 p z
open PySem.W in
theorem zwg {P:Program}{w:World}{B:Around}{sg:Shared}{ps:List (Addr×List Int)}(h2:2<=ps.length)
  (tup:∀(i:Nat) (p:Addr×List Int), ps[i]?=some p->∃(us:List Value) (o:Obj) (n:Nat), IntsAre us p.2/\sg.heap.get? p.1=some o/\o.cls=.type "tuple"/\o.data=.seq us.toArray n/\p.2≠[]) :
  Srt.Answers P w B (Srt.rank (ps.map (·.2))) (ps.map fun p=>Value.ref p.1) sg:=by
 refine⟨tuples' true,fun R hq=>?_,fun i j C hi hj hC=>?_⟩
 ·have kt:∀(l:List (Addr×List Int)),(∀p∈l,∃i:Nat,ps[i]?=some p)->∃fs:List Value,KatTups sg.heap (l.map fun p=>Value.ref p.1) fs/\fs.length=l.length/\∀v∈fs,∃i t,v=Value.int i t:=fun l=>by
   induction l with
   | nil=>intro _;exact⟨[],KatTups.nil,rfl,fun v hv=>(nomatch hv)⟩
   | cons p l ih =>
    intro hp;obtain⟨fs,b1,b2,b3⟩:=ih fun p' hp'=>hp p' (xbl _ hp')
    obtain⟨i,hi⟩:=hp p xbp;obtain⟨us,o,n,a1,a2,a3,a4,a5⟩:=tup i p hi;obtain⟨pa,pn⟩:=p;dsimp only at a1 a2 a3 a4 a5;cases a1 with
    | nil=>exact absurd rfl a5
    | cons x t r=>exact⟨Value.int x t::fs,KatTups.cons a2 a3 a4 rfl b1,by rw[xbr,xbr,b2],fun v hv=>(xcc.mp hv).elim (fun z=>⟨x,t,z⟩) (b3 v)⟩
  obtain⟨fs,b1,b2,b3⟩:=kt ps fun p hp=>List.mem_iff_getElem?.mp hp
  exact kat_kind (T:=.type "int") b1 (by lia) (fun v hv=>by
   obtain⟨i,t,rfl⟩:=b3 v hv
   exact Looks.of_pure rfl) rfl hq
 ·rw[xbc] at hi hj;have ei:ps[i]?=some ps[i]:=xbf hi;have ej:ps[j]?=some ps[j]:=xbf hj;obtain⟨us,o,n,a1,a2,a3,a4,a5⟩:=tup i _ ei;obtain⟨us2,o2,n2,c1,c2,c3,c4,c5⟩:=tup j _ ej;unfold kas_ask;rw[zg (fun p:Addr×List Int=>Value.ref p.1) _ ei,zg (fun p:Addr×List Int=>Value.ref p.1) _ ej];refine kat_lt a2 a4 c2 c4 (Srt.znq 0 a1 c1 ?_);rw[Srt.zmz (by rw[xbc];exact hi) (by rw[xbc];exact hj),zg (fun p:Addr×List Int=>p.2) _ ei,zg (fun p:Addr×List Int=>p.2) _ ej] at hC;exact hC
theorem zng {ps:List (Addr×List Int)}{p:Array Nat}(p1:p.Perm (List.toArray (List.range ps.length)))(p2:Srt.Up (Srt.rank (ps.map (·.2))) p ps.length) :
  ∃qs:List (Addr×List Int),qs.Perm ps/\(qs.map (·.2)).Pairwise (fun x y=>HT.lexLt y x=false)/\Srt.outOf (ps.map fun p=>Value.ref p.1) p=(qs.map fun p=>Value.ref p.1).toArray:=by
 have hps:p.size=ps.length:=by rw[p1.size_eq];simp
 have sm:∀i∈p.toList,i < ps.length:=fun i hi=>by
  have h3:=(p1.mem_iff (a:=i)).mp (by rw[← Array.mem_toList_iff];exact hi);exact xdr.mp (List.mem_toArray.mp h3)
 refine⟨p.toList.map fun i=>ps.getD i (0,[]),?_,?_,?_⟩
 ·have e1:p.toList.Perm (List.range ps.length):=by
   have:=xfj.mp p1
   simpa using this
  have e2:=e1.map fun i=>ps.getD i (0,[])
  have e3:((List.range ps.length).map fun i=>ps.getD i (0,[]))=ps:=by
   apply xkt
   ·simp
   ·intro i h1 h2;simp[xbt,h2]
  rw[e3] at e2;exact e2
 ·rw[xde,xig];intro i j hi hj hij;rw[xku,xku];rw[xbc] at hi hj;have hi':i < p.size:=by simpa using hi
  have hj':j < p.size:=by simpa using hj
  have hu:=p2 i j (xbu hij) (by lia);have g:∀k,(hk:k < p.toList.length)->p.getD k 0=p.toList[k]:=fun k hk=>by
   have hk':k < p.size:=by simpa using hk
   rw[Array.getD_eq_getD_getElem?,xif hk'];simp
  have si:=sm _ (xee hi);have sj:=sm _ (xee hj);have lk:=Srt.zmz (ks:=ps.map (·.2)) (i:=p.toList[j]) (j:=p.toList[i]) (by rw[xbc];exact sj) (by rw[xbc];exact si);have hno:Srt.lt (Srt.rank (ps.map (·.2))) p.toList[j] p.toList[i]=false:=by
   refine xcj fun z=>?_
   unfold Srt.At at hu;rw[g i hi,g j hj] at hu;lia
  rw[hno] at lk;have v:∀k,k < ps.length->(ps.map (·.2)).getD k []=(ps.getD k (0,[])).2:=fun k hk=>by
   have ek:ps[k]?=some ps[k]:=xbf hk;rw[zg (fun p:Addr×List Int=>p.2) _ ek,xbt,ek]
   rfl
  rw[v _ sj,v _ si] at lk;exact lk.symm
 ·unfold Srt.outOf;rw[xde]
  congr 1
  refine xfz fun i hi=>?_
  have hi2:=sm i hi;have ei:ps[i]?=some ps[i]:=xbf hi2;rw[zg (fun p:Addr×List Int=>Value.ref p.1) _ ei];show _=Value.ref (ps.getD i (0,[])).1;rw[xbt,ei]
  rfl
section
variable {X:Cx}
end
section
variable {X:Cx}{aU:List (Addr×Obj)}{σ:St}{H:Hp}{s:Shared}
theorem Inv.freeze {a:Addr}{kvs:List (List Key×V)}{ob:Obj}(I:Inv X aU σ H s)(h:H a=some (.dT kvs))(e:s.heap.get? a=some ob):Inv X aU σ (upd H a (.frz ob (.dT kvs))) s:=by
 have off:∀{b:Addr} {u:HO},H b=some u->(∀l,u≠.dT l)->upd H a (.frz ob (.dT kvs)) b=some u:=fun {b u} q n=>by
  rw[zn (by rintro rfl;rw[h] at q;cases q;exact n _ rfl)];exact q
 have z:=I.un (h':=s.heap) (t':=s.toks) (H':=upd H a (.frz ob (.dT kvs))) ⟨fun b u q _ _ _=>q,fun b u q _ _ _=>⟨u.slots,q⟩,fun b u q n _=>by
   rw[zn (by rintro rfl;rw[h] at n;cases n)];exact n,fun b u q _=>⟨u,q⟩,fun b xs q=>off q (fun l z=>by cases z),fun b o u q=>off q (fun l z=>by cases z),fun b ps q=>⟨#[],by rw[off q (fun l z=>by cases z)];simp⟩⟩ (fun b u q=>by
   by_cases hb:b=a
   ·subst hb;rw[zk] at q;cases q;exact⟨e,(I.hok b _ h).stay (fun c v _ r=>r) (fun c r=>off r (fun l z=>by cases z)) fun c xs r=>off r (fun l z=>by cases z)⟩
   ·rw[zn hb] at q
    exact(I.hok b u q).stay (fun c v _ r=>r) (fun c r=>off r (fun l z=>by cases z)) fun c xs r=>off r (fun l z=>by cases z))
 exact z
end
noncomputable def Itd (a:Addr) (ob:Obj) (kvs:List (List Key×V)) (ps:List (Addr×List Int)):It :=
 ⟨fun i H=>i < ps.length/\H a=some (.frz ob (.dT kvs)),fun i H x H'=>H'=H/\∃p,ps[i]?=some p/\x=.ref p.1,fun i H=>ps.length<=i/\H a=some (.frz ob (.dT kvs))⟩
theorem zpt {P:Program}{w:World}{K:Fg}{tg:Expr}{a it:Addr}{ob:Obj}{kvs:List (List Key×V)}{ps:List (Addr×List Int)}{es:Array DictEntry}{ep:Nat}(ex:ob.ExactDict)(dt:ob.data=.dict es ep)
  (hk:es.toList.map (·.key)=ps.map fun p=>Value.ref p.1):Turn P w K tg (Itd a ob kvs ps) [it] it (fun i h=>h.IsKeyIter it a i es.size ep) where
 mem:=xbw.mpr rfl
 obj:=fun i h st b hb=>by
  have e:b=it:=xbw.mp hb;subst e;obtain⟨o,e,c,d⟩:=st;exact⟨o,e,fun v z=>by rw[d] at z;cases z⟩
 keep:=fun i h h' st k=>st.at fun o e=>k it (xbw.mpr rfl) o e
 item:=by
  intro Y hP hw hK hc i aU s σ H E I hf st hg;subst hP hw hK;obtain⟨hi,hz⟩:=hg;have hsz:es.size=ps.length:=by
   have:=congrArg List.length hk
   rwa [xbc,xbc,xbv] at this
  obtain⟨eo,_⟩:=(show ObjOk Y.prog Y.w H s.heap a (.frz ob (.dT kvs)) from I.hok a _ hz)
  obtain⟨f0,f1,f2,f3,f4,f5⟩:=hf it (xbw.mpr rfl);have hen:es[i]?=some es[i]:=xif (by lia);have hpi:ps[i]?=some ps[i]:=xbf hi;have hkey:es[i].key=Value.ref ps[i].1:=by
   have q:=congrArg (fun l=>l[i]?) hk;simp only[xcb,xcf,hen,hpi] at q;exact xcd q
  refine Dct.zmx st ⟨ob,eo,ex,dt⟩ hen fun g st' sb=>?_
  have I1:Inv Y aU σ H {s with heap:=g}:=I.turned (t':=s.toks) (fun b o hb e=>sb.extBut b o hb e) f0 f1 f3 f4 f5;obtain⟨o,e,c,d⟩:=id st';exact⟨_,rfl,zzt (s:={s with heap:=g}) e c d (by decide) ⟨.ref ps[i].1,H,I1,hkey,⟨rfl,ps[i],hpi,rfl⟩,st',fun b hb=>(hf b hb).1⟩⟩
 done:=by
  intro Y hP hw hK hc i aU s σ H E I hf st hg;subst hP hw hK;obtain⟨hi,hz⟩:=hg;have hsz:es.size=ps.length:=by
   have:=congrArg List.length hk
   rwa [xbc,xbc,xbv] at this
  obtain⟨eo,_⟩:=(show ObjOk Y.prog Y.w H s.heap a (.frz ob (.dT kvs)) from I.hok a _ hz)
  obtain⟨f0,f1,f2,f3,f4,f5⟩:=hf it (xbw.mpr rfl);exact Dct.zsg (I.ok.hd hc) st ⟨ob,eo,ex,dt⟩ (by lia) fun g eb=>⟨rfl,I.turned (t':=s.toks) (fun b o hb e=>eb b o hb e) f0 f1 f3 f4 f5⟩
 self:=fun _ _ _ _ _ st h=>wpAny_pyIter_keyiter st h
noncomputable def iDct (td:TE):TI:=fun σ H R=>td σ H fun x H1=>∃(a:Addr) (kvs:List (List Key×V)) (ks:List (List Int)),x=.ref a/\H1 a=some (.dT kvs)/\kvs.map (·.1)=ks.map (fun ns=>ns.map Sum.inl) /\
 ∀(ob:Obj) (ps:List (Addr×List Int)),ps.map (·.2)=ks->(∀p∈ps,H1 p.1=some (.tup (p.2.map V.int)))->R (Itd a ob kvs ps) (upd H1 a (.frz ob (.dT kvs)))
theorem zyg {X:Cx}{tg l:Expr}{td:TE}(hl:PE X l td):PI X tg l (iDct td):=by
 intro aU s σ H R I h;refine thn (hl aU s σ H _ I h) fun v s1 hq0=>?_
 obtain⟨x,H1,I1,r1,q1⟩:=hq0;obtain⟨a,kvs,ks,rfl,hd,ek,q⟩:=q1;cases r1;obtain⟨z,ns,ys,rel,ob,es,ep,e1,e2,e3,e4,e5⟩:=(show ObjOk X.prog X.w H1 s1.heap a (.dT kvs) from I1.hok a _ hd)
 obtain⟨ps,a1,a2,a3⟩:=zih (P:=X.prog) (w:=X.w) rel ek;have hes:es.toList.map (·.key)=ps.map fun p=>Value.ref p.1:=by rw[e4,xde];exact a3
 refine Dct.zmy ns ⟨ob,e1,e2,e3⟩ ?_;have I2:=I1.freeze hd e1;refine⟨s1.heap.objs.size,[s1.heap.objs.size],_,_,_,rfl,I2.kept (t':=s1.toks) fun b o e=>xbj _ e,zpt e2 e3 hes,⟨_,xbz _ rfl,rfl,rfl⟩,fun b hb=>?_,q ob ps a1 a2⟩;have e:b=s1.heap.objs.size:=xbw.mp hb;subst e;exact I2.fpOk (xbd _) (I2.hok.fresh (xbd _))
section
variable {g:TG}{tc:TT}{te:TE}{Q:VK}{σ:St}{H:Hp}{p:Addr}
end
end L2
namespace L2
open PySem PySem.Spec PyProof.Rows PySem.W
noncomputable def TupsG (g:Heap) (ps:List (Addr×List Int)):Prop:=∀ p∈ps, ∃(us:List Value) (o:Obj) (n:Nat), IntsAre us p.2/\g.get? p.1=some o/\o.cls=.type "tuple"/\o.data=.seq us.toArray n
section
variable {P:Program}{w:World}{B:Around}{E:Value->Shared->Prop}{sg:Shared}
theorem zkr:∀{ps:List (Addr×List Int)},TupsG sg.heap ps->∃fs:List (Option Value),fs.map Option.isSome=ps.map (fun p=>!p.2.isEmpty)/\∀(W:List (Option Value)->Shared->Prop),W fs sg->wpAny (model P w) B ((ps.map fun p=>Value.ref p.1).mapM firstOfTuple') W E sg
 | [],_=>⟨[],rfl,fun W h=>by rw[xik,List.mapM_nil];exact xbe h⟩
 | p::ps,h=>by
  obtain⟨fs,f1,f2⟩:=zkr (ps:=ps) fun q hq=>h q (xbl _ hq)
  obtain⟨us,o,n,a1,a2,a3,a4⟩:=h p xbp;refine⟨us.toArray[0]?::fs,?_,fun W hW=>?_⟩
  ·rw[xbh,xbh,f1]
   congr 1
   obtain⟨pa,pn⟩:=p;dsimp only at a1 ⊢;cases a1 with
   | nil=>rfl
   | cons x t r=>rfl
  ·rw[xbh,List.mapM_cons];have ty:Looks (model P w) sg.heap (typeOf (.ref p.1)) o.cls:=(Looks.ld a2).andThen .now;refine xba ?_;rw[kas_first_eq];refine xba (Looks.here ty ?_);rw[a3,if_neg (by first | decide | simp)];exact xba (listItems_at a2 a4 (xbe (xba (f2 _ (xbe hW)))))
theorem znp (x y:Value):keyLt' general' x y=oneLt' false x y:=rfl
theorem zwe {κ:SortKind}(hκ:κ=general'\/κ=oneType')(hu:B.units < cLine){a b:Addr×List Int}(ha:TupsG sg.heap [a])(hb:TupsG sg.heap [b]){C:Bool->Shared->Prop}(hC:C (HT.lexLt a.2 b.2) sg) :
  wpAny (model P w) B (keyLt' κ (.ref a.1) (.ref b.1)) C E sg:=by
 obtain⟨us,o,n,a1,a2,a3,a4⟩:=ha a xbp;obtain⟨us2,o2,n2,b1,b2,b3,b4⟩:=hb b xbp;rcases hκ with rfl | rfl
 ·rw[znp];exact kat_one _ _ (HT.zhz (items:=us.toArray) (items2:=us2.toArray) ⟨o,a2,a3,n,a4⟩ ⟨o2,b2,b3,n2,b4⟩ a1 b1 hu hC)
 ·rw[keyLt'_oneType,oneLt'_eq];simp only[ite_true];refine xba (wpAny_cRoomFor hu (xba (wpAny_callSpecialIfBound?_slot (T:="tuple") ⟨o, a2, a3⟩ xjn ?_)))
  obtain⟨cls,dd,data,sl⟩:=o;obtain⟨cls2,dd2,data2,sl2⟩:=o2;dsimp only at a3 a4 b3 b4;subst a3 a4 b3 b4;exact call_meets xjn ⟨_,a2,rfl⟩ F.entry_tuple_lt (F.args_tuple_lt_2 _ _) (HT.zeo a.1 b.1 us.toArray us2.toArray n n2 dd dd2 sl sl2 a.2 b.2 a1 b1) ⟨a2,b2,xff hC⟩
theorem zwh {ps:List (Addr×List Int)}(hu:B.units < cLine)(tup:TupsG sg.heap ps)(emp:∃p∈ps,p.2=[]):Srt.Answers P w B (Srt.rank (ps.map (·.2))) (ps.map fun p=>Value.ref p.1) sg:=by
 obtain⟨fs,f1,f2⟩:=zkr (P:=P) (w:=w) (B:=B) (E:=fun _ _=>False) tup;have notAll:¬ (fs.toArray.all fun x=>x.isSome)=true:=fun z=>by
  have z':fs.all (fun x=>x.isSome)=true:=by simpa using z
  obtain⟨p,hp,he⟩:=emp;have m:(!p.2.isEmpty)∈fs.map Option.isSome:=by rw[f1];exact List.mem_map_of_mem (f:=fun p:Addr×List Int=>!p.2.isEmpty) hp
  obtain⟨o,ho,e⟩:=xdk.mp m;have:=xgd.mp z' o ho;rw[e,he] at this;cases this
 have cmp:∀{κ:SortKind},κ=general'\/κ=oneType'->∀i j C,i < (ps.map fun p=>Value.ref p.1).length->j < (ps.map fun p=>Value.ref p.1).length->C (Srt.lt (Srt.rank (ps.map (·.2))) i j) sg->kas_ask P w B κ (ps.map fun p=>Value.ref p.1) i j C sg:=fun {κ} hκ i j C hi hj hC=>by
  rw[xbc] at hi hj;have ei:ps[i]?=some ps[i]:=xbf hi;have ej:ps[j]?=some ps[j]:=xbf hj;unfold kas_ask;rw[zg (fun p:Addr×List Int=>Value.ref p.1) _ ei,zg (fun p:Addr×List Int=>Value.ref p.1) _ ej];rw[Srt.zmz (by rw[xbc];exact hi) (by rw[xbc];exact hj),zg (fun p:Addr×List Int=>p.2) _ ei,zg (fun p:Addr×List Int=>p.2) _ ej] at hC;have one:∀k,(hk:k < ps.length)->TupsG sg.heap [ps[k]]:=fun k hk q hq=>by
   rw[xbw.mp hq];exact tup _ (xee hk)
  exact zwe hκ hu (one i hi) (one j hj) hC
 by_cases fst:(fs.toArray[0]?.bind id).isSome=true
 ·refine⟨general',fun R hR=>?_,cmp (.inl rfl)⟩;rw[kat_kind_eq,xkp,xkz];refine xba (xba (f2 _ (xbe ?_)));rw[if_neg notAll,if_pos fst];exact xbe hR
 ·refine⟨oneType',fun R hR=>?_,cmp (.inr rfl)⟩;rw[kat_kind_eq,xkp,xkz];refine xba (xba (f2 _ (xbe ?_)));rw[if_neg notAll,if_neg fst,oneTypeOnly'_eq,xkp,xkz];have ty:∀ v∈(ps.map fun p=>Value.ref p.1), ∀ W:Value->Shared->Prop, W (.type "tuple") sg->wpAny (model P w) B (typeOf v) W (fun _ _=>False) sg:=fun v hv W hW=>by
   obtain⟨p,hp,rfl⟩:=xdk.mp hv;obtain⟨us,o,n,a1,a2,a3,a4⟩:=tup p hp;have lk:Looks (model P w) sg.heap (typeOf (.ref p.1)) o.cls:=(Looks.ld a2).andThen .now;rw[a3] at lk;exact lk.here hW
  refine xba (xba (xba (kas_mapM (r:=Value.type "tuple") _ ty (xbe ?_))))
  obtain⟨p,hp,_⟩:=emp;obtain⟨p0,rest,rfl⟩:∃p0 rest,ps=p0::rest:=by
   cases ps with
   | nil=>exact nomatch hp
   | cons p0 rest=>exact⟨p0,rest,rfl⟩
  have all:((List.map (fun _=>Value.type "tuple") ((p0::rest).map fun p=>Value.ref p.1)).toArray.all fun x=>x==Value.type "tuple")=true:=by
   rw[List.all_toArray,xgd];intro x hx;obtain⟨_,_,rfl⟩:=xdk.mp hx
   rfl
  have zero:(List.map (fun _=>Value.type "tuple") ((p0::rest).map fun p=>Value.ref p.1)).toArray[0]?=some (Value.type "tuple"):=by simp
  rw[zero];simp only[all,ite_true];exact xbe (xbe hR)
theorem ztc {ps:List (Addr×List Int)}(hu:B.units < cLine)(h2:2<=ps.length)(tup:TupsG sg.heap ps):Srt.Answers P w B (Srt.rank (ps.map (·.2))) (ps.map fun p=>Value.ref p.1) sg:=by
 by_cases c:∃p∈ps,p.2=[]
 ·exact zwh hu tup c
 ·refine zwg h2 fun i p hi=>?_
  have hp:=xby hi;obtain⟨us,o,n,a1,a2,a3,a4⟩:=tup p hp;exact⟨us,o,n,a1,a2,a3,a4,fun z=>c ⟨p,hp,z⟩⟩
end
theorem zfe (z:List (Addr×List Int)):Vals (z.map fun p=>V.ref p.1) (z.map fun p=>Value.ref p.1):=by
 induction z with
 | nil=>exact .nil
 | cons x z ih=>exact .cons rfl ih
section
variable {X:Cx}
end
end L2
namespace TS
open PySem PyProof.Rows
noncomputable def kA (R:Keyed->Nat) (xs:Array Keyed) (i:Nat):Nat:=match xs[i]? with
 | some p=>R p
 | none=>0
theorem zcr {R:Keyed->Nat}{xs ys:Array Keyed}{i j:Nat}(h:xs[i]?=ys[j]?):kA R xs i=kA R ys j:=by unfold kA;rw[h]
theorem zcw {R:Keyed->Nat}{xs:Array Keyed}{i:Nat}{x:Keyed}(h:xs[i]?=some x):kA R xs i=R x:=by unfold kA;rw[h]
noncomputable def UpA (R:Keyed->Nat) (xs:Array Keyed) (a b:Nat):Prop:=∀i j,a<=i->i<=j->j < b->kA R xs i<=kA R xs j
noncomputable def DnA (R:Keyed->Nat) (xs:Array Keyed) (a b:Nat):Prop:=∀i j,a<=i->i<=j->j < b->kA R xs j<=kA R xs i
section
variable {prog:Program}{w:World}{A:Around}{E:Value->Shared->Prop}{s:Shared}{κ:SortKind}{a₀:Array Keyed}{R:Keyed->Nat}
noncomputable def Orc (prog:Program) (w:World) (A:Around) (s:Shared) (κ:SortKind) (a₀:Array Keyed) (R:Keyed->Nat):Prop :=
 ∀x,x∈a₀.toList->∀y,y∈a₀.toList->∀(C:Bool->Shared->Prop),C (decide (R x < R y)) s->wpAny (model prog w) A (keyLt' κ x.1 y.1) C (fun _ _=>False) s
structure B (κ:SortKind) (a₀:Array Keyed) (st:SortSt):Prop where
 perm:(arrOf st).Perm a₀
 kind:kindOf st=κ
 failed:failedOf st=none
theorem B.size {st:SortSt}(h:B κ a₀ st):(arrOf st).size=a₀.size:=h.perm.size_eq
theorem B.set {st:SortSt}(h:B κ a₀ st){xs:Array Keyed}(hp:xs.Perm (arrOf st)):B κ a₀ (setArr st xs):=⟨hp.trans h.perm,h.kind,h.failed⟩
theorem B.mem {st:SortSt}(h:B κ a₀ st){i:Nat}(hi:i < a₀.size):∃x,(arrOf st)[i]?=some x/\x∈a₀.toList:=by
 have hi':i < (arrOf st).size:=by rw[h.size];exact hi
 exact⟨_,getElem?_pos _ i hi',(xfj.mp h.perm).mem_iff.mp (by simp)⟩
theorem w_lt {x y:Keyed}{st:SortSt}{Q:Option Bool->SortSt->Prop}(O:Orc prog w A s κ a₀ R)(hk:kindOf st=κ)(hx:x∈a₀.toList)(hy:y∈a₀.toList)(h:Q (some (decide (R x < R y))) st):wpS (model prog w) A E s (lt' x y) Q st:=by
 rw[lt'_eq];refine xbi (xgz ?_);rw[hk];refine xbi (xjm (wpAny_attempt (xep (O x hx y hy (fun b s'=>s'=s/\b=decide (R x < R y)) ⟨rfl,rfl⟩) (fun b s' hb=>?_) fun _ _ f=>f.elim)));obtain⟨rfl,rfl⟩:=hb;exact⟨rfl,xbk h⟩
theorem zhs {arr:Array Keyed}{i:Nat}{x:Keyed}{st:SortSt}{Q:Keyed->SortSt->Prop}(e:arr[i]?=some x)(h:Q x st):wpS (model prog w) A E s (elem' arr i) Q st:=by
 rw[elem'_eq,e];exact xbk h
theorem zio {i j:Nat}{st:SortSt}{Q:Option Bool->SortSt->Prop}(O:Orc prog w A s κ a₀ R)(b:B κ a₀ st)(hi:i < a₀.size)(hj:j < a₀.size)(h:Q (some (decide (kA R (arrOf st) i < kA R (arrOf st) j))) st):wpS (model prog w) A E s (ltAt' i j) Q st:=by
 obtain⟨x,e1,m1⟩:=b.mem hi;obtain⟨y,e2,m2⟩:=b.mem hj;rw[zcw e1,zcw e2] at h;rw[ltAt'_eq];exact xbi (xgz (xbi (zhs e1 (xbi (zhs e2 (w_lt O b.kind m1 m2 h))))))
theorem zpm {i j:Nat}{st:SortSt}{Q:Unit->SortSt->Prop}(h:Q () (setArr st (mirror (arrOf st) i j ((j - i) / 2)))):wpS (model prog w) A E s (reverseSlice' i j) Q st:=by
 rw[reverseSlice'_eq];exact xgf h
theorem zbci {i j:Nat}{st:SortSt}{Q:Unit->SortSt->Prop}(h:Q () (setArr st (bubble (arrOf st) i (i - j)))):wpS (model prog w) A E s (moveDown' i j) Q st:=by
 rw[moveDown'_eq];exact xgf h
theorem zwq {lo x n N:Nat}(h:x < n)(hn:lo+n<=N):lo+x < N:=xbg (xdu h lo) hn
theorem zwp {lo x n N:Nat}(h:x < n)(hn:lo+n<=N):lo+x - 1 < N:=xcv (xfr _ _) (zwq h hn)
theorem znw {lo n:Nat}(h:1<=n):lo+n - 1 < lo+n:=xhb (xbg h (xlc _ _)) Nat.one_pos
theorem zbcf {j lo n:Nat}(h:j < lo+(n+1))(e:¬j=lo+n):j < lo+n:=xcw (xcu h) e
theorem zzd {i j k:Nat}(c2:k < j):i<=i+j - 1 - k:=Nat.le_sub_of_add_le (xcy (xdu c2 i))
theorem zze {i j k:Nat}(c1:i<=k)(c2:k < j):i+j - 1 - k < j:=xcv (xga c1 _) (by rw[Nat.sub_right_comm,xcr];exact xhb (xja c2) Nat.one_pos)
theorem zhd {xs:Array Keyed}{i j:Nat}(hj:j<=xs.size)(k:Nat):kA R (mirror xs i j ((j - i) / 2)) k=if i<=k/\k < j then kA R xs (i+j - 1 - k) else kA R xs k:=by
 have e:=getElem?_mirror_all (i:=i) hj k;split
 ·rename_i c;rw[if_pos c] at e;exact zcr e
 ·rename_i c;rw[if_neg c] at e;exact zcr e
noncomputable def Out (xs ys:Array Keyed) (a b:Nat):Prop:=∀k,k < a\/b<=k->xs[k]?=ys[k]?
theorem Out.refl (xs:Array Keyed)(a b:Nat):Out xs xs a b:=fun _ _=>rfl
theorem Out.trans {xs ys zs:Array Keyed}{a b:Nat}(h1:Out xs ys a b)(h2:Out ys zs a b):Out xs zs a b:=fun k hk=>(h1 k hk).trans (h2 k hk)
theorem Out.mirror {xs:Array Keyed}{i j a b:Nat}(hj:j<=xs.size)(hi:a<=i)(hb:j<=b):Out (mirror xs i j ((j - i) / 2)) xs a b:=fun k hk=>by
 rw[getElem?_mirror_all (i:=i) hj k,if_neg fun z=>hk.elim (fun h=>xef (xbb hi z.1) h) fun h=>xef (xbb hb h) z.2]
theorem Out.bubble {xs:Array Keyed}{src d a b:Nat}(hs:src < xs.size)(hd:d<=src)(ha:a<=src - d)(hb:src < b):Out (bubble xs src d) xs a b:=fun k hk=>by
 rw[getElem?_bubble hs d hd k,if_neg fun z=>hk.elim (fun h=>xef (xbb ha (xdc z.symm)) h) fun h=>xef h (xcv (xbb (xdc z) (xfr _ _)) hb),if_neg fun z=>hk.elim (fun h=>xef (xbb ha (xbu z.1)) h) fun h=>xef h (xcv z.2 hb)]
structure Sm (st st':SortSt) (a b:Nat):Prop where
 out:Out (arrOf st') (arrOf st) a b
 pend:pendingOf st'=pendingOf st
theorem zwx {lo a nrem:Nat}{st:SortSt}{Q:Option (Option Nat)×Nat->SortSt->Prop}(O:Orc prog w A s κ a₀ R)(b:B κ a₀ st)(hn:lo+nrem<=a₀.size)(ha:1<=a)(han:a<=nrem)(hs:UpA R (arrOf st) lo (lo+a))
  (h:∀n,a<=n->n<=nrem->UpA R (arrOf st) lo (lo+n)->(n=nrem\/kA R (arrOf st) (lo+n) < kA R (arrOf st) (lo+n - 1))->Q (none,n) st) :
  wpS (model prog w) A E s (forIn [a:nrem] ((none,a):Option (Option Nat)×Nat) fun _ r=>do
   let x ← ltAt' (lo+r.2) (lo+r.2 - 1)
   match x with
   | some smaller=>if smaller=true then pure (ForInStep.done (none,r.2)) else pure (ForInStep.yield (none,r.2+1))
   | _=>pure (ForInStep.done (some none,r.2))) Q st:=by
 refine xdh (I:=fun x c st'=>st'=st/\c=(none,x)/\UpA R (arrOf st) lo (lo+x)) ?_ ?_ ⟨rfl,rfl,hs⟩
 ·rintro x c st' h1 h2 ⟨rfl,rfl,h3⟩;dsimp only;refine xbi (zio O b (zwq h2 hn) (zwp h2 hn) ?_);by_cases c:kA R (arrOf st') (lo+x) < kA R (arrOf st') (lo+x - 1)
  ·simp only[c,xhj,xfw];exact xbk (h x h1 (xbu h2) h3 (.inr c))
  ·simp only[c,xhq,xck,xdo];refine xbk ⟨rfl,rfl,fun i j hi hij hj=>?_⟩;by_cases e:j=lo+x
   ·subst e;by_cases e2:i=lo+x
    ·rw[e2];exact xbd _
    ·exact xbb (h3 i (lo+x - 1) hi (xcy (xcw hij e2)) (znw (xbb ha h1))) (xca c)
   ·exact h3 i j hi hij (zbcf hj e)
 ·rintro c st' ⟨rfl,rfl,h3⟩;rw[xkv han] at h3 ⊢;exact h nrem han (xbd _) h3 (.inl rfl)
theorem zfo {xs:Array Keyed}{i j:Nat}(hj:j<=xs.size)(he:∀k,i<=k->k < j->kA R xs k=kA R xs (j - 1))(k:Nat):kA R (mirror xs i j ((j - i) / 2)) k=kA R xs k:=by
 rw[zhd hj];split
 ·rename_i c;rw[he _ (zzd c.2) (zze c.1 c.2),he k c.1 c.2]
 ·rfl
structure Fl (κ:SortKind) (a₀:Array Keyed) (R:Keyed->Nat) (st₀ st:SortSt) (lo n neq b:Nat):Prop where
 base:B κ a₀ st
 same:Sm st₀ st lo b
 dn:DnA R (arrOf st) lo (lo+n)
 hq:neq+1<=n
 eqs:∀i,lo+n - (neq+1)<=i->i < lo+n->kA R (arrOf st) i=kA R (arrOf st) (lo+n - 1)
theorem Fl.turn {st₀ st:SortSt}{lo n neq b:Nat}(h:Fl κ a₀ R st₀ st lo n neq b)(hb:lo+n<=b)(hs:b<=a₀.size) :
  Fl κ a₀ R st₀ (setArr st (mirror (arrOf st) (lo+n - (neq+1)) (lo+n) ((lo+n - (lo+n - (neq+1))) / 2))) lo n neq b/\∀k,kA R (mirror (arrOf st) (lo+n - (neq+1)) (lo+n) ((lo+n - (lo+n - (neq+1))) / 2)) k=kA R (arrOf st) k:=by
 have hz:=h.base.size;have hq:=h.hq;have hle:lo+n<=(arrOf st).size:=by rw[hz];exact xbb hb hs
 have e:=zfo (R:=R) (xs:=arrOf st) (i:=lo+n - (neq+1)) (j:=lo+n) hle h.eqs;refine⟨⟨h.base.set (mirror_perm _ _ _ _),⟨(Out.mirror hle (Nat.le_sub_of_add_le (xch hq lo)) hb).trans h.same.out,h.same.pend⟩,fun i j a1 a2 a3=>?_,h.hq,fun i a1 a2=>?_⟩,e⟩
 ·show kA R (mirror _ _ _ _) j<=kA R (mirror _ _ _ _) i;rw[e,e];exact h.dn i j a1 a2 a3
 ·show kA R (mirror _ _ _ _) i=kA R (mirror _ _ _ _) _;rw[e,e];exact h.eqs i a1 a2
theorem Fl.less {st₀ st:SortSt}{lo n neq b:Nat}(h:Fl κ a₀ R st₀ st lo n neq b)(c:kA R (arrOf st) (lo+n)<=kA R (arrOf st) (lo+n - 1)):DnA R (arrOf st) lo (lo+(n+1)):=fun i j a1 a2 a3=>by
 have hq:=h.hq;by_cases e:j=lo+n
 ·subst e;by_cases e2:i=lo+n
  ·rw[e2];exact xbd _
  ·exact xbb c (h.dn i (lo+n - 1) a1 (xcy (xcw a2 e2)) (znw (xbb (xlc 1 neq) hq)))
 ·exact h.dn i j a1 a2 (zbcf a3 e)
theorem Fl.fresh {st₀ st:SortSt}{lo n neq b:Nat}(h:Fl κ a₀ R st₀ st lo n neq b)(c:kA R (arrOf st) (lo+n)<=kA R (arrOf st) (lo+n - 1)):Fl κ a₀ R st₀ st lo (n+1) 0 b:=⟨h.base,h.same,h.less c,xeo (xed _),fun i g1 g2=>by
 have:i=lo+(n+1) - 1:=xdm (xcu g2) g1
 rw[this]⟩
theorem Fl.more {st₀ st:SortSt}{lo n neq b:Nat}(h:Fl κ a₀ R st₀ st lo n neq b)(c:kA R (arrOf st) (lo+n)=kA R (arrOf st) (lo+n - 1)):Fl κ a₀ R st₀ st lo (n+1) (neq+1) b:=by
 have hq:=h.hq;refine⟨h.base,h.same,h.less (xdc c),xeo hq,fun i g1 g2=>?_⟩;rw[show lo+(n+1) - 1=lo+n from rfl];by_cases e:i=lo+n
 ·rw[e]
 ·rw[c];exact h.eqs i (xbb (xdc (Nat.succ_sub_succ (lo+n) (neq+1)).symm) g1) (zbcf g2 e)
theorem zww {lo nrem:Nat}{st:SortSt}{Q:Option Nat->SortSt->Prop}(O:Orc prog w A s κ a₀ R)(b:B κ a₀ st)(hn:lo+nrem<=a₀.size)(h1:1<=nrem)
  (h:∀m st',1<=m->m<=nrem->B κ a₀ st'->Sm st st' lo (lo+nrem)->UpA R (arrOf st') lo (lo+m)->Q (some m) st'):wpS (model prog w) A E s (countRun' lo nrem) Q st:=by
 have sm0:Sm st st lo (lo+nrem):=⟨Out.refl _ _ _,rfl⟩
 have one:∀xs:Array Keyed,UpA R xs lo (lo+1):=fun xs i j a1 a2 a3=>by
  have:i=j:=xdm a2 (xbb (xcu a3) a1);subst this;exact xbd _
 have oneD:∀xs:Array Keyed,DnA R xs lo (lo+1):=fun xs i j a1 a2 a3=>by
  have:i=j:=xdm a2 (xbb (xcu a3) a1);subst this;exact xbd _
 rw[countRun'_eq];dsimp only;refine xbi (zwx O b hn (xbd _) h1 (one _) fun n n1 n2 hu hlast=>?_);dsimp only;split
 ·exact xbk (h n st n1 n2 b sm0 hu)
 rename_i hne;have hne':n≠nrem:=fun z=>hne (by simp[z])
 have hlt:n < nrem:=xcw n2 hne';have hl:kA R (arrOf st) (lo+n) < kA R (arrOf st) (lo+n - 1):=by
  rcases hlast with z | z
  ·exact absurd z hne'
  ·exact z
 have hz:=b.size;have fin:∀(n:Nat) (st1:SortSt),B κ a₀ st1->Sm st st1 lo (lo+nrem)->1<=n->n<=nrem->DnA R (arrOf st1) lo (lo+n) ->
   B κ a₀ (setArr st1 (mirror (arrOf st1) lo (lo+n) ((lo+n - lo) / 2)))/\Sm st (setArr st1 (mirror (arrOf st1) lo (lo+n) ((lo+n - lo) / 2))) lo (lo+nrem)/\UpA R (mirror (arrOf st1) lo (lo+n) ((lo+n - lo) / 2)) lo (lo+n):=fun n st1 b1 sm1 m1 m2 dn1=>by
  have hz:=b1.size;have hm:=xch m2 lo;have hle:lo+n<=(arrOf st1).size:=by rw[hz];exact xbb hm hn
  refine⟨b1.set (mirror_perm _ _ _ _),⟨(Out.mirror hle (xbd _) hm).trans sm1.out,sm1.pend⟩,fun i j a1 a2 a3=>?_⟩;have hi:=xcv a2 a3;rw[zhd hle,zhd hle,if_pos ⟨a1,hi⟩,if_pos ⟨xbb a1 a2,a3⟩];exact dn1 _ _ (zzd a3) (xga a2 _) (zze a1 hi)
 have eqs:¬ kA R (arrOf st) lo < kA R (arrOf st) (lo+n - 1)->∀k,lo<=k->k < lo+n->kA R (arrOf st) k=kA R (arrOf st) (lo+n - 1):=fun c k k1 k2=>by
  have g1:=hu lo k (xbd _) k1 k2;have g2:=hu k (lo+n - 1) k1 (xcy k2) (znw n1);exact xdm g2 (xbb (xca c) g1)
 have dnx:∀xs:Array Keyed,(∀k,kA R xs k=kA R (arrOf st) k)->¬ kA R (arrOf st) lo < kA R (arrOf st) (lo+n - 1)->DnA R xs lo (lo+(n+1)):=fun xs e c i j a1 a2 a3=>by
  rw[e,e];by_cases e2:j=lo+n
  ·subst e2;by_cases e3:i=lo+n
   ·rw[e3];exact xbd _
   ·rw[eqs c i a1 (xcw a2 e3)];exact xbu hl
  ·have jn:=zbcf a3 e2;rw[eqs c i a1 (xcv a2 jn),eqs c j (xbb a1 a2) jn];exact xbd _
 split
 ·have hle:lo+n<=(arrOf st).size:=by rw[hz];exact xbb (xch n2 lo) hn
  refine xbi (zio O b (xbg (xgw h1) hn) (zwp hlt hn) ?_);by_cases c:kA R (arrOf st) lo < kA R (arrOf st) (lo+n - 1)
  ·simp only[c,xhj,xfw];exact xbk (h n st n1 n2 b sm0 hu)
  ·simp only[c,xhq,xck,xdo];refine xbi (zpm ?_);have b1:B κ a₀ (setArr st (mirror (arrOf st) lo (lo+n) ((lo+n - lo) / 2))):=b.set (mirror_perm _ _ _ _);have sm1:Sm st (setArr st (mirror (arrOf st) lo (lo+n) ((lo+n - lo) / 2))) lo (lo+nrem):=⟨Out.mirror hle (xbd _) (xch n2 lo),rfl⟩
   have dn1:DnA R (arrOf (setArr st (mirror (arrOf st) lo (lo+n) ((lo+n - lo) / 2)))) lo (lo+(n+1)):=dnx _ (zfo hle (eqs c)) c;generalize (setArr st (mirror (arrOf st) lo (lo+n) ((lo+n - lo) / 2)))=st1 at b1 sm1 dn1 ⊢;refine xbi (xjm (xgq ⟨rfl,?_⟩));refine xbi (xex (xdh (I:=fun x c st'=>∃neq,c=(none,x,neq)/\Fl κ a₀ R st st' lo x neq (lo+nrem)) (Q:=fun c st'=>∃m neq,c=(none,m,neq)/\n+1<=m/\m<=nrem/\Fl κ a₀ R st st' lo m neq (lo+nrem)) ?_ ?_ ?_) ?_)
   ·rintro x c st' a1 a2 ⟨neq,rfl,f⟩;dsimp only;refine xbi (zio O f.base (zwq a2 hn) (zwp a2 hn) ?_);by_cases c:kA R (arrOf st') (lo+x) < kA R (arrOf st') (lo+x - 1)
    ·simp only[c,xhj,xfw];split
     ·obtain⟨f2,e⟩:=f.turn (xch (xbu a2) lo) hn;refine xbi (zpm (xbk ⟨0,rfl,f2.fresh ?_⟩));refine xbu (?_:kA R (mirror _ _ _ _) _ < kA R (mirror _ _ _ _) _);rw[e,e];exact c
     ·exact xbk ⟨0,rfl,f.fresh (xbu c)⟩
    ·simp only[c,xhq,xck,xdo];refine xbi (zio O f.base (zwp a2 hn) (zwq a2 hn) ?_);by_cases c2:kA R (arrOf st') (lo+x - 1) < kA R (arrOf st') (lo+x)
     ·simp only[c2,xhj,xfw];exact xbk ⟨x,neq,rfl,a1,xbu a2,f⟩
     ·simp only[c2,xhq,xck,xdo];exact xbk ⟨neq+1,rfl,f.more (xdm (xca c2) (xca c))⟩
   ·rintro c st' ⟨neq,rfl,f⟩;rw[xkv hlt] at f ⊢;exact⟨nrem,neq,rfl,hlt,xbd _,f⟩
   ·exact⟨0,rfl,b1,sm1,dn1,xeo (xed _),fun i g1 g2=>by
     have:i=lo+(n+1) - 1:=xdm (xcu g2) g1
     rw[this]⟩
   ·rintro c st' ⟨m,neq,rfl,a1,a2,f⟩;dsimp only;split
    ·obtain⟨f2,e⟩:=f.turn (xch a2 lo) hn;refine xbi (zpm (xbi (zpm ?_)));obtain⟨b3,s3,u3⟩:=fin m _ f2.base f2.same (xdd a1) a2 f2.dn;exact xbi (zwx O b3 hn (xdd a1) a2 u3 fun m' m1 m2 hu' _=>xbk (h m' _ (xbb (xdd a1) m1) m2 b3 s3 hu'))
    ·refine xbi (zpm ?_);obtain⟨b3,s3,u3⟩:=fin m _ f.base f.same (xdd a1) a2 f.dn;exact xbi (zwx O b3 hn (xdd a1) a2 u3 fun m' m1 m2 hu' _=>xbk (h m' _ (xbb (xdd a1) m1) m2 b3 s3 hu'))
 ·rename_i hn1;have b1:=b;have sm1:=sm0
  have dn1:DnA R (arrOf st) lo (lo+(n+1)):=dnx _ (fun _=>rfl) (by
   have:n=1:=xdm (xca hn1) n1;subst this
   simp)
  refine xbi (xjm (xgq ⟨rfl,?_⟩));refine xbi (xex (xdh (I:=fun x c st'=>∃neq,c=(none,x,neq)/\Fl κ a₀ R st st' lo x neq (lo+nrem)) (Q:=fun c st'=>∃m neq,c=(none,m,neq)/\n+1<=m/\m<=nrem/\Fl κ a₀ R st st' lo m neq (lo+nrem)) ?_ ?_ ?_) ?_)
  ·rintro x c st' a1 a2 ⟨neq,rfl,f⟩;dsimp only;refine xbi (zio O f.base (zwq a2 hn) (zwp a2 hn) ?_);by_cases c:kA R (arrOf st') (lo+x) < kA R (arrOf st') (lo+x - 1)
   ·simp only[c,xhj,xfw];split
    ·obtain⟨f2,e⟩:=f.turn (xch (xbu a2) lo) hn;refine xbi (zpm (xbk ⟨0,rfl,f2.fresh ?_⟩));refine xbu (?_:kA R (mirror _ _ _ _) _ < kA R (mirror _ _ _ _) _);rw[e,e];exact c
    ·exact xbk ⟨0,rfl,f.fresh (xbu c)⟩
   ·simp only[c,xhq,xck,xdo];refine xbi (zio O f.base (zwp a2 hn) (zwq a2 hn) ?_);by_cases c2:kA R (arrOf st') (lo+x - 1) < kA R (arrOf st') (lo+x)
    ·simp only[c2,xhj,xfw];exact xbk ⟨x,neq,rfl,a1,xbu a2,f⟩
    ·simp only[c2,xhq,xck,xdo];exact xbk ⟨neq+1,rfl,f.more (xdm (xca c2) (xca c))⟩
  ·rintro c st' ⟨neq,rfl,f⟩;rw[xkv hlt] at f ⊢;exact⟨nrem,neq,rfl,hlt,xbd _,f⟩
  ·exact⟨0,rfl,b1,sm1,dn1,xeo (xed _),fun i g1 g2=>by
    have:i=lo+(n+1) - 1:=xdm (xcu g2) g1
    rw[this]⟩
  ·rintro c st' ⟨m,neq,rfl,a1,a2,f⟩;dsimp only;split
   ·obtain⟨f2,e⟩:=f.turn (xch a2 lo) hn;refine xbi (zpm (xbi (zpm ?_)));obtain⟨b3,s3,u3⟩:=fin m _ f2.base f2.same (xdd a1) a2 f2.dn;exact xbi (zwx O b3 hn (xdd a1) a2 u3 fun m' m1 m2 hu' _=>xbk (h m' _ (xbb (xdd a1) m1) m2 b3 s3 hu'))
   ·refine xbi (zpm ?_);obtain⟨b3,s3,u3⟩:=fin m _ f.base f.same (xdd a1) a2 f.dn;exact xbi (zwx O b3 hn (xdd a1) a2 u3 fun m' m1 m2 hu' _=>xbk (h m' _ (xbb (xdd a1) m1) m2 b3 s3 hu'))
end
section
variable {prog:Program}{w:World}{A:Around}{E:Value->Shared->Prop}{s:Shared}{κ:SortKind}{a₀:Array Keyed}{R:Keyed->Nat}
theorem zkn {xs:Array Keyed}{src d:Nat}(hs:src < xs.size)(hd:d<=src)(k:Nat):kA R (bubble xs src d) k=if k=src - d then kA R xs src else if src - d < k/\k<=src then kA R xs (k - 1) else kA R xs k:=by
 have e:=getElem?_bubble hs d hd k;split
 ·rename_i c;rw[if_pos c] at e;exact zcr e
 ·rename_i c;rw[if_neg c] at e;split
  ·rename_i c2;rw[if_pos c2] at e;exact zcr e
  ·rename_i c2;rw[if_neg c2] at e;exact zcr e
theorem zhb {a b n:Nat}(h1:a<=b)(h:b - a<=n - max 0 n):b=a:=by
 rw[Nat.zero_max,xil] at h;exact xdm (Nat.le_of_sub_eq_zero (Nat.le_zero.mp h)) h1
theorem zbew {l r:Nat}(h:¬l ≥ r):l<=(l+r) / 2:=(Nat.le_div_iff_mul_le xle).mpr (by rw[Nat.mul_two];exact xch (xbu (xfl h)) l)
theorem zbcg {l r:Nat}(h:¬l ≥ r):(l+r) / 2 < r:=(Nat.div_lt_iff_lt_mul xle).mpr (by rw[Nat.mul_two];exact Nat.add_lt_add_right (xfl h) r)
theorem hf_l {l r k x:Nat}(h:¬l ≥ r)(g:r - l<=k - x):(l+r) / 2 - l<=k - (x+1):=xbb (xcy (xea (zbew h) (zbcg h))) (xfb g 1)
theorem hf_r {l r k x:Nat}(h:¬l ≥ r)(g:r - l<=k - x):r - ((l+r) / 2+1)<=k - (x+1):=xbb (xga (xeo (zbew h)) r) (xfb g 1)
theorem ztv {p j q:Nat}(h:p < j)(h2:j<=q):j - 1 < q:=xbg (xhb (xja h) Nat.one_pos) h2
theorem zbia {lo n ok:Nat}{st:SortSt}{Q:Bool->SortSt->Prop}(O:Orc prog w A s κ a₀ R)(b:B κ a₀ st)(hn:lo+n<=a₀.size)(h1:1<=ok)(h2:ok<=n)(up:UpA R (arrOf st) lo (lo+ok))
  (h:∀st',B κ a₀ st'->Sm st st' lo (lo+n)->UpA R (arrOf st') lo (lo+n)->Q true st'):wpS (model prog w) A E s (binarySort' lo n ok) Q st:=by
 rw[binarySort'_eq]
 refine xbi (xex (xdh (I:=fun k c st'=>c=(none,())/\B κ a₀ st'/\Sm st st' lo (lo+n)/\UpA R (arrOf st') lo (lo+min k n))
  (Q:=fun c st'=>c=(none,())/\B κ a₀ st'/\Sm st st' lo (lo+n)/\UpA R (arrOf st') lo (lo+n)) ?_ ?_ ?_) ?_)
 ·rintro k c st' k1 k2 ⟨rfl,b1,sm1,up1⟩;rw[xeb (xbu k2)] at up1;have hz:=b1.size;have hk:lo+k < a₀.size:=xbg (xdu k2 lo) hn
  refine xbi (xex (xdh (I:=fun x c st2=>st2=st'/\∃l r,c=(none,l,r)/\l<=r/\r<=k/\r - l<=k - x/\(∀i,i < l->kA R (arrOf st') (lo+i)<=kA R (arrOf st') (lo+k))/\(∀i,r<=i->i < k->kA R (arrOf st') (lo+k)<=kA R (arrOf st') (lo+i)))
   (Q:=fun c st2=>st2=st'/\∃l r,c=(none,l,r)/\l<=k/\(∀i,i < l->kA R (arrOf st') (lo+i)<=kA R (arrOf st') (lo+k))/\(∀i,l<=i->i < k->kA R (arrOf st') (lo+k)<=kA R (arrOf st') (lo+i))) ?_ ?_ ?_) ?_)
  ·rintro x c st2 x1 x2 ⟨rfl,l,r,rfl,g1,g2,g3,g4,g5⟩;dsimp only;by_cases hge:l ≥ r
   ·rw[if_pos hge];have e:l=r:=xdm g1 hge;subst e;exact xbk ⟨rfl,l,l,rfl,g2,g4,g5⟩
   ·have hm:lo+(l+r) / 2 < lo+k:=xdu (xbg (zbcg hge) g2) lo;rw[if_neg hge];refine xbi (zio O b1 hk (xhn hm hk) ?_);by_cases c:kA R (arrOf st2) (lo+k) < kA R (arrOf st2) (lo+(l+r) / 2)
    ·simp only[c,xhj,xfw];exact xbk ⟨rfl,l,(l+r) / 2,rfl,zbew hge,xbb (xbu (zbcg hge)) g2,hf_l hge g3,g4,fun i a1 a2=>xbb (xbu c) (up1 _ _ (xbx _ _) (xch a1 lo) (xdu a2 lo))⟩
    ·simp only[c,xhq,xck,xdo];exact xbk ⟨rfl,(l+r) / 2+1,r,rfl,zbcg hge,g2,hf_r hge g3,fun i a1=>xbb (up1 (lo+i) (lo+(l+r) / 2) (xbx _ _) (xch (xcu a1) lo) hm) (xca c),g5⟩
  ·rintro c st2 ⟨rfl,l,r,rfl,g1,g2,g3,g4,g5⟩;have e:=zhb g1 g3;subst e;exact⟨rfl,_,_,rfl,g2,g4,g5⟩
  ·exact⟨rfl,0,k,rfl,xed _,xbd _,xbd _,fun i hi=>absurd hi (Nat.not_lt_zero _),fun i a1 a2=>absurd a2 (xef a1)⟩
  ·rintro c st2 ⟨rfl,l,r,rfl,g1,g2,g3⟩;dsimp only;have hd:lo+k - (lo+k - (lo+l))=lo+l:=Nat.sub_sub_self (xch g1 lo);have hs:lo+k < (arrOf st2).size:=by rw[hz];exact hk
   refine xbi (zbci (xbk ⟨rfl,b1.set (bubble_perm _ _ _),⟨(Out.bubble hs (xfr _ _) (by rw[hd];exact xbx _ _) (xdu k2 lo)).trans sm1.out,sm1.pend⟩,fun i j a1 a2 a3=>?_⟩));show kA R (bubble (arrOf st2) (lo+k) (lo+k - (lo+l))) i<=kA R (bubble (arrOf st2) (lo+k) (lo+k - (lo+l))) j;rw[zkn hs (xfr _ _),zkn hs (xfr _ _),hd];rw[xeb k2] at a3;have hj:j<=lo+k:=xcu a3;have low:∀q,lo<=q->q < lo+l->kA R (arrOf st2) q<=kA R (arrOf st2) (lo+k):=fun q q1 q2=>by
    have:=g2 (q - lo) (xdi q1 q2);rw[xcg q1] at this;exact this
   have hig:∀q,lo+l<=q->q < lo+k->kA R (arrOf st2) (lo+k)<=kA R (arrOf st2) q:=fun q q1 q2=>by
    have q0:=xbb (xbx _ _) q1;have:=g3 (q - lo) (xei q1) (xdi q0 q2);rw[xcg q0] at this;exact this
   by_cases i1:i=lo+l
   ·rw[if_pos i1];by_cases j1:j=lo+l
    ·rw[if_pos j1];exact xbd _
    ·have jj:=xcw (i1 ▸ a2) (xez j1);rw[if_neg j1,if_pos ⟨jj,hj⟩];exact hig _ (xcy jj) (ztv jj hj)
   ·rw[if_neg i1];by_cases i2:lo+l < i/\i<=lo+k
    ·have jj:=xbg i2.1 a2;rw[if_pos i2,if_neg (xjt jj),if_pos ⟨jj,hj⟩];exact up1 _ _ (xbb (xbx lo l) (xcy i2.1)) (xfb a2 1) (ztv jj hj)
    ·have il:i < lo+l:=xcw (xca fun z=>i2 ⟨z,xbb a2 hj⟩) i1;rw[if_neg i2];by_cases j1:j=lo+l
     ·rw[if_pos j1];exact low i a1 il
     ·rw[if_neg j1];by_cases j2:lo+l < j/\j<=lo+k
      ·rw[if_pos j2];exact up1 _ _ a1 (xcy (xhn il j2.1)) (ztv j2.1 hj)
      ·rw[if_neg j2];exact up1 _ _ a1 a2 (xbg (xcw (xca fun z=>j2 ⟨z,hj⟩) j1) (xch g1 lo))
 ·rintro c st' ⟨rfl,b1,sm1,up1⟩;rw[xhu (Nat.le_max_right _ _)] at up1;exact⟨rfl,b1,sm1,up1⟩
 ·refine⟨rfl,b,⟨Out.refl _ _ _,rfl⟩,fun i j a1 a2 a3=>up i j a1 a2 (xbg a3 (xch (xbb (xhc _ _) (xdc (Nat.max_eq_left h1))) lo))⟩
 ·rintro c st' ⟨rfl,b1,sm1,up1⟩;exact xbk (h st' b1 sm1 up1)
noncomputable def gallop':Bool->Keyed->Array Keyed->Nat->Nat->Nat->StateT SortSt Sem (Option Nat):=sortPriv% PySem.Builtin.gallop
noncomputable def Cut (left:Bool) (R:Keyed->Nat) (key:Keyed) (arr:Array Keyed) (base n h:Nat):Prop:=h<=n/\(∀i,i < h->if left then kA R arr (base+i) < R key else kA R arr (base+i)<=R key)/\(∀i,h<=i->i < n->if left then R key<=kA R arr (base+i) else R key < kA R arr (base+i))
noncomputable def ahead (left:Bool) (R:Keyed->Nat) (key:Keyed) (arr:Array Keyed) (base i:Nat):Bool:=if left then decide (kA R arr (base+i) < R key) else decide (kA R arr (base+i)<=R key)
theorem zht {left:Bool}{key:Keyed}{arr:Array Keyed}{base i:Nat}{st:SortSt}{Q:Option Bool->SortSt->Prop}(O:Orc prog w A s κ a₀ R)(hk:kindOf st=κ)(mk:key∈a₀.toList)(ma:∃x,arr[base+i]?=some x/\x∈a₀.toList)(h:Q (some (ahead left R key arr base i)) st) :
  wpS (model prog w) A E s (do
   let x ← elem' arr (base+i)
   if left=true then lt' x key else do
    let y ← lt' key x
    pure (Option.map (fun x=>!x) y)) Q st:=by
 obtain⟨x,e,m⟩:=ma;refine xbi (zhs e ?_);unfold ahead at h;rw[zcw e] at h;cases left with
 | true =>
  rw[if_pos rfl] at h ⊢;exact w_lt O hk m mk h
 | false =>
  rw[if_neg (by decide)] at h ⊢;refine xbi (w_lt O hk mk m (xbk ?_));have q:(!decide (R key < R x))=decide (R x<=R key):=by
   by_cases c:R key < R x
   ·rw[xcm c,xcj (Nat.not_le_of_lt c)];rfl
   ·rw[xcj c,xcm (xca c)];rfl
  show Q (some (!decide (R key < R x))) st;rw[q];exact h
theorem zpd {left:Bool}{key:Keyed}{arr:Array Keyed}{base n i j:Nat}(up:UpA R arr base (base+n))(hij:i<=j)(hj:j < n)(h:ahead left R key arr base j=true):ahead left R key arr base i=true:=by
 have:=up (base+i) (base+j) (xbx _ _) (xch hij _) (xdu hj _);unfold ahead at h ⊢;cases left with
 | true=>rw[if_pos rfl] at h ⊢;exact xcm (xcv this (xeu h))
 | false=>rw[if_neg (by decide)] at h ⊢;exact xcm (xbb this (xeu h))
theorem zbbi {left:Bool}{key:Keyed}{arr:Array Keyed}{base n h:Nat}(h0:h<=n)(h1:∀i,i < h->ahead left R key arr base i=true)(h2:∀i,h<=i->i < n->ahead left R key arr base i=false):Cut left R key arr base n h:=by
 refine⟨h0,fun i hi=>?_,fun i a1 a2=>?_⟩
 ·have:=h1 i hi;unfold ahead at this;cases left with
  | true=>rw[if_pos rfl] at this ⊢;exact xeu this
  | false=>rw[if_neg (by decide)] at this ⊢;exact xeu this
 ·have:=h2 i a1 a2;unfold ahead at this;cases left with
  | true=>rw[if_pos rfl] at this ⊢;exact xca (xis this)
  | false=>rw[if_neg (by decide)] at this ⊢;exact xfl (xis this)
theorem zsr {a b:Nat}(c:¬a ≥ b):(b - a) / 2 < b - a:=Nat.div_lt_self (xfd (xfl c)) (xbd 2)
theorem zbei {a b:Nat}(c:¬a ≥ b):a+(b - a) / 2 < b:=xdn (zsr c)
theorem zwl {a b n:Nat}(c:¬a ≥ b)(h:b<=n):a+(b - a) / 2 < n:=xbg (zbei c) h
theorem zzg {a b n x:Nat}(h:b - a<=n - x):b - (a+(b - a) / 2+1)<=n - (x+1):=xbb (xga (xeo (xbx a _)) b) (xfb h 1)
theorem zzf {a b n x:Nat}(c:¬a ≥ b)(h:b - a<=n - x):a+(b - a) / 2 - a<=n - (x+1):=by
 rw[xcr];exact xbb (xcy (zsr c)) (xfb h 1)
theorem zbas (o:Nat):o < 2 * o+1:=xko (Nat.le_mul_of_pos_left o xle)
theorem zbat {x o:Nat}(h:x+1<=o):x+1+1<=2 * o+1:=xeo (xbb h (Nat.le_mul_of_pos_left o xle))
theorem zxd {a b n:Nat}(h:a+b < n):b < n - a:=Nat.lt_sub_of_add_lt (Nat.add_comm a b ▸ h)
inductive GI (f:Nat->Bool) (n:Nat) (st:SortSt) (x:Nat):Option (Option Nat)×Nat×Nat->SortSt->Prop where
 | mk {a b:Nat} (q1:a<=b) (q2:b<=n) (q3:b - a<=n - x) (q4:∀i,i < a->f i=true) (q5:∀i,b<=i->i < n->f i=false):GI f n st x (none,a,b) st
inductive GE (f:Nat->Bool) (n:Nat) (st:SortSt):Option (Option Nat)×Nat×Nat->SortSt->Prop where
 | mk {b:Nat} (q2:b<=n) (q4:∀i,i < b->f i=true) (q5:∀i,b<=i->i < n->f i=false):GE f n st (none,b,b) st
inductive GU (f:Nat->Bool) (n hint:Nat) (P:Nat->Prop) (st:SortSt):Option (Option Nat)×Nat×Nat->SortSt->Prop where
 | mk {l o:Nat} (g1:l < o) (g2:hint+l < n) (g3:f (hint+l)=true) (g4:P o):GU f n hint P st (none,l,o) st
inductive GD (f:Nat->Bool) (hint:Nat) (P:Nat->Prop) (st:SortSt):Option (Option Nat)×Nat×Nat->SortSt->Prop where
 | mk {l o:Nat} (g1:l < o) (g2:l<=hint) (g3:f (hint - l)=false) (g4:P o):GD f hint P st (none,l,o) st
theorem zeh {left:Bool}{key:Keyed}{arr:Array Keyed}{base n hint:Nat}{st:SortSt}{Q:Option Nat->SortSt->Prop}(O:Orc prog w A s κ a₀ R)(hk:kindOf st=κ)(mk:key∈a₀.toList)(ma:∀i,i < n->∃x,arr[base+i]?=some x/\x∈a₀.toList)(hh:hint < n)
  (up:UpA R arr base (base+n))(h:∀k,Cut left R key arr base n k->Q (some k) st):wpS (model prog w) A E s (gallop' left key arr base n hint) Q st:=by
 have mono:∀i j,i<=j->j < n->ahead left R key arr base j=true->ahead left R key arr base i=true:=fun i j a1 a2=>zpd up a1 a2
 have monoF:∀i j,i<=j->j < n->ahead left R key arr base i=false->ahead left R key arr base j=false:=fun i j a1 a2 e=>by
  cases c:ahead left R key arr base j with
  | false=>rfl
  | true=>rw[mono i j a1 a2 c] at e;cases e
 refine xbi (zht O hk mk (ma hint hh) ?_);dsimp only;cases hr:ahead left R key arr base hint with
 | true =>
  rw[if_pos rfl];refine xbi (xex (xdh (I:=fun x=>GU (ahead left R key arr base) n hint (x+1<=·) st) (Q:=GU (ahead left R key arr base) n hint (fun o=>n - hint<=o\/(hint+o < n/\ahead left R key arr base (hint+o)=false)) st) ?_ ?_ ?_) ?_)
  ·rintro x c st' x1 x2 @⟨l,o,g1,g2,g3,g4⟩;dsimp only;by_cases c:o ≥ n - hint
   ·rw[if_pos c];exact xbk (.mk g1 g2 g3 (.inl c))
   ·have c3:hint+o < n:=xdn (xfl c);rw[if_neg c];refine xbi (zht O hk mk (ma (hint+o) c3) ?_);dsimp only;cases c2:ahead left R key arr base (hint+o) with
    | true=>exact xbk (.mk (zbas o) c3 c2 (zbat g4))
    | false=>exact xbk (.mk g1 g2 g3 (.inr ⟨c3,c2⟩))
  ·rintro c st' @⟨l,o,g1,g2,g3,g4⟩;rw[Nat.zero_max] at g4;exact .mk g1 g2 g3 (.inl (xbb (xfr _ _) (xcz g4)))
  ·exact .mk Nat.one_pos hh hr (xbd _)
  ·rintro c st' @⟨l,o,g1,g2,g3,g4⟩;dsimp only;have f1:∀i,i < hint+l+1->ahead left R key arr base i=true:=fun i hi=>mono i (hint+l) (xcu hi) g2 g3
   have f2:∀i,hint+min o (n - hint)<=i->i < n->ahead left R key arr base i=false:=fun i a1 a2=>by
    rcases g4 with g | ⟨ga,gb⟩
    ·rw[xhu g,xcg (xbu hh)] at a1;exact absurd a2 (xef a1)
    ·rw[xeb (xbu (zxd ga))] at a1;exact monoF (hint+o) i a1 a2 gb
   have f3:hint+l+1<=hint+min o (n - hint):=xch (Nat.le_min.mpr ⟨g1,zxd g2⟩) hint;have f4:hint+min o (n - hint)<=n:=xbb (xch (xfk _ _) hint) (xdc (xcg (xbu hh)));generalize hint+l+1=lo at f1 f3 ⊢;generalize hint+min o (n - hint)=hi at f2 f3 f4 ⊢;refine xbi (xex (xdh (I:=GI (ahead left R key arr base) n st) (Q:=GE (ahead left R key arr base) n st) ?_ ?_ (.mk f3 f4 (xbb (xfr _ _) f4) f1 f2)) ?_)
   ·rintro x c st2 x1 x2 @⟨a,b,q1,q2,q3,q4,q5⟩;dsimp only;by_cases c:a ≥ b
    ·rw[if_pos c];have e:b=a:=xdm c q1;subst e;exact xbk (.mk q2 q4 q5)
    ·rw[if_neg c];refine xbi (zht O hk mk (ma (a+(b - a) / 2) (zwl c q2)) ?_);dsimp only;cases c2:ahead left R key arr base (a+(b - a) / 2) with
     | true=>exact xbk (.mk (zbei c) q2 (zzg q3) (fun i hi=>mono i (a+(b - a) / 2) (xcu hi) (zwl c q2) c2) q5)
     | false=>exact xbk (.mk (xbx _ _) (xbu (zwl c q2)) (zzf c q3) q4 fun i a1 a2=>monoF (a+(b - a) / 2) i a1 a2 c2)
   ·rintro c st2 @⟨a,b,q1,q2,q3,q4,q5⟩;have e:=zhb q1 q3;subst e;exact .mk q2 q4 q5
   ·rintro c st2 @⟨b,q2,q4,q5⟩;exact xbk (h b (zbbi q2 q4 q5))
 | false =>
  rw[if_neg (by decide)];refine xbi (xex (xdh (I:=fun x=>GD (ahead left R key arr base) hint (x+1<=·) st) (Q:=GD (ahead left R key arr base) hint (fun o=>hint+1<=o\/(o<=hint/\ahead left R key arr base (hint - o)=true)) st) ?_ ?_ ?_) ?_)
  ·rintro x c st' x1 x2 @⟨l,o,g1,g2,g3,g4⟩;dsimp only;by_cases c:o ≥ hint+1
   ·rw[if_pos c];exact xbk (.mk g1 g2 g3 (.inl c))
   ·rw[if_neg c];refine xbi (zht O hk mk (ma (hint - o) (xcv (xfr _ _) hh)) ?_);dsimp only;cases c2:ahead left R key arr base (hint - o) with
    | true=>exact xbk (.mk g1 g2 g3 (.inr ⟨xcu (xfl c),c2⟩))
    | false=>exact xbk (.mk (zbas o) (xcu (xfl c)) c2 (zbat g4))
  ·rintro c st' @⟨l,o,g1,g2,g3,g4⟩;rw[Nat.zero_max] at g4;exact .mk g1 g2 g3 (.inl (xbb hh (xcz g4)))
  ·exact .mk Nat.one_pos (xed _) hr (xbd _)
  ·rintro c st' @⟨l,o,g1,g2,g3,g4⟩;dsimp only;have f1:∀i,i < hint+1 - min o (hint+1)->ahead left R key arr base i=true:=fun i hi=>by
    rcases g4 with g | ⟨ga,gb⟩
    ·rw[xhu g,xil] at hi;exact absurd hi (Nat.not_lt_zero _)
    ·rw[xeb (xes ga),Nat.succ_sub ga] at hi;exact mono i (hint - o) (xcu hi) (xcv (xfr _ _) hh) gb
   have f2:∀i,hint - l<=i->i < n->ahead left R key arr base i=false:=fun i a1 a2=>monoF (hint - l) i a1 a2 g3
   have f3:hint+1 - min o (hint+1)<=hint - l:=xbb (xga (Nat.le_min.mpr ⟨g1,xeo g2⟩) _) (xdc (Nat.succ_sub_succ hint l));have f4:hint - l<=n:=xbb (xfr _ _) (xbu hh);generalize hint+1 - min o (hint+1)=lo at f1 f3 ⊢;generalize hint - l=hi at f2 f3 f4 ⊢;refine xbi (xex (xdh (I:=GI (ahead left R key arr base) n st) (Q:=GE (ahead left R key arr base) n st) ?_ ?_ (.mk f3 f4 (xbb (xfr _ _) f4) f1 f2)) ?_)
   ·rintro x c st2 x1 x2 @⟨a,b,q1,q2,q3,q4,q5⟩;dsimp only;by_cases c:a ≥ b
    ·rw[if_pos c];have e:b=a:=xdm c q1;subst e;exact xbk (.mk q2 q4 q5)
    ·rw[if_neg c];refine xbi (zht O hk mk (ma (a+(b - a) / 2) (zwl c q2)) ?_);dsimp only;cases c2:ahead left R key arr base (a+(b - a) / 2) with
     | true=>exact xbk (.mk (zbei c) q2 (zzg q3) (fun i hi=>mono i (a+(b - a) / 2) (xcu hi) (zwl c q2) c2) q5)
     | false=>exact xbk (.mk (xbx _ _) (xbu (zwl c q2)) (zzf c q3) q4 fun i a1 a2=>monoF (a+(b - a) / 2) i a1 a2 c2)
   ·rintro c st2 @⟨a,b,q1,q2,q3,q4,q5⟩;have e:=zhb q1 q3;subst e;exact .mk q2 q4 q5
   ·rintro c st2 @⟨b,q2,q4,q5⟩;exact xbk (h b (zbbi q2 q4 q5))
end
section
variable {prog:Program}{w:World}{A:Around}{E:Value->Shared->Prop}{s:Shared}{κ:SortKind}{a₀:Array Keyed}{R:Keyed->Nat}
noncomputable abbrev Ord (R:Keyed->Nat) (l:List Keyed):Prop:=l.Pairwise fun x y=>R x<=R y
structure SmG (st st':SortSt):Prop where
 arr:arrOf st'=arrOf st
 pend:pendingOf st'=pendingOf st
 kind:kindOf st'=kindOf st
 failed:failedOf st'=failedOf st
theorem SmG.refl (st:SortSt):SmG st st:=⟨rfl,rfl,rfl,rfl⟩
theorem SmG.trans {a b c:SortSt}(x:SmG a b)(y:SmG b c):SmG a c:=⟨y.arr.trans x.arr,y.pend.trans x.pend,y.kind.trans x.kind,y.failed.trans x.failed⟩
noncomputable def mergeLo':Array Keyed->Array Keyed->StateT SortSt Sem (Array Keyed):=sortPriv% PySem.Builtin.mergeLo
noncomputable def mergeHi':Array Keyed->Array Keyed->StateT SortSt Sem (Array Keyed):=sortPriv% PySem.Builtin.mergeHi
structure ML (R:Keyed->Nat) (all out rest:List Keyed):Prop where
 perm:(out++rest).Perm all
 ord:Ord R out
 le:∀x∈out,∀y∈rest,R x<=R y
theorem ML.grow {all out rest xs rest':List Keyed}(m:ML R all out rest)(p:rest.Perm (xs++rest'))(o:Ord R xs)(h:∀x∈xs,∀y∈rest',R x<=R y):ML R all (out++xs) rest':=by
 refine⟨?_,xfs.mpr ⟨m.ord,o,fun x hx y hy=>m.le x hx y (p.mem_iff.mpr (xhs _ hy))⟩,fun x hx y hy=>?_⟩
 ·rw[xbq];exact(xgi out p.symm).trans m.perm
 ·rcases xce.mp hx with hx | hx
  ·exact m.le x hx y (p.mem_iff.mpr (xdb _ hy))
  ·exact h x hx y hy
theorem ML.fin {all out rest rest':List Keyed}(m:ML R all out rest)(p:rest'.Perm rest)(o:Ord R rest'):(out++rest').Perm all/\Ord R (out++rest') :=
 ⟨(xgi out p).trans m.perm,xfs.mpr ⟨m.ord,o,fun x hx y hy=>m.le x hx y (p.mem_iff.mp hy)⟩⟩
theorem Ord.at {l:List Keyed}(h:Ord R l){i j:Nat}{x y:Keyed}(hi:l[i]?=some x)(hj:l[j]?=some y)(hij:i<=j):R x<=R y:=by
 obtain⟨h1,e1⟩:=xbm.mp hi;obtain⟨h2,e2⟩:=xbm.mp hj;by_cases c:i=j
 ·subst c;rw[← e1,← e2];exact xbd _
 ·rw[← e1,← e2];exact xig.mp h i j h1 h2 (xcw hij c)
theorem Ord.drop {l:List Keyed}(h:Ord R l)(n:Nat):Ord R (l.drop n):=List.Pairwise.sublist (List.drop_sublist _ _) h
theorem Ord.take {l:List Keyed}(h:Ord R l)(n:Nat):Ord R (l.take n):=List.Pairwise.sublist (List.take_sublist _ _) h
theorem zu {l:List Keyed}{n:Nat}{y:Keyed}(h:y∈l.drop n):∃j,n<=j/\l[j]?=some y:=by
 obtain⟨i,hi,e⟩:=xeg h;refine⟨n+i,xbx _ _,?_⟩;rw[← e,List.getElem_drop];exact xbf _
theorem zj {l:List Keyed}{n:Nat}{y:Keyed}(h:y∈l.take n):∃j,j < n/\l[j]?=some y:=by
 obtain⟨i,hi,e⟩:=xeg h;have hi2:i < n/\i < l.length:=by rw[xct] at hi;exact Nat.lt_min.mp hi
 refine⟨i,hi2.1,?_⟩;rw[← e,List.getElem_take];exact xbf _
theorem zfq {l:List Keyed}{i:Nat}{x:Keyed}(h:l[i]?=some x):l.drop i=x::l.drop (i+1):=by
 obtain⟨h1,rfl⟩:=xbm.mp h;exact xfq h1
theorem zif (l:List Keyed)(i k:Nat):l.drop i=(l.drop i).take k++l.drop (i+k):=by
 rw[← xlg,xdv]
structure Two (R:Keyed->Nat) (la lb:List Keyed):Prop where
 oa:Ord R la
 ob:Ord R lb
 last:∀x,la[la.length - 1]?=some x->∀y∈lb,R y<=R x
noncomputable def Fin (R:Keyed->Nat) (la lb:List Keyed) (r:Array Keyed):Prop:=r.toList.Perm (la++lb)/\Ord R r.toList
variable {la lb:List Keyed}{out:Array Keyed}{ia ib:Nat}
theorem ML.pushB {R:Keyed->Nat}{all:List Keyed}(T:Two R la lb)(m:ML R all out.toList (la.drop ia++lb.drop ib)){y:Keyed}(hy:lb[ib]?=some y)(h:∀z∈la.drop ia,R y<=R z):ML R all (out.push y).toList (la.drop ia++lb.drop (ib+1)):=by
 rw[xfe];refine m.grow ?_ (xiw _ _) fun x hx z hz=>?_
 ·rw[zfq hy];exact List.perm_middle
 ·simp at hx;subst hx
  rcases xce.mp hz with hz | hz
  ·exact h z hz
  ·obtain⟨j,hj,e⟩:=zu hz;exact T.ob.at hy e (xcz hj)
theorem ML.pushA {R:Keyed->Nat}{all:List Keyed}(T:Two R la lb)(m:ML R all out.toList (la.drop ia++lb.drop ib)){x:Keyed}(hx:la[ia]?=some x)(h:∀z∈lb.drop ib,R x<=R z):ML R all (out.push x).toList (la.drop (ia+1)++lb.drop ib):=by
 rw[xfe];refine m.grow ?_ (xiw _ _) fun w hw z hz=>?_
 ·rw[zfq hx];exact .refl _
 ·simp at hw;subst hw
  rcases xce.mp hz with hz | hz
  ·obtain⟨j,hj,e⟩:=zu hz;exact T.oa.at hx e (xcz hj)
  ·exact h z hz
theorem zbi (xs:Array Keyed)(i j:Nat):(xs.extract i j).toList=(xs.toList.drop i).take (j - i):=by
 rw[Array.toList_extract,List.extract_eq_take_drop]
theorem zks (xs:Array Keyed)(i:Nat):(xs.extract i).toList=xs.toList.drop i:=by
 rw[zbi];exact xge (by simp)
theorem zbf {xs:Array Keyed}{i:Nat}{x:Keyed}(h:xs.toList[i]?=some x):kA R xs i=R x:=zcw (by rw[← xcf];exact h)
end
section
variable {prog:Program}{w:World}{A:Around}{E:Value->Shared->Prop}{s:Shared}{κ:SortKind}{a₀:Array Keyed}{R:Keyed->Nat}{a b out:Array Keyed}{ia ib k:Nat}{y x:Keyed}{all:List Keyed}
theorem ML.galA (T:Two R a.toList b.toList)(m:ML R all out.toList (a.toList.drop ia++b.toList.drop ib))(hy:b.toList[ib]?=some y)(c:Cut false R y a ia (a.size - ia) k):ML R all (out++a.extract ia (ia+k)).toList (a.toList.drop (ia+k)++b.toList.drop ib)/\∀z∈a.toList.drop (ia+k),R y<=R z:=by
 have up:∀z∈a.toList.drop (ia+k),R y<=R z:=fun z hz=>by
  obtain⟨j,hj,e⟩:=zu hz;have hj2:j < a.size:=by have:=(xbm.mp e).1;simpa using this
  have h0:=xbb (xbx _ _) hj;have:=c.2.2 (j - ia) (xei hj) (xea h0 hj2);rw[xcg h0,zbf e] at this;exact xbu this
 have low:∀z∈(a.toList.drop ia).take k,R z<=R y:=fun z hz=>by
  obtain⟨j,hj,e⟩:=zj hz;rw[xfn] at e;have:=c.2.1 j hj;rw[zbf e] at this;exact this
 refine⟨?_,up⟩;rw[xdg,zbi,xcr];refine m.grow ?_ ((T.oa.drop ia).take k) fun z hz v hv=>?_
 ·conv=>lhs;rw[zif a.toList ia k]
  rw[xbq]
 ·rcases xce.mp hv with hv | hv
  ·exact xbb (low z hz) (up v hv)
  ·obtain⟨j,hj,e⟩:=zu hv;exact xbb (low z hz) (T.ob.at hy e hj)
theorem ML.galB (T:Two R a.toList b.toList)(m:ML R all out.toList (a.toList.drop ia++b.toList.drop ib))(hx:a.toList[ia]?=some x)(c:Cut true R x b ib (b.size - ib) k):ML R all (out++b.extract ib (ib+k)).toList (a.toList.drop ia++b.toList.drop (ib+k))/\∀z∈b.toList.drop (ib+k),R x<=R z:=by
 have up:∀z∈b.toList.drop (ib+k),R x<=R z:=fun z hz=>by
  obtain⟨j,hj,e⟩:=zu hz;have hj2:j < b.size:=by have:=(xbm.mp e).1;simpa using this
  have h0:=xbb (xbx _ _) hj;have:=c.2.2 (j - ib) (xei hj) (xea h0 hj2);rw[xcg h0,zbf e] at this;exact this
 have low:∀z∈(b.toList.drop ib).take k,R z<=R x:=fun z hz=>by
  obtain⟨j,hj,e⟩:=zj hz;rw[xfn] at e;have:=c.2.1 j hj;rw[zbf e] at this;exact xbu this
 refine⟨?_,up⟩;rw[xdg,zbi,xcr];refine m.grow ?_ ((T.ob.drop ib).take k) fun z hz v hv=>?_
 ·conv=>lhs;rw[zif b.toList ib k]
  rw[← xbq,← xbq];exact xhh _ xgj
 ·rcases xce.mp hv with hv | hv
  ·obtain⟨j,hj,e⟩:=zu hv;exact xbb (low z hz) (T.oa.at hx e hj)
  ·exact xbb (low z hz) (up v hv)
theorem ML.done (T:Two R a.toList b.toList)(m:ML R (a.toList++b.toList) out.toList (a.toList.drop ia++b.toList.drop ib))(h:ia=a.size\/ib=b.size):Fin R a.toList b.toList (out++a.extract ia++b.extract ib):=by
 unfold Fin;rw[xdg,xdg,zks,zks,xbq];refine m.fin (.refl _) ?_;rcases h with rfl | rfl
 ·rw[xhi (by simp),List.nil_append];exact T.ob.drop _
 ·rw[xhi (as:=b.toList) (by simp),xdz];exact T.oa.drop _
theorem ML.lastA (T:Two R a.toList b.toList)(m:ML R (a.toList++b.toList) out.toList (a.toList.drop ia++b.toList.drop ib))(h:ia+1=a.size):Fin R a.toList b.toList (out++b.extract ib++a.extract ia):=by
 unfold Fin;rw[xdg,xdg,zks,zks,xbq];refine m.fin xgj (xfs.mpr ⟨T.ob.drop _,T.oa.drop _,fun v hv z hz=>?_⟩);obtain⟨j,hj,e⟩:=zu hz;have hj2:j < a.size:=by have:=(xbm.mp e).1;simpa using this
 have:j=a.toList.length - 1:=xdm (xcy (by rw[xbv];exact hj2)) (by rw[xbv,← h];exact hj);subst this;exact T.last z e v (xft hv)
noncomputable def setG':Nat->StateT SortSt Sem Unit:=sortPriv% PySem.Builtin.setMinGallop
theorem zpl {g:Nat}{st:SortSt}{Q:Unit->SortSt->Prop}(h:∀st',SmG st st'->Q () st'):wpS (model prog w) A E s (setG' g) Q st :=
 xgf (h _ ⟨rfl,rfl,rfl,rfl⟩)
theorem zbgy {α:Type}{K:Nat->StateT SortSt Sem α}{Q:α->SortSt->Prop}{st:SortSt}(h:∀v,wpS (model prog w) A E s (K v) Q st):∀y x:Nat,wpS (model prog w) A E s (if y > 1 then K x else K y) Q st:=fun y x=>by
 by_cases e:y > 1
 ·rw[if_pos e];exact h x
 ·rw[if_neg e];exact h y
theorem zbha {α:Type}{c c2:Prop}[Decidable c][Decidable c2]{X Y Y':StateT SortSt Sem α}{Q:α->SortSt->Prop}{st:SortSt}(hY:¬c->Y'=Y)(h1:c->c2->wpS (model prog w) A E s X Q st)(h2:(c->¬c2)->wpS (model prog w) A E s Y Q st):wpS (model prog w) A E s (if c then(if c2 then X else Y) else Y') Q st:=by
 by_cases e:c
 ·rw[if_pos e];by_cases e2:c2
  ·rw[if_pos e2];exact h1 e e2
  ·rw[if_neg e2];exact h2 fun _=>e2
 ·rw[if_neg e,hY e];exact h2 fun z=>absurd z e
theorem zwv {α:Type}{c c2 c3:Prop}[Decidable c][Decidable c2][Decidable c3]{X X3 Y Y':StateT SortSt Sem α}{Q:α->SortSt->Prop}{st:SortSt}(hY:¬c->Y'=Y)(h1:c->c2->wpS (model prog w) A E s X Q st)(h3:c->c3->wpS (model prog w) A E s X3 Q st)(h2:(c->¬c2/\¬c3)->wpS (model prog w) A E s Y Q st):wpS (model prog w) A E s (if c then(if c2 then X else if c3 then X3 else Y) else Y') Q st:=by
 by_cases e:c
 ·rw[if_pos e];by_cases e2:c2
  ·rw[if_pos e2];exact h1 e e2
  ·rw[if_neg e2];by_cases e3:c3
   ·rw[if_pos e3];exact h3 e e3
   ·rw[if_neg e3];exact h2 fun _=>⟨e2,e3⟩
 ·rw[if_neg e,hY e];exact h2 fun z=>absurd z e
theorem zbgz {α:Type}{c c2:Prop}[Decidable c][Decidable c2]{X X2 Y:StateT SortSt Sem α}{Q:α->SortSt->Prop}{st:SortSt}(h1:c->wpS (model prog w) A E s X Q st)(h2:c2->wpS (model prog w) A E s X2 Q st)(h3:¬c->¬c2->wpS (model prog w) A E s Y Q st):wpS (model prog w) A E s (if c then X else if c2 then X2 else Y) Q st:=by
 by_cases e:c
 ·rw[if_pos e];exact h1 e
 ·rw[if_neg e];by_cases e2:c2
  ·rw[if_pos e2];exact h2 e2
  ·rw[if_neg e2];exact h3 e e2
theorem w_if {α:Type}{c:Prop}[Decidable c]{X Y:StateT SortSt Sem α}{Q:α->SortSt->Prop}{st:SortSt}(h1:c->wpS (model prog w) A E s X Q st)(h2:¬c->wpS (model prog w) A E s Y Q st):wpS (model prog w) A E s (if c then X else Y) Q st:=by
 by_cases e:c
 ·rw[if_pos e];exact h1 e
 ·rw[if_neg e];exact h2 e
theorem w_el {α:Type}{arr:Array Keyed}{i:Nat}{x:Keyed}{f:Keyed->StateT SortSt Sem α}{Q:α->SortSt->Prop}{st:SortSt}(e:arr[i]?=some x)(h:wpS (model prog w) A E s (f x) Q st):wpS (model prog w) A E s (elem' arr i >>= f) Q st:=xbi (zhs e h)
theorem zwu {α:Type}{x y:Keyed}{f:Option Bool->StateT SortSt Sem α}{Q:α->SortSt->Prop}{st:SortSt}(O:Orc prog w A s κ a₀ R)(hk:kindOf st=κ)(hx:x∈a₀.toList)(hy:y∈a₀.toList)(h1:R x < R y->wpS (model prog w) A E s (f (some true)) Q st)(h2:R y<=R x->wpS (model prog w) A E s (f (some false)) Q st):wpS (model prog w) A E s (lt' x y >>= f) Q st:=by
 refine xbi (w_lt O hk hx hy ?_);by_cases c:R x < R y
 ·rw[xcm c];exact h1 c
 ·rw[xcj c];exact h2 (xca c)
inductive Dn {β:Type} (R:Keyed->Nat) (a b:Array Keyed) (st:SortSt):Option (Array Keyed)×β->SortSt->Prop where
 | mk {r:Array Keyed} {z:β} {st':SortSt} (sm:SmG st st') (f:Fin R a.toList b.toList r):Dn R a b st (some r,z) st'
inductive L1 (R:Keyed->Nat) (a b:Array Keyed) (st:SortSt) (x:Nat):Option (Array Keyed)×Array Keyed×Nat×Nat×Nat->SortSt->Prop where
 | mk {out:Array Keyed} {ia ib g:Nat} {st':SortSt} (sm:SmG st st') (m:ML R (a.toList++b.toList) out.toList (a.toList.drop ia++b.toList.drop ib)) (ha:ia+1 < a.size) (hb:ib < b.size) (hx:x < ia+ib):L1 R a b st x (none,out,ia,ib,g) st'
inductive L2' (R:Keyed->Nat) (a b:Array Keyed) (st:SortSt) (x:Nat):Option (Array Keyed)×Array Keyed×Nat×Nat×Nat×Nat->SortSt->Prop where
 | mk {out:Array Keyed} {ia ib ac bc:Nat} {st':SortSt} (sm:SmG st st') (m:ML R (a.toList++b.toList) out.toList (a.toList.drop ia++b.toList.drop ib)) (ha:ia+1 < a.size) (hb:ib < b.size) (hx:x<=ia+ib):L2' R a b st x (none,out,ia,ib,ac,bc) st'
inductive L3 (R:Keyed->Nat) (a b:Array Keyed) (st:SortSt) (x:Nat):Option (Array Keyed)×Array Keyed×Nat×Nat×Nat×Nat×Nat->SortSt->Prop where
 | mk {out:Array Keyed} {ia ib g ac bc:Nat} {st':SortSt} (sm:SmG st st') (m:ML R (a.toList++b.toList) out.toList (a.toList.drop ia++b.toList.drop ib)) (ha:ia+1 < a.size) (hb:ib < b.size) (hx:x<=ia+ib):L3 R a b st x (none,out,ia,ib,g,ac,bc) st'
theorem zpn {st:SortSt}{Q:Array Keyed->SortSt->Prop}(O:Orc prog w A s κ a₀ R)(hk:kindOf st=κ)(ma:∀x∈a.toList,x∈a₀.toList)(mb:∀x∈b.toList,x∈a₀.toList)(T:Two R a.toList b.toList)(ha:1<=a.size)(hb:1<=b.size)
  (fst:∀y,b.toList[0]?=some y->∀x∈a.toList,R y<=R x)(h:∀r st',SmG st st'->Fin R a.toList b.toList r->Q r st'):wpS (model prog w) A E s (mergeLo' a b) Q st:=by
 have atA:∀(i:Nat) (hi:i < a.size),a[i]?=some a[i]/\a.toList[i]?=some a[i]/\a[i]∈a₀.toList:=fun i hi=>⟨getElem?_pos a i hi,by rw[xcf];exact getElem?_pos a i hi,ma _ (by simp)⟩
 have atB:∀(i:Nat) (hi:i < b.size),b[i]?=some b[i]/\b.toList[i]?=some b[i]/\b[i]∈a₀.toList:=fun i hi=>⟨getElem?_pos b i hi,by rw[xcf];exact getElem?_pos b i hi,mb _ (by simp)⟩
 have upA:∀i,UpA R a i (i+(a.size - i)):=fun i p q a1 a2 a3=>by
  have hq:q < a.size:=by lia
  have e1:=(atA p (by lia)).2.1;have e2:=(atA q hq).2.1;rw[zbf e1,zbf e2];exact T.oa.at e1 e2 a2
 have upB:∀i,UpA R b i (i+(b.size - i)):=fun i p q a1 a2 a3=>by
  have hq:q < b.size:=by lia
  have e1:=(atB p (by lia)).2.1;have e2:=(atB q hq).2.1;rw[zbf e1,zbf e2];exact T.ob.at e1 e2 a2
 obtain⟨y0,f0,f1⟩:∃x,b[0]?=some x/\b.toList[0]?=some x:=⟨_,(atB 0 hb).1,(atB 0 hb).2.1⟩
 have start:ML R (a.toList++b.toList) (#[y0]:Array Keyed).toList (a.toList.drop 0++b.toList.drop 1):=by
  have z:ML R (a.toList++b.toList) (#[]:Array Keyed).toList (a.toList.drop 0++b.toList.drop 0):=⟨by simp,List.Pairwise.nil,by simp⟩
  exact z.pushB T f1 fun x hx=>fst y0 f1 x (xft hx)
 refine xbi (xjm (xgq ⟨rfl,xbi (zhs f0 (zbgz (fun c1=>?_) (fun c2=>?_) fun c1 c2=>?_))⟩))
 ·exact xbk (h _ _ (.refl _) (start.done T (.inr (by simpa using c1))))
 ·exact xbk (h _ _ (.refl _) (start.lastA T (by simpa using c2)))
 simp only[xfv] at c1 c2;refine xbi (xgz ?_);refine xbi (xex (xdh (I:=L1 R a b st) (Q:=Dn R a b st) ?_ ?_ (.mk (.refl _) start (by lia) (by lia) (by lia))) ?_)
 ·rintro x c st1 x1 x2 @⟨out,ia,ib,g,st1,sm1,m,ha1,hb1,hx⟩;dsimp only;refine xbi (xex (xdh (I:=fun _=>L2' R a b st (ia+ib)) (Q:=fun c st'=>Dn R a b st c st'\/L2' R a b st (ia+ib) c st') ?_ ?_ (.mk sm1 m ha1 hb1 (xbd _))) ?_)
  ·rintro x' c st2 _ _ @⟨out,ia',ib',ac,bc,st2,sm2,m,ha2,hb2,hp⟩;dsimp only;have ea:=(atA ia' (xet ha2)).1;have ela:=(atA ia' (xet ha2)).2.1;have mea:=(atA ia' (xet ha2)).2.2;have eb:=(atB ib' hb2).1;have elb:=(atB ib' hb2).2.1;have meb:=(atB ib' hb2).2.2;refine w_el eb (w_el ea (zwu O (sm2.kind.trans hk) meb mea (fun cw=>w_el eb ?_) fun cw=>w_el ea ?_))
   ·skip
    have m2:=m.pushB T elb fun z hz=>by
     obtain⟨j,hj,e⟩:=zu hz;exact xbb (xbu cw) (T.oa.at ela e hj)
    refine w_if (fun c5=>xbk (.inl (.mk sm2 (m2.done T (.inr (eq_of_beq c5)))))) fun c5=>?_
    rw[xfv] at c5;have hb3:ib'+1 < b.size:=xcw hb2 c5;have hp3:ia+ib<=ia'+(ib'+1):=xes hp;exact w_if (fun _=>xbk (.inr (.mk sm2 m2 ha2 hb3 hp3))) fun _=>xbk (.mk sm2 m2 ha2 hb3 hp3)
   ·skip
    have m2:=m.pushA T ela fun z hz=>by
     obtain⟨j,hj,e⟩:=zu hz;exact xbb cw (T.ob.at elb e hj)
    refine w_if (fun c5=>xbk (.inl (.mk sm2 (m2.lastA T (eq_of_beq c5))))) fun c5=>?_
    rw[xfv] at c5;have ha3:ia'+1+1 < a.size:=xcw ha2 c5;have hp3:ia+ib<=ia'+1+ib':=Nat.succ_add ia' ib' ▸ xes hp
    exact w_if (fun _=>xbk (.inr (.mk sm2 m2 ha3 hb2 hp3))) fun _=>xbk (.mk sm2 m2 ha3 hb2 hp3)
  ·exact fun c st2 k=>.inr k
  ·rintro c st2 (⟨sm2,f⟩ | @⟨out,ia',ib',ac,bc,st2,sm2,m,ha2,hb2,hp⟩)
   ·exact xbk (.mk sm2 f)
   ·dsimp only;refine xbi (xjm (xgq ⟨rfl,?_⟩));refine xbi (xex (xdh (I:=fun x'=>L3 R a b st (ia+ib+x')) (Q:=fun c st'=>Dn R a b st c st'\/L3 R a b st (ia+ib+1) c st') ?_ ?_ (.mk sm2 m ha2 hb2 hp)) ?_)
    ·rintro x' c st3 _ x2' @⟨out,ia',ib',g',ac,bc,st3,sm3,m,ha2,hb2,hp⟩;dsimp only;have eb:=(atB ib' hb2).1;have elb:=(atB ib' hb2).2.1;have meb:=(atB ib' hb2).2.2;generalize g' - 1=g1;generalize g'=y;revert g1;revert y
     refine zbgy ?_;intro gg;refine xbi (zpl fun st4 sg=>?_);have sm4:=sm3.trans sg;refine w_el eb (xbi (zeh O (sm4.kind.trans hk) meb (fun i hi=>⟨_,(atA (ia'+i) (xdn hi)).1,(atA (ia'+i) (xdn hi)).2.2⟩) (xfd (xet ha2)) (upA ia') fun k1 cut1=>?_));have m5:=(m.galA T elb cut1).1;have u5:=(m.galA T elb cut1).2;have hk1:=cut1.1;dsimp only;refine zwv (fun c6=>?_) (fun c6 c7=>?_) (fun c6 c8=>?_) fun hh=>?_
     ·have z:k1=0:=Nat.le_zero.mp (xca c6);subst z;simp only[xjw,xhp (xhc _ _),xkh]
     ·exact xbk (.inl (.mk sm4 (m5.lastA T (eq_of_beq c7))))
     ·exact xbk (.inl (.mk sm4 (m5.done T (.inl (eq_of_beq c8)))))
     have ha5:ia'+k1+1 < a.size:=by
      by_cases c6:k1 > 0
      ·have:=hh c6;simp at this;lia
      ·lia
     have hp5:ia+ib+x'<=ia'+k1+ib':=xbb hp (Nat.add_le_add_right (xbx _ _) _);clear hh;generalize ia'+k1=ia5 at m5 u5 ha5 hp5 ⊢;generalize out++a.extract ia' ia5=out5 at m5 ⊢;have m6:=m5.pushB T elb u5;have ea:=(atA _ (xet ha5)).1;have ela:=(atA _ (xet ha5)).2.1;have mea:=(atA _ (xet ha5)).2.2;refine w_el eb (w_if (fun c9=>xbk (.inl (.mk sm4 (m6.done T (.inr (eq_of_beq c9)))))) fun c9=>w_el ea ?_);rw[xfv] at c9;refine xbi (zeh O (sm4.kind.trans hk) mea (fun i hi=>⟨_,(atB (ib'+1+i) (xdn hi)).1,(atB (ib'+1+i) (xdn hi)).2.2⟩) (xfd (xcw hb2 c9)) (upB (ib'+1)) fun k2 cut2=>?_);have m7:=(m6.galB T ela cut2).1;have u7:=(m6.galB T ela cut2).2;have hk2:=cut2.1;dsimp only;refine zbha (fun d6=>?_) (fun d6 d7=>?_) fun hh=>?_
     ·have z2:k2=0:=Nat.le_zero.mp (xca d6);subst z2;simp only[xjw,xhp (xhc _ _),xkh]
     ·exact xbk (.inl (.mk sm4 (m7.done T (.inr (eq_of_beq d7)))))
     have h20:ib'+1+k2≠b.size:=by
      by_cases d6:k2 > 0
      ·have:=hh d6;simp at this;lia
      ·lia
     have m8:=m7.pushA T ela u7;refine w_el ea (w_if (fun d8=>xbk (.inl (.mk sm4 (m8.lastA T (eq_of_beq d8))))) fun d8=>?_);rw[xfv] at d8;have ha9:ia5+1+1 < a.size:=xcw ha5 d8;have hb9:ib'+1+k2 < b.size:=by lia
     have hp9:ia+ib+(x'+1)<=ia5+1+(ib'+1+k2):=by lia
     exact w_if (fun _=>xbk (.inr (.mk sm4 m8 ha9 hb9 (xbb (xch (xlc 1 x') _) hp9)))) fun _=>xbk (.mk sm4 m8 ha9 hb9 hp9)
    ·rintro c st3 ⟨sm3,m,ha2,hb2,hp⟩;exact .inr (.mk sm3 m ha2 hb2 (by lia))
    ·rintro c st3 (⟨sm3,f⟩ | ⟨sm3,m,ha2,hb2,hp⟩)
     ·exact xbk (.mk sm3 f)
     ·exact xbi (zpl fun st4 sg=>xbk (.mk (sm3.trans sg) m ha2 hb2 (xbg (Nat.succ_lt_succ hx) hp)))
 ·rintro c st1 ⟨sm1,m,ha1,hb1,hx⟩;lia
 ·rintro c st1 ⟨sm1,f⟩;exact xbk (h _ st1 sm1 f)
end
structure MH (R:Keyed->Nat) (all out rest:List Keyed):Prop where
 perm:(rest++out.reverse).Perm all
 ord:Ord R out.reverse
 le:∀x∈rest,∀y∈out,R x<=R y
section
variable {R:Keyed->Nat}
theorem MH.grow {all out rest xs rest':List Keyed}(m:MH R all out rest)(p:rest.Perm (rest'++xs.reverse))(o:Ord R xs.reverse)(h:∀x∈rest',∀y∈xs,R x<=R y):MH R all (out++xs) rest':=by
 refine⟨?_,?_,fun x hx y hy=>?_⟩
 ·rw[List.reverse_append,← xbq];exact(xhh _ p.symm).trans m.perm
 ·rw[List.reverse_append];exact xfs.mpr ⟨o,m.ord,fun x hx y hy=>m.le x (p.mem_iff.mpr (xdb _ hx)) y (xhv.mp hy)⟩
 ·rcases xce.mp hy with hy | hy
  ·exact m.le x (p.mem_iff.mpr (xhs _ hx)) y hy
  ·exact h x hx y hy
theorem MH.fin {all out rest rest':List Keyed}(m:MH R all out rest)(p:rest'.Perm rest)(o:Ord R rest'):(rest'++out.reverse).Perm all/\Ord R (rest'++out.reverse) :=
 ⟨(xhh _ p).trans m.perm,xfs.mpr ⟨o,m.ord,fun x hx y hy=>m.le x (p.mem_iff.mp hx) y (xhv.mp hy)⟩⟩
theorem zff {l:List Keyed}{i:Nat}{x:Keyed}(h:l[i]?=some x):l.take (i+1)=l.take i++[x]:=by
 obtain⟨h1,rfl⟩:=xbm.mp h;exact xgs h1
structure TwoH (R:Keyed->Nat) (la lb:List Keyed):Prop where
 oa:Ord R la
 ob:Ord R lb
 first:∀y,lb[0]?=some y->∀x∈la,R y<=R x
variable {la lb all:List Keyed}{out:Array Keyed}{na nb:Nat}
theorem MH.pushB (T:TwoH R la lb)(m:MH R all out.toList (la.take na++lb.take (nb+1))){y:Keyed}(hy:lb[nb]?=some y)(h:∀z∈la.take na,R z<=R y):MH R all (out.push y).toList (la.take na++lb.take nb):=by
 rw[xfe];refine m.grow ?_ (by simp) fun z hz w hw=>?_
 ·rw[zff hy];simp
 ·simp at hw;subst hw
  rcases xce.mp hz with hz | hz
  ·exact h z hz
  ·obtain⟨j,hj,e⟩:=zj hz;exact T.ob.at e hy (by lia)
theorem MH.pushA (T:TwoH R la lb)(m:MH R all out.toList (la.take (na+1)++lb.take nb)){x:Keyed}(hx:la[na]?=some x)(h:∀z∈lb.take nb,R z<=R x):MH R all (out.push x).toList (la.take na++lb.take nb):=by
 rw[xfe];refine m.grow ?_ (by simp) fun z hz w hw=>?_
 ·rw[zff hx];simp only[List.reverse_singleton,xbq];exact xgi _ xgj
 ·simp at hw;subst hw
  rcases xce.mp hz with hz | hz
  ·obtain⟨j,hj,e⟩:=zj hz;exact T.oa.at e hx (by lia)
  ·exact h z hz
end
section
variable {prog:Program}{w:World}{A:Around}{E:Value->Shared->Prop}{s:Shared}{κ:SortKind}{a₀:Array Keyed}{R:Keyed->Nat}{a b out:Array Keyed}{na nb k:Nat}{y x:Keyed}{all:List Keyed}
theorem zor (l:List Keyed){k n:Nat}(h:k<=n):l.take n=l.take k++(l.drop k).take (n - k):=by
 conv=>lhs;rw[show n=k+(n - k) by lia,List.take_add]
theorem MH.galA (T:TwoH R a.toList b.toList)(m:MH R all out.toList (a.toList.take na++b.toList.take (nb+1)))(hy:b.toList[nb]?=some y)(hn:na<=a.size)(c:Cut false R y a 0 na k):MH R all (out++(a.extract k na).reverse).toList (a.toList.take k++b.toList.take (nb+1))/\∀z∈a.toList.take k,R z<=R y:=by
 have low:∀z∈a.toList.take k,R z<=R y:=fun z hz=>by
  obtain⟨j,hj,e⟩:=zj hz;have:=c.2.1 j hj;rw[xdp,zbf e] at this;exact this
 have up:∀z∈(a.toList.drop k).take (na - k),R y<=R z:=fun z hz=>by
  obtain⟨j,hj,e⟩:=zj hz;rw[xfn] at e;have:=c.2.2 (k+j) (by lia) (by lia);rw[xdp,zbf e] at this;exact xbu this
 refine⟨?_,low⟩;rw[xdg,xhw,zbi];refine m.grow ?_ (by rw[xhx];exact(T.oa.drop k).take _) fun v hv z hz=>?_
 ·rw[xhx,zor a.toList c.1,xbq,xbq];exact xgi _ xgj
 ·have hz:=up z (xhv.mp hz);rcases xce.mp hv with hv | hv
  ·exact xbb (low v hv) hz
  ·obtain⟨j,hj,e⟩:=zj hv;exact xbb (T.ob.at e hy (by lia)) hz
theorem MH.galB (T:TwoH R a.toList b.toList)(m:MH R all out.toList (a.toList.take (na+1)++b.toList.take nb))(hx:a.toList[na]?=some x)(hn:nb<=b.size)(c:Cut true R x b 0 nb k):MH R all (out++(b.extract k nb).reverse).toList (a.toList.take (na+1)++b.toList.take k)/\∀z∈b.toList.take k,R z<=R x:=by
 have low:∀z∈b.toList.take k,R z<=R x:=fun z hz=>by
  obtain⟨j,hj,e⟩:=zj hz;have:=c.2.1 j hj;rw[xdp,zbf e] at this;exact xbu this
 have up:∀z∈(b.toList.drop k).take (nb - k),R x<=R z:=fun z hz=>by
  obtain⟨j,hj,e⟩:=zj hz;rw[xfn] at e;have:=c.2.2 (k+j) (by lia) (by lia);rw[xdp,zbf e] at this;exact this
 refine⟨?_,low⟩;rw[xdg,xhw,zbi];refine m.grow ?_ (by rw[xhx];exact(T.ob.drop k).take _) fun v hv z hz=>?_
 ·rw[xhx,zor b.toList c.1,xbq]
 ·have hz:=up z (xhv.mp hz);rcases xce.mp hv with hv | hv
  ·obtain⟨j,hj,e⟩:=zj hv;exact xbb (T.oa.at e hx (by lia)) hz
  ·exact xbb (low v hv) hz
theorem zhi (xs:Array Keyed)(n:Nat):(xs.extract 0 n).toList=xs.toList.take n:=by
 rw[zbi,List.drop_zero,Nat.sub_zero]
theorem MH.done (T:TwoH R a.toList b.toList)(m:MH R (a.toList++b.toList) out.toList (a.toList.take na++b.toList.take nb))(h:na=0\/nb=0):Fin R a.toList b.toList (a.extract 0 na++b.extract 0 nb++out.reverse):=by
 unfold Fin;rw[xdg,xdg,zhi,zhi,xhw];refine m.fin (.refl _) ?_;rcases h with rfl | rfl
 ·rw[List.take_zero,List.nil_append];exact T.ob.take _
 ·rw[List.take_zero,xdz];exact T.oa.take _
theorem MH.firstB (T:TwoH R a.toList b.toList)(m:MH R (a.toList++b.toList) out.toList (a.toList.take na++b.toList.take nb))(h:nb=1):Fin R a.toList b.toList (b.extract 0 nb++a.extract 0 na++out.reverse):=by
 unfold Fin;rw[xdg,xdg,zhi,zhi,xhw];refine m.fin xgj (xfs.mpr ⟨T.ob.take _,T.oa.take _,fun v hv z hz=>?_⟩);obtain⟨j,hj,e⟩:=zj hv;have:j=0:=by lia
 subst this;exact T.first v e z (xfu hz)
inductive H1 (R:Keyed->Nat) (a b:Array Keyed) (st:SortSt) (x:Nat):Option (Array Keyed)×Nat×Nat×Array Keyed×Nat->SortSt->Prop where
 | mk {na nb:Nat} {out:Array Keyed} {g:Nat} {st':SortSt} (sm:SmG st st') (m:MH R (a.toList++b.toList) out.toList (a.toList.take na++b.toList.take nb)) (a1:1<=na) (a2:na<=a.size) (b1:2<=nb) (b2:nb<=b.size) (hx:x+na+nb < a.size+b.size):H1 R a b st x (none,na,nb,out,g) st'
inductive H2 (R:Keyed->Nat) (a b:Array Keyed) (st:SortSt) (x:Nat):Option (Array Keyed)×Nat×Nat×Array Keyed×Nat×Nat->SortSt->Prop where
 | mk {na nb:Nat} {out:Array Keyed} {ac bc:Nat} {st':SortSt} (sm:SmG st st') (m:MH R (a.toList++b.toList) out.toList (a.toList.take na++b.toList.take nb)) (a1:1<=na) (a2:na<=a.size) (b1:2<=nb) (b2:nb<=b.size) (hx:na+nb<=x):H2 R a b st x (none,na,nb,out,ac,bc) st'
inductive H3 (R:Keyed->Nat) (a b:Array Keyed) (st:SortSt) (x y:Nat):Option (Array Keyed)×Nat×Nat×Array Keyed×Nat×Nat×Nat->SortSt->Prop where
 | mk {na nb:Nat} {out:Array Keyed} {g ac bc:Nat} {st':SortSt} (sm:SmG st st') (m:MH R (a.toList++b.toList) out.toList (a.toList.take na++b.toList.take nb)) (a1:1<=na) (a2:na<=a.size) (b1:2<=nb) (b2:nb<=b.size) (hx:y+na+nb<=x):H3 R a b st x y (none,na,nb,out,g,ac,bc) st'
theorem zpo {st:SortSt}{Q:Array Keyed->SortSt->Prop}(O:Orc prog w A s κ a₀ R)(hk:kindOf st=κ)(ma:∀x∈a.toList,x∈a₀.toList)(mb:∀x∈b.toList,x∈a₀.toList)(T:TwoH R a.toList b.toList)(ha:1<=a.size)(hb:1<=b.size)
  (lst:∀x,a.toList[a.size - 1]?=some x->∀y∈b.toList,R y<=R x)(h:∀r st',SmG st st'->Fin R a.toList b.toList r->Q r st'):wpS (model prog w) A E s (mergeHi' a b) Q st:=by
 have atA:∀(i:Nat) (hi:i < a.size),a[i]?=some a[i]/\a.toList[i]?=some a[i]/\a[i]∈a₀.toList:=fun i hi=>⟨getElem?_pos a i hi,by rw[xcf];exact getElem?_pos a i hi,ma _ (by simp)⟩
 have atB:∀(i:Nat) (hi:i < b.size),b[i]?=some b[i]/\b.toList[i]?=some b[i]/\b[i]∈a₀.toList:=fun i hi=>⟨getElem?_pos b i hi,by rw[xcf];exact getElem?_pos b i hi,mb _ (by simp)⟩
 have upA:∀n,n<=a.size->UpA R a 0 (0+n):=fun n hn p q a1 a2 a3=>by
  have hq:q < a.size:=xbg a3 (xbb (xdc (xdp n)) hn);have e1:=(atA p (xcv a2 hq)).2.1;have e2:=(atA q hq).2.1;rw[zbf e1,zbf e2];exact T.oa.at e1 e2 a2
 have upB:∀n,n<=b.size->UpA R b 0 (0+n):=fun n hn p q a1 a2 a3=>by
  have hq:q < b.size:=xbg a3 (xbb (xdc (xdp n)) hn);have e1:=(atB p (xcv a2 hq)).2.1;have e2:=(atB q hq).2.1;rw[zbf e1,zbf e2];exact T.ob.at e1 e2 a2
 obtain⟨x0,f0,f1⟩:∃x,a[a.size - 1]?=some x/\a.toList[a.size - 1]?=some x:=⟨_,(atA (a.size - 1) (xhb ha Nat.one_pos)).1,(atA (a.size - 1) (xhb ha Nat.one_pos)).2.1⟩
 have start:MH R (a.toList++b.toList) (#[x0]:Array Keyed).toList (a.toList.take (a.size - 1)++b.toList.take b.size):=by
  have z:MH R (a.toList++b.toList) (#[]:Array Keyed).toList (a.toList.take (a.size - 1+1)++b.toList.take b.size):=by
   refine⟨?_,List.Pairwise.nil,by simp⟩;rw[xgg ha,xge (by simp),xge (by simp)];simp
  exact z.pushA T f1 fun y hy=>lst x0 f1 y (xfu hy)
 refine xbi (xjm (xgq ⟨rfl,xbi (zhs f0 (zbgz (fun c1=>?_) (fun c2=>?_) fun c1 c2=>?_))⟩))
 ·exact xbk (h _ _ (.refl _) (start.done T (.inl (by simpa using c1))))
 ·exact xbk (h _ _ (.refl _) (start.firstB T (by simpa using c2)))
 simp only[xfv] at c1 c2;refine xbi (xgz ?_);refine xbi (xex (xdh (I:=H1 R a b st) (Q:=Dn R a b st) ?_ ?_ (.mk (.refl _) start (by lia) (by lia) (by lia) (xbd _) (by lia))) ?_)
 ·rintro x c st1 x1 x2 @⟨na,nb,out,g,st1,sm1,m,a1,a2,b1,b2,hx⟩;dsimp only;refine xbi (xex (xdh (I:=fun _=>H2 R a b st (na+nb)) (Q:=fun c st'=>Dn R a b st c st'\/H2 R a b st (na+nb) c st') ?_ ?_ (.mk sm1 m a1 a2 b1 b2 (xbd _))) ?_)
  ·rintro x' c st2 _ _ @⟨na',nb',out,ac,bc,st2,sm2,m,g1,g2,g3,g4,hp⟩;obtain⟨p,rfl⟩:∃p,na'=p+1:=⟨na' - 1,(xgg g1).symm⟩
   obtain⟨q,rfl⟩:∃q,nb'=q+1:=⟨nb' - 1,(xgg (xcz g3)).symm⟩
   dsimp only;have ea:=(atA p g2).1;have ela:=(atA p g2).2.1;have mea:=(atA p g2).2.2;have eb:=(atB q g4).1;have elb:=(atB q g4).2.1;have meb:=(atB q g4).2.2;refine w_el eb (w_el ea (zwu O (sm2.kind.trans hk) meb mea (fun cw=>w_el ea ?_) fun cw=>w_el eb ?_))
   ·skip
    have m2:=m.pushA T ela fun z hz=>by
     obtain⟨j,hj,e⟩:=zj hz;exact xbb (T.ob.at e elb (xcu hj)) (xbu cw)
    refine w_if (fun c5=>xbk (.inl (.mk sm2 (m2.done T (.inl (eq_of_beq c5)))))) fun c5=>?_
    rw[xfv] at c5;have a3:1<=p:=xim c5;have a4:p<=a.size:=xcz g2;have a5:p+(q+1)<=na+nb:=xbb (Nat.add_le_add_right (xld p) _) hp;exact w_if (fun _=>xbk (.inr (.mk sm2 m2 a3 a4 g3 g4 a5))) fun _=>xbk (.mk sm2 m2 a3 a4 g3 g4 a5)
   ·skip
    have m2:=m.pushB T elb fun z hz=>by
     obtain⟨j,hj,e⟩:=zj hz;exact xbb (T.oa.at e ela (xcu hj)) cw
    refine w_if (fun c5=>xbk (.inl (.mk sm2 (m2.firstB T (eq_of_beq c5))))) fun c5=>?_
    rw[xfv] at c5;have a3:2<=q:=xcw (Nat.le_of_succ_le_succ g3) (xez c5);have a4:q<=b.size:=xcz g4;have a5:p+1+q<=na+nb:=xcz hp;exact w_if (fun _=>xbk (.inr (.mk sm2 m2 g1 g2 a3 a4 a5))) fun _=>xbk (.mk sm2 m2 g1 g2 a3 a4 a5)
  ·exact fun c st2 k=>.inr k
  ·rintro c st2 (⟨sm2,f⟩ | @⟨na',nb',out,ac,bc,st2,sm2,m,g1,g2,g3,g4,hp⟩)
   ·exact xbk (.mk sm2 f)
   ·dsimp only;refine xbi (xjm (xgq ⟨rfl,?_⟩));refine xbi (xex (xdh (I:=H3 R a b st (na+nb)) (Q:=fun c st'=>Dn R a b st c st'\/H3 R a b st (na+nb) 1 c st') ?_ ?_ (.mk sm2 m g1 g2 g3 g4 (by rw[xdp];exact hp))) ?_)
    ·rintro x' c st3 _ x2' @⟨na',nb',out,g',ac,bc,st3,sm3,m,g1,g2,g3,g4,hp⟩;obtain⟨q,rfl⟩:∃q,nb'=q+1:=⟨nb' - 1,(xgg (xcz g3)).symm⟩
     dsimp only;have eb:=(atB q g4).1;have elb:=(atB q g4).2.1;have meb:=(atB q g4).2.2;generalize g' - 1=g1;generalize g'=y;revert g1;revert y
     refine zbgy ?_;intro gg;refine xbi (zpl fun st4 sg=>?_);have sm4:=sm3.trans sg;refine w_el eb (xbi (zeh O (sm4.kind.trans hk) meb (fun i hi=>⟨_,(atA (0+i) (by lia)).1,(atA (0+i) (by lia)).2.2⟩) (by lia) (upA na' g2) fun k1 cut1=>?_));have m5:=(m.galA T elb g2 cut1).1;have u5:=(m.galA T elb g2 cut1).2;have hk1:=cut1.1;dsimp only;refine zbha (fun c6=>?_) (fun c6 c7=>?_) fun hh=>?_
     ·have z:k1=na':=by lia
      subst z;rw[show out++(a.extract k1 k1).reverse=out by simp[xhc]]
     ·exact xbk (.inl (.mk sm4 (m5.done T (.inl (eq_of_beq c7)))))
     have g5:1<=k1:=by
      by_cases c6:na' - k1 > 0
      ·have:=hh c6;simp at this;lia
      ·lia
     have g6:k1<=a.size:=xbb hk1 g2;have hp5:x'+k1+(q+1)<=na+nb:=by lia
     clear hh hk1 cut1;generalize out++(a.extract k1 na').reverse=out5 at m5 ⊢;obtain⟨p,rfl⟩:∃p,k1=p+1:=⟨k1 - 1,(xgg g5).symm⟩
     simp only[xki];have m6:=m5.pushB T elb u5;have ea:=(atA p g6).1;have ela:=(atA p g6).2.1;have mea:=(atA p g6).2.2;refine w_el eb (w_if (fun c9=>xbk (.inl (.mk sm4 (m6.firstB T (eq_of_beq c9))))) fun c9=>w_el ea ?_);rw[xfv] at c9;refine xbi (zeh O (sm4.kind.trans hk) mea (fun i hi=>⟨_,(atB (0+i) (by lia)).1,(atB (0+i) (by lia)).2.2⟩) (by lia) (upB q (xcz g4)) fun k2 cut2=>?_);have m7:=(m6.galB T ela (xcz g4) cut2).1;have u7:=(m6.galB T ela (xcz g4) cut2).2;have hk2:=cut2.1;dsimp only;refine zwv (fun d6=>?_) (fun d6 d7=>?_) (fun d6 d9=>?_) fun hh=>?_
     ·have z2:k2=q:=by lia
      subst z2;simp only[xhp (xbb (xhc _ _) (xbd _)),Array.reverse_empty,xkh]
     ·exact xbk (.inl (.mk sm4 (m7.firstB T (eq_of_beq d7))))
     ·exact xbk (.inl (.mk sm4 (m7.done T (.inr (eq_of_beq d9)))))
     have h20:2<=k2:=by
      by_cases d6:q - k2 > 0
      ·have:=hh d6;simp at this;lia
      ·lia
     have m8:=m7.pushA T ela u7;refine w_el ea (w_if (fun d8=>xbk (.inl (.mk sm4 (m8.done T (.inl (eq_of_beq d8)))))) fun d8=>?_);rw[xfv] at d8;have a3:1<=p:=xim d8;have a4:p<=a.size:=xcz g6;have a5:k2<=b.size:=xbb hk2 (xcz g4);have a6:x'+1+p+k2<=na+nb:=by lia
     exact w_if (fun _=>xbk (.inr (.mk sm4 m8 a3 a4 h20 a5 (by lia)))) fun _=>xbk (.mk sm4 m8 a3 a4 h20 a5 a6)
    ·rintro c st3 ⟨sm3,m,g1,g2,g3,g4,hp⟩;exact .inr (.mk sm3 m g1 g2 g3 g4 (by lia))
    ·rintro c st3 (⟨sm3,f⟩ | @⟨na',nb',out,g',ac,bc,st3,sm3,m,g1,g2,g3,g4,hp⟩)
     ·exact xbk (.mk sm3 f)
     ·have h9:x+1+na'+nb' < a.size+b.size:=by lia
      exact xbi (zpl fun st4 sg=>xbk (.mk (sm3.trans sg) m g1 g2 g3 g4 h9))
 ·rintro c st1 ⟨sm1,m,a1,a2,b1,b2,hx⟩;lia
 ·rintro c st1 ⟨sm1,f⟩;exact xbk (h _ st1 sm1 f)
end
theorem znc:∀(l:List Keyed) (n off:Nat) (xs:Array Keyed),off+n+l.length<=xs.size->∀i,((l.zipIdx n).foldl (fun a p=>a.setIfInBounds (off+p.2) p.1) xs)[i]?=if off+n<=i/\i < off+n+l.length then l[i - (off+n)]? else xs[i]?
 | [],n,off,xs,h,i=>by
  rw[if_neg (by simp)]
  rfl
 | x::l,n,off,xs,h,i=>by
  rw[List.zipIdx_cons,xjx];rw[xbr] at h;have e1:off+(n+1)+l.length=off+n+(l.length+1):=Nat.succ_add_eq_add_succ (off+n) l.length;rw[znc l (n+1) off _ (by rw[Array.size_setIfInBounds];exact xbb (xdc e1) h) i];rw[xbr];by_cases c:off+(n+1)<=i/\i < off+(n+1)+l.length
  ·rw[if_pos c,if_pos ⟨xcz c.1,xfo c.2 e1⟩,show i - (off+n)=i - (off+(n+1))+1 from(xgg (xfd c.1)).symm,xgx]
  ·rw[if_neg c];by_cases c2:i=off+n
   ·rw[if_pos ⟨xdc c2.symm,xcv (xdc c2) (xgw (Nat.succ_pos _))⟩,c2,xil,xgy];exact Array.getElem?_setIfInBounds_self_of_lt (xbg (xgw (Nat.succ_pos l.length)) h)
   ·rw[if_neg fun z=>c ⟨xcw z.1 (xez c2),xfo z.2 e1.symm⟩];exact Array.getElem?_setIfInBounds_ne (fun z=>c2 z.symm)
theorem ztq {m xs:Array Keyed}{off:Nat}(h:off+m.size<=xs.size):(m.toList.zipIdx.foldl (fun a p=>a.setIfInBounds (off+p.2) p.1) xs).toList=xs.toList.take off++m.toList++xs.toList.drop (off+m.size):=by
 apply xjb;intro i;rw[xcf,znc m.toList 0 off xs (by simpa using h) i];simp only[xjw,xbv];have l1:(xs.toList.take off).length=off:=by rw[xct,xbv];exact xeb (xbb (xbx _ _) h)
 by_cases c:off<=i/\i < off+m.size
 ·rw[if_pos c,xbq,xdf (xbb (xdc l1) c.1),l1,xcs (by rw[xbv];exact xdi c.1 c.2)]
 ·rw[if_neg c];by_cases c2:i < off
  ·rw[xbq,xcs (xfo c2 l1.symm),List.getElem?_take,if_pos c2,xcf]
  ·have h3:off+m.size<=i:=xca fun z=>c ⟨xca c2,z⟩
   rw[xdf (by rw[xbo,l1,xbv];exact h3),xfn];simp only[xbo,l1,xbv];rw[xcg h3,xcf]
section
variable {prog:Program}{w:World}{A:Around}{E:Value->Shared->Prop}{s:Shared}{κ:SortKind}{a₀:Array Keyed}{R:Keyed->Nat}
theorem zsk {xs:Array Keyed}{i j:Nat}(up:UpA R xs i j)(hj:j<=xs.size):Ord R (xs.extract i j).toList:=by
 rw[zbi];refine xig.mpr fun p q hp hq hpq=>?_
 simp only[xct,xgr,xbv] at hp hq;simp only[List.getElem_take,List.getElem_drop,Array.getElem_toList];have:=up (i+p) (i+q) (xbx _ _) (xch (xbu hpq) i) (xdn (xbg hq (xhc _ _)));rw[zcw (getElem?_pos xs (i+p) (xdn (xbg hp (xfk _ _)))),zcw (getElem?_pos xs (i+q) (xdn (xbg hq (xfk _ _))))] at this;exact this
theorem zgj {xs:Array Keyed}{i j:Nat}{x:Keyed}(h:x∈(xs.extract i j).toList):∃q,i<=q/\q < j/\xs[q]?=some x:=by
 rw[zbi] at h;obtain⟨q,hq,e⟩:=zj h;rw[xfn,xcf] at e;exact⟨i+q,xbx _ _,xdn hq,e⟩
theorem zzx {xs:Array Keyed}{i j q:Nat}(h:q < j - i):(xs.extract i j).toList[q]?=xs[i+q]?:=by
 rw[zbi,List.getElem?_take,if_pos h,xfn,xcf]
structure Mg (R:Keyed->Nat) (xs ys:Array Keyed) (lo hi:Nat):Prop where
 perm:ys.Perm xs
 out:Out ys xs lo hi
 up:UpA R ys lo hi
theorem zqw {xs m:Array Keyed}{sa sb ea k nb':Nat}{y0 xl:Keyed}(hsb:sb<=ea)(hea:ea<=xs.size)(hk:sa+k < sb)(hnb:sb+nb'<=ea)(hnb1:1<=nb')(upA:UpA R xs sa sb)(upB:UpA R xs sb ea)
  (e0:xs[sb]?=some y0)(el:xs[sb - 1]?=some xl)(c1:Cut false R y0 xs sa (sb - sa) k)(c2:Cut true R xl xs sb (ea - sb) nb')
  (f:Fin R (xs.extract (sa+k) sb).toList (xs.extract sb (sb+nb')).toList m):Mg R xs (m.toList.zipIdx.foldl (fun a p=>a.setIfInBounds (sa+k+p.2) p.1) xs) sa ea:=by
 have lx:(xs.extract (sa+k) sb).toList.length=sb - (sa+k):=by rw[zbi,xct,xgr,xbv];exact xeb (xfb (xbb hsb hea) _)
 have ly:(xs.extract sb (sb+nb')).toList.length=nb':=by rw[zbi,xct,xgr,xbv,xcr];exact xeb (xei (xbb hnb hea))
 have lm:m.size=sb+nb' - (sa+k):=by
  have:=f.1.length_eq;rw[xbo,lx,ly,xbv] at this;exact this.trans (Nat.sub_add_comm (xbu hk)).symm
 have he:sa+k+m.size=sb+nb':=by rw[lm];exact xcg (xbb (xbu hk) (xbx _ _))
 have hsz:sa+k+m.size<=xs.size:=by rw[he];exact xbb hnb hea
 have hs1:=xcy hk;have s1:sb - 1 < sb:=xhb (xja hk) Nat.one_pos;have g:∀i,(m.toList.zipIdx.foldl (fun a p=>a.setIfInBounds (sa+k+p.2) p.1) xs)[i]?=if sa+k<=i/\i < sb+nb' then m.toList[i - (sa+k)]? else xs[i]?:=fun i=>by
  have:=znc m.toList 0 (sa+k) xs (by simpa using hsz) i;simp only[xjw,xbv] at this;rw[he] at this;exact this
 have mid:∀v∈m.toList,R y0<=R v/\R v<=R xl:=fun v hv=>by
  rcases xce.mp (f.1.mem_iff.mp hv) with hv | hv
  ·obtain⟨q,q1,q2,e⟩:=zgj hv;have q0:=xbb (xbx _ _) q1;have h1:=c1.2.2 (q - sa) (xei q1) (xea q0 q2);rw[xcg q0,zcw e] at h1;have h2:=upA q (sb - 1) q0 (xcy q2) s1;rw[zcw e,zcw el] at h2;have h1':R y0 < R v:=h1;exact⟨xbu h1',h2⟩
  ·obtain⟨q,q1,q2,e⟩:=zgj hv;have h1:=upB sb q (xbd _) q1 (xbg q2 hnb);rw[zcw e,zcw e0] at h1;have h2:=c2.2.1 (q - sb) (xdi q1 q2);rw[xcg q1,zcw e] at h2;have h2':R v < R xl:=h2;exact⟨h1,xbu h2'⟩
 have low:∀i,sa<=i->i < sa+k->kA R xs i<=R y0:=fun i a1 a2=>by
  have:=c1.2.1 (i - sa) (xdi a1 a2);rw[xcg a1] at this;exact this
 have hig:∀i,sb+nb'<=i->i < ea->R xl<=kA R xs i:=fun i a1 a2=>by
  have i0:=xbb (xbx _ _) a1;have:=c2.2.2 (i - sb) (xei a1) (xea i0 a2);rw[xcg i0] at this;exact this
 have kk:∀i,kA R (m.toList.zipIdx.foldl (fun a p=>a.setIfInBounds (sa+k+p.2) p.1) xs) i=if sa+k<=i/\i < sb+nb' then kA R m (i - (sa+k)) else kA R xs i:=fun i=>by
  have:=g i;split
  ·rename_i c;rw[if_pos c,xcf] at this;exact zcr this
  ·rename_i c;rw[if_neg c] at this;exact zcr this
 have mm:∀i,i < m.size->∃v,m.toList[i]?=some v/\v∈m.toList:=fun i hi=>⟨m.toList[i]'(by simpa using hi),xbf _,xee _⟩
 refine⟨?_,fun i hi=>?_,fun i j a1 a2 a3=>?_⟩
 ·refine xfj.mpr ?_;rw[ztq hsz,he];have split:xs.toList=xs.toList.take (sa+k)++((xs.extract (sa+k) sb).toList++(xs.extract sb (sb+nb')).toList)++xs.toList.drop (sb+nb'):=by
   rw[zbi,zbi];rw[xcr]
   conv=>lhs;rw[← xdv (sa+k) xs.toList,← xdv (sb - (sa+k)) (xs.toList.drop (sa+k)),xlg,xcg (xbu hk),← xdv nb' (xs.toList.drop sb),xlg]
   simp only[xbq]
  conv=>rhs;rw[split]
  exact xhh _ (xgi _ f.1)
 ·rw[g i,if_neg fun z=>hi.elim (fun h=>xef (xbb (xbx sa k) z.1) h) fun h=>xef h (xbg z.2 hnb)]
 ·rw[kk,kk];by_cases ci:sa+k<=i/\i < sb+nb'
  ·rw[if_pos ci];obtain⟨v,ev,mv⟩:=mm (i - (sa+k)) (by rw[lm];exact xea ci.1 ci.2);rw[zbf ev];by_cases cj:sa+k<=j/\j < sb+nb'
   ·rw[if_pos cj];obtain⟨u,eu,mu⟩:=mm (j - (sa+k)) (by rw[lm];exact xea cj.1 cj.2);rw[zbf eu];exact f.2.at ev eu (xfb a2 _)
   ·rw[if_neg cj];exact xbb (mid v mv).2 (hig j (xca fun z=>cj ⟨xbb ci.1 a2,z⟩) a3)
  ·rw[if_neg ci];by_cases ci2:i < sa+k
   ·have h1:=low i a1 ci2;by_cases cj:sa+k<=j/\j < sb+nb'
    ·rw[if_pos cj];obtain⟨u,eu,mu⟩:=mm (j - (sa+k)) (by rw[lm];exact xea cj.1 cj.2);rw[zbf eu];exact xbb h1 (mid u mu).1
    ·rw[if_neg cj];by_cases cj2:j < sa+k
     ·exact upA i j a1 a2 (xhn cj2 hk)
     ·have h2:=hig j (xca fun z=>cj ⟨xca cj2,z⟩) a3;have h3:R y0<=R xl:=by
       have s0:=xbb (xbx _ _) hs1;have h4:=c1.2.2 (sb - 1 - sa) (xei hs1) (xea s0 s1);rw[xcg s0,zcw el] at h4;exact xbu h4
      exact xbb h1 (xbb h3 h2)
   ·have hi2:sb+nb'<=i:=xca fun z=>ci ⟨xca ci2,z⟩
    rw[if_neg fun z=>xef (xbb hi2 a2) z.2];exact upB i j (xbb (xbx _ _) hi2) a2 a3
end
section
variable {prog:Program}{w:World}{A:Around}{E:Value->Shared->Prop}{s:Shared}{κ:SortKind}{a₀:Array Keyed}{R:Keyed->Nat}
theorem zbhz {x st:SortSt}{Q:Unit->SortSt->Prop}(h:Q () x):wpS (model prog w) A E s (set x:StateT SortSt Sem PUnit) Q st:=by
 unfold wpS;rw[StateT.run_set];exact xbe ⟨rfl,h⟩
theorem zpp {i sa na pw sb nb pw':Nat}{st:SortSt}{Q:Bool->SortSt->Prop}(O:Orc prog w A s κ a₀ R)(b:B κ a₀ st)(p1:(pendingOf st)[i]?=some (sa,na,pw))(p2:(pendingOf st)[i+1]?=some (sb,nb,pw'))(hsb:sb=sa+na)(hna:1<=na)(hnb:1<=nb)(hz:sb+nb<=a₀.size)
  (upA:UpA R (arrOf st) sa sb)(upB:UpA R (arrOf st) sb (sb+nb))
  (h:∀st',B κ a₀ st'->pendingOf st'=((pendingOf st).setIfInBounds i (sa,na+nb,pw)).eraseIdxIfInBounds (i+1)->Out (arrOf st') (arrOf st) sa (sb+nb)->UpA R (arrOf st') sa (sb+nb)->Q true st'):wpS (model prog w) A E s (mergeAt' i) Q st:=by
 have hsz:=b.size;have bs:sb < a₀.size:=xbg (xgw hnb) hz;refine xbi (xgz ?_);dsimp only;have q1:(sortPriv% PySem.Builtin.SortState.pending) st=pendingOf st:=rfl;rw[q1,p1,p2];dsimp only;refine xbi (zbhz ?_);obtain⟨y0,e0,my0⟩:=b.mem (i:=sb) bs;have inA:∀q,q < a₀.size->∃x,(arrOf st)[q]?=some x/\x∈a₀.toList:=fun q hq=>b.mem hq
 refine xbi (zhs e0 ?_);refine xbi (zeh O b.kind my0 (fun q hq=>inA (sa+q) (xhn (xfo (xdu hq sa) hsb.symm) bs)) hna (by rw[← hsb];exact upA) fun k c1=>?_);dsimp only;have hk:=c1.1;have c1':Cut false R y0 (arrOf st) sa (sb - sa) k:=by rw[show sb - sa=na from by rw[hsb,xcr]];exact c1
 by_cases d1:na - k=0
 ·rw[if_pos (by simpa using d1)];refine xbk (h _ ⟨b.perm,b.kind,b.failed⟩ rfl (Out.refl _ _ _) fun p q a1 a2 a3=>?_);by_cases z1:q < sb
  ·exact upA p q a1 a2 z1
  ·by_cases z2:p < sb
   ·have h1:=c1.2.1 (p - sa) (xbg (xdi a1 (xfo z2 hsb)) (Nat.le_of_sub_eq_zero d1));rw[xcg a1] at h1;have h2:=upB sb q (xbd _) (xca z1) a3;rw[zcw e0] at h2;exact xbb h1 h2
   ·exact upB p q (xca z2) a2 a3
 ·rw[if_neg (by simpa using d1)];have hk2:sa+k < sb:=xfo (xdu (xfl fun z=>d1 (Nat.sub_eq_zero_of_le z)) sa) hsb.symm;have s1:sb - 1 < sb:=xhb (xja hk2) Nat.one_pos;obtain⟨xl,el,mxl⟩:=inA (sb - 1) (xhn s1 bs);have el':(arrOf st)[sa+k+(na - k) - 1]?=some xl:=by rw[xia,xcg hk,← hsb];exact el
  refine xbi (zhs el' ?_);refine xbi (zeh O b.kind mxl (fun q hq=>inA (sb+q) (xbg (xdu hq sb) hz)) (xhb hnb Nat.one_pos) upB fun nb' c2=>?_);dsimp only;have hn2:=c2.1;have c2':Cut true R xl (arrOf st) sb (sb+nb - sb) nb':=by rw[xcr];exact c2
  by_cases d2:nb'=0
  ·rw[if_pos (by simpa using d2)];refine xbk (h _ ⟨b.perm,b.kind,b.failed⟩ rfl (Out.refl _ _ _) fun p q a1 a2 a3=>?_);subst d2;by_cases z1:q < sb
   ·exact upA p q a1 a2 z1
   ·by_cases z2:p < sb
    ·have h1:=upA p (sb - 1) a1 (xcy z2) s1;rw[zcw el] at h1;have h2:=c2.2.2 (q - sb) (xed _) (xdi (xca z1) a3);rw[xcg (xca z1)] at h2;exact xbb h1 h2
    ·exact upB p q (xca z2) a2 a3
  ·rw[if_neg (by simpa using d2)];have hn1:1<=nb':=xim d2;have hez:sb<=(arrOf st).size:=by rw[hsz];exact xbu bs
   have hbz:sb+nb<=(arrOf st).size:=by rw[hsz];exact hz
   have hb2:sb+nb'<=sb+nb:=xch hn2 sb;have oa:Ord R ((arrOf st).extract (sa+k) sb).toList:=zsk (fun p q a1 a2 a3=>upA p q (xbb (xbx _ _) a1) a2 a3) hez;have ob:Ord R ((arrOf st).extract sb (sb+nb')).toList:=zsk (fun p q a1 a2 a3=>upB p q a1 a2 (xbg a3 hb2)) (xbb hb2 hbz);have ma:∀x∈((arrOf st).extract (sa+k) sb).toList,x∈a₀.toList:=fun x hx=>by
    obtain⟨q,q1,q2,e⟩:=zgj hx;obtain⟨x',e',m'⟩:=inA q (xhn q2 bs);rw[e] at e';cases e';exact m'
   have mb:∀x∈((arrOf st).extract sb (sb+nb')).toList,x∈a₀.toList:=fun x hx=>by
    obtain⟨q,q1,q2,e⟩:=zgj hx;obtain⟨x',e',m'⟩:=inA q (xbg q2 (xbb hb2 hz));rw[e] at e';cases e';exact m'
   have sx:((arrOf st).extract (sa+k) sb).size=sb - (sa+k):=by rw[Array.size_extract,xeb hez]
   have sy:((arrOf st).extract sb (sb+nb')).size=nb':=by rw[Array.size_extract,xeb (xbb hb2 hbz),xcr]
   have fst:∀y,((arrOf st).extract sb (sb+nb')).toList[0]?=some y->∀x∈((arrOf st).extract (sa+k) sb).toList,R y<=R x:=fun y hy x hx=>by
    rw[zzx (by rw[xcr];exact hn1),xjw,e0] at hy;cases hy;obtain⟨q,q1,q2,e⟩:=zgj hx;have q0:=xbb (xbx _ _) q1;have:=c1.2.2 (q - sa) (xei q1) (xdi q0 (xfo q2 hsb));rw[xcg q0,zcw e] at this;exact xbu this
   have lst:∀x,((arrOf st).extract (sa+k) sb).toList[sb - (sa+k) - 1]?=some x->∀y∈((arrOf st).extract sb (sb+nb')).toList,R y<=R x:=fun x hx y hy=>by
    rw[zzx (xhb (xfd hk2) Nat.one_pos),show sa+k+(sb - (sa+k) - 1)=sb - 1 from by rw[← Nat.add_sub_assoc (xfd hk2),xcg (xbu hk2)],el] at hx;cases hx;obtain⟨q,q1,q2,e⟩:=zgj hy;have:=c2.2.1 (q - sb) (xdi q1 q2);rw[xcg q1,zcw e] at this;exact xbu this
   have post:∀m st2,SmG st st2\/True->Fin R ((arrOf st).extract (sa+k) sb).toList ((arrOf st).extract sb (sb+nb')).toList m->Mg R (arrOf st) (m.toList.zipIdx.foldl (fun a p=>a.setIfInBounds (sa+k+p.2) p.1) (arrOf st)) sa (sb+nb):=fun m _ _ f =>
    zqw (xbx _ _) hbz hk2 hb2 hn1 upA upB e0 el c1' c2' f
   by_cases d3:na - k<=nb'
   ·rw[if_pos d3];refine xbi (zpn O b.kind ma mb ⟨oa,ob,fun x hx=>lst x (by rw[xbv,sx] at hx;exact hx)⟩ (by show 1<=((arrOf st).extract (sa+k) sb).size;rw[sx];exact xfd hk2) (by show 1<=((arrOf st).extract sb (sb+nb')).size;rw[sy];exact hn1) fst fun m st2 sg f=>?_);have mg:=post m st2 (.inr trivial) f;refine xbi (xgf (xbi (xgz ?_)));have a2:arrOf st2=arrOf st:=sg.arr;have f2:failedOf st2=none:=sg.failed.trans b.failed;refine xbk (?_:Q ((failedOf st2).isNone) (setArr st2 (m.toList.zipIdx.foldl (fun a p=>a.setIfInBounds (sa+k+p.2) p.1) (arrOf st2))));rw[f2,a2];exact h _ ⟨mg.perm.trans b.perm,sg.kind.trans b.kind,f2⟩ sg.pend mg.out mg.up
   ·rw[if_neg d3];refine xbi (zpo O b.kind ma mb ⟨oa,ob,fst⟩ (by show 1<=((arrOf st).extract (sa+k) sb).size;rw[sx];exact xfd hk2) (by show 1<=((arrOf st).extract sb (sb+nb')).size;rw[sy];exact hn1) (fun x hx=>lst x (by rw[sx] at hx;exact hx)) fun m st2 sg f=>?_);have mg:=post m st2 (.inr trivial) f;refine xbi (xgf (xbi (xgz ?_)));have a2:arrOf st2=arrOf st:=sg.arr;have f2:failedOf st2=none:=sg.failed.trans b.failed;refine xbk (?_:Q ((failedOf st2).isNone) (setArr st2 (m.toList.zipIdx.foldl (fun a p=>a.setIfInBounds (sa+k+p.2) p.1) (arrOf st2))));rw[f2,a2];exact h _ ⟨mg.perm.trans b.perm,sg.kind.trans b.kind,f2⟩ sg.pend mg.out mg.up
end
noncomputable def Segs (R:Keyed->Nat) (xs:Array Keyed):Nat->List (Nat×Nat×Nat)->Nat->Prop
 | s,[],e=>s=e
 | s,p::r,e=>p.1=s/\1<=p.2.1/\UpA R xs s (s+p.2.1)/\Segs R xs (s+p.2.1) r e
section
variable {R:Keyed->Nat}{xs ys:Array Keyed}
theorem Segs.le:∀{l:List (Nat×Nat×Nat)} {s e:Nat},Segs R xs s l e->s+l.length<=e
 | [],s,e,h=>by cases h;simp
 | p::r,s,e,h=>by
  have:=Segs.le h.2.2.2;have:=h.2.1;simp;lia
theorem Segs.append:∀{l m:List (Nat×Nat×Nat)} {s e:Nat},Segs R xs s (l++m) e↔∃k,Segs R xs s l k/\Segs R xs k m e
 | [],m,s,e=>⟨fun h=>⟨s,rfl,h⟩,fun⟨k,h1,h2⟩=>by cases h1;exact h2⟩
 | p::r,m,s,e=>by
  constructor
  ·rintro⟨h1,h2,h3,h4⟩;obtain⟨k,g1,g2⟩:=Segs.append.mp h4;exact⟨k,⟨h1,h2,h3,g1⟩,g2⟩
  ·rintro⟨k,⟨h1,h2,h3,h4⟩,g2⟩;exact⟨h1,h2,h3,Segs.append.mpr ⟨k,h4,g2⟩⟩
theorem UpA.same {a b:Nat}(h:UpA R xs a b)(e:∀i,a<=i->i < b->ys[i]?=xs[i]?):UpA R ys a b:=fun i j a1 a2 a3=>by
 rw[zcr (e i a1 (xcv a2 a3)),zcr (e j (xbb a1 a2) a3)];exact h i j a1 a2 a3
theorem Segs.same:∀{l:List (Nat×Nat×Nat)} {s e:Nat},Segs R xs s l e->(∀i,s<=i->i < e->ys[i]?=xs[i]?)->Segs R ys s l e
 | [],s,e,h,_=>h
 | p::r,s,e,h,k=>by
  have:=Segs.le h.2.2.2;exact⟨h.1,h.2.1,h.2.2.1.same fun i a1 a2=>k i a1 (xbg a2 (xbb (xbx _ _) this)),Segs.same h.2.2.2 fun i a1 a2=>k i (xbb (xbx _ _) a1) a2⟩
theorem Segs.power {s e:Nat}:∀{l m:List (Nat×Nat×Nat)},l.map (fun p=>(p.1,p.2.1))=m.map (fun p=>(p.1,p.2.1))->Segs R xs s l e->Segs R xs s m e:=by
 intro l
 induction l generalizing s with
 | nil=>intro m h k;cases m with
  | nil=>exact k
  | cons=>cases h
 | cons p r ih=>intro m h k;cases m with
  | nil=>cases h
  | cons q t =>
   rw[xbh,xbh] at h;obtain⟨h1,h2⟩:=List.cons.inj h;obtain⟨g1,g2⟩:=Prod.mk.inj h1;obtain⟨k1,k2,k3,k4⟩:=k;rw[g2] at k2 k3 k4;exact⟨g1.symm.trans k1,k2,k3,ih h2 k4⟩
end
section
variable {prog:Program}{w:World}{A:Around}{E:Value->Shared->Prop}{s:Shared}{κ:SortKind}{a₀:Array Keyed}{R:Keyed->Nat}
theorem zup {l:List (Nat×Nat×Nat)}{i:Nat}(h:i+1 < l.length):∃pre p q post,l=pre++p::q::post/\pre.length=i:=by
 refine⟨l.take i,l[i],l[i+1],l.drop (i+2),?_,by rw[xct];exact xeb (xbu (xet h))⟩
 conv=>lhs;rw[← xdv i l,xfq (xet h),xfq h]
theorem w_at {i e:Nat}{st:SortSt}{Q:Bool->SortSt->Prop}(O:Orc prog w A s κ a₀ R)(b:B κ a₀ st)(sg:Segs R (arrOf st) 0 (pendingOf st).toList e)(he:e<=a₀.size)(hi:i+1 < (pendingOf st).size)
  (h:∀st',B κ a₀ st'->Segs R (arrOf st') 0 (pendingOf st').toList e->(pendingOf st').size+1=(pendingOf st).size->(∀k,e<=k->(arrOf st')[k]?=(arrOf st)[k]?)->Q true st'):wpS (model prog w) A E s (mergeAt' i) Q st:=by
 obtain⟨pre,p,q,post,el,hl⟩:=zup (l:=(pendingOf st).toList) (i:=i) (by simpa using hi);obtain⟨sa,na,pw⟩:=p;obtain⟨sb,nb,pw'⟩:=q;rw[el] at sg;obtain⟨k,g1,g2⟩:=Segs.append.mp sg;obtain⟨h1,h2,h3,h4,h5,h6,h7⟩:=g2;dsimp only at h1 h2 h3 h4 h5 h6 h7;subst h1;have l7:=Segs.le h7;have l1:=Segs.le g1;have p1:(pendingOf st)[i]?=some (sa,na,pw):=by rw[← xcf,el,xdf (xdc hl),hl,xil];rfl
 have p2:(pendingOf st)[i+1]?=some (sb,nb,pw'):=by rw[← xcf,el,xdf (xbb (xdc hl) (xbx i 1)),hl,xcr];rfl
 refine zpp O b p1 p2 h4 h2 h5 (by lia) (by rw[h4];exact h3) (by rw[h4];exact h6) fun st' b' pe ou up=>?_
 have pl:(pendingOf st').toList=pre++(sa,na+nb,pw)::post:=by
  rw[pe];rw[Array.toList_eraseIdxIfInBounds,Array.toList_setIfInBounds,el];rw[List.set_append_right _ _ (xdc hl),hl,xil,List.set_cons_zero,List.eraseIdx_append_of_length_le (xbb (xdc hl) (xbx i 1)),hl,xcr]
  rfl
 have keep:∀j,j < sa\/sb+nb<=j->(arrOf st')[j]?=(arrOf st)[j]?:=ou
 refine h st' b' ?_ ?_ fun j hj=>keep j (.inr (by lia))
 ·rw[pl];refine Segs.append.mpr ⟨sa,g1.same fun j a1 a2=>keep j (.inl a2),rfl,by show 1<=na+nb;lia,?_,?_⟩
  ·show UpA R (arrOf st') sa (sa+(na+nb));rw[show sa+(na+nb)=sb+nb by lia];exact up
  ·show Segs R (arrOf st') (sa+(na+nb)) post e;rw[show sa+(na+nb)=sa+na+nb by lia];exact h7.same fun j a1 a2=>keep j (.inr (by lia))
 ·have e1:(pendingOf st').size=(pendingOf st').toList.length:=by simp
  have e2:(pendingOf st).size=(pendingOf st).toList.length:=by simp
  rw[e1,e2,pl,el];simp only[xbo,xbr];lia
theorem zbej {c:Prop}[Decidable c]{a b n:Nat}(h1:a+1 < n)(h2:b+1 < n):(if c then a else b)+1 < n:=by split<;>assumption
theorem zsn {g:Nat×Nat×Nat->Nat×Nat}{f:Nat×Nat×Nat->Nat×Nat×Nat}(h:∀x,g (f x)=g x):∀(l:List (Nat×Nat×Nat)) (i:Nat),(l.modify i f).map g=l.map g
 | [],i=>by simp
 | x::l,0=>by simp[h]
 | x::l,i+1=>by simp[zsn h l i]
theorem Segs.mod {xs:Array Keyed}{s e:Nat}{l:List (Nat×Nat×Nat)}(h:Segs R xs s l e)(i c:Nat):Segs R xs s (l.modify i fun x=>(x.1,x.2.1,c)) e :=
 h.power (zsn (g:=fun p=>(p.1,p.2.1)) (f:=fun x=>(x.1,x.2.1,c)) (fun _=>rfl) l i).symm
theorem zbch {st:SortSt}{Q:Unit->SortSt->Prop}(O:Orc prog w A s κ a₀ R)(b:B κ a₀ st)(pe:pendingOf st=#[])(h2:2<=a₀.size)
  (h:∀st',B κ a₀ st'->UpA R (arrOf st') 0 a₀.size->Q () st'):wpS (model prog w) A E s sortRuns' Q st:=by
 have hz:=b.size;rw[sortRuns'_eq];refine xbi (xgz ?_);dsimp only;rw[hz]
 refine xbi (xex (xdh (I:=fun x c st'=>∃lo,c=(none,lo)/\B κ a₀ st'/\Segs R (arrOf st') 0 (pendingOf st').toList lo/\lo<=a₀.size/\x<=lo)
  (Q:=fun c st'=>c=(none,a₀.size)/\B κ a₀ st'/\Segs R (arrOf st') 0 (pendingOf st').toList a₀.size) ?_ ?_ ⟨0,rfl,b,by rw[pe];rfl,by lia,by lia⟩) ?_)
 ·rintro x c st1 x1 x2 ⟨lo,rfl,b1,sg1,hlo,hx⟩;dsimp only;by_cases c1:lo ≥ a₀.size
  ·rw[if_pos c1];have:lo=a₀.size:=by lia
   subst this;exact xbk ⟨rfl,b1,sg1⟩
  rw[if_neg c1];refine xbi (zww O b1 (by lia) (by lia) fun m st2 m1 m2 b2 sm2 up2=>?_);dsimp only;have sg2:Segs R (arrOf st2) 0 (pendingOf st2).toList lo:=by
   rw[sm2.pend];exact sg1.same fun i a1 a2=>sm2.out i (.inl a2)
  by_cases c2:m < minRun' a₀.size a₀.size 0
  ·rw[if_pos c2];refine xbi (xjm (xgq ⟨rfl,?_⟩));refine xbi (zbia O b2 (by lia) m1 (by lia) up2 fun st3 b3 sm3 up3=>?_);have sg3:Segs R (arrOf st3) 0 (pendingOf st3).toList lo:=by
    rw[sm3.pend];exact sg2.same fun i a1 a2=>sm3.out i (.inl a2)
   have hn1:1<=min (a₀.size - lo) (minRun' a₀.size a₀.size 0):=by lia
   have hn2:lo+min (a₀.size - lo) (minRun' a₀.size a₀.size 0)<=a₀.size:=by lia
   simp only[xgm,xck,xdo];generalize min (a₀.size - lo) (minRun' a₀.size a₀.size 0)=n at up3 hn1 hn2 sm3 ⊢;refine xbi (xgz ?_);cases hb:(pendingOf st3).back? with
   | none =>
    dsimp only;refine xbi (xgf (xbk ⟨lo+n,rfl,⟨b3.perm,b3.kind,b3.failed⟩,?_,hn2,by lia⟩));show Segs R (arrOf st3) 0 ((pendingOf st3).push (lo,n,0)).toList (lo+n);rw[xfe];exact Segs.append.mpr ⟨lo,sg3,rfl,hn1,up3,rfl⟩
   | some p =>
    obtain⟨s1,n1,p1⟩:=p;dsimp only;refine xbi (xex (xdh (I:=fun _ c st'=>c=(none,())/\B κ a₀ st'/\Segs R (arrOf st') 0 (pendingOf st').toList lo/\UpA R (arrOf st') lo (lo+n)) (Q:=fun c st'=>c=(none,())/\B κ a₀ st'/\Segs R (arrOf st') 0 (pendingOf st').toList lo/\UpA R (arrOf st') lo (lo+n)) ?_ (fun _ _ hh=>hh) ⟨rfl,b3,sg3,up3⟩) ?_)
    ·rintro x' c st4 _ _ ⟨rfl,b4,sg4,up4⟩;refine xbi (xgz ?_);by_cases hs:(pendingOf st4).size > 1
     ·rw[if_pos hs,getElem?_pos (pendingOf st4) ((pendingOf st4).size - 2) (by lia)];obtain⟨s2,n2,p2⟩:=(pendingOf st4)[(pendingOf st4).size - 2]'(by lia);dsimp only;split
      ·exact xbk ⟨rfl,b4,sg4,up4⟩
      ·refine xbi (w_at O b4 sg4 hlo (by lia) fun st5 b5 sg5 _ k5=>?_);exact xbk ⟨rfl,b5,sg5,up4.same fun i a1 a2=>k5 i a1⟩
     ·rw[if_neg hs];exact xbk ⟨rfl,b4,sg4,up4⟩
    ·rintro c st4 ⟨rfl,b4,sg4,up4⟩;dsimp only;refine xbi (xgf (xbi (xgf (xbk ⟨lo+n,rfl,⟨b4.perm,b4.kind,b4.failed⟩,?_,hn2,by lia⟩))));refine(?_:Segs R (arrOf st4) 0 (((pendingOf st4).modify ((pendingOf st4).size - 1) fun x=>(x.1,x.2.1,_)).push (lo,n,0)).toList (lo+n));rw[xfe,Array.toList_modify];exact Segs.append.mpr ⟨lo,sg4.mod _ _,rfl,hn1,up4,rfl⟩
  ·rw[if_neg c2];have b3:=b2;have sg3:=sg2;have up3:=up2;have hn1:=m1;have hn2:lo+m<=a₀.size:=by lia
   generalize st2=st3 at b3 sg3 up3 ⊢;generalize m=n at up3 hn1 hn2 ⊢;refine xbi (xgz ?_);cases hb:(pendingOf st3).back? with
   | none =>
    dsimp only;refine xbi (xgf (xbk ⟨lo+n,rfl,⟨b3.perm,b3.kind,b3.failed⟩,?_,hn2,by lia⟩));show Segs R (arrOf st3) 0 ((pendingOf st3).push (lo,n,0)).toList (lo+n);rw[xfe];exact Segs.append.mpr ⟨lo,sg3,rfl,hn1,up3,rfl⟩
   | some p =>
    obtain⟨s1,n1,p1⟩:=p;dsimp only;refine xbi (xex (xdh (I:=fun _ c st'=>c=(none,())/\B κ a₀ st'/\Segs R (arrOf st') 0 (pendingOf st').toList lo/\UpA R (arrOf st') lo (lo+n)) (Q:=fun c st'=>c=(none,())/\B κ a₀ st'/\Segs R (arrOf st') 0 (pendingOf st').toList lo/\UpA R (arrOf st') lo (lo+n)) ?_ (fun _ _ hh=>hh) ⟨rfl,b3,sg3,up3⟩) ?_)
    ·rintro x' c st4 _ _ ⟨rfl,b4,sg4,up4⟩;refine xbi (xgz ?_);by_cases hs:(pendingOf st4).size > 1
     ·rw[if_pos hs,getElem?_pos (pendingOf st4) ((pendingOf st4).size - 2) (by lia)];obtain⟨s2,n2,p2⟩:=(pendingOf st4)[(pendingOf st4).size - 2]'(by lia);dsimp only;split
      ·exact xbk ⟨rfl,b4,sg4,up4⟩
      ·refine xbi (w_at O b4 sg4 hlo (by lia) fun st5 b5 sg5 _ k5=>?_);exact xbk ⟨rfl,b5,sg5,up4.same fun i a1 a2=>k5 i a1⟩
     ·rw[if_neg hs];exact xbk ⟨rfl,b4,sg4,up4⟩
    ·rintro c st4 ⟨rfl,b4,sg4,up4⟩;dsimp only;refine xbi (xgf (xbi (xgf (xbk ⟨lo+n,rfl,⟨b4.perm,b4.kind,b4.failed⟩,?_,hn2,by lia⟩))));refine(?_:Segs R (arrOf st4) 0 (((pendingOf st4).modify ((pendingOf st4).size - 1) fun x=>(x.1,x.2.1,_)).push (lo,n,0)).toList (lo+n));rw[xfe,Array.toList_modify];exact Segs.append.mpr ⟨lo,sg4.mod _ _,rfl,hn1,up4,rfl⟩
 ·rintro c st1 ⟨lo,rfl,b1,sg1,hlo,hx⟩;have:lo=a₀.size:=by lia
  subst this;exact⟨rfl,b1,sg1⟩
 ·rintro c st1 ⟨rfl,b1,sg1⟩;dsimp only
  refine xbi (xex (xdh (I:=fun x c st'=>c=(none,())/\B κ a₀ st'/\Segs R (arrOf st') 0 (pendingOf st').toList a₀.size/\(pendingOf st').size+x<=a₀.size)
   (Q:=fun c st'=>c=(none,())/\B κ a₀ st'/\Segs R (arrOf st') 0 (pendingOf st').toList a₀.size/\(pendingOf st').size<=1) ?_ ?_ ⟨rfl,b1,sg1,by have:=sg1.le;simp at this;lia⟩) ?_)
  ·rintro x c st2 x1 x2 ⟨rfl,b2,sg2,hp⟩;refine xbi (xgz ?_);by_cases c1:(pendingOf st2).size<=1
   ·rw[if_pos c1];exact xbk ⟨rfl,b2,sg2,c1⟩
   rw[if_neg c1];refine xbi (w_at O b2 sg2 (xbd _) ?_ fun st3 b3 sg3 p3 _=>xbk ⟨rfl,b3,sg3,by lia⟩);exact zbej (by lia) (by lia)
  ·rintro c st2 ⟨rfl,b2,sg2,hp⟩;exact⟨rfl,b2,sg2,by lia⟩
  ·rintro c st2 ⟨rfl,b2,sg2,hp⟩;refine xbk (h st2 b2 ?_);cases hl:(pendingOf st2).toList with
   | nil=>rw[hl] at sg2;have:0=a₀.size:=sg2;lia
   | cons p r =>
    have:r=[]:=by
     have e2:(pendingOf st2).size=(pendingOf st2).toList.length:=by simp
     rw[e2,hl,xbr] at hp;exact List.length_eq_zero_iff.mp (by lia)
    subst this;rw[hl] at sg2;obtain⟨_,_,g3,g4⟩:=sg2;have g4':0+p.2.1=a₀.size:=g4;rw[g4'] at g3;exact g3
end
end TS
namespace Srt
open PySem PySem.W PyProof.Rows
theorem zlu {α β:Type}(f:α->β):∀{l m':List β},l.Perm m'->∀m:List α,m'=m.map f->∃p:List α,p.Perm m/\l=p.map f:=by
 intro l m' h
 induction h with
 | nil=>exact fun m e=>⟨[],by rw[List.map_eq_nil_iff.mp e.symm],rfl⟩
 | cons x _ ih =>
  intro m e;cases m with
  | nil=>cases e
  | cons y m =>
   rw[xbh] at e;injection e with e1 e2
   obtain⟨p,p1,p2⟩:=ih m e2;exact⟨y::p,p1.cons y,by rw[xbh,← p2,e1]⟩
 | swap x y l =>
  intro m e
  match m,e with
  | a::b::m,e =>
   rw[xbh,xbh] at e;injection e with e1 e2
   injection e2 with e2 e3
   exact⟨b::a::m,.swap _ _ _,by rw[xbh,xbh,e1,e2,e3]⟩
 | trans _ _ ih1 ih2 =>
  intro m e;obtain⟨p,p1,p2⟩:=ih2 m e;obtain⟨q,q1,q2⟩:=ih1 p p2;exact⟨q,q1.trans p1,q2⟩
noncomputable def Coh (r:Nat->Nat) (xs:List Value):Prop:=∀i j,i < xs.length->j < xs.length->xs.getD i Value.none=xs.getD j Value.none->r i=r j
open Classical in
noncomputable def rankV (r:Nat->Nat) (xs:List Value) (x:Keyed):Nat:=if h:∃i,i < xs.length/\xs.getD i Value.none=x.1 then r h.choose else 0
theorem ziy {r:Nat->Nat}{xs:List Value}(coh:Coh r xs){x:Keyed}{i:Nat}(hi:i < xs.length)(e:xs.getD i Value.none=x.1):rankV r xs x=r i:=by
 have h:∃i,i < xs.length/\xs.getD i Value.none=x.1:=⟨i,hi,e⟩
 unfold rankV;rw[dif_pos h];exact coh _ _ h.choose_spec.1 hi (h.choose_spec.2.trans e.symm)
theorem zmj (xs:List Value):(xs.toArray.zip xs.toArray).toList=(List.range xs.length).map fun i=>((xs.getD i Value.none,xs.getD i Value.none):Keyed):=by
 rw[Array.toList_zip];apply xkt
 ·simp
 ·intro i h1 h2;have h3:i < xs.length:=by simpa using h2
  simp[xbt,h3]
section
variable {P:Program}{w:World}{B:Around}{E:Value->Shared->Prop}{st:Shared}
theorem zuo {r:Nat->Nat}{xs:List Value}{κ:SortKind}{sg:Shared}(h2:2<=xs.length)(coh:Coh r xs)
  (cmp:∀i j C,i < xs.length->j < xs.length->C (lt r i j) sg->kas_ask P w B κ xs i j C sg) :
  wpAny (model P w) B ((sortRuns').run (SortSt.mk' κ (xs.toArray.zip xs.toArray) #[] 7 none)) (fun y z=>∃p:Array Nat,(p.Perm (List.toArray (List.range xs.length))/\Up r p xs.length)/\(arrOf y.2).map (·.2)=outOf xs p/\failedOf y.2=none/\z=sg) E sg:=by
 have sz:(xs.toArray.zip xs.toArray).size=xs.length:=by simp
 have O:TS.Orc P w B sg κ (xs.toArray.zip xs.toArray) (rankV r xs):=fun x hx y hy C hC=>by
  rw[zmj] at hx hy;obtain⟨i,hi,rfl⟩:=xdk.mp hx;obtain⟨j,hj,rfl⟩:=xdk.mp hy;rw[xdr] at hi hj;rw[ziy coh hi rfl,ziy coh hj rfl] at hC;exact cmp i j C hi hj hC
 have run:=TS.zbch (E:=E) (Q:=fun _ y=>∃p:Array Nat,(p.Perm (List.toArray (List.range xs.length))/\Up r p xs.length)/\(arrOf y).map (·.2)=outOf xs p/\failedOf y=none) O (st:=SortSt.mk' κ (xs.toArray.zip xs.toArray) #[] 7 none) ⟨.refl _,rfl,rfl⟩ rfl (by rw[sz];exact h2) fun y b up=>by
  obtain⟨l,l1,l2⟩:=zlu (fun i=>((xs.getD i Value.none,xs.getD i Value.none):Keyed)) (xfj.mp b.perm) _ (zmj xs);have ll:l.length=xs.length:=by rw[l1.length_eq,xgo]
  have mem:∀k,(hk:k < l.length)->l[k] < xs.length:=fun k hk=>xdr.mp (l1.mem_iff.mp (xee hk))
  have key:∀k,k < xs.length->TS.kA (rankV r xs) (arrOf y) k=At r l.toArray k:=fun k hk=>by
   have hk':k < l.length:=by lia
   have e:(arrOf y)[k]?=some (xs.getD l[k] Value.none,xs.getD l[k] Value.none):=by
    rw[← xcf,l2,xcb,xbf hk']
    rfl
   rw[TS.zcw e,ziy coh (mem k hk') rfl];unfold At;simp[hk']
  refine⟨l.toArray,⟨?_,fun i j hij hj=>?_⟩,?_,b.failed⟩
  ·exact xfj.mpr (by simpa using l1)
  ·rw[← key i (by lia),← key j hj];exact up i j (xed _) hij (by rw[sz];exact hj)
  ·unfold outOf;apply Array.toList_inj.mp;rw[Array.toList_map,l2,xde]
   rfl
 exact xep run (fun y z hz=>by
  obtain⟨rfl,p,a,b,c⟩:=hz
  exact⟨p,a,b,c,rfl⟩) fun _ _ x=>x
theorem zhv (r:Nat->Nat){d:Addr}{xs:List Value}{k:Nat}{W:Fin->Shared->Prop}(e0:st.heap.get? d=some (seqObj "list" xs.toArray k))(few:xs.length<=sizeLine)(coh:Coh r xs)
  (ask:2<=xs.length->Answers P w B r xs {st with heap:=midHeap st.heap d xs})
  (fin:∀p:Array Nat,p.Perm (List.toArray (List.range xs.length))->Up r p xs.length->W (.done (.ret .none)) {st with heap:=sortedHeap st.heap d xs (outOf xs p)}) :
  wpAny (model P w) B (Builtin.«list.sort» ⟨[.ref d],[]⟩) W E st:=by
 obtain⟨c, ec⟩:∃ c,(st.heap.update d (Obj.mapSeq fun _=>(#[]:Array Value))).get? d=some (seqObj "list" #[] c):=⟨_, get?_update_seq e0 fun _=>#[]⟩
 have em:(midHeap st.heap d xs).get? d=some (seqObj "list" #[] c):=xbj _ (xbj _ ec)
 have szs:xs.toArray.size=xs.length:=xbn;rw[list_sort_plain];refine xba (listItems_at e0 rfl (xba (listUpdate_at e0 rfl (xba (seqEpoch_at ec rfl (xba (wpAny_newTuple (xba (wpAny_newList (xer ?_) (xed _))) (few))))) (by rw[szs];exact few) (xed _))));show wpAny (model P w) B _ W E {st with heap:=midHeap st.heap d xs};dsimp only;by_cases two:xs.toArray.size < 2
 ·rw[if_pos two,if_pos two];rw[szs] at two;have eo:((arrOf (SortSt.mk' general' (xs.toArray.zip xs.toArray) #[] 7 none)).map (·.2))=outOf xs (List.toArray (List.range xs.length)):=zpz two
  refine xba (xbe (by
   rw[StateT.run_pure];refine xba (xbe (xba (seqEpoch_at em rfl (xba (listUpdate_at em rfl ?_ (xed _) ?_)))))
   ·rw[if_neg (by simp)];refine xbe ?_;rw[eo];exact fin _ (.refl _) fun i j hij hj=>xdc (congrArg (At r _) (by lia))
   ·rw[eo];refine xes (xbb (xdc ?_) (few));unfold outOf
    simp))
 ·rw[if_neg two,if_neg two];rw[szs] at two;obtain⟨κ,kd,cmp⟩:=ask (by lia);refine xba (xep (kd (fun κ' z=>κ'=κ/\z={st with heap:=midHeap st.heap d xs}) ⟨rfl,rfl⟩) (fun κ' z hz=>?_) fun _ _ x=>x.elim);obtain⟨rfl,rfl⟩:=hz;have run:=zuo (E:=E) (r:=r) (xs:=xs) (κ:=κ') (sg:={st with heap:=midHeap st.heap d xs}) (by lia) coh cmp;refine xba (xep run (fun yy z hz=>?_) fun _ _ x=>x);obtain⟨⟨⟩,y⟩:=yy;obtain⟨p,hp,ho,hf,rfl⟩:=hz;dsimp only at ho hf ⊢;refine xba (seqEpoch_at em rfl (xba (listUpdate_at em rfl ?_ (xed _) ?_)))
  ·rw[hf,if_neg (by simp),ho];exact xbe (fin p hp.1 hp.2)
  ·rw[ho];refine xes (xbb (xdc ?_) (few));unfold outOf;rw[xbn,xbc,xbv,hp.1.size_eq];simp
theorem zis (r:Nat->Nat){d:Addr}{xs:List Value}{W:Value->Shared->Prop}(isl:st.heap.IsList d xs.toArray)(few:xs.length<=sizeLine)(coh:Coh r xs)
  (ask:2<=xs.length->∀g:Heap,(∀b ob,st.heap.get? b=some ob->g.get? b=some ob)->Answers P w B.in1.in1 r xs {st with heap:=g})
  (fin:∀p:Array Nat,p.Perm (List.toArray (List.range xs.length))->Up r p xs.length->W (.ref (st.heap.objs.size+1)) {st with heap:=sortedAll st.heap xs (outOf xs p)}) :
  wpAny (model P w) B (call (.builtin "sorted") [.ref d]) W E st:=by
 let g0:Heap:=(st.heap.push (seqObj "list" #[] 0)).update st.heap.objs.size (Obj.mapSeq (·++xs.toArray))
 have sz:g0.objs.size=st.heap.objs.size+1:=(Heap.size_update ..).trans (size_push' _ _);have new:(g0.push (seqObj "list" xs.toArray 0)).get? (st.heap.objs.size + 1)=some (seqObj "list" xs.toArray 0):=by
  have z:=xbz g0 (o:=seqObj "list" xs.toArray 0) rfl
  rw[sz] at z;exact z
 have old:∀ b ob, st.heap.get? b=some ob->(g0.push (seqObj "list" xs.toArray 0)).get? b=some ob:=fun b ob e=>by
  have lt:=xbs e;exact xbj _ ((Heap.get?_update_ne _ _ _ _ (xcl lt)).trans (xbj _ e))
 have ar:argsOk "sorted" ⟨[.ref d],[]⟩:=args_sorted1 _
 refine Calls.call_function_entry kind_sorted plain_sorted entry_sorted ar ?_;unfold Builtin.«sorted»;refine xba (m:=checkCount "sorted" 1 1 _) (xbe (xba (collect_list isl (xba (wpAny_newList ?_ (few))) (few))))
 show wpAny _ _ _ _ _ { st with heap:=g0.push (seqObj "list" xs.toArray 0) }
 have esz:(Value.ref g0.objs.size)=Value.ref (st.heap.objs.size+1):=by rw[sz]
 rw[show((st.heap.push (seqObj "list" #[] 0)).update st.heap.objs.size (Obj.mapSeq (·++xs.toArray))).objs.size=st.heap.objs.size + 1 from sz]
 refine xba (xer (xeq slot_list_sort ⟨_, new, rfl⟩ entry_list_sort (zhv r (st:={ st with heap:=g0.push (seqObj "list" xs.toArray 0) }) new few coh (fun two=>?_) fun p p1 p2=>⟨_, rfl, xbe ⟨_, rfl, fin p p1 p2⟩⟩) (args_list_sort _)))
 exact ask two _ fun b ob e=>zgi (xcl (xjc (xbs e))) (old b ob e)
theorem zlp {T:String}{a d:Addr}{n:Nat}{It:Nat->Value->Prop}{OK:Heap->Prop}(S:KdlSrc P w T a d n It OK)(hh:B.handled=none)(ok:OK st.heap)(few:n<=sizeLine){W:Value->Shared->Prop}
  (ask:∀xs:List Value,xs.length=n->(∀(j:Nat) (v:Value),xs[j]?=some v->It j v)->∃r:Nat->Nat,Coh r xs/\(2<=n->∀(g:Heap) (tk:Nat),(∀b ob,st.heap.get? b=some ob->g.get? b=some ob)->Answers P w B.in1.in1 r xs {st with heap:=g,toks:=tk}) /\
   ∀(p:Array Nat) (q:Addr) (g:Heap) (tk c:Nat), p.Perm (List.toArray (List.range xs.length))->Up r p xs.length->(∀ b ob, st.heap.get? b=some ob->g.get? b=some ob)->(∀ b ob, st.heap.get? b=some ob->b≠q)->g.get? q=some (seqObj "list" (outOf xs p) c)->W (.ref q) { st with heap:=g, toks:=tk }) :
  wpAny (model P w) B (call (.builtin "sorted") [.ref a]) W E st:=by
 have ar:argsOk "sorted" ⟨[.ref a],[]⟩:=args_sorted1 _
 refine Calls.call_function_entry kind_sorted plain_sorted entry_sorted ar ?_;unfold Builtin.«sorted»;refine xba (m:=checkCount "sorted" 1 1 _) (xbe (xba (kdu_collect (A:=B.in1) S hh ok (few) fun g tk acc keep items=>?_)))
 have len:acc.toList.length=n:=by rw[xbv];exact items.1
 obtain⟨r,coh,an,fin⟩:=ask acc.toList len (fun j v e=>items.2 j v (by rw[← xcf];exact e));refine xba (wpAny_newList ?_ (by rw[len];exact few));have new:(g.push (seqObj "list" acc.toList.toArray 0)).get? g.objs.size=some (seqObj "list" acc.toList.toArray 0):=xbz g rfl
 have old:∀ b ob, st.heap.get? b=some ob->(g.push (seqObj "list" acc.toList.toArray 0)).get? b=some ob:=fun b ob e=>xbj _ (keep b ob e)
 have lt:∀b ob,st.heap.get? b=some ob->b≠g.objs.size:=fun b ob e=>xcl (xbs (keep b ob e))
 show wpAny _ _ _ _ _ { st with heap:=g.push (seqObj "list" acc.toList.toArray 0), toks:=tk }
 refine xba (xer (xeq slot_list_sort ⟨_, new, rfl⟩ entry_list_sort (zhv r (st:={ st with heap:=g.push (seqObj "list" acc.toList.toArray 0), toks:=tk }) new (by rw[len]; exact few) coh (fun two=>?_) fun p p1 p2=>⟨_, rfl, xbe ⟨_, rfl, ?_⟩⟩) (args_list_sort _)))
 ·exact an (by lia) _ tk fun b ob e=>zgi (lt b ob e) (old b ob e)
 ·obtain⟨c,ec⟩:=sortedHeap_at (n:=0) (vs:=acc.toList) (out:=outOf acc.toList p) new;refine fin p g.objs.size _ tk c p1 p2 (fun b ob e=>?_) ?_ ec
  ·rw[sortedHeap_old (lt b ob e) (xbs (old b ob e))];exact old b ob e
  ·exact lt
end
end Srt
namespace L2
open PySem PySem.Spec PyProof.Rows PySem.W
theorem small10000 {n:Nat}(h:n<=1000000):n<=sizeLine:=xbb h (by rw[xib];lia)
theorem zgl:∀{us:List Value} {a b:List Int},IntsAre us a->IntsAre us b->a=b
 | _,_,_,.nil,.nil=>rfl
 | _,_,_,.cons x t r,.cons _ _ r'=>by rw[zgl r r']
theorem zov {g:Heap}{ps:List (Addr×List Int)}(tup:TupsG g ps):Srt.Coh (Srt.rank (ps.map (·.2))) (ps.map fun p=>Value.ref p.1):=fun i j hi hj e=>by
 rw[xbc] at hi hj;have ei:ps[i]?=some ps[i]:=xbf hi;have ej:ps[j]?=some ps[j]:=xbf hj;rw[zg (fun p:Addr×List Int=>Value.ref p.1) _ ei,zg (fun p:Addr×List Int=>Value.ref p.1) _ ej] at e;injection e with e
 obtain⟨us,o,n,a1,a2,a3,a4⟩:=tup _ (xee hi);obtain⟨us2,o2,n2,b1,b2,b3,b4⟩:=tup _ (xee hj);rw[e,b2] at a2;injection a2 with a2
 subst a2;rw[b4] at a4;injection a4 with a4 _
 have a5:us2=us:=by simpa using a4
 subst a5;have d:=zgl a1 b1;unfold Srt.rank;rw[zg (fun p:Addr×List Int=>p.2) _ ei,zg (fun p:Addr×List Int=>p.2) _ ej,d]
noncomputable def rSortedAL (K:Fg):List V->Hp->VK->Prop:=fun xs H Q=>∃(l:Addr) (ps:List (Addr×List Int)),xs=[.ref l]/\SqL K H l (ps.map fun p=>V.ref p.1)/\ps.length<=1000000/\TupsAt K H ps /\
 ∀(q:Addr) (qs:List (Addr×List Int)),H q=none->qs.Perm ps->(qs.map (·.2)).Pairwise (fun a b=>HT.lexLt b a=false)->Q (.ref q) (upd H q (.lst (qs.map fun p=>V.ref p.1)))
noncomputable def rSortedDAL:List V->Hp->VK->Prop:=fun xs H Q=>∃(a:Addr) (kvs:List (List Key×V)) (ks:List (List Int)),xs=[.ref a]/\Rd H a (.dT kvs)/\kvs.map (·.1)=ks.map (fun ns=>ns.map Sum.inl)/\ks.length<=1000000 /\
 ∀(q:Addr) (qs:List (Addr×List Int)),H q=none->(qs.map (·.2)).Perm ks->(qs.map (·.2)).Pairwise (fun x y=>HT.lexLt y x=false)->(∀p∈qs,H p.1=some (.tup (p.2.map V.int)))->Q (.ref q) (upd H q (.lst (qs.map fun p=>V.ref p.1)))
section
variable {X:Cx}
theorem zii (hu:X.A.units + 64 < cLine):CallR X (.builtin "sorted") (rSortedAL X.K):=by
 intro aU s σ H xs us Q I r h;obtain⟨l,ps,rfl,hl,h64,ht,q⟩:=h;obtain⟨u,rfl,ru⟩:=vals1 r;cases ru;obtain⟨its,rv,pl,hz⟩:=I.list hl;have eits:its=ps.map fun p=>Value.ref p.1:=by
  have e:(ps.map fun p=>V.ref p.1)=(ps.map (·.1)).map V.ref:=by rw[xde];rfl
  rw[e] at rv;rw[zjz rv,xde]
  rfl
 subst eits;have tup:∀g:Heap,(∀b o,s.heap.get? b=some o->g.get? b=some o)->TupsG g ps:=fun g keep p hp=>by
  obtain⟨us,rv',⟨o,b2,b3,n,b4⟩,_⟩:=I.tuple (ht p hp);exact⟨us,o,n,zeb rv',keep _ _ b2,b3,b4⟩
 refine Srt.zis (Srt.rank (ps.map (·.2))) pl.isList (by rw[xbc];exact small10000 h64) (zov (tup s.heap fun _ _ z=>z)) (fun h2 g keep=>ztc (by show X.A.units+1+1 < cLine;lia) (by rw[xbc] at h2;exact h2) (tup g keep)) (fun p p1 p2=>?_);rw[xbc] at p1 p2;obtain⟨qs,q1,q2,q3⟩:=zng p1 p2;obtain⟨e,he⟩:=sortedAll_at s.heap (ps.map fun p=>Value.ref p.1) (Srt.outOf (ps.map fun p=>Value.ref p.1) p);rw[q3] at he ⊢;refine⟨.ref (s.heap.objs.size+1),_,I.laid (a:=s.heap.objs.size+1) (o:=.lst (qs.map fun p=>V.ref p.1)) (t':=s.toks) (fun _ _ z=>sortedAll_old z) (xld _) ⟨?_,_,e,zfe qs,he⟩,rfl,q _ _ (I.hok.fresh (xld _)) q1 q2⟩;rw[xbc,q1.length_eq];exact small10000 (by lia)
theorem zho (hc:X.calm=true)(hu:X.A.units + 64 < cLine):CallR X (.builtin "sorted") rSortedDAL:=by
 intro aU s σ H xs us Q I r h;obtain⟨a,kvs,ks,rfl,hd,ek,few,q⟩:=h;obtain⟨u,rfl,ru⟩:=vals1 r;cases ru;obtain⟨z,ns,ys,rel,ob,es,ep,e1,e2,e3,e4,e5⟩:=(show ObjOk X.prog X.w H s.heap a (.dT kvs) from hd.ok I.hok)
 obtain⟨ps,a1,a2,a3⟩:=zih (P:=X.prog) (w:=X.w) rel ek;have hpl:ps.length=ks.length:=by rw[← a1,xbc]
 have hes:es.toList.map (·.key)=ps.map fun p=>Value.ref p.1:=by rw[e4,xde];exact a3
 have hsz:es.size=ps.length:=by
  have:=congrArg List.length hes;rw[xbc,xbc,xbv] at this;exact this
 have tup:∀g:Heap,(∀b o,s.heap.get? b=some o->g.get? b=some o)->TupsG g ps:=fun g keep p hp=>by
  obtain⟨us,rv,⟨o,b2,b3,n,b4⟩,_⟩:=I.tuple (SqT.of (a2 p hp));exact⟨us,o,n,zeb rv,keep _ _ b2,b3,b4⟩
 refine Srt.zlp (Dct.zsf ns es ep) (I.ok.hd hc) ⟨ob,e1,e2,e3⟩ (small10000 (by lia)) fun vs hl hv=>?_
 have evs:vs=ps.map fun p=>Value.ref p.1:=by
  rw[← hes];apply xjb;intro i;by_cases hi:i < es.size
  ·have h1:vs[i]?=some vs[i]:=xbf (by lia);obtain⟨en,h2,h3⟩:=hv i _ h1;rw[h1,h3,xcb,xcf,h2]
   rfl
  ·rw[xfp (by lia),xfp (by rw[xbc,xbv];lia)]
 subst evs;refine⟨Srt.rank (ps.map (·.2)),zov (tup s.heap fun _ _ z=>z),fun h2 g tk keep=>ztc (by show X.A.units+1+1 < cLine;lia) (by lia) (tup g keep),fun p t g tk c p1 p2 keep ne eg=>?_⟩;rw[xbc] at p1 p2;obtain⟨qs,q1,q2,q3⟩:=zng p1 p2;rw[q3] at eg;refine⟨.ref t,_,I.laidN (o:=.lst (qs.map fun p=>V.ref p.1)) keep ne ⟨?_,_,c,zfe qs,eg⟩,rfl,q t qs (I.away ne) ((q1.map _).trans (by rw[a1])) q2 fun p hp=>a2 p (q1.mem_iff.mp hp)⟩;rw[xbc,q1.length_eq];exact small10000 (by lia)
end
end L2
namespace L2
open PySem PySem.Spec PyProof.Rows
theorem zfp {κ β:Type}[DecidableEq κ]{k:κ}:∀{xs:List (κ×β)} {j:Nat} {p:β},(xs.map (·.1)).Nodup->xs[j]?=some (k,p)->xs.eraseIdx j=xs.filter fun x=>decide (x.1≠k)
 | [],_,_,_,e=>by simp at e
 | x::r,0,p,nd,e=>by
  simp at e;subst e;rw[xbh,xfh] at nd;rw[List.eraseIdx_cons_zero,xco (by simp)]
  symm
  rw[xie];intro y hy;refine xcm fun z=>nd.1 ?_
  rw[← z];exact xdk.mpr ⟨y,hy,rfl⟩
 | x::r,j+1,p,nd,e=>by
  rw[xbh,xfh] at nd;have e':r[j]?=some (k,p):=by simpa using e
  have hx:x.1≠k:=fun z=>nd.1 (by rw[z];exact xdk.mpr ⟨_,xby e',rfl⟩)
  rw[xix,xcp (by simpa using hx),zfp nd.2 e']
theorem zkt {α β:Type}(f:α->β):∀(l:List α) (j:Nat),(l.map f).eraseIdx j=(l.eraseIdx j).map f
 | [],_=>rfl
 | _::_,0=>rfl
 | x::l,j+1=>by rw[xbh,xix,xix,xbh,zkt f l j]
section
variable {prog:Program}{w:World}{κ:Type}[DecidableEq κ]{knd:HeapKind prog w κ}{A:Around}{E:Value->Shared->Prop}{s:Shared}{d a:Addr}{k:κ}{xs:List (κ×Addr×Value)}{p:Addr×Value}
theorem zpu {W:Option DictEntry->Shared->Prop}(hu:knd.room A)(hkey:knd.is s.heap k a)(hm:s.heap.DictOfH knd d xs)(hp:atKey xs k=some p)(hsz:xs.length<=sizeLine)
  (fin:∀e h',e.val=p.2->h'.DictOfH knd d (xs.filter fun x=>decide (x.1≠k))->Heap.SameBut d s.heap h'->W (some e) {s with heap:=h',toks:=s.toks+knd.draws k}) :
  wpAny (model prog w) A (Builtin.Dict.takeOut d (.ref a)) W E s:=by
 obtain⟨o,es,ep,ho,hc,hd,he,his,hn⟩:=hm;unfold Builtin.Dict.takeOut;refine xer ?_;refine xba (knd.pyHash hu hkey ?_);refine xba (wpAny_dictFind_heap (s:={s with toks:=s.toks+knd.draws k}) hu hkey ho hd he his hn (fun z=>?_) fun j q hj=>?_)
 ·rw[atKey_none_of_get z] at hp;cases hp
 ·have hq:q=p:=by
   have z:=atKey_of_get hn hj;rw[hp] at z;exact(xcd z).symm
  subst hq;refine xba (xhm (s:={s with toks:=s.toks+knd.draws k}) ho hd ?_);rw[entry_at he j,hj];have big:es.size<=sizeLine:=by have:=size_of_entries he;lia
  refine xba (wpAny_updateDictKeys (hz:=big) (s:={s with toks:=s.toks+knd.draws k}) ho hd (xbe (fin _ _ rfl ⟨_,_,ep+1,xjo _ ho (Obj.isFreed_of_dict (Obj.data_mapDictKeys hd _)),hc.mapDictKeys _,Obj.data_mapDictKeys hd _,?_,fun x hx=>?_,?_⟩ (xid ..))))
  ·rw[← zfp hn hj];obtain⟨l⟩:=es;have he':l=xs.map (entryOfKey knd):=he;subst he';simp[zkt]
  ·exact knd.keeps (his x (xfg.mp hx).1) ho hd (xid ..)
  ·exact List.Sublist.nodup (List.Sublist.map (fun x:κ×Addr×Value=>x.1) List.filter_sublist) hn
theorem znd {W:Value->Shared->Prop}(hu:knd.room A.in1)(hkey:knd.is s.heap k a)(hm:s.heap.DictOfH knd d xs)(hp:atKey xs k=some p)(hsz:xs.length<=sizeLine)
  (fin:∀h',h'.DictOfH knd d (xs.filter fun x=>decide (x.1≠k))->Heap.SameBut d s.heap h'->W p.2 {s with heap:=h',toks:=s.toks+knd.draws k}) :
  wpAny (model prog w) A (call (.builtin "dict.pop") [.ref d, .ref a]) W E s:=by
 have M:MeetsIn prog w (Builtin.«dict.pop» ⟨[.ref d,.ref a],[]⟩) (fun B R g=>B=A/\g=s/\∀h',h'.DictOfH knd d (xs.filter fun x=>decide (x.1≠k))->Heap.SameBut d s.heap h'->R (.ok (.ret p.2)) {s with heap:=h',toks:=s.toks+knd.draws k}) :=
  .of_wp fun B R g hq0=>by
   obtain⟨hB,hg,q⟩:=hq0;subst hB hg;unfold Builtin.«dict.pop» Builtin.Dict.keyAndDefault;refine xba (xba (wpAny_notOrdered_dict hm.typeIs (xbe ?_)));obtain⟨o,es,ep,ho,hc,hd,he,his,hn⟩:=id hm;have ne:es.isEmpty=false:=by
    have:=size_of_entries he;cases xs with
    | nil=>cases hp
    | cons x r =>
     rw[xbr] at this;rw[Array.isEmpty_eq_false_iff];intro z;rw[z] at this;simp at this
   simp only[keyPart,Option.isSome_none,xck,xdo];refine xba (xhm ho hd (xba (xbe ?_)));rw[ne];simp only[xck,xdo];refine xba (zpu hu hkey hm hp hsz fun e h' hv dd hs=>?_);simp only[Option.isNone_some,xck,xdo];exact xba (wpAny_letGo (xbe ⟨e.val,rfl,by rw[hv];exact q h' dd hs⟩))
 exact call_meetsIn xjr hm.typeIs F.entry_dict_pop (F.args_dict_pop_2 _ _) M ⟨rfl,rfl,fin⟩
end
theorem KT.drop {H:Hp}{kvs:List (List Key×V)}{xs:List (List Key×Addr×Value)}(r:KT H kvs xs)(k:List Key):KT H (dropK kvs k) (xs.filter fun x=>decide (x.1≠k)):=by
 unfold dropK
 induction r with
 | nil=>exact .nil
 | @cons p q ps qs h t ih =>
  by_cases e:p.1=k
  ·rw[xco (by simp[e]),xco (by simp[← h.1,e])];exact ih
  ·rw[xcp (by simp[e]),xcp (by simp[← h.1,e])];exact .cons h ih
section
variable {X:Cx}{aU:List (Addr×Obj)}{σ:St}{H:Hp}{s:Shared}{a b:Addr}{kvs:List (List Key×V)}{k:List Key}
theorem zbft {v:V}{Q:Value->Shared->Prop}{E:Value->Shared->Prop}(hu:X.A.units+1 < cLine)(I:Inv X aU σ H s)(e:H a=some (.dT kvs))(eb:H b=some (.tup (k.map kV)))(l:valV kvs k=some v)
  (h:∀ w' s', Inv X aU σ (upd H a (.dT (dropK kvs k))) s'->RelV v w'->Q w' s'):wpAny (model X.prog X.w) X.A (call (.builtin "dict.pop") [.ref a, .ref b]) Q E s:=by
 obtain⟨z,hd,xs,rel,dd⟩:=zbht I.hok e;obtain⟨w',hw,rw'⟩:=RelO.some_of (v:=v) (o:=(atKey xs k).map (·.2)) (by rw[← l];exact rel.val k);cases hp:atKey xs k with
 | none=>rw[hp] at hw;cases hw
 | some p =>
  rw[hp] at hw;have hw':p.2=w':=xcd hw;subst hw';refine znd (xhf hu) (zjk I.hok eb) dd hp (by rw[← xey rel];exact z) fun h' dd' hs=>h _ _ ?_ rw'
  obtain⟨q,es,ep,hq,h2,h3,h4,_,h5⟩:=dd';refine zig I (by rw[e];exact True.intro) hs ⟨q,hq⟩ ⟨xbb (xdw _ _) z,hd,_,(rel.drop k).keeps fun c ys ec=>?_,q,es,ep,hq,h2,h3,h4,h5⟩;rw[zn (zbhm ec e (fun z=>nomatch z))];exact ec
end
noncomputable def tDPopT (td ty:TE):TE:=fun σ H Q=>td σ H fun x H1=>∃a,x=.ref a/\IsD H1 a/\ty σ H1 fun y H2=>∃kvs k v b,H2 a=some (.dT kvs)/\y=.ref b/\H2 b=some (.tup (k.map kV))/\valV kvs k=some v/\Q v (upd H2 a (.dT (dropK kvs k)))
section
variable {X:Cx}{o e:Expr}{apos cpos:Pos}{td ty:TE}
theorem zub (hu:X.A.units + 1 < cLine)(ho:PE X o td)(he:PE X e ty)(m:M1 X o "pop" apos e cpos):PE X (.Call (.Attribute o "pop" apos) [e] [] cpos) (tDPopT td ty):=by
 intro aU s σ H Q I h;refine xks m.base m.few m.line xiu xjr F.type_dict_pop (thn (ho aU s σ H _ I h) fun u s1 hq0=>?_);obtain⟨x,H1,I1,rx,a,ex,d,q1⟩:=hq0;subst ex;obtain rfl:u=Value.ref a:=rx;obtain⟨t1,t2,_⟩:=zzo I1 d;refine⟨t1,t2,?_⟩;rw[m.trees];refine xhg rfl (xht (xha (thn (he aU s1 σ H1 _ I1 q1) fun iv s2 ⟨y,H2,I2,ry,kvs,k,v,b,ea,ey,eb,l,q2⟩=>xiz ?_)));subst ey;cases(show iv=Value.ref b from ry);exact zbft hu I2 ea eb l fun w' s3 I3 rw'=>⟨v,_,I3,rw',q2⟩
end
noncomputable def rCatA (K:Fg):R2:=fun x y H Q=>∃a b xs ys,x=.ref a/\y=.ref b/\SqT K H a xs/\SqT K H b ys/\xs.length+ys.length<=sizeLine /\
 (xs=[]->Q (.ref b) H)/\(xs≠[]->ys=[]->Q (.ref a) H)/\(xs≠[]->ys≠[]->∀p,H p=none->Q (.ref p) (upd H p (.tup (xs++ys))))
section
variable {X:Cx}
theorem zyt:OpR X (binaryOp .Add) (rCatA X.K):=by
 intro aU s σ H x y v u Q I rx ry h;obtain⟨a,b,xs,ys,rfl,rfl,ha,hb,hz,q0,q1,q2⟩:=h;by_cases hx:xs=[]
 ·cases rx;cases ry;obtain⟨its,r1,p1,_⟩:=I.tuple ha;obtain⟨its2,r2,p2,_⟩:=I.tuple hb;obtain⟨⟨cls,dd,data,sl⟩,ho,hc,n,hd⟩:=id p1;obtain⟨⟨cls2,dd2,data2,sl2⟩,ho2,hc2,n2,hd2⟩:=id p2;simp only at hc hd hc2 hd2;subst hc hd hc2 hd2;have e:its=[]:=r1.nil_iff.mpr hx;exact concat_meets ⟨_,ho,rfl⟩ ⟨_,ho2,rfl⟩ noFill_tuple_add seq_tuple_add xjg xit (xij _ _)
   (tuple_addW0 a b its.toArray its2.toArray n n2 dd dd2 sl sl2 (by simp[e])) ⟨ho,ho2,⟨.ref b,H,I,rfl,q0 hx⟩⟩
 ·exact zys aU s σ H _ _ v u Q I rx ry ⟨a,b,xs,ys,rfl,rfl,ha,hb,hx,hz,fun z=>q1 hx z,fun z=>q2 hx z⟩
end
section
variable {prog:Program}{w:World}{A:Around}{E:Value->Shared->Prop}{s:Shared}
theorem zrv {t sl:Addr}{its:Array Value}{vl vu:Value}{lo hi:Option Int}{W:Value->Shared->Prop}(ht:IsTup s.heap t its)(hs:s.heap.IsSliceOf sl vl vu .none)(pl:IsPart vl lo)(pu:IsPart vu hi)
  (h0:HT.sIx its.size 0 lo=0)(h1:HT.sIx its.size its.size hi=its.size)(fin:W (.ref t) s):wpAny (model prog w) A (getItem (.ref t) (.ref sl)) W E s:=by
 obtain⟨os,hos,hcs,hds⟩:=id hs;unfold getItem
 try with_reducible refine xer ?_
 first | refine xba (xbe ?_) | skip
 refine xba (xkq ht.typeIs (by decide) ?_);refine xba (wpAny_callSpecial?_slot (name:=Str.ofString "__getitem__") ht.typeIs xir (xeq xir ht.typeIs entry_tuple_getitem ?_ (args_tuple_getitem _ _)))
 show wpAny _ _ (Builtin.Tuple.tupleItemsOf (.ref t) >>= _) _ _ s;refine xba (tupleItemsOf_ ht ?_);have hTs:s.TypeIs (.ref sl) "slice":=⟨os, hos, hcs⟩
 refine xba (wpAny_typeOf hTs ?_);rw[if_pos (by decide)];refine xba (HT.zcz hs pl pu ?_);have yes:(((HT.sIx its.size 0 lo:Nat):Int)==0&&(1:Int)==1&&(HT.sIx its.size its.size hi - HT.sIx its.size 0 lo)==its.size)=true:=by
  rw[h0,h1];simp
 show wpAny _ _ (if(((HT.sIx its.size 0 lo:Nat):Int)==0&&(1:Int)==1&&(HT.sIx its.size its.size hi - HT.sIx its.size 0 lo)==its.size)=true then _ else _) _ _ s;rw[if_pos yes];refine xba (?_:wpAny _ _ (Builtin.Tuple.tupleIsExact (.ref t)) _ _ s);unfold Builtin.Tuple.tupleIsExact;refine xba (wpAny_typeOf ht.typeIs (xbe ?_));rw[if_pos (by decide)];exact xba (xgq (xbe ⟨_,rfl,xbe fin⟩))
end
noncomputable def rSlA (K:Fg):V->Option Int->Option Int->Hp->VK->Prop:=fun x lo hi H Q=>∃a xs,x=.ref a/\SqT K H a xs/\(cutV xs lo hi=xs->Q (.ref a) H)/\∀p,H p=none->Q (.ref p) (upd H p (.tup (cutV xs lo hi)))
theorem zxl {X:Cx}:SlR X (rSlA X.K):=by
 intro aU s σ H x v vl vu lo hi sl Q I rx hs pl pu h;obtain⟨a,xs,rfl,hx,q1,q2⟩:=h;by_cases hw:HT.sIx xs.length 0 lo=0/\HT.sIx xs.length xs.length hi=xs.length
 ·cases rx;obtain⟨its,r,ht,hz⟩:=I.tuple hx;have hlen:its.toArray.size=xs.length:=by rw[xbn];exact r.length.symm
  refine⟨"tuple", _, xir.lookup, ht.typeIs, ?_⟩
  refine zrv ht hs pl pu (by rw[hlen];exact hw.1) (by rw[hlen];exact hw.2) ⟨.ref a,H,I,rfl,q1 ?_⟩;unfold cutV;rw[hw.1,hw.2];simp
 ·exact zbcn aU s σ H _ v vl vu lo hi sl Q I rx hs pl pu ⟨a,xs,rfl,hx,hw,q2⟩
theorem zge (ns:List Int):∀k,k<=ns.length->preSum (fun i=>ns.getD i 0) k=(ns.take k).sum
 | 0,_=>rfl
 | k+1,h=>by
  show preSum (fun i=>ns.getD i 0) k+ns.getD k 0=_;rw[zge ns k (by lia),xgs (by lia),xel,xbt,xbf (by lia)];simp
theorem zid:∀{ns:List Int} {us:List Value} {i:Nat} {v:Value},Vals (ns.map V.int) us->us[i]?=some v->∃t,v=.int (ns.getD i 0) t
 | [],_,_,_,.nil,e=>by simp at e
 | n::ns,_,0,_,.cons r _,e=>by
  simp at e;subst e
  obtain⟨t,rfl⟩:=r;exact⟨t,rfl⟩
 | n::ns,_,i+1,v,.cons _ t,e=>by
  have:=zid (i:=i) t (by simpa using e)
  simpa using this
noncomputable def rSum (K:Fg):List V->Hp->VK->Prop:=fun xs H Q=>∃(a:Addr) (ns:List Int),xs=[.ref a]/\(SqL K H a (ns.map V.int)\/SqT K H a (ns.map V.int))/\Q (.int ns.sum) H
theorem zlb {X:Cx}(hc:X.calm=true):CallR X (.builtin "sum") (rSum X.K):=by
 intro aU s σ H xs us Q I r h;obtain⟨a,ns,rfl,hs,q⟩:=h;obtain⟨u,rfl,ru⟩:=vals1 r;cases ru;have key:∀{its:List Value} (h':Heap) (tk:Nat) (t':Tok) (nn:Nat),nn=ns.length->(∀b o,b≠s.heap.objs.size->s.heap.get? b=some o->h'.get? b=some o) ->
   EP X aU σ Q (.int (preSum (fun i=>ns.getD i 0) nn) t') {s with heap:=h',toks:=tk}:=fun h' tk t' nn hn hk=>by
  subst hn;rw[zge ns _ (xbd _),xcn];exact⟨.int ns.sum,H,I.kept (t':=tk) fun b o e=>hk b o (xcl (xbs e)) e,⟨_,rfl⟩,q⟩
 refine call_sum_walkG ?_;rcases hs with hs | hs
 ·obtain⟨its,rv,pl,hz⟩:=I.list hs;have hlt:a < s.heap.objs.size:=by obtain⟨o,n,e,_⟩:=pl;exact xbs e
  have hl:=rv.length;rw[xbc] at hl;refine xjf pl.isList ?_;refine⟨s.heap.objs.size,_,[s.heap.objs.size],_,_,_,fun i=>ns.getD i 0,rfl,Walks.list (A:=X.A.in1) (I.ok.hd hc) _ a (xcl hlt) its.toArray,⟨⟨_,xbz _ rfl,rfl,rfl⟩,pl.isList.push _⟩,?_,fun i v e=>zid rv (by simpa using e),fun h' tk t' hk=>?_⟩
  ·intro b hb;show b < (s.heap.push _).objs.size;rw[show ∀o:Obj,(s.heap.push o).objs.size=s.heap.objs.size+1 from fun o=>by simp[Heap.push]];rcases xcc.mp hb with rfl | hb
   ·exact xjk _
   ·rcases xcc.mp hb with rfl | hb
    ·exact xjc hlt
    ·cases hb
  ·exact key (its:=its) h' tk t' _ (by simp[hl]) fun b o hb e=>hk b o (by simpa using hb) (xbj _ e)
 ·obtain⟨its,rv,pl,hz⟩:=I.tuple hs;have hlt:a < s.heap.objs.size:=pl.lt;have hl:=rv.length;rw[xbc] at hl;have pt:s.heap.IsTuple a its.toArray:=pl;refine xkk pt ?_;refine⟨s.heap.objs.size,_,[s.heap.objs.size],_,_,_,fun i=>ns.getD i 0,rfl,Walks.tuple (A:=X.A.in1) (I.ok.hd hc) _ a (xcl hlt) its.toArray,⟨⟨_,xbz _ rfl,rfl,rfl⟩,pt.push _⟩,?_,fun i v e=>zid rv (by simpa using e),fun h' tk t' hk=>?_⟩
  ·intro b hb;show b < (s.heap.push _).objs.size;rw[show ∀o:Obj,(s.heap.push o).objs.size=s.heap.objs.size+1 from fun o=>by simp[Heap.push]];rcases xcc.mp hb with rfl | hb
   ·exact xjk _
   ·rcases xcc.mp hb with rfl | hb
    ·exact xjc hlt
    ·cases hb
  ·exact key (its:=its) h' tk t' _ (by simp[hl]) fun b o hb e=>hk b o (by simpa using hb) (xbj _ e)
section
variable {X:Cx}{aU:List (Addr×Obj)}{σ:St}{H:Hp}{s:Shared}{h':Heap}
end
section
variable {X:Cx}
end
noncomputable def bestI (gt:Bool) (n:Int) (ns:List Int):Int:=ns.foldl (fun i j=>if(if gt then decide (j > i) else decide (j < i))=true then j else i) n
section
variable {X:Cx}
theorem zpk {aU:List (Addr×Obj)}{σ:St}{H:Hp}{s:Shared}{E:Value->Shared->Prop}{a:Addr}{ns:List Int}{R:Value->Shared->Prop}(hc:X.calm=true)(I:Inv X aU σ H s)(hs:SqL X.K H a (ns.map V.int)\/SqT X.K H a (ns.map V.int))
  (h:∀I' fp wr P St s2,Walks X.prog X.w X.A.in1 I' fp wr ns.length P St->St 0 s2.heap->(∀b∈fp,b < s2.heap.objs.size)->(∀i v,P i v->∃t,v=.int (ns.getD i 0) t) ->
   (∀h' tk,(∀b o,b∉wr->s2.heap.get? b=some o->h'.get? b=some o)->Inv X aU σ H {s2 with heap:=h',toks:=tk})->R (.ref I') s2) :
  wpAny (model X.prog X.w) X.A.in1 (pyIter (.ref a)) R E s:=by
 have key:∀(o:Obj) (h':Heap) (tk:Nat),(∀b u,b∉[s.heap.objs.size]->(s.heap.push o).get? b=some u->h'.get? b=some u)->Inv X aU σ H {s with heap:=h',toks:=tk}:=fun o h' tk hk =>
  I.kept (t':=tk) fun b u e=>hk b u (by simp;exact xcl (xbs e)) (xbj _ e)
 have low:∀(o:Obj),a < s.heap.objs.size->∀b∈[s.heap.objs.size,a],b < (s.heap.push o).objs.size:=fun o hlt b hb=>by
  rw[Heap.size_push];have hb':b=s.heap.objs.size\/b=a:=by simpa using hb
  rcases hb' with z | z
  ·rw[z];exact xjk _
  ·rw[z];exact xjc hlt
 rcases hs with hs | hs
 ·obtain⟨its,rv,pl,hz⟩:=I.list hs;have hlt:a < s.heap.objs.size:=by obtain⟨o,n,e,_⟩:=pl;exact xbs e
  have hl:=rv.length;rw[xbc] at hl;have W:=Walks.list (prog:=X.prog) (w:=X.w) (A:=X.A.in1) (I.ok.hd hc) s.heap.objs.size a (xcl hlt) its.toArray;rw[show its.toArray.size=ns.length from by rw[xbn];exact hl.symm] at W;exact xjf pl.isList (h _ _ _ _ _ { s with heap:=s.heap.push { cls:=.type "list_iterator", data:=.fields #[.ref a, .int 0 0] } } W ⟨⟨_, xbz _ rfl, rfl, rfl⟩, pl.isList.push _⟩ (low _ hlt) (fun i v e=>zid rv (by simpa using e)) fun h' tk hk=>key _ h' tk hk)
 ·obtain⟨its,rv,pl,hz⟩:=I.tuple hs;have hlt:a < s.heap.objs.size:=pl.lt;have hl:=rv.length;rw[xbc] at hl;have pt:s.heap.IsTuple a its.toArray:=pl;have W:=Walks.tuple (prog:=X.prog) (w:=X.w) (A:=X.A.in1) (I.ok.hd hc) s.heap.objs.size a (xcl hlt) its.toArray;rw[show its.toArray.size=ns.length from by rw[xbn];exact hl.symm] at W;exact xkk pt (h _ _ _ _ _ { s with heap:=s.heap.push { cls:=.type "tuple_iterator", data:=.fields #[.ref a, .int 0 0] } } W ⟨⟨_, xbz _ rfl, rfl, rfl⟩, pt.push _⟩ (low _ hlt) (fun i v e=>zid rv (by simpa using e)) fun h' tk hk=>key _ h' tk hk)
end
section
variable {prog:Program}{w:World}{A:Around}{E:Value->Shared->Prop}{s:Shared}{z TI TO i1 i2 t1 t2:Addr}{xs ys:Array Value}{j:Nat}
end
section
variable {prog:Program}{w:World}{A:Around}{E:Value->Shared->Prop}{s:Shared}{z TI TO i1 i2 t1 t2:Addr}{xs ys:Array Value}{j:Nat}
end
section
variable {prog:Program}{w:World}{A:Around}{E:Value->Shared->Prop}{s:Shared}
end
section
variable {X:Cx}
end
end L2
namespace Dd
open PySem L2
set_option genInjectivity true in
inductive D where
 | non | bl (b:Bool) | int (i:Int) | str (x:Str) | ty (n:String) | ref (n:Nat) | tup (ds:List D) | lst (ds:List D) | scr (ds:List D) | exn (c:Str) (l:List Int)
set_option genInjectivity true in
inductive O where
 /-- a list that may change;a dict by tuples of ints;one that is only read;gone -/
 | lst (xs:List D) | dT (kvs:List (List Int×D)) | fT (kvs:List (List Int×D)) | dead
 /-- a dict by ints -/
 | dI (kvs:List (Int×D))
 /-- a dict by tuples of tuples of ints,each True -/
 | dP (ks:List (List (List Int)))
 /-- the law's table of codes -/
 | tab
noncomputable abbrev Store:=List O
structure Exc where
 cls:Str
 at_:List Int
set_option genInjectivity true in
inductive Res (α:Type) where
 | ok (a:α) (st:Store) | exc (x:Exc) (st:Store) | stuck
noncomputable def Res.bind {α β:Type}:Res α->(α->Store->Res β)->Res β
 | .ok a st,f=>f a st
 | .exc x st,_=>.exc x st
 | .stuck,_=>.stuck
@[simp] theorem zcl {α β:Type} (a:α) (st:Store) (f:α->Store->Res β):(Res.ok a st).bind f=f a st:=rfl
@[simp] theorem zbgj {α β:Type} (x:Exc) (st:Store) (f:α->Store->Res β):(Res.exc x st:Res α).bind f=.exc x st:=rfl
@[simp] theorem zbbs {α β:Type} (f:α->Store->Res β):(Res.stuck:Res α).bind f=.stuck:=rfl
theorem za {α β:Type}{r:Res α}{f:α->Store->Res β}{b:β}{st':Store}(h:r.bind f=.ok b st'):∃a st,r=.ok a st/\f a st=.ok b st':=by
 cases r with
 | ok a st=>exact⟨a,st,rfl,h⟩
 | exc x st=>cases h
 | stuck=>cases h
noncomputable abbrev DS:=List (Option D)
noncomputable abbrev SE:=DS->Store->Res D
noncomputable abbrev ST:=DS->Store->Res Bool
noncomputable abbrev SA:=DS->Store->Res (List D)
set_option genInjectivity true in
inductive Fl where
 | nx (σ:DS) | ret (v:D) | brk (σ:DS) | ct (σ:DS)
noncomputable abbrev SS:=DS->Store->Res Fl
noncomputable abbrev DFn:=List D->Store->Res D
structure Loc where
 m:List (Option Addr)
 g:List Addr
noncomputable def Out (ρ:Loc) (a:Addr):Prop:=some a∉ρ.m/\a∉ρ.g
noncomputable def Ls (K:Fg) (ρ:Loc) (H:Hp) (a:Addr) (vs:List V):Prop:=(Rd H a (.lst vs)/\Out ρ a)\/∀H':Hp,SqL K H' a vs
noncomputable def XAt (K:Fg) (ρ:Loc) (H:Hp) (c:Str) (l:List Int) (a:Addr):Prop:=∃C o,W.nsIn K mainGlobals c=some (some (.ref C))/\(H a=some (.frz o (.ext fun _=>True))/\Out ρ a)/\o.cls=.ref C/\(∃vs,o.data=.fields vs/\vs[2]?=some .none) /\
 ((l=[]/\o.dict=none)\/∃ i dx od, l=[i]/\o.dict=some dx/\H dx=some (.frz od (.xd [("at", .int i)]))/\Out ρ dx)
theorem XAt.map {K:Fg}{ρ ρ':Loc}{H H':Hp}{c:Str}{l:List Int}{a:Addr}(h:XAt K ρ H c l a)(f:∀b ob u,H b=some (.frz ob u)->Out ρ b->H' b=some (.frz ob u)/\Out ρ' b):XAt K ρ' H' c l a:=by
 obtain⟨C,o,h1,h2,h3,h4,h5⟩:=h;refine⟨C,o,h1,f _ _ _ h2.1 h2.2,h3,h4,?_⟩;rcases h5 with h5 | ⟨i,dx,od,h6,h7,h8,h9⟩
 ·exact .inl h5
 ·exact .inr ⟨i,dx,od,h6,h7,(f _ _ _ h8 h9).1,(f _ _ _ h8 h9).2⟩
mutual
inductive At (K:Fg) (ρ:Loc) (H:Hp):D->V->Prop
 | non:At K ρ H .non .non
 | bl (b:Bool):At K ρ H (.bl b) (.bl b)
 | int (i:Int):At K ρ H (.int i) (.int i)
 | str (x:Str):At K ρ H (.str x) (.str x)
 | ty (n:String):At K ρ H (.ty n) (.ty n)
 | ref {n:Nat} {v:V}:n < ρ.m.length->(∀a,ρ.m[n]?=some (some a)->v=.ref a)->At K ρ H (.ref n) v
 | tup {a:Addr} {ds:List D} {vs:List V}:H a=some (.tup vs)->Out ρ a->AtAll K ρ H ds vs->At K ρ H (.tup ds) (.ref a)
 | lst {a:Addr} {ds:List D} {vs:List V}:H a=some (.lst vs)->Out ρ a->AtAll K ρ H ds vs->At K ρ H (.lst ds) (.ref a)
 | scr {a:Addr} {ds:List D} {vs:List V}:Ls K ρ H a vs->AtAll K ρ H ds vs->At K ρ H (.scr ds) (.ref a)
 | exn {c:Str} {l:List Int} {a:Addr}:XAt K ρ H c l a->At K ρ H (.exn c l) (.ref a)
inductive AtAll (K:Fg) (ρ:Loc) (H:Hp):List D->List V->Prop
 | nil:AtAll K ρ H [] []
 | cons {d:D} {ds:List D} {v:V} {vs:List V}:At K ρ H d v->AtAll K ρ H ds vs->AtAll K ρ H (d::ds) (v::vs)
end
structure Mv (ρ:Loc) (H:Hp) (ρ':Loc) (H':Hp):Prop where
 out:∀{a:Addr} {o:HO},H a=some o->Out ρ a->H' a=some o/\Out ρ' a
 len:ρ.m.length<=ρ'.m.length
 old:∀(n:Nat) (a:Addr),n < ρ.m.length->ρ'.m[n]?=some (some a)->ρ.m[n]?=some (some a)
theorem Ls.mv {K:Fg}{ρ ρ':Loc}{H H':Hp}{a:Addr}{vs:List V}(x:Mv ρ H ρ' H')(h:Ls K ρ H a vs):Ls K ρ' H' a vs:=by
 rcases h with⟨h | ⟨o,h⟩,n⟩ | h
 ·exact .inl ⟨.inl (x.out h n).1,(x.out h n).2⟩
 ·exact .inl ⟨.inr ⟨o,(x.out h n).1⟩,(x.out h n).2⟩
 ·exact .inr h
theorem At.mv {K:Fg}{ρ ρ':Loc}{H H':Hp}(x:Mv ρ H ρ' H'){d:D}{v:V}(h:At K ρ H d v):At K ρ' H' d v :=
 At.rec (motive_1:=fun d v _=>At K ρ' H' d v) (motive_2:=fun d v _=>AtAll K ρ' H' d v) .non .bl .int .str .ty (fun h e=>.ref (xbg h x.len) fun a q=>e a (x.old _ a h q)) (fun h n _ ih=>.tup (x.out h n).1 (x.out h n).2 ih) (fun h n _ ih=>.lst (x.out h n).1 (x.out h n).2 ih) (fun h _ ih=>.scr (h.mv x) ih) (fun h=>.exn (h.map fun _ _ _ e n=>x.out e n)) .nil (fun _ _ a b=>.cons a b) h
theorem AtAll.mv {K:Fg}{ρ ρ':Loc}{H H':Hp}(x:Mv ρ H ρ' H'){d:List D}{v:List V}(h:AtAll K ρ H d v):AtAll K ρ' H' d v :=
 AtAll.rec (motive_1:=fun _ _ _=>True) (motive_2:=fun d v _=>AtAll K ρ' H' d v) trivial (fun _=>trivial) (fun _=>trivial) (fun _=>trivial) (fun _=>trivial) (fun _ _=>trivial) (fun _ _ _ _=>trivial) (fun _ _ _ _=>trivial) (fun _ _ _=>trivial) (fun _=>trivial) .nil (fun a _ _ b=>.cons (a.mv x) b) h
structure Ext (ρ:Loc) (H:Hp) (ρ':Loc) (H':Hp):Prop where
 len:ρ.m.length<=ρ'.m.length
 old:∀(n:Nat) (a:Addr),n < ρ.m.length->ρ'.m[n]?=some (some a)->ρ.m[n]?=some (some a)
 keep:∀a o,H a=some o->some a∉ρ.m->H' a=some o/\some a∉ρ'.m
 gho:ρ'.g=ρ.g
 frz:∀a ob u,H a=some (.frz ob u)->H' a=some (.frz ob u)
theorem Ext.out {ρ ρ':Loc}{H H':Hp}(x:Ext ρ H ρ' H'){a:Addr}{o:HO}(h:H a=some o)(n:Out ρ a):H' a=some o/\Out ρ' a :=
 ⟨(x.keep a o h n.1).1,(x.keep a o h n.1).2,by rw[x.gho];exact n.2⟩
theorem Ext.mv {ρ ρ':Loc}{H H':Hp}(x:Ext ρ H ρ' H'):Mv ρ H ρ' H':=⟨fun h n=>x.out h n,x.len,x.old⟩
theorem Ls.sq {K:Fg}{ρ:Loc}{H:Hp}{a:Addr}{vs:List V}(h:Ls K ρ H a vs):SqL K H a vs:=by
 rcases h with h | h
 ·exact .inl h.1
 ·exact h H
section
variable {K:Fg}
theorem Ext.refl (ρ:Loc)(H:Hp):Ext ρ H ρ H:=⟨xbd _,fun _ _ _ e=>e,fun _ _ e n=>⟨e,n⟩,rfl,fun _ _ _ e=>e⟩
theorem Ext.trans {ρ ρ1 ρ2:Loc}{H H1 H2:Hp}(a:Ext ρ H ρ1 H1)(b:Ext ρ1 H1 ρ2 H2):Ext ρ H ρ2 H2 :=
 ⟨xbb a.len b.len,fun n c h e=>a.old n c h (b.old n c (xbg h a.len) e),fun c o e n=>by
  obtain⟨e1,n1⟩:=a.keep c o e n
  exact b.keep c o e1 n1,b.gho.trans a.gho,fun c ob u e=>b.frz c ob u (a.frz c ob u e)⟩
theorem At.ext {ρ ρ':Loc}{H H':Hp}(x:Ext ρ H ρ' H'){d:D}{v:V}(h:At K ρ H d v):At K ρ' H' d v:=h.mv x.mv
theorem AtAll.ext {ρ ρ':Loc}{H H':Hp}(x:Ext ρ H ρ' H'){d:List D}{v:List V}(h:AtAll K ρ H d v):AtAll K ρ' H' d v:=h.mv x.mv
theorem AtAll.length {ρ:Loc}{H:Hp}:∀{ds:List D} {vs:List V},AtAll K ρ H ds vs->vs.length=ds.length
 | _,_,.nil=>rfl
 | _,_,.cons _ t=>by rw[xbr,xbr,AtAll.length t]
theorem AtAll.get {ρ:Loc}{H:Hp}:∀{ds:List D} {vs:List V} {i:Nat} {d:D},AtAll K ρ H ds vs->ds[i]?=some d->∃v,vs[i]?=some v/\At K ρ H d v
 | _,_,_,_,.nil,e=>by simp at e
 | _,_,0,_,.cons a _,e=>by simp at e;subst e;exact⟨_,rfl,a⟩
 | _,_,i+1,d,.cons _ t,e=>by
  obtain⟨u,h1,h2⟩:=AtAll.get (i:=i) (d:=d) t (by simpa using e);exact⟨u,by simpa using h1,h2⟩
theorem AtAll.append {ρ:Loc}{H:Hp}:∀{ds es:List D} {vs us:List V},AtAll K ρ H ds vs->AtAll K ρ H es us->AtAll K ρ H (ds++es) (vs++us)
 | _,_,_,_,.nil,b=>b
 | _,_,_,_,.cons a t,b=>.cons a (AtAll.append t b)
theorem AtAll.take {ρ:Loc}{H:Hp}:∀{ds:List D} {vs:List V} (n:Nat),AtAll K ρ H ds vs->AtAll K ρ H (ds.take n) (vs.take n)
 | _,_,0,_=>.nil
 | _,_,_+1,.nil=>.nil
 | _,_,n+1,.cons a t=>.cons a (AtAll.take n t)
theorem AtAll.drop {ρ:Loc}{H:Hp}:∀{ds:List D} {vs:List V} (n:Nat),AtAll K ρ H ds vs->AtAll K ρ H (ds.drop n) (vs.drop n)
 | _,_,0,h=>h
 | _,_,_+1,.nil=>.nil
 | _,_,n+1,.cons a t=>AtAll.drop n t
theorem AtAll.set {ρ:Loc}{H:Hp}{d:D}{v:V}(a:At K ρ H d v):∀{ds:List D} {vs:List V} (n:Nat),AtAll K ρ H ds vs->AtAll K ρ H (ds.set n d) (vs.set n v)
 | _,_,_,.nil=>.nil
 | _,_,0,.cons _ t=>.cons a t
 | _,_,n+1,.cons b t=>.cons b (AtAll.set a n t)
noncomputable def KvAt (K:Fg) (ρ:Loc) (H:Hp):List (List Int×D)->List (List Key×V)->Prop:=Paired fun p q=>q.1=p.1.map Sum.inl/\At K ρ H p.2 q.2
theorem KvAt.ext {ρ ρ':Loc}{H H':Hp}(x:Ext ρ H ρ' H'){a:List (List Int×D)}{b:List (List Key×V)}(h:KvAt K ρ H a b):KvAt K ρ' H' a b:=Paired.mapP h fun p q z=>⟨z.1,z.2.ext x⟩
noncomputable abbrev lamQ:Str:=(("law" : Str)++".<locals>.")++"<lambda>"
noncomputable def TabOk (H:Hp) (ps:Array Value):Prop:=TriplesOk ps.toList/\∀pos cv,codeAmong pos ps.toList=some cv->∃c oc vs t,cv=.ref c/\H c=some (.frz oc (.ext fun _=>True))/\oc.data=.fields vs/\vs[1]?=some (.str lamQ t)
theorem TabOk.map {H H':Hp}{ps:Array Value}(h:TabOk H ps)(f:∀b ob u,H b=some (.frz ob u)->H' b=some (.frz ob u)):TabOk H' ps :=
 ⟨h.1,fun pos cv e=>by obtain⟨c,oc,vs,t,e1,e2,e3⟩:=h.2 pos cv e;exact⟨c,oc,vs,t,e1,f _ _ _ e2,e3⟩⟩
noncomputable def KiAt (K:Fg) (ρ:Loc) (H:Hp):List (Int×D)->List (Key×V)->Prop:=Paired fun p q=>q.1=Sum.inl p.1/\At K ρ H p.2 q.2
theorem KiAt.ext {K:Fg}{ρ ρ':Loc}{H H':Hp}(x:Ext ρ H ρ' H'){a:List (Int×D)}{b:List (Key×V)}(h:KiAt K ρ H a b):KiAt K ρ' H' a b:=Paired.mapP h fun p q z=>⟨z.1,z.2.ext x⟩
noncomputable def PDict (a:Addr) (es:List DictEntry):Heap->Prop:=fun h=>∃o arr ep,h.get? a=some o/\o.ExactDict/\o.data=.dict arr ep/\arr.toList=es
noncomputable def hashP (k:List (List Int)):Int:=reduceHash (Builtin.Tuple.tupleHashOf (k.map fun r=>reduceHash (Builtin.Tuple.tupleHashOf (r.map hashInt))))
noncomputable def nestD (k:List (List Int)):D:=.tup (k.map fun r=>.tup (r.map .int))
noncomputable def KpAt (K:Fg) (ρ:Loc) (H:Hp):List (List (List Int))->List DictEntry->Prop:=Paired fun k e=>e.hash=hashP k/\e.val=.bool true/\∃b,e.key=.ref b/\At K ρ H (nestD k) (.ref b)
theorem KpAt.map {K:Fg}{ρ ρ':Loc}{H H':Hp}(k:∀d v,At K ρ H d v->At K ρ' H' d v){a:List (List (List Int))}{b:List DictEntry}(h:KpAt K ρ H a b):KpAt K ρ' H' a b:=Paired.mapP h fun p q ⟨z1,z2,c,z3,z4⟩=>⟨z1,z2,c,z3,k _ _ z4⟩
noncomputable def OAt (K:Fg) (ρ:Loc) (H:Hp):O->Addr->Prop
 | .lst xs,a=>∃vs,H a=some (.lst vs)/\AtAll K ρ H xs vs
 | .dT kvs,a=>∃vs,H a=some (.dT vs)/\KvAt K ρ H kvs vs
 | .fT kvs,a=>∃vs ob,H a=some (.frz ob (.dT vs))/\KvAt K ρ H kvs vs
 | .dI kvs,a=>∃vs,H a=some (.dK vs)/\KiAt K ρ H kvs vs
 | .dP ks,a=>∃es,H a=some (.ext (PDict a es))/\(a==sysModules)=false/\ks.length<=sizeLine/\ks.Nodup/\KpAt K ρ H ks es
 | .dead,_=>False
 | .tab, a=>(∃ c, W.tabIn K "law"=some (c, a))/\∃ ps, H a=some (.tbl ps)/\TabOk H ps
structure Rep (K:Fg) (ρ:Loc) (st:Store) (H:Hp):Prop where
 len:ρ.m.length=st.length
 inj:∀(n m:Nat) (a:Addr),ρ.m[n]?=some (some a)->ρ.m[m]?=some (some a)->n=m
 obj:∀(n:Nat) (a:Addr) (o:O),ρ.m[n]?=some (some a)->st[n]?=some o->OAt K ρ H o a
 gh:∀a∈ρ.g,(∃vs,H a=some (.lst vs))/\some a∉ρ.m
 live:∀(n:Nat) (o:O),st[n]?=some o->o≠.dead->∃a,ρ.m[n]?=some (some a)
noncomputable def AtO (K:Fg) (ρ:Loc) (H:Hp) (o:Option D) (v:Option V):Prop:=∀d,o=some d->∃u,v=some u/\At K ρ H d u
noncomputable abbrev AtS (K:Fg) (ρ:Loc) (H:Hp):DS->St->Prop:=Paired (AtO K ρ H)
theorem AtS.ext {ρ ρ':Loc}{H H':Hp}(x:Ext ρ H ρ' H'){σ:DS}{τ:St}(h:AtS K ρ H σ τ):AtS K ρ' H' σ τ:=Paired.mapP h fun o v z d e=>by
 obtain⟨u,e1,a⟩:=z d e;exact⟨u,e1,a.ext x⟩
theorem AtS.get {ρ:Loc}{H:Hp}:∀{σ:DS} {τ:St} {i:Nat} {d:D},AtS K ρ H σ τ->σ[i]?=some (some d)->∃u,τ[i]?=some (some u)/\At K ρ H d u
 | _,_,_,_,.nil,e=>by simp at e
 | _,_,0,_,.cons a _,e=>by
  simp at e;subst e
  obtain⟨u,e1,h⟩:=a _ rfl;exact⟨u,by simp[e1],h⟩
 | _,_,i+1,d,.cons _ t,e=>by
  obtain⟨u,h1,h2⟩:=AtS.get (i:=i) (d:=d) t (by simpa using e);exact⟨u,by simpa using h1,h2⟩
theorem AtS.set {ρ:Loc}{H:Hp}{d:D}{v:V}(a:At K ρ H d v):∀{σ:DS} {τ:St} (i:Nat),AtS K ρ H σ τ->AtS K ρ H (σ.set i (some d)) (τ.set i (some v))
 | _,_,_,.nil=>.nil
 | _,_,0,.cons _ t=>.cons (fun d' e=>by cases e;exact⟨v,rfl,a⟩) t
 | _,_,i+1,.cons q t=>.cons q (AtS.set a i t)
end
noncomputable def tD (K:Fg) (f:SE):TE:=fun τ H Q=>∃ρ σ st v st',AtS K ρ H σ τ/\Rep K ρ st H/\f σ st=.ok v st'/\∀ρ' H' u,Ext ρ H ρ' H'->Rep K ρ' st' H'->At K ρ' H' v u->Q u H'
noncomputable def tDT (K:Fg) (f:ST):TT:=fun τ H Q=>∃ρ σ st v st',AtS K ρ H σ τ/\Rep K ρ st H/\f σ st=.ok v st'/\∀ρ' H',Ext ρ H ρ' H'->Rep K ρ' st' H'->Q v H'
noncomputable def tDA (K:Fg) (f:SA):TA:=fun τ H Q=>∃ρ σ st v st',AtS K ρ H σ τ/\Rep K ρ st H/\f σ st=.ok v st'/\∀ρ' H' u,Ext ρ H ρ' H'->Rep K ρ' st' H'->AtAll K ρ' H' v u->Q u H'
noncomputable def FlOk (K:Fg) (ρ:Loc) (H:Hp) (st':Store) (E:Ends):Fl->Prop
 | .nx σ=>∀ρ' H' τ,Ext ρ H ρ' H'->Rep K ρ' st' H'->AtS K ρ' H' σ τ->E.nx τ H'
 | .brk σ=>∀ρ' H' τ,Ext ρ H ρ' H'->Rep K ρ' st' H'->AtS K ρ' H' σ τ->E.bk τ H'
 | .ct σ=>∀ρ' H' τ,Ext ρ H ρ' H'->Rep K ρ' st' H'->AtS K ρ' H' σ τ->E.ct τ H'
 | .ret v=>∀ρ' H' u,Ext ρ H ρ' H'->Rep K ρ' st' H'->At K ρ' H' v u->E.rt u H'
theorem FlOk.ext {K:Fg}{ρ ρ1:Loc}{H H1:Hp}{st':Store}{E:Ends}{fl:Fl}(x:Ext ρ H ρ1 H1)(h:FlOk K ρ H st' E fl):FlOk K ρ1 H1 st' E fl:=by
 cases fl with
 | nx σ=>exact fun ρ' H' τ e=>h ρ' H' τ (x.trans e)
 | brk σ=>exact fun ρ' H' τ e=>h ρ' H' τ (x.trans e)
 | ct σ=>exact fun ρ' H' τ e=>h ρ' H' τ (x.trans e)
 | ret v=>exact fun ρ' H' τ e=>h ρ' H' τ (x.trans e)
noncomputable def tDS (K:Fg) (f:SS):TS:=fun E τ H=>∃ρ σ st fl st',AtS K ρ H σ τ/\Rep K ρ st H/\f σ st=.ok fl st'/\FlOk K ρ H st' E fl
noncomputable abbrev DE (X:Cx) (e:Expr) (f:SE):Prop:=PE X e (tD X.K f)
noncomputable abbrev DT (X:Cx) (e:Expr) (f:ST):Prop:=PT X e (tDT X.K f)
noncomputable abbrev DW (X:Cx) (e:Expr) (f:ST):Prop:=PW X e (tDT X.K f)
noncomputable abbrev DA (X:Cx) (es:List Expr) (f:SA):Prop:=PA X es (tDA X.K f)
noncomputable abbrev DSt (X:Cx) (s:Stmt) (f:SS):Prop:=PS X s (tDS X.K f)
noncomputable abbrev DSs (X:Cx) (s:List Stmt) (f:SS):Prop:=PSs X s (tDS X.K f)
section
variable {X:Cx}{e:Expr}{es:List Expr}{s:Stmt}{ss:List Stmt}
theorem zey {t t':TE}(h:PE X e t)(k:∀σ H Q,t' σ H Q->t σ H Q):PE X e t':=fun aU s σ H Q I q=>h aU s σ H Q I (k _ _ _ q)
theorem zbcb {t t':TT}(h:PT X e t)(k:∀σ H Q,t' σ H Q->t σ H Q):PT X e t':=fun aU s σ H Q I q=>h aU s σ H Q I (k _ _ _ q)
theorem pw_to {t t':TT}(h:PW X e t)(k:∀σ H Q,t' σ H Q->t σ H Q):PW X e t':=fun wh aU s σ H Q I q=>h wh aU s σ H Q I (k _ _ _ q)
theorem zbhi {t t':TA}(h:PA X es t)(k:∀σ H Q,t' σ H Q->t σ H Q):PA X es t':=fun pos aU s σ H Q I q=>h pos aU s σ H Q I (k _ _ _ q)
theorem zph {t t':TS}(h:PS X s t)(k:∀E σ H,t' E σ H->t E σ H):PS X s t':=fun aU z σ H E I q=>h aU z σ H E I (k _ _ _ q)
theorem zxs {t t':TS}(h:PSs X ss t)(k:∀E σ H,t' E σ H->t E σ H):PSs X ss t':=fun aU z σ H E I q=>h aU z σ H E I (k _ _ _ q)
end
noncomputable def aA (i:Nat):SE:=fun σ st=>match σ[i]? with
 | some (some d)=>.ok d st
 | _=>.stuck
noncomputable def eC (d:D):SE:=fun _ st=>.ok d st
section
variable {X:Cx}
theorem zbjg {e:Expr}{i:Nat}(h:PE X e (tVar i)):DE X e (aA i):=zey h fun τ H Q hq0=>by
 obtain⟨ρ,σ,st,v,st',a,r,e,q⟩:=hq0;unfold aA at e;split at e
 ·rename_i d hd;cases e;obtain⟨u,e1,e2⟩:=a.get hd;exact⟨u,e1,q ρ H u (.refl _ _) r e2⟩
 ·cases e
theorem zbga {e:Expr}{v:V}{d:D}(h:PE X e (tC v))(k:∀ρ H,At X.K ρ H d v):DE X e (eC d):=zey h fun τ H Q hq0=>by
 obtain⟨ρ,σ,st,v,st',a,r,e,q⟩:=hq0;cases e;exact q ρ H _ (.refl _ _) r (k _ _)
theorem zbjn {i j pos}:DE X (.Constant (.int i) j pos) (eC (.int i)):=zbga zbdp fun _ _=>.int i
theorem d_bl {b j pos}:DE X (.Constant (.bool b) j pos) (eC (.bl b)):=zbga zbik fun _ _=>.bl b
end
noncomputable def aS (g:D->D->Store->Res D) (f f':SE):SE:=fun σ st=>(f σ st).bind fun x st1=>(f' σ st1).bind fun y st2=>g x y st2
noncomputable def eUn (g:D->Store->Res D) (f:SE):SE:=fun σ st=>(f σ st).bind fun x st1=>g x st1
noncomputable def OpD (K:Fg) (g:D->D->Store->Res D) (r:R2):Prop :=
 ∀ρ H st x y u v z st' (Q:VK),Rep K ρ st H->At K ρ H x u->At K ρ H y v->g x y st=.ok z st'->(∀ρ' H' w,Ext ρ H ρ' H'->Rep K ρ' st' H'->At K ρ' H' z w->Q w H')->r u v H Q
theorem zbdv {K:Fg}{g:D->D->Store->Res D}{r:R2}(hr:OpD K g r){f f':SE}:∀τ H Q,tD K (aS g f f') τ H Q->tOp r (tD K f) (tD K f') τ H Q:=fun τ H Q hq0=>by
 obtain⟨ρ,σ,st,v,st',a,rp,e,q⟩:=hq0;obtain⟨x,st1,e1,e⟩:=za e;obtain⟨y,st2,e2,e⟩:=za e;refine⟨ρ,σ,st,x,st1,a,rp,e1,fun ρ1 H1 u x1 rp1 a1=>?_⟩;refine⟨ρ1,σ,st1,y,st2,a.ext x1,rp1,e2,fun ρ2 H2 w x2 rp2 a2=>?_⟩;exact hr ρ2 H2 st2 x y u w v st' Q rp2 (a1.ext x2) a2 e fun ρ' H' z x3 rp3 a3=>q ρ' H' z (x1.trans (x2.trans x3)) rp3 a3
section
variable {X:Cx}{a b c:Expr}{f f' f'':SE}{pos:Pos}
theorem d_op {op:Operator}{r:R2}{g:D->D->Store->Res D}(ho:OpR X (binaryOp op) r)(hr:OpD X.K g r)(ha:DE X a f)(hb:DE X b f'):DE X (.BinOp a op b pos) (aS g f f'):=zey (zbii ho ha hb) (zbdv hr)
noncomputable def eB (f:SE):ST:=fun σ st=>(f σ st).bind fun v st1=>match v with
 | .bl b=>.ok b st1
 | _=>.stuck
theorem eB_t {K:Fg}{f:SE}:∀τ H Q,tDT K (eB f) τ H Q->tD K f τ H fun x H1=>∃c,x=.bl c/\Q c H1:=fun τ H Q hq0=>by
 obtain⟨ρ,σ,st,v,st',a,rp,e,q⟩:=hq0;obtain⟨x,st1,e1,e⟩:=za e;refine⟨ρ,σ,st,x,st1,a,rp,e1,fun ρ1 H1 u x1 rp1 a1=>?_⟩;cases x<;>try (cases e;done)
 cases e;cases a1;exact⟨_,rfl,q _ _ x1 rp1⟩
theorem zbfh {op:CmpOp}{r:R2}{g:D->D->Store->Res D}(ho:OpR X (compareOp op) r)(hr:OpD X.K g r)(ha:DE X a f)(hb:DE X b f')(hm:behindInMarks op b=false):DT X (.Compare a [op] [b] pos) (eB (aS g f f')) :=
 zbcb (zxr ho ha hb hm) fun τ H Q h=>zbdv hr _ _ _ (eB_t _ _ _ h)
noncomputable def eChain (g g':D->D->Store->Res D) (f f' f'':SE):SE:=fun σ st=>(f σ st).bind fun x st1=>(f' σ st1).bind fun y st2=>(g x y st2).bind fun z st3=>match z with
 | .bl true=>(f'' σ st3).bind fun w st4=>g' y w st4
 | .bl false=>.ok (.bl false) st3
 | _=>.stuck
end
end Dd
namespace Dd
open PySem L2
section
variable {K:Fg}{ρ:Loc}{st:Store}{H:Hp}{p a:Addr}{o:HO}{n:Nat}
theorem Ext.new (hp:H p=none)(o:HO):Ext ρ H ρ (upd H p o):=⟨xbd _,fun _ _ _ e=>e,fun b u e m=>⟨by rw[zn (zh e hp)];exact e,m⟩,rfl,fun b ob u e=>by rw[zn (zh e hp)];exact e⟩
theorem zdb {vs:List V}(h:H a=some (.lst vs)):∀ob u,H a≠some (.frz ob u):=fun ob u z=>by rw[h] at z;cases z
theorem zgh {vs:List (List Key×V)}(h:H a=some (.dT vs)):∀ob u,H a≠some (.frz ob u):=fun ob u z=>by rw[h] at z;cases z
theorem Ext.wr (h:ρ.m[n]?=some (some a))(hz:∀ob u,H a≠some (.frz ob u))(o:HO):Ext ρ H ρ (upd H a o):=⟨xbd _,fun _ _ _ e=>e,fun b u e m=>⟨by
 rw[zn]
 ·exact e
 ·rintro rfl
  exact m (xby h),m⟩,rfl,fun b ob u e=>by
 rw[zn]
 ·exact e
 ·rintro rfl
  exact hz _ _ e⟩
theorem OAt.has {x:O}(h:OAt K ρ H x a):∃u,H a=some u:=by
 cases x with
 | lst xs=>obtain⟨vs,e,_⟩:=h;exact⟨_,e⟩
 | dT kvs=>obtain⟨vs,e,_⟩:=h;exact⟨_,e⟩
 | fT kvs=>obtain⟨vs,ob,e,_⟩:=h;exact⟨_,e⟩
 | dI kvs=>obtain⟨vs,e,_⟩:=h;exact⟨_,e⟩
 | dP ks=>obtain⟨vs,e,_⟩:=h;exact⟨_,e⟩
 | dead=>exact h.elim
 | tab=>obtain⟨_,ps,e,_⟩:=h;exact⟨_,e⟩
theorem OAt.ext {ρ':Loc}{H':Hp}{x:O}(e:Ext ρ H ρ' H')(same:H' a=H a)(h:OAt K ρ H x a):OAt K ρ' H' x a:=by
 cases x with
 | lst xs=>obtain⟨vs,q,r⟩:=h;exact⟨vs,by rw[same];exact q,r.ext e⟩
 | dT kvs=>obtain⟨vs,q,r⟩:=h;exact⟨vs,by rw[same];exact q,r.ext e⟩
 | fT kvs=>obtain⟨vs,ob,q,r⟩:=h;exact⟨vs,ob,by rw[same];exact q,r.ext e⟩
 | dI kvs=>obtain⟨vs,q,r⟩:=h;exact⟨vs,by rw[same];exact q,r.ext e⟩
 | dP ks=>obtain⟨vs,q,n,l,u,r⟩:=h;exact⟨vs,by rw[same];exact q,n,l,u,r.map fun _ _ z=>z.ext e⟩
 | dead=>exact h.elim
 | tab=>obtain⟨c,ps,q,r⟩:=h;exact⟨c,ps,by rw[same];exact q,r.map e.frz⟩
theorem Rep.has (r:Rep K ρ st H)(h:ρ.m[n]?=some (some a)):∃x,st[n]?=some x/\OAt K ρ H x a:=by
 have hn:n < st.length:=by rw[← r.len];exact(xbm.mp h).1
 exact⟨st[n],xbf hn,r.obj n a _ h (xbf hn)⟩
theorem Rep.new (r:Rep K ρ st H)(hp:H p=none)(o:HO):Rep K ρ st (upd H p o):=⟨r.len,r.inj,fun m b x e1 e2=>by
 have q:=r.obj m b x e1 e2;obtain⟨u,hu⟩:=q.has;exact q.ext (Ext.new hp o) (zn (zh hu hp)),fun b hb=>by
 obtain⟨⟨u,hu⟩,n⟩:=r.gh b hb
 exact⟨⟨u,by rw[zn (zh hu hp)];exact hu⟩,n⟩,r.live⟩
theorem Rep.wr (r:Rep K ρ st H)(h:ρ.m[n]?=some (some a))(hz:∀ob u,H a≠some (.frz ob u)){x:O}{o:HO}(q:OAt K ρ (upd H a o) x a):Rep K ρ (st.set n x) (upd H a o):=⟨by rw[r.len,xfi],r.inj,fun m b y e1 e2=>by
 by_cases hm:m=n
 ·subst hm;have hb:b=a:=by rw[h] at e1;exact(xcd (xcd e1)).symm
  subst hb;have hl:m < st.length:=by rw[← r.len];exact(xbm.mp h).1
  rw[xec hl] at e2;cases e2;exact q
 ·rw[xcx (xez hm)] at e2;refine(r.obj m b y e1 e2).ext (Ext.wr h hz o) (zn fun z=>hm ?_);subst z;exact r.inj m n b e1 h,fun b hb=>by
 obtain⟨⟨u,hu⟩,n1⟩:=r.gh b hb;refine⟨⟨u,?_⟩,n1⟩;rw[zn]
 ·exact hu
 ·rintro rfl;exact n1 (xby h),fun m y e ne=>by
 by_cases hm:m=n
 ·subst hm;exact⟨a,h⟩
 ·rw[xcx (xez hm)] at e
  exact r.live m y e ne⟩
theorem Rep.alloc (r:Rep K ρ st H)(hp:H p=none){x:O}{o:HO}(q:Ext ρ H ⟨ρ.m++[some p],ρ.g⟩ (upd H p o)->OAt K ⟨ρ.m++[some p],ρ.g⟩ (upd H p o) x p):Ext ρ H ⟨ρ.m++[some p],ρ.g⟩ (upd H p o)/\Rep K ⟨ρ.m++[some p],ρ.g⟩ (st++[x]) (upd H p o):=by
 have hn:∀(m:Nat) (b:Addr),(ρ.m++[some p])[m]?=some (some b)->(m < ρ.m.length/\ρ.m[m]?=some (some b))\/(m=ρ.m.length/\b=p):=fun m b e=>by
  rcases xho m ρ.m.length with z | z
  ·rw[xcs z] at e;exact .inl ⟨z,e⟩
  ·rw[xdf z] at e;have z2:m - ρ.m.length=0:=by
    have:=(xbm.mp e).1;simp at this;lia
   rw[z2] at e;simp at e;exact .inr ⟨by lia,e.symm⟩
 have nl:∀(m:Nat),ρ.m[m]?≠some (some p):=fun m e=>by
  obtain⟨x,_,q⟩:=r.has e;obtain⟨u,hu⟩:=q.has;rw[hp] at hu;cases hu
 have E:Ext ρ H ⟨ρ.m++[some p],ρ.g⟩ (upd H p o):=⟨by rw[xbo];lia,fun m b h e=>by
   rw[xcs h] at e;exact e,fun b u e m=>⟨by rw[zn (zh e hp)];exact e,fun z=>by
   rcases xce.mp z with z | z
   ·exact m z
   ·simp at z;subst z;rw[hp] at e;cases e⟩,rfl,fun b ob u e=>by rw[zn (zh e hp)];exact e⟩
 refine⟨E,⟨by rw[xbo,xbo,r.len];rfl,fun m k b e1 e2=>?_,fun m b y e1 e2=>?_,fun b hb=>?_,fun m y e ne=>?_⟩⟩
 ·rcases hn m b e1 with⟨h1,q1⟩ | ⟨h1,rfl⟩
  ·rcases hn k b e2 with⟨h2,q2⟩ | ⟨h2,rfl⟩
   ·exact r.inj m k b q1 q2
   ·exact absurd q1 (nl m)
  ·rcases hn k b e2 with⟨h2,q2⟩ | ⟨h2,_⟩
   ·exact absurd q2 (nl k)
   ·lia
 ·rcases hn m b e1 with⟨h1,q1⟩ | ⟨h1,rfl⟩
  ·rw[xcs (by rw[← r.len];exact h1)] at e2;have q:=r.obj m b y q1 e2;obtain⟨u,hu⟩:=q.has;exact q.ext E (zn (zh hu hp))
  ·rw[h1,r.len,xdf (xbd _)] at e2;simp at e2;subst e2;exact q E
 ·obtain⟨⟨u,hu⟩,n1⟩:=r.gh b hb;refine⟨⟨u,by rw[zn (zh hu hp)];exact hu⟩,fun z=>?_⟩;rcases xce.mp z with z | z
  ·exact n1 z
  ·simp at z;subst z;rw[hp] at hu;cases hu
 ·rcases xho m st.length with z | z
  ·rw[xcs z] at e;obtain⟨b,hb⟩:=r.live m y e ne;exact⟨b,by rw[xcs (by rw[r.len];exact z)];exact hb⟩
  ·have z2:=(xbm.mp e).1;simp at z2;have z3:m=ρ.m.length:=by rw[r.len];lia
   exact⟨p,by rw[z3,xdf (xbd _)];simp⟩
theorem Rep.kill (r:Rep K ρ st H)(h:n < ρ.m.length):Ext ρ H ⟨ρ.m.set n none,ρ.g⟩ H/\Rep K ⟨ρ.m.set n none,ρ.g⟩ (st.set n .dead) H:=by
 have hn:∀(m:Nat) (b:Addr),(ρ.m.set n none)[m]?=some (some b)->m≠n/\ρ.m[m]?=some (some b):=fun m b e=>by
  by_cases z:m=n
  ·subst z;rw[xec h] at e;simp at e
  ·rw[xcx (xez z)] at e;exact⟨z,e⟩
 have E:Ext ρ H ⟨ρ.m.set n none,ρ.g⟩ H:=⟨by rw[xfi];exact xbd _,fun m b _ e=>(hn m b e).2,fun b o e m=>⟨e,fun z=>by
  obtain⟨i,hi,e2⟩:=xeg z;have:(ρ.m.set n none)[i]?=some (some b):=by rw[xbf hi,e2]
  exact m (xby (hn i b this).2)⟩,rfl,fun _ _ _ e=>e⟩
 refine⟨E,⟨by rw[xfi,xfi,r.len],fun m k b e1 e2=>r.inj m k b (hn m b e1).2 (hn k b e2).2,fun m b y e1 e2=>?_,fun b hb=>⟨(r.gh b hb).1,fun z=>?_⟩,fun m y e ne=>?_⟩⟩
 rotate_left
 ·obtain⟨i,hi,e2⟩:=xeg z;have:(ρ.m.set n none)[i]?=some (some b):=by rw[xbf hi,e2]
  exact(r.gh b hb).2 (xby (hn i b this).2)
 ·have z:m≠n:=by
   rintro rfl;rw[xec (by rw[← r.len];exact h)] at e;cases e;exact ne rfl
  rw[xcx (xez z)] at e;obtain⟨b,hb⟩:=r.live m y e ne;exact⟨b,by rw[xcx (xez z)];exact hb⟩
 obtain⟨z,q⟩:=hn m b e1;rw[xcx (xez z)] at e2;exact(r.obj m b y q e2).ext E rfl
theorem zha (r:Rep K ρ st H)(hp:H p=none):Out ρ p:=by
 refine⟨fun z=>?_,fun z=>?_⟩
 ·obtain⟨i,hi,e⟩:=xeg z;obtain⟨x,_,q⟩:=r.has (n:=i) (a:=p) (by rw[xbf hi,e]);obtain⟨u,hu⟩:=q.has;rw[hp] at hu;cases hu
 ·obtain⟨⟨u,hu⟩,_⟩:=r.gh p z;rw[hp] at hu;cases hu
theorem At.newT (r:Rep K ρ st H)(hp:H p=none){ds:List D}{vs:List V}(h:AtAll K ρ H ds vs):At K ρ (upd H p (.tup vs)) (.tup ds) (.ref p):=.tup zk (zha r hp) (h.ext (Ext.new hp _))
theorem At.newL (r:Rep K ρ st H)(hp:H p=none){ds:List D}{vs:List V}(h:AtAll K ρ H ds vs):At K ρ (upd H p (.lst vs)) (.lst ds) (.ref p):=.lst zk (zha r hp) (h.ext (Ext.new hp _))
end
noncomputable def eAnd (f f':SE):SE:=fun σ st=>(f σ st).bind fun v st1=>match v with
 | .bl true=>f' σ st1
 | .bl false=>.ok (.bl false) st1
 | _=>.stuck
noncomputable def eOr (f f':SE):SE:=fun σ st=>(f σ st).bind fun v st1=>match v with
 | .bl true=>.ok (.bl true) st1
 | .bl false=>f' σ st1
 | _=>.stuck
noncomputable def eNot (f:SE):SE:=fun σ st=>(f σ st).bind fun v st1=>match v with
 | .bl b=>.ok (.bl (!b)) st1
 | _=>.stuck
noncomputable def bAnd (f f':ST):ST:=fun σ st=>(f σ st).bind fun b st1=>if b=true then f' σ st1 else .ok false st1
noncomputable def bOr (f f':ST):ST:=fun σ st=>(f σ st).bind fun b st1=>if b=true then .ok true st1 else f' σ st1
noncomputable def bNot (f:ST):ST:=fun σ st=>(f σ st).bind fun b st1=>.ok (!b) st1
noncomputable def eIf (c:ST) (f f':SE):SE:=fun σ st=>(c σ st).bind fun b st1=>if b=true then f σ st1 else f' σ st1
section
variable {X:Cx}{a b:Expr}{rest:List Expr}{f f':SE}{t t':ST}{pos:Pos}
theorem zbjj {op}(h:DE X a f):DE X (.BoolOp op [a] pos) f:=zbdn h
theorem d_or (ha:DE X a f)(hb:DE X (.BoolOp .Or (b::rest) pos) f'):DE X (.BoolOp .Or (a::b::rest) pos) (eOr f f'):=zey (zbih ha hb) fun τ H Q hq0=>by
 obtain⟨ρ,σ,st,v,st',at',rp,e,q⟩:=hq0;obtain⟨x,st1,e1,e⟩:=za e;refine⟨ρ,σ,st,x,st1,at',rp,e1,fun ρ1 H1 u x1 rp1 a1=>?_⟩;cases x<;>try (cases e;done)
 rename_i bb;cases a1;refine⟨bb,rfl,?_⟩;cases bb with
 | false =>
  rw[if_neg (by decide)];exact⟨ρ1,σ,st1,v,st',at'.ext x1,rp1,e,fun ρ' H' u x2=>q ρ' H' u (x1.trans x2)⟩
 | true =>
  rw[if_pos rfl];cases e;exact q _ _ _ x1 rp1 (.bl true)
theorem zbjk (ha:DE X a f):DE X (.UnaryOp .Not a pos) (eNot f):=zey (zbdo ha) fun τ H Q hq0=>by
 obtain⟨ρ,σ,st,v,st',at',rp,e,q⟩:=hq0;obtain⟨x,st1,e1,e⟩:=za e;refine⟨ρ,σ,st,x,st1,at',rp,e1,fun ρ1 H1 u x1 rp1 a1=>?_⟩;cases x<;>try (cases e;done)
 rename_i bb;cases a1;cases e;exact⟨bb,rfl,q _ _ _ x1 rp1 (.bl _)⟩
theorem zbfd {op}(h:DT X a t)(hop:op=.And\/op=.Or):DW X (.BoolOp op [a] pos) t:=by
 rcases hop with rfl | rfl
 ·exact pw_and1 h
 ·exact pw_or1 h
theorem zbfe (ha:DT X a t)(hb:DW X (.BoolOp .And (b::rest) pos) t'):DW X (.BoolOp .And (a::b::rest) pos) (bAnd t t'):=pw_to (pw_and ha hb) fun τ H Q hq0=>by
 obtain⟨ρ,σ,st,v,st',at',rp,e,q⟩:=hq0;obtain⟨x,st1,e1,e⟩:=za e;refine⟨ρ,σ,st,x,st1,at',rp,e1,fun ρ1 H1 x1 rp1=>?_⟩;cases x with
 | true=>exact iteT ⟨ρ1,σ,st1,v,st',at'.ext x1,rp1,e,fun ρ' H' x2=>q ρ' H' (x1.trans x2)⟩
 | false=>cases e;exact iteF (q _ _ x1 rp1)
theorem zbjc (ha:DT X a t)(hb:DW X (.BoolOp .Or (b::rest) pos) t'):DW X (.BoolOp .Or (a::b::rest) pos) (bOr t t'):=pw_to (pw_or ha hb) fun τ H Q hq0=>by
 obtain⟨ρ,σ,st,v,st',at',rp,e,q⟩:=hq0;obtain⟨x,st1,e1,e⟩:=za e;refine⟨ρ,σ,st,x,st1,at',rp,e1,fun ρ1 H1 x1 rp1=>?_⟩;cases x with
 | false=>exact iteF ⟨ρ1,σ,st1,v,st',at'.ext x1,rp1,e,fun ρ' H' x2=>q ρ' H' (x1.trans x2)⟩
 | true=>cases e;exact iteT (q _ _ x1 rp1)
theorem zbfg (ha:DT X a t):DT X (.UnaryOp .Not a pos) (bNot t):=zbcb (zbdb ha) fun τ H Q hq0=>by
 obtain⟨ρ,σ,st,v,st',at',rp,e,q⟩:=hq0;obtain⟨x,st1,e1,e⟩:=za e;cases e;exact⟨ρ,σ,st,x,_,at',rp,e1,fun ρ1 H1 x1 rp1=>q _ _ x1 rp1⟩
end
noncomputable def aC:SA:=fun _ st=>.ok [] st
noncomputable def aB (f:SE) (g:SA):SA:=fun σ st=>(f σ st).bind fun x st1=>(g σ st1).bind fun xs st2=>.ok (x::xs) st2
noncomputable def aR (g:SA):SE:=fun σ st=>(g σ st).bind fun xs st1=>if xs.length<=sizeLine then .ok (.tup xs) st1 else .stuck
noncomputable def eLst (g:SA):SE:=fun σ st=>(g σ st).bind fun xs st1=>if xs.length<=sizeLine then .ok (.lst xs) st1 else .stuck
noncomputable def eLstM (g:SA):SE:=fun σ st=>(g σ st).bind fun xs st1=>if xs.length<=sizeLine then .ok (.ref st1.length) (st1++[.lst xs]) else .stuck
section
variable {X:Cx}{e:Expr}{es:List Expr}{f:SE}{g:SA}{pos:Pos}
theorem zbfr:DA X [] aC:=zbhi zbdu fun τ H Q hq0=>by
 obtain⟨ρ,σ,st,v,st',a,rp,e,q⟩:=hq0;cases e;exact q _ _ _ (.refl _ _) rp .nil
theorem zbau (ha:DE X e f)(hr:DA X es g)(hs:starEach (e::es) X.env=(false,eval e X.env)::starEach es X.env:=by rfl):DA X (e::es) (aB f g):=zbhi (zyq ha hr hs) fun τ H Q hq0=>by
 obtain⟨ρ,σ,st,v,st',a,rp,e,q⟩:=hq0;obtain⟨x,st1,e1,e⟩:=za e;obtain⟨y,st2,e2,e⟩:=za e;cases e;refine⟨ρ,σ,st,x,st1,a,rp,e1,fun ρ1 H1 u x1 rp1 a1=>?_⟩;exact⟨ρ1,σ,st1,y,_,a.ext x1,rp1,e2,fun ρ2 H2 w x2 rp2 a2=>q _ _ _ (x1.trans x2) rp2 (.cons (a1.ext x2) a2)⟩
theorem zbjh {x1}(h:DA X es g):DE X (.Tuple es x1 pos) (aR g):=zey (zbdm h) fun τ H Q hq0=>by
 obtain⟨ρ,σ,st,v,st',a,rp,e,q⟩:=hq0;obtain⟨x,st1,e1,e⟩:=za e;split at e
 ·rename_i hl;cases e;refine⟨ρ,σ,st,x,_,a,rp,e1,fun ρ1 H1 u x1 rp1 a1=>⟨by rw[a1.length];exact hl,fun p hp=>?_⟩⟩;exact q ρ1 _ _ (x1.trans (Ext.new hp _)) (rp1.new hp _) (.newT rp1 hp a1)
 ·cases e
theorem zbjm (h:DA X es g):DE X (.List es pos) (eLst g):=zey (zyk h) fun τ H Q hq0=>by
 obtain⟨ρ,σ,st,v,st',a,rp,e,q⟩:=hq0;obtain⟨x,st1,e1,e⟩:=za e;split at e
 ·rename_i hl;cases e;refine⟨ρ,σ,st,x,_,a,rp,e1,fun ρ1 H1 u x1 rp1 a1=>⟨by rw[a1.length];exact hl,fun p hp=>?_⟩⟩;exact q ρ1 _ _ (x1.trans (Ext.new hp _)) (rp1.new hp _) (.newL rp1 hp a1)
 ·cases e
theorem At.last {K:Fg}{ρ:Loc}{H:Hp}{p:Addr}{n:Nat}(h:n=ρ.m.length):At K ⟨ρ.m++[some p],ρ.g⟩ H (.ref n) (.ref p):=by
 subst h;refine .ref (by simp) fun a e=>?_
 simp at e;rw[e]
theorem zbfv (h:DA X es g):DE X (.List es pos) (eLstM g):=zey (zyk h) fun τ H Q hq0=>by
 obtain⟨ρ,σ,st,v,st',a,rp,e,q⟩:=hq0;obtain⟨x,st1,e1,e⟩:=za e;split at e
 ·rename_i hl;cases e;refine⟨ρ,σ,st,x,_,a,rp,e1,fun ρ1 H1 u x1 rp1 a1=>⟨by rw[a1.length];exact hl,fun p hp=>?_⟩⟩;obtain⟨E,R⟩:=rp1.alloc hp (x:=.lst x) (o:=.lst u) fun E=>⟨u,zk,a1.ext E⟩
  exact q _ _ _ (x1.trans E) R (.last rp1.len.symm)
 ·cases e
end
noncomputable def asL (st:Store):D->Option (List D)
 | .lst xs=>some xs
 | .ref n=>match st[n]? with
  | some (.lst xs)=>some xs
  | _=>none
 | _=>none
section
variable {K:Fg}{ρ:Loc}{st:Store}{H:Hp}{d:D}{u:V}{xs:List D}
theorem zco (rp:Rep K ρ st H){n:Nat}{o:O}(a:At K ρ H (.ref n) u)(e:st[n]?=some o)(hd:o≠.dead):∃p,u=.ref p/\ρ.m[n]?=some (some p)/\OAt K ρ H o p:=by
 cases a with
 | ref h1 h2 =>
  obtain⟨p,hp⟩:=rp.live n o e hd;exact⟨p,h2 p hp,hp,rp.obj n p o hp e⟩
theorem zen (rp:Rep K ρ st H)(a:At K ρ H d u)(e:asL st d=some xs):∃p vs,u=.ref p/\H p=some (.lst vs)/\AtAll K ρ H xs vs:=by
 cases d<;>try (cases e;done)
 ·rename_i n;unfold asL at e;dsimp only at e;split at e
  ·rename_i ys hys;cases e;obtain⟨p,rfl,hp,vs,q1,q2⟩:=zco rp a hys (by intro z;cases z);exact⟨p,vs,rfl,q1,q2⟩
  ·cases e
 ·cases e;cases a with
  | lst h1 h2 h3=>exact⟨_,_,rfl,h1,h3⟩
end
noncomputable def oI (C:Int->Int->Prop) [DecidableRel C] (h:Int->Int->D) (x y:D) (st:Store):Res D:=match x,y with
 | .int i,.int j=>if C i j then .ok (h i j) st else .stuck
 | _,_=>.stuck
theorem oI_D {K:Fg}{C:Int->Int->Prop}[DecidableRel C]{h:Int->Int->D}{g:Int->Int->V}(k:∀i j ρ H,At K ρ H (h i j) (g i j)):OpD K (oI C h) (rI C g):=fun ρ H st x y u v z st' Q rp a b e q=>by
 unfold oI at e;split at e
 ·cases a;cases b;split at e
  ·rename_i hc;cases e;exact⟨_,_,rfl,rfl,hc,q _ _ _ (.refl _ _) rp (k _ _ _ _)⟩
  ·cases e
 ·cases e
theorem zsm {K:Fg}{h:Int->Int->D}{g:Int->Int->V}(k:∀i j ρ H,At K ρ H (h i j) (g i j)):OpD K (oI (fun _ _=>True) h) (rI0 g):=fun ρ H st x y u v z st' Q rp a b e q=>by
 obtain⟨i,j,e1,e2,_,e3⟩:=oI_D (C:=fun _ _=>True) k ρ H st x y u v z st' Q rp a b e q;exact⟨i,j,e1,e2,e3⟩
noncomputable instance:DecidableRel CMul:=fun i j=>by unfold CMul;infer_instance
noncomputable instance:DecidableRel CDivP:=fun i j=>by unfold CDivP;infer_instance
noncomputable instance:DecidableRel CPow:=fun i j=>by unfold CPow;infer_instance
noncomputable abbrev oSub:=oI (fun _ _=>True) fun i j=>.int (i - j)
noncomputable abbrev oFdiv:=oI CDivP fun i j=>.int (i / j)
noncomputable abbrev oMod:=oI (fun _ j=>0 < j) fun i j=>.int (i % j)
noncomputable abbrev oAndI:=oI (fun _ _=>True) fun i j=>.int (Builtin.bitAnd i j)
noncomputable abbrev oPow:=oI CPow fun i j=>.int (i ^ j.toNat)
noncomputable abbrev oShl:=oI CPow fun i j=>.int (i * 2 ^ j.toNat)
noncomputable abbrev oMulI:=oI CMul fun i j=>.int (i * j)
noncomputable def aM (x y:D) (st:Store):Res D:=match x,y with
 | .int i,.int j=>.ok (.int (i+j)) st
 | .tup a,.tup b=>if a.length+b.length<=sizeLine then .ok (.tup (a++b)) st else .stuck
 | .str a,.str b=>if a.length+b.length<=sizeLine then .ok (.str (a++b)) st else .stuck
 | x,y=>match asL st x,asL st y with
  | some a,some b=>if a.length+b.length<=sizeLine then .ok (.lst (a++b)) st else .stuck
  | _,_=>.stuck
noncomputable abbrev rAddA (K:Fg):R2:=fun x y H Q=>rI0 (fun i j=>.int (i+j)) x y H Q\/rCatA K x y H Q\/(∃i j,x=.str i/\y=.str j/\i.length+j.length<=sizeLine/\Q (.str (i++j)) H)\/rCat x y H Q
section
variable {X:Cx}
theorem zyv:OpR X (binaryOp .Add) (rAddA X.K):=zbeb.or (zyt.or (zni.or zbea))
theorem zbef {K:Fg}:OpD K aM (rAddA K):=fun ρ H st x y u v z st' Q rp a b e q=>by
 unfold aM at e;split at e
 ·cases a;cases b;cases e;exact .inl ⟨_,_,rfl,rfl,q _ _ _ (.refl _ _) rp (.int _)⟩
 ·rename_i ds es;split at e
  ·rename_i hl;cases e;refine .inr (.inl ?_);cases a with
   | tup h1 h2 h3 =>
    cases b with
    | tup k1 k2 k3 =>
     refine⟨_,_,_,_,rfl,rfl,SqT.of h1,SqT.of k1,by rw[h3.length,k3.length];exact hl,fun z=>?_,fun z1 z2=>?_,fun z1 z2 p hp=>?_⟩
     ·subst z;cases h3;exact q _ _ _ (.refl _ _) rp (.tup k1 k2 k3)
     ·subst z2;cases k3;rw[xdz] at q;exact q _ _ _ (.refl _ _) rp (.tup h1 h2 h3)
     ·exact q _ _ _ (Ext.new hp _) (rp.new hp _) (.newT rp hp (h3.append k3))
  ·cases e
 ·split at e
  ·rename_i hl;cases a;cases b;cases e;exact .inr (.inr (.inl ⟨_,_,rfl,rfl,hl,q _ _ _ (.refl _ _) rp (.str _)⟩))
  ·cases e
 ·split at e
  ·rename_i h1 h2;split at e
   ·rename_i hl;cases e;obtain⟨p,vs,rfl,g1,g2⟩:=zen rp a h1;obtain⟨p',ws,rfl,k1,k2⟩:=zen rp b h2;exact .inr (.inr (.inr ⟨_,_,_,_,rfl,rfl,g1,k1,by rw[g2.length,k2.length];exact hl,fun t ht=>q _ _ _ (Ext.new ht _) (rp.new ht _) (.newL rp ht (g2.append k2))⟩))
   ·cases e
  ·cases e
end
noncomputable abbrev oLe:=oI (fun _ _=>True) fun i j=>.bl (decide (i<=j))
noncomputable abbrev oGt:=oI (fun _ _=>True) fun i j=>.bl (decide (j < i))
noncomputable abbrev oGe:=oI (fun _ _=>True) fun i j=>.bl (decide (j<=i))
mutual
noncomputable def toData:D->Option PyData
 | .non=>some .none
 | .bl b=>some (.bool b)
 | .int i=>some (.int i)
 | .str x=>some (.str x)
 | .tup ds=>(toDatas ds).map .tuple
 | .lst ds=>(toDatas ds).map .list
 | _=>none
noncomputable def toDatas:List D->Option (List PyData)
 | []=>some []
 | d::ds=>(toData d).bind fun x=>(toDatas ds).map fun xs=>x::xs
end
mutual
theorem zsv {K:Fg}{ρ:Loc}{H:Hp}:∀{d:D} {v:V} {p:PyData},At K ρ H d v->toData d=some p->DAt K H v p
 | _,_,_,.non,e=>by cases e;exact .non
 | _,_,_,.bl b,e=>by cases e;exact .bl b
 | _,_,_,.int i,e=>by cases e;exact .int i
 | _,_,_,.str x,e=>by cases e;exact .str x
 | _,_,_,.ty n,e=>by cases e
 | _,_,_,.exn _,e=>by cases e
 | _,_,_,.ref _ _,e=>by cases e
 | _,_,_,.tup h _ al,e=>by
  rw[toData] at e;obtain⟨ps,e1,rfl⟩:=xcq.mp e;exact .tup (SqT.of h) (zhl al e1)
 | _,_,_,.lst h _ al,e=>by
  rw[toData] at e;obtain⟨ps,e1,rfl⟩:=xcq.mp e;exact .lst (SqL.of h) (zhl al e1)
 | _,_,_,.scr _ _,e=>by cases e
theorem zhl {K:Fg}{ρ:Loc}{H:Hp}:∀{d:List D} {v:List V} {p:List PyData},AtAll K ρ H d v->toDatas d=some p->DAll K H v p
 | _,_,_,.nil,e=>by cases e;exact .nil
 | _,_,_,.cons a b,e=>by
  rw[toDatas] at e;obtain⟨x,e1,e⟩:=xen.mp e;obtain⟨xs,e2,rfl⟩:=xcq.mp e;exact .cons (zsv a e1) (zhl b e2)
end
noncomputable def now (st:Store) (d:D):D:=match asL st d with
 | some xs=>.lst xs
 | none=>d
noncomputable def dataOf (st:Store) (d:D):Option PyData:=toData (now st d)
theorem zkw {K:Fg}{ρ:Loc}{st:Store}{H:Hp}(rp:Rep K ρ st H){d:D}{u:V}{p:PyData}(a:At K ρ H d u)(e:dataOf st d=some p):DAt K H u p:=by
 unfold dataOf now at e;split at e
 ·rename_i xs hx;obtain⟨q,vs,rfl,h1,h2⟩:=zen rp a hx;rw[toData] at e;obtain⟨ps,e1,rfl⟩:=xcq.mp e;exact .lst (SqL.of h1) (zhl h2 e1)
 ·exact zsv a e
noncomputable def oEqG (neg:Bool) (x y:D) (st:Store):Res D:=match dataOf st x,dataOf st y with
 | some a,some b=>if PySem.SeqAt.shaped a=true/\PySem.SeqAt.shaped b=true then .ok (.bl (if neg then !PyData.eqv a b else PyData.eqv a b)) st else .stuck
 | _,_=>.stuck
theorem zwk {K:Fg}{neg:Bool}:OpD K (oEqG neg) (rEqX K neg):=fun ρ H st x y u v z st' Q rp a b e q=>by
 unfold oEqG at e;split at e
 ·rename_i p1 p2 h1 h2;split at e
  ·rename_i hs;cases e;exact⟨_,_,zkw rp a h1,zkw rp b h2,hs.1,hs.2,q _ _ _ (.refl _ _) rp (.bl _)⟩
  ·cases e
 ·cases e
noncomputable abbrev oEq:=oEqG false
noncomputable abbrev oNe:=oEqG true
noncomputable def asInts:List D->Option (List Int)
 | []=>some []
 | .int i::r=>(asInts r).map (i::·)
 | _::_=>none
theorem zbz {K:Fg}{ρ:Loc}{H:Hp}:∀{ds:List D} {vs:List V} {ns:List Int},AtAll K ρ H ds vs->asInts ds=some ns->vs=ns.map V.int
 | _,_,_,.nil,e=>by cases e;rfl
 | _,_,_,.cons (d:=d) a b,e=>by
  cases d<;>try (cases e;done)
  rw[asInts] at e;obtain⟨ms,e1,rfl⟩:=xcq.mp e;cases a;rw[zbz b e1]
  rfl
noncomputable def oLtT (x y:D) (st:Store):Res D:=match x,y with
 | .int i,.int j=>.ok (.bl (decide (i < j))) st
 | .tup a,.tup b=>match asInts a,asInts b with
  | some ns,some ms=>.ok (.bl (HT.lexLt ns ms)) st
  | _,_=>.stuck
 | _,_=>.stuck
noncomputable abbrev rLtA (K:Fg):R2:=fun x y H Q=>rI0 (fun i j=>.bl (decide (i < j))) x y H Q\/rLtT K x y H Q
theorem zqn {X:Cx}(hu:X.A.units < cLine):OpR X (compareOp .Lt) (rLtA X.K):=zbim.or (zbdz hu)
theorem zqt {K:Fg}:OpD K oLtT (rLtA K):=fun ρ H st x y u v z st' Q rp a b e q=>by
 unfold oLtT at e;split at e
 ·cases a;cases b;cases e
  exact .inl ⟨_,_,rfl,rfl,q _ _ _ (.refl _ _) rp (.bl _)⟩
 ·split at e
  ·rename_i h1 h2;cases e;cases a with
   | tup g1 g2 g3 =>
    cases b with
    | tup k1 k2 k3 =>
     have e1:=zbz g3 h1;have e2:=zbz k3 h2;subst e1 e2;exact .inr ⟨_,_,_,_,rfl,rfl,SqT.of g1,SqT.of k1,q _ _ _ (.refl _ _) rp (.bl _)⟩
  ·cases e
 ·cases e
noncomputable def seqOf (st:Store):D->Option (List D)
 | .tup xs=>some xs
 | .scr xs=>some xs
 | d=>asL st d
theorem zgv {K:Fg}{ρ:Loc}{st:Store}{H:Hp}(rp:Rep K ρ st H){d:D}{u:V}{xs:List D}(a:At K ρ H d u)(e:seqOf st d=some xs) :
  ∃p vs,u=.ref p/\(SqL K H p vs\/SqT K H p vs)/\AtAll K ρ H xs vs:=by
 unfold seqOf at e;split at e
 ·cases e;cases a with
  | tup h1 h2 h3=>exact⟨_,_,rfl,.inr (SqT.of h1),h3⟩
 ·cases e;cases a with
  | scr h1 h3=>exact⟨_,_,rfl,.inl h1.sq,h3⟩
 ·obtain⟨p,vs,rfl,h1,h2⟩:=zen rp a e;exact⟨p,vs,rfl,.inl (SqL.of h1),h2⟩
theorem AtAll.atI {K:Fg}{ρ:Loc}{H:Hp}{ds:List D}{vs:List V}{i:Int}{d:D}(h:AtAll K ρ H ds vs)(e:L2.atI ds i=some d):∃v,L2.atI vs i=some v/\At K ρ H d v:=by
 unfold L2.atI at e ⊢;rw[h.length];cases hi:ixN ds.length i with
 | none=>rw[hi] at e;cases e
 | some j =>
  rw[hi] at e;obtain⟨v,e1,e2⟩:=h.get (i:=j) e;exact⟨v,e1,e2⟩
noncomputable def oIx (x y:D) (st:Store):Res D:=match seqOf st x,y with
 | some xs,.int i=>match L2.atI xs i with
  | some v=>.ok v st
  | none=>.stuck
 | _,_=>.stuck
theorem zbir {K:Fg}:OpD K oIx (rIx K):=fun ρ H st x y u v z st' Q rp a b e q=>by
 unfold oIx at e;split at e
 ·rename_i h1;split at e
  ·rename_i w hw;cases e;cases b;obtain⟨p,vs,rfl,h2,h3⟩:=zgv rp a h1;obtain⟨w',e2,a2⟩:=h3.atI hw;rcases h2 with h2 | h2
   ·exact .inl ⟨_,_,_,_,rfl,rfl,h2,e2,q _ _ _ (.refl _ _) rp a2⟩
   ·exact .inr (.inl ⟨_,_,_,_,rfl,rfl,h2,e2,q _ _ _ (.refl _ _) rp a2⟩)
  ·cases e
 ·cases e
noncomputable def cutD (xs:List D) (lo hi:Option Int):List D:=(xs.drop (HT.sIx xs.length 0 lo)).take (HT.sIx xs.length xs.length hi - HT.sIx xs.length 0 lo)
theorem AtAll.cut {K:Fg}{ρ:Loc}{H:Hp}{ds:List D}{vs:List V}(h:AtAll K ρ H ds vs)(lo hi:Option Int):AtAll K ρ H (cutD ds lo hi) (cutV vs lo hi):=by
 unfold cutD cutV;rw[h.length];exact(h.drop _).take _
noncomputable def pNone:DS->Store->Res (Option Int):=fun _ st=>.ok none st
noncomputable def pSome (f:SE):DS->Store->Res (Option Int):=fun σ st=>(f σ st).bind fun v st1=>match v with
 | .int i=>.ok (some i) st1
 | _=>.stuck
noncomputable def eSl (f:SE) (lo hi:DS->Store->Res (Option Int)):SE:=fun σ st=>(f σ st).bind fun x st1=>(lo σ st1).bind fun l st2=>(hi σ st2).bind fun h st3=>match x with
 | .tup xs=>.ok (.tup (cutD xs l h)) st3
 | x=>match asL st3 x with
  | some xs=>.ok (.lst (cutD xs l h)) st3
  | none=>.stuck
noncomputable def tDO (K:Fg) (f:DS->Store->Res (Option Int)):TO:=fun τ H Q=>∃ρ σ st v st',AtS K ρ H σ τ/\Rep K ρ st H/\f σ st=.ok v st'/\∀ρ' H',Ext ρ H ρ' H'->Rep K ρ' st' H'->Q v H'
noncomputable abbrev DO (X:Cx) (e:Option Expr) (f:DS->Store->Res (Option Int)):Prop:=PO X e (tDO X.K f)
section
variable {X:Cx}{a b e:Expr}{f f':SE}{pos:Pos}{lo hi:Option Expr}{l h:DS->Store->Res (Option Int)}
theorem zbhg {t t':TO}{e:Option Expr}(h:PO X e t)(k:∀σ H Q,t' σ H Q->t σ H Q):PO X e t':=fun aU s σ H Q I q=>h aU s σ H Q I (k _ _ _ q)
theorem zbal:DO X none pNone:=zbhg zya fun τ H Q hq0=>by
 obtain⟨ρ,σ,st,v,st',a,rp,e,q⟩:=hq0;cases e;exact q _ _ (.refl _ _) rp
theorem zbak (he:DE X e f):DO X (some e) (pSome f):=zbhg (zxz he) fun τ H Q hq0=>by
 obtain⟨ρ,σ,st,v,st',a,rp,e,q⟩:=hq0;obtain⟨x,st1,e1,e⟩:=za e;refine⟨ρ,σ,st,x,st1,a,rp,e1,fun ρ1 H1 u x1 rp1 a1=>?_⟩;cases x<;>try (cases e;done)
 cases e;cases a1;exact⟨_,rfl,q _ _ x1 rp1⟩
theorem d_ix (ha:DE X a f)(hb:DE X b f')(hs:PlainIx b):DE X (.Subscript a b pos) (aS oIx f f'):=zey (zbij zbes ha hb hs) (zbdv zbir)
theorem d_sl {p2:Pos}(he:DE X e f)(hl:DO X lo l)(hu:DO X hi h):DE X (.Subscript e (.Slice lo hi none p2) pos) (eSl f l h):=zey (zua (zxl.or zxm) he hl hu) fun τ H Q hq0=>by
 obtain⟨ρ,σ,st,v,st',a,rp,e,q⟩:=hq0;obtain⟨x,st1,e1,e⟩:=za e;obtain⟨y,st2,e2,e⟩:=za e;obtain⟨z,st3,e3,e⟩:=za e;refine⟨ρ,σ,st,x,st1,a,rp,e1,fun ρ1 H1 u x1 rp1 a1=>?_⟩;refine⟨ρ1,σ,st1,y,st2,a.ext x1,rp1,e2,fun ρ2 H2 x2 rp2=>?_⟩;refine⟨ρ2,σ,st2,z,st3,a.ext (x1.trans x2),rp2,e3,fun ρ3 H3 x3 rp3=>?_⟩;have a3:=a1.ext (x2.trans x3);have X3:=x1.trans (x2.trans x3);split at e
 ·cases e;refine .inl ?_;cases a3 with
  | tup h1 h2 h3 =>
   refine⟨_,_,rfl,SqT.of h1,fun ec=>?_,fun p hp=>?_⟩
   ·refine q _ _ _ X3 rp3 (.tup h1 h2 ?_);have:=h3.cut y z;rw[ec] at this;exact this
   ·exact q _ _ _ (X3.trans (Ext.new hp _)) (rp3.new hp _) (.newT rp3 hp (h3.cut y z))
 ·split at e
  ·rename_i xs hx;cases e;obtain⟨p,vs,rfl,g1,g2⟩:=zen rp3 a3 hx;exact .inr ⟨_,_,rfl,SqL.of g1,fun p hp=>q _ _ _ (X3.trans (Ext.new hp _)) (rp3.new hp _) (.newL rp3 hp (g2.cut y z))⟩
  ·cases e
end
end Dd
namespace Dd
open PySem L2
noncomputable def aE (g:List D->Store->Res D) (f:SA):SE:=fun σ st=>(f σ st).bind fun xs st1=>g xs st1
noncomputable def CaD (K:Fg) (g:List D->Store->Res D) (r:List V->Hp->VK->Prop):Prop :=
 ∀ρ H st xs us z st' (Q:VK),Rep K ρ st H->AtAll K ρ H xs us->g xs st=.ok z st'->(∀ρ' H' w,Ext ρ H ρ' H'->Rep K ρ' st' H'->At K ρ' H' z w->Q w H')->r us H Q
theorem zbhv {K:Fg}{g:List D->Store->Res D}{r:List V->Hp->VK->Prop}(hr:CaD K g r){f:SA}:∀τ H Q,tD K (aE g f) τ H Q->tCB r (tDA K f) τ H Q:=fun τ H Q hq0=>by
 obtain⟨ρ,σ,st,v,st',a,rp,e,q⟩:=hq0;obtain⟨x,st1,e1,e⟩:=za e;exact⟨ρ,σ,st,x,st1,a,rp,e1,fun ρ1 H1 u x1 rp1 a1=>hr ρ1 H1 st1 x u v st' Q rp1 a1 e fun ρ' H' w x2=>q ρ' H' w (x1.trans x2)⟩
section
variable {X:Cx}{x:Str}{p pos:Pos}{e:Expr}{es:List Expr}{f:SA}{id T:String}{r:List V->Hp->VK->Prop}{g:List D->Store->Res D}
theorem zbbe (hc:CallR X (.builtin id) r)(hr:CaD X.K g r)(hg:Gl X x)(hm:X.mg x=none)(hv:bootBuiltins x=some (.builtin id))(ha:DA X (e::es) f)(hn:x≠"__name__":=by decide)(hdb:(x==("__debug__" : Str))=false:=by decide)
 (he:starEach (e::es) X.env=(false,eval e X.env)::starEach es X.env:=by rfl)(hpl:(backTo pos (starEach es X.env)).any (·.1)=false:=by rfl):DE X (.Call (.Name x p) (e::es) [] pos) (aE g f):=zey (zuf hc hg hm hv ha hn hdb he hpl) (zbhv hr)
theorem zvs (hc:CallR X (.type T) r)(hr:CaD X.K g r)(hg:Gl X x)(hm:X.mg x=none)(hv:bootBuiltins x=some (.type T))(ha:DA X (e::es) f)(hn:x≠"__name__":=by decide)(hdb:(x==("__debug__" : Str))=false:=by decide)
 (he:starEach (e::es) X.env=(false,eval e X.env)::starEach es X.env:=by rfl)(hpl:(backTo pos (starEach es X.env)).any (·.1)=false:=by rfl):DE X (.Call (.Name x p) (e::es) [] pos) (aE g f):=zey (zql hc hg hm hv ha hn hdb he hpl) (zbhv hr)
end
theorem AtAll.one {K:Fg}{ρ:Loc}{H:Hp}{d:D}{us:List V}(h:AtAll K ρ H [d] us):∃u,us=[u]/\At K ρ H d u:=by
 cases h with
 | cons a b=>cases b;exact⟨_,rfl,a⟩
theorem AtAll.two {K:Fg}{ρ:Loc}{H:Hp}{d e:D}{us:List V}(h:AtAll K ρ H [d,e] us):∃u v,us=[u,v]/\At K ρ H d u/\At K ρ H e v:=by
 cases h with
 | cons a b =>
  obtain⟨v,rfl,c⟩:=b.one;exact⟨_,_,rfl,a,c⟩
noncomputable def bLen:List D->Store->Res D:=fun xs st=>match xs with
 | [x]=>match seqOf st x with
  | some ys=>.ok (.int ys.length) st
  | none=>.stuck
 | _=>.stuck
theorem zpb {K:Fg}:CaD K bLen (fun xs H Q=>∃p ys,xs=[.ref p]/\(SqL K H p ys\/SqT K H p ys)/\Q (.int ys.length) H):=fun ρ H st xs us z st' Q rp aa e q=>by
 unfold bLen at e;split at e
 ·split at e
  ·rename_i h;cases e;obtain⟨u,rfl,a⟩:=aa.one;obtain⟨p,vs,rfl,h1,h2⟩:=zgv rp a h;refine⟨p,vs,rfl,h1,?_⟩;rw[h2.length];exact q _ _ _ (.refl _ _) rp (.int _)
  ·cases e
 ·cases e
noncomputable def bAbs:List D->Store->Res D:=fun xs st=>match xs with
 | [.int i]=>.ok (.int (if i < 0 then -i else i)) st
 | _=>.stuck
theorem zbgt {K:Fg}:CaD K bAbs (fun xs H Q=>∃i,xs=[.int i]/\Q (.int (if i < 0 then -i else i)) H):=fun ρ H st xs us z st' Q rp aa e q=>by
 unfold bAbs at e;split at e
 ·cases e;obtain⟨u,rfl,a⟩:=aa.one;cases a;exact⟨_,rfl,q _ _ _ (.refl _ _) rp (.int _)⟩
 ·cases e
noncomputable def b2I (g:Int->Int->Int):List D->Store->Res D:=fun xs st=>match xs with
 | [.int i,.int j]=>.ok (.int (g i j)) st
 | _=>.stuck
theorem zbgu {K:Fg}{g:Int->Int->Int}:CaD K (b2I g) (fun xs H Q=>∃i j,xs=[.int i,.int j]/\Q (.int (g i j)) H):=fun ρ H st xs us z st' Q rp aa e q=>by
 unfold b2I at e;split at e
 ·cases e;obtain⟨u,v,rfl,a,b⟩:=aa.two;cases a;cases b;exact⟨_,_,rfl,q _ _ _ (.refl _ _) rp (.int _)⟩
 ·cases e
noncomputable abbrev bMin2:=b2I fun i j=>if j < i then j else i
noncomputable def bSum:List D->Store->Res D:=fun xs st=>match xs with
 | [x]=>match (seqOf st x).bind asInts with
  | some ns=>.ok (.int ns.sum) st
  | none=>.stuck
 | _=>.stuck
theorem zbbu {K:Fg}:CaD K bSum (rSum K):=fun ρ H st xs us z st' Q rp aa e q=>by
 unfold bSum at e;split at e
 ·split at e
  ·rename_i ns h;cases e;obtain⟨ys,h0,h⟩:=xen.mp h;obtain⟨u,rfl,a⟩:=aa.one;obtain⟨p,vs,rfl,h1,h2⟩:=zgv rp a h0;have e:=zbz h2 h;subst e;exact⟨p,ns,rfl,h1,q _ _ _ (.refl _ _) rp (.int _)⟩
  ·cases e
 ·cases e
noncomputable def asBools:List D->Option (List Bool)
 | []=>some []
 | .bl i::r=>(asBools r).map (i::·)
 | _::_=>none
theorem zil {K:Fg}{ρ:Loc}{H:Hp}:∀{ds:List D} {vs:List V} {ns:List Bool},AtAll K ρ H ds vs->asBools ds=some ns->vs=ns.map V.bl
 | _,_,_,.nil,e=>by cases e;rfl
 | _,_,_,.cons (d:=d) a b,e=>by
  cases d<;>try (cases e;done)
  rw[asBools] at e;obtain⟨ms,e1,rfl⟩:=xcq.mp e;cases a;rw[zil b e1]
  rfl
noncomputable def bAny (al:Bool):List D->Store->Res D:=fun xs st=>match xs with
 | [x]=>match (asL st x).bind asBools with
  | some bs=>.ok (.bl (if al then bs.all id else bs.any id)) st
  | none=>.stuck
 | _=>.stuck
theorem zbgr {K:Fg}{al:Bool}:CaD K (bAny al) (rAny K al):=fun ρ H st xs us z st' Q rp aa e q=>by
 unfold bAny at e;split at e
 ·split at e
  ·rename_i ns h;cases e;obtain⟨ys,h0,h⟩:=xen.mp h;obtain⟨u,rfl,a⟩:=aa.one;obtain⟨p,vs,rfl,h1,h2⟩:=zen rp a h0;have e:=zil h2 h;subst e;exact⟨p,ns,rfl,SqL.of h1,q _ _ _ (.refl _ _) rp (.bl _)⟩
  ·cases e
 ·cases e
noncomputable def tyName (st:Store):D->Option String
 | .non=>some "NoneType"
 | .bl _=>some "bool"
 | .int _=>some "int"
 | .str _=>some "str"
 | .tup _=>some "tuple"
 | .lst _=>some "list"
 | .ref n=>match st[n]? with
  | some (.lst _)=>some "list"
  | some (.dT _)=>some "dict"
  | _=>none
 | _=>none
noncomputable def isTy (t T:String):Bool:=t==T||(t=="bool"&&T=="int")
noncomputable def bIsinst:List D->Store->Res D:=fun xs st=>match xs with
 | [x,.ty T]=>match tyName st x with
  | some t=>if["int", "bool", "str", "tuple", "list", "dict"].contains T=true then .ok (.bl (isTy t T)) st else .stuck
  | none=>.stuck
 | _=>.stuck
theorem zpq {K:Fg}{ρ:Loc}{st:Store}{H:Hp}(rp:Rep K ρ st H){d:D}{u:V}{t:String}(a:At K ρ H d u)(e:tyName st d=some t):TyOf K H u (.type t)/\t∈["NoneType", "bool", "int", "str", "tuple", "list", "dict"]:=by
 cases d<;>try (cases e;done)
 ·cases e;cases a;exact⟨.non,by simp⟩
 ·cases e;cases a;exact⟨.bl _,by simp⟩
 ·cases e;cases a;exact⟨.int _,by simp⟩
 ·cases e;cases a;exact⟨.str _,by simp⟩
 ·unfold tyName at e;dsimp only at e;split at e
  ·rename_i h;cases e;obtain⟨p,rfl,hp,vs,q1,q2⟩:=zco rp a h (by intro z;cases z);exact⟨.lst q1,by simp⟩
  ·rename_i h;cases e;obtain⟨p,rfl,hp,vs,q1,q2⟩:=zco rp a h (by intro z;cases z);exact⟨.dT q1,by simp⟩
  ·cases e
 ·cases e;cases a with
  | tup h1 h2 h3=>exact⟨.tup h1,by simp⟩
 ·cases e;cases a with
  | lst h1 h2 h3=>exact⟨.lst h1,by simp⟩
theorem zbel {K:Fg}{t T:String}(ht:t∈["NoneType", "bool", "int", "str", "tuple", "list", "dict"])(hT:T∈["int", "bool", "str", "tuple", "list", "dict"]):W.kitOne K (.type t) (.type T)=some (isTy t T):=by
 simp only[xcc,List.not_mem_nil,or_false] at ht hT;rcases ht with rfl | rfl | rfl | rfl | rfl | rfl | rfl<;>rcases hT with rfl | rfl | rfl | rfl | rfl | rfl<;>rfl
theorem zfc {K:Fg}:CaD K bIsinst (fun xs H Q=>∃x T t b,xs=[x,.ty T]/\TyOf K H x t/\W.kitOne K t (.type T)=some b/\Q (.bl b) H):=fun ρ H st xs us z st' Q rp aa e q=>by
 unfold bIsinst at e;split at e
 ·split at e
  ·rename_i h;split at e
   ·rename_i hT;cases e;obtain⟨u,v,rfl,a,b⟩:=aa.two;cases b;obtain⟨h1,h2⟩:=zpq rp a h;exact⟨_,_,_,_,rfl,h1,zbel h2 (by simpa using hT),q _ _ _ (.refl _ _) rp (.bl _)⟩
   ·cases e
  ·cases e
 ·cases e
noncomputable def bTuple:List D->Store->Res D:=fun xs st=>match xs with
 | [.tup ys]=>.ok (.tup ys) st
 | [x]=>match asL st x with
  | some ys=>.ok (.tup ys) st
  | none=>.stuck
 | _=>.stuck
theorem zhq {K:Fg}:CaD K bTuple (fun xs H Q=>∃p ys,xs=[.ref p]/\((SqL K H p ys/\∀l,H l=none->Q (.ref l) (upd H l (.tup ys)))\/(SqT K H p ys/\Q (.ref p) H))):=fun ρ H st xs us z st' Q rp aa e q=>by
 unfold bTuple at e;split at e
 ·cases e;obtain⟨u,rfl,a⟩:=aa.one;cases a with
  | tup h1 h2 h3=>exact⟨_,_,rfl,.inr ⟨SqT.of h1,q _ _ _ (.refl _ _) rp (.tup h1 h2 h3)⟩⟩
 ·split at e
  ·rename_i h;cases e;obtain⟨u,rfl,a⟩:=aa.one;obtain⟨p,vs,rfl,h1,h2⟩:=zen rp a h;exact⟨_,_,rfl,.inl ⟨SqL.of h1,fun l hl=>q _ _ _ (Ext.new hl _) (rp.new hl _) (.newT rp hl h2)⟩⟩
  ·cases e
 ·cases e
noncomputable def bList:List D->Store->Res D:=fun xs st=>match xs with
 | [x]=>match seqOf st x with
  | some ys=>.ok (.lst ys) st
  | none=>.stuck
 | _=>.stuck
noncomputable abbrev aL (ns:List Int):D:=.tup (ns.map .int)
noncomputable abbrev aJ (l:List (List Int)):List D:=l.map aL
noncomputable def insR (a:List Int):List (List Int)->List (List Int)
 | []=>[a]
 | b::r=>if HT.lexLt b a=true then b::insR a r else a::b::r
noncomputable def sortR:List (List Int)->List (List Int)
 | []=>[]
 | a::r=>insR a (sortR r)
noncomputable abbrev UpR (l:List (List Int)):Prop:=l.Pairwise fun a b=>HT.lexLt b a=false
theorem zhf (a:List Int):∀l,(insR a l).Perm (a::l)
 | []=>.refl _
 | b::r=>by
  unfold insR;split
  ·exact(List.Perm.cons b (zhf a r)).trans (.swap a b r)
  ·exact .refl _
theorem zci:∀l,(sortR l).Perm l
 | []=>.refl _
 | a::r=>(zhf a _).trans (.cons a (zci r))
theorem zji {a b c:List Int}(h1:HT.lexLt b a=false)(h2:HT.lexLt c b=false):HT.lexLt c a=false:=by
 cases h:HT.lexLt c a with
 | false=>rfl
 | true =>
  rcases Srt.zia a b with z | z | z
  ·have:=Srt.zez h z;rw[h2] at this;cases this
  ·subst z;rw[h2] at h;cases h
  ·rw[h1] at z;cases z
theorem zsq (a:List Int):∀l,UpR l->UpR (insR a l)
 | [],_=>xiw _ _
 | b::r,h=>by
  obtain⟨h1,h2⟩:=xhd.mp h;unfold insR;split
  ·rename_i c;refine xhd.mpr ⟨fun x hx=>?_,zsq a r h2⟩;rcases xcc.mp ((zhf a r).mem_iff.mp hx) with rfl | hx
   ·exact Srt.zqy c
   ·exact h1 x hx
  ·rename_i c;have c':HT.lexLt b a=false:=by simpa using c
   refine xhd.mpr ⟨fun x hx=>?_,h⟩;rcases xcc.mp hx with rfl | hx
   ·exact c'
   ·exact zji c' (h1 x hx)
theorem zgu:∀l,UpR (sortR l)
 | []=>.nil
 | a::r=>zsq a _ (zgu r)
theorem zkc:∀{l m:List (List Int)},l.Perm m->UpR l->UpR m->l=m
 | [],m,p,_,_=>by rw[List.nil_perm.mp p]
 | a::l,[],p,_,_=>by cases List.perm_nil.mp p
 | a::l,b::m,p,h1,h2=>by
  obtain⟨p1,p2⟩:=xhd.mp h1;obtain⟨q1,q2⟩:=xhd.mp h2;have e:a=b:=by
   rcases xcc.mp (p.mem_iff.mp xbp) with z | z
   ·exact z
   ·rcases xcc.mp (p.mem_iff.mpr (xbp (a:=b) (l:=m))) with y | y
    ·exact y.symm
    ·have e1:=q1 a z;have e2:=p1 b y;rcases Srt.zia a b with w | w | w
     ·rw[e1] at w;cases w
     ·exact w
     ·rw[e2] at w;cases w
  subst e;rw[zkc (List.Perm.cons_inv p) p2 q2]
theorem zit {l m:List (List Int)}(p:m.Perm l)(h:UpR m):m=sortR l:=zkc (p.trans (zci l).symm) h (zgu l)
theorem ziu (l:List (List Int)):(sortR l).length=l.length:=(zci l).length_eq
noncomputable def asRows:List D->Option (List (List Int))
 | []=>some []
 | .tup ds::r=>(asInts ds).bind fun ns=>(asRows r).map (ns::·)
 | _::_=>none
theorem zlj {K:Fg}{ρ:Loc}{H:Hp}:∀{ds:List D} {vs:List V} {l:List (List Int)},AtAll K ρ H ds vs->asRows ds=some l ->
  ∃ps:List (Addr×List Int),vs=ps.map (fun p=>V.ref p.1)/\ps.map (·.2)=l/\∀p∈ps,H p.1=some (.tup (p.2.map V.int))/\Out ρ p.1
 | _,_,_,.nil,e=>by cases e;exact⟨[],rfl,rfl,fun _ h=>nomatch h⟩
 | _,_,_,.cons (d:=d) a b,e=>by
  cases d<;>try (cases e;done)
  rw[asRows] at e;obtain⟨ns,e1,e⟩:=xen.mp e;obtain⟨l,e2,rfl⟩:=xcq.mp e;obtain⟨ps,h1,h2,h3⟩:=zlj b e2;cases a with
  | tup g1 g2 g3 =>
   rename_i ad ws;have ew:=zbz g3 e1;subst ew;refine⟨(ad,ns)::ps,by rw[h1];rfl,by rw[← h2];rfl,fun p hp=>?_⟩;rcases xcc.mp hp with rfl | hp
   ·exact⟨g1,g2⟩
   ·exact h3 p hp
theorem zhe {K:Fg}{ρ:Loc}{H:Hp}:∀ns:List Int,AtAll K ρ H (ns.map .int) (ns.map V.int)
 | []=>.nil
 | n::ns=>.cons (.int n) (zhe ns)
theorem zix {K:Fg}{ρ:Loc}{H:Hp}:∀ps:List (Addr×List Int),(∀p∈ps,H p.1=some (.tup (p.2.map V.int))/\Out ρ p.1)->AtAll K ρ H (aJ (ps.map (·.2))) (ps.map fun p=>V.ref p.1)
 | [],_=>.nil
 | p::ps,h=>.cons (.tup (h p xbp).1 (h p xbp).2 (zhe _)) (zix ps fun q hq=>h q (xbl _ hq))
theorem zkj {K:Fg}{ρ:Loc}{st:Store}{H:Hp}(r:Rep K ρ st H){p:Addr}{vs:List V}(hp:H p=some (.tup vs)):Out ρ p:=by
 refine⟨fun z=>?_,fun z=>?_⟩
 ·obtain⟨i,hi,e⟩:=xeg z;obtain⟨x,_,q⟩:=r.has (n:=i) (a:=p) (by rw[xbf hi,e]);cases x with
  | lst xs=>obtain⟨_,e,_⟩:=q;rw[hp] at e;cases e
  | dT kvs=>obtain⟨_,e,_⟩:=q;rw[hp] at e;cases e
  | fT kvs=>obtain⟨_,_,e,_⟩:=q;rw[hp] at e;cases e
  | dI kvs=>obtain⟨_,e,_⟩:=q;rw[hp] at e;cases e
  | dP ks=>obtain⟨_,e,_⟩:=q;rw[hp] at e;cases e
  | dead=>exact q
  | tab=>obtain⟨_,_,e,_⟩:=q;rw[hp] at e;cases e
 ·obtain⟨⟨u,hu⟩,_⟩:=r.gh p z;rw[hp] at hu;cases hu
noncomputable def valD (kvs:List (List Int×D)) (k:List Int):Option D:=(kvs.find? fun kv=>decide (kv.1=k)).map (·.2)
noncomputable def putD (kvs:List (List Int×D)) (k:List Int) (v:D):List (List Int×D) :=
 if(kvs.any fun kv=>decide (kv.1=k))=true then kvs.map (fun kv=>if kv.1=k then(kv.1,v) else kv) else kvs++[(k,v)]
noncomputable def dropD (kvs:List (List Int×D)) (k:List Int):List (List Int×D):=kvs.filter fun kv=>decide (kv.1≠k)
theorem zie {a b:List Int}:a.map (Sum.inl:Int->Key)=b.map Sum.inl↔a=b:=by
 constructor
 ·intro h;exact(List.map_inj_right (f:=(Sum.inl:Int->Key)) fun x y e=>Sum.inl.inj e).mp h
 ·rintro rfl;rfl
section
variable {K:Fg}{ρ:Loc}{H:Hp}{kvs:List (List Int×D)}{vs:List (List Key×V)}
theorem KvAt.val (h:KvAt K ρ H kvs vs)(k:List Int):match valD kvs k with
  | some d=>∃v,valV vs (k.map Sum.inl)=some v/\At K ρ H d v
  | none=>valV vs (k.map Sum.inl)=none:=by
 induction h with
 | nil=>rfl
 | @cons p q ps qs h t ih =>
  obtain⟨h1,h2⟩:=h;by_cases e:p.1=k
  ·have e1:valD (p::ps) k=some p.2:=by simp[valD,xev,e]
   rw[e1];exact⟨q.2,zgq (by rw[h1,e]),h2⟩
  ·have e1:valD (p::ps) k=valD ps k:=by simp[valD,xev,e]
   have e2:valV (q::qs) (k.map Sum.inl)=valV qs (k.map Sum.inl):=zgr (by rw[h1,zie];exact e);rw[e1,e2];exact ih
theorem KvAt.keys (h:KvAt K ρ H kvs vs):vs.map (·.1)=(kvs.map (·.1)).map fun ns=>ns.map Sum.inl:=by
 induction h with
 | nil=>rfl
 | @cons p q ps qs h t ih=>rw[xbh,xbh,xbh,ih,h.1]
theorem KvAt.put (h:KvAt K ρ H kvs vs)(k:List Int){d:D}{v:V}(a:At K ρ H d v):KvAt K ρ H (putD kvs k d) (putK vs (k.map Sum.inl) v):=by
 have any:∀{kvs:List (List Int×D)} {vs:List (List Key×V)},KvAt K ρ H kvs vs->(kvs.any fun kv=>decide (kv.1=k))=(vs.any fun kv=>decide (kv.1=k.map Sum.inl)):=fun h=>by
  induction h with
  | nil=>rfl
  | @cons p q ps qs h t ih =>
   rw[xji,xji,ih,h.1]
   congr 1
   simp only[zie]
 unfold putD putK;rw[any h];split
 ·rename_i hh;clear hh any
  induction h with
  | nil=>exact .nil
  | @cons p q ps qs h t ih =>
   refine .cons ?_ ih;obtain⟨h1,h2⟩:=h;dsimp only;by_cases e:p.1=k
   ·rw[if_pos e,if_pos (by rw[h1,e])];exact⟨h1,a⟩
   ·rw[if_neg e,if_neg (by rw[h1,zie];exact e)];exact⟨h1,h2⟩
 ·have app:∀{kvs:List (List Int×D)} {vs:List (List Key×V)},KvAt K ρ H kvs vs->KvAt K ρ H (kvs++[(k,d)]) (vs++[(k.map Sum.inl,v)]):=fun h=>by
   induction h with
   | nil=>exact .cons ⟨rfl,a⟩ .nil
   | cons h t ih=>exact .cons h ih
  exact app h
theorem KvAt.drop (h:KvAt K ρ H kvs vs)(k:List Int):KvAt K ρ H (dropD kvs k) (dropK vs (k.map Sum.inl)):=by
 unfold dropD dropK
 induction h with
 | nil=>exact .nil
 | @cons p q ps qs h t ih =>
  by_cases e:p.1=k
  ·rw[xco (by simp[e]),xco (by simp[h.1,e])];exact ih
  ·rw[xcp (by simp[e]),xcp (by simp[h.1,zie,e])];exact .cons h ih
theorem KvAt.length (h:KvAt K ρ H kvs vs):kvs.length=vs.length:=xey h
end
noncomputable def pairsOf (st:Store):D->Option (List (List Int×D))
 | .ref n=>match st[n]? with
  | some (.dT kvs)=>some kvs
  | some (.fT kvs)=>some kvs
  | _=>none
 | _=>none
theorem zjb {K:Fg}{ρ:Loc}{st:Store}{H:Hp}(rp:Rep K ρ st H){d:D}{u:V}{kvs:List (List Int×D)}(a:At K ρ H d u)(e:pairsOf st d=some kvs):∃p vs,u=.ref p/\Rd H p (.dT vs)/\KvAt K ρ H kvs vs:=by
 unfold pairsOf at e;split at e
 ·split at e
  ·rename_i h;cases e;obtain⟨p,rfl,hp,vs,q1,q2⟩:=zco rp a h (by intro z;cases z);exact⟨p,vs,rfl,.inl q1,q2⟩
  ·rename_i h;cases e;obtain⟨p,rfl,hp,vs,ob,q1,q2⟩:=zco rp a h (by intro z;cases z);exact⟨p,vs,rfl,.inr ⟨ob,q1⟩,q2⟩
  ·cases e
 ·cases e
noncomputable def keyOf:D->Option (List Int)
 | .tup ds=>asInts ds
 | _=>none
theorem zut {K:Fg}{ρ:Loc}{H:Hp}{d:D}{u:V}{k:List Int}(a:At K ρ H d u)(e:keyOf d=some k):∃p,u=.ref p/\H p=some (.tup ((k.map (Sum.inl:Int->Key)).map kV)):=by
 unfold keyOf at e;split at e
 ·cases a with
  | tup h1 h2 h3 =>
   have:=zbz h3 e;subst this;exact⟨_,rfl,by rw[zob];exact h1⟩
 ·cases e
theorem zoo {K:Fg}{ρ:Loc}{st:Store}{H:Hp}(rp:Rep K ρ st H){d y:D}{u w:V}{kvs:List (List Int×D)}{k:List Int}(a:At K ρ H d u)(b:At K ρ H y w)(e:pairsOf st d=some kvs)(e2:keyOf y=some k) :
  ∃p o,u=.ref p/\DGet H p w o/\match valD kvs k with
   | some z=>∃v,o=some v/\At K ρ H z v
   | none=>o=none:=by
 obtain⟨p,vs,rfl,h1,h2⟩:=zjb rp a e;obtain⟨q,rfl,h3⟩:=zut b e2;refine⟨p,valV vs (k.map Sum.inl),rfl,.inr ⟨vs,_,q,h1,rfl,h3,rfl⟩,?_⟩;have:=h2.val k;cases hv:valD kvs k with
 | none=>rw[hv] at this;exact this
 | some z=>rw[hv] at this;exact this
noncomputable def oDIn (neg:Bool) (y x:D) (st:Store):Res D:=match keyOf y,pairsOf st x with
 | some k,some kvs=>.ok (.bl (if neg then !(valD kvs k).isSome else(valD kvs k).isSome)) st
 | _,_=>.stuck
noncomputable def oDGet (x y:D) (st:Store):Res D:=match pairsOf st x,keyOf y with
 | some kvs,some k=>match valD kvs k with
  | some v=>.ok v st
  | none=>.stuck
 | _,_=>.stuck
noncomputable def eDGet2 (f g h:SE):SE:=fun σ st=>(f σ st).bind fun x st1=>match pairsOf st1 x with
 | some _=>(g σ st1).bind fun y st2=>(h σ st2).bind fun z st3=>match pairsOf st3 x,keyOf y with
  | some kvs,some k=>.ok ((valD kvs k).getD z) st3
  | _,_=>.stuck
 | none=>.stuck
noncomputable def eDPop (f g:SE):SE:=fun σ st=>(f σ st).bind fun x st1=>match pairsOf st1 x with
 | some _=>(g σ st1).bind fun y st2=>match x,keyOf y with
  | .ref n,some k=>match st2[n]? with
   | some (.dT kvs)=>match valD kvs k with
    | some v=>.ok v (st2.set n (.dT (dropD kvs k)))
    | none=>.stuck
   | _=>.stuck
  | _,_=>.stuck
 | none=>.stuck
noncomputable def sDPut (f g h:SE):SS:=fun σ st=>(h σ st).bind fun v st1=>(f σ st1).bind fun x st2=>(g σ st2).bind fun y st3=>match x,keyOf y with
 | .ref n,some k=>match st3[n]? with
  | some (.dT kvs)=>if kvs.length < sizeLine then .ok (.nx σ) (st3.set n (.dT (putD kvs k v))) else .stuck
  | _=>.stuck
 | _,_=>.stuck
noncomputable def eDNew:SE:=fun _ st=>.ok (.ref st.length) (st++[.dT []])
section
variable {X:Cx}{a b c o i e value f':Expr}{f g h:SE}{pos pos' apos cpos:Pos}
theorem zzn {K:Fg}{ρ:Loc}{st:Store}{H:Hp}(rp:Rep K ρ st H){d:D}{u:V}{kvs:List (List Int×D)}(a:At K ρ H d u)(e:pairsOf st d=some kvs):∃p,u=.ref p/\IsD H p:=by
 obtain⟨p,vs,rfl,h1,_⟩:=zjb rp a e;exact⟨p,rfl,.inr ⟨vs,h1⟩⟩
theorem zbfy:DE X (.Dict [] [] pos) eDNew:=zey zuc fun τ H Q hq0 p hp=>by
 obtain⟨ρ,σ,st,v,st',a,rp,e,q⟩:=hq0;cases e;obtain⟨E,R⟩:=rp.alloc hp (x:=.dT []) (o:=.dT []) fun E=>⟨[],zk,.nil⟩
 exact q _ _ _ E R (.last rp.len.symm)
theorem zbil (hu:X.A.units+1 < cLine)(hi:DE X i g)(ho:DE X o f):PC X .In i o (tD X.K (aS (oDIn false) g f)):=fun aU s σ H Q I hq=>by
 refine zbdt hu hi ho aU s σ H Q I ?_;obtain⟨ρ,σ',st,v,st',a,rp,e,q⟩:=hq;obtain⟨x,st1,e1,e⟩:=za e;obtain⟨y,st2,e2,e⟩:=za e;refine⟨ρ,σ',st,x,st1,a,rp,e1,fun ρ1 H1 u x1 rp1 a1=>?_⟩;refine⟨ρ1,σ',st1,y,st2,a.ext x1,rp1,e2,fun ρ2 H2 w x2 rp2 a2=>?_⟩;unfold oDIn at e;split at e
 ·rename_i kk vv h1 h2;cases e;obtain⟨p,oo,rfl,g1,g2⟩:=zoo rp2 a2 (a1.ext x2) h2 h1;refine⟨p,oo,rfl,g1,?_⟩;have:oo.isSome=(valD vv kk).isSome:=by
   revert g2;split
   ·rename_i hv;rintro⟨v,rfl,_⟩;rw[hv];rfl
   ·rename_i hv;rintro rfl;rw[hv];rfl
  rw[this];exact q _ _ _ (x1.trans x2) rp2 (.bl _)
 ·cases e
theorem zbjd {op:CmpOp}{t:SE}(h:PC X op a b (tD X.K t))(h1:behindInMarks op b=false:=by first | exact nobehind _ (by decide) (by decide) | rfl):DT X (.Compare a [op] [b] pos) (eB t):=zbcb (zbdc h h1) fun τ H Q hh=>eB_t _ _ _ hh
theorem zbfz (hu:X.A.units+1 < cLine)(ho:DE X o f)(hi:DE X i g)(hs:NoSl i):DE X (.Subscript o i pos) (aS oDGet f g):=zey (zyl hu ho hi hs) fun τ H Q hq0=>by
 obtain⟨ρ,σ,st,v,st',a,rp,e,q⟩:=hq0;obtain⟨x,st1,e1,e⟩:=za e;obtain⟨y,st2,e2,e⟩:=za e;refine⟨ρ,σ,st,x,st1,a,rp,e1,fun ρ1 H1 u x1 rp1 a1=>?_⟩;refine⟨ρ1,σ,st1,y,st2,a.ext x1,rp1,e2,fun ρ2 H2 w x2 rp2 a2=>?_⟩;unfold oDGet at e;split at e
 ·rename_i h1 h2;split at e
  ·rename_i z hv;cases e;obtain⟨p,oo,rfl,g1,g2⟩:=zoo rp2 (a1.ext x2) a2 h1 h2;rw[hv] at g2;obtain⟨vv,rfl,g3⟩:=g2;exact⟨p,vv,rfl,g1,q _ _ _ (x1.trans x2) rp2 g3⟩
  ·cases e
 ·cases e
theorem zbbc (hu:X.A.units + 1 < cLine)(ho:DE X o f)(he:DE X e g)(hf:DE X f' h)(m:M2 X o "get" apos e f' cpos):DE X (.Call (.Attribute o "get" apos) [e, f'] [] cpos) (eDGet2 f g h):=zey (zud hu ho he hf m) fun τ H Q hq0=>by
 obtain⟨ρ,σ,st,v,st',a,rp,e,q⟩:=hq0;obtain⟨x,st1,e1,e⟩:=za e;refine⟨ρ,σ,st,x,st1,a,rp,e1,fun ρ1 H1 u x1 rp1 a1=>?_⟩;split at e
 ·rename_i h0;obtain⟨p,rfl,hd⟩:=zzn rp1 a1 h0;obtain⟨y,st2,e2,e⟩:=za e;obtain⟨z,st3,e3,e⟩:=za e;refine⟨p,rfl,hd,?_⟩;refine⟨ρ1,σ,st1,y,st2,a.ext x1,rp1,e2,fun ρ2 H2 w x2 rp2 a2=>?_⟩;refine⟨ρ2,σ,st2,z,st3,a.ext (x1.trans x2),rp2,e3,fun ρ3 H3 t x3 rp3 a3=>?_⟩;split at e
  ·rename_i h1 h2;cases e;obtain⟨p',oo,ep,g1,g2⟩:=zoo rp3 (a1.ext (x2.trans x3)) (a2.ext x3) h1 h2;cases ep;refine⟨oo,g1,q _ _ _ (x1.trans (x2.trans x3)) rp3 ?_⟩;revert g2;split
   ·rename_i hv;rintro⟨vv,rfl,g3⟩;rw[hv];exact g3
   ·rename_i hv;rintro rfl;rw[hv];exact a3
  ·cases e
 ·cases e
theorem zbfx (hu:X.A.units + 1 < cLine)(ho:DE X o f)(he:DE X e g)(m:M1 X o "pop" apos e cpos):DE X (.Call (.Attribute o "pop" apos) [e] [] cpos) (eDPop f g):=zey (zub hu ho he m) fun τ H Q hq0=>by
 obtain⟨ρ,σ,st,v,st',a,rp,e,q⟩:=hq0;obtain⟨x,st1,e1,e⟩:=za e;refine⟨ρ,σ,st,x,st1,a,rp,e1,fun ρ1 H1 u x1 rp1 a1=>?_⟩;split at e
 ·rename_i h0;obtain⟨p,rfl,hd⟩:=zzn rp1 a1 h0;obtain⟨y,st2,e2,e⟩:=za e;refine⟨p,rfl,hd,?_⟩;refine⟨ρ1,σ,st1,y,st2,a.ext x1,rp1,e2,fun ρ2 H2 w x2 rp2 a2=>?_⟩;split at e
  ·rename_i n k hk _;split at e
   ·rename_i kvs hn;split at e
    ·rename_i z hv;cases e;obtain⟨p',ep,hp,vs,g1,g2⟩:=zco rp2 (a1.ext x2) hn (by intro z;cases z);cases ep;obtain⟨b,rfl,g3⟩:=zut a2 hk;have g4:=g2.val k;rw[hv] at g4;obtain⟨vv,g5,g6⟩:=g4;have E:Ext ρ2 H2 ρ2 (upd H2 p (.dT (dropK vs (k.map Sum.inl)))):=Ext.wr hp (zgh g1) _;exact⟨vs,_,vv,b,g1,rfl,g3,g5,q _ _ _ ((x1.trans x2).trans E) (rp2.wr hp (zgh g1) ⟨_,zk,(g2.drop k).ext E⟩) (g6.ext E)⟩
    ·cases e
   ·cases e
  ·cases e
 ·cases e
theorem zbag (hu:X.A.units+1 < cLine)(ho:DE X o f)(hi:DE X i g)(hv:DE X value h)(hs:swapsWith value (some (.Subscript o i pos')) pos.line X.env=pure false) :
  DSt X (.Assign [.Subscript o i pos'] value pos) (sDPut f g h):=zph (zxw hu ho hi hv hs) fun E τ H hq0=>by
 obtain⟨ρ,σ,st,fl,st',a,rp,e,q⟩:=hq0;obtain⟨v,st1,e1,e⟩:=za e;obtain⟨x,st2,e2,e⟩:=za e;obtain⟨y,st3,e3,e⟩:=za e;refine⟨ρ,σ,st,v,st1,a,rp,e1,fun ρ1 H1 u x1 rp1 a1=>?_⟩;refine⟨ρ1,σ,st1,x,st2,a.ext x1,rp1,e2,fun ρ2 H2 w x2 rp2 a2=>?_⟩;refine⟨ρ2,σ,st2,y,st3,a.ext (x1.trans x2),rp2,e3,fun ρ3 H3 t x3 rp3 a3=>?_⟩;split at e
 ·rename_i n k hk _;split at e
  ·rename_i kvs hn;split at e
   ·rename_i hl;cases e;obtain⟨p,rfl,hp,vs,g1,g2⟩:=zco rp3 (a2.ext x3) hn (by intro z;cases z);obtain⟨b,rfl,g3⟩:=zut a3 hk;have E:Ext ρ3 H3 ρ3 (upd H3 p (.dT (putK vs (k.map Sum.inl) u))):=Ext.wr hp (zgh g1) _;refine⟨p,_,rfl,DPut.t g1 g3 (by rw[← g2.length];exact hl),?_⟩;exact q _ _ _ ((x1.trans (x2.trans x3)).trans E) (rp3.wr hp (zgh g1) ⟨_,zk,(g2.put k (a1.ext (x2.trans x3))).ext E⟩) (a.ext ((x1.trans (x2.trans x3)).trans E))
   ·cases e
  ·cases e
 ·cases e
end
noncomputable def bSorted:List D->Store->Res D:=fun xs st=>match xs with
 | [x]=>match (asL st x).bind asRows with
  | some l=>if l.length<=1000000 then .ok (.lst (aJ (sortR l))) st else .stuck
  | none=>match pairsOf st x with
   | some kvs=>if kvs.length<=1000000 then .ok (.lst (aJ (sortR (kvs.map (·.1))))) st else .stuck
   | none=>.stuck
 | _=>.stuck
theorem zlh {K:Fg}:CaD K bSorted (fun xs H Q=>rSortedAL K xs H Q\/rSortedDAL xs H Q):=fun ρ H st xs us z st' Q rp aa e q=>by
 unfold bSorted at e;split at e
 ·obtain⟨u,rfl,a⟩:=aa.one;split at e
  ·rename_i l hl;obtain⟨ys,h0,hl⟩:=xen.mp hl;split at e
   ·rename_i few;cases e;obtain⟨p,vs,rfl,h1,h2⟩:=zen rp a h0;obtain⟨ps,rfl,rfl,h3⟩:=zlj h2 hl;rw[xbc] at few;refine .inl ⟨p,ps,rfl,SqL.of h1,few,fun x hx=>SqT.of (h3 x hx).1,fun t qs ht hp hs=>?_⟩;have e2:qs.map (·.2)=sortR (ps.map (·.2)):=zit (hp.map _) hs;refine q _ _ _ (Ext.new ht _) (rp.new ht _) (.newL rp ht ?_);rw[← e2];exact zix qs fun x hx=>h3 x (hp.mem_iff.mp hx)
   ·cases e
  ·split at e
   ·rename_i kvs hk;split at e
    ·rename_i few;cases e;obtain⟨p,vs,rfl,h1,h2⟩:=zjb rp a hk;refine .inr ⟨p,vs,kvs.map (·.1),rfl,h1,h2.keys,by rw[xbc];exact few,fun t qs ht hp hs hq=>?_⟩;have e2:qs.map (·.2)=sortR (kvs.map (·.1)):=zit hp hs;refine q _ _ _ (Ext.new ht _) (rp.new ht _) (.newL rp ht ?_);rw[← e2];exact zix qs fun x hx=>⟨hq x hx,zkj rp (hq x hx)⟩
    ·cases e
   ·cases e
 ·cases e
theorem zfw {X:Cx}(hc:X.calm=true)(hu:X.A.units + 64 < cLine):CallR X (.builtin "sorted") (fun xs H Q=>rSortedAL X.K xs H Q\/rSortedDAL xs H Q):=(zii hu).or (zho hc hu)
noncomputable def eAppend (f:SE) (g:SA):SE:=fun σ st=>(f σ st).bind fun x st1=>match x,asL st1 x with
 | .ref n,some _=>(g σ st1).bind fun ys st2=>match ys,st2[n]? with
  | [y],some (.lst xs)=>if xs.length < sizeLine then .ok .non (st2.set n (.lst (xs++[y]))) else .stuck
  | _,_=>.stuck
 | _,_=>.stuck
noncomputable def eExtend (f:SE) (g:SA):SE:=fun σ st=>(f σ st).bind fun x st1=>match x,asL st1 x with
 | .ref n,some _=>(g σ st1).bind fun ys st2=>match ys,st2[n]? with
  | [y],some (.lst xs)=>match asL st2 y with
   | some zs=>if xs.length+zs.length<=sizeLine then .ok .non (st2.set n (.lst (xs++zs))) else .stuck
   | none=>.stuck
  | _,_=>.stuck
 | _,_=>.stuck
section
variable {X:Cx}{o e i value:Expr}{es:List Expr}{f g h:SE}{ga:SA}{pos apos cpos:Pos}
theorem zvt (ho:DE X o f)(ha:DA X (e::es) ga)(hbase:attributeBase o "append" X.env (eval o X.env)=eval o X.env:=by rfl)
  (hfew:((backTo cpos (starEach (e::es) X.env)).all (fun x=>!x.1)&&(backToKw cpos (keywordEach [] X.env)).all (fun x=>x.1.isSome)
   && decide ((e::es).length+([]:List Keyword).length+(if([]:List Keyword).isEmpty then 0 else 1) < 30))=true:=by rfl)
  (hline:(apos.endLine==cpos.line)=true:=by rfl)(hs:starEach (e::es) X.env=(false,eval e X.env)::starEach es X.env:=by rfl)(hplain:(backTo cpos (starEach es X.env)).any (·.1)=false:=by rfl) :
  DE X (.Call (.Attribute o "append" apos) (e::es) [] cpos) (eAppend f ga):=zey (zbdq xiy F.slot_list_append F.type_list_append zkl ho ha hbase hfew hline hs hplain) fun τ H Q hq0=>by
 obtain⟨ρ,σ,st,v,st',a,rp,e,q⟩:=hq0;obtain⟨x,st1,e1,e⟩:=za e;refine⟨ρ,σ,st,x,st1,a,rp,e1,fun ρ1 H1 u x1 rp1 a1=>?_⟩;split at e
 ·rename_i n _ hL;obtain⟨ys,st2,e2,e⟩:=za e;obtain⟨p,vs,rfl,g1,g2⟩:=zen rp1 a1 hL;refine⟨.inl ⟨rfl,_,SqL.of g1⟩,ρ1,σ,st1,ys,st2,a.ext x1,rp1,e2,fun ρ2 H2 ws x2 rp2 a2=>?_⟩;split at e
  ·rename_i y xs hn;split at e
   ·rename_i hl;cases e;obtain⟨w,rfl,a3⟩:=a2.one;obtain⟨p',ep,hp,vs2,k1,k2⟩:=zco rp2 (a1.ext x2) hn (by intro z;cases z);cases ep;have E:Ext ρ2 H2 ρ2 (upd H2 p (.lst (vs2++[w]))):=Ext.wr hp (zdb k1) _;exact⟨p,vs2,w,rfl,rfl,k1,by rw[k2.length];exact hl,q _ _ _ ((x1.trans x2).trans E) (rp2.wr hp (zdb k1) ⟨_,zk,(k2.append (.cons a3 .nil)).ext E⟩) .non⟩
   ·cases e
  ·cases e
 ·cases e
theorem zvo (ho:DE X o f)(ha:DA X (e::es) ga)(hbase:attributeBase o "extend" X.env (eval o X.env)=eval o X.env:=by rfl)
  (hfew:((backTo cpos (starEach (e::es) X.env)).all (fun x=>!x.1)&&(backToKw cpos (keywordEach [] X.env)).all (fun x=>x.1.isSome)
   && decide ((e::es).length+([]:List Keyword).length+(if([]:List Keyword).isEmpty then 0 else 1) < 30))=true:=by rfl)
  (hline:(apos.endLine==cpos.line)=true:=by rfl)(hs:starEach (e::es) X.env=(false,eval e X.env)::starEach es X.env:=by rfl)(hplain:(backTo cpos (starEach es X.env)).any (·.1)=false:=by rfl) :
  DE X (.Call (.Attribute o "extend" apos) (e::es) [] cpos) (eExtend f ga):=zey (zbdq xiy F.slot_list_extend F.type_list_extend zqv ho ha hbase hfew hline hs hplain) fun τ H Q hq0=>by
 obtain⟨ρ,σ,st,v,st',a,rp,e,q⟩:=hq0;obtain⟨x,st1,e1,e⟩:=za e;refine⟨ρ,σ,st,x,st1,a,rp,e1,fun ρ1 H1 u x1 rp1 a1=>?_⟩;split at e
 ·rename_i n _ hL;obtain⟨ys,st2,e2,e⟩:=za e;obtain⟨p,vs,rfl,g1,g2⟩:=zen rp1 a1 hL;refine⟨.inl ⟨rfl,_,SqL.of g1⟩,ρ1,σ,st1,ys,st2,a.ext x1,rp1,e2,fun ρ2 H2 ws x2 rp2 a2=>?_⟩;split at e
  ·rename_i y xs hn;split at e
   ·rename_i zs hz;split at e
    ·rename_i hl;cases e;obtain⟨w,rfl,a3⟩:=a2.one;obtain⟨p',ep,hp,vs2,k1,k2⟩:=zco rp2 (a1.ext x2) hn (by intro z;cases z);cases ep;obtain⟨b,ws2,rfl,m1,m2⟩:=zen rp2 a3 hz;have E:Ext ρ2 H2 ρ2 (upd H2 p (.lst (vs2++ws2))):=Ext.wr hp (zdb k1) _;exact⟨p,b,vs2,ws2,rfl,rfl,k1,m1,by rw[k2.length,m2.length];exact hl,q _ _ _ ((x1.trans x2).trans E) (rp2.wr hp (zdb k1) ⟨_,zk,(k2.append m2).ext E⟩) .non⟩
    ·cases e
   ·cases e
  ·cases e
 ·cases e
noncomputable def eFz (f:SE):SE:=fun σ st=>(f σ st).bind fun x st1=>match x with
 | .ref n=>match st1[n]? with
  | some (.lst xs)=>.ok (.lst xs) (st1.set n .dead)
  | _=>.stuck
 | _=>.stuck
theorem d_fz (ho:DE X o f):DE X o (eFz f):=zey ho fun τ H Q hq0=>by
 obtain⟨ρ,σ,st,v,st',a,rp,e,q⟩:=hq0;obtain⟨x,st1,e1,e⟩:=za e;refine⟨ρ,σ,st,x,st1,a,rp,e1,fun ρ1 H1 u x1 rp1 a1=>?_⟩;split at e
 ·rename_i n;split at e
  ·rename_i xs hn;cases e;obtain⟨p,rfl,hp,vs2,k1,k2⟩:=zco rp1 a1 hn (by intro z;cases z);have hlen:=(xbm.mp hp).1;obtain⟨E,R⟩:=rp1.kill hlen;refine q _ _ _ (x1.trans E) R (.lst k1 ⟨fun z=>?_,fun z=>(rp1.gh p z).2 (xby hp)⟩ (k2.ext E));obtain⟨i,hi,e2⟩:=xeg z;have e3:(ρ1.m.set n none)[i]?=some (some p):=by rw[xbf hi,e2]
   by_cases hin:i=n
   ·subst hin;rw[xec hlen] at e3;simp at e3
   ·rw[xcx (xez hin)] at e3;exact hin (rp1.inj i n p e3 hp)
  ·cases e
 ·cases e
end
noncomputable def sNx:SS:=fun σ st=>.ok (.nx σ) st
noncomputable def sBrk:SS:=fun σ st=>.ok (.brk σ) st
noncomputable def sCt:SS:=fun σ st=>.ok (.ct σ) st
noncomputable def sRet (f:SE):SS:=fun σ st=>(f σ st).bind fun v st1=>.ok (.ret v) st1
noncomputable def sRetN:SS:=fun _ st=>.ok (.ret .non) st
noncomputable def sDrop (f:SE):SS:=fun σ st=>(f σ st).bind fun _ st1=>.ok (.nx σ) st1
noncomputable def aF (i:Nat) (f:SE):SS:=fun σ st=>(f σ st).bind fun v st1=>.ok (.nx (σ.set i (some v))) st1
noncomputable def aD (s t:SS):SS:=fun σ st=>match s σ st with
 | .ok (.nx σ1) st1=>t σ1 st1
 | r=>r
noncomputable def sIf (c:ST) (s t:SS):SS:=fun σ st=>(c σ st).bind fun b st1=>if b=true then s σ st1 else t σ st1
noncomputable def sAug (i:Nat) (g:D->D->Store->Res D) (f:SE):SS:=fun σ st=>match σ[i]? with
 | some (some x)=>(f σ st).bind fun y st1=>(g x y st1).bind fun z st2=>.ok (.nx (σ.set i (some z))) st2
 | _=>.stuck
noncomputable def sSetIx (f g h:SE):SS:=fun σ st=>(h σ st).bind fun v st1=>(f σ st1).bind fun x st2=>(g σ st2).bind fun y st3=>match x,y with
 | .ref n,.int k=>match st3[n]? with
  | some (.lst xs)=>match ixN xs.length k with
   | some j=>.ok (.nx σ) (st3.set n (.lst (xs.set j v)))
   | none=>.stuck
  | _=>.stuck
 | _,_=>.stuck
section
variable {X:Cx}{e c o i value:Expr}{sm:Stmt}{rest:List Stmt}{f g h:SE}{s t:SS}{b:ST}{pos pos':Pos}
theorem zbfl:DSs X [] sNx:=zxs zxu fun E τ H hq0=>by
 obtain⟨ρ,σ,st,fl,st',a,rp,e,q⟩:=hq0;cases e;exact q _ _ _ (.refl _ _) rp a
theorem zvi:DSt X (.Break pos) sBrk:=zph ztu fun E τ H hq0=>by
 obtain⟨ρ,σ,st,fl,st',a,rp,e,q⟩:=hq0;cases e;exact q _ _ _ (.refl _ _) rp a
theorem zbfj (he:DE X e f):DSt X (.Return (some e) pos) (sRet f):=zph (zbde he) fun E τ H hq0=>by
 obtain⟨ρ,σ,st,fl,st',a,rp,e,q⟩:=hq0;obtain⟨x,st1,e1,e⟩:=za e;cases e;exact⟨ρ,σ,st,x,_,a,rp,e1,fun ρ1 H1 u x1 rp1 a1=>q _ _ _ x1 rp1 a1⟩
theorem zbaf (he:DE X e f)(hs:swapsWith e none pos.line X.env=pure false:=by rfl):DSt X (.Expr e pos) (sDrop f):=zph (zxv he hs) fun E τ H hq0=>by
 obtain⟨ρ,σ,st,fl,st',a,rp,e,q⟩:=hq0;obtain⟨x,st1,e1,e⟩:=za e;cases e;exact⟨ρ,σ,st,x,_,a,rp,e1,fun ρ1 H1 u x1 rp1 a1=>q _ _ _ x1 rp1 (a.ext x1)⟩
theorem zbib {K:Fg}{i:Nat}{f:SE}:∀E τ H,tDS K (aF i f) E τ H->tAsg (tD K f) (gName i) E τ H:=fun E τ H hq0=>by
 obtain⟨ρ,σ,st,fl,st',a,rp,e,q⟩:=hq0;obtain⟨x,st1,e1,e⟩:=za e;cases e;exact⟨ρ,σ,st,x,_,a,rp,e1,fun ρ1 H1 u x1 rp1 a1=>q _ _ _ x1 rp1 ((a.ext x1).set a1 i)⟩
theorem zbfi {i:Nat}{x:Str}(hN:X.N.Nodup)(hi:X.N[i]?=some x)(hx:L2.Loc X.env.scope x)(he:DE X e f)(hs:swapsWith e (some (.Name x pos')) pos.line X.env=pure false:=by rfl)(hf:X.fn x=true\/X.env.scope.names.lookup x=some .local:=by first | exact .inl rfl | exact .inr rfl | assumption) :
 DSt X (.Assign [.Name x pos'] e pos) (aF i f):=zph (zbdd hN hi hx he hs hf) zbib
theorem zbfk (h1:DSt X sm s):DSs X [sm] s:=zxt h1
theorem zbah (h1:DSt X sm s)(h2:DSs X rest t):DSs X (sm::rest) (aD s t):=zxs (zts h1 h2) fun E τ H hq0=>by
 obtain⟨ρ,σ,st,fl,st',a,rp,e,q⟩:=hq0;unfold aD at e;split at e
 ·rename_i σ1 st1 e1;exact⟨ρ,σ,st,_,st1,a,rp,e1,fun ρ1 H1 τ1 x1 rp1 a1=>⟨ρ1,σ1,st1,fl,st',a1,rp1,e,q.ext x1⟩⟩
 ·rename_i hne;refine⟨ρ,σ,st,fl,st',a,rp,e,?_⟩;cases fl with
  | nx σ'=>exact absurd e (hne σ' st')
  | brk σ'=>exact q
  | ct σ'=>exact q
  | ret v=>exact q
theorem zbje {a' b':List Stmt}(hc:DT X c b)(ha:DSs X a' s)(hb:DSs X b' t):DSt X (.If c a' b' pos) (sIf b s t):=zph (zbie hc ha hb) fun E τ H hq0=>by
 obtain⟨ρ,σ,st,fl,st',a,rp,e,q⟩:=hq0;obtain⟨x,st1,e1,e⟩:=za e;refine⟨ρ,σ,st,x,st1,a,rp,e1,fun ρ1 H1 x1 rp1=>?_⟩;cases x with
 | true=>exact iteT ⟨ρ1,σ,st1,fl,st',a.ext x1,rp1,e,q.ext x1⟩
 | false=>exact iteF ⟨ρ1,σ,st1,fl,st',a.ext x1,rp1,e,q.ext x1⟩
noncomputable def IpD (K:Fg) (g:D->D->Store->Res D) (r:TIp):Prop :=
 ∀ρ H st x y u v z st' (Q:VK),Rep K ρ st H->At K ρ H x u->At K ρ H y v->g x y st=.ok z st'->(∀ρ' H' w,Ext ρ H ρ' H'->Rep K ρ' st' H'->At K ρ' H' z w->Q w H')->r u v H Q
theorem zbfn {i:Nat}{x:Str}{op:Operator}{ti:TIp}{g:D->D->Store->Res D}(hN:X.N.Nodup)(hi:X.N[i]?=some x)(hx:L2.Loc X.env.scope x)(he:DE X e f)(ho:PIp X op ti)(hr:IpD X.K g ti)(hf:X.fn x=true\/X.env.scope.names.lookup x=some .local:=by first | exact .inl rfl | exact .inr rfl | assumption) :
  DSt X (.AugAssign (.Name x pos') op e pos) (sAug i g f):=zph (zbdg hN hi hx he ho hf) fun E τ H hq0=>by
 obtain⟨ρ,σ,st,fl,st',a,rp,e,q⟩:=hq0;unfold sAug at e;split at e
 ·rename_i d hd;obtain⟨y,st1,e1,e⟩:=za e;obtain⟨z,st2,e2,e⟩:=za e;cases e;obtain⟨u,hu,a0⟩:=a.get hd;refine⟨u,hu,ρ,σ,st,y,st1,a,rp,e1,fun ρ1 H1 w x1 rp1 a1=>?_⟩;exact hr ρ1 H1 st1 d y u w z st' _ rp1 (a0.ext x1) a1 e2 fun ρ2 H2 zz x2 rp2 a2=>q _ _ _ (x1.trans x2) rp2 ((a.ext (x1.trans x2)).set a2 i)
 ·cases e
theorem ip_D {K:Fg}{p:Int->Int->Int}:IpD K (oI (fun _ _=>True) fun i j=>.int (p i j)) (ipI p):=fun ρ H st x y u v z st' Q rp a b e q=>by
 unfold oI at e;split at e
 ·cases a;cases b;rw[if_pos True.intro] at e;cases e;exact⟨_,_,rfl,rfl,q _ _ _ (.refl _ _) rp (.int _)⟩
 ·cases e
theorem zvg (he:DE X value h)(ho:DE X o f)(hi:DE X i g)(ha:∀v,assign (.Subscript o i pos') X.env v=(do
   let ov ← holding [v] (eval o X.env)
   let iv ← holding [v,ov] (eval i X.env)
   standAt pos'
   holding [v,ov,iv] (setItem ov iv v)
   release [v,ov,iv] []):=by intro _;rfl)
  (hs:swapsWithSole [.Subscript o i pos'] value pos.line X.env=pure false:=by rfl)(hw:swappedStores [.Subscript o i pos'] value X.env=pure none:=by rfl)
  (h1:(assignEach [.Subscript o i pos'] X.env).map (·.2)=[assign (.Subscript o i pos') X.env]:=by rfl):DSt X (.Assign [.Subscript o i pos'] value pos) (sSetIx f g h) :=
 zph (zbdh he (zbdk ho hi ztl ha) hs hw h1) fun E τ H hq0=>by
 obtain⟨ρ,σ,st,fl,st',a,rp,e,q⟩:=hq0;obtain⟨v,st1,e1,e⟩:=za e;obtain⟨x,st2,e2,e⟩:=za e;obtain⟨y,st3,e3,e⟩:=za e;refine⟨ρ,σ,st,v,st1,a,rp,e1,fun ρ1 H1 u x1 rp1 a1=>?_⟩;refine⟨ρ1,σ,st1,x,st2,a.ext x1,rp1,e2,fun ρ2 H2 w x2 rp2 a2=>?_⟩;refine⟨ρ2,σ,st2,y,st3,a.ext (x1.trans x2),rp2,e3,fun ρ3 H3 t x3 rp3 a3=>?_⟩;split at e
 ·rename_i n k _;split at e
  ·rename_i xs hn;split at e
   ·rename_i j hj;cases e;cases a3;obtain⟨p,rfl,hp,vs,g1,g2⟩:=zco rp3 (a2.ext x3) hn (by intro z;cases z);have E:Ext ρ3 H3 ρ3 (upd H3 p (.lst (vs.set j u))):=Ext.wr hp (zdb g1) _;refine⟨p,vs,k,j,rfl,rfl,g1,by rw[g2.length];exact hj,?_⟩;exact q _ _ _ ((x1.trans (x2.trans x3)).trans E) (rp3.wr hp (zdb g1) ⟨_,zk,(g2.set (a1.ext (x2.trans x3)) j).ext E⟩) (a.ext ((x1.trans (x2.trans x3)).trans E))
   ·cases e
  ·cases e
 ·cases e
end
noncomputable abbrev SG:=D->DS->Option DS
noncomputable def gN (i:Nat):SG:=fun d σ=>some (σ.set i (some d))
noncomputable def gsNil:List D->DS->Option DS:=fun ds σ=>match ds with
 | []=>some σ
 | _=>none
noncomputable def gsCons (t:SG) (u:List D->DS->Option DS):List D->DS->Option DS:=fun ds σ=>match ds with
 | d::r=>(t d σ).bind fun σ1=>u r σ1
 | _=>none
noncomputable def gT (n:Nat) (u:List D->DS->Option DS):SG:=fun d σ=>match d with
 | .tup ds=>if ds.length=n then u ds σ else none
 | _=>none
noncomputable def gD (K:Fg) (b:SG):TG:=fun v τ H Q=>∃ρ σ d σ',AtS K ρ H σ τ/\At K ρ H d v/\b d σ=some σ'/\∀τ',AtS K ρ H σ' τ'->Q τ' H
noncomputable def gDs (K:Fg) (b:List D->DS->Option DS):TGs:=fun vs τ H Q=>∃ρ σ ds σ',AtS K ρ H σ τ/\AtAll K ρ H ds vs/\b ds σ=some σ'/\∀τ',AtS K ρ H σ' τ'->Q τ' H
noncomputable abbrev DG (X:Cx) (tg:Expr) (b:SG):Prop:=PG X tg (gD X.K b)
noncomputable abbrev DGs (X:Cx) (ts:List Expr) (b:List D->DS->Option DS):Prop:=PGs X ts (gDs X.K b)
section
variable {X:Cx}{pos:Pos}{e:Expr}{es:List Expr}{t:SG}{u:List D->DS->Option DS}
theorem zbhh {g g':TG}(h:PG X e g)(k:∀v τ H Q,g' v τ H Q->g v τ H Q):PG X e g':=fun aU s σ H v u Q I r q=>h aU s σ H v u Q I r (k _ _ _ _ q)
theorem zyh {g g':TGs}(h:PGs X es g)(k:∀v τ H Q,g' v τ H Q->g v τ H Q):PGs X es g':=fun aU s σ H v u Q I r q=>h aU s σ H v u Q I r (k _ _ _ _ q)
theorem zbaq {i:Nat}{x:Str}(hN:X.N.Nodup)(hi:X.N[i]?=some x)(hx:L2.Loc X.env.scope x)(hf:X.fn x=true\/X.env.scope.names.lookup x=some .local:=by first | exact .inl rfl | exact .inr rfl | assumption):DG X (.Name x pos) (gN i) :=
 zbhh (zyj hN hi hx hf) fun v τ H Q hq0=>by
 obtain⟨ρ,σ,d,σ',a,b,e,q⟩:=hq0;cases e;exact q _ (a.set b i)
theorem zbap:DGs X [] gsNil:=zyh zyi fun v τ H Q hq0=>by
 obtain⟨ρ,σ,d,σ',a,b,e,q⟩:=hq0;unfold gsNil at e;split at e
 ·cases e;cases b;exact⟨rfl,q _ a⟩
 ·cases e
theorem zvm (h1:DG X e t)(h2:DGs X es u)(hs:(assignEach (e::es) X.env).map (·.2)=assign e X.env::(assignEach es X.env).map (·.2):=by rfl):DGs X (e::es) (gsCons t u) :=
 zyh (ztz h1 h2 hs) fun v τ H Q hq0=>by
 obtain⟨ρ,σ,d,σ',a,b,e,q⟩:=hq0;unfold gsCons at e;split at e
 ·obtain⟨σ1,e1,e2⟩:=xen.mp e;cases b with
  | cons b1 b2=>exact⟨_,_,rfl,ρ,σ,_,σ1,a,b1,e1,fun τ1 a1=>⟨ρ,σ1,_,σ',a1,b2,e2,q⟩⟩
 ·cases e
theorem zbfq {k:Nat}{n:Nat}(hc:X.calm=true)(h:DGs X es u)(hn:(assignEach es X.env).length=n:=by rfl)(hst:(assignEach es X.env).findIdx? (·.1)=none:=by rfl):DG X (.Tuple es k pos) (gT n u) :=
 zbhh (zbdj hc h hn hst) fun v τ H Q hq0=>by
 obtain⟨ρ,σ,d,σ',a,b,e,q⟩:=hq0;unfold gT at e;split at e
 ·split at e
  ·rename_i hl;cases b with
   | tup h1 h2 h3=>exact⟨_,_,rfl,SqT.of h1,by rw[h3.length];exact hl,ρ,σ,_,σ',a,h3,e,q⟩
  ·cases e
 ·cases e
end
structure ExtG (ρ:Loc) (H:Hp) (ρ':Loc) (H':Hp):Prop where
 len:ρ.m.length<=ρ'.m.length
 old:∀(n:Nat) (a:Addr),n < ρ.m.length->ρ'.m[n]?=some (some a)->ρ.m[n]?=some (some a)
 keep:∀a o,H a=some o->some a∉ρ.m->H' a=some o/\some a∉ρ'.m
 gho:∀a∈ρ'.g,a∈ρ.g\/H a=none
 frz:∀a ob u,H a=some (.frz ob u)->H' a=some (.frz ob u)
theorem Ext.toG {ρ ρ':Loc}{H H':Hp}(x:Ext ρ H ρ' H'):ExtG ρ H ρ' H':=⟨x.len,x.old,x.keep,fun a h=>.inl (by rw[← x.gho];exact h),x.frz⟩
theorem ExtG.then {ρ ρ1 ρ2:Loc}{H H1 H2:Hp}(a:ExtG ρ H ρ1 H1)(b:Ext ρ1 H1 ρ2 H2):ExtG ρ H ρ2 H2 :=
 ⟨xbb a.len b.len,fun n c h e=>a.old n c h (b.old n c (xbg h a.len) e),fun c o e n=>by
  obtain⟨e1,n1⟩:=a.keep c o e n
  exact b.keep c o e1 n1,fun c h=>a.gho c (by rw[← b.gho];exact h),fun c ob u e=>b.frz c ob u (a.frz c ob u e)⟩
theorem ExtG.out {ρ ρ':Loc}{H H':Hp}(x:ExtG ρ H ρ' H'){a:Addr}{o:HO}(h:H a=some o)(n:Out ρ a):H' a=some o/\Out ρ' a :=
 ⟨(x.keep a o h n.1).1,(x.keep a o h n.1).2,fun z=>by
  rcases x.gho a z with q | q
  ·exact n.2 q
  ·rw[h] at q;cases q⟩
theorem ExtG.mv {ρ ρ':Loc}{H H':Hp}(x:ExtG ρ H ρ' H'):Mv ρ H ρ' H':=⟨fun h n=>x.out h n,x.len,x.old⟩
theorem At.extG {K:Fg}{ρ ρ':Loc}{H H':Hp}(x:ExtG ρ H ρ' H'){d:D}{v:V}(h:At K ρ H d v):At K ρ' H' d v:=h.mv x.mv
theorem Ls.extG {K:Fg}{ρ ρ':Loc}{H H':Hp}{a:Addr}{vs:List V}(x:ExtG ρ H ρ' H')(h:Ls K ρ H a vs):Ls K ρ' H' a vs:=h.mv x.mv
structure ItOk (K:Fg) (ρ:Loc) (H:Hp) (J:It) (xs:List D):Prop where
 item:∀ρ2 H2,ExtG ρ H ρ2 H2->∀(i:Nat) (x:D),xs[i]?=some x->J.go i H2/\∀y H3,J.yld i H2 y H3->Ext ρ2 H2 ρ2 H3/\∀st,Rep K ρ2 st H2->Rep K ρ2 st H3/\At K ρ2 H3 x y
 done:∀ρ2 H2,ExtG ρ H ρ2 H2->∀i:Nat,xs.length<=i->J.stop i H2
noncomputable def iD (K:Fg) (f:SA):TI:=fun τ H R=>∃ρ σ st xs st',AtS K ρ H σ τ/\Rep K ρ st H/\f σ st=.ok xs st'/\∀ρ' H' J,Ext ρ H ρ' H'->Rep K ρ' st' H'->ItOk K ρ' H' J xs->R J H'
noncomputable abbrev DI (X:Cx) (tg iter:Expr) (f:SA):Prop:=PI X tg iter (iD X.K f)
noncomputable def seqV:D->Option (List D)
 | .tup xs=>some xs
 | .lst xs=>some xs
 | .scr xs=>some xs
 | _=>none
noncomputable def aH (f:SE):SA:=fun σ st=>(f σ st).bind fun x st1=>match seqV x with
 | some xs=>.ok xs st1
 | none=>.stuck
noncomputable def rng (lo:Int) (n:Nat):List D:=(List.range n).map fun(i:Nat)=>D.int (lo+i)
noncomputable def iR1 (g:SA):SA:=fun σ st=>(g σ st).bind fun xs st1=>match xs with
 | [.int j]=>if -(2 ^ 62)<=j/\j < 2 ^ 62 then .ok (rng 0 j.toNat) st1 else .stuck
 | _=>.stuck
noncomputable def iR2 (g:SA):SA:=fun σ st=>(g σ st).bind fun xs st1=>match xs with
 | [.int i,.int j]=>if -(2 ^ 62)<=i/\i < 2 ^ 62/\-(2 ^ 62)<=j/\j < 2 ^ 62 then .ok (rng i (j - i).toNat) st1 else .stuck
 | _=>.stuck
theorem zgd {lo:Int}{n i:Nat}{x:D}(h:(rng lo n)[i]?=some x):i < n/\x=.int (lo+i):=by
 unfold rng at h;rw[xcb] at h;rcases xho i n with z | z
 ·rw[List.getElem?_range z] at h;exact⟨z,(xcd h).symm⟩
 ·rw[xfp (by rw[xgo];exact z)] at h;cases h
theorem zbet {K:Fg}{ρ:Loc}{H:Hp}{lo:Int}{n:Nat}:ItOk K ρ H (Itr lo n) (rng lo n) where
 item:=fun ρ2 H2 x i d e=>by
  obtain⟨h1,rfl⟩:=zgd e;refine⟨h1,fun y H3 hy=>?_⟩;obtain⟨rfl,rfl⟩:=hy;exact⟨.refl _ _,fun _ r=>⟨r,.int _⟩⟩
 done:=fun ρ2 H2 x i h=>by
  unfold rng at h;rw[xbc,xgo] at h;exact h
section
variable {X:Cx}{tg l a b:Expr}{f:SE}{g:SA}{p pos:Pos}
theorem zbcc {t t':TI}(h:PI X tg l t)(k:∀τ H R,t' τ H R->t τ H R):PI X tg l t':=fun aU s σ H R I q=>h aU s σ H R I (k _ _ _ q)
theorem zbif {t t':TI}(h:PI X tg l t)(h':PI X tg l t'):PI X tg l (fun τ H R=>t τ H R\/t' τ H R):=fun aU s σ H R I q=>by
 rcases q with q | q
 ·exact h aU s σ H R I q
 ·exact h' aU s σ H R I q
theorem ztd {K:Fg}{ρ:Loc}{H:Hp}{p:Addr}{xs:List D}{vs:List V}(hs:∀ρ2 H2,ExtG ρ H ρ2 H2->SqL K H2 p vs)(al:AtAll K ρ H xs vs):ItOk K ρ H (Itl K p) xs where
 item:=fun ρ2 H2 x i d e=>by
  obtain⟨v,hv,a⟩:=al.get e;refine⟨⟨vs,v,hs _ _ x,hv⟩,fun y H3 hy=>?_⟩;obtain⟨rfl,h2⟩:=hy;have:=h2 vs (hs _ _ x);rw[hv] at this;cases this;exact⟨.refl _ _,fun _ r=>⟨r,a.extG x⟩⟩
 done:=fun ρ2 H2 x i h=>⟨vs,hs _ _ x,by rw[al.length];exact h⟩
theorem zbgw {K:Fg}{ρ:Loc}{H:Hp}{p:Addr}{xs:List D}{vs:List V}(hs:∀ρ2 H2,ExtG ρ H ρ2 H2->SqT K H2 p vs)(al:AtAll K ρ H xs vs):ItOk K ρ H (Itt K p) xs where
 item:=fun ρ2 H2 x i d e=>by
  obtain⟨v,hv,a⟩:=al.get e;refine⟨⟨vs,v,hs _ _ x,hv⟩,fun y H3 hy=>?_⟩;obtain⟨rfl,h2⟩:=hy;have:=h2 vs (hs _ _ x);rw[hv] at this;cases this;exact⟨.refl _ _,fun _ r=>⟨r,a.extG x⟩⟩
 done:=fun ρ2 H2 x i h=>⟨vs,hs _ _ x,by rw[al.length];exact h⟩
theorem zbfp (hl:DE X l f):DI X tg l (aH f):=zbcc (zbif (zyf hl) (zbdi hl)) fun τ H R hq0=>by
 obtain⟨ρ,σ,st,xs,st',a,rp,e,q⟩:=hq0;obtain⟨x,st1,e1,e⟩:=za e;cases x with
 | tup ys =>
  cases e;refine .inr ⟨ρ,σ,st,_,_,a,rp,e1,fun ρ1 H1 u x1 rp1 a1=>?_⟩;cases a1 with
  | tup h1 h2 h3=>exact⟨_,rfl,⟨_,SqT.of h1⟩,q _ _ _ x1 rp1 (zbgw (fun ρ2 H2 x2=>SqT.of (x2.out h1 h2).1) h3)⟩
 | lst ys =>
  cases e;refine .inl ⟨ρ,σ,st,_,_,a,rp,e1,fun ρ1 H1 u x1 rp1 a1=>?_⟩;cases a1 with
  | lst h1 h2 h3=>exact⟨_,rfl,⟨_,SqL.of h1⟩,q _ _ _ x1 rp1 (ztd (fun ρ2 H2 x2=>SqL.of (x2.out h1 h2).1) h3)⟩
 | scr ys =>
  cases e;refine .inl ⟨ρ,σ,st,_,_,a,rp,e1,fun ρ1 H1 u x1 rp1 a1=>?_⟩;cases a1 with
  | scr h1 h3=>exact⟨_,rfl,⟨_,h1.sq⟩,q _ _ _ x1 rp1 (ztd (fun ρ2 H2 x2=>(h1.extG x2).sq) h3)⟩
 | _=>cases e
theorem zro (hg:Gl X "range")(hm:X.mg "range"=none)(ha:DA X [a] g)(hs:starEach [a] X.env=[(false, eval a X.env)]:=by rfl):DI X tg (.Call (.Name "range" p) [a] [] pos) (iR1 g) :=
 zbcc (zqj hg hm ha hs) fun τ H R hq0=>by
 obtain⟨ρ,σ,st,xs,st',a,rp,e,q⟩:=hq0;obtain⟨x,st1,e1,e⟩:=za e;split at e
 ·split at e
  ·rename_i hj;cases e;refine⟨ρ,σ,st,_,_,a,rp,e1,fun ρ1 H1 u x1 rp1 a1=>?_⟩;obtain⟨w,rfl,a2⟩:=a1.one;cases a2;exact⟨_,rfl,hj.1,hj.2,q _ _ _ x1 rp1 zbet⟩
  ·cases e
 ·cases e
end
noncomputable def iDict (f:SE):SA:=fun σ st=>(f σ st).bind fun x st1=>match x with
 | .ref n=>match st1[n]? with
  | some (.dT kvs)=>.ok (aJ (kvs.map (·.1))) (st1.set n (.fT kvs))
  | _=>.stuck
 | _=>.stuck
section
variable {X:Cx}{tg l:Expr}{f:SE}
theorem zbao (hl:DE X l f):DI X tg l (iDict f):=zbcc (zyg hl) fun τ H R hq0=>by
 obtain⟨ρ,σ,st,xs,st',a,rp,e,q⟩:=hq0;obtain⟨x,st1,e1,e⟩:=za e;refine⟨ρ,σ,st,x,st1,a,rp,e1,fun ρ1 H1 u x1 rp1 a1=>?_⟩;split at e
 ·rename_i n;split at e
  ·rename_i kvs hn;cases e;obtain⟨p,rfl,hp,vs,g1,g2⟩:=zco rp1 a1 hn (by intro z;cases z);refine⟨p,vs,kvs.map (·.1),rfl,g1,g2.keys,fun ob ps h1 h2=>?_⟩;have E:Ext ρ1 H1 ρ1 (upd H1 p (.frz ob (.dT vs))):=Ext.wr hp (zgh g1) _;have R:Rep X.K ρ1 (st1.set n (.fT kvs)) (upd H1 p (.frz ob (.dT vs))):=rp1.wr hp (zgh g1) ⟨vs,ob,zk,g2.ext E⟩;refine q _ _ _ (x1.trans E) R ⟨fun ρ2 H2 x2 i d e=>?_,fun ρ2 H2 x2 i h=>?_⟩
   ·have e2:(ps.map (·.2))[i]?=(kvs.map (·.1))[i]?:=by rw[h1]
    unfold aJ at e;rw[xcb,← e2,xcb] at e;cases hi:ps[i]? with
    | none=>rw[hi] at e;cases e
    | some x =>
     rw[hi] at e;cases e;refine⟨⟨(xbm.mp hi).1,x2.frz _ _ _ zk⟩,fun y H3 hy=>?_⟩;obtain⟨rfl,x',hx',rfl⟩:=hy;rw[hi] at hx';cases hx';have ht:=h2 x (xby hi);have a3:At X.K ρ1 H1 (aL x.2) (.ref x.1):=.tup ht (zkj rp1 ht) (zhe _);exact⟨.refl _ _,fun _ r=>⟨r,(a3.ext E).extG x2⟩⟩
   ·have e2:=congrArg List.length h1;rw[xbc] at e2;unfold aJ at h;rw[xbc,← e2] at h;exact⟨h,x2.frz _ _ _ zk⟩
  ·cases e
 ·cases e
end
noncomputable def forF (bd:SG) (body:SS):List D->SS
 | [],σ,st=>.ok (.nx σ) st
 | x::xs,σ,st=>match bd x σ with
  | none=>.stuck
  | some σ1=>match body σ1 st with
   | .ok (.nx σ2) st2=>forF bd body xs σ2 st2
   | .ok (.ct σ2) st2=>forF bd body xs σ2 st2
   | .ok (.brk σ2) st2=>.ok (.nx σ2) st2
   | r=>r
noncomputable def sFor (it:SA) (bd:SG) (body:SS):SS:=fun σ st=>(it σ st).bind fun xs st1=>forF bd body xs σ st1
noncomputable def whileF (c:ST) (body:SS):Nat->SS
 | 0,_,_=>.stuck
 | n+1,σ,st=>(c σ st).bind fun b st1=>if b=true then(match body σ st1 with
  | .ok (.nx σ2) st2=>whileF c body n σ2 st2
  | .ok (.ct σ2) st2=>whileF c body n σ2 st2
  | .ok (.brk σ2) st2=>.ok (.nx σ2) st2
  | r=>r) else .ok (.nx σ) st1
noncomputable def wCap:Nat:=1000000
noncomputable def sWhile (c:ST) (body:SS):SS:=whileF c body wCap
theorem zsu {α:Type}{xs:List α}{i:Nat}(h:i < xs.length):∃x,xs[i]?=some x/\xs.drop i=x::xs.drop (i+1):=⟨xs[i],xbf h,xfq h⟩
section
variable {X:Cx}{tg iter c:Expr}{body:List Stmt}{it:SA}{bd:SG}{b:SS}{t:ST}{pos:Pos}
theorem zbfm (hp:PassesOwn (model X.prog X.w) X.A X.env X.xe)(hc:X.calm=true)(hi:DI X tg iter it)(hg:DG X tg bd)(hb:DSs X body b)(hs:∀x,foldedSetIterable iter X.env x=pure x:=by intro _;rfl) :
  DSt X (.For tg iter body [] pos) (sFor it bd b):=zph (zbdf hp hc hi hg hb hs) fun E τ H hq0=>by
 obtain⟨ρ,σ,st,fl,st',a,rp,e,q⟩:=hq0;obtain⟨xs,st1,e1,e⟩:=za e;refine⟨ρ,σ,st,xs,st1,a,rp,e1,fun ρ1 H1 J x1 rp1 ok=>?_⟩;have q1:=q.ext x1;refine⟨fun i m τ' H'=>i+m=xs.length/\∃ρ2 σ2 st2,Ext ρ1 H1 ρ2 H'/\AtS X.K ρ2 H' σ2 τ'/\Rep X.K ρ2 st2 H'/\forF bd b (xs.drop i) σ2 st2=.ok fl st',⟨xs.length,by lia,ρ1,σ,st1,.refl _ _,a.ext x1,rp1,e⟩,?_⟩;rintro i m τ' H' ⟨him,ρ2,σ2,st2,x2,a2,rp2,e2⟩;rcases xho i xs.length with hlt | hge
 ·obtain⟨x,hx,hd⟩:=zsu hlt;rw[hd] at e2;obtain⟨go,yl⟩:=ok.item ρ2 H' x2.toG i x hx;refine .inr ⟨go,fun τ3 H3=>∃ρ3 σ3 st3,Ext ρ1 H1 ρ3 H3/\AtS X.K ρ3 H3 σ3 τ3/\Rep X.K ρ3 st3 H3/\forF bd b (xs.drop (i+1)) σ3 st3=.ok fl st',fun τ3 H3 ⟨ρ3,σ3,st3,n1,n2,n3,n4⟩=>⟨m - 1,by lia,by lia,ρ3,σ3,st3,n1,n2,n3,n4⟩,fun y H3 hy=>?_⟩;obtain⟨y1,y4⟩:=yl y H3 hy;obtain⟨y2,y3⟩:=y4 _ rp2;unfold forF at e2;cases hbd:bd x σ2 with
  | none=>rw[hbd] at e2;cases e2
  | some σ1 =>
   rw[hbd] at e2;dsimp only at e2;have X3:=x2.trans y1;refine⟨ρ2,σ2,x,σ1,a2.ext y1,y3,hbd,fun τ4 a4=>?_⟩;cases hr:b σ1 st2 with
   | stuck=>rw[hr] at e2;cases e2
   | exc z w=>rw[hr] at e2;cases e2
   | ok fb st3 =>
    rw[hr] at e2;refine⟨ρ2,σ1,st2,fb,st3,a4,y2,hr,?_⟩;cases fb with
    | nx σ3=>exact fun ρ' H'' τ5 x5 rp5 a5=>⟨ρ',σ3,st3,X3.trans x5,a5,rp5,e2⟩
    | ct σ3=>exact fun ρ' H'' τ5 x5 rp5 a5=>⟨ρ',σ3,st3,X3.trans x5,a5,rp5,e2⟩
    | brk σ3 =>
     dsimp only at e2;cases e2;exact fun ρ' H'' τ5 x5 rp5 a5=>q1 _ _ _ (X3.trans x5) rp5 a5
    | ret v =>
     dsimp only at e2;cases e2;exact fun ρ' H'' u x5 rp5 a5=>q1 _ _ _ (X3.trans x5) rp5 a5
 ·rw[xhi hge] at e2;unfold forF at e2;cases e2;exact .inl ⟨ok.done ρ2 H' x2.toG i hge,q1 _ _ _ x2 rp2 a2⟩
theorem zvf (hp:PassesOwn (model X.prog X.w) X.A X.env X.xe)(hc:DT X c t)(hb:DSs X body b):DSt X (.While c body [] pos) (sWhile t b):=zph (ztt hp hc hb) fun E τ H hq0=>by
 obtain⟨ρ,σ,st,fl,st',a,rp,e,q⟩:=hq0;unfold sWhile at e;generalize wCap=n at e;refine⟨fun m τ' H'=>∃ρ2 σ2 st2,Ext ρ H ρ2 H'/\AtS X.K ρ2 H' σ2 τ'/\Rep X.K ρ2 st2 H'/\whileF t b m σ2 st2=.ok fl st',⟨n,ρ,σ,st,.refl _ _,a,rp,e⟩,?_⟩;rintro m τ' H' ⟨ρ2,σ2,st2,x2,a2,rp2,e2⟩;cases m with
 | zero=>unfold whileF at e2;cases e2
 | succ m =>
  unfold whileF at e2;obtain⟨x,st3,e3,e4⟩:=za e2;refine⟨ρ2,σ2,st2,x,st3,a2,rp2,e3,fun ρ3 H3 x3 rp3=>?_⟩;have X3:=x2.trans x3;cases x with
  | false =>
   rw[if_neg (by decide)] at e4;cases e4;exact iteF (q _ _ _ X3 rp3 (a2.ext x3))
  | true =>
   rw[if_pos rfl] at e4;refine iteT ⟨fun τ4 H4=>∃ρ4 σ4 st4,Ext ρ H ρ4 H4/\AtS X.K ρ4 H4 σ4 τ4/\Rep X.K ρ4 st4 H4/\whileF t b m σ4 st4=.ok fl st',fun τ4 H4 hh=>⟨m,xjk m,hh⟩,?_⟩;cases hr:b σ2 st3 with
   | stuck=>rw[hr] at e4;cases e4
   | exc z w=>rw[hr] at e4;cases e4
   | ok fb st5 =>
    rw[hr] at e4;refine⟨ρ3,σ2,st3,fb,st5,a2.ext x3,rp3,hr,?_⟩;cases fb with
    | nx σ3=>exact fun ρ' H'' τ5 x5 rp5 a5=>⟨ρ',σ3,st5,X3.trans x5,a5,rp5,e4⟩
    | ct σ3=>exact fun ρ' H'' τ5 x5 rp5 a5=>⟨ρ',σ3,st5,X3.trans x5,a5,rp5,e4⟩
    | brk σ3 =>
     dsimp only at e4;cases e4;exact fun ρ' H'' τ5 x5 rp5 a5=>q _ _ _ (X3.trans x5) rp5 a5
    | ret v =>
     dsimp only at e4;cases e4;exact fun ρ' H'' u x5 rp5 a5=>q _ _ _ (X3.trans x5) rp5 a5
end
noncomputable def compF (bd:SG) (c:ST) (f:SE):List D->DS->Store->Res (List D)
 | [],_,st=>.ok [] st
 | x::xs,σ,st=>match bd x σ with
  | none=>.stuck
  | some σ1=>(c σ1 st).bind fun b st1=>if b=true then(f σ1 st1).bind fun y st2=>(compF bd c f xs σ1 st2).bind fun ys st3=>.ok (y::ys) st3 else compF bd c f xs σ1 st1
noncomputable def aT (k:Nat) (is:List Nat) (σ:DS):DS:=List.replicate k none++is.map fun i=>(σ[i]?).getD none
noncomputable def aG (it:SA) (k:Nat) (is:List Nat) (bd:SG) (c:ST) (f:SE):SE:=fun σ st=>(it σ st).bind fun xs st1=>if xs.length<=sizeLine then(compF bd c f xs (aT k is σ) st1).bind fun ys st2=>.ok (.lst ys) st2 else .stuck
noncomputable def aI:ST:=fun _ st=>.ok true st
theorem AtS.start {K:Fg}{ρ:Loc}{H:Hp}{σ:DS}{τ:St}(h:AtS K ρ H σ τ)(k:Nat)(is:List Nat):AtS K ρ H (aT k is σ) (startC k is τ):=by
 have app:∀{a c:DS} {b d:St},AtS K ρ H a b->AtS K ρ H c d->AtS K ρ H (a++c) (b++d):=fun h1 h2=>by
  induction h1 with
  | nil=>exact h2
  | cons r t ih=>exact .cons r ih
 refine app ?_ ?_
 ·induction k with
  | zero=>exact .nil
  | succ k ih=>exact .cons (fun d e=>nomatch e) ih
 ·induction is with
  | nil=>exact .nil
  | cons i is ih =>
   refine .cons (fun d e=>?_) ih;have e:(σ[i]?).getD none=some d:=e;have e':σ[i]?=some (some d):=by
    cases q:σ[i]? with
    | none=>rw[q] at e;cases e
    | some o=>rw[q] at e;exact congrArg some e
   obtain⟨u,hu,a⟩:=h.get e';exact⟨u,by show(τ[i]?).getD none=some u;rw[hu];rfl,a⟩
noncomputable def Loc.with (ρ:Loc) (p:Addr):Loc:=⟨ρ.m,p::ρ.g⟩
theorem zws {ρ:Loc}{H:Hp}{p:Addr}{o:HO}(hp:H p=none):Mv ρ H (ρ.with p) (upd H p o):=⟨fun e n=>⟨by rw[zn (zh e hp)];exact e,n.1,fun z=>by
 rcases xcc.mp z with z | z
 ·exact zh e hp z
 ·exact n.2 z⟩,xbd _,fun _ _ _ e=>e⟩
theorem At.with {K:Fg}{ρ:Loc}{H:Hp}{p:Addr}{o:HO}(hp:H p=none){d:D}{v:V}(h:At K ρ H d v):At K (ρ.with p) (upd H p o) d v:=h.mv (zws hp)
theorem zss {ρ ρ':Loc}{H:Hp}{p:Addr}{o:HO}(hm:ρ'.m=ρ.m)(hg:p∈ρ.g)(hs:∀a,a∈ρ'.g->a∈ρ.g):Mv ρ H ρ' (upd H p o):=⟨fun e n=>⟨by rw[zn (by rintro rfl;exact n.2 hg)];exact e,by rw[hm];exact n.1,fun z=>n.2 (hs _ z)⟩,by rw[hm];exact xbd _,fun _ _ _ e=>by rw[hm] at e;exact e⟩
theorem At.grow {K:Fg}{ρ ρ':Loc}{H:Hp}{p:Addr}{o:HO}(hm:ρ'.m=ρ.m)(hg:p∈ρ.g)(hs:∀a,a∈ρ'.g->a∈ρ.g){d:D}{v:V}(h:At K ρ H d v):At K ρ' (upd H p o) d v:=h.mv (zss hm hg hs)
theorem AtAll.grow {K:Fg}{ρ ρ':Loc}{H:Hp}{p:Addr}{o:HO}(hm:ρ'.m=ρ.m)(hg:p∈ρ.g)(hs:∀a,a∈ρ'.g->a∈ρ.g){d:List D}{v:List V}(h:AtAll K ρ H d v):AtAll K ρ' (upd H p o) d v:=h.mv (zss hm hg hs)
theorem OAt.map {K:Fg}{ρ ρ':Loc}{H H':Hp}{a:Addr}{x:O}(k:∀d v,At K ρ H d v->At K ρ' H' d v)(fz:∀b ob u,H b=some (.frz ob u)->H' b=some (.frz ob u))(same:H' a=H a)(h:OAt K ρ H x a):OAt K ρ' H' x a:=by
 have ka:∀{d:List D} {v:List V},AtAll K ρ H d v->AtAll K ρ' H' d v:=fun {d v} h=>by
  induction d generalizing v with
  | nil=>cases h;exact .nil
  | cons x xs ih=>cases h with | cons a b=>exact .cons (k _ _ a) (ih b)
 cases x with
 | lst xs=>obtain⟨vs,q,r⟩:=h;exact⟨vs,by rw[same];exact q,ka r⟩
 | dT kvs=>obtain⟨vs,q,r⟩:=h;exact⟨vs,by rw[same];exact q,Paired.mapP r fun p q z=>⟨z.1,k _ _ z.2⟩⟩
 | fT kvs=>obtain⟨vs,ob,q,r⟩:=h;exact⟨vs,ob,by rw[same];exact q,Paired.mapP r fun p q z=>⟨z.1,k _ _ z.2⟩⟩
 | dI kvs=>obtain⟨vs,q,r⟩:=h;exact⟨vs,by rw[same];exact q,Paired.mapP r fun p q z=>⟨z.1,k _ _ z.2⟩⟩
 | dP ks=>obtain⟨vs,q,n,l,u,r⟩:=h;exact⟨vs,by rw[same];exact q,n,l,u,r.map k⟩
 | dead=>exact h.elim
 | tab=>obtain⟨c,ps,q,r⟩:=h;exact⟨c,ps,by rw[same];exact q,r.map fz⟩
theorem Rep.with {K:Fg}{ρ:Loc}{st:Store}{H:Hp}{p:Addr}(r:Rep K ρ st H)(hp:H p=none)(vs:List V):Rep K (ρ.with p) st (upd H p (.lst vs)) :=
 ⟨r.len,r.inj,fun m b y e1 e2=>by
  have q:=r.obj m b y e1 e2;obtain⟨u,hu⟩:=q.has;exact q.map (fun d v h=>h.with hp) (fun b ob u e=>by rw[zn (zh e hp)];exact e) (zn (zh hu hp)),fun a ha=>by
  rcases xcc.mp ha with rfl | ha
  ·exact⟨⟨vs,zk⟩,(zha r hp).1⟩
  ·obtain⟨⟨ws,h1⟩,h2⟩:=r.gh a ha
   exact⟨⟨ws,by rw[zn (zh h1 hp)];exact h1⟩,h2⟩,r.live⟩
theorem Rep.grow {K:Fg}{ρ ρ':Loc}{st:Store}{H:Hp}{p:Addr}(r:Rep K ρ st H)(hm:ρ'.m=ρ.m)(hg:p∈ρ.g)(hs:∀a,a∈ρ'.g->a∈ρ.g)(vs:List V):Rep K ρ' st (upd H p (.lst vs)) :=
 ⟨by rw[hm];exact r.len,by rw[hm];exact r.inj,fun m b y e1 e2=>by
  rw[hm] at e1;refine(r.obj m b y e1 e2).map (fun d v h=>h.grow hm hg hs) (fun b ob u e=>by rw[zn (by rintro rfl;obtain⟨⟨_,z⟩,_⟩:=r.gh _ hg;rw[e] at z;cases z)];exact e) (zn ?_);rintro rfl;exact(r.gh b hg).2 (xby e1),fun a ha=>by
  obtain⟨⟨ws,h1⟩,h2⟩:=r.gh a (hs a ha);refine⟨?_,by rw[hm];exact h2⟩;by_cases e:a=p
  ·subst e;exact⟨vs,zk⟩
  ·exact⟨ws,by rw[zn e];exact h1⟩,by rw[hm];exact r.live⟩
theorem AtS.map {K:Fg}{ρ ρ':Loc}{H H':Hp}{σ:DS}{τ:St}(k:∀d v,At K ρ H d v->At K ρ' H' d v)(h:AtS K ρ H σ τ):AtS K ρ' H' σ τ:=Paired.mapP h fun o v z d e=>by
 obtain⟨u,e1,a⟩:=z d e;exact⟨u,e1,k _ _ a⟩
section
variable {X:Cx}{tg iter elt:Expr}{ifs:List Expr}{it:SA}{bd:SG}{c:ST}{f:SE}{N:List Str}{k:Nat}{is:List Nat}{scope:Scope}{pos:Pos}
inductive CI (K:Fg) (bd:SG) (c:ST) (f:SE) (xs ys:List D) (st2:Store) (ρ1:Loc) (H1:Hp) (p:Addr) (i:Nat) (τ:St) (H':Hp):Prop where
 | mk {ρ2:Loc} {σ2:DS} {st3:Store} {acc:List D} {accV:List V} {zs:List D} (x2:ExtG ρ1 H1 ρ2 H') (hg:ρ2.g=p::ρ1.g) (hpp:H' p=some (.lst accV)) (hal:AtAll K ρ2 H' acc accV) (hli:acc.length<=i) (a2:AtS K ρ2 H' σ2 τ) (rp2:Rep K ρ2 st3 H') (e3:compF bd c f (xs.drop i) σ2 st3=.ok zs st2) (hac:acc++zs=ys):CI K bd c f xs ys st2 ρ1 H1 p i τ H'
theorem zbgf {K:Fg}{τ:St}{H:Hp}{Q:V->Hp->Prop}{ρ:Loc}{σ:DS}{st st1 st2:Store}{xs ys:List D}(a:AtS K ρ H σ τ)(rp:Rep K ρ st H)(e1:it σ st=.ok xs st1)(hlen:xs.length<=sizeLine)(e2:compF bd c f xs (aT k is σ) st1=.ok ys st2)
 (fin:∀ρ1 H1 p ρ2 H' accV,Ext ρ H ρ1 H1->Rep K ρ1 st1 H1->H1 p=none->ExtG ρ1 H1 ρ2 H'->ρ2.g=p::ρ1.g->H' p=some (.lst accV)->AtAll K ρ2 H' ys accV->Rep K ρ2 st2 H'->Q (.ref p) H'):tComp (iD K it) k is (gD K bd) (tDT K c) (tD K f) τ H Q:=by
 refine⟨ρ,σ,st,xs,st1,a,rp,e1,fun ρ1 H1 J x1 rp1 ok p hp=>?_⟩
 refine⟨fun i m τ' H'=>i+m=xs.length/\CI K bd c f xs ys st2 ρ1 H1 p i τ' H',
  ⟨xs.length,by lia,.mk ?_ rfl zk .nil (xed _) (((a.ext x1).start k is).map fun d v h=>h.with hp) (rp1.with hp []) e2 rfl⟩,?_⟩
 ·have E:Ext ρ1 H1 ρ1 (upd H1 p (.lst [])):=Ext.new hp _
  exact⟨E.len,E.old,E.keep,fun a h=>by
   rcases xcc.mp h with rfl | h
   ·exact .inr hp
   ·exact .inl h,E.frz⟩
 rintro i m τ' H' ⟨him,@⟨ρ2,σ2,st3,acc,accV,zs,x2,hg,hpp,hal,hli,a2,rp2,e3,hac⟩⟩;have hpg:p∈ρ2.g:=by rw[hg];exact xbp
 rcases xho i xs.length with hlt | hge
 ·obtain⟨x,hx,hd⟩:=zsu hlt;rw[hd] at e3;obtain⟨go,yl⟩:=ok.item ρ2 H' x2 i x hx
  refine .inr ⟨go,CI K bd c f xs ys st2 ρ1 H1 p (i+1),
   fun τ4 H4 hh=>⟨m - 1,by lia,by lia,hh⟩,fun y H3 hy=>?_⟩
  obtain⟨y1,y4⟩:=yl y H3 hy;obtain⟨y2,y3⟩:=y4 _ rp2;unfold compF at e3;cases hbd:bd x σ2 with
  | none=>rw[hbd] at e3;cases e3
  | some σ1 =>
   rw[hbd] at e3;dsimp only at e3;obtain⟨bb,st4,e4,e5⟩:=za e3;refine⟨ρ2,σ2,x,σ1,a2.ext y1,y3,hbd,fun τ4 a4=>?_⟩;have hpm:some p∉ρ2.m:=(rp2.gh p hpg).2;have hpp3:=(y1.keep p _ hpp hpm).1;refine⟨ρ2,σ1,st3,bb,st4,a4,y2,e4,fun ρ5 H5 x5 rp5=>?_⟩;have hpp5:=(x5.keep p _ hpp3 hpm).1;have hal5:=(hal.ext y1).ext x5;have g5:ρ5.g=p::ρ1.g:=x5.gho.trans hg;cases bb with
   | false =>
    rw[if_neg (by decide)] at e5;exact iteF (.mk ((x2.then y1).then x5) g5 hpp5 hal5 (xes hli) (a4.ext x5) rp5 e5 hac)
   | true =>
    rw[if_pos rfl] at e5;obtain⟨w,st6,e6,e7⟩:=za e5;obtain⟨zs',st7,e8,e9⟩:=za e7;cases e9;refine iteT ⟨ρ5,σ1,st4,w,st6,a4.ext x5,rp5,e6,fun ρ6 H6 u x6 rp6 a6=>?_⟩;have hpm5:some p∉ρ5.m:=(x5.keep p _ hpp3 hpm).2;have hpp6:=(x6.keep p _ hpp5 hpm5).1;have g6:ρ6.g=p::ρ1.g:=x6.gho.trans g5;have hp6:p∈ρ6.g:=by rw[g6];exact xbp
    have hl6:accV.length<=i:=by rw[hal.length];exact hli
    refine⟨accV,hpp6,xcv hl6 (xbg hlt hlen),.mk (acc:=acc++[w]) (accV:=accV++[u]) ?_ g6 zk ?_ (by rw[xbo];exact xeo hli) ?_ (rp6.grow rfl hp6 (fun _ h=>h) _) e8 (by rw[← hac,xbq];rfl)⟩
    ·have G:=((x2.then y1).then x5).then x6;refine⟨G.len,G.old,fun b o e n=>?_,G.gho,fun b ob uu e=>?_⟩
     ·rw[zn (zh e hp)];exact G.keep b o e n
     ·rw[zn (zh e hp)];exact G.frz b ob uu e
    ·exact((hal5.ext x6).append (.cons a6 .nil)).grow rfl hp6 (fun _ h=>h)
    ·exact(a4.ext (x5.trans x6)).map fun d v h=>h.grow rfl hp6 (fun _ h=>h)
 ·rw[xhi hge] at e3;unfold compF at e3;cases e3;rw[xdz] at hac;subst hac;exact .inl ⟨ok.done _ _ x2 i hge,fin _ _ _ _ _ _ x1 rp1 hp x2 hg hpp hal rp2⟩
theorem zbge {K:Fg}:∀τ H Q,tD K (aG it k is bd c f) τ H Q->tComp (iD K it) k is (gD K bd) (tDT K c) (tD K f) τ H Q:=fun τ H Q hq0=>by
 obtain⟨ρ,σ,st,v,st',a,rp,e,q⟩:=hq0;obtain⟨xs,st1,e1,e⟩:=za e;split at e
 ·rename_i hlen;obtain⟨ys,st2,e2,e⟩:=za e;cases e;refine zbgf a rp e1 hlen e2 fun ρ1 H1 p ρ2 H' accV x1 rp1 hp x2 hg hpp hal rp2=>?_
  have hpg:p∈ρ2.g:=by rw[hg];exact xbp
  have hpm:some p∉ρ2.m:=(rp2.gh p hpg).2;have self:upd H' p (.lst accV)=H':=zte hpp;have sub:∀a,a∈(⟨ρ2.m,ρ1.g⟩:Loc).g->a∈ρ2.g:=fun b hb=>by rw[hg];exact xbl _ hb
  have E:Ext ρ1 H1 ⟨ρ2.m,ρ1.g⟩ H':=⟨x2.len,x2.old,x2.keep,rfl,x2.frz⟩
  have R:=rp2.grow (ρ':=⟨ρ2.m,ρ1.g⟩) rfl hpg sub accV;have L:=AtAll.grow (ρ:=ρ2) (ρ':=⟨ρ2.m,ρ1.g⟩) (o:=.lst accV) rfl hpg sub hal;rw[self] at R L;refine q _ _ _ (x1.trans E) R (.lst hpp ⟨hpm,fun z=>?_⟩ L);obtain⟨⟨ws,h1⟩,_⟩:=rp1.gh p z;rw[hp] at h1;cases h1
 ·cases e
theorem zbgb (hcalm:X.calm=true)(hi:DI X tg iter it)(hg:∀cl C fp s H,DG (cxC X N scope cl C fp s H) tg bd)(hc:∀cl C fp s H,PIf (cxC X N scope cl C fp s H) ifs (tDT X.K c))(he:∀cl C fp s H,DE (cxC X N scope cl C fp s H) elt f)
 (S:CompScope X N k is scope)(hs:∀x,foldedSetIterable iter X.env x=pure x:=by intro _;rfl):DE X (.ListComp elt [⟨tg,iter,ifs,0⟩] scope pos) (aG it k is bd c f):=zey (zym hcalm hi hg hc he S hs) zbge
theorem zban {X:Cx}:PIf X [] (tDT X.K aI):=fun aU s σ H Q I hq0=>by
 obtain⟨ρ,σ',st,v,st',a,rp,e,q⟩:=hq0;cases e;exact zye aU s σ H Q I (q _ _ (.refl _ _) rp)
theorem zbam {X:Cx}{c:Expr}{t:ST}(h:DT X c t):PIf X [c] (tDT X.K t):=zyd h
end
end Dd
namespace Dd
open PySem L2 PyProof.Rows
noncomputable def spD (K:Fg) (np:Nat) (F:DFn):Sp:=fun vs H Q _=>∃ρ ds st v st',AtAll K ρ H ds vs/\Rep K ρ st H/\F ds st=.ok v st'/\vs.length=np/\∀ρ' H' u,Ext ρ H ρ' H'->Rep K ρ' st' H'->At K ρ' H' v u->Q u H'
noncomputable def CalD (P:Program) (w:World) (K:Fg) (mg:Str->Option Value) (base:Heap) (x:Str) (k:Nat) (ps:List Str) (F:DFn):Prop:=Callee P w K mg base x k ps (spD K ps.length F)
noncomputable def fnD (n np:Nat) (body:SS):DFn:=fun ds st=>if ds.length=np then(match body (ds.map some++List.replicate (n - np) none) st with
 | .ok (.ret v) st'=>.ok v st'
 | .ok (.nx _) st'=>.ok .non st'
 | .exc x st'=>.exc x st'
 | _=>.stuck) else .stuck
section
variable {X:Cx}{x:Str}{k:Nat}{ps:List Str}{F:DFn}{p pos:Pos}{e:Expr}{es:List Expr}{g:SA}
theorem zbgg {K:Fg}{np:Nat}{f:SA}(hn:∀ds st v st',F ds st=.ok v st'->ds.length=np):∀τ H Q,tD K (aE F f) τ H Q->tCall (spD K np F) [] E0 (tDA K f) τ H Q:=fun τ H Q hq0=>by
 obtain⟨ρ,σ,st,v,st',a,rp,e,q⟩:=hq0;obtain⟨x,st1,e1,e⟩:=za e;refine⟨ρ,σ,st,x,st1,a,rp,e1,fun ρ1 H1 u x1 rp1 a1=>?_⟩;show spD K np F (u++[]) H1 Q E0;rw[xdz];exact⟨ρ1,x,st1,v,st',a1,rp1,e,by rw[a1.length];exact hn _ _ _ _ e,fun ρ' H' w x2=>q ρ' H' w (x1.trans x2)⟩
theorem zbgc (c:CalD X.prog X.w X.K X.mg X.base x k ps F)(hn:∀ ds st v st', F ds st=.ok v st'->ds.length=ps.length)(hr:Room k X.A)(hg:Gl X x)(ha:DA X (e::es) g)(hdb:(x==("__debug__" : Str))=false:=by decide)
 (he:starEach (e::es) X.env=(false,eval e X.env)::starEach es X.env:=by rfl)(hpl:(backTo pos (starEach es X.env)).any (·.1)=false:=by rfl) :
 DE X (.Call (.Name x p) (e::es) [] pos) (aE F g):=zey (zue c hr hg ha hdb he hpl) (zbgg hn)
theorem zzu {n np:Nat}{b:SS}{ds:List D}{st st':Store}{v:D}(h:fnD n np b ds st=.ok v st'):ds.length=np:=by
 unfold fnD at h;split at h
 ·assumption
 ·cases h
end
theorem AtAll.some {K:Fg}{ρ:Loc}{H:Hp}:∀{ds:List D} {vs:List V},AtAll K ρ H ds vs->AtS K ρ H (ds.map Option.some) (vs.map Option.some)
 | _,_,.nil=>.nil
 | _,_,.cons a b=>.cons (fun d e=>by cases e;exact⟨_,rfl,a⟩) (AtAll.some b)
theorem AtS.append {K:Fg}{ρ:Loc}{H:Hp}:∀{a c:DS} {b d:L2.St},AtS K ρ H a b->AtS K ρ H c d->AtS K ρ H (a++c) (b++d)
 | _,_,_,_,.nil,h=>h
 | _,_,_,_,.cons r t,h=>.cons r (AtS.append t h)
theorem AtS.nones {K:Fg}{ρ:Loc}{H:Hp}:∀n,AtS K ρ H (List.replicate n none) (List.replicate n none)
 | 0=>.nil
 | n+1=>.cons (fun d e=>nomatch e) (AtS.nones n)
theorem zbbr {K:Fg}{N:List Str}{np:Nat}{b:SS}{vs:List V}{H:Hp}{Q:VK}{E:XK}(h:spD K np (fnD N.length np b) vs H Q E):tDS K b {nx:=fun _ H'=>Q .non H',rt:=Q} (L2.start N vs) H:=by
 obtain⟨ρ,ds,st,v,st',a,rp,e,hl,q⟩:=h;have hd:ds.length=np:=by rw[← a.length];exact hl
 unfold fnD at e;rw[if_pos hd] at e;have as:AtS K ρ H (ds.map Option.some++List.replicate (N.length - np) none) (L2.start N vs):=by
  unfold L2.start;rw[hl];exact a.some.append (.nones _)
 refine⟨ρ,ds.map Option.some++List.replicate (N.length - np) none,st,?_⟩;cases hr:b (ds.map Option.some++List.replicate (N.length - np) none) st with
 | stuck=>rw[hr] at e;cases e
 | exc z w=>rw[hr] at e;cases e
 | ok fl st1 =>
  rw[hr] at e;cases fl with
  | ret w =>
   dsimp only at e;cases e;exact⟨.ret v,st',as,rp,rfl,fun ρ' H' u x r t=>q ρ' H' u x r t⟩
  | nx σ =>
   dsimp only at e;cases e;exact⟨.nx σ,st',as,rp,rfl,fun ρ' H' τ x r t=>q ρ' H' .non x r .non⟩
  | brk σ=>cases e
  | ct σ=>cases e
theorem zbbl {P:Program}{w:World}{K:Fg}{mg:Str->Option Value}{base h:Heap}{x:Str}{st:Stmt}{N ps:List Str}{k:Nat}{b:SS}(T:TopF K x st)(X:K.In h)(G:h.Ns mainGlobals mg)(S:FnScope N ps (defScope st))
  (bd:∀(kV doc pm:Value) (an:Option Addr) (cdv ct:Value) (us:List Value),us.length=ps.length->bindArgs (W.fnOf x x (defArgs st) (defBody st) (defScope st) .none kV doc pm an cdv ct) ⟨us,[]⟩=pure (ps.zip us))
  (hbody:∀(f:Addr) (cdv:Value) (A:Around) (outer:List Env) (s:Shared) (H:Hp) (E:XK),Room k (A.deeper (envOfC x (defScope st) s.heap.objs.size f cdv)) ->
   DSs (cxOf CX0 P w K mg base N x (defScope st) f cdv A outer s H E).nox (defBody st) b):CalD P w K mg base x (k+1) ps (fnD N.length ps.length b) :=
 zry T X G S bd (fun vs H Q E hh=>by obtain⟨ρ,ds,st,v,st',a,rp,e,hl,q⟩:=hh;exact hl) fun f cdv A outer s H vs Q E hr hh=>⟨_,hbody f cdv A outer s H E hr,zbbr hh⟩
noncomputable def spLaw (K:Fg):Sp:=fun vs H Q _=>∃(a:Addr) (ns:List Int),vs=[.ref a]/\SqL K H a (ns.map V.int)/\ns.length<=63/\∀H',Q (.bl true) H'
theorem zbek {P:Program}{w:World}{K:Fg}{mg:Str->Option Value}{base:Heap}{st:Stmt}{N ps:List Str}{k:Nat}{b:SS}{f:Addr}{fd:FuncData}(F:Fun K "law" "law" st f fd)(S:FnScope N ps (defScope st))(hp:ps.length=1)
  (hbody:∀(cdv:Value) (A:Around) (outer:List Env) (s:Shared) (H:Hp) (E:XK), Room k (A.deeper (envOfC "law" (defScope st) s.heap.objs.size f cdv)) ->
   DSs (cxOf CX0 P w K mg base N "law" (defScope st) f cdv A outer s H E).nox (defBody st) b)
  (holds:∀ns:List Int,ns.length<=63->∃st',fnD N.length 1 b [.scr (ns.map .int)] []=.ok (.bl true) st'):FnOk P w K mg base CX0 (k+1) f fd ps (spLaw K):=by
 refine F.ok S (fun vs H Q E hh=>?_) (fun cdv A outer s H vs Q E hr hh=>⟨_,hbody cdv A outer s H E hr,?_⟩)
 ·obtain⟨a,ns,rfl,_⟩:=hh;exact hp.symm
 ·obtain⟨a,ns,rfl,hS,hl,q⟩:=hh;obtain⟨st',e⟩:=holds ns hl;refine zbbr (np:=1) (E:=E) ⟨⟨[],[]⟩,[.scr (ns.map .int)],[],_,st',.cons (.scr ?_ (zhe ns)) .nil,⟨rfl,fun n m a e _=>by simp at e,fun n a o e _=>by simp at e,fun a h=>(by cases h),fun n o e _=>by simp at e⟩,e,rfl,fun ρ' H' u x r t=>?_⟩
  ·rcases hS with h | h
   ·exact .inl ⟨h,by simp[Out]⟩
   ·exact .inr fun H'=>.inr h
  ·cases t;exact q H'
end Dd
namespace Dd
open PySem L2
noncomputable def oNeg:D->Store->Res D:=fun x st=>match x with
 | .int i=>.ok (.int (-i)) st
 | _=>.stuck
noncomputable def tru (st:Store):D->Option Bool
 | .non=>some false
 | .bl b=>some b
 | .int i=>some (i != 0)
 | .tup xs=>some !xs.isEmpty
 | d=>(asL st d).map fun xs=>!xs.isEmpty
noncomputable def eTru (f:SE):ST:=fun σ st=>(f σ st).bind fun v st1=>match tru st1 v with
 | some b=>.ok b st1
 | none=>.stuck
theorem zic {K:Fg}{ρ:Loc}{H:Hp}{ds:List D}{vs:List V}(h:AtAll K ρ H ds vs):ds.isEmpty=vs.isEmpty:=by
 cases h<;>rfl
theorem zbcm {K:Fg}{ρ:Loc}{st:Store}{H:Hp}(rp:Rep K ρ st H){d:D}{u:V}{b:Bool}(a:At K ρ H d u)(e:tru st d=some b):TruV K u H b:=by
 unfold tru at e;split at e
 ·cases a;cases e;exact rfl
 ·cases a;cases e;exact rfl
 ·cases a;cases e;exact rfl
 ·cases e;cases a with
  | tup h1 h2 h3=>exact .inr (.inl ⟨_,SqT.of h1,by rw[zic h3]⟩)
 ·obtain⟨xs,h0,rfl⟩:=xcq.mp e;obtain⟨p,vs,rfl,h1,h2⟩:=zen rp a h0;exact .inl ⟨_,SqL.of h1,by rw[zic h2]⟩
section
variable {X:Cx}{a b c e:Expr}{f f' f'':SE}{pos:Pos}{sm:Stmt}
theorem zbjl (h:DE X a f):DE X (.UnaryOp .USub a pos) (eUn oNeg f):=zey (zbig zbcj h) fun τ H Q hq0=>by
 obtain⟨ρ,σ,st,v,st',at',rp,e,q⟩:=hq0;obtain⟨x,st1,e1,e⟩:=za e;refine⟨ρ,σ,st,x,st1,at',rp,e1,fun ρ1 H1 u x1 rp1 a1=>?_⟩;cases x<;>try (cases e;done)
 cases e;cases a1;exact⟨_,rfl,q _ _ _ x1 rp1 (.int _)⟩
theorem zbff (h:DE X a f)(he:∀whole,isTrue a X.env whole=(do let v ← whole;standAt a.pos;holding [v] (truthy v)):=by intro _;rfl):DT X a (eTru f):=zbcb (ztr h he) fun τ H Q hq0=>by
 obtain⟨ρ,σ,st,v,st',at',rp,e,q⟩:=hq0;obtain⟨x,st1,e1,e⟩:=za e;refine⟨ρ,σ,st,x,st1,at',rp,e1,fun ρ1 H1 u x1 rp1 a1=>?_⟩;split at e
 ·rename_i bb hb;cases e;exact⟨_,zbcm rp1 a1 hb,q _ _ x1 rp1⟩
 ·cases e
end
end Dd
namespace Dd
open PySem PySem.Spec PyProof.Rows L2
section
variable {X:Cx}{l:Expr}{f:SE}{elts:List Expr}{k j:Nat}{tpos p pos kpos cpos:Pos}
end
end Dd
namespace Dd
open PySem L2
noncomputable def bInt:List D->Store->Res D:=fun xs st=>match xs with
 | [.int i]=>.ok (.int i) st
 | [.bl k]=>.ok (.int (if k then 1 else 0)) st
 | _=>.stuck
noncomputable def eCompM (it:SA) (k:Nat) (is:List Nat) (bd:SG) (c:ST) (f:SE):SE:=fun σ st=>(it σ st).bind fun xs st1=>if xs.length<=sizeLine then(compF bd c f xs (aT k is σ) st1).bind fun ys st2=>.ok (.ref st2.length) (st2++[.lst ys]) else .stuck
section
variable {X:Cx}{tg iter elt:Expr}{ifs:List Expr}{it:SA}{bd:SG}{c:ST}{f:SE}{N:List Str}{k:Nat}{is:List Nat}{scope:Scope}{pos:Pos}
end
noncomputable def plainE:Expr->Bool
 | .Starred _ _=>false
 | _=>true
theorem zms {e:Expr}{es:List Expr}{env:Env}(h:plainE e=true):starEach (e::es) env=(false,eval e env)::starEach es env:=by
 cases e<;>first | rfl | cases h
theorem zvn {X:Cx}{e:Expr}{es:List Expr}{f:SE}{g:SA}(ha:DE X e f)(hr:DA X es g)(hp:plainE e=true:=by rfl):DA X (e::es) (aB f g):=zbau ha hr (zms hp)
noncomputable def bBest (gt:Bool):List D->Store->Res D:=fun xs st=>match xs with
 | [x]=>match (seqOf st x).bind asInts with
  | some (n::ns)=>.ok (.int (bestI gt n ns)) st
  | _=>.stuck
 | _=>.stuck
noncomputable def pairsF:List D->List D->List D
 | x::xs,y::ys=>.tup [x,y]::pairsF xs ys
 | _,_=>[]
noncomputable def iZipT (g:SA):SA:=fun σ st=>(g σ st).bind fun xs st1=>match xs with
 | [.tup a,.tup b]=>.ok (pairsF a b) st1
 | _=>.stuck
section
variable {X:Cx}{a b:Expr}{g:SA}{elts:List Expr}{k:Nat}{tpos p pos:Pos}
end
noncomputable def sSetG (bd:SG) (f:SE):SS:=fun σ st=>(f σ st).bind fun v st1=>match bd v σ with
 | some σ1=>.ok (.nx σ1) st1
 | none=>.stuck
end Dd
namespace Dd
open PySem L2 PyProof.Rows
structure JE (X:Cx) (e:Expr) (f:SE):Prop where out:DE X e f
structure JT (X:Cx) (e:Expr) (f:ST):Prop where out:DT X e f
structure JW (X:Cx) (e:Expr) (f:ST):Prop where out:DW X e f
structure JA (X:Cx) (e:List Expr) (f:SA):Prop where out:DA X e f
structure JS (X:Cx) (s:Stmt) (f:SS):Prop where out:DSt X s f
structure JB (X:Cx) (s:List Stmt) (f:SS):Prop where out:DSs X s f
structure JO (X:Cx) (e:Option Expr) (f:DS->Store->Res (Option Int)):Prop where out:DO X e f
structure JG (X:Cx) (e:Expr) (b:SG):Prop where out:DG X e b
structure JGs (X:Cx) (e:List Expr) (b:List D->DS->Option DS):Prop where out:DGs X e b
structure JI (X:Cx) (tg iter:Expr) (f:SA):Prop where out:DI X tg iter f
structure JIf (X:Cx) (ifs:List Expr) (c:ST):Prop where out:PIf X ifs (tDT X.K c)
structure JC (X:Cx) (op:CmpOp) (a b:Expr) (f:SE):Prop where out:PC X op a b (tD X.K f)
theorem JW.pt {X:Cx}{e:Expr}{t:ST}(h:JW X e t):JT X e t:=⟨PW.pt h.out⟩
section
variable {X:Cx}
theorem zbfs {e:Expr}{i:Nat}(h:PE X e (tVar i)):JE X e (aA i):=⟨zbjg h⟩
theorem zru {e:Expr}{v:V}{d:D}(h:PE X e (tC v))(k:∀ρ H,At X.K ρ H d v):JE X e (eC d):=⟨zbga h k⟩
theorem zd {i j pos}:JE X (.Constant (.int i) j pos) (eC (.int i)):=⟨zbjn⟩
theorem zsx {b j pos}:JE X (.Constant (.bool b) j pos) (eC (.bl b)):=⟨d_bl⟩
end
section
variable {X:Cx}{a b c:Expr}{f f' f'':SE}{pos:Pos}
theorem zel {op:Operator}{r:R2}{g:D->D->Store->Res D}(ho:OpR X (binaryOp op) r)(hr:OpD X.K g r)(ha:JE X a f)(hb:JE X b f'):JE X (.BinOp a op b pos) (aS g f f'):=⟨d_op ho hr ha.out hb.out⟩
theorem zbr {op:CmpOp}{r:R2}{g:D->D->Store->Res D}(ho:OpR X (compareOp op) r)(hr:OpD X.K g r)(ha:JE X a f)(hb:JE X b f')(hm:behindInMarks op b=false):JT X (.Compare a [op] [b] pos) (eB (aS g f f')):=⟨zbfh ho hr ha.out hb.out hm⟩
end
section
variable {X:Cx}{a b:Expr}{rest:List Expr}{f f':SE}{t t':ST}{pos:Pos}
theorem zbfu {op}(h:JE X a f):JE X (.BoolOp op [a] pos) f:=⟨zbjj h.out⟩
theorem zbji (ha:JE X a f)(hb:JE X (.BoolOp .Or (b::rest) pos) f'):JE X (.BoolOp .Or (a::b::rest) pos) (eOr f f'):=⟨d_or ha.out hb.out⟩
theorem zbaw (ha:JE X a f):JE X (.UnaryOp .Not a pos) (eNot f):=⟨zbjk ha.out⟩
theorem zoi {op}(h:JT X a t)(hop:op=.And\/op=.Or):JW X (.BoolOp op [a] pos) t:=⟨zbfd h.out hop⟩
theorem zbab (ha:JT X a t)(hb:JW X (.BoolOp .And (b::rest) pos) t'):JW X (.BoolOp .And (a::b::rest) pos) (bAnd t t'):=⟨zbfe ha.out hb.out⟩
theorem zbaa (ha:JT X a t)(hb:JW X (.BoolOp .Or (b::rest) pos) t'):JW X (.BoolOp .Or (a::b::rest) pos) (bOr t t'):=⟨zbjc ha.out hb.out⟩
theorem zku (ha:JT X a t):JT X (.UnaryOp .Not a pos) (bNot t):=⟨zbfg ha.out⟩
end
section
variable {X:Cx}{e:Expr}{es:List Expr}{f:SE}{g:SA}{pos:Pos}
theorem zcu :JA X [] aC:=⟨zbfr⟩
theorem zcx {x1}(h:JA X es g):JE X (.Tuple es x1 pos) (aR g):=⟨zbjh h.out⟩
theorem zjp (h:JA X es g):JE X (.List es pos) (eLst g):=⟨zbjm h.out⟩
theorem zer (h:JA X es g):JE X (.List es pos) (eLstM g):=⟨zbfv h.out⟩
end
section
variable {X:Cx}{a b e:Expr}{f f':SE}{pos:Pos}{lo hi:Option Expr}{l h:DS->Store->Res (Option Int)}
theorem zom :JO X none pNone:=⟨zbal⟩
theorem zol (he:JE X e f):JO X (some e) (pSome f):=⟨zbak he.out⟩
theorem zkx (ha:JE X a f)(hb:JE X b f')(hs:PlainIx b):JE X (.Subscript a b pos) (aS oIx f f'):=⟨d_ix ha.out hb.out hs⟩
theorem zbhu {p2:Pos}(he:JE X e f)(hl:JO X lo l)(hu:JO X hi h):JE X (.Subscript e (.Slice lo hi none p2) pos) (eSl f l h):=⟨d_sl he.out hl.out hu.out⟩
end
section
variable {X:Cx}{x:Str}{p pos:Pos}{e:Expr}{es:List Expr}{f:SA}{id T:String}{r:List V->Hp->VK->Prop}{g:List D->Store->Res D}
theorem zq (hc:CallR X (.builtin id) r)(hr:CaD X.K g r)(hg:Gl X x)(hm:X.mg x=none)(hv:bootBuiltins x=some (.builtin id))(ha:JA X (e::es) f)(hn:x≠"__name__":=by decide)(hdb:(x==("__debug__" : Str))=false:=by decide)(he:starEach (e::es) X.env=(false, eval e X.env)::starEach es X.env:=by rfl)(hpl:(backTo pos (starEach es X.env)).any (·.1)=false:=by rfl):JE X (.Call (.Name x p) (e::es) [] pos) (aE g f):=⟨zbbe hc hr hg hm hv ha.out hn hdb he hpl⟩
theorem zed (hc:CallR X (.type T) r)(hr:CaD X.K g r)(hg:Gl X x)(hm:X.mg x=none)(hv:bootBuiltins x=some (.type T))(ha:JA X (e::es) f)(hn:x≠"__name__":=by decide)(hdb:(x==("__debug__" : Str))=false:=by decide)(he:starEach (e::es) X.env=(false, eval e X.env)::starEach es X.env:=by rfl)(hpl:(backTo pos (starEach es X.env)).any (·.1)=false:=by rfl):JE X (.Call (.Name x p) (e::es) [] pos) (aE g f):=⟨zvs hc hr hg hm hv ha.out hn hdb he hpl⟩
end
section
variable {X:Cx}{a b c o i e value f':Expr}{f g h:SE}{pos pos' apos cpos:Pos}
theorem zsw :JE X (.Dict [] [] pos) eDNew:=⟨zbfy⟩
theorem zbds (hu:X.A.units+1 < cLine)(hi:JE X i g)(ho:JE X o f):JC X .In i o (aS (oDIn false) g f):=⟨zbil hu hi.out ho.out⟩
theorem zbac {op:CmpOp}{t:SE}(h:JC X op a b t)(h1:behindInMarks op b=false:=by first | exact nobehind _ (by decide) (by decide) | rfl):JT X (.Compare a [op] [b] pos) (eB t):=⟨zbjd h.out h1⟩
theorem zbbb (hu:X.A.units+1 < cLine)(ho:JE X o f)(hi:JE X i g)(hs:NoSl i):JE X (.Subscript o i pos) (aS oDGet f g):=⟨zbfz hu ho.out hi.out hs⟩
theorem zvr (hu:X.A.units + 1 < cLine)(ho:JE X o f)(he:JE X e g)(hf:JE X f' h)(m:M2 X o "get" apos e f' cpos):JE X (.Call (.Attribute o "get" apos) [e, f'] [] cpos) (eDGet2 f g h):=⟨zbbc hu ho.out he.out hf.out m⟩
theorem zbaz (hu:X.A.units + 1 < cLine)(ho:JE X o f)(he:JE X e g)(m:M1 X o "pop" apos e cpos):JE X (.Call (.Attribute o "pop" apos) [e] [] cpos) (eDPop f g):=⟨zbfx hu ho.out he.out m⟩
theorem zoj (hu:X.A.units+1 < cLine)(ho:JE X o f)(hi:JE X i g)(hv:JE X value h)(hs:swapsWith value (some (.Subscript o i pos')) pos.line X.env=pure false):JS X (.Assign [.Subscript o i pos'] value pos) (sDPut f g h):=⟨zbag hu ho.out hi.out hv.out hs⟩
end
section
variable {X:Cx}{o e i value:Expr}{es:List Expr}{f g h:SE}{ga:SA}{pos apos cpos:Pos}
theorem zdl (ho:JE X o f)(ha:JA X (e::es) ga)(hbase:attributeBase o "append" X.env (eval o X.env)=eval o X.env:=by rfl)(hfew:((backTo cpos (starEach (e::es) X.env)).all (fun x=>!x.1)&&(backToKw cpos (keywordEach [] X.env)).all (fun x=>x.1.isSome)
 && decide ((e::es).length + ([]:List Keyword).length + (if([]:List Keyword).isEmpty then 0 else 1) < 30))=true:=by rfl) (hline:(apos.endLine==cpos.line)=true:=by rfl) (hs:starEach (e::es) X.env=(false, eval e X.env)::starEach es X.env:=by rfl) (hplain:(backTo cpos (starEach es X.env)).any (·.1)=false:=by rfl):JE X (.Call (.Attribute o "append" apos) (e::es) [] cpos) (eAppend f ga):=⟨zvt ho.out ha.out hbase hfew hline hs hplain⟩
theorem zky (ho:JE X o f)(ha:JA X (e::es) ga)(hbase:attributeBase o "extend" X.env (eval o X.env)=eval o X.env:=by rfl)(hfew:((backTo cpos (starEach (e::es) X.env)).all (fun x=>!x.1)&&(backToKw cpos (keywordEach [] X.env)).all (fun x=>x.1.isSome)
 && decide ((e::es).length + ([]:List Keyword).length + (if([]:List Keyword).isEmpty then 0 else 1) < 30))=true:=by rfl) (hline:(apos.endLine==cpos.line)=true:=by rfl) (hs:starEach (e::es) X.env=(false, eval e X.env)::starEach es X.env:=by rfl) (hplain:(backTo cpos (starEach es X.env)).any (·.1)=false:=by rfl):JE X (.Call (.Attribute o "extend" apos) (e::es) [] cpos) (eExtend f ga):=⟨zvo ho.out ha.out hbase hfew hline hs hplain⟩
theorem zbax (ho:JE X o f):JE X o (eFz f):=⟨d_fz ho.out⟩
end
section
variable {X:Cx}{e c o i value:Expr}{sm:Stmt}{rest:List Stmt}{f g h:SE}{s t:SS}{b:ST}{pos pos':Pos}
theorem zdd :JB X [] sNx:=⟨zbfl⟩
theorem zrn :JS X (.Break pos) sBrk:=⟨zvi⟩
theorem zbe (he:JE X e f):JS X (.Return (some e) pos) (sRet f):=⟨zbfj he.out⟩
theorem zbj (he:JE X e f)(hs:swapsWith e none pos.line X.env=pure false:=by rfl):JS X (.Expr e pos) (sDrop f):=⟨zbaf he.out hs⟩
theorem zbad {i:Nat}{x:Str}(hN:X.N.Nodup)(hi:X.N[i]?=some x)(hx:L2.Loc X.env.scope x)(he:JE X e f)(hs:swapsWith e (some (.Name x pos')) pos.line X.env=pure false:=by rfl)(hf:X.fn x=true\/X.env.scope.names.lookup x=some .local:=by first | exact .inl rfl | exact .inr rfl | assumption):JS X (.Assign [.Name x pos'] e pos) (aF i f):=⟨zbfi hN hi hx he.out hs hf⟩
theorem zc (h1:JS X sm s):JB X [sm] s:=⟨zbfk h1.out⟩
theorem zb (h1:JS X sm s)(h2:JB X rest t):JB X (sm::rest) (aD s t):=⟨zbah h1.out h2.out⟩
theorem zec {a' b':List Stmt}(hc:JT X c b)(ha:JB X a' s)(hb:JB X b' t):JS X (.If c a' b' pos) (sIf b s t):=⟨zbje hc.out ha.out hb.out⟩
theorem zbai {i:Nat}{x:Str}{op:Operator}{ti:TIp}{g:D->D->Store->Res D}(hN:X.N.Nodup)(hi:X.N[i]?=some x)(hx:L2.Loc X.env.scope x)(he:JE X e f)(ho:PIp X op ti)(hr:IpD X.K g ti)(hf:X.fn x=true\/X.env.scope.names.lookup x=some .local:=by first | exact .inl rfl | exact .inr rfl | assumption):JS X (.AugAssign (.Name x pos') op e pos) (sAug i g f):=⟨zbfn hN hi hx he.out ho hr hf⟩
theorem zkv (he:JE X value h)(ho:JE X o f)(hi:JE X i g)(ha:∀v,assign (.Subscript o i pos') X.env v=(do
 let ov ← holding [v] (eval o X.env)
 let iv ← holding [v,ov] (eval i X.env)
 standAt pos'
 holding [v,ov,iv] (setItem ov iv v)
 release [v,ov,iv] []):=by intro _;rfl) (hs:swapsWithSole [.Subscript o i pos'] value pos.line X.env=pure false:=by rfl) (hw:swappedStores [.Subscript o i pos'] value X.env=pure none:=by rfl) (h1:(assignEach [.Subscript o i pos'] X.env).map (·.2)=[assign (.Subscript o i pos') X.env]:=by rfl):JS X (.Assign [.Subscript o i pos'] value pos) (sSetIx f g h):=⟨zvg he.out ho.out hi.out ha hs hw h1⟩
end
section
variable {X:Cx}{pos:Pos}{e:Expr}{es:List Expr}{t:SG}{u:List D->DS->Option DS}
theorem zbg {i:Nat}{x:Str}(hN:X.N.Nodup)(hi:X.N[i]?=some x)(hx:L2.Loc X.env.scope x)(hf:X.fn x=true\/X.env.scope.names.lookup x=some .local:=by first | exact .inl rfl | exact .inr rfl | assumption):JG X (.Name x pos) (gN i):=⟨zbaq hN hi hx hf⟩
theorem zcc :JGs X [] gsNil:=⟨zbap⟩
theorem zi (h1:JG X e t)(h2:JGs X es u)(hs:(assignEach (e::es) X.env).map (·.2)=assign e X.env::(assignEach es X.env).map (·.2):=by rfl):JGs X (e::es) (gsCons t u):=⟨zvm h1.out h2.out hs⟩
theorem zdo {k:Nat}{n:Nat}(hc:X.calm=true)(h:JGs X es u)(hn:(assignEach es X.env).length=n:=by rfl)(hst:(assignEach es X.env).findIdx? (·.1)=none:=by rfl):JG X (.Tuple es k pos) (gT n u):=⟨zbfq hc h.out hn hst⟩
end
section
variable {X:Cx}{tg l a b:Expr}{f:SE}{g:SA}{p pos:Pos}
theorem zba (hl:JE X l f):JI X tg l (aH f):=⟨zbfp hl.out⟩
theorem zbl (hg:Gl X "range")(hm:X.mg "range"=none)(ha:JA X [a] g)(hs:starEach [a] X.env=[(false, eval a X.env)]:=by rfl):JI X tg (.Call (.Name "range" p) [a] [] pos) (iR1 g):=⟨zro hg hm ha.out hs⟩
end
section
variable {X:Cx}{tg l:Expr}{f:SE}
theorem zvl (hl:JE X l f):JI X tg l (iDict f):=⟨zbao hl.out⟩
end
section
variable {X:Cx}{tg iter c:Expr}{body:List Stmt}{it:SA}{bd:SG}{b:SS}{t:ST}{pos:Pos}
theorem zbae (hp:PassesOwn (model X.prog X.w) X.A X.env X.xe)(hc:X.calm=true)(hi:JI X tg iter it)(hg:JG X tg bd)(hb:JB X body b)(hs:∀x,foldedSetIterable iter X.env x=pure x:=by intro _;rfl):JS X (.For tg iter body [] pos) (sFor it bd b):=⟨zbfm hp hc hi.out hg.out hb.out hs⟩
theorem zhj (hp:PassesOwn (model X.prog X.w) X.A X.env X.xe)(hc:JT X c t)(hb:JB X body b):JS X (.While c body [] pos) (sWhile t b):=⟨zvf hp hc.out hb.out⟩
end
section
variable {X:Cx}{tg iter elt:Expr}{ifs:List Expr}{it:SA}{bd:SG}{c:ST}{f:SE}{N:List Str}{k:Nat}{is:List Nat}{scope:Scope}{pos:Pos}
theorem zfs (hcalm:X.calm=true)(hi:JI X tg iter it)(hg:∀cl C fp s H,JG (cxC X N scope cl C fp s H) tg bd)(hc:∀cl C fp s H,JIf (cxC X N scope cl C fp s H) ifs c)(he:∀cl C fp s H,JE (cxC X N scope cl C fp s H) elt f)(S:CompScope X N k is scope)(hs:∀x,foldedSetIterable iter X.env x=pure x:=by intro _;rfl):JE X (.ListComp elt [⟨tg,iter,ifs,0⟩] scope pos) (aG it k is bd c f):=⟨zbgb hcalm hi.out (fun cl C fp s H=>(hg cl C fp s H).out) (fun cl C fp s H=>(hc cl C fp s H).out) (fun cl C fp s H=>(he cl C fp s H).out) S hs⟩
theorem zhk {X:Cx}:JIf X [] aI:=⟨zban⟩
theorem zjn {X:Cx}{c:Expr}{t:ST}(h:JT X c t):JIf X [c] t:=⟨zbam h.out⟩
end
section
variable {X:Cx}{x:Str}{k:Nat}{ps:List Str}{F:DFn}{p pos:Pos}{e:Expr}{es:List Expr}{g:SA}
theorem zbbd (c:CalD X.prog X.w X.K X.mg X.base x k ps F)(hn:∀ ds st v st', F ds st=.ok v st'->ds.length=ps.length)(hr:Room k X.A)(hg:Gl X x)(ha:JA X (e::es) g)(hdb:(x==("__debug__" : Str))=false:=by decide)(he:starEach (e::es) X.env=(false, eval e X.env)::starEach es X.env:=by rfl)(hpl:(backTo pos (starEach es X.env)).any (·.1)=false:=by rfl):JE X (.Call (.Name x p) (e::es) [] pos) (aE F g):=⟨zbgc c hn hr hg ha.out hdb he hpl⟩
end
section
theorem zvy {P:Program}{w:World}{K:Fg}{mg:Str->Option Value}{base h:Heap}{x:Str}{st:Stmt}{N ps:List Str}{k:Nat}{b:SS}(T:TopF K x st)(X:K.In h)(G:h.Ns mainGlobals mg)(S:FnScope N ps (defScope st))(bd:∀(kV doc pm:Value) (an:Option Addr) (cdv ct:Value) (us:List Value),us.length=ps.length->bindArgs (W.fnOf x x (defArgs st) (defBody st) (defScope st) .none kV doc pm an cdv ct) ⟨us,[]⟩=pure (ps.zip us))(hbody:∀(f:Addr) (cdv:Value) (A:Around) (outer:List Env) (s:Shared) (H:Hp) (E:XK),Room k (A.deeper (envOfC x (defScope st) s.heap.objs.size f cdv)) ->
 JB (cxOf CX0 P w K mg base N x (defScope st) f cdv A outer s H E).nox (defBody st) b):CalD P w K mg base x (k+1) ps (fnD N.length ps.length b):=zbbl T X G S bd (fun f cdv A outer s H E rr=>(hbody f cdv A outer s H E rr).out)
end
section
theorem zzj {P:Program}{w:World}{K:Fg}{mg:Str->Option Value}{base:Heap}{st:Stmt}{N ps:List Str}{k:Nat}{b:SS}{f:Addr}{fd:FuncData}(F:Fun K "law" "law" st f fd)(S:FnScope N ps (defScope st))(hp:ps.length=1)(hbody:∀(cdv:Value) (A:Around) (outer:List Env) (s:Shared) (H:Hp) (E:XK), Room k (A.deeper (envOfC "law" (defScope st) s.heap.objs.size f cdv)) ->
 JB (cxOf CX0 P w K mg base N "law" (defScope st) f cdv A outer s H E).nox (defBody st) b) (holds:∀ ns:List Int, ns.length<=63->∃ st', fnD N.length 1 b [.scr (ns.map .int)] []=.ok (.bl true) st'):FnOk P w K mg base CX0 (k + 1) f fd ps (spLaw K):=zbek F S hp (fun cdv A outer s H E rr=>(hbody cdv A outer s H E rr).out) holds
end
section
variable {X:Cx}{a b c e:Expr}{f f' f'':SE}{pos:Pos}{sm:Stmt}
theorem zrs (h:JE X a f):JE X (.UnaryOp .USub a pos) (eUn oNeg f):=⟨zbjl h.out⟩
theorem zgm (h:JE X a f)(he:∀whole,isTrue a X.env whole=(do let v ← whole;standAt a.pos;holding [v] (truthy v)):=by intro _;rfl):JT X a (eTru f):=⟨zbff h.out he⟩
end
section
variable {X:Cx}{l:Expr}{f:SE}{elts:List Expr}{k j:Nat}{tpos p pos kpos cpos:Pos}
end
section
variable {X:Cx}{tg iter elt:Expr}{ifs:List Expr}{it:SA}{bd:SG}{c:ST}{f:SE}{N:List Str}{k:Nat}{is:List Nat}{scope:Scope}{pos:Pos}
end
section
theorem zl {X:Cx}{e:Expr}{es:List Expr}{f:SE}{g:SA}(ha:JE X e f)(hr:JA X es g)(hp:plainE e=true:=by rfl):JA X (e::es) (aB f g):=⟨zvn ha.out hr.out hp⟩
end
section
variable {X:Cx}{a b:Expr}{g:SA}{elts:List Expr}{k:Nat}{tpos p pos:Pos}
end
section
end
end Dd
namespace L2
open PySem PySem.Spec PyProof.Rows
section
variable {prog:Program}{w:World}{A:Around}{R:Result->Shared->Prop}{I:Addr}{fp wr:List Addr}{n:Nat}{P:Nat->Value->Prop}{St:Nat->Heap->Prop}
end
section
variable {prog:Program}{w:World}{A:Around}{E:Value->Shared->Prop}{s:Shared}
end
section
variable {X:Cx}{p pos cpos kpos:Pos}{l:Expr}{t:TA}{d:Int}{j:Nat}
end
section
open PySem.AutoSeq1
end
end L2
namespace Dd
open PySem L2
section
variable {X:Cx}{p pos cpos kpos:Pos}{l:Expr}{f:SA}{d:Int}{j:Nat}
end
section
variable {X:Cx}{o e:Expr}{es:List Expr}{f:SE}{ga:SA}{apos cpos:Pos}
end
end Dd
namespace L2
open PySem PySem.Spec PyProof.Rows
section
variable {X:Cx}{p pos cpos kpos upos:Pos}{l:Expr}{t:TA}{d:Int}{j:Nat}
end
end L2
namespace Dd
open PySem L2 PyProof.Rows
section
variable {X:Cx}{p pos cpos kpos upos:Pos}{l:Expr}{f:SA}{d:Int}{j:Nat}
end
end Dd
namespace L2
open PySem PySem.Spec PyProof.Rows
section
variable {X:Cx}
end
section
open PySem.AutoSeq1
variable (l:Addr)(items:Array Value)(n:Nat)(dd:Option Addr)(sl:Array (Option Value))(x:Int)(u:Tok)
end
end L2
namespace Dd
open PySem L2 PyProof.Rows
end Dd
namespace L2
open PySem PySem.Spec PyProof.Rows PySem.W
section
variable {P:Program}{w:World}{B:Around}{sg:Shared}
end
end L2
namespace Dd
open PySem L2 PyProof.Rows
end Dd
namespace L2
open PySem PySem.Spec PyProof.Rows
end L2
namespace Dd
open PySem L2 PyProof.Rows
section
variable {X:Cx}{o e:Expr}{es:List Expr}{f:SE}{ga:SA}{apos cpos:Pos}
end
end Dd
namespace Dd
variable {α:Type}{motive:List α->Prop}
@[elab_as_elim] theorem len0 (us:List α) (hl:us.length=0) (h:motive []):motive us:=by rw[xkc hl];exact h
@[elab_as_elim] theorem lenS {n:Nat} (us:List α) (hl:us.length=n+1) (h:∀a us,us.length=n->motive (a::us)):motive us:=by
 cases us with
 | nil=>cases hl
 | cons a us=>exact h a us (Nat.succ.inj hl)
@[elab_as_elim] theorem len1 (us:List α) (hl:us.length=1) (h:∀a,motive [a]):motive us:=lenS us hl fun a us hl=>len0 us hl (h a)
@[elab_as_elim] theorem len2 (us:List α) (hl:us.length=2) (h:∀a b,motive [a,b]):motive us:=lenS us hl fun a us hl=>len1 us hl (h a)
@[elab_as_elim] theorem len3 (us:List α) (hl:us.length=3) (h:∀a b c,motive [a,b,c]):motive us:=lenS us hl fun a us hl=>len2 us hl (h a)
@[elab_as_elim] theorem len4 (us:List α) (hl:us.length=4) (h:∀a b c d,motive [a,b,c,d]):motive us:=lenS us hl fun a us hl=>len3 us hl (h a)
end Dd
namespace Dd
open PySem L2
end Dd
namespace L2
open PySem PySem.Spec PyProof.Rows
end L2
namespace Dd
open PySem L2 PyProof.Rows
end Dd
namespace L2
open PySem PySem.Spec PyProof.Rows
noncomputable def ItrD (hi:Int) (n:Nat):It where
 go:=fun i _=>i < n
 yld:=fun i H x H'=>H'=H/\x=.int (hi - i)
 stop:=fun i _=>n<=i
theorem zkd (a b:Int):Builtin.Range.rangeSize a b (-1)=((a - b).toNat:Int):=by
 unfold Builtin.Range.rangeSize;rw[if_neg (by decide)];simp only[xlf,xjv];split<;>lia
theorem zmt {a b:Int}(ha:-(2 ^ 60)<=a)(ha':a < 2 ^ 60)(hb:-(2 ^ 60)<=b)(hb':b < 2 ^ 60):Builtin.Range.small a b (-1)=true:=by
 unfold Builtin.Range.small;rw[zkd];simp only[Builtin.Range.rangeFitsLong,xdt,Bool.or_eq_true,xdj,xfv];refine⟨by lia,Or.inr ?_⟩;rw[if_neg (by decide),xdt,decide_eq_true_iff,decide_eq_true_iff];lia
theorem zps {P:Program}{w:World}{K:Fg}{tg:Expr}(it:Addr)(hi:Int)(n:Nat):Turn P w K tg (ItrD hi n) [it] it (fun i h=>IsRangeIter h it (hi+(i:Nat) * (-1)) ((n:Int) - (i:Nat)) (-1)) where
 mem:=xbw.mpr rfl
 obj:=fun i h st b hb=>by
  cases xbw.mp hb;exact⟨_,st,fun v z=>by cases(show Data.fields _=Data.cell v from z)⟩
 keep:=fun i h h' st k=>k it (xbw.mpr rfl) _ st
 item:=by
  intro X hP hw hK hc i aU s σ H E I hf st hg;subst hP hw hK;obtain⟨f0,f1,f2,f3,f4,f5⟩:=hf it (xbw.mpr rfl);refine(Walks.range (prog:=X.prog) (w:=X.w) (I.ok.hd hc) it hi (-1) n).item i s _ _ hg st fun v h' tk hv st' kk=>?_
  obtain⟨t,rfl⟩:=hv;have J:Inv X aU σ H {s with heap:=h',toks:=tk}:=I.turned (fun b o hb e=>kk b o (by simpa using hb) e) f0 f1 f3 f4 f5;exact⟨_, rfl, zzt (s:={ s with heap:=h', toks:=tk }) (n:="range_iterator") st' rfl rfl (by decide) ⟨.int (hi - i), H, J,⟨t, by rw[Int.mul_neg, Int.mul_one]; rfl⟩,⟨rfl, rfl⟩, st', fun b hb=>(hf b hb).1⟩⟩
 done:=by
  intro X hP hw hK hc i aU s σ H E I hf st hg;subst hP hw hK;obtain⟨f0,f1,f2,f3,f4,f5⟩:=hf it (xbw.mpr rfl);have hg:n<=i:=hg;exact wpAny_pyNext_range_end (I.ok.hd hc) st (by lia) fun h' eb=>⟨rfl,I.turned (t':=s.toks) (fun b o hb e=>eb b o hb e) f0 f1 f3 f4 f5⟩
 self:=fun _ _ _ _ _ st h=>wpAny_pyIter_rangeiter st h
noncomputable def iRngD (ta:TA):TI:=fun σ H R=>ta σ H fun vs H1=>∃i j:Int,vs=[.int i,.int j,.int (-1)]/\(-(2 ^ 60)<=i/\i < 2 ^ 60/\-(2 ^ 60)<=j/\j < 2 ^ 60)/\R (ItrD i (i - j).toNat) H1
section
variable {X:Cx}{tg:Expr}
theorem zbaj {aU:List (Addr×Obj)}{σ:St}{H:Hp}{s:Shared}{R:It->Hp->Prop}{E:Value->Shared->Prop}{a b:Int}{t u v:Tok}{tk:Nat}(I:Inv X aU σ H s)(h:-(2 ^ 60)<=a/\a < 2 ^ 60/\-(2 ^ 60)<=b/\b < 2 ^ 60)
  (q:R (ItrD a (a - b).toNat) H):wpAny (model X.prog X.w) X.A (pyIter (.ref s.heap.objs.size)) (PIE X aU σ tg R) E { s with heap:=s.heap.push { cls:=.type "range", data:=.fields #[.int a t, .int b u, .int (-1) v] }, toks:=tk }:=by
 refine wpAny_pyIter_range (IsRange.new ..) (zmt h.1 h.2.1 h.2.2.1 h.2.2.2) ?_;have J:Inv X aU σ H { s with heap:=s.heap.push { cls:=.type "range", data:=.fields #[.int a t, .int b u, .int (-1) v] }, toks:=tk }:=I.kept fun b o e=>xbj _ e
 refine⟨_,[_],_,_,H,rfl,J.kept (t':=tk) fun b o e=>xbj _ e,zps _ a (a - b).toNat,?_,fun c hc=>?_,q⟩
 ·show IsRangeIter _ _ (a+((0:Nat):Int) * (-1)) ((((a - b).toNat:Nat):Int) - ((0:Nat):Int)) (-1);rw[show a+((0:Nat):Int) * (-1)=a by simp,show(((a - b).toNat:Nat):Int) - ((0:Nat):Int)=Builtin.Range.rangeSize a b (-1) by rw[zkd];lia];exact xbz _ rfl
 ·cases xbw.mp hc;exact J.fpOk (xbd _) (J.hok.fresh (xbd _))
theorem zqi {a b c:Expr}{ta:TA}{p pos:Pos}(hg:Gl X "range")(hm:X.mg "range"=none)(ha:PA X [a, b, c] ta)(hs:starEach [a, b, c] X.env=[(false, eval a X.env),(false, eval b X.env),(false, eval c X.env)]:=by rfl)(hs2:starEach [b, c] X.env=[(false, eval b X.env),(false, eval c X.env)]:=by rfl) :
  PI X tg (.Call (.Name "range" p) [a, b, c] [] pos) (iRngD ta):=by
 intro aU s σ H R I h;refine Call_ (znu I hg hm boot_range (xhr (thn (ha pos aU s σ H _ I h) fun us s1 hq=>?_) (by rw[hs,hs2]) (by rw[hs2];rfl)));obtain⟨vs,H1,I1,r1,i,j,e,hb,q⟩:=hq;subst e;cases r1 with
 | cons r1 rr =>
  cases rr with
  | cons r2 rr =>
   cases rr with
   | cons r3 rr =>
    cases rr;obtain⟨t,rfl⟩:=r1;obtain⟨t',rfl⟩:=r2;obtain⟨t'',rfl⟩:=r3;refine call_range_3 (by decide) (zbaj I1 hb q) (Or.inl (PyProof.noPylong_small ?_))
    decide
end
end L2
namespace Dd
open PySem L2
noncomputable def rngD (hi:Int) (n:Nat):List D:=(List.range n).map fun(i:Nat)=>D.int (hi - i)
noncomputable def iRD (g:SA):SA:=fun σ st=>(g σ st).bind fun xs st1=>match xs with
 | [.int i,.int j,.int k]=>if k=-1/\-(2 ^ 60)<=i/\i < 2 ^ 60/\-(2 ^ 60)<=j/\j < 2 ^ 60 then .ok (rngD i (i - j).toNat) st1 else .stuck
 | _=>.stuck
theorem zmw {hi:Int}{n i:Nat}{x:D}(h:(rngD hi n)[i]?=some x):i < n/\x=.int (hi - i):=by
 unfold rngD at h;rw[xcb] at h;rcases xho i n with z | z
 ·rw[List.getElem?_range z] at h;exact⟨z,(xcd h).symm⟩
 ·rw[xfp (by rw[xgo];exact z)] at h;cases h
theorem zzm {K:Fg}{ρ:Loc}{H:Hp}{hi:Int}{n:Nat}:ItOk K ρ H (ItrD hi n) (rngD hi n) where
 item:=fun ρ2 H2 x i d e=>by
  obtain⟨h1,rfl⟩:=zmw e;refine⟨h1,fun y H3 hy=>?_⟩;obtain⟨rfl,rfl⟩:=hy;exact⟨.refl _ _,fun _ r=>⟨r,.int _⟩⟩
 done:=fun ρ2 H2 x i h=>by
  unfold rngD at h;rw[xbc,xgo] at h;exact h
section
variable {X:Cx}{tg a b c:Expr}{g:SA}{p pos:Pos}
theorem zon (hg:Gl X "range")(hm:X.mg "range"=none)(ha:JA X [a, b, c] g)(hs:starEach [a, b, c] X.env=[(false, eval a X.env),(false, eval b X.env),(false, eval c X.env)]:=by rfl)(hs2:starEach [b, c] X.env=[(false, eval b X.env),(false, eval c X.env)]:=by rfl):JI X tg (.Call (.Name "range" p) [a, b, c] [] pos) (iRD g) :=
 ⟨zbcc (zqi hg hm ha.out hs hs2) fun τ H R hq=>by
 obtain⟨ρ,σ,st,xs,st',a,rp,e,q⟩:=hq;obtain⟨x,st1,e1,e⟩:=za e;split at e
 ·split at e
  ·rename_i hj;cases e;obtain⟨rfl,hj⟩:=hj;refine⟨ρ,σ,st,_,_,a,rp,e1,fun ρ1 H1 u x1 rp1 a1=>?_⟩;cases a1 with
   | cons b1 r1 =>
    obtain⟨w,w2,rfl,b2,b3⟩:=r1.two;cases b1;cases b2;cases b3;exact⟨_,_,rfl,hj,q _ _ _ x1 rp1 zzm⟩
  ·cases e
 ·cases e⟩
end
end Dd
namespace Dd
open PySem L2 PyProof.Rows
noncomputable def ePopZ (f:SE) (g:SA):SE:=fun σ st=>(f σ st).bind fun x st1=>match x with
 | .ref n=>match st1[n]? with
  | some (.lst _)=>(g σ st1).bind fun ys st2=>match ys,st2[n]? with
   | [.int 0],some (.lst (y::zs))=>.ok y (st2.set n (.lst zs))
   | _,_=>.stuck
  | _=>.stuck
 | _=>.stuck
section
variable {X:Cx}{o e:Expr}{es:List Expr}{f:SE}{ga:SA}{apos cpos:Pos}
theorem zbav (ho:JE X o f)(ha:JA X (e::es) ga)(hbase:attributeBase o "pop" X.env (eval o X.env)=eval o X.env:=by rfl)
  (hfew:((backTo cpos (starEach (e::es) X.env)).all (fun x=>!x.1)&&(backToKw cpos (keywordEach [] X.env)).all (fun x=>x.1.isSome)
   && decide ((e::es).length+([]:List Keyword).length+(if([]:List Keyword).isEmpty then 0 else 1) < 30))=true:=by rfl)
  (hline:(apos.endLine==cpos.line)=true:=by rfl)(hs:starEach (e::es) X.env=(false,eval e X.env)::starEach es X.env:=by rfl)(hplain:(backTo cpos (starEach es X.env)).any (·.1)=false:=by rfl) :
  JE X (.Call (.Attribute o "pop" apos) (e::es) [] cpos) (ePopZ f ga):=⟨zey (zbdq xiy F.slot_list_pop F.type_list_pop zun ho.out ha.out hbase hfew hline hs hplain) fun τ H Q hq=>by
 obtain⟨ρ,σ,st,v,st',a,rp,e,q⟩:=hq;obtain⟨x,st1,e1,e⟩:=za e;refine⟨ρ,σ,st,x,st1,a,rp,e1,fun ρ1 H1 u x1 rp1 a1=>?_⟩;split at e
 ·split at e
  ·rename_i n _ xs hn;obtain⟨ys,st2,e2,e⟩:=za e;obtain⟨p,rfl,hp,vs2,k1,k2⟩:=zco rp1 a1 hn (by intro z;cases z);refine⟨.inl ⟨rfl,_,SqL.of k1⟩,ρ1,σ,st1,ys,st2,a.ext x1,rp1,e2,fun ρ2 H2 ws x2 rp2 a2=>?_⟩;split at e
   ·rename_i y zs hn2;cases e;obtain⟨w,rfl,a3⟩:=a2.one;cases a3;obtain⟨p',ep,hp',vs3,m1,m2⟩:=zco rp2 (a1.ext x2) hn2 (by intro z;cases z);cases ep;cases m2 with
    | cons b1 b2 =>
     rename_i w ws;have E:Ext ρ2 H2 ρ2 (upd H2 p (.lst ws)):=Ext.wr hp' (zdb m1) _;exact⟨p,_,0,0,w,rfl,rfl,m1,by decide,by decide,by simp[seqIndex?],rfl,q _ _ _ ((x1.trans x2).trans E) (rp2.wr hp' (zdb m1) ⟨_,zk,b2.ext E⟩) (b1.ext E)⟩
   ·cases e
  ·cases e
 ·cases e⟩
end
end Dd
namespace L2
open PySem PySem.Spec PyProof.Rows
theorem zeq {α β:Type}{f:α->Option β}{g:α->β}:∀{l:List α},(∀x∈l,f x=some (g x))->l.filterMap f=l.map g
 | [],_=>rfl
 | x::l,h=>by
  rw[xic,h x xbp,xbh,zeq fun y hy=>h y (xbl _ hy)]
theorem zkg (items:Array Value):slicePick items none none (some (-1))=items.toList.reverse.toArray:=by
 have e:sliceRange (sliceBounds none none (some (-1)) items.size).1 (sliceBounds none none (some (-1)) items.size).2.1 (sliceBounds none none (some (-1)) items.size).2.2=(List.range items.size).map fun k=>items.size - 1 - k:=by
  unfold sliceRange sliceBounds;simp only[Option.getD_some,show ¬ ((-1:Int) > 0) by decide,xdo];have ec:(if(items.size:Int) - 1 > -1 then((items.size:Int) - 1 - -1 - -1 - 1) / - -1 else 0).toNat=items.size:=by
   rw[xlf,xjv];split<;>lia
  rw[ec];refine xfz fun k hk=>?_
  have:=xdr.mp hk;lia
 unfold slicePick;rw[e,xkf]
 congr 1
 cases hz:items.size with
 | zero =>
  have:items.toList=[]:=List.length_eq_zero_iff.mp (by rw[xbv];exact hz);rw[this]
  rfl
 | succ n =>
  have hlt:∀k,items.size - 1 - k < items.size:=fun k=>by lia
  rw[zeq (g:=fun k=>items[items.size - 1 - k]'(hlt k)) fun k _=>by
   show items[n+1 - 1 - k]?=_;rw[← hz]
   exact getElem?_pos items _ (hlt k)]
  refine xkt (by simp[hz]) fun i h1 h2=>?_
  rw[xku,List.getElem_range,List.getElem_reverse];simp
variable {X:Cx}{e es:Expr}{te ts:TE}{pos p2:Pos}
noncomputable def tBack (K:Fg) (te ts:TE):TE:=fun σ H Q=>te σ H fun x H1=>ts σ H1 fun y H2=>∃a xs,x=.ref a/\y=.int (-1)/\SqL K H2 a xs/\∀p,H2 p=none->Q (.ref p) (upd H2 p (.lst xs.reverse))
theorem ziq:∀{xs:List V} {us:List Value},Vals xs us->Vals xs.reverse us.reverse
 | [],_,h=>by cases h;exact .nil
 | x::xs,_,h=>by
  cases h with
  | cons a b=>rw[xhk,xhk];exact(ziq b).append (.cons a .nil)
theorem zyo (he:PE X e te)(hs:PE X es ts):PE X (.Subscript e (.Slice none none (some es) p2) pos) (tBack X.K te ts):=by
 intro aU s σ H Q I h;refine Subscript_ (thn (he aU s σ H _ I h) fun v s1 hq=>?_);obtain⟨x,H1,I1,r1,q1⟩:=hq;refine wpAny_Slice ?_;rw[xkn,evalPart_some];refine xbe (xbe (thn (hs aU s1 σ H1 _ I1 q1) fun vs s3 hq=>?_));obtain⟨y,H3,I3,r3,a,xs,rfl,rfl,hx,q⟩:=hq;obtain⟨tk,rfl⟩:=r3;cases r1;have I4:Inv X aU σ H3 { s3 with heap:=s3.heap.push { cls:=.type "slice", data:=.fields #[.none, .none, .int (-1) tk] } }:=I3.kept (t':=s3.toks) fun b ob q=>xbj _ q
 obtain⟨its,r,ht,hz⟩:=I4.list hx;have hlen:=r.length;refine tail_any (ops:=[.ref a,.ref s3.heap.objs.size]) ht.isList.typeIs xkr.lookup ?_ (by with_unfolding_all rfl);refine wpAny_getItem_list_slice ht.isList (xkg ..) .none .none (.int (-1) tk) (by simp) ?_ (by rw[xbn]<;>lia);rw[zkg];refine⟨.ref _,_,I4.laid (t':=s3.toks) (o:=.lst xs.reverse) (fun b ob q=>xbj _ q) (xbd _) ?_,rfl,q _ (I4.hok.fresh (xbd _))⟩;exact⟨by rw[xgu];exact hz,_,0,ziq r,xbz _ rfl⟩
end L2
namespace Dd
open PySem L2
theorem AtAll.rev {K:Fg}{ρ:Loc}{H:Hp}:∀{ds:List D} {us:List V},AtAll K ρ H ds us->AtAll K ρ H ds.reverse us.reverse
 | [],_,h=>by cases h;exact .nil
 | d::ds,_,h=>by
  cases h with
  | cons a b=>rw[xhk,xhk];exact(AtAll.rev b).append (.cons a .nil)
section
variable {X:Cx}{e es:Expr}{f g:SE}{pos p2:Pos}
end
end Dd
namespace L2
open PySem PySem.Spec PyProof.Rows
section
variable {prog:Program}{w:World}{A:Around}{E:Value->Shared->Prop}{s:Shared}
theorem zjv {sl:Addr}{tk:Tok}{n:Nat}{Q:Int×Int×Nat->Shared->Prop}(hs:s.heap.IsSliceOf sl .none .none (.int (-1) tk))(h:Q ((n:Int) - 1,-1,n) s):wpAny (model prog w) A (Builtin.Slice.sliceApplied (.ref sl) (pure (n:Int))) Q E s:=by
 obtain⟨os,hos,hcs,hds⟩:=id hs;unfold Builtin.Slice.sliceApplied Builtin.Slice.sliceFields;refine xba (xba (xjh hos hds (x:=.none) rfl (xba (xjh hos hds (x:=.none) rfl (xba (xjh hos hds (x:=.int (-1) tk) rfl (xbe ?_)))))));refine xba (HT.zcy (.int (-1) tk) ?_);show wpAny _ _ (if((-1:Int)==0)=true then _ else _) _ _ s;rw[if_neg (by decide)];refine xba (HT.zcy .none (xba (HT.zcy .none (xba (xbe ?_)))));show wpAny _ _ (match Builtin.Slice.sliceAdjust none none (-1) (n:Int) with | (lo,hi)=>pure (lo,(-1:Int),Builtin.Slice.slicePlaces lo hi (-1))) _ _ s;have e1:Builtin.Slice.sliceAdjust none none (-1) (n:Int)=((n:Int) - 1,-1):=by
  unfold Builtin.Slice.sliceAdjust;simp
 have e2:Builtin.Slice.slicePlaces ((n:Int) - 1) (-1) (-1)=n:=by
  unfold Builtin.Slice.slicePlaces;simp only[show ¬ ((-1:Int) > 0) by decide,xdo,xlf,xjv];split<;>lia
 rw[e1];show wpAny _ _ (pure ((n:Int) - 1,(-1:Int),Builtin.Slice.slicePlaces ((n:Int) - 1) (-1) (-1))) _ _ s;rw[e2];exact xbe h
theorem ztn (xs:Array Value):((List.range xs.size).filterMap fun(m:Nat)=>xs[((xs.size:Int) - 1+(m:Int) * (-1)).toNat]?).toArray=xs.toList.reverse.toArray:=by
 rw[← zkg];unfold slicePick;have e:sliceRange (sliceBounds none none (some (-1)) xs.size).1 (sliceBounds none none (some (-1)) xs.size).2.1 (sliceBounds none none (some (-1)) xs.size).2.2=(List.range xs.size).map fun k:Nat=>((xs.size:Int) - 1+(k:Int) * (-1)).toNat:=by
  unfold sliceRange sliceBounds;simp only[Option.getD_some,show ¬ ((-1:Int) > 0) by decide,xdo];have ec:(if(xs.size:Int) - 1 > -1 then((xs.size:Int) - 1 - -1 - -1 - 1) / - -1 else 0).toNat=xs.size:=by
   rw[xlf,xjv];split<;>lia
  rw[ec];refine xfz fun k hk=>?_
  lia
 rw[e,xkf]
 rfl
theorem zek {t sl:Addr}{items:Array Value}{tk:Tok}{Q:Value->Shared->Prop}(ht:IsTup s.heap t items)(hs:s.heap.IsSliceOf sl .none .none (.int (-1) tk))
  (h:Q (.ref s.heap.objs.size) { s with heap:=s.heap.push { cls:=.type "tuple", data:=.seq items.toList.reverse.toArray } })
  (hsz:items.size<=sizeLine):wpAny (model prog w) A (getItem (.ref t) (.ref sl)) Q E s:=by
 have htake:sizeOk (.seq items.toList.reverse.toArray):=by
  show items.toList.reverse.toArray.size<=sizeLine;rw[xbn,xgu,xbv];exact hsz
 obtain⟨os,hos,hcs,hds⟩:=id hs;have hTs:s.TypeIs (.ref sl) "slice":=⟨os, hos, hcs⟩
 unfold getItem
 try with_reducible refine xer ?_
 first | refine xba (xbe ?_) | skip
 refine xba (xkq ht.typeIs (by decide) ?_)
 refine xba (wpAny_callSpecial?_slot (name:=Str.ofString "__getitem__") ht.typeIs xdx
  (xeq xdx ht.typeIs PyProof.Rows.entry_tuple_getitem ?_ (PyProof.Rows.args_tuple_getitem _ _)))
 show wpAny _ _ (Builtin.Tuple.tupleItemsOf (.ref t) >>= _) _ _ s;refine xba (PyProof.Rows.tupleItemsOf_ ht ?_);refine xba (wpAny_typeOf hTs ?_);rw[if_pos (by decide)];refine xba (zjv hs ?_);have hno:¬ ((((items.size:Int) - 1)==0&&(-1:Int)==1&&items.size==items.size)=true):=by
  intro q;rw[xdt,xdt] at q;exact absurd (eq_of_beq q.1.2) (by decide)
 show wpAny _ _ (if(((items.size:Int) - 1)==0&&(-1:Int)==1&&items.size==items.size)=true then _ else _) _ _ s;rw[if_neg hno,ztn]
 first
  | exact xba (m:=Builtin.Tuple.tupleExact _) (xdq (xbe ⟨_,rfl,xbe h⟩) htake)
  | exact xba (m:=Builtin.Tuple.tupleExact _) (xdq (xba (xbe (xbe ⟨_,rfl,xbe h⟩))) htake)
  | exact xba (xba (m:=Builtin.Tuple.tupleExact _) (xdq (xbe (xbe ⟨_,rfl,xbe h⟩)) htake))
  | exact xba (xba (m:=Builtin.Tuple.tupleExact _) (xdq (xbe ⟨_,rfl,xbe h⟩) htake))
end
variable {X:Cx}{e es:Expr}{te ts:TE}{pos p2:Pos}
noncomputable def tBackT (K:Fg) (te ts:TE):TE:=fun σ H Q=>te σ H fun x H1=>ts σ H1 fun y H2=>∃a xs,x=.ref a/\y=.int (-1)/\SqT K H2 a xs/\∀p,H2 p=none->Q (.ref p) (upd H2 p (.tup xs.reverse))
theorem zug (he:PE X e te)(hs:PE X es ts):PE X (.Subscript e (.Slice none none (some es) p2) pos) (tBackT X.K te ts):=by
 intro aU s σ H Q I h;refine Subscript_ (thn (he aU s σ H _ I h) fun v s1 hq=>?_);obtain⟨x,H1,I1,r1,q1⟩:=hq;refine wpAny_Slice ?_;rw[xkn,evalPart_some];refine xbe (xbe (thn (hs aU s1 σ H1 _ I1 q1) fun vs s3 hq=>?_));obtain⟨y,H3,I3,r3,a,xs,rfl,rfl,hx,q⟩:=hq;obtain⟨tk,rfl⟩:=r3;cases r1;have I4:Inv X aU σ H3 { s3 with heap:=s3.heap.push { cls:=.type "slice", data:=.fields #[.none, .none, .int (-1) tk] } }:=I3.kept (t':=s3.toks) fun b ob q=>xbj _ q
 obtain⟨its,r,ht,hz⟩:=I4.tuple hx;have hlen:=r.length;refine tail_any (ops:=[.ref a,.ref s3.heap.objs.size]) ht.typeIs xdx.lookup ?_ (by with_unfolding_all rfl);refine zek ht (xkg ..) ?_ (by rw[xbn]<;>lia);refine⟨.ref _,_,I4.laid (t':=s3.toks) (o:=.tup xs.reverse) (fun b ob q=>xbj _ q) (xbd _) ?_,rfl,q _ (I4.hok.fresh (xbd _))⟩;exact⟨by rw[xgu];exact hz,_,ziq r,⟨_,xbz _ rfl,rfl,_,rfl⟩⟩
theorem zqk {e:Expr}{t t':TE}(h:PE X e t)(h':PE X e t'):PE X e (fun σ H Q=>t σ H Q\/t' σ H Q):=fun aU s σ H Q I q=>by
 rcases q with q | q
 ·exact h aU s σ H Q I q
 ·exact h' aU s σ H Q I q
end L2
namespace Dd
open PySem L2
noncomputable def eBack (f g:SE):SE:=fun σ st=>(f σ st).bind fun x st1=>(g σ st1).bind fun y st2=>match y with
 | .int (-1)=>match x with
  | .tup xs=>.ok (.tup xs.reverse) st2
  | x=>match asL st2 x with
   | some xs=>.ok (.lst xs.reverse) st2
   | none=>.stuck
 | _=>.stuck
section
variable {X:Cx}{e es:Expr}{f g:SE}{pos p2:Pos}
theorem zbbf (he:JE X e f)(hs:JE X es g):JE X (.Subscript e (.Slice none none (some es) p2) pos) (eBack f g):=⟨zey (zqk (zyo he.out hs.out) (zug he.out hs.out)) fun τ H Q hq=>by
 obtain⟨ρ,σ,st,v,st',a,rp,e,q⟩:=hq;obtain⟨x,st1,e1,e⟩:=za e;obtain⟨y,st2,e2,e⟩:=za e;split at e
 ·split at e
  ·cases e;refine .inr ⟨ρ,σ,st,_,st1,a,rp,e1,fun ρ1 H1 u x1 rp1 a1=>?_⟩;refine⟨ρ1,σ,st1,_,_,a.ext x1,rp1,e2,fun ρ2 H2 w x2 rp2 a2=>?_⟩;cases a2;cases a1.ext x2 with
   | tup h1 h2 h3=>exact⟨_,_,rfl,rfl,SqT.of h1,fun p hp=>q _ _ _ ((x1.trans x2).trans (Ext.new hp _)) (rp2.new hp _) (.newT rp2 hp h3.rev)⟩
  ·split at e
   ·rename_i xs hx;cases e;refine .inl ⟨ρ,σ,st,x,st1,a,rp,e1,fun ρ1 H1 u x1 rp1 a1=>?_⟩;refine⟨ρ1,σ,st1,_,_,a.ext x1,rp1,e2,fun ρ2 H2 w x2 rp2 a2=>?_⟩;cases a2;obtain⟨p,vs,rfl,g1,g2⟩:=zen rp2 (a1.ext x2) hx;exact⟨_,_,rfl,rfl,SqL.of g1,fun p hp=>q _ _ _ ((x1.trans x2).trans (Ext.new hp _)) (rp2.new hp _) (.newL rp2 hp g2.rev)⟩
   ·cases e
 ·cases e⟩
end
end Dd
namespace L2
open PySem PySem.Spec PyProof.Rows
end L2
namespace Dd
open PySem L2
end Dd
namespace L2
open PySem PySem.Spec PyProof.Rows
section
variable {X:Cx}{x:Str}{C:Addr}{bmB bmN:List Value}{newId nid initId inN B Bn:String}{e:Expr}{es:List Expr}{ta:TA}{np cpos pos:Pos}
end
section
variable {M:Model}{A:Around}{E:Value->Shared->Prop}{s:Shared}
end
section
variable {P:Program}{w:World}{K:Fg}{mg:Str->Option Value}{base:Heap}{N:List Str}{qual:Str}{scope:Scope}{f:Addr}{cd:Value}{A:Around}{outer:List Env}{s₀:Shared}{H₀:Hp}{E:XK}
end
section
variable {X:Cx}
end
section
variable {X:Cx}{aU pins':List (Addr×Obj)}{σ:St}{H:Hp}{s:Shared}{E:Value->Shared->Prop}{e:Value}
end
section
variable {X:Cx}{body:List Stmt}{x n:Str}{B:Addr}{i:Nat}{b0:Stmt}{suite:List Stmt}{xp hp pos:Pos}{tb:(St->Value->Option Addr->Hp->Prop)->TS}{ts:TS}
end
section
variable {prog:Program}{w:World}{A:Around}{E:Value->Shared->Prop}
end
section
variable {X:Cx}{pos:Pos}
end
section
variable {P:Program}{w:World}{K:Fg}{mg:Str->Option Value}{base:Heap}{N:List Str}{name qual:Str}{params:Arguments}{body:Expr}{scope:Scope}{f:Addr}{cd pm ct:Value}{cl:List (Str×Addr)}{A:Around}{outer:List Env}{s:Shared}{H:Hp}{E:XK}{τ:St}
end
section
variable {X:Cx}{aU:List (Addr×Obj)}{τ:St}{H:Hp}{s:Shared}{c T:Addr}{ps:Array Value}{params:Arguments}{body:Expr}{scope:Scope}{cl:List (Str×Addr)}{pos:Pos}{Q:Value->Shared->Prop}
end
section
variable {X:Cx}
end
section
variable {X:Cx}
end
end L2
namespace L2
open PySem
namespace St
end St
namespace St
/- the leaps meet all places -/
end St
namespace St
/- laid anew -/
end St
namespace St
end St
end L2
namespace L2
open PySem PySem.W PyProof.Rows PySem.Spec
namespace St
section
variable {P:Program}{w:World}{B:Around}{E:Value->Shared->Prop}{s:Shared}{a:Addr}
end
end St
namespace St
section
variable {P:Program}{w:World}{B:Around}{R:Result->Shared->Prop}{it:Addr}{fp wr:List Addr}{G:Array GenState->Array GenState->Prop}{N:Nat}{It:Nat->Value->Prop}{St:Nat->Shared->Prop}
end
section
variable {P:Program}{w:World}{B:Around}{E:Value->Shared->Prop}{s:Shared}
end
end St
namespace St
section
variable {P:Program}{w:World}{B:Around}{E:Value->Shared->Prop}{s:Shared}{a it:Addr}{es:Array (Int×Value)}{ep:Nat}{t:SetTable}{ks:List Nat}
end
end St
end L2
namespace L2
open PySem PySem.Spec PyProof.Rows PySem.W
end L2
namespace Dd
open PySem L2 PyProof.Rows
section
variable {X:Cx}{x y:Str}{p p2 pos pos2:Pos}{e:Expr}{f:SA}{g:List D->Store->Res D}
end
end Dd
namespace L2
open PySem PySem.Spec PyProof.Rows PySem.W
end L2
namespace Dd
open PySem L2 PyProof.Rows
section
variable {X:Cx}{p p2 pos pos2 cpos apos:Pos}{e o:Expr}{f:SA}{g:SE}
end
section
variable {X:Cx}{R:RXT}{e:Expr}{es:List Expr}{f:SE}{g:SA}{sm:Stmt}{rest body:List Stmt}{s t:SS}{pos p:Pos}{x:Str}{k:Nat}{ps:List Str}{F:DFn}
end
section
variable {P:Program}{w:World}{K:Fg}{mg:Str->Option Value}{base h:Heap}{x:Str}{st:Stmt}{N ps:List Str}{k:Nat}{b:SS}
end
section
variable {X:Cx}{R:RXT}{f:Addr}{σL:DS}{τL:L2.St}{g:SE}{x n y:Str}{p pos pos2 xp hp:Pos}{B:Addr}{i:Nat}{cs:List Str}{b0:Stmt}{suite rest:List Stmt}{u t:SS}
end
section
variable {X:Cx}{y:Str}{p pos lp:Pos}{params:Arguments}{body:Expr}{scope stS:Scope}{N NL:List Str}{is:List Nat}{c T fr:Addr}{fdR:FuncData}{stR:Stmt}{x:Str}{k:Nat}{lam:SE}{b:(Store->Res D)->SS}
end
end Dd
namespace L2
open PySem PySem.Spec PyProof.Rows
end L2
namespace Dd
open PySem L2 PyProof.Rows
section
variable {X:Cx}{o e:Expr}{es:List Expr}{f:SE}{ga:SA}{apos cpos:Pos}
end
end Dd
namespace L2
open PySem PySem.Spec PyProof.Rows
end L2
namespace Dd
open PySem L2 PyProof.Rows
section
variable {X:Cx}{R:RXT}{f:Addr}{σL:DS}{τL:L2.St}{g:SE}{x n y:Str}{p pos pos2 xp hp:Pos}{B:Addr}{i:Nat}{cs:List Str}{b0:Stmt}{suite rest:List Stmt}{u t:SS}
end
section
variable {K:Fg}{cv:Value}
end
section
variable {X:Cx}{pos:Pos}{es:List Expr}{u:List D->DS->Option DS}
end
end Dd
namespace L2
open PySem PySem.Spec PyProof.Rows
section
variable {prog:Program}{w:World}{A:Around}{R:Result->Shared->Prop}{I:Addr}{fp wr:List Addr}{n:Nat}{P:Nat->Value->Prop}{St:Nat->Heap->Prop}
end
section
variable {prog:Program}{w:World}{A:Around}{E:Value->Shared->Prop}{s:Shared}
end
section
variable {X:Cx}{p pos cpos kpos:Pos}{l:Expr}{t:TA}{d:Int}{j:Nat}
end
noncomputable def rAnyI (K:Fg):List V->Hp->VK->Prop:=fun xs H Q=>∃(a:Addr) (ns:List Int),xs=[.ref a]/\(SqL K H a (ns.map V.int)\/SqT K H a (ns.map V.int))/\Q (.bl (ns.any fun x=>!decide (x=0))) H
theorem zna (ns:List Int):((List.range ns.length).any fun i=>!decide (ns.getD i 0=0))=ns.any fun x=>!decide (x=0):=by
 rw[xek];simp only[xjj,xdr];constructor
 ·rintro⟨i,hi,h⟩;rw[xbt,xbf hi] at h;exact⟨ns[i],xee hi,h⟩
 ·rintro⟨b,hb,h⟩;obtain⟨i,hi,rfl⟩:=xeg hb;exact⟨i,hi,by rw[xbt,xbf hi];exact h⟩
section
variable {X:Cx}
theorem zrz (hc:X.calm=true):CallR X (.builtin "any") (rAnyI X.K):=by
 intro aU s σ H xs us Q I r h;obtain⟨a,ns,rfl,hs,q⟩:=h;obtain⟨u,rfl,ru⟩:=vals1 r;cases ru;refine call_any_walk (zpk hc I hs fun I' fp wr P St s2 W st low val keep=>?_);refine⟨I',fp,wr,_,P,St,fun i=>!decide (ns.getD i 0=0),rfl,W,st,fun i v s' Q' E' hP hQ=>?_,fun h' tk hk=>⟨.bl _,H,keep h' tk hk,rfl,?_⟩⟩
 ·obtain⟨t,rfl⟩:=val i v hP;refine truthy_int ?_;have e:((ns.getD i 0 != 0):Bool)=!decide (ns.getD i 0=0):=by simp[bne,Bool.beq_eq_decide_eq]
  first
   | exact hQ
   | (rw[e];exact hQ)
 ·rw[zna];exact q
end
end L2
namespace Dd
open PySem L2 PyProof.Rows
section
variable {X:Cx}{p pos cpos kpos:Pos}{l:Expr}{f:SA}{j:Nat}
end
noncomputable def bAnyI:List D->Store->Res D:=fun xs st=>match xs with
 | [x]=>match (seqOf st x).bind asInts with
  | some ns=>.ok (.bl (ns.any fun x=>!decide (x=0))) st
  | none=>.stuck
 | _=>.stuck
theorem zbbw {K:Fg}:CaD K bAnyI (rAnyI K):=fun ρ H st xs us z st' Q rp aa e q=>by
 unfold bAnyI at e;split at e
 ·split at e
  ·rename_i ns h;cases e;obtain⟨ys,h0,h⟩:=xen.mp h;obtain⟨u,rfl,a⟩:=aa.one;obtain⟨p,vs,rfl,h1,h2⟩:=zgv rp a h0;have e:=zbz h2 h;subst e;exact⟨p,ns,rfl,h1,q _ _ _ (.refl _ _) rp (.bl _)⟩
  ·cases e
 ·cases e
end Dd
namespace L2
open PySem PySem.Spec PyProof.Rows
section
variable {P:Program}{w:World}{A:Around}{E:Value->Shared->Prop}{s:Shared}{K:Fg}{C fI:Addr}{us:List Value}
end
section
variable {X:Cx}{C f:Addr}{fd:FuncData}{ps:List Str}{sp:Sp}{k:Nat}{x:Str}{p pos:Pos}{e:Expr}{es:List Expr}{t:TA}
end
section
variable {X:Cx}{aU:List (Addr×Obj)}{σ:St}{H:Hp}{s:Shared}
end
end L2
namespace L2
open PySem PySem.Spec PyProof.Rows Builtin Builtin.ObjectAttr
section
variable {P:Program}{w:World}{A:Around}{E:Value->Shared->Prop}{s:Shared}{K:Fg}{C fI ea:Addr}{v:Value}
end
end L2
namespace L2
open PySem PySem.Spec PyProof.Rows
section
variable {X:Cx}{aU:List (Addr×Obj)}{σ:St}{H:Hp}{s:Shared}
end
section
variable {P:Program}{w:World}{K:Fg}{mg:Str->Option Value}{base h:Heap}{C fI R:Addr}{xR qual:Str}{st:Stmt}{fd:FuncData}
end
section
variable {X:Cx}
end
section
variable {X:Cx}{e:Expr}{pos:Pos}{te:TE}
end
section
variable {P:Program}{w:World}{K:Fg}{mg:Str->Option Value}{base:Heap}{N:List Str}{qual:Str}{scope:Scope}{f:Addr}{cd:Value}{A:Around}{outer:List Env}{s₀:Shared}{H₀:Hp}{E:XK}
end
end L2
namespace Dd
open PySem L2 PyProof.Rows
section
variable {X:Cx}{R:RXT}{e:Expr}{es:List Expr}{f:SE}{g:SA}{sm:Stmt}{rest body:List Stmt}{s t:SS}{pos p:Pos}{x:Str}
end
section
variable {X:Cx}{R:RXT}{e:Expr}{es:List Expr}{f:SE}{g:SA}{sm:Stmt}{rest body:List Stmt}{s t:SS}{pos p:Pos}{x:Str}
end
end Dd
namespace L2
open PySem PySem.Spec PyProof.Rows
end L2
namespace Dd
open PySem L2 PyProof.Rows
section
variable {X:Cx}{R:RXT}{e:Expr}{es:List Expr}{f:SE}{g:SA}{pos p:Pos}{x:Str}
end
end Dd
namespace L2
open PySem PySem.Spec PyProof.Rows
section
variable {X:Cx}
end
end L2
namespace Dd
open PySem L2 PyProof.Rows
end Dd
namespace L2
open PySem PySem.Spec PyProof.Rows
end L2
namespace Dd
open PySem L2 PyProof.Rows
section
variable {X:Cx}{o e:Expr}{es:List Expr}{f:SE}{ga:SA}{apos cpos:Pos}
end
end Dd
namespace L2
open PySem PySem.Spec PyProof.Rows
end L2
namespace Dd
open PySem L2 PyProof.Rows
section
variable {K:Fg}{ρ:Loc}{H:Hp}{kvs:List (Int×D)}{vs:List (Key×V)}
end
section
variable {X:Cx}{o e a:Expr}{es:List Expr}{f:SE}{ga:SA}{apos cpos pos:Pos}
end
end Dd
namespace L2
open PySem PySem.Spec PyProof.Rows
end L2
namespace Dd
open PySem L2 PyProof.Rows
end Dd
namespace L2
open PySem PySem.Spec PyProof.Rows
section
variable {X:Cx}{tg:Expr}
end
end L2
namespace Dd
open PySem PySem.Spec PyProof.Rows L2
section
variable {X:Cx}{tg l:Expr}{f:SE}{p pos:Pos}
end
end Dd
namespace L2
open PySem PySem.Spec PyProof.Rows PySem.W
section
variable {X:Cx}{aU:List (Addr×Obj)}{σ:St}{H:Hp}{s:Shared}
end
end L2
namespace Dd
open PySem PySem.Spec PyProof.Rows L2
section
variable {X:Cx}{l a b c o i e value:Expr}{f g h:SE}{elts:List Expr}{n:Nat}{tpos p pos pos':Pos}
end
end Dd
namespace Dd
open PySem L2 PyProof.Rows
section
variable {X:Cx}{pos pos' p:Pos}{x:Str}{i:Nat}
theorem sv (hN:X.N[i]?=some x:=by rfl)(hv:Vis X.env.scope x:=by first | exact Or.inl rfl | exact Or.inr (Or.inl rfl) | exact Or.inr (Or.inr rfl))(hd:(x==("__debug__" : Str))=false:=by decide)
 (hcd:(x==("__classdict__" : Str))=false:=by decide):JE X (.Name x pos) (aA i):=zbfs (pv i hN hv hd hcd)
theorem scl {k j:Nat}{ps:List Str}{F:DFn}{e:Expr}{es:List Expr}{g:SA}(c:CalD X.prog X.w X.K X.mg X.base x k ps F)(hr:Room j X.A)(ha:JA X (e::es) g)(hn:∀ds st v st',F ds st=.ok v st'->ds.length=ps.length:=by exact fun _ _ _ _ h=>zzu h)(hk:k<=j:=by first | decide | lia)(hg:Gl X x:=by rfl)
 (hdb:(x==("__debug__" : Str))=false:=by decide)(he:starEach (e::es) X.env=(false, eval e X.env)::starEach es X.env:=by rfl)(hpl:(backTo pos (starEach es X.env)).any (·.1)=false:=by rfl):JE X (.Call (.Name x p) (e::es) [] pos) (aE F g):=zbbd c hn (hr.mono hk) hg ha hdb he hpl
theorem sst {e:Expr}{f:SE}(hN:X.N.Nodup)(he:JE X e f)(hi:X.N[i]?=some x:=by rfl)(hx:L2.Loc X.env.scope x:=by first | exact Or.inl rfl | exact Or.inr rfl)(hs:swapsWith e (some (.Name x pos')) pos.line X.env=pure false:=by rfl)(hf:X.fn x=true\/X.env.scope.names.lookup x=some .local:=by first | exact .inl rfl | exact .inr rfl | assumption) :
 JS X (.Assign [.Name x pos'] e pos) (aF i f):=zbad hN hi hx he hs hf
theorem sgn (hN:X.N.Nodup)(hi:X.N[i]?=some x:=by rfl)(hx:L2.Loc X.env.scope x:=by first | exact Or.inl rfl | exact Or.inr rfl)(hf:X.fn x=true\/X.env.scope.names.lookup x=some .local:=by first | exact .inl rfl | exact .inr rfl | assumption):JG X (.Name x pos) (gN i):=zbg hN hi hx hf
theorem sfr {tg iter:Expr}{body:List Stmt}{it:SA}{bd:SG}{b:SS}(hi:JI X tg iter it)(hg:JG X tg bd)(hb:JB X body b)(hp:PassesOwn (model X.prog X.w) X.A X.env X.xe:=by exact xjy)(hc:X.calm=true:=by rfl)(hs:∀x,foldedSetIterable iter X.env x=pure x:=by intro _;rfl) :
 JS X (.For tg iter body [] pos) (sFor it bd b):=zbae hp hc hi hg hb hs
theorem scp {iter elt:Expr}{it:SA}{f:SE}(N:List Str){k:Nat}{is:List Nat}{scope:Scope}(hi:JI X (.Name x p) iter it)(he:∀cl C fp s H,JE (cxC X N scope cl C fp s H) elt f)(nd:N.Nodup:=by decide +kernel)(S:CompScope X N k is scope:=by exact zfv (by rfl))(hcalm:X.calm=true:=by rfl)
  (hg:N.Nodup->∀cl C fp s H,JG (cxC X N scope cl C fp s H) (.Name x p) (gN 0):=by exact fun nd _ _ _ _ _=>sgn nd)(hs:∀x,foldedSetIterable iter X.env x=pure x:=by intro _;rfl):JE X (.ListComp elt [⟨.Name x p,iter,[],0⟩] scope pos) (aG it k is (gN 0) aI f) :=
 zfs hcalm hi (hg nd) (fun _ _ _ _ _=>zhk) he S hs
theorem sa1 {a:Expr}{f:SE}(ha:JE X a f)(hp:plainE a=true:=by rfl):JA X [a] (aB f aC):=zl ha zcu hp
theorem sa2 {a b:Expr}{f g:SE}(ha:JE X a f)(hb:JE X b g)(hp:plainE a=true:=by rfl)(hq:plainE b=true:=by rfl):JA X [a,b] (aB f (aB g aC)):=zl ha (sa1 hb hq) hp
theorem sad {a b:Expr}{f g:SE}(ha:JE X a f)(hb:JE X b g):JE X (.BinOp a .Add b pos) (aS aM f g):=zel zyv zbef ha hb
theorem ssb {a b:Expr}{f g:SE}(ha:JE X a f)(hb:JE X b g):JE X (.BinOp a .Sub b pos) (aS oSub f g):=zel zbdw (zsm fun _ _ _ _=>.int _) ha hb
end
structure En where
 P:Program
 w:World
 K:Fg
 mg:Str->Option Value
 base:Heap
 h:Heap
 X:K.In h
 G:h.Ns mainGlobals mg
noncomputable abbrev Cl (Y:En) (x:Str) (k:Nat) (ps:List Str) (F:DFn):Prop:=CalD Y.P Y.w Y.K Y.mg Y.base x k ps F
section
variable {Y:En}{x:Str}{st:Stmt}{ps:List Str}{k:Nat}{b:SS}
theorem cmk (N:List Str)(T:TopF Y.K x st)(hbody:N.Nodup->∀(f:Addr) (cdv:Value) (A:Around) (outer:List Env) (s:Shared) (H:Hp) (E:XK),Room k (A.deeper (envOfC x (defScope st) s.heap.objs.size f cdv))->JB (cxOf CX0 Y.P Y.w Y.K Y.mg Y.base N x (defScope st) f cdv A outer s H E).nox (defBody st) b)
 (S:FnScope N ps (defScope st):=by exact⟨rfl,rfl,rfl,by decide +kernel,rfl,by decide +kernel,by decide +kernel⟩)
 (bd:∀(kV doc pm:Value) (an:Option Addr) (cdv ct:Value) (us:List Value),us.length=ps.length->bindArgs (W.fnOf x x (defArgs st) (defBody st) (defScope st) .none kV doc pm an cdv ct) ⟨us,[]⟩=pure (ps.zip us):=by
  first | exact fun _ _ _ _ _ _ us hl=>len1 us hl fun _=>rfl | exact fun _ _ _ _ _ _ us hl=>len2 us hl fun _ _=>rfl | exact fun _ _ _ _ _ _ us hl=>len3 us hl fun _ _ _=>rfl | exact fun _ _ _ _ _ _ us hl=>len4 us hl fun _ _ _ _=>rfl | exact fun _ _ _ _ _ _ us hl=>len0 us hl rfl) :
 Cl Y x (k+1) ps (fnD N.length ps.length b):=zvy T Y.X Y.G S bd (hbody S.nd)
end
end Dd
namespace L2
open PySem PySem.Spec PyProof.Rows PySem.W
end L2
namespace Dd
open PySem L2 PyProof.Rows
section
variable {X:Cx}{R:RXT}{e:Expr}{es:List Expr}{f f':SE}{g:SA}{pos p:Pos}{x:Str}{k:Nat}{ps:List Str}{F:DFn}
end
end Dd
namespace L2
open PySem PySem.Spec PyProof.Rows
open Builtin Builtin.Str in
open Builtin Builtin.Str in
section
variable {X:Cx}{tg:Expr}
end
end L2
namespace Dd
open PySem L2 PyProof.Rows
section
variable {X:Cx}{tg l o e:Expr}{es:List Expr}{f:SE}{ga:SA}{apos cpos pos:Pos}
end
end Dd
namespace L2
open PySem PySem.Spec PyProof.Rows
section
variable {prog:Program}{w:World}{A:Around}{E:Value->Shared->Prop}{s:Shared}{z TI TO i1 i2 t2:Addr}{x0:Str}{tk:Tok}{ys:Array Value}{j:Nat}
end
section
variable {prog:Program}{w:World}{A:Around}{E:Value->Shared->Prop}{s:Shared}
end
section
variable {X:Cx}
end
end L2
namespace Dd
open PySem L2 PyProof.Rows
section
variable {X:Cx}{o a b e:Expr}{es:List Expr}{f f':SE}{ga g:SA}{apos cpos pos p2 q1 q2:Pos}{lo hi:Option Expr}{l h:DS->Store->Res (Option Int)}
end
end Dd
namespace L2
open PySem PySem.Spec PyProof.Rows PySem.W
section
variable {prog:Program}{w:World}{K:Type}[DecidableEq K](knd:PySem.KeyKind prog w K)
inductive Nest (h:Heap):List (List K)->List Value->Prop
 | nil:Nest h [] []
 | cons {k:List K} {a:Addr} {ks:List (List K)} {vs:List Value}:IsTupleKey knd h k a->Nest h ks vs->Nest h (k::ks) (.ref a::vs)
noncomputable def IsNest (h:Heap) (ks:List (List K)) (a:Addr):Prop:=∃ o items n, h.get? a=some o/\o.cls=.type "tuple"/\o.data=.seq items n/\Nest knd h ks items.toList
variable {knd}
theorem Nest.inj {h:Heap}{x y:List (List K)}{vs:List Value}(hx:Nest knd h x vs)(hy:Nest knd h y vs):x=y:=by
 induction hx generalizing y with
 | nil=>cases hy;rfl
 | cons h1 _ ih =>
  cases hy with
  | cons h2 t2=>rw[h1.inj h2,ih t2]
theorem Nest.keeps {h h':Heap}{x:List (List K)}{vs:List Value}(f:∀k a,IsTupleKey knd h k a->IsTupleKey knd h' k a)(hx:Nest knd h x vs):Nest knd h' x vs:=by
 induction hx with
 | nil=>exact .nil
 | cons h1 _ ih=>exact .cons (f _ _ h1) ih
theorem IsNest.typeIs {s:Shared}{ks:List (List K)}{a:Addr}(x:IsNest knd s.heap ks a):s.TypeIs (.ref a) "tuple":=let ⟨o, _, _, ho, hc, _⟩:=x; ⟨o, ho, hc⟩
theorem IsNest.inj {h:Heap}{a:Addr}{x y:List (List K)}(hx:IsNest knd h x a)(hy:IsNest knd h y a):x=y:=by
 obtain⟨o,items,n,ho,_,hd,hi⟩:=hx;obtain⟨o',items',n',ho',_,hd',hi'⟩:=hy;obtain rfl:o=o':=xcd (ho.symm.trans ho');rw[hd] at hd';injection hd' with h1 _
 subst h1;exact hi.inj hi'
theorem IsNest.keeps {h h':Heap}{ks:List (List K)}{a d:Addr}{o:Obj}{es ep}(x:IsNest knd h ks a)(ho:h.get? d=some o)(hd:o.data=.dict es ep)(hs:Heap.SameBut d h h') :
  IsNest knd h' ks a:=by
 obtain⟨o',items,n,ho',hc,hd',hi⟩:=x;have hne:a≠d:=by
  rintro rfl;obtain rfl:o'=o:=xcd (ho'.symm.trans ho);rw[hd] at hd';exact nomatch hd'
 exact⟨o',items,n,(hs.2 a hne).trans ho',hc,hd',hi.keeps fun k b z=>z.keeps ho hd hs⟩
noncomputable def nestHash (knd:PySem.KeyKind prog w K) (ks:List (List K)):Int:=reduceHash (Builtin.Tuple.tupleHashOf (ks.map (tupleKeyHash knd)))
noncomputable def nestDraws:List (List K)->Nat
 | []=>0
 | k::ks=>k.length+1+nestDraws ks
theorem zcp (k:List K):∀ks:List (List K),nestDraws (ks++[k])=nestDraws ks+(k.length+1)
 | []=>by simp[nestDraws]
 | x::ks=>by simp only[xfm,nestDraws,zcp k ks];lia
variable {A:Around}{E:Value->Shared->Prop}{s:Shared}
theorem zls {ks:List (List K)}{a:Addr}{Q:Int->Shared->Prop}(hu:A.units+8 < cLine)(hk:IsNest knd s.heap ks a)(h:Q (nestHash knd ks) {s with toks:=s.toks+(nestDraws ks+1)}) :
  wpAny (model prog w) A (pyHash (.ref a)) Q E s:=by
 have hT:=hk.typeIs;obtain⟨o,items,n,ho,_,hd,hi⟩:=hk;unfold pyHash
 first | unfold pyHashByItsType | skip
 first | refine xba (wpAny_cRoomFor_or (.inr (by lia)) ?_) | skip
 refine xba (xii hT xjd.lookup ?_);show wpAny _ _ (if(some (Value.builtin "tuple.__hash__")==some Value.none)=true then _ else _) Q E s
 rw[if_neg (by rw[beq_builtin_none];exact xem)];refine xba (xii hT xjd.lookup ?_);show wpAny _ _ (callSpecialIfBoundUnlessNone? (.ref a) "__hash__" _ >>= _) Q E s
 refine xba (wpAny_callSpecialIfBoundUnlessNone?_slot hT xjd (xeq xjd hT F.entry_tuple_hash ?_ (F.args_tuple_hash_1 _)));show wpAny _ _ (Builtin.Tuple.tupleItemsOf (.ref a) >>= _) _ _ s;refine xba (xkm ho hd ?_);refine xba ?_;rw[← xkj];refine xhz _
  (fun rest (b:Array Int) s'=>∃done left,ks=done++left/\Nest knd s.heap left rest/\b.toList=done.map (tupleKeyHash knd)/\s'={s with toks:=s.toks+nestDraws done})
  _ ?_ ?_ _ _ ⟨[],ks,rfl,hi,rfl,rfl⟩
 ·rintro x rest b s' ⟨done,left,rfl,hl,hb,rfl⟩;cases hl with
  | @cons k a' ks' _ h1 hl' =>
   refine xba (wpAny_pyHash_tuple (by show A.units+1 < cLine;lia) h1 ?_)
   first
    | exact xbe ⟨done++[k],ks',by simp,hl',by simp[hb],by rw[zcp];simp[xia]⟩
    | exact xba (xbe (xbe ⟨done++[k],ks',by simp,hl',by simp[hb],by rw[zcp];simp[xia]⟩))
 ·rintro b s' ⟨done,left,rfl,hl,hb,rfl⟩;cases hl;rw[xdz] at h;show wpAny _ _ (retInt (Builtin.Tuple.tupleHashOf b.toList)) _ _ _;rw[hb];refine wpAny_ret_mkInt ?_;show wpAny _ _ (if(decide (-(2:Int) ^ 63<=Builtin.Tuple.tupleHashOf (done.map (tupleKeyHash knd)))&&decide (Builtin.Tuple.tupleHashOf (done.map (tupleKeyHash knd)) < 2 ^ 63))=true then _ else _) Q E _;unfold nestHash reduceHash at h;by_cases hr:(decide (-(2:Int) ^ 63<=Builtin.Tuple.tupleHashOf (done.map (tupleKeyHash knd)))&&decide (Builtin.Tuple.tupleHashOf (done.map (tupleKeyHash knd)) < 2 ^ 63))=true
  ·rw[if_pos hr];rw[if_pos hr] at h;exact xbe (by simpa [xia] using h)
  ·rw[if_neg hr];rw[if_neg hr] at h;exact xba (xgq (xbe (by simpa [xia] using h)))
theorem zjg {x y:List (List K)}{a b:Addr}{P:Fin->Shared->Prop}(hu:A.units+4 < cLine)(hx:IsNest knd s.heap x a)(hy:IsNest knd s.heap y b)(h:P (.done (.ret (.bool (decide (x=y))))) s) :
  wpAny (model prog w) A (Builtin.«tuple.__eq__» ⟨[.ref a,.ref b],[]⟩) P E s:=by
 have hTb:=hy.typeIs;obtain⟨oa,xs,na,hoa,_,hda,hia⟩:=hx;obtain⟨ob,ys,nb,hob,_,hdb,hib⟩:=hy;show wpAny _ _ (isInstance (.ref b) (.type "tuple") >>= _) _ _ s
 refine xba (xjl hTb xjs ?_);simp only[xgm,xck,xdo];refine xba (xkm hoa hda ?_);refine xba (xkm hob hdb ?_);refine xba ?_;refine xhz _
  (fun rest r s'=>r.1=none/\s'=s/\∃x' y' xs' ys',rest=List.zip xs' ys'/\Nest knd s.heap x' xs'/\Nest knd s.heap y' ys'/\decide (x'=y')=decide (x=y)/\(xs'.length==ys'.length)=(xs.size==ys.size))
  _ ?_ ?_ _ _ ⟨rfl,rfl,x,y,xs.toList,ys.toList,rfl,hia,hib,rfl,by simp⟩
 ·rintro⟨u,v⟩ rest r s' ⟨hr,rfl,x',y',xs',ys',hz,hx',hy',hdec,hlen⟩;cases hx' with
  | nil=>simp at hz
  | @cons k1 u' x'' xs'' h1 hx'' =>
   cases hy' with
   | nil=>simp at hz
   | @cons k2 v' y'' ys'' h2 hy'' =>
    simp only[xke,List.cons.injEq,Prod.mk.injEq] at hz;obtain⟨⟨rfl,rfl⟩,rfl⟩:=hz;refine xba (wpAny_eqBool_tuple (by lia) h1 h2 ?_);by_cases hk:k1=k2
    ·subst hk;rw[xcm rfl];simp only[xgm,xck,xdo];refine xbe ⟨rfl,rfl,x'',y'',xs'',ys'',rfl,hx'',hy'',?_,by simpa using hlen⟩;rw[← hdec];by_cases hxy:x''=y''
     ·simp[hxy]
     ·simp[hxy]
    ·rw[xcj hk];simp only[Bool.not_false,xfw];have hf:decide (x=y)=false:=by rw[← hdec];simp[hk]
     rw[hf] at h;exact xba (xbe (xbe (xbe h)))
 ·rintro⟨r1,r2⟩ s' ⟨hr,rfl,x',y',xs',ys',hz,hx',hy',hdec,hlen⟩;simp only at hr;subst hr;refine xbe ?_;have hfin:(xs.size==ys.size)=decide (x=y):=by
   rw[← hdec,← hlen];cases hx' with
   | nil =>
    cases hy' with
    | nil=>simp
    | cons _ _=>simp
   | cons _ _ =>
    cases hy' with
    | nil=>simp
    | cons _ _=>simp at hz
  show P (.done (.ret (.bool (xs.size==ys.size)))) s';rw[hfin];exact h
theorem zmh {x y:List (List K)}{a b:Addr}{Q:Bool->Shared->Prop}(hu:A.units+8 < cLine)(hx:IsNest knd s.heap x a)(hy:IsNest knd s.heap y b)(h:Q (decide (x=y)) s) :
  wpAny (model prog w) A (eqBool (.ref a) (.ref b)) Q E s:=by
 unfold eqBool
 try with_reducible refine xer ?_
 show wpAny _ _ (if(Value.ref a==Value.ref b)=true then _ else _) Q E s;by_cases hab:(Value.ref a==Value.ref b)=true
 ·rw[if_pos hab];have e:a=b:=by have:=eq_of_beq hab;injection this
  subst e;obtain rfl:=hx.inj hy;exact xba (xgq (xbe (by simpa using h)))
 ·rw[if_neg hab]
  exact xba (wpAny_richCompare_same_room (op:=.Eq) hx.typeIs hy.typeIs xjz
   (xeq xjz hx.typeIs F.entry_tuple_eq (zjg (by show A.units+1+4 < cLine;lia) hx hy ⟨_,rfl,(fun e=>nomatch e),xff h⟩) (F.args_tuple_eq_2 _ _)) (by lia))
theorem zqf {n:Nat}{ks:List K}{a:Addr}{Q:Bool->Shared->Prop}(hk:IsTupleKey knd s.heap ks a)(h:Q true s):wpAny (model prog w) A (eqIsQuiet (n+1) (.ref a)) Q E s:=by
 have hT:=hk.typeIs;obtain⟨o,items,m,ho,_,hd,hi⟩:=hk;unfold eqIsQuiet;refine xba (xii hT xjz.lookup ?_);show wpAny _ _ (isInstance (.ref a) (.type "tuple") >>= _) _ _ s
 refine xba (xjl hT xjs ?_);simp only[xgm,xck,xdo];refine xba (wpAny_seqItems ho hd ?_);refine xba ?_;show wpAny _ _ (forIn items _ _) _ _ s;rw[← xkj];refine xhz _ (fun rest r s'=>r.1=none/\s'=s/\∀v∈rest,carriedByValue v=true) _ ?_ ?_ _ _ ⟨rfl,rfl,hi.byValue⟩
 ·rintro v rest r s' ⟨hr,rfl,hall⟩;rw[eqIsQuiet_byValue _ (hall v xbp)];refine xba (xbe ?_);simp only[xgm,xck,xdo];exact xbe ⟨rfl,rfl,fun u hu'=>hall u (xbl _ hu')⟩
 ·rintro⟨r1,r2⟩ s' ⟨hr,rfl,_⟩;simp only at hr;subst hr;exact xbe h
theorem znb {ks:List (List K)}{a:Addr}{Q:Bool->Shared->Prop}(hk:IsNest knd s.heap ks a)(h:Q true s):wpAny (model prog w) A (eqIsQuiet 8 (.ref a)) Q E s:=by
 have hT:=hk.typeIs;obtain⟨o,items,m,ho,_,hd,hi⟩:=hk;unfold eqIsQuiet;refine xba (xii hT xjz.lookup ?_);show wpAny _ _ (isInstance (.ref a) (.type "tuple") >>= _) _ _ s
 refine xba (xjl hT xjs ?_);simp only[xgm,xck,xdo];refine xba (wpAny_seqItems ho hd ?_);refine xba ?_;show wpAny _ _ (forIn items _ _) _ _ s;rw[← xkj];refine xhz _ (fun rest r s'=>r.1=none/\s'=s/\∃l,Nest knd s.heap l rest) _ ?_ ?_ _ _ ⟨rfl,rfl,ks,hi⟩
 ·rintro v rest r s' ⟨hr,rfl,l,hl⟩;cases hl with
  | @cons k b ks' _ h1 hl' =>
   refine xba (zqf h1 ?_);simp only[xgm,xck,xdo];exact xbe ⟨rfl,rfl,ks',hl'⟩
 ·rintro⟨r1,r2⟩ s' ⟨hr,rfl,_⟩;simp only at hr;subst hr;exact xbe h
noncomputable def nestKind (knd:PySem.KeyKind prog w K):HeapKind prog w (List (List K)) where
 is:=IsNest knd
 hash:=nestHash knd
 draws:=fun ks=>nestDraws ks+1
 room:=fun A=>A.units+8 < cLine
 inj:=fun hx hy=>hx.inj hy
 keeps:=fun x ho hd hs=>x.keeps ho hd hs
 pyHash:=fun hu hk h=>zls hu hk h
 eqBool:=fun hu hx hy h=>zmh hu hx hy h
 quiet:=fun hk h=>znb hk h
end
end L2
namespace Dd
open PySem PySem.Spec PyProof.Rows PySem.W L2
noncomputable abbrev kkP (k:List (List Int)):List (List Key):=k.map (List.map Sum.inl)
theorem znx {a b:List (List Int)}:kkP a=kkP b↔a=b :=
 ⟨fun h=>(List.map_inj_right (f:=List.map (Sum.inl:Int->Key)) fun x y e=>zie.mp e).mp h,fun h=>by rw[h]⟩
theorem zlk:∀{ds:List D} {k:List Int},asInts ds=some k->ds=k.map .int
 | [],k,e=>by cases e;rfl
 | d::ds,k,e=>by
  cases d<;>try (cases e;done)
  rename_i i;cases hz:asInts ds with
  | none=>simp[asInts,hz] at e
  | some z =>
   simp[asInts,hz] at e;subst e;rw[zlk hz];rfl
theorem ztb:∀r:List Int,asInts (r.map .int)=some r
 | []=>rfl
 | i::r=>by simp[asInts,ztb r]
noncomputable def keysP:List D->Option (List (List Int))
 | []=>some []
 | d::ds=>match keyOf d,keysP ds with
  | some k,some ks=>some (k::ks)
  | _,_=>none
noncomputable def keyP:D->Option (List (List Int))
 | .tup ds=>keysP ds
 | _=>none
theorem zny:∀{ds:List D} {k:List (List Int)},keysP ds=some k->ds=k.map fun r=>.tup (r.map .int)
 | [],k,e=>by unfold keysP at e;cases e;rfl
 | d::ds,k,e=>by
  unfold keysP at e;split at e
  ·rename_i r ks h1 h2;cases e;rw[zny h2];unfold keyOf at h1;split at h1
   ·rw[zlk h1];rfl
   ·cases h1
  ·cases e
theorem zoa {d:D}{k:List (List Int)}(e:keyP d=some k):d=nestD k:=by
 unfold keyP at e;split at e
 ·rw[zny e];rfl
 ·cases e
section
variable {P:Program}{w:World}{K:Fg}{ρ:Loc}{H:Hp}{h:Heap}
theorem zkk (ok:HOk P w H h){k:List (List Int)}{b:Addr}(x:At K ρ H (nestD k) (.ref b)):IsNest (mixKind P w) h (kkP k) b:=by
 cases x with
 | @tup _ _ vs h1 h2 h3 =>
  obtain⟨zz,its,r,o,q1,q2,n,q3⟩:=(show ObjOk P w H h b (.tup vs) from ok b _ h1)
  refine⟨o,its.toArray,n,q1,q2,q3,?_⟩;show Nest _ _ _ its;clear h1 q1 q2 q3 zz
  induction k generalizing vs its with
  | nil=>cases h3;cases r;exact .nil
  | cons y k ih =>
   cases h3 with
   | cons a t =>
    cases r with
    | cons rv rt =>
     cases a with
     | tup g1 g2 g3 =>
      cases rv;have:=zbz g3 (ztb y);subst this;exact .cons (zjk ok (by rw[zob];exact g1)) (ih t _ rt)
noncomputable def KpX (P:Program) (w:World) (K:Fg) (ρ:Loc) (H:Hp):List (List (List Int))->List (List (List Key)×Addr×Value)->Prop :=
 Paired fun k x=>x.1=kkP k/\x.2.2=.bool true/\At K ρ H (nestD k) (.ref x.2.1)
theorem zkq (k:List (List Int)):nestHash (mixKind P w) (kkP k)=hashP k:=by
 unfold nestHash hashP tupleKeyHash;rw[xde]
 congr 2
 refine xfz fun r _=>?_
 show reduceHash (Builtin.Tuple.tupleHashOf (List.map _ (List.map _ r)))=_;rw[xde]
 rfl
theorem KpAt.xs {ks:List (List (List Int))}{es:List DictEntry}(r:KpAt K ρ H ks es):∃xs,KpX P w K ρ H ks xs/\es=xs.map (entryOfKey (nestKind (mixKind P w))):=by
 induction r with
 | nil=>exact⟨[],.nil,rfl⟩
 | @cons k e ks es z t ih =>
  obtain⟨xs,h1,h2⟩:=ih;obtain⟨z1,z2,b,z3,z4⟩:=z;refine⟨(kkP k,b,.bool true)::xs,.cons ⟨rfl,rfl,z4⟩ h1,?_⟩;rw[xbh,← h2]
  congr 1
  obtain⟨hh,key,val⟩:=e;cases z2;cases z3;show DictEntry.mk _ _ _=DictEntry.mk _ _ _
  congr 1
  exact z1.trans (zkq k).symm
theorem KpX.at {ks:List (List (List Int))}{xs:List (List (List Key)×Addr×Value)}(r:KpX P w K ρ H ks xs):KpAt K ρ H ks (xs.map (entryOfKey (nestKind (mixKind P w)))):=by
 induction r with
 | nil=>exact .nil
 | @cons k x ks xs z t ih =>
  refine .cons ⟨?_,z.2.1,x.2.1,rfl,z.2.2⟩ ih;show nestHash _ x.1=_;rw[z.1,zkq]
theorem KpX.keys {ks:List (List (List Int))}{xs:List (List (List Key)×Addr×Value)}(r:KpX P w K ρ H ks xs):xs.map (·.1)=ks.map kkP:=by
 induction r with
 | nil=>rfl
 | cons z t ih=>rw[xbh,xbh,ih,z.1]
theorem KpX.val {ks:List (List (List Int))}{xs:List (List (List Key)×Addr×Value)}(r:KpX P w K ρ H ks xs)(k:List (List Int)) :
  (k∈ks/\∃p,atKey xs (kkP k)=some p/\p.2=.bool true)\/(k∉ks/\atKey xs (kkP k)=none):=by
 induction r with
 | nil=>exact .inr ⟨by simp,rfl⟩
 | @cons k' x ks xs z t ih =>
  unfold atKey;by_cases e:k'=k
  ·subst e;refine .inl ⟨xbp,x.2,?_,z.2.1⟩;rw[List.find?_cons_of_pos (by simp[z.1])]
   rfl
  ·rw[List.find?_cons_of_neg (by rw[xdj,z.1,znx];exact e)];rcases ih with⟨h1,h2⟩ | ⟨h1,h2⟩
   ·exact .inl ⟨xbl _ h1,h2⟩
   ·exact .inr ⟨fun m=>(xcc.mp m).elim (fun q=>e q.symm) h1,h2⟩
theorem KpX.drop {ks:List (List (List Int))}{xs:List (List (List Key)×Addr×Value)}(r:KpX P w K ρ H ks xs)(k:List (List Int)) :
  KpX P w K ρ H (ks.filter fun x=>decide (x≠k)) (xs.filter fun x=>decide (x.1≠kkP k)):=by
 induction r with
 | nil=>exact .nil
 | @cons k' x ks xs z t ih =>
  by_cases e:k'=k
  ·rw[xco (by simp[e]),xco (by rw[z.1];simp[e])];exact ih
  ·rw[xcp (by simp[e]),xcp (by rw[xdj,z.1];exact fun q=>e (znx.mp q))];exact .cons z ih
theorem zra {ks:List (List (List Int))}(nd:ks.Nodup):(ks.map kkP).Nodup:=by
 induction ks with
 | nil=>exact xgc
 | cons k ks ih =>
  rw[xfh] at nd;rw[xbh,xfh];refine⟨fun m=>?_,ih nd.2⟩;obtain⟨y,hy,e⟩:=xdk.mp m;exact nd.1 (by rw[← znx.mp e];exact hy)
theorem KpX.nests {ks:List (List (List Int))}{xs:List (List (List Key)×Addr×Value)}(ok:HOk P w H h)(r:KpX P w K ρ H ks xs):∀x∈xs,(nestKind (mixKind P w)).is h x.1 x.2.1:=by
 induction r with
 | nil=>intro x hx;cases hx
 | cons z t ih =>
  intro x hx;rcases xcc.mp hx with q | q
  ·subst q;show IsNest _ _ _ _;rw[z.1];exact zkk ok z.2.2
  ·exact ih x q
theorem KpAt.refs {ks:List (List (List Int))}{es:List DictEntry}(r:KpAt K ρ H ks es):∃bs:List Addr,es.map (·.key)=bs.map Value.ref/\bs.length=ks.length/\AtAll K ρ H (ks.map nestD) (bs.map V.ref):=by
 induction r with
 | nil=>exact⟨[],rfl,rfl,.nil⟩
 | cons z t ih =>
  obtain⟨bs,h1,h2,h3⟩:=ih;obtain⟨_,_,b,z3,z4⟩:=z;exact⟨b::bs,by rw[xbh,xbh,h1,z3],by rw[xbr,xbr,h2],.cons z4 h3⟩
theorem zbcd {a:Addr}{ks:List (List (List Int))}(ok:HOk P w H h)(q:OAt K ρ H (.dP ks) a):(a==sysModules)=false/\ks.length<=sizeLine/\ks.Nodup/\∃es xs,H a=some (.ext (PDict a es))/\KpX P w K ρ H ks xs/\h.DictOfH (nestKind (mixKind P w)) a xs:=by
 obtain⟨es,h1,h2,h3,h4,h5⟩:=q;obtain⟨xs,x1,x2⟩:=h5.xs (P:=P) (w:=w);obtain⟨⟨o,arr,ep,g1,g2,g3,g4⟩,_,_⟩:=(show ObjOk P w H h a (.ext (PDict a es)) from ok a _ h1)
 refine⟨h2,h3,h4,es,xs,h1,x1,o,arr,ep,g1,g2,g3,g4.trans x2,x1.nests ok,by rw[x1.keys];exact zra h4⟩
end
noncomputable def oPIn (y x:D) (st:Store):Res D:=match keyP y,x with
 | some k,.ref n=>match st[n]? with
  | some (.dP ks)=>.ok (.bl (decide (k∈ks))) st
  | _=>.stuck
 | _,_=>.stuck
noncomputable def ePPop (f g:SE):SE:=fun σ st=>(f σ st).bind fun x st1=>match x with
 | .ref n=>match st1[n]? with
  | some (.dP _)=>(g σ st1).bind fun y st2=>match keyP y,st2[n]? with
   | some k,some (.dP ks)=>if k∈ks then .ok (.bl true) (st2.set n (.dP (ks.filter fun x=>decide (x≠k)))) else .stuck
   | _,_=>.stuck
  | _=>.stuck
 | _=>.stuck
theorem zul {y x v:D}{st st':Store}(e:oPIn y x st=.ok v st'):∃k n ks,keyP y=some k/\x=.ref n/\st[n]?=some (.dP ks)/\v=.bl (decide (k∈ks))/\st'=st:=by
 unfold oPIn at e;split at e
 ·rename_i k n hk;split at e
  ·rename_i ks hn;cases e;exact⟨k,n,ks,hk,rfl,hn,rfl,rfl⟩
  ·cases e
 ·cases e
noncomputable def pput (σ:DS) (v x y:D) (st3:Store):Res Fl:=match v,x,keyP y with
 | .bl true,.ref n,some k=>match st3[n]? with
  | some (.dP ks)=>if k∈ks then .stuck else if ks.length < sizeLine then .ok (.nx σ) (st3.set n (.dP (ks++[k]))) else .stuck
  | _=>.stuck
 | _,_,_=>.stuck
theorem ztw {σ:DS}{v x y:D}{st st':Store}{fl:Fl}(e:pput σ v x y st=.ok fl st'):∃k n ks,keyP y=some k/\v=.bl true/\x=.ref n/\st[n]?=some (.dP ks)/\k∉ks/\ks.length < sizeLine/\fl=.nx σ/\st'=st.set n (.dP (ks++[k])):=by
 unfold pput at e;split at e
 ·rename_i n k hk;split at e
  ·rename_i ks hn;split at e
   ·cases e
   ·rename_i hm;split at e
    ·rename_i hl;cases e;exact⟨k,n,ks,hk,rfl,rfl,hn,hm,hl,rfl,rfl⟩
    ·cases e
  ·cases e
 ·cases e
noncomputable def sPPut (f g h:SE):SS:=fun σ st=>(h σ st).bind fun v st1=>(f σ st1).bind fun x st2=>(g σ st2).bind fun y st3=>pput σ v x y st3
noncomputable def eDNewP:SE:=fun _ st=>.ok (.ref st.length) (st++[.dP []])
noncomputable def bListP:List D->Store->Res D:=fun xs st=>match xs with
 | [.ref n]=>match st[n]? with
  | some (.dP ks)=>if ks.length<=1000000 then .ok (.lst (ks.map nestD)) st else .stuck
  | _=>.stuck
 | _=>.stuck
section
variable {X:Cx}{o i e value:Expr}{f g h:SE}{pos pos' apos cpos:Pos}
theorem PDict.stay {a:Addr}{es:List DictEntry}:∀h1 h2:Heap,PDict a es h1->(∀o,h1.get? a=some o->h2.get? a=some o)->PDict a es h2 :=
 fun h1 h2 ⟨o,arr,ep,e,r⟩ k=>⟨o,arr,ep,k _ e,r⟩
theorem zbba:DE X (.Dict [] [] pos) eDNewP:=fun aU s τ H Q I hq0=>by
 obtain⟨ρ,σ,st,v,st',a,rp,e,q⟩:=hq0;cases e;have hn:=I.hok.fresh (xbd s.heap.objs.size);obtain⟨E,R⟩:=rp.alloc hn (x:=.dP []) (o:=.ext (PDict s.heap.objs.size [])) fun E=>⟨[],zk,xgb.mpr (xez (xcl I.big)),xed _,xgc,.nil⟩
 refine wpAny_Dict_empty ⟨.ref s.heap.objs.size,_,I.laid (a:=s.heap.objs.size) (o:=.ext (PDict s.heap.objs.size [])) (t':=s.toks) (fun _ _ q=>xbj _ q) (xbd _) ⟨⟨_,#[],0,xbz _ rfl,⟨rfl,rfl,rfl⟩,rfl,rfl⟩,⟨_,xbz _ rfl⟩,PDict.stay⟩,rfl,q _ _ _ E R (.last rp.len.symm)⟩
theorem zbdr (hu:X.A.units+64 < cLine)(hi:DE X i g)(ho:DE X o f):PC X .In i o (tD X.K (aS oPIn g f)):=fun aU s τ H Q I hq0=>by
 obtain⟨ρ,σ,st,v,st',a,rp,e,q⟩:=hq0;obtain⟨y,st1,e1,e⟩:=za e;obtain⟨x,st2,e2,e⟩:=za e;obtain⟨k,n,ks,hk,ex,hn,ev,es'⟩:=zul e;refine thn (hi aU s τ H _ I ⟨ρ,σ,st,y,st1,a,rp,e1,fun ρ1 H1 u x1 rp1 a1=>(⟨ρ1,x1,rp1,a1⟩:∃ρ1,Ext ρ H ρ1 H1/\Rep X.K ρ1 st1 H1/\At X.K ρ1 H1 y u)⟩) fun iv s1 hq0=>?_
 obtain⟨yv,H1,I1,ry,ρ1,x1,rp1,a1⟩:=hq0;refine thn (ho aU s1 τ H1 _ I1 ⟨ρ1,σ,st1,x,st2,a.ext x1,rp1,e2,fun ρ2 H2 u x2 rp2 a2=>(⟨ρ2,x2,rp2,a2⟩:∃ρ2,Ext ρ1 H1 ρ2 H2/\Rep X.K ρ2 st2 H2/\At X.K ρ2 H2 x u)⟩) fun ov s2 hq0=>?_
 obtain⟨xv,H2,I2,rx,ρ2,x2,rp2,a2⟩:=hq0;subst ex ev es';obtain⟨p,rfl,hp,ob⟩:=zco rp2 a2 hn (by intro z;cases z);obtain rfl:ov=Value.ref p:=rx;have ay:=a1.ext x2;rw[zoa hk] at ay;obtain⟨b,rfl⟩:∃b,yv=.ref b:=by cases ay;exact⟨_,rfl⟩
 obtain rfl:iv=Value.ref b:=ry;obtain⟨ns,z,nd,es,xs,g1,g2,g3⟩:=zbcd I2.hok ob;refine wpAny_in_heap (show X.A.units+1+8 < cLine by lia) (zkk I2.hok ay) ns g3 ?_;refine⟨.bl (decide (k∈ks)),H2,I2.tok _,?_,q _ _ _ (x1.trans x2) rp2 (.bl _)⟩;rcases g2.val k with⟨m,p',ep,_⟩ | ⟨m,ep⟩
 ·rw[ep,xcm m];rfl
 ·rw[ep,xcj m];rfl
theorem zbay (hu:X.A.units + 64 < cLine)(ho:DE X o f)(he:DE X e g)(m:M1 X o "pop" apos e cpos):DE X (.Call (.Attribute o "pop" apos) [e] [] cpos) (ePPop f g):=fun aU s τ H Q I hq0=>by
 obtain⟨ρ,σ,st,v,st',a,rp,e,q⟩:=hq0;obtain⟨x,st1,e1,e⟩:=za e;refine xks m.base m.few m.line xiu xjr F.type_dict_pop (thn (ho aU s τ H _ I ⟨ρ,σ,st,x,st1,a,rp,e1,fun ρ1 H1 u x1 rp1 a1=>(⟨ρ1,x1,rp1,a1⟩:∃ρ1,Ext ρ H ρ1 H1/\Rep X.K ρ1 st1 H1/\At X.K ρ1 H1 x u)⟩) fun ov s1 hq0=>?_);obtain⟨xv,H1,I1,rx,ρ1,x1,rp1,a1⟩:=hq0;split at e
 ·rename_i n;split at e
  ·rename_i ks0 h0;obtain⟨p,rfl,hp0,ob0⟩:=zco rp1 a1 h0 (by intro z;cases z);obtain rfl:ov=Value.ref p:=rx;obtain⟨y,st2,e2,e⟩:=za e;obtain⟨_,_,_,es0,xs0,_,_,dd0⟩:=zbcd I1.hok ob0;refine⟨dd0.typeIs,fun b z=>?_,?_⟩
   ·cases z;obtain⟨ob,_,_,z1,z2,_⟩:=dd0;exact⟨ob,z1,z2.2.1⟩
   rw[m.trees];refine xhg rfl (xht (xha (thn (he aU s1 τ H1 _ I1 ⟨ρ1,σ,st1,y,st2,a.ext x1,rp1,e2,fun ρ2 H2 u x2 rp2 a2=>(⟨ρ2,x2,rp2,a2⟩:∃ρ2,Ext ρ1 H1 ρ2 H2/\Rep X.K ρ2 st2 H2/\At X.K ρ2 H2 y u)⟩) fun iv s2 ⟨yv,H2,I2,ry,ρ2,x2,rp2,a2⟩=>xiz ?_)));split at e
   ·rename_i k ks hk hn;split at e
    ·rename_i hm;cases e;obtain⟨p',ep,hp,ob⟩:=zco rp2 (a1.ext x2) hn (by intro z;cases z);cases ep;have ay:=a2;rw[zoa hk] at ay;obtain⟨b,rfl⟩:∃b,yv=.ref b:=by cases ay;exact⟨_,rfl⟩
     obtain rfl:iv=Value.ref b:=ry;obtain⟨ns,z,nd,es,xs,g1,g2,g3⟩:=zbcd I2.hok ob;rcases g2.val k with⟨_,p',ep,ev⟩ | ⟨mm,_⟩
     ·refine znd (show X.A.units+1+8 < cLine by lia) (zkk I2.hok ay) g3 ep (by rw[← xey g2];exact z) fun h' dd' hs=>?_
      obtain⟨ob',arr,epp,k1,k2,k3,k4,_,k5⟩:=dd';have nf:∀ob u,H2 p≠some (.frz ob u):=fun ob u z=>by rw[g1] at z;cases z
      have E:Ext ρ2 H2 ρ2 (upd H2 p (.ext (PDict p ((xs.filter fun x=>decide (x.1≠kkP k)).map (entryOfKey (nestKind (mixKind X.prog X.w))))))):=Ext.wr hp nf _;rw[ev];refine⟨.bl true,_,zig (ob:=.ext (PDict p ((xs.filter fun x=>decide (x.1≠kkP k)).map (entryOfKey (nestKind (mixKind X.prog X.w)))))) I2 (by rw[g1];exact True.intro) hs ⟨ob',k1⟩ ⟨⟨ob',arr,epp,k1,k2,k3,k4⟩,⟨ob',k1⟩,PDict.stay⟩,rfl,?_⟩;exact q _ _ _ ((x1.trans x2).trans E) (rp2.wr hp nf ⟨_,zk,ns,xbb (xdw _ _) z,nd.filter _,((g2.drop k).at).map fun _ _ z=>z.ext E⟩) (.bl true)
     ·exact absurd hm mm
    ·cases e
   ·cases e
  ·cases e
 ·cases e
theorem zvh (hu:X.A.units+64 < cLine)(ho:DE X o f)(hi:DE X i g)(hv:DE X value h)(hs:swapsWith value (some (.Subscript o i pos')) pos.line X.env=pure false) :
  DSt X (.Assign [.Subscript o i pos'] value pos) (sPPut f g h):=fun aU s τ H EE I hq0=>by
 obtain⟨ρ,σ,st,fl,st',a,rp,e,q⟩:=hq0;obtain⟨v,st1,e1,e⟩:=za e;obtain⟨x,st2,e2,e⟩:=za e;obtain⟨y,st3,e3,e⟩:=za e;obtain⟨k,n,ks,hk,ev,ex,hn,hm,hl,ef,es'⟩:=ztw e
 refine wpAny_Assign_Subscript (thn (hv aU s τ H _ I ⟨ρ,σ,st,v,st1,a,rp,e1,fun ρ1 H1 u x1 rp1 a1=>(⟨ρ1,x1,rp1,a1⟩:∃ρ1,Ext ρ H ρ1 H1/\Rep X.K ρ1 st1 H1/\At X.K ρ1 H1 v u)⟩) fun rv s1 ⟨vv,H1,I1,rvv,ρ1,x1,rp1,a1⟩ =>
  thn (ho aU s1 τ H1 _ I1 ⟨ρ1,σ,st1,x,st2,a.ext x1,rp1,e2,fun ρ2 H2 u x2 rp2 a2=>(⟨ρ2,x2,rp2,a2⟩:∃ρ2,Ext ρ1 H1 ρ2 H2/\Rep X.K ρ2 st2 H2/\At X.K ρ2 H2 x u)⟩) fun ov s2 ⟨xv,H2,I2,rx,ρ2,x2,rp2,a2⟩ =>
  thn (hi aU s2 τ H2 _ I2 ⟨ρ2,σ,st2,y,st3,a.ext (x1.trans x2),rp2,e3,fun ρ3 H3 u x3 rp3 a3=>(⟨ρ3,x3,rp3,a3⟩:∃ρ3,Ext ρ2 H2 ρ3 H3/\Rep X.K ρ3 st3 H3/\At X.K ρ3 H3 y u)⟩) fun iv s3 ⟨yv,H3,I3,ry,ρ3,x3,rp3,a3⟩=>?_) hs
 subst ex ev ef es';obtain⟨p,rfl,hp,ob⟩:=zco rp3 (a2.ext x3) hn (by intro z;cases z);obtain rfl:ov=Value.ref p:=rx;have ay:=a3;rw[zoa hk] at ay;obtain⟨b,rfl⟩:∃b,yv=.ref b:=by cases ay;exact⟨_,rfl⟩
 obtain rfl:iv=Value.ref b:=ry;have:vv=.bl true:=by cases a1;rfl
 subst this;obtain rfl:rv=Value.bool true:=rvv;obtain⟨ns,z,nd,es,xs,g1,g2,g3⟩:=zbcd I3.hok ob;rcases g2.val k with⟨mm,_⟩ | ⟨_,en⟩
 ·exact absurd mm hm
 refine wpAny_setItem_heap (hsz:=by rw[← xey g2];exact z) (show X.A.units+1+8 < cLine by lia) (zkk I3.hok ay) g3 fun h' dd' hs'=>?_
 rw[storedH_new en] at dd';obtain⟨ob',arr,epp,k1,k2,k3,k4,_,k5⟩:=dd';have nf:∀ob u,H3 p≠some (.frz ob u):=fun ob u z=>by rw[g1] at z;cases z
 have E:Ext ρ3 H3 ρ3 (upd H3 p (.ext (PDict p ((xs++[(kkP k,b,Value.bool true)]).map (entryOfKey (nestKind (mixKind X.prog X.w))))))):=Ext.wr hp nf _;refine⟨τ,_,zig (ob:=.ext (PDict p ((xs++[(kkP k,b,Value.bool true)]).map (entryOfKey (nestKind (mixKind X.prog X.w)))))) I3 (by rw[g1];exact True.intro) hs' ⟨ob',k1⟩ ⟨⟨ob',arr,epp,k1,k2,k3,k4⟩,⟨ob',k1⟩,PDict.stay⟩,?_⟩;refine q _ _ _ ((x1.trans (x2.trans x3)).trans E) (rp3.wr hp nf ⟨_,zk,ns,by rw[xbo];exact hl,?_,((show KpX X.prog X.w X.K ρ3 H3 _ _ from Paired.snoc g2 ⟨rfl,rfl,ay⟩).at).map fun _ _ z=>z.ext E⟩) (a.ext ((x1.trans (x2.trans x3)).trans E))
 exact xje.mpr ⟨nd,by simp,fun c hc d hd=>by
  rw[xbw.mp hd];rintro rfl
  exact hm hc⟩
noncomputable def rListP:List V->Hp->VK->Prop:=fun xs H Q=>∃(a:Addr) (es:List DictEntry) (bs:List Addr),xs=[.ref a]/\H a=some (.ext (PDict a es))/\(a==sysModules)=false/\es.map (·.key)=bs.map Value.ref/\bs.length<=1000000 /\
 ∀t,H t=none->Q (.ref t) (upd H t (.lst (bs.map V.ref)))
theorem zke:∀bs:List Addr,Vals (bs.map V.ref) (bs.map Value.ref)
 | []=>.nil
 | b::bs=>.cons rfl (zke bs)
theorem zoy (hc:X.calm=true):CallR X (.type "list") rListP:=by
 intro aU s σ H xs us Q I r h;obtain⟨a,es0,bs,rfl,hd,ns,ek,few,q⟩:=h;obtain⟨u,rfl,ru⟩:=vals1 r;cases ru;obtain⟨⟨ob,es,ep,e1,e2,e3,e4⟩,_,_⟩:=(show ObjOk X.prog X.w H s.heap a (.ext (PDict a es0)) from I.hok a _ hd)
 have hes:es.toList.map (·.key)=bs.map Value.ref:=by rw[e4];exact ek
 have hsz:es.size=bs.length:=by
  have:=congrArg List.length hes;rw[xbc,xbc,xbv] at this;exact this
 refine kdl_call (Dct.zsf ns es ep) (I.ok.hd hc) ⟨ob,e1,e2,e3⟩ ((by rw[xib];lia)) fun h' tk acc c keep new it=>?_
 have ln:acc.toList.length=es.size:=by rw[xbv];exact it.1
 have evs:acc.toList=bs.map Value.ref:=by
  rw[← hes];apply xjb;intro i;by_cases hi:i < es.size
  ·have h1:acc.toList[i]?=some acc.toList[i]:=xbf (by lia);obtain⟨en,h2,h3⟩:=it.2 i _ (by rw[← xcf];exact h1);rw[h1,h3,xcb,xcf,h2]
   rfl
  ·rw[xfp (by lia),xfp (by rw[xbc,xbv];lia)]
 refine⟨.ref s.heap.objs.size,_,I.laid (a:=s.heap.objs.size) (o:=.lst (bs.map V.ref)) keep (xbd _) ⟨?_,bs.map Value.ref,c,zke bs,by rw[← evs];simpa using new⟩,rfl,q _ (I.hok.fresh (xbd _))⟩;rw[xbc];exact(by rw[xib];lia)
theorem zwb {K:Fg}:CaD K bListP rListP:=fun ρ H st xs us z st' Q rp aa e q=>by
 unfold bListP at e;split at e
 ·rename_i n;obtain⟨u,rfl,a⟩:=aa.one;split at e
  ·rename_i ks hk;split at e
   ·rename_i few;cases e;obtain⟨p,rfl,hp,es,g1,ns,_,_,g2⟩:=zco rp a hk (by intro z;cases z);obtain⟨bs,h1,h2,h3⟩:=g2.refs;refine⟨p,es,bs,rfl,g1,ns,h1,by rw[h2];exact few,fun t ht=>?_⟩;exact q _ _ _ (Ext.new ht _) (rp.new ht _) (.newL rp ht h3)
   ·cases e
  ·cases e
 ·cases e
theorem zvq:JE X (.Dict [] [] pos) eDNewP:=⟨zbba⟩
theorem zyp (hu:X.A.units+64 < cLine)(hi:JE X i g)(ho:JE X o f):JC X .In i o (aS oPIn g f):=⟨zbdr hu hi.out ho.out⟩
theorem zvp (hu:X.A.units + 64 < cLine)(ho:JE X o f)(he:JE X e g)(m:M1 X o "pop" apos e cpos):JE X (.Call (.Attribute o "pop" apos) [e] [] cpos) (ePPop f g):=⟨zbay hu ho.out he.out m⟩
theorem zrm (hu:X.A.units+64 < cLine)(ho:JE X o f)(hi:JE X i g)(hv:JE X value h)(hs:swapsWith value (some (.Subscript o i pos')) pos.line X.env=pure false) :
 JS X (.Assign [.Subscript o i pos'] value pos) (sPPut f g h):=⟨zvh hu ho.out hi.out hv.out hs⟩
end
end Dd
namespace Dd
open PySem L2
noncomputable def zeg:DFn:=fnD 5 2 (aD (aF 2 (eC (.int 0)))
 (aD (sIf (eB (aS oLtT (aA 1) (aE bLen (aB (aA 0) aC)))) (aF 2 (aE bAbs (aB (aS oIx (aA 0) (aA 1)) aC))) sNx)
 (aD (aF 3 (aS aM (aS oMulI (eC (.int 7919)) (aA 1)) (eC (.int 17))))
 (aD (sFor (iR1 (aB (aE bMin2 (aB (aE bLen (aB (aA 0) aC)) (aB (eC (.int 60)) aC))) aC)) (gN 4) (aF 3 (aS oMod (aS aM (aS aM (aS oMulI (aA 3) (eC (.int 48271))) (aS oMod (aS oIx (aA 0) (aA 4)) (eC (.int 2147483647)))) (aA 4)) (eC (.int 2147483629)))))
 (aD (sIf (eB (aS oLtT (aA 2) (aS oPow (eC (.int 10)) (eC (.int 18))))) (aF 2 (eC (.int 0))) sNx)
 (sRet (eLstM (aB (aA 2) (aB (aA 3) aC)))))))))
noncomputable def zf:DFn:=fnD 5 2 (aD (sIf (eB (aS oGt (aS oIx (aA 0) (eC (.int 0))) (eC (.int 0)))) (aD (aF 2 (aS oMod (aS oIx (aA 0) (eC (.int 0))) (aA 1)))
 (aD (sSetIx (aA 0) (eC (.int 0)) (aS oFdiv (aS oIx (aA 0) (eC (.int 0))) (aA 1)))
 (sRet (aA 2)))) sNx)
 (aD (aF 3 (eC (.int 0)))
 (aD (aF 4 (eC (.int 1)))
 (aD (sWhile (eB (aS oLtT (aA 4) (aA 1))) (aD (sSetIx (aA 0) (eC (.int 1)) (aS oMod (aS aM (aS oMulI (aS oIx (aA 0) (eC (.int 1))) (eC (.int 48271))) (eC (.int 7919))) (eC (.int 2147483647))))
 (aD (aF 3 (aS aM (aS oMulI (aA 3) (eC (.int 1073741789))) (aS oMod (aS oMulI (aS oFdiv (aS oIx (aA 0) (eC (.int 1))) (eC (.int 8))) (eC (.int 69621))) (eC (.int 1073741789)))))
 (aF 4 (aS oMulI (aA 4) (eC (.int 1073741789)))))))
 (sRet (aS oMod (aA 3) (aA 1)))))))
noncomputable def zpg:DFn:=fnD 2 2 (sIf (eB (aS (oDIn false) (aA 1) (aA 0))) (sDrop (eDPop (aA 0) (aA 1))) (sDPut (aA 0) (aA 1) (eC (.bl true))))
noncomputable def zdt:SS:=(sDPut (aA 1) (aA 2) (eNot (eDGet2 (aA 1) (aA 2) (eC (.bl false)))))
noncomputable def zbh:DFn:=fnD 3 1 (aD (aF 1 eDNew)
 (aD (sFor (aH (aA 0)) (gN 2) zdt)
 (sRet (aE bTuple (aB (aE bSorted (aB (aG (iDict (aA 1)) 1 [1] (gN 0) (eTru (aS oDGet (aA 1) (aA 0))) (aA 0)) aC)) aC)))))
noncomputable def zbm:SS:=(sIf (bOr (bNot (eTru (aE bIsinst (aB (aA 2) (aB (eC (.ty "tuple")) aC))))) (eTru (aE (bAny false) (aB (aG (aH (aA 2)) 1 [] (gN 0) aI (eOr (eNot (aE bIsinst (aB (aA 0) (aB (eC (.ty "int")) aC)))) (aE bIsinst (aB (aA 0) (aB (eC (.ty "bool")) aC))))) aC)))) (sRet (eC (.bl false))) sNx)
noncomputable def zbo:DFn:=fnD 3 2 (aD (sIf (bOr (bNot (eTru (aE bIsinst (aB (aA 0) (aB (eC (.ty "tuple")) aC))))) (eB (aS oNe (aA 0) (aA 1)))) (sRet (eC (.bl false))) sNx)
 (aD (sFor (aH (aA 0)) (gN 2) zbm)
 (sRet (eC (.bl true)))))
noncomputable def zbt:SS:=(aD (sDrop (eAppend (aA 4) (aB (aE zf (aB (aA 0) (aB (aS aM (aA 3) (eC (.int 1))) aC))) aC)))
 (aF 3 (aS oSub (aA 3) (aS oIx (aA 4) (eUn oNeg (eC (.int 1)))))))
noncomputable def zca:DFn:=fnD 7 3 (aD (aF 3 (aE zf (aB (aA 0) (aB (aS aM (aA 2) (eC (.int 1))) aC))))
 (aD (sIf (eB (aS oEq (aE zf (aB (aA 0) (aB (eC (.int 2)) aC))) (eC (.int 0)))) (aF 3 (aA 2)) sNx)
 (aD (aF 4 (eLstM aC))
 (aD (sFor (iR1 (aB (aS oSub (aA 1) (eC (.int 1))) aC)) (gN 5) zbt)
 (aD (sDrop (eAppend (aA 4) (aB (aA 3) aC)))
 (aD (aF 6 (aE zf (aB (aA 0) (aB (aA 1) aC))))
 (sRet (aE bTuple (aB (aS aM (eSl (aA 4) (pSome (aA 6)) pNone) (eSl (aA 4) pNone (pSome (aA 6)))) aC)))))))))
noncomputable def zef:DFn:=fnD 4 4 (sRet (aE zbh (aB (aG (iR1 (aB (aE zf (aB (aA 0) (aB (aS aM (aA 2) (eC (.int 1))) aC))) aC)) 1 [0,1,3] (gN 0) aI (aE zca (aB (aA 1) (aB (aA 2) (aB (aA 3) aC))))) aC)))
noncomputable def zgp:SS:=(aD (sIf (eB (aS oGe (aA 4) (aA 1))) (sDrop (eAppend (aA 3) (aB (aA 4) aC))) sNx)
 (aD (sIf (eB (aS oEq (aA 4) (aA 0))) sBrk sNx)
 (aF 4 (aS oAndI (aS oSub (aA 4) (aA 0)) (aA 0)))))
noncomputable def zhr:DFn:=fnD 5 3 (aD (aF 3 (eLstM aC))
 (aD (aF 4 (eC (.int 0)))
 (aD (sWhile (eB (aS oLe (aA 4) (aA 2))) zgp)
 (sRet (eFz (aA 3))))))
noncomputable def zdr:SS:=(aD (aF 5 (aE zf (aB (aA 0) (aB (aS aM (aS oFdiv (aA 3) (aS oSub (aS oShl (eC (.int 2)) (aA 4)) (eC (.int 1)))) (eC (.int 1))) aC))))
 (aD (aF 3 (aS oSub (aA 3) (aS oMulI (aA 5) (aS oSub (aS oShl (eC (.int 2)) (aA 4)) (eC (.int 1))))))
 (sDrop (eAppend (aA 2) (aB (aA 5) aC)))))
noncomputable def zdq:SS:=(sDrop (ePopZ (aA 2) (aB (eC (.int 0)) aC)))
noncomputable def zct:DFn:=fnD 6 2 (aD (aF 2 (eLstM aC))
 (aD (aF 3 (aA 1))
 (aD (sFor (iRD (aB (eC (.int 3)) (aB (eUn oNeg (eC (.int 1))) (aB (eUn oNeg (eC (.int 1))) aC)))) (gN 4) zdr)
 (aD (sWhile (bAnd (eB (aS oGt (aE bLen (aB (aA 2) aC)) (eC (.int 0)))) (eB (aS oEq (aS oIx (aA 2) (eC (.int 0))) (eC (.int 0))))) zdq)
 (sRet (aE bTuple (aB (eBack (aA 2) (eUn oNeg (eC (.int 1)))) aC)))))))
noncomputable def zr:DFn:=fnD 3 3 (sRet (aE zbh (aB (aG (iR1 (aB (aE zf (aB (aA 0) (aB (aS aM (aA 1) (eC (.int 1))) aC))) aC)) 1 [0,2] (gN 0) aI (aE zct (aB (aA 1) (aB (aA 2) aC)))) aC)))
noncomputable def zce:SS:=(sIf (eB (aS oEq (aS oAndI (aA 6) (aA 8)) (aA 8))) (sDrop (eAppend (aA 4) (aB (aR (aB (aS aM (aA 5) (aS oMulI (aA 8) (aS oSub (aS oShl (eC (.int 2)) (aA 3)) (eC (.int 1))))) (aB (aS oSub (aA 6) (aA 8)) (aB (aS aM (aA 7) (aR (aB (aS oSub (aS oIx (aA 1) (aA 3)) (aA 8)) aC))) aC)))) aC))) sNx)
noncomputable def zcd:SS:=(sFor (iR1 (aB (aS aM (aE bMin2 (aB (aA 6) (aB (aS oIx (aA 1) (aA 3)) aC))) (eC (.int 1))) aC)) (gN 8) zce)
noncomputable def zdp:SS:=(aD (aF 4 (eLstM aC))
 (aD (sFor (aH (aA 2)) (gT 3 (gsCons (gN 5) (gsCons (gN 6) (gsCons (gN 7) gsNil)))) zcd)
 (aF 2 (eFz (aA 4)))))
noncomputable def zcs:DFn:=fnD 9 2 (aD (aF 2 (eLst (aB (aR (aB (aA 0) (aB (aA 0) (aB (aR aC) aC)))) aC)))
 (aD (sFor (iR1 (aB (aE bLen (aB (aA 1) aC)) aC)) (gN 3) zdp)
 (sRet (aG (aH (aA 2)) 3 [] (gT 3 (gsCons (gN 0) (gsCons (gN 1) (gsCons (gN 2) gsNil)))) aI (aR (aB (aA 0) (aB (aA 2) aC)))))))
noncomputable def zbv:SS:=(sDrop (eExtend (aA 7) (aB (aG (aH (aE zcs (aB (aA 6) (aB (aA 9) aC)))) 2 [8] (gT 2 (gsCons (gN 0) (gsCons (gN 1) gsNil))) aI (aR (aB (aS aM (aA 2) (aR (aB (aA 0) aC))) (aB (aA 1) aC)))) aC)))
noncomputable def zbd:SS:=(aD (aF 7 (eLstM aC))
 (aD (sFor (aH (aA 5)) (gT 2 (gsCons (gN 8) (gsCons (gN 9) gsNil))) zbv)
 (aF 5 (eFz (aA 7)))))
noncomputable def zbc:SS:=(aD (aF 5 (eLst (aB (aR (aB (aR aC) (aB (aA 3) aC))) aC)))
 (aD (sFor (aH (aA 4)) (gN 6) zbd)
 (sDrop (eExtend (aA 2) (aB (aG (aH (aA 5)) 2 [] (gT 2 (gsCons (gN 0) (gsCons (gN 1) gsNil))) (bNot (eTru (aE bAnyI (aB (aA 1) aC)))) (aA 0)) aC)))))
noncomputable def zbu:SS:=(sFor (aH (aA 1)) (gN 4) zbc)
noncomputable def zt:DFn:=fnD 10 2 (aD (aF 2 (eLstM aC))
 (aD (sFor (aH (aA 0)) (gN 3) zbu)
 (sRet (aE zbh (aB (eFz (aA 2)) aC)))))
noncomputable def zim:SS:=(sDrop (aE zpg (aB (aA 2) (aB (aA 5) aC))))
noncomputable def zet:SS:=(sDrop (eAppend (aA 6) (aB (aR (aB (aS oSub (aA 7) (aA 10)) (aB (aS aM (aA 8) (aS oMulI (aA 4) (aA 10))) (aB (aS aM (aA 9) (aR (aB (aS oSub (aA 5) (aA 10)) aC))) aC)))) aC)))
noncomputable def zdf:SS:=(sFor (aH (aE zhr (aB (aA 7) (aB (aS oSub (aA 5) (aA 2)) (aB (aA 5) aC))))) (gN 10) zet)
noncomputable def zes:SS:=(aD (aF 6 (eLstM aC))
 (aD (sFor (aH (aA 3)) (gT 3 (gsCons (gN 7) (gsCons (gN 8) (gsCons (gN 9) gsNil)))) zdf)
 (aD (aF 3 (eFz (aA 6)))
 (aF 4 (aS aM (aS oMulI (eC (.int 2)) (aA 4)) (eC (.int 1)))))))
noncomputable def zee:DFn:=fnD 11 3 (aD (aF 3 (eLst (aB (aR (aB (aA 0) (aB (aA 0) (aB (aR aC) aC)))) aC)))
 (aD (aF 4 (eC (.int 1)))
 (aD (sFor (aH (aA 1)) (gN 5) zes)
 (sRet (aG (aH (aA 3)) 3 [2] (gT 3 (gsCons (gN 0) (gsCons (gN 1) (gsCons (gN 2) gsNil)))) (eB (aS oLe (aE bSum (aB (aA 2) aC)) (aA 3))) (aR (aB (aA 1) (aB (aA 2) aC))))))))
noncomputable def zfd:DFn:=fnD 2 2 (sIf (eB (aS oPIn (aA 1) (aA 0))) (sDrop (ePPop (aA 0) (aA 1))) (sPPut (aA 0) (aA 1) (eC (.bl true))))
noncomputable def zcn:SS:=(sDrop (aE zfd (aB (aA 3) (aB (aR (aB (aS aM (aA 4) (aR (aB (aA 6) aC))) (aB (aA 7) aC))) aC))))
noncomputable def zcm:SS:=(sFor (aH (aE zee (aB (aA 1) (aB (aA 5) (aB (aA 2) aC))))) (gT 2 (gsCons (gN 6) (gsCons (gN 7) gsNil))) zcn)
noncomputable def zbk:DFn:=fnD 8 3 (aD (aF 3 eDNewP)
 (aD (sFor (aH (aA 0)) (gT 2 (gsCons (gN 4) (gsCons (gN 5) gsNil))) zcm)
 (sRet (aE bListP (aB (aA 3) aC)))))
noncomputable def zbb:SS:=(aD (sAug 2 (oI (fun _ _=>True) fun i j=>.int (i - j)) (aA 4))
 (aF 3 (aE zbk (aB (aA 3) (aB (aA 4) (aB (aA 2) aC))))))
noncomputable def zm:DFn:=fnD 5 2 (aD (aF 2 (aE bSum (aB (aA 1) aC)))
 (aD (aF 3 (eLst (aB (aR (aB (aR aC) (aB (aA 0) aC))) aC)))
 (aD (sFor (aH (aA 1)) (gN 4) zbb)
 (sRet (aG (aH (aA 3)) 2 [] (gT 2 (gsCons (gN 0) (gsCons (gN 1) gsNil))) aI (aA 0))))))
noncomputable def zdh:SS:=(sFor (aH (aE zm (aB (aA 3) (aB (aA 4) aC)))) (gN 5) zim)
noncomputable def zdg:SS:=(sFor (aH (aA 1)) (gN 4) zdh)
noncomputable def zcb:DFn:=fnD 6 2 (aD (aF 2 eDNew)
 (aD (sFor (aH (aA 0)) (gN 3) zdg)
 (sRet (aE bTuple (aB (aE bSorted (aB (aA 2) aC)) aC)))))
noncomputable def zjw:SS:=(sIf (bNot (eTru (aE zbo (aB (aE zcb (aB (aA 4) (aB (aA 5) aC))) (aB (aA 6) aC))))) (sRet (eC (.bl false))) sNx)
noncomputable def zpf:SS:=(aD (aF 2 (aE zeg (aB (aA 0) (aB (aA 1) aC))))
 (aD (aF 3 (aS aM (eC (.int 1)) (aE zf (aB (aA 2) (aB (eC (.int 3)) aC)))))
 (aD (sIf (eB (aS oEq (aE zf (aB (aA 2) (aB (eC (.int 4)) aC))) (eC (.int 0)))) (aF 3 (aS aM (eC (.int 4)) (aE zf (aB (aA 2) (aB (eC (.int 7)) aC))))) sNx)
 (aD (sIf (eB (aS oLtT (aA 3) (eC (.int 4)))) (aD (aF 4 (aE zr (aB (aA 2) (aB (eC (.int 4)) (aB (aS oIx (eLst (aB (eC (.int 12)) (aB (eC (.int 16)) aC))) (aE zf (aB (aA 2) (aB (eC (.int 2)) aC)))) aC)))))
 (aF 5 (aE zef (aB (aA 2) (aB (aA 3) (aB (eC (.int 5)) (aB (aS oIx (eLst (aB (eC (.int 24)) (aB (eC (.int 24)) (aB (eC (.int 16)) (aB (eC (.int 24)) aC))))) (aE zf (aB (aA 2) (aB (eC (.int 4)) aC)))) aC))))))) (aD (aF 4 (aE zr (aB (aA 2) (aB (eC (.int 2)) (aB (aS oIx (eLst (aB (eC (.int 6)) (aB (eC (.int 8)) aC))) (aE zf (aB (aA 2) (aB (eC (.int 2)) aC)))) aC)))))
 (aF 5 (aE zef (aB (aA 2) (aB (aA 3) (aB (eC (.int 2)) (aB (eC (.int 10)) aC))))))))
 (aD (aF 6 (aE zt (aB (aA 4) (aB (aA 5) aC))))
 (sFor (iR1 (aB (eC (.int 2)) aC)) (gN 7) zjw))))))
noncomputable def zbgx:DFn:=fnD 8 1 (aD (sFor (iR1 (aB (aS aM (aE bMin2 (aB (aE bLen (aB (aA 0) aC)) (aB (eC (.int 6)) aC))) (eC (.int 2))) aC)) (gN 1) zpf)
 (sRet (eC (.bl true))))
noncomputable def RngOk (j:Int):Prop:=-(2 ^ 62)<=j/\j < 2 ^ 62
noncomputable instance (j:Int):Decidable (RngOk j):=by unfold RngOk;infer_instance
theorem rngOk {j:Int}(h1:-1000000000000<=j)(h2:j<=1000000000000):RngOk j:=⟨by lia,by lia⟩
section
variable {σ:DS}{st:Store}
@[simp] theorem eC_v {d:D}:eC d σ st=.ok d st:=rfl
@[simp] theorem zbey {i:Nat}:aA i σ st=(match σ[i]? with
 | some (some d)=>.ok d st
 | _=>.stuck):=rfl
@[simp] theorem zbhq {g:D->D->Store->Res D} {f f':SE}:aS g f f' σ st=(f σ st).bind fun x st1=>(f' σ st1).bind fun y st2=>g x y st2:=rfl
@[simp] theorem zbjs {g:D->Store->Res D} {f:SE}:eUn g f σ st=(f σ st).bind fun x st1=>g x st1:=rfl
@[simp] theorem zoh {g:List D->Store->Res D} {f:SA}:aE g f σ st=(f σ st).bind fun xs st1=>g xs st1:=rfl
@[simp] theorem zbgv:aC σ st=.ok [] st:=rfl
@[simp] theorem zll {f:SE} {g:SA}:aB f g σ st=(f σ st).bind fun x st1=>(g σ st1).bind fun xs st2=>.ok (x::xs) st2:=rfl
@[simp] theorem eB_v {f:SE}:eB f σ st=(f σ st).bind fun v st1=>(match v with
 | .bl b=>.ok b st1
 | _=>.stuck):=rfl
@[simp] theorem zvc {f:SE}:eTru f σ st=(f σ st).bind fun v st1=>(match tru st1 v with
 | some b=>.ok b st1
 | none=>.stuck):=rfl
@[simp] theorem zbfc {f f':SE}:eAnd f f' σ st=(f σ st).bind fun v st1=>(match v with
 | .bl true=>f' σ st1
 | .bl false=>.ok (.bl false) st1
 | _=>.stuck):=rfl
@[simp] theorem zbiz {f f':SE}:eOr f f' σ st=(f σ st).bind fun v st1=>(match v with
 | .bl true=>.ok (.bl true) st1
 | .bl false=>f' σ st1
 | _=>.stuck):=rfl
@[simp] theorem zzy {f:SE}:eNot f σ st=(f σ st).bind fun v st1=>(match v with
 | .bl b=>.ok (.bl (!b)) st1
 | _=>.stuck):=rfl
@[simp] theorem zbgs {f f':ST}:bAnd f f' σ st=(f σ st).bind fun b st1=>if b=true then f' σ st1 else .ok false st1:=rfl
@[simp] theorem zbgn {f f':ST}:bOr f f' σ st=(f σ st).bind fun b st1=>if b=true then .ok true st1 else f' σ st1:=rfl
@[simp] theorem zbjp {f:ST}:bNot f σ st=(f σ st).bind fun b st1=>.ok (!b) st1:=rfl
@[simp] theorem zbjo:aI σ st=.ok true st:=rfl
@[simp] theorem zbja {c:ST} {f f':SE}:eIf c f f' σ st=(c σ st).bind fun b st1=>if b=true then f σ st1 else f' σ st1:=rfl
@[simp] theorem zbez {g:SA}:aR g σ st=(g σ st).bind fun xs st1=>if xs.length<=sizeLine then .ok (.tup xs) st1 else .stuck:=rfl
@[simp] theorem zbfa {g:SA}:eLst g σ st=(g σ st).bind fun xs st1=>if xs.length<=sizeLine then .ok (.lst xs) st1 else .stuck:=rfl
@[simp] theorem zzz {g:SA}:eLstM g σ st=(g σ st).bind fun xs st1=>if xs.length<=sizeLine then .ok (.ref st1.length) (st1++[.lst xs]) else .stuck:=rfl
@[simp] theorem zbfb {g g':D->D->Store->Res D} {f f' f'':SE}:eChain g g' f f' f'' σ st=(f σ st).bind fun x st1=>(f' σ st1).bind fun y st2=>(g x y st2).bind fun z st3=>(match z with
 | .bl true=>(f'' σ st3).bind fun w st4=>g' y w st4
 | .bl false=>.ok (.bl false) st3
 | _=>.stuck):=rfl
@[simp] theorem zbhs:eDNew σ st=.ok (.ref st.length) (st++[.dT []]):=rfl
@[simp] theorem zbjr:sNx σ st=.ok (.nx σ) st:=rfl
@[simp] theorem zbid:sBrk σ st=.ok (.brk σ) st:=rfl
@[simp] theorem zbcu {f:SE}:sRet f σ st=(f σ st).bind fun v st1=>.ok (.ret v) st1:=rfl
@[simp] theorem zbhd:sRetN σ st=.ok (.ret .non) st:=rfl
@[simp] theorem zbhe {f:SE}:sDrop f σ st=(f σ st).bind fun _ st1=>.ok (.nx σ) st1:=rfl
@[simp] theorem zbic {i:Nat} {f:SE}:aF i f σ st=(f σ st).bind fun v st1=>.ok (.nx (σ.set i (some v))) st1:=rfl
@[simp] theorem zbct {s t:SS}:aD s t σ st=(match s σ st with
 | .ok (.nx σ1) st1=>t σ1 st1
 | r=>r):=rfl
@[simp] theorem zbcw {c:ST} {s t:SS}:sIf c s t σ st=(c σ st).bind fun b st1=>if b=true then s σ st1 else t σ st1:=rfl
@[simp] theorem zbcy {i:Nat} {g:D->D->Store->Res D} {f:SE}:sAug i g f σ st=(match σ[i]? with
 | some (some x)=>(f σ st).bind fun y st1=>(g x y st1).bind fun z st2=>.ok (.nx (σ.set i (some z))) st2
 | _=>.stuck):=rfl
@[simp] theorem zbcx {it:SA} {bd:SG} {body:SS}:sFor it bd body σ st=(it σ st).bind fun xs st1=>forF bd body xs σ st1:=rfl
@[simp] theorem zbev {f:SE}:aH f σ st=(f σ st).bind fun x st1=>(match seqV x with
 | some xs=>.ok xs st1
 | none=>.stuck):=rfl
@[simp] theorem zbiw {g:SA}:iR1 g σ st=(g σ st).bind fun xs st1=>(match xs with
 | [.int j]=>if RngOk j then .ok (rng 0 j.toNat) st1 else .stuck
 | _=>.stuck):=rfl
@[simp] theorem zbiv {g:SA}:iR2 g σ st=(g σ st).bind fun xs st1=>(match xs with
  | [.int i, .int j]=>if RngOk i/\RngOk j then .ok (rng i (j - i).toNat) st1 else .stuck
  | _=>.stuck):=by
  show(g σ st).bind _=_
  congr 1
  funext xs st1
  split
  · unfold RngOk
    simp only[and_assoc]
  · rename_i h
    first
      | rfl
      | (split
         · rename_i i j
           exact absurd rfl (h i j)
         · rfl)
@[simp] theorem zbhn {f:SE}:iDict f σ st=(f σ st).bind fun x st1=>(match x with
 | .ref n=>(match st1[n]? with
  | some (.dT kvs)=>.ok (aJ (kvs.map (·.1))) (st1.set n (.fT kvs))
  | _=>.stuck)
 | _=>.stuck):=rfl
@[simp] theorem zog {it:SA} {k:Nat} {is:List Nat} {bd:SG} {c:ST} {f:SE}:aG it k is bd c f σ st=(it σ st).bind fun xs st1=>if xs.length<=sizeLine then(compF bd c f xs (aT k is σ) st1).bind fun ys st2=>.ok (.lst ys) st2 else .stuck:=rfl
@[simp] theorem zbjb {f:SE}:eFz f σ st=(f σ st).bind fun x st1=>(match x with
 | .ref n=>(match st1[n]? with
  | some (.lst xs)=>.ok (.lst xs) (st1.set n .dead)
  | _=>.stuck)
 | _=>.stuck):=rfl
@[simp] theorem zbhj:pNone σ st=.ok none st:=rfl
@[simp] theorem zyr {f:SE}:pSome f σ st=(f σ st).bind fun v st1=>(match v with
 | .int i=>.ok (some i) st1
 | _=>.stuck):=rfl
@[simp] theorem zbiy {f:SE} {lo hi:DS->Store->Res (Option Int)}:eSl f lo hi σ st=(f σ st).bind fun x st1=>(lo σ st1).bind fun l st2=>(hi σ st2).bind fun h st3=>(match x with
 | .tup xs=>.ok (.tup (cutD xs l h)) st3
 | x=>match asL st3 x with
  | some xs=>.ok (.lst (cutD xs l h)) st3
  | none=>.stuck):=rfl
@[simp] theorem zrl {f:SE} {g:SA}:eAppend f g σ st=(f σ st).bind fun x st1=>(match x,asL st1 x with
 | .ref n,some _=>(g σ st1).bind fun ys st2=>(match ys,st2[n]? with
  | [y],some (.lst xs)=>if xs.length < sizeLine then .ok .non (st2.set n (.lst (xs++[y]))) else .stuck
  | _,_=>.stuck)
 | _,_=>.stuck):=rfl
@[simp] theorem zrk {f:SE} {g:SA}:eExtend f g σ st=(f σ st).bind fun x st1=>(match x,asL st1 x with
 | .ref n,some _=>(g σ st1).bind fun ys st2=>(match ys,st2[n]? with
  | [y],some (.lst xs)=>(match asL st2 y with
   | some zs=>if xs.length+zs.length<=sizeLine then .ok .non (st2.set n (.lst (xs++zs))) else .stuck
   | none=>.stuck)
  | _,_=>.stuck)
 | _,_=>.stuck):=rfl
@[simp] theorem ztm {f g h:SE}:sSetIx f g h σ st=(h σ st).bind fun v st1=>(f σ st1).bind fun x st2=>(g σ st2).bind fun y st3=>(match x,y with
 | .ref n,.int k=>(match st3[n]? with
  | some (.lst xs)=>(match ixN xs.length k with
   | some j=>.ok (.nx σ) (st3.set n (.lst (xs.set j v)))
   | none=>.stuck)
  | _=>.stuck)
 | _,_=>.stuck):=rfl
@[simp] theorem zvd {f g h:SE}:eDGet2 f g h σ st=(f σ st).bind fun x st1=>(match pairsOf st1 x with
 | some _=>(g σ st1).bind fun y st2=>(h σ st2).bind fun z st3=>(match pairsOf st3 x,keyOf y with
  | some kvs,some k=>.ok ((valD kvs k).getD z) st3
  | _,_=>.stuck)
 | none=>.stuck):=rfl
@[simp] theorem zbhr {f g:SE}:eDPop f g σ st=(f σ st).bind fun x st1=>(match pairsOf st1 x with
 | some _=>(g σ st1).bind fun y st2=>(match x,keyOf y with
  | .ref n,some k=>(match st2[n]? with
   | some (.dT kvs)=>(match valD kvs k with
    | some v=>.ok v (st2.set n (.dT (dropD kvs k)))
    | none=>.stuck)
   | _=>.stuck)
  | _,_=>.stuck)
 | none=>.stuck):=rfl
@[simp] theorem zxo {f g h:SE}:sDPut f g h σ st=(h σ st).bind fun v st1=>(f σ st1).bind fun x st2=>(g σ st2).bind fun y st3=>(match x,keyOf y with
 | .ref n,some k=>(match st3[n]? with
  | some (.dT kvs)=>if kvs.length < sizeLine then .ok (.nx σ) (st3.set n (.dT (putD kvs k v))) else .stuck
  | _=>.stuck)
 | _,_=>.stuck):=rfl
theorem zbhp {n np:Nat}{b:SS}{ds:List D}:fnD n np b ds st=if ds.length=np then(match b (ds.map some++List.replicate (n - np) none) st with
 | .ok (.ret v) st'=>.ok v st'
 | .ok (.nx _) st'=>.ok .non st'
 | .exc x st'=>.exc x st'
 | _=>.stuck) else .stuck:=rfl
end
section
variable {st:Store}{i j:Int}
@[simp] theorem oI_v {C:Int->Int->Prop} [DecidableRel C] {h:Int->Int->D}:oI C h (.int i) (.int j) st=if C i j then .ok (h i j) st else .stuck:=rfl
@[simp] theorem zbit:aM (.int i) (.int j) st=.ok (.int (i+j)) st:=rfl
@[simp] theorem zbee {a b:List D}:aM (.tup a) (.tup b) st=if a.length+b.length<=sizeLine then .ok (.tup (a++b)) st else .stuck:=rfl
@[simp] theorem zbiq:oLtT (.int i) (.int j) st=.ok (.bl (decide (i < j))) st:=rfl
@[simp] theorem zbio:oNeg (.int i) st=.ok (.int (-i)) st:=rfl
@[simp] theorem zde (ns:List Int):asInts (ns.map .int)=some ns:=by
 induction ns with
 | nil=>rfl
 | cons n ns ih=>rw[xbh,asInts,ih];rfl
@[simp] theorem zbbx (l:List (List Int)):asRows (aJ l)=some l:=by
 induction l with
 | nil=>rfl
 | cons n ns ih =>
  unfold aJ at ih ⊢;rw[xbh,asRows,zde,ih];rfl
@[simp] theorem zdk (ns:List Int):keyOf (aL ns)=some ns:=zde ns
theorem zhm:dataOf st (.int i)=some (.int i):=rfl
@[simp] theorem zbis:oEq (.int i) (.int j) st=.ok (.bl (decide (i=j))) st:=by
 show oEqG false (.int i) (.int j) st=_;unfold oEqG;rw[zhm,zhm];dsimp only;rw[if_pos ⟨rfl,rfl⟩];show Res.ok (D.bl (i==j)) st=_;rw[show(i==j)=decide (i=j) from by rw[xek];simp]
@[simp] theorem zbip:oNe (.int i) (.int j) st=.ok (.bl (!decide (i=j))) st:=by
 show oEqG true (.int i) (.int j) st=_;unfold oEqG;rw[zhm,zhm];dsimp only;rw[if_pos ⟨rfl,rfl⟩];show Res.ok (D.bl (!(i==j))) st=_;rw[show(i==j)=decide (i=j) from by rw[xek];simp]
theorem zrq (ns:List Int):toDatas (ns.map .int)=some (dI ns):=by
 induction ns with
 | nil=>rfl
 | cons n ns ih=>rw[xbh,toDatas,ih];rfl
theorem zrp (l:List (List Int)):toDatas (aJ l)=some (l.map dRow):=by
 induction l with
 | nil=>rfl
 | cons n ns ih =>
  unfold aJ at ih ⊢;rw[xbh,toDatas,ih,toData,zrq];rfl
noncomputable abbrev aK (l:List (List Int)):D:=.tup (aJ l)
theorem zoq (l:List (List Int)):dataOf st (aK l)=some (.tuple (l.map dRow)):=by
 show(toDatas (aJ l)).map PyData.tuple=_;rw[zrp];rfl
theorem zyy {neg:Bool}(a b:List (List Int)):oEqG neg (aK a) (aK b) st=.ok (.bl (if neg then !decide (a=b) else decide (a=b))) st:=by
 unfold oEqG;rw[zoq,zoq];dsimp only;rw[if_pos ⟨zft a,zft b⟩];have e:PyData.eqv (.tuple (a.map dRow)) (.tuple (b.map dRow))=decide (a=b):=zla a b;rw[e]
theorem small (n:Nat)(h:n<=1000000):n<=sizeLine:=by rw[xib];lia
theorem smallT (n:Nat)(h:n<=1000000):n < sizeLine:=by rw[xib];lia
end
theorem zst {bd:SG}{body:SS}(I:Nat->DS->Store->Prop):∀(xs:List D) (k:Nat) (σ:DS) (st:Store),I k σ st ->
  (∀i x σ st,xs[i]?=some x->I (k+i) σ st->∃σ1 σ2 st2,bd x σ=some σ1/\body σ1 st=.ok (.nx σ2) st2/\I (k+i+1) σ2 st2)->∃σ' st',forF bd body xs σ st=.ok (.nx σ') st'/\I (k+xs.length) σ' st'
 | [],k,σ,st,h,_=>⟨σ,st,rfl,h⟩
 | x::xs,k,σ,st,h,s=>by
  obtain⟨σ1,σ2,st2,e1,e2,h2⟩:=s 0 x σ st rfl h;obtain⟨σ',st',e3,h3⟩:=zst I xs (k+1) σ2 st2 h2 fun i y σ st hy hi=>by
   have:=s (i+1) y σ st (by simpa using hy) (by rw[show k+(i+1)=k+1+i by lia];exact hi);rw[show k+(i+1)+1=k+1+i+1 by lia] at this;exact this
  refine⟨σ',st',?_,by rw[xbr,show k+(xs.length+1)=k+1+xs.length by lia];exact h3⟩;unfold forF;rw[e1];dsimp only;rw[e2];exact e3
theorem zuz {bd:SG}{body:SS}(I:Nat->DS->Store->Prop){xs:List D}{σ:DS}{st:Store}(h0:I 0 σ st)
  (s:∀i x σ st,xs[i]?=some x->I i σ st->∃σ1 σ2 st2,bd x σ=some σ1/\body σ1 st=.ok (.nx σ2) st2/\I (i+1) σ2 st2):∃σ' st',forF bd body xs σ st=.ok (.nx σ') st'/\I xs.length σ' st':=by
 have:=zst I xs 0 σ st h0 fun i x σ st hx hi=>by
  rw[xdp] at hi ⊢;exact s i x σ st hx hi
 rw[xdp] at this;exact this
theorem zbda {lo:Int}{n i:Nat}{x:D}(h:(rng lo n)[i]?=some x):i < n/\x=.int (lo+i):=zgd h
theorem zbp (lo:Int)(n:Nat):(rng lo n).length=n:=by simp[rng]
theorem zjq {bd:SG}{c:ST}{f:SE}(I:Nat->List D->DS->Store->Prop):∀(xs:List D) (k:Nat) (acc:List D) (σ:DS) (st:Store),I k acc σ st ->
  (∀i x acc σ st,xs[i]?=some x->I (k+i) acc σ st->∃σ1 b st1,bd x σ=some σ1/\c σ1 st=.ok b st1/\((b=false/\I (k+i+1) acc σ1 st1)\/(b=true/\∃y st2,f σ1 st1=.ok y st2/\I (k+i+1) (acc++[y]) σ1 st2))) ->
  ∃ys σ' st',compF bd c f xs σ st=.ok ys st'/\I (k+xs.length) (acc++ys) σ' st'
 | [],k,acc,σ,st,h,_=>⟨[],σ,st,rfl,by rw[xdz];exact h⟩
 | x::xs,k,acc,σ,st,h,s=>by
  have s':∀i y acc σ st,xs[i]?=some y->I (k+1+i) acc σ st->∃σ1 b st1,bd y σ=some σ1/\c σ1 st=.ok b st1/\((b=false/\I (k+1+i+1) acc σ1 st1)\/(b=true/\∃z st2,f σ1 st1=.ok z st2/\I (k+1+i+1) (acc++[z]) σ1 st2)):=fun i y acc σ st hy hi=>by
   have:=s (i+1) y acc σ st (by simpa using hy) (by rw[show k+(i+1)=k+1+i by lia];exact hi);rw[show k+(i+1)+1=k+1+i+1 by lia] at this;exact this
  obtain⟨σ1,b,st1,e1,e2,h2⟩:=s 0 x acc σ st rfl h;rcases h2 with⟨rfl,h2⟩ | ⟨rfl,y,st2,e3,h2⟩
  ·obtain⟨ys,σ',st',e4,h3⟩:=zjq I xs (k+1) acc σ1 st1 h2 s';refine⟨ys,σ',st',?_,by rw[xbr,show k+(xs.length+1)=k+1+xs.length by lia];exact h3⟩;unfold compF;rw[e1];dsimp only;rw[e2];exact e4
  ·obtain⟨ys,σ',st',e4,h3⟩:=zjq I xs (k+1) (acc++[y]) σ1 st2 h2 s';refine⟨y::ys,σ',st',?_,by rw[xbr,show k+(xs.length+1)=k+1+xs.length by lia];rw[xbq] at h3;exact h3⟩;unfold compF;rw[e1];dsimp only;rw[e2];dsimp only[zcl];rw[if_pos rfl,e3];dsimp only[zcl];rw[e4]
   rfl
theorem zsy {bd:SG}{c:ST}{f:SE}(I:Nat->List D->DS->Store->Prop){xs:List D}{σ:DS}{st:Store}(h0:I 0 [] σ st)
  (s:∀i x acc σ st,xs[i]?=some x->I i acc σ st->∃σ1 b st1,bd x σ=some σ1/\c σ1 st=.ok b st1/\((b=false/\I (i+1) acc σ1 st1)\/(b=true/\∃y st2,f σ1 st1=.ok y st2/\I (i+1) (acc++[y]) σ1 st2))) :
  ∃ys σ' st',compF bd c f xs σ st=.ok ys st'/\I xs.length ys σ' st':=by
 have:=zjq I xs 0 [] σ st h0 fun i x acc σ st hx hi=>by
  rw[xdp] at hi ⊢;exact s i x acc σ st hx hi
 rw[xdp] at this
 simpa using this
theorem zpj {c:ST}{body:SS}(I:Nat->DS->Store->Prop)(post:DS->Store->Prop){σ:DS}{st:Store}{k:Nat}(h0:I k σ st)(hm:k < wCap)
  (s:∀j σ st,I j σ st->∃b st1,c σ st=.ok b st1/\((b=false/\post σ st1)\/(b=true/\∃i σ2 st2,body σ st1=.ok (.nx σ2) st2/\I i σ2 st2/\i < j))):∃σ' st',sWhile c body σ st=.ok (.nx σ') st'/\post σ' st':=by
 have main:∀n j σ st,I j σ st->j < n->∃σ' st',whileF c body n σ st=.ok (.nx σ') st'/\post σ' st':=by
  intro n
  induction n with
  | zero=>intro j σ st _ h;lia
  | succ n ih =>
   intro j σ st hI hlt;obtain⟨b,st1,e1,h⟩:=s j σ st hI;unfold whileF;rw[e1];dsimp only[zcl];rcases h with⟨rfl,h⟩ | ⟨rfl,i,σ2,st2,e2,h2,h3⟩
   ·exact⟨σ,st1,by rw[if_neg (by decide)],h⟩
   ·obtain⟨σ',st',e3,h4⟩:=ih i σ2 st2 h2 (by lia);refine⟨σ',st',?_,h4⟩;rw[if_pos rfl,e2];exact e3
 exact main wCap k σ st h0 hm
section
variable {st:Store}{n:Nat}{xs:List D}{i:Int}
@[simp] theorem zbby:seqOf st (.tup xs)=some xs:=rfl
@[simp] theorem zbbz:seqOf st (.scr xs)=some xs:=rfl
@[simp] theorem zbca:seqOf st (.lst xs)=some xs:=rfl
@[simp] theorem zbcq:seqV (.tup xs)=some xs:=rfl
@[simp] theorem zbcs:seqV (.lst xs)=some xs:=rfl
@[simp] theorem zbcr:seqV (.scr xs)=some xs:=rfl
@[simp] theorem zbhx:asL st (.lst xs)=some xs:=rfl
theorem zgo (h:st[n]?=some (.lst xs)):asL st (.ref n)=some xs:=by
 unfold asL;dsimp only;rw[h]
theorem zdv (h:st[n]?=some (.lst xs)):seqOf st (.ref n)=some xs:=zgo h
theorem zhy {x:D}{d:D}(h:seqOf st x=some xs)(h2:L2.atI xs i=some d):oIx x (.int i) st=.ok d st:=by
 unfold oIx;rw[h];dsimp only;rw[h2]
theorem zbbv {x:D}(h:seqOf st x=some xs):bLen [x] st=.ok (.int xs.length) st:=by
 unfold bLen;dsimp only;rw[h]
@[simp] theorem zbgo:bLen [.tup xs] st=.ok (.int xs.length) st:=rfl
@[simp] theorem zbgq:bLen [.lst xs] st=.ok (.int xs.length) st:=rfl
@[simp] theorem zbgp:bLen [.scr xs] st=.ok (.int xs.length) st:=rfl
@[simp] theorem zbjq:bAbs [.int i] st=.ok (.int (if i < 0 then -i else i)) st:=rfl
@[simp] theorem zbjt {g:Int->Int->Int} {j:Int}:b2I g [.int i,.int j] st=.ok (.int (g i j)) st:=rfl
@[simp] theorem zbgm {ns:List Int}:bSum [aL ns] st=.ok (.int ns.sum) st:=by
 unfold bSum;simp
@[simp] theorem zbbt:bTuple [.tup xs] st=.ok (.tup xs) st:=rfl
@[simp] theorem zpa:bTuple [.lst xs] st=.ok (.tup xs) st:=rfl
theorem zjt {l:List (List Int)}(h:l.length<=1000000):bSorted [.lst (aJ l)] st=.ok (.lst (aJ (sortR l))) st:=by
 unfold bSorted;simp[h]
theorem zju {kvs:List (List Int×D)}(h:st[n]?=some (.dT kvs))(hl:kvs.length<=1000000):bSorted [.ref n] st=.ok (.lst (aJ (sortR (kvs.map (·.1))))) st:=by
 unfold bSorted asL pairsOf;simp[h,hl]
theorem zwc {j:Nat}{d:D}(h:xs[j]?=some d):L2.atI xs (j:Int)=some d:=zli h
theorem zep {o:O}(h:n < st.length):(st.set n o)[n]?=some o:=xec h
theorem zw {o:O}(h:st[n]?=some o):n < st.length:=(xbm.mp h).1
theorem zbcp {o:O}(h:st[n]?=some o):st.set n o=st:=by
 apply xjb;intro i;by_cases e:i=n
 ·subst e;rw[xec (zw h),h]
 ·rw[xcx (xez e)]
end
theorem zme {n np:Nat}{b:SS}{ds:List D}{st st':Store}{v:D}(h:ds.length=np)(e:b (ds.map some++List.replicate (n - np) none) st=.ok (.ret v) st'):fnD n np b ds st=.ok v st':=by
 rw[zbhp,if_pos h,e]
theorem zbho {n np:Nat}{b:SS}{ds:List D}{st st':Store}{σ:DS}(h:ds.length=np)(e:b (ds.map some++List.replicate (n - np) none) st=.ok (.nx σ) st'):fnD n np b ds st=.ok .non st':=by
 rw[zbhp,if_pos h,e]
noncomputable abbrev bagO (c x:Int):O:=.lst [.int c,.int x]
noncomputable def BagAt (st:Store) (n:Nat):Prop:=∃c x:Int,st[n]?=some (bagO c x)/\0<=c/\0<=x
structure Drew (st st':Store) (n:Nat):Prop where
 len:st.length<=st'.length
 keep:∀ i, i < st.length->i≠n->st'[i]?=st[i]?
 bag:BagAt st' n
theorem Drew.trans {st st1 st2:Store}{n:Nat}(a:Drew st st1 n)(b:Drew st1 st2 n):Drew st st2 n :=
 ⟨xbb a.len b.len,fun i h1 h2=>(b.keep i (xbg h1 a.len) h2).trans (a.keep i h1 h2),b.bag⟩
theorem Drew.set {st:Store}{n:Nat}{c x:Int}(h:BagAt st n)(hc:0<=c)(hx:0<=x):Drew st (st.set n (bagO c x)) n:=by
 obtain⟨_,_,e,_⟩:=h;exact⟨by rw[xfi];exact xbd _,fun i _ h2=>xcx (xez h2),c,x,zep (zw e),hc,hx⟩
theorem Drew.more {st:Store}{n:Nat}(h:BagAt st n)(g:Store):Drew st (st++g) n:=by
 obtain⟨c,x,e,h1,h2⟩:=h;exact⟨by rw[xbo];lia,fun i h _=>xcs h,c,x,by rw[xcs (zw e)];exact e,h1,h2⟩
theorem zxb {st:Store}{n:Nat}{m:Int}(hb:BagAt st n)(h1:1<=m)(h2:m < 2 ^ 1000) :
  ∃r st',zf [.ref n,.int m] st=.ok (.int r) st'/\0<=r/\r < m/\Drew st st' n/\st'.length=st.length:=by
 obtain⟨c,x,hn,hc,hx⟩:=id hb;have s0:∀{c x:Int} {st:Store},st[n]?=some (bagO c x)->oIx (.ref n) (.int 0) st=.ok (.int c) st:=fun h=>zhy (zdv h) rfl
 have s1:∀{c x:Int} {st:Store},st[n]?=some (bagO c x)->oIx (.ref n) (.int 1) st=.ok (.int x) st:=fun h=>zhy (zdv h) rfl
 by_cases h0:0 < c
 ·have d1:CDivP c m:=⟨by lia,h2⟩
  have e0:ixN 2 0=some 0:=rfl;refine⟨c % m,st.set n (bagO (c / m) x),zme rfl ?_,xih _ (by lia),Int.emod_lt_of_pos _ (by lia),Drew.set hb (Int.ediv_nonneg hc (by lia)) hx,xfi⟩;simp[s0 hn,h0,hn,e0,show(0:Int) < m by lia,d1]
 ·have hlen:=zw hn
  have W:=zpj (c:=eB (aS oLtT (aA 4) (aA 1))) (body:=aD (sSetIx (aA 0) (eC (.int 1)) (aS oMod (aS aM (aS oMulI (aS oIx (aA 0) (eC (.int 1))) (eC (.int 48271))) (eC (.int 7919))) (eC (.int 2147483647))))
   (aD (aF 3 (aS aM (aS oMulI (aA 3) (eC (.int 1073741789))) (aS oMod (aS oMulI (aS oFdiv (aS oIx (aA 0) (eC (.int 1))) (eC (.int 8))) (eC (.int 69621))) (eC (.int 1073741789)))))
   (aF 4 (aS oMulI (aA 4) (eC (.int 1073741789)))))) (k:=1000) (σ:=[some (.ref n),some (.int m),none,some (.int 0),some (.int 1)]) (st:=st)
   (fun j σ s=>∃c' x' nn rr:Int,σ=[some (.ref n),some (.int m),none,some (.int nn),some (.int rr)]/\s=st.set n (bagO c' x')/\0<=c'/\0<=x'/\0<=nn/\j<=1000/\2 ^ (1000 - j)<=rr)
   (fun σ s=>∃c' x' nn:Int,(∃rr,σ=[some (.ref n),some (.int m),none,some (.int nn),some (.int rr)])/\s=st.set n (bagO c' x')/\0<=c'/\0<=x'/\0<=nn)
   ⟨c,x,0,1,rfl,(zbcp hn).symm,hc,hx,by lia,by lia,by decide⟩ (by decide) (by
    rintro j σ s ⟨c',x',nn,rr,rfl,rfl,a1,a2,a3,a4,a5⟩;have g1:(st.set n (bagO c' x'))[n]?=some (bagO c' x'):=zep hlen;by_cases hlt:rr < m
    ·have hj:1<=j:=by
      rcases xin j with z | z
      ·subst z;have a5':(2:Int) ^ 1000<=rr:=a5;lia
      ·exact z
     have e1:ixN 2 1=some 1:=rfl;have m1:CMul x' 48271:=.inr ⟨by decide,by decide⟩;have m2:CMul nn 1073741789:=.inr ⟨by decide,by decide⟩;have m3:CMul rr 1073741789:=.inr ⟨by decide,by decide⟩;have g2:∀y:Int,(st.set n (bagO c' y))[n]?=some (bagO c' y):=fun y=>zep hlen
     have m4:∀y:Int,CMul y 69621:=fun y=>.inr ⟨by decide,by decide⟩
     have d8:∀y:Int,CDivP y 8:=fun y=>⟨by decide,by decide +kernel⟩
     refine⟨true,st.set n (bagO c' x'),by simp[hlt],.inr ⟨rfl,j - 1,_,st.set n (bagO c' ((x' * 48271+7919) % 2147483647)),?_,⟨c',(x' * 48271+7919) % 2147483647,nn * 1073741789+(x' * 48271+7919) % 2147483647 / 8 * 69621 % 1073741789,rr * 1073741789,rfl,rfl,a1,?_,?_,by lia,?_⟩,by lia⟩⟩
     ·simp[s1 g1,g1,e1,m1,m2,m3,m4,d8,s1 (g2 _)]
     ·exact xih _ (by lia)
     ·have a1:0<=nn * 1073741789:=Int.mul_nonneg a3 (by lia);have a2:=xih ((x' * 48271+7919) % 2147483647 / 8 * 69621) (show(1073741789:Int)≠0 by lia);lia
     ·have e:(2:Int) ^ (1000 - (j - 1))=2 ^ (1000 - j) * 2:=by
       rw[← xkw];congr 1;lia
      rw[e];have hp:(0:Int)<=2 ^ (1000 - j):=Int.pow_nonneg (by decide);lia
    ·exact⟨false,_,by simp[hlt],.inl ⟨rfl,c',x',nn,⟨rr,rfl⟩,rfl,a1,a2,a3⟩⟩)
  obtain⟨σ',st',e,c',x',nn,hσ,hst,k1,k2,k3⟩:=W;obtain⟨rr,rfl⟩:=hσ;subst hst;refine⟨nn % m,st.set n (bagO c' x'),zme rfl ?_,xih _ (by lia),Int.emod_lt_of_pos _ (by lia),Drew.set hb k1 k2,xfi⟩;simp[s0 hn,h0,e,show(0:Int) < m by lia]
theorem zik {ns:List Int}{j:Nat}(h:j < ns.length):L2.atI (ns.map D.int) (j:Int)=some (.int ns[j]):=zli (by rw[xcb,xbf h];rfl)
theorem zbgl {st:Store}{ns:List Int}{i:Nat}(hl:ns.length<=63)(hi:i<=100000):∃c x:Int,0<=c/\0<=x/\zeg [.scr (ns.map .int),.int i] st=.ok (.ref st.length) (st++[bagO c x]):=by
 have cell:∃c:Int,0<=c/\sIf (eB (aS oLtT (aA 1) (aE bLen (aB (aA 0) aC)))) (aF 2 (aE bAbs (aB (aS oIx (aA 0) (aA 1)) aC))) sNx [some (.scr (ns.map .int)),some (.int i),some (.int 0),none,none] st
   = .ok (.nx [some (.scr (ns.map .int)),some (.int i),some (.int c),none,none]) st:=by
  by_cases h:i < ns.length
  ·have e:oIx (.scr (ns.map .int)) (.int i) st=.ok (.int ns[i]) st:=zhy rfl (zik h);refine⟨if ns[i] < 0 then -ns[i] else ns[i],by split<;>lia,?_⟩;simp[h,e]
  ·exact⟨0,by lia,by simp[h]⟩
 obtain⟨c,hc,ec⟩:=cell;have hmin:(if(60:Int) < (ns.length:Int) then(60:Int) else ns.length).toNat<=ns.length:=by split<;>lia
 have W:=zuz (bd:=gN 4) (body:=aF 3 (aS oMod (aS aM (aS aM (aS oMulI (aA 3) (eC (.int 48271))) (aS oMod (aS oIx (aA 0) (aA 4)) (eC (.int 2147483647)))) (aA 4)) (eC (.int 2147483629))))
  (xs:=rng 0 (if(60:Int) < (ns.length:Int) then(60:Int) else ns.length).toNat) (σ:=[some (.scr (ns.map .int)),some (.int i),some (.int c),some (.int (7919 * i+17)),none]) (st:=st)
  (fun j σ s=>s=st/\∃(mix:Int) (v:Option D),σ=[some (.scr (ns.map .int)),some (.int i),some (.int c),some (.int mix),v]/\0<=mix) ⟨rfl,_,none,rfl,by lia⟩ (by
   rintro j x σ s hx ⟨rfl,mix,v,rfl,hm⟩;obtain⟨hj,rfl⟩:=zbda hx;have hj2:j < ns.length:=by lia
   have e:oIx (.scr (ns.map .int)) (.int (0+j)) s=.ok (.int ns[j]) s:=zhy rfl (by rw[xio];exact zik hj2);rw[xio] at e;have m1:CMul mix 48271:=.inr ⟨by decide,by decide⟩;refine⟨_,[some (.scr (ns.map .int)),some (.int i),some (.int c),some (.int ((mix * 48271+ns[j] % 2147483647+j) % 2147483629)),some (.int (0+j))],s,rfl,?_,rfl,_,_,rfl,xih _ (by lia)⟩
   simp[e,m1])
 obtain⟨σ',st',e,rfl,mix,v,rfl,hm⟩:=W;have m0:CMul 7919 (i:Int):=.inl ⟨by decide,by decide⟩;have p0:CPow 10 18:=⟨by decide,by decide,by decide⟩
 have hr:RngOk (if(60:Int) < (ns.length:Int) then(60:Int) else ns.length):=by
  split<;>exact rngOk (by lia) (by lia)
 by_cases hlt:c < 1000000000000000000
 ·refine⟨0,mix,by lia,hm,zme rfl ?_⟩;have hs:=small 2 (by lia);simp at ec;simp[ec,m0,hr,e,p0,hlt,hs]
 ·refine⟨c,mix,hc,hm,zme rfl ?_⟩;have hs:=small 2 (by lia);simp at ec;simp[ec,m0,hr,e,p0,hlt,hs]
theorem seqN {s t:SS}{σ σ1:DS}{st st1:Store}{r:Res Fl}(h:s σ st=.ok (.nx σ1) st1)(k:t σ1 st1=r):aD s t σ st=r:=by
 rw[zbct,h];exact k
noncomputable def aP (ks:List (List Int)) (k:List Int):List (List Int):=if k∈ks then ks.filter (fun x=>decide (x≠k)) else ks++[k]
noncomputable def aN (l:List (List Int)):List (List Int):=l.foldl aP []
theorem zfa {ks:List (List Int)}{k x:List Int}:x∈aP ks k↔(x∈ks/\x≠k)\/(x=k/\k∉ks):=by
 unfold aP;split
 ·rename_i h;simp[xfg,h]
 ·rename_i h;simp only[xce,xbw];constructor
  ·rintro(z | rfl)
   ·exact .inl ⟨z,fun e=>h (e ▸ z)⟩
   ·exact .inr ⟨rfl,h⟩
  ·rintro(⟨z,_⟩ | ⟨z,_⟩)
   ·exact .inl z
   ·exact .inr z
theorem zmf {ks:List (List Int)}{k:List Int}(h:ks.Nodup):(aP ks k).Nodup:=by
 unfold aP;split
 ·exact h.filter _
 ·rename_i hk;rw[xje];exact⟨h,by simp,fun a ha b hb=>by simp at hb;subst hb;exact fun e=>hk (e ▸ ha)⟩
theorem zjl (ks:List (List Int))(k:List Int):(aP ks k).length<=ks.length+1:=by
 unfold aP;split
 ·exact xes (xdw _ _)
 ·simp
theorem zki:∀(l ks:List (List Int)),ks.Nodup->(l.foldl aP ks).Nodup/\(l.foldl aP ks).length<=ks.length+l.length/\∀x,x∈l.foldl aP ks↔(l.count x+if x∈ks then 1 else 0) % 2=1
 | [],ks,h=>⟨h,by simp,fun x=>by by_cases e:x∈ks<;>simp[e]⟩
 | a::l,ks,h=>by
  obtain⟨h1,h2,h3⟩:=zki l (aP ks a) (zmf h);refine⟨h1,?_,fun x=>?_⟩
  ·have:=zjl ks a;rw[xjx,xbr];lia
  ·rw[xjx,h3 x,List.count_cons];by_cases e:x=a
   ·subst e;by_cases k:x∈ks
    ·have q:x∉aP ks x:=by rw[zfa];simp[k]
     simp only[q,k,xfw,xdo,xgt]<;>lia
    ·have q:x∈aP ks x:=by rw[zfa];simp[k]
     simp only[q,k,xfw,xdo,xgt]<;>lia
   ·have e':(a==x)=false:=by simpa using fun z:a=x=>e z.symm
    by_cases k:x∈ks
    ·have q:x∈aP ks a:=by rw[zfa];simp[k,e]
     simp[q,k,e']
    ·have q:x∉aP ks a:=by rw[zfa];simp[k,e]
     simp[q,k,e']
theorem zdy (l:List (List Int)):(aN l).Nodup:=(zki l [] xgc).1
theorem zdi (l:List (List Int)):(aN l).length<=l.length:=by have:=(zki l [] xgc).2.1;simpa [aN] using this
theorem zgz {l:List (List Int)}{x:List Int}:x∈aN l↔l.count x % 2=1:=by have:=(zki l [] xgc).2.2 x;simpa [aN] using this
theorem zgf {a b:List (List Int)}(h1:a.Nodup)(h2:b.Nodup)(h:∀x,x∈a↔x∈b):a.Perm b:=(List.perm_ext_iff_of_nodup h1 h2).mpr h
theorem zlq {a b:List (List Int)}(h:a.Perm b):sortR a=sortR b:=zit ((zci a).trans h) (zgu a)
noncomputable def aO (l:List (List Int)):List (List Int):=sortR (aN l)
theorem zsl {l m:List (List Int)}(h1:m.Nodup)(h:∀x,x∈m↔l.count x % 2=1):sortR m=aO l:=zlq (zgf h1 (zdy l) fun x=>by rw[h,zgz])
theorem zuj {l:List (List Int)}{x:List Int}:x∈aO l↔l.count x % 2=1:=by unfold aO;rw[(zci _).mem_iff,zgz]
theorem zfl {l:List (List Int)}{x:List Int}(h:x∈aO l):x∈l:=by
 rw[zuj] at h;rcases xin (l.count x) with z | z
 ·rw[z] at h;cases h
 ·exact List.count_pos_iff.mp z
theorem zgg (l:List (List Int)):(aO l).length<=l.length:=by unfold aO;rw[ziu];exact zdi l
theorem znk (l:List (List Int)):(aO l).Nodup:=(zci _).nodup_iff.mpr (zdy l)
noncomputable abbrev aQ (ks:List (List Int)):List (List Int×D):=ks.map fun k=>(k,.bl true)
theorem zkb {ks:List (List Int)}{k:List Int}:valD (aQ ks) k=if k∈ks then some (.bl true) else none:=by
 induction ks with
 | nil=>rfl
 | cons a ks ih =>
  unfold valD aQ at ih ⊢;rw[xbh,xev];by_cases e:a=k
  ·simp[e]
  ·simp only[xcj e];rw[ih];simp[xcc,show ¬ k=a from fun z=>e z.symm]
theorem zok {ks:List (List Int)}{k:List Int}:dropD (aQ ks) k=aQ (ks.filter fun x=>decide (x≠k)):=by
 unfold dropD aQ;rw[List.filter_map]
 rfl
theorem zqg {ks:List (List Int)}{k:List Int}(h:k∉ks):putD (aQ ks) k (.bl true)=aQ (ks++[k]):=by
 unfold putD;rw[if_neg]
 ·simp[aQ]
 ·simp only[List.any_map,xjj,not_exists,not_and];intro x hx e;have:x=k:=by simpa using e
  exact h (this ▸ hx)
theorem zja {st:Store}{n:Nat}{kvs:List (List Int×D)}(h:st[n]?=some (.dT kvs)):pairsOf st (.ref n)=some kvs:=by
 unfold pairsOf;dsimp only;rw[h]
theorem zuh {st:Store}{n:Nat}{kvs:List (List Int×D)}(h:st[n]?=some (.fT kvs)):pairsOf st (.ref n)=some kvs:=by
 unfold pairsOf;dsimp only;rw[h]
theorem zyz {st:Store}{n:Nat}{kvs:List (List Int×D)}{k:List Int}(h:pairsOf st (.ref n)=some kvs):oDIn false (aL k) (.ref n) st=.ok (.bl (valD kvs k).isSome) st:=by
 unfold oDIn;rw[zdk,h]
 rfl
theorem zum {st:Store}{n:Nat}{kvs:List (List Int×D)}{k:List Int}{v:D}(h:pairsOf st (.ref n)=some kvs)(hv:valD kvs k=some v):oDGet (.ref n) (aL k) st=.ok v st:=by
 unfold oDGet;rw[zdk,h];dsimp only;rw[hv]
theorem zzw {st:Store}{n:Nat}{ks:List (List Int)}{k:List Int}(h:st[n]?=some (.dT (aQ ks)))(hl:ks.length<=1000000):zpg [.ref n,aL k] st=.ok .non (st.set n (.dT (aQ (aP ks k)))):=by
 have e1:=zyz (k:=k) (zja h);rw[zkb] at e1;by_cases hk:k∈ks
 ·refine zbho (σ:=[some (.ref n),some (aL k)]) rfl ?_;rw[if_pos hk] at e1;have e2:valD (aQ ks) k=some (.bl true):=by rw[zkb,if_pos hk]
  have e3:aP ks k=ks.filter fun x=>decide (x≠k):=by unfold aP;rw[if_pos hk]
  rw[e3,← zok];have e4:=zja h;have e5:=zdk k;simp only[aL,aQ] at *
  simp[e1,e4,e5,h,e2]
 ·refine zbho (σ:=[some (.ref n),some (aL k)]) rfl ?_;rw[if_neg hk] at e1;have e3:aP ks k=ks++[k]:=by unfold aP;rw[if_neg hk]
  rw[e3,← zqg hk];have e5:=zdk k;have e6:(aQ ks).length < sizeLine:=by rw[xbc];exact smallT _ hl
  simp only[aL,aQ] at *
  simp[e1,e5,h,e6];rw[xbc] at e6;exact e6
theorem zbw {l:List (List Int)}{i:Nat}{x:D}(h:(aJ l)[i]?=some x):∃k,l[i]?=some k/\x=aL k:=by
 unfold aJ at h;rw[xcb] at h;cases e:l[i]? with
 | none=>rw[e] at h;cases h
 | some k=>rw[e] at h;exact⟨k,rfl,(xcd h).symm⟩
theorem zp (l:List (List Int)):(aJ l).length=l.length:=xbc _
theorem zo {α:Type}{l:List α}{i:Nat}{k:α}(h:l[i]?=some k):l.take (i+1)=l.take i++[k]:=by
 obtain⟨hi,e⟩:=xbm.mp h;rw[xgs hi,e]
theorem zbgd (xs:List D)(k:Nat):cutD xs none (some (k:Int))=xs.take k:=by
 unfold cutD;rw[HT.zmv,HT.zse,List.drop_zero,Nat.sub_zero];rcases Nat.le_total k xs.length with h | h
 ·rw[xeb h]
 ·rw[xhu h,xcn,xge h]
theorem zvv (xs:List D)(k:Nat):cutD xs (some (k:Int)) none=xs.drop k:=by
 unfold cutD;rw[HT.zmv,HT.zse];rcases Nat.le_total k xs.length with h | h
 ·rw[xeb h,xge (by rw[xgr];exact xbd _)]
 ·rw[xhu h,xkx,List.drop_of_length_le h];simp
theorem zlo {st:Store}{n:Nat}{ks:List (List Int)}(h:st[n]?=some (.dT (aQ ks)))(hl:ks.length<=1000000):bSorted [.ref n] st=.ok (.lst (aJ (sortR ks))) st:=by
 rw[zju h (by rw[xbc];exact hl),xde]
 congr 2
 exact congrArg (fun l=>aJ (sortR l)) (List.map_id ks)
end Dd
namespace K07
open PySem L2
theorem zij (a b:Nat):Builtin.bitAnd (a:Int) (b:Int)=((a &&& b:Nat):Int):=rfl
theorem zqz (a b:Nat):(a &&& b=b)↔((a / 2 &&& b / 2=b / 2)/\¬ (b % 2=1/\a % 2=0)):=by
 have e1:(a &&& b) / 2=a / 2 &&& b / 2:=Nat.and_div_two;have e2:(a &&& b) % 2=(a % 2) * (b % 2):=by
  have q:=@Nat.and_mod_two_eq_one a b;rcases xdy a with h | h<;>rcases xdy b with h' | h'<;>rw[h,h'] at q ⊢<;>lia
 constructor
 ·intro h;refine⟨by rw[← e1,h],?_⟩;rintro⟨h1,h2⟩;rw[h,h1,h2] at e2;lia
 ·rintro⟨h1,h2⟩;rw[← e1] at h1;have h3:(a &&& b) % 2=b % 2:=by
   rw[e2];rcases xdy a with h | h<;>rcases xdy b with h' | h'<;>simp[h,h']
   exact h2 ⟨h',h⟩
  lia
end K07
namespace K23
open PySem L2 K07
end K23
namespace Dd
open PySem L2 K07 K23
theorem zhx (r:List Int):(r.map D.int).length=r.length:=xbc _
noncomputable def slowAt (r:List Int) (p:Nat):Prop:=∃a b:Int,r[p]?=some a/\r[p+1]?=some b/\a < 2 * b
noncomputable instance (r:List Int) (p:Nat):Decidable (slowAt r p) :=
 match h1:r[p]?,h2:r[p+1]? with
 | some a,some b=>if h:a < 2 * b then .isTrue ⟨a,b,h1,h2,h⟩ else .isFalse fun⟨x,y,e1,e2,e3⟩=>by rw[h1] at e1;rw[h2] at e2;cases e1;cases e2;exact h e3
 | none,_=>.isFalse fun⟨x,y,e1,_⟩=>by rw[h1] at e1;cases e1
 | some _,none=>.isFalse fun⟨x,y,_,e2,_⟩=>by rw[h2] at e2;cases e2
theorem zbbj (r:List Int)(k:Nat):cutD (r.map .int) none (some (k:Int))=(r.take k).map .int:=by rw[zbgd,List.map_take]
theorem zrw (r:List Int)(k:Nat):cutD (r.map .int) (some (k:Int)) none=(r.drop k).map .int:=by rw[zvv,List.map_drop]
structure CntG (f:Nat->D) (kvs:List (List Int×D)) (l:List (List Int)):Prop where
 nd:(kvs.map (·.1)).Nodup
 mem:∀k,k∈kvs.map (·.1)↔k∈l
 val:∀p∈kvs,p.2=f (l.count p.1)
 len:kvs.length<=l.length
theorem CntG.nil (f:Nat->D):CntG f [] []:=⟨xgc,fun k=>by simp,fun p h=>(by cases h),by simp⟩
theorem CntG.at {f:Nat->D}{kvs:List (List Int×D)}{l:List (List Int)}(h:CntG f kvs l)(k:List Int):valD kvs k=if k∈l then some (f (l.count k)) else none:=by
 have gen:∀kvs:List (List Int×D),(∀p∈kvs,p.2=f (l.count p.1))->valD kvs k=if k∈kvs.map (·.1) then some (f (l.count k)) else none:=by
  intro kvs
  induction kvs with
  | nil=>intro _;rfl
  | cons a kvs ih =>
   intro hv;have ih:=ih fun p hp=>hv p (xbl _ hp)
   unfold valD at ih ⊢;rw[xev];by_cases e:a.1=k
   ·have:=hv a xbp;simp only[e,xhj,Option.map_some,xbh,xcc,true_or,xfw];rw[this,e]
   ·simp only[xcj e];rw[ih];simp only[xbh,xcc,show ¬ k=a.1 from fun z=>e z.symm,false_or]
 rw[gen kvs h.val];simp only[h.mem]
theorem CntG.put {f:Nat->D}{kvs:List (List Int×D)}{l:List (List Int)}(h:CntG f kvs l)(k:List Int):CntG f (putD kvs k (f (l.count k+1))) (l++[k]):=by
 have any:(kvs.any fun kv=>decide (kv.1=k))=decide (k∈l):=by
  rw[xek,xdj,← h.mem,xjj,xdk];constructor
  ·rintro⟨x,hx,e⟩;exact⟨x,hx,by simpa using e⟩
  ·rintro⟨p,hp,e⟩;exact⟨p,hp,by simpa using e⟩
 unfold putD;rw[any];by_cases hk:k∈l
 ·rw[if_pos (by simpa using hk)];have keys:(kvs.map fun kv=>if kv.1=k then(kv.1,f (l.count k+1)) else kv).map (·.1)=kvs.map (·.1):=by
   rw[xde]
   congr 1
   funext p
   dsimp only[Function.comp];split<;>rfl
  refine⟨by rw[keys];exact h.nd,fun x=>?_,fun p hp=>?_,?_⟩
  ·rw[keys,h.mem,xce,xbw];exact⟨.inl,fun z=>z.elim id fun e=>e ▸ hk⟩
  ·obtain⟨q,hq,rfl⟩:=xdk.mp hp;have:=h.val q hq;by_cases e:q.1=k
   ·rw[if_pos e];dsimp only;rw[e,xgp];simp
   ·rw[if_neg e,this,xgp];have:List.count q.1 [k]=0:=by rw[xip];simpa using e
    rw[this];rfl
  ·rw[xbc,xbo];have:=h.len;lia
 ·rw[if_neg (by simpa using hk)];refine⟨?_,fun x=>?_,fun p hp=>?_,?_⟩
  ·rw[xds,xje];refine⟨h.nd,by simp,fun a ha b hb=>?_⟩;simp at hb;subst hb;exact fun e=>hk ((h.mem _).mp (e ▸ ha))
  ·rw[xds,xce,h.mem,xce];simp
  ·rcases xce.mp hp with hp | hp
   ·have e1:=h.val p hp;have e2:p.1≠k:=fun e=>hk ((h.mem _).mp (e ▸ xdk.mpr ⟨p,hp,rfl⟩))
    rw[e1,xgp];have:List.count p.1 [k]=0:=by rw[xip];simpa using e2
    rw[this];rfl
   ·simp at hp;subst hp;rw[xgp,xip.mpr hk];simp
  ·rw[xbo,xbo];have:=h.len;simp;exact this
noncomputable def oddB (n:Nat):D:=.bl (decide (n % 2=1))
theorem zqs (n:Nat):oddB (n+1)=.bl (!decide (n % 2=1)):=by
 unfold oddB
 congr 1
 by_cases h:n % 2=1
 ·rw[xcm h,xcj (by lia)];rfl
 ·rw[xcj h,xcm (by lia)];rfl
theorem zmd {st:Store}{x:D}{l:List (List Int)}(hx:seqV x=some (aJ l))(hl:l.length<=1000000)(ho:(aN l).length<=1000000):∃g,zbh [x] st=.ok (aK (aO l)) (st++g):=by
 have W:=zuz (bd:=gN 2) (body:=zdt) (xs:=aJ l) (σ:=[some x,some (.ref st.length),none]) (st:=st++[.dT []])
  (fun i σ s=>∃(v:Option D) (kvs:List (List Int×D)),σ=[some x,some (.ref st.length),v]/\s=st++[.dT kvs]/\CntG oddB kvs (l.take i)) ⟨none,[],rfl,rfl,CntG.nil _⟩ (by
   rintro i y σ s hy ⟨v,kvs,rfl,rfl,hc⟩;obtain⟨k,hk,rfl⟩:=zbw hy;have hc':=hc.put k;have hn:(st++[O.dT kvs])[st.length]?=some (.dT kvs):=by simp
   have e2:(valD kvs k).getD (.bl false)=.bl (decide ((l.take i).count k % 2=1)):=by
    rw[hc.at];split
    ·rfl
    ·rename_i z;rw[xip.mpr z];rfl
   have e3:=zdk k;have e4:=zja hn;have e5:kvs.length < sizeLine:=by
    have h1:=hc.len;have h2:(l.take i).length<=l.length:=by rw[xct];exact xfk _ _
    exact smallT _ (by lia)
   refine⟨[some x,some (.ref st.length),some (aL k)],[some x,some (.ref st.length),some (aL k)],st++[.dT (putD kvs k (oddB ((l.take i).count k+1)))],rfl,?_,some (aL k),_,rfl,rfl,by rw[zo hk];exact hc'⟩;rw[zqs];unfold zdt;simp only[aL] at *
   simp only[zxo,zzy,zvd,zbey,eC_v,xgx,xgy,zcl,e4,e3,e2,hn,e5,xfw]
   simp)
 obtain⟨σ',st',e,v,kvs,rfl,rfl,hc⟩:=W;rw[zp,xcn] at hc;have V:=zsy (bd:=gN 0) (c:=eTru (aS oDGet (aA 1) (aA 0))) (f:=aA 0) (xs:=aJ (kvs.map (·.1))) (σ:=[none,some (.ref st.length)]) (st:=st++[.fT kvs])
  (fun i acc σ s=>s=st++[.fT kvs]/\(∃w:Option D,σ=[w,some (.ref st.length)])/\acc=aJ (((kvs.map (·.1)).take i).filter fun k=>decide (l.count k % 2=1))) ⟨rfl,⟨none,rfl⟩,rfl⟩ (by
   rintro i y acc σ s hy ⟨rfl,⟨w,rfl⟩,rfl⟩;obtain⟨k,hk,rfl⟩:=zbw hy;have hn:(st++[O.fT kvs])[st.length]?=some (.fT kvs):=by simp
   have hkl:k∈l:=(hc.mem k).mp (xby hk);have e2:valD kvs k=some (oddB (l.count k)):=by rw[hc.at,if_pos hkl]
   have e3:oDGet (.ref st.length) (aL k) (st++[O.fT kvs])=.ok (oddB (l.count k)) _:=zum (zuh hn) e2;refine⟨[some (aL k),some (.ref st.length)],decide (l.count k % 2=1),st++[.fT kvs],rfl,?_,?_⟩
   ·rw[zvc];show((oDGet (.ref st.length) (aL k) (st++[O.fT kvs])).bind _)=_;rw[e3]
    rfl
   ·by_cases ho:l.count k % 2=1
    ·refine .inr ⟨xcm ho,aL k,_,rfl,rfl,⟨_,rfl⟩,?_⟩;rw[zo hk,xhe];simp[ho,aJ]
    ·refine .inl ⟨xcj ho,rfl,⟨_,rfl⟩,?_⟩;rw[zo hk,xhe]
     simp[ho,aJ])
 obtain⟨ys,σ2,st2,e2,rfl,⟨w,rfl⟩,rfl⟩:=V;rw[zp,xcn] at e2;refine⟨[.fT kvs],zme rfl ?_⟩;have nd:((kvs.map (·.1)).filter fun k=>decide (l.count k % 2=1)).Nodup:=hc.nd.filter _;have mm:∀k,k∈((kvs.map (·.1)).filter fun k=>decide (l.count k % 2=1))↔l.count k % 2=1:=fun k=>by
  rw[xfg,hc.mem,xdj];refine⟨fun h=>h.2,fun h=>⟨?_,h⟩⟩;rcases xin (l.count k) with z | z
  ·rw[z] at h;cases h
  ·exact List.count_pos_iff.mp z
 have e5:sortR ((kvs.map (·.1)).filter fun k=>decide (l.count k % 2=1))=aO l:=zsl nd mm;have few:((kvs.map (·.1)).filter fun k=>decide (l.count k % 2=1)).length<=1000000:=by
  have p:=zgf nd (zdy l) fun k=>by rw[mm,zgz]
  rw[p.length_eq];exact ho
 have e6:=zjt (st:=st++[.fT kvs]) few;rw[e5] at e6;have hlen:(aJ (kvs.map (·.1))).length<=sizeLine:=by
  rw[zp,xbc];exact small _ (by have:=hc.len;lia)
 refine seqN (σ1:=[some x,some (.ref st.length),none]) (st1:=st++[.dT []]) (by simp) ?_;refine seqN (σ1:=[some x,some (.ref st.length),v]) (st1:=st++[.dT kvs]) (by simp[hx,e]) ?_;have e7:aG (iDict (aA 1)) 1 [1] (gN 0) (eTru (aS oDGet (aA 1) (aA 0))) (aA 0) [some x,some (.ref st.length),v] (st++[.dT kvs])=.ok (.lst (aJ ((kvs.map (·.1)).filter fun k=>decide (l.count k % 2=1)))) (st++[.fT kvs]):=by
  rw[zog];have e8:iDict (aA 1) [some x,some (.ref st.length),v] (st++[.dT kvs])=.ok (aJ (kvs.map (·.1))) (st++[.fT kvs]):=by
   simp
  rw[e8,zcl,if_pos hlen];show(compF _ _ _ _ [none,some (.ref st.length)] _).bind _=_;rw[e2]
  rfl
 rw[zbcu,zoh,zll,zoh,zll,e7];simp only[zcl,zbgv,e6,zpa]
theorem rngN {j:Int}(h1:-10000<=j)(h2:j<=10000):RngOk j:=rngOk (by lia) (by lia)
theorem Drew.over {st s:Store}{n k:Nat}{o:O}(d:Drew st s n)(hn:n < st.length)(hk:st.length<=k):Drew st (s.set k o) n:=by
 obtain⟨c,x,eb,c0,x0⟩:=d.bag;exact⟨by rw[xfi];exact d.len,fun i h1 h2=>by rw[xcx (by lia)];exact d.keep i h1 h2,c,x,by rw[xcx (by lia)];exact eb,c0,x0⟩
theorem zwd (xs:List D)(y:D):L2.atI (xs++[y]) (-1)=some y:=by
 unfold L2.atI ixN;rw[xbo];have e:((-1:Int)+((xs.length+[y].length:Nat):Int)).toNat=xs.length:=by simp;lia
 rw[if_neg (by lia),if_pos (by simp;lia),e];simp
end Dd
namespace Dd
open PySem L2
noncomputable def WP {α:Type} (r:Res α) (Q:α->Store->Prop):Prop:=match r with
 | .ok a st=>Q a st
 | _=>False
theorem WP.get {α:Type}{r:Res α}{Q:α->Store->Prop}(h:WP r Q):∃a st,r=.ok a st/\Q a st:=by
 cases r with
 | ok a st=>exact⟨a,st,rfl,h⟩
 | exc x st=>exact h.elim
 | stuck=>exact h.elim
theorem WP.of {α:Type}{r:Res α}{Q:α->Store->Prop}{a:α}{st:Store}(e:r=.ok a st)(h:Q a st):WP r Q:=by rw[e];exact h
theorem WP.mono {α:Type}{r:Res α}{Q Q':α->Store->Prop}(h:WP r Q)(k:∀a st,Q a st->Q' a st):WP r Q':=by
 obtain⟨a,st,rfl,q⟩:=h.get;exact k a st q
theorem ze {α β:Type}{r:Res α}{f:α->Store->Res β}{Q:β->Store->Prop}:WP (r.bind f) Q=WP r (fun a st=>WP (f a st) Q):=by
 cases r<;>rfl
noncomputable def seqK (t:SS) (Q:Fl->Store->Prop):Fl->Store->Prop:=fun fl st=>match fl with
 | .nx σ=>WP (t σ st) Q
 | fl=>Q fl st
theorem zwr {s t:SS}{σ:DS}{st:Store}{Q:Fl->Store->Prop}:WP (aD s t σ st) Q=WP (s σ st) (seqK t Q):=by
 unfold aD;cases s σ st with
 | ok fl st1=>cases fl<;>rfl
 | exc x st=>rfl
 | stuck=>rfl
theorem zpi {α:Type}{c:Prop}[Decidable c]{a b:Res α}{Q:α->Store->Prop}:WP (if c then a else b) Q=if c then WP a Q else WP b Q:=by
 split<;>rfl
theorem zin {α:Type}{c:Prop}[Decidable c]{a:Res α}{Q:α->Store->Prop}:WP (if c then a else .stuck) Q=(c/\WP a Q):=by
 by_cases h:c
 ·rw[if_pos h];simp[h]
 ·rw[if_neg h];simp[h,WP]
noncomputable def retK (Q:D->Store->Prop):Fl->Store->Prop:=fun fl st=>match fl with
 | .ret v=>Q v st
 | .nx _=>Q .non st
 | _=>False
theorem zlm {n np:Nat}{b:SS}{ds:List D}{st:Store}{Q:D->Store->Prop}(h:ds.length=np)(k:WP (b (ds.map some++List.replicate (n - np) none) st) (retK Q)):WP (fnD n np b ds st) Q:=by
 obtain⟨fl,st',e,q⟩:=k.get;unfold fnD;rw[if_pos h,e];cases fl<;>first | exact q | exact q.elim
noncomputable def bK (Q:Bool->Store->Prop):D->Store->Prop:=fun v st=>match v with
 | .bl b=>Q b st
 | _=>False
noncomputable def gK (bd:SG) (Q:Fl->Store->Prop) (σ:DS):D->Store->Prop:=fun v st=>match bd v σ with
 | some σ1=>Q (.nx σ1) st
 | none=>False
theorem W:(∀{α:Type} {a:α} {st:Store} {Q:α->Store->Prop},WP (.ok a st) Q=Q a st)
 /\ (∀{s t:SS} {σ:DS} {st:Store} {Q:Fl->Store->Prop},WP (aD s t σ st) Q=WP (s σ st) (seqK t Q))
 /\ (∀{t:SS} {σ:DS} {st:Store} {Q:Fl->Store->Prop},seqK t Q (.nx σ) st=WP (t σ st) Q)
 /\ (∀{t:SS} {v:D} {st:Store} {Q:Fl->Store->Prop},seqK t Q (.ret v) st=Q (.ret v) st)
 /\ (∀{t:SS} {σ:DS} {st:Store} {Q:Fl->Store->Prop},seqK t Q (.brk σ) st=Q (.brk σ) st)
 /\ (∀{t:SS} {σ:DS} {st:Store} {Q:Fl->Store->Prop},seqK t Q (.ct σ) st=Q (.ct σ) st)
 /\ (∀{v:D} {st:Store} {Q:D->Store->Prop},retK Q (.ret v) st=Q v st)
 /\ (∀{σ:DS} {st:Store} {Q:D->Store->Prop},retK Q (.nx σ) st=Q .non st)
 /\ (∀{b:Bool} {st:Store} {Q:Bool->Store->Prop},bK Q (.bl b) st=Q b st)
 /\ (∀{d:D} {σ:DS} {st:Store} {Q:D->Store->Prop},WP (eC d σ st) Q=Q d st)
 /\ (∀{g:D->D->Store->Res D} {f f':SE} {σ:DS} {st:Store} {Q:D->Store->Prop},WP (aS g f f' σ st) Q=WP (f σ st) (fun x st1=>WP (f' σ st1) (fun y st2=>WP (g x y st2) Q)))
 /\ (∀{g:D->Store->Res D} {f:SE} {σ:DS} {st:Store} {Q:D->Store->Prop},WP (eUn g f σ st) Q=WP (f σ st) (fun x st1=>WP (g x st1) Q))
 /\ (∀{g:List D->Store->Res D} {f:SA} {σ:DS} {st:Store} {Q:D->Store->Prop},WP (aE g f σ st) Q=WP (f σ st) (fun x st1=>WP (g x st1) Q))
 /\ (∀{σ:DS} {st:Store} {Q:List D->Store->Prop},WP (aC σ st) Q=Q [] st)
 /\ (∀{f:SE} {g:SA} {σ:DS} {st:Store} {Q:List D->Store->Prop},WP (aB f g σ st) Q=WP (f σ st) (fun x st1=>WP (g σ st1) (fun xs st2=>Q (x::xs) st2)))
 /\ (∀{f:SE} {σ:DS} {st:Store} {Q:Bool->Store->Prop},WP (eB f σ st) Q=WP (f σ st) (bK Q))
 /\ (∀{f f':ST} {σ:DS} {st:Store} {Q:Bool->Store->Prop},WP (bAnd f f' σ st) Q=WP (f σ st) (fun b st1=>if b=true then WP (f' σ st1) Q else Q false st1))
 /\ (∀{f f':ST} {σ:DS} {st:Store} {Q:Bool->Store->Prop},WP (bOr f f' σ st) Q=WP (f σ st) (fun b st1=>if b=true then Q true st1 else WP (f' σ st1) Q))
 /\ (∀{f:ST} {σ:DS} {st:Store} {Q:Bool->Store->Prop},WP (bNot f σ st) Q=WP (f σ st) (fun b st1=>Q (!b) st1))
 /\ (∀{σ:DS} {st:Store} {Q:Bool->Store->Prop},WP (aI σ st) Q=Q true st)
 /\ (∀{f f':SE} {σ:DS} {st:Store} {Q:D->Store->Prop},WP (eAnd f f' σ st) Q=WP (f σ st) (bK fun b st1=>if b=true then WP (f' σ st1) Q else Q (.bl false) st1))
 /\ (∀{f f':SE} {σ:DS} {st:Store} {Q:D->Store->Prop},WP (eOr f f' σ st) Q=WP (f σ st) (bK fun b st1=>if b=true then Q (.bl true) st1 else WP (f' σ st1) Q))
 /\ (∀{f:SE} {σ:DS} {st:Store} {Q:D->Store->Prop},WP (eNot f σ st) Q=WP (f σ st) (bK fun b st1=>Q (.bl (!b)) st1))
 /\ (∀{c:ST} {f f':SE} {σ:DS} {st:Store} {Q:D->Store->Prop},WP (eIf c f f' σ st) Q=WP (c σ st) (fun b st1=>if b=true then WP (f σ st1) Q else WP (f' σ st1) Q))
 /\ (∀{g:SA} {σ:DS} {st:Store} {Q:D->Store->Prop},WP (aR g σ st) Q=WP (g σ st) (fun xs st1=>xs.length<=sizeLine/\Q (.tup xs) st1))
 /\ (∀{g:SA} {σ:DS} {st:Store} {Q:D->Store->Prop},WP (eLst g σ st) Q=WP (g σ st) (fun xs st1=>xs.length<=sizeLine/\Q (.lst xs) st1))
 /\ (∀{g:SA} {σ:DS} {st:Store} {Q:D->Store->Prop},WP (eLstM g σ st) Q=WP (g σ st) (fun xs st1=>xs.length<=sizeLine/\Q (.ref st1.length) (st1++[.lst xs])))
 /\ (∀{σ:DS} {st:Store} {Q:D->Store->Prop},WP (eDNew σ st) Q=Q (.ref st.length) (st++[.dT []]))
 /\ (∀{σ:DS} {st:Store} {Q:Fl->Store->Prop},WP (sNx σ st) Q=Q (.nx σ) st)
 /\ (∀{σ:DS} {st:Store} {Q:Fl->Store->Prop},WP (sBrk σ st) Q=Q (.brk σ) st)
 /\ (∀{σ:DS} {st:Store} {Q:Fl->Store->Prop},WP (sCt σ st) Q=Q (.ct σ) st)
 /\ (∀{σ:DS} {st:Store} {Q:Fl->Store->Prop},WP (sRetN σ st) Q=Q (.ret .non) st)
 /\ (∀{f:SE} {σ:DS} {st:Store} {Q:Fl->Store->Prop},WP (sRet f σ st) Q=WP (f σ st) (fun v st1=>Q (.ret v) st1))
 /\ (∀{f:SE} {σ:DS} {st:Store} {Q:Fl->Store->Prop},WP (sDrop f σ st) Q=WP (f σ st) (fun _ st1=>Q (.nx σ) st1))
 /\ (∀{i:Nat} {f:SE} {σ:DS} {st:Store} {Q:Fl->Store->Prop},WP (aF i f σ st) Q=WP (f σ st) (fun v st1=>Q (.nx (σ.set i (some v))) st1))
 /\ (∀{bd:SG} {f:SE} {σ:DS} {st:Store} {Q:Fl->Store->Prop},WP (sSetG bd f σ st) Q=WP (f σ st) (gK bd Q σ))
 /\ (∀{c:ST} {s t:SS} {σ:DS} {st:Store} {Q:Fl->Store->Prop},WP (sIf c s t σ st) Q=WP (c σ st) (fun b st1=>if b=true then WP (s σ st1) Q else WP (t σ st1) Q))
 /\ (∀{it:SA} {bd:SG} {body:SS} {σ:DS} {st:Store} {Q:Fl->Store->Prop},WP (sFor it bd body σ st) Q=WP (it σ st) (fun xs st1=>WP (forF bd body xs σ st1) Q))
 /\ (∀{it:SA} {k:Nat} {is:List Nat} {bd:SG} {c:ST} {f:SE} {σ:DS} {st:Store} {Q:D->Store->Prop},WP (aG it k is bd c f σ st) Q=WP (it σ st) (fun xs st1=>xs.length<=sizeLine/\WP (compF bd c f xs (aT k is σ) st1) (fun ys st2=>Q (.lst ys) st2)))
 /\ (∀{it:SA} {k:Nat} {is:List Nat} {bd:SG} {c:ST} {f:SE} {σ:DS} {st:Store} {Q:D->Store->Prop},WP (eCompM it k is bd c f σ st) Q=WP (it σ st) (fun xs st1=>xs.length<=sizeLine/\WP (compF bd c f xs (aT k is σ) st1) (fun ys st2=>Q (.ref st2.length) (st2++[.lst ys]))))
 /\ (∀{C:Int->Int->Prop} [DecidableRel C] {h:Int->Int->D} {i j:Int} {st:Store} {Q:D->Store->Prop},WP (oI C h (.int i) (.int j) st) Q=(C i j/\Q (h i j) st))
 /\ (∀{i j:Int} {st:Store} {Q:D->Store->Prop},WP (aM (.int i) (.int j) st) Q=Q (.int (i+j)) st)
 /\ (∀{a b:List D} {st:Store} {Q:D->Store->Prop},WP (aM (.tup a) (.tup b) st) Q=(a.length+b.length<=sizeLine/\Q (.tup (a++b)) st))
 /\ (∀{i j:Int} {st:Store} {Q:D->Store->Prop},WP (oLtT (.int i) (.int j) st) Q=Q (.bl (decide (i < j))) st)
 /\ (∀{i j:Int} {st:Store} {Q:D->Store->Prop},WP (oEqG false (.int i) (.int j) st) Q=Q (.bl (decide (i=j))) st)
 /\ (∀{i j:Int} {st:Store} {Q:D->Store->Prop},WP (oEqG true (.int i) (.int j) st) Q=Q (.bl (!decide (i=j))) st)
 /\ (∀{i:Int} {st:Store} {Q:D->Store->Prop},WP (oNeg (.int i) st) Q=Q (.int (-i)) st)
 /\ (∀{i j:Int} {g:Int->Int->Int} {st:Store} {Q:D->Store->Prop},WP (b2I g [.int i,.int j] st) Q=Q (.int (g i j)) st)
 /\ (∀{i:Int} {st:Store} {Q:D->Store->Prop},WP (bAbs [.int i] st) Q=Q (.int (if i < 0 then -i else i)) st)
 /\ (∀{b:Bool} {st:Store} {Q:D->Store->Prop},WP (bInt [.bl b] st) Q=Q (.int (if b=true then 1 else 0)) st)
 /\ (∀{xs:List D} {st:Store} {Q:D->Store->Prop},WP (bLen [.tup xs] st) Q=Q (.int xs.length) st)
 /\ (∀{xs:List D} {st:Store} {Q:D->Store->Prop},WP (bLen [.lst xs] st) Q=Q (.int xs.length) st)
 /\ (∀{xs:List D} {st:Store} {Q:D->Store->Prop},WP (bLen [.scr xs] st) Q=Q (.int xs.length) st)
 /\ (∀{xs:List D} {st:Store} {Q:D->Store->Prop},WP (bTuple [.tup xs] st) Q=Q (.tup xs) st)
 /\ (∀{xs:List D} {st:Store} {Q:D->Store->Prop},WP (bTuple [.lst xs] st) Q=Q (.tup xs) st)
 /\ (∀{xs:List D} {st:Store} {Q:D->Store->Prop},WP (bList [.tup xs] st) Q=Q (.lst xs) st)
 /\ (∀{xs:List D} {st:Store} {Q:D->Store->Prop},WP (bList [.lst xs] st) Q=Q (.lst xs) st)
 /\ (∀{d:D} {σ:DS} {st:Store} {Q:D->Store->Prop},WP (aA 0 (some d::σ) st) Q=Q d st)
 /\ (∀{i:Nat} {σ:DS} {st:Store} {Q:D->Store->Prop} {o:Option D},WP (aA (i+1) (o::σ) st) Q=WP (aA i σ st) Q)
 /\ (∀{f:SE} {σ:DS} {st:Store} {Q:List D->Store->Prop},WP (aH f σ st) Q=WP (f σ st) (fun x st1=>∃xs,seqV x=some xs/\Q xs st1))
 /\ (∀{f:SE} {σ:DS} {st:Store} {Q:Bool->Store->Prop},WP (eTru f σ st) Q=WP (f σ st) (fun x st1=>∃b,tru st1 x=some b/\Q b st1))
 /\ (∀{g:SA} {σ:DS} {st:Store} {Q:List D->Store->Prop},WP (iR1 g σ st) Q=WP (g σ st) (fun xs st1=>∃j,xs=[.int j]/\RngOk j/\Q (rng 0 j.toNat) st1))
 /\ (∀{g:SA} {σ:DS} {st:Store} {Q:List D->Store->Prop},WP (iR2 g σ st) Q=WP (g σ st) (fun xs st1=>∃i j,xs=[.int i,.int j]/\RngOk i/\RngOk j/\Q (rng i (j - i).toNat) st1)):=by
 have g2:∀{α:Type} {c:Prop} [Decidable c] {a:α} {st:Store} {Q:α->Store->Prop},WP (if c then .ok a st else .stuck) Q=(c/\Q a st):=fun {α c _ a st Q}=>zin
 refine⟨rfl,zwr,rfl,rfl,rfl,rfl,rfl,rfl,rfl,rfl,?_⟩;refine⟨?_,?_⟩
 ·intros;rw[zbhq,ze];congr;funext x st1;rw[ze]
 refine⟨ze,ze,rfl,?_⟩;refine⟨?_,?_⟩
 ·intros;rw[zll,ze];congr;funext x st1;rw[ze];rfl
 refine⟨?_,?_⟩
 ·intros;rw[eB_v,ze];congr;funext x st1;cases x<;>rfl
 refine⟨?_,?_⟩
 ·intros;rw[zbgs,ze];congr;funext x st1;rw[zpi];rfl
 refine⟨?_,?_⟩
 ·intros;rw[zbgn,ze];congr;funext x st1;rw[zpi];rfl
 refine⟨ze,rfl,?_⟩;refine⟨?_,?_⟩
 ·intros;rw[zbfc,ze];congr;funext x st1;cases x<;>try rfl
  rename_i b;cases b<;>rfl
 refine⟨?_,?_⟩
 ·intros;rw[zbiz,ze];congr;funext x st1;cases x<;>try rfl
  rename_i b;cases b<;>rfl
 refine⟨?_,?_⟩
 ·intros;rw[zzy,ze];congr;funext x st1;cases x<;>rfl
 refine⟨?_,?_⟩
 ·intros;rw[zbja,ze];congr;funext x st1;rw[zpi]
 refine⟨?_,?_⟩
 ·intros;rw[zbez,ze];congr;funext x st1;rw[g2]
 refine⟨?_,?_⟩
 ·intros;rw[zbfa,ze];congr;funext x st1;rw[g2]
 refine⟨?_,?_⟩
 ·intros;rw[zzz,ze];congr;funext x st1;rw[g2]
 refine⟨rfl,rfl,rfl,rfl,rfl,ze,ze,ze,?_⟩;refine⟨?_,?_⟩
 ·intro bd f σ st Q;unfold sSetG;rw[ze];congr;funext x st1;unfold gK;cases bd x σ<;>rfl
 refine⟨?_,?_⟩
 ·intros;rw[zbcw,ze];congr;funext x st1;rw[zpi]
 refine⟨ze,?_⟩;refine⟨?_,?_⟩
 ·intros;rw[zog,ze];congr;funext x st1;rw[zin,ze];rfl
 refine⟨?_,?_⟩
 ·intros;unfold eCompM;rw[ze];congr;funext x st1;rw[zin,ze];rfl
 refine⟨?_,?_⟩
 ·intros;rw[oI_v,g2]
 refine⟨rfl,?_⟩;refine⟨?_,?_⟩
 ·intros;rw[zbee,g2]
 refine⟨rfl,?_⟩;refine⟨?_,?_⟩
 ·intros;rw[show ∀i j st,oEqG false (.int i) (.int j) st=_ from fun i j st=>zbis];rfl
 refine⟨?_,?_⟩
 ·intros;rw[show ∀i j st,oEqG true (.int i) (.int j) st=_ from fun i j st=>zbip];rfl
 refine⟨rfl,rfl,rfl,rfl,rfl,rfl,rfl,rfl,rfl,rfl,rfl,fun {d σ st Q}=>rfl,fun {i σ st Q o}=>rfl,?_⟩;refine⟨?_,?_⟩
 ·intros;rw[zbev,ze];congr;funext x st1
  cases h:seqV x with
  | none=>simp[WP]
  | some xs=>simp[WP]
 refine⟨?_,?_⟩
 ·intros;rw[zvc,ze];congr;funext x st1
  cases h:tru st1 x with
  | none=>simp[WP]
  | some xs=>simp[WP]
 refine⟨?_,?_⟩
 ·intros;rw[zbiw,ze];congr;funext x st1
  split
  ·rw[g2];simp[RngOk]
  ·rename_i hne;have:∀j,x≠[D.int j]:=fun j h=>hne j h
   simp[WP,this]
 ·intros;rw[zbiv,ze];congr;funext x st1
  split
  ·rw[g2];simp only[RngOk,List.cons.injEq,D.int.injEq,and_true];apply propext;constructor
   ·rintro⟨h,q⟩;exact⟨_,_,⟨rfl,rfl⟩,h.1,h.2,q⟩
   ·rintro⟨i',j',⟨rfl,rfl⟩,h1,h2,q⟩;exact⟨⟨h1,h2⟩,q⟩
  ·rename_i hne;have:∀i j,x≠[D.int i,D.int j]:=fun i j h=>hne i j h
   simp[WP,this]
noncomputable def loopK (I:DS->Store->Prop) (Q:Fl->Store->Prop):Fl->Store->Prop:=fun fl st=>match fl with
 | .nx σ=>I σ st
 | .ct σ=>I σ st
 | .brk σ=>Q (.nx σ) st
 | .ret v=>Q (.ret v) st
theorem zga {bd:SG}{body:SS}{Q:Fl->Store->Prop}(I:Nat->DS->Store->Prop):∀(xs:List D) (k:Nat) (σ:DS) (st:Store),I k σ st ->
  (∀i x σ st,xs[i]?=some x->I (k+i) σ st->∃σ1,bd x σ=some σ1/\WP (body σ1 st) (loopK (I (k+i+1)) Q))->(∀σ st,I (k+xs.length) σ st->Q (.nx σ) st)->WP (forF bd body xs σ st) Q
 | [],k,σ,st,h,_,q=>q σ st h
 | x::xs,k,σ,st,h,s,q=>by
  obtain⟨σ1,e1,w⟩:=s 0 x σ st rfl h;obtain⟨fl,st2,e2,w⟩:=w.get;unfold forF;rw[e1];dsimp only;rw[e2]
  have go:∀σ2,I (k+0+1) σ2 st2->WP (forF bd body xs σ2 st2) Q:=fun σ2 h2=>zga I xs (k+1) σ2 st2 h2 (fun i y σ st hy hi=>by
   have:=s (i+1) y σ st (by simpa using hy) (by rw[show k+(i+1)=k+1+i by lia];exact hi);rw[show k+(i+1)+1=k+1+i+1 by lia] at this
   exact this) (fun σ st h=>q σ st (by rw[xbr,show k+(xs.length+1)=k+1+xs.length by lia];exact h))
  cases fl with
  | nx σ2=>exact go σ2 w
  | ct σ2=>exact go σ2 w
  | brk σ2=>exact w
  | ret v=>exact w
theorem zcg {bd:SG}{body:SS}{Q:Fl->Store->Prop}(I:Nat->DS->Store->Prop){xs:List D}{σ:DS}{st:Store}(h0:I 0 σ st)
  (s:∀i x σ st,xs[i]?=some x->I i σ st->∃σ1,bd x σ=some σ1/\WP (body σ1 st) (loopK (I (i+1)) Q))(q:∀σ st,I xs.length σ st->Q (.nx σ) st):WP (forF bd body xs σ st) Q :=
 zga I xs 0 σ st h0 (fun i x σ st hx hi=>by rw[xdp] at hi ⊢;exact s i x σ st hx hi) fun σ st h=>q σ st (by rw[xdp] at h;exact h)
theorem L:(∀{I:DS->Store->Prop} {Q:Fl->Store->Prop} {σ:DS} {st:Store},loopK I Q (.nx σ) st=I σ st)
 /\ (∀{I:DS->Store->Prop} {Q:Fl->Store->Prop} {σ:DS} {st:Store},loopK I Q (.ct σ) st=I σ st)
 /\ (∀{I:DS->Store->Prop} {Q:Fl->Store->Prop} {σ:DS} {st:Store},loopK I Q (.brk σ) st=Q (.nx σ) st)
 /\ (∀{I:DS->Store->Prop} {Q:Fl->Store->Prop} {v:D} {st:Store},loopK I Q (.ret v) st=Q (.ret v) st):=⟨rfl,rfl,rfl,rfl⟩
theorem zds {bd:SG}{c:ST}{f:SE}(I:Nat->List D->DS->Store->Prop):∀(xs:List D) (k:Nat) (acc:List D) (σ:DS) (st:Store) (Q:List D->Store->Prop),I k acc σ st ->
  (∀i x acc σ st,xs[i]?=some x->I (k+i) acc σ st->∃σ1,bd x σ=some σ1/\WP (c σ1 st) (fun b st1=>if b=true then WP (f σ1 st1) (fun y st2=>I (k+i+1) (acc++[y]) σ1 st2) else I (k+i+1) acc σ1 st1)) ->
  (∀ys σ st,I (k+xs.length) (acc++ys) σ st->Q ys st)->WP (compF bd c f xs σ st) Q
 | [],k,acc,σ,st,Q,h,_,q=>q [] σ st (by rw[xdz];exact h)
 | x::xs,k,acc,σ,st,Q,h,s,q=>by
  obtain⟨σ1,e1,w⟩:=s 0 x acc σ st rfl h;obtain⟨b,st1,e2,w⟩:=w.get;have s':∀i y acc σ st,xs[i]?=some y->I (k+1+i) acc σ st->∃σ1,bd y σ=some σ1/\WP (c σ1 st) (fun b st1=>if b=true then WP (f σ1 st1) (fun y st2=>I (k+1+i+1) (acc++[y]) σ1 st2) else I (k+1+i+1) acc σ1 st1):=fun i y acc σ st hy hi=>by
   have:=s (i+1) y acc σ st (by simpa using hy) (by rw[show k+(i+1)=k+1+i by lia];exact hi);rw[show k+(i+1)+1=k+1+i+1 by lia] at this;exact this
  have ln:∀(zs:List D) σ st,I (k+1+xs.length) zs σ st->I (k+(x::xs).length) zs σ st:=fun zs σ st h=>by rw[xbr,show k+(xs.length+1)=k+1+xs.length by lia];exact h
  unfold compF;rw[e1];dsimp only;rw[e2];dsimp only[zcl];cases b with
  | false =>
   rw[if_neg (by decide)] at w ⊢;exact zds I xs (k+1) acc σ1 st1 Q w s' fun ys σ st h=>q ys σ st (ln _ _ _ h)
  | true =>
   rw[if_pos rfl] at w ⊢;obtain⟨y,st2,e3,w⟩:=w.get;rw[e3];dsimp only[zcl];rw[ze];exact zds I xs (k+1) (acc++[y]) σ1 st2 _ w s' fun ys σ st h=>q (y::ys) σ st (ln _ _ _ (by rw[xbq] at h;exact h))
theorem zmm {bd:SG}{c:ST}{f:SE}{Q:List D->Store->Prop}(I:Nat->List D->DS->Store->Prop){xs:List D}{σ:DS}{st:Store}(h0:I 0 [] σ st)
  (s:∀i x acc σ st,xs[i]?=some x->I i acc σ st->∃σ1,bd x σ=some σ1/\WP (c σ1 st) (fun b st1=>if b=true then WP (f σ1 st1) (fun y st2=>I (i+1) (acc++[y]) σ1 st2) else I (i+1) acc σ1 st1))
  (q:∀ys σ st,I xs.length ys σ st->Q ys st):WP (compF bd c f xs σ st) Q :=
 zds I xs 0 [] σ st Q h0 (fun i x acc σ st hx hi=>by rw[xdp] at hi ⊢;exact s i x acc σ st hx hi) fun ys σ st h=>q ys σ st (by rw[xdp] at h;simpa using h)
theorem zml {bd:SG}{c:ST}{f:SE}{α:Type}(S:DS->Prop)(P:α->Bool)(G:α->D)(E:α->D){as:List α}{σ:DS}{st:Store}{Q:List D->Store->Prop}(h0:S σ)
  (s:∀x∈as,∀σ,S σ->∃σ1,bd (E x) σ=some σ1/\S σ1/\WP (c σ1 st) (fun b st1=>st1=st/\b=P x)/\(P x=true->WP (f σ1 st) (fun y st1=>st1=st/\y=G x)))
  (q:Q ((as.filter P).map G) st):WP (compF bd c f (as.map E) σ st) Q:=by
 refine zmm (fun i acc σ s'=>S σ/\s'=st/\acc=((as.take i).filter P).map G) ⟨h0,rfl,rfl⟩ (fun i x acc σ s' hx hI=>?_) fun ys σ s' hI=>?_
 ·obtain⟨hS,rfl,rfl⟩:=hI;rw[xcb] at hx;obtain⟨z,hz,rfl⟩:=xcq.mp hx;obtain⟨σ1,e1,hS1,w1,w2⟩:=s z (xby hz) σ hS;refine⟨σ1,e1,w1.mono fun b st1 hb=>?_⟩;obtain⟨rfl,rfl⟩:=hb;cases hP:P z with
  | false =>
   rw[if_neg (by decide)];refine⟨hS1,rfl,?_⟩;rw[zo hz,xhe,xco (by rw[hP];decide)];simp
  | true =>
   rw[if_pos rfl];refine(w2 hP).mono fun y st2 hy=>?_
   obtain⟨rfl,rfl⟩:=hy;refine⟨hS1,rfl,?_⟩;rw[zo hz,xhe,xcp hP,xds];simp
 ·obtain⟨_,rfl,rfl⟩:=hI;rw[xbc,xcn];exact q
theorem V:(∀{α:Type} {a b:α} {l:List α},(a::l).set 0 b=b::l)
 /\ (∀{α:Type} {a b:α} {l:List α} {i:Nat},(a::l).set (i+1) b=a::l.set i b)
 /\ (∀{σ:DS} {k:Nat} {is:List Nat},aT k is σ=List.replicate k none++is.map fun i=>(σ[i]?).getD none)
 /\ (∀{α:Type} {a:α} {k:Nat},List.replicate (k+1) a=a::List.replicate k a)
 /\ (∀{α:Type} {a:α},List.replicate 0 a=[])
 /\ (∀{α β:Type} {f:α->β} {a:α} {l:List α},(a::l).map f=f a::l.map f)
 /\ (∀{α β:Type} {f:α->β},([]:List α).map f=[])
 /\ (∀{α:Type} {a:α} {l m:List α},(a::l)++m=a::(l++m))
 /\ (∀{α:Type} {l:List α},[]++l=l)
 /\ (∀{α:Type} {a:α} {l:List α},(a::l)[0]?=some a)
 /\ (∀{α:Type} {a:α} {l:List α} {i:Nat},(a::l)[i+1]?=l[i]?)
 /\ (∀{α:Type} {a:α} {d:α},(some a).getD d=a)
 /\ (∀{i:Nat} {d:D} {σ:DS},gN i d σ=some (σ.set i (some d)))
 /\ (∀{p:Prop} [Decidable p],(decide p=true)=p)
 /\ (∀{p:Prop} [Decidable p],((!decide p)=true)=¬ p)
 /\ (∀{b:Bool},((!b)=true)=(b=false))
 /\ (∀{a b:Prop},(if True then a else b)=a)
 /\ (∀{a b:Prop},(if False then a else b)=b)
 /\ (∀{a b:Prop},(if true=true then a else b)=a)
 /\ (∀{a b:Prop},(if false=true then a else b)=b)
 /\ (∀{α:Type} {a b:α},(if True then a else b)=a)
 /\ (∀{α:Type} {a b:α},(if False then a else b)=b)
 /\ ((true=false)=False)/\((false=true)=False)/\((true=true)=True)/\((false=false)=True)/\((¬ True)=False)/\((¬ False)=True):=by
 refine⟨rfl,rfl,rfl,rfl,rfl,rfl,rfl,rfl,rfl,rfl,?_,rfl,rfl,?_,?_,?_,rfl,rfl,rfl,rfl,rfl,rfl,by simp,by simp,by simp,by simp,by simp,by simp⟩
 ·intros;rfl
 ·intro p _;simp
 ·intro p _;simp
 ·intro b;simp
theorem M:(∀{f:SE} {σ:DS} {st:Store} {Q:Option Int->Store->Prop},WP (pSome f σ st) Q=WP (f σ st) (fun v st1=>∃i,v=.int i/\Q (some i) st1))
 /\ (∀{σ:DS} {st:Store} {Q:Option Int->Store->Prop},WP (pNone σ st) Q=Q none st)
 /\ (∀{f:SE} {lo hi:DS->Store->Res (Option Int)} {σ:DS} {st:Store} {Q:D->Store->Prop},WP (eSl f lo hi σ st) Q=WP (f σ st) (fun x st1=>WP (lo σ st1) (fun l st2=>WP (hi σ st2) (fun h st3=>(∃xs,x=.tup xs/\Q (.tup (cutD xs l h)) st3)\/(∃xs,asL st3 x=some xs/\Q (.lst (cutD xs l h)) st3)))))
 /\ (∀{f:SE} {σ:DS} {st:Store} {Q:D->Store->Prop},WP (eFz f σ st) Q=WP (f σ st) (fun x st1=>∃n xs,x=.ref n/\st1[n]?=some (.lst xs)/\Q (.lst xs) (st1.set n .dead)))
 /\ (∀{f g h:SE} {σ:DS} {st:Store} {Q:Fl->Store->Prop},WP (sSetIx f g h σ st) Q=WP (h σ st) (fun v st1=>WP (f σ st1) (fun x st2=>WP (g σ st2) (fun y st3=>∃n k xs j,x=.ref n/\y=.int k/\st3[n]?=some (.lst xs)/\ixN xs.length k=some j/\Q (.nx σ) (st3.set n (.lst (xs.set j v)))))))
 /\ (∀{f:SE} {g:SA} {σ:DS} {st:Store} {Q:D->Store->Prop},WP (eAppend f g σ st) Q=WP (f σ st) (fun x st1=>∃n xs0,x=.ref n/\st1[n]?=some (.lst xs0)/\WP (g σ st1) (fun ys st2=>∃y xs,ys=[y]/\st2[n]?=some (.lst xs)/\xs.length < sizeLine/\Q .non (st2.set n (.lst (xs++[y]))))))
 /\ (∀{x:D} {st:Store} {Q:D->Store->Prop},WP (bSum [x] st) Q=∃ns,(seqOf st x).bind asInts=some ns/\Q (.int ns.sum) st)
 /\ (∀{x:D} {al:Bool} {st:Store} {Q:D->Store->Prop},WP (bAny al [x] st) Q=∃bs,(asL st x).bind asBools=some bs/\Q (.bl (if al then bs.all id else bs.any id)) st)
 /\ (∀{x:D} {gt:Bool} {st:Store} {Q:D->Store->Prop},WP (bBest gt [x] st) Q=∃n ns,(seqOf st x).bind asInts=some (n::ns)/\Q (.int (bestI gt n ns)) st)
 /\ (∀{g:SA} {σ:DS} {st:Store} {Q:List D->Store->Prop},WP (iZipT g σ st) Q=WP (g σ st) (fun xs st1=>∃a b,xs=[.tup a,.tup b]/\Q (pairsF a b) st1))
 /\ (∀{i:Nat} {g:D->D->Store->Res D} {f:SE} {σ:DS} {st:Store} {Q:Fl->Store->Prop},WP (sAug i g f σ st) Q=∃x,σ[i]?=some (some x)/\WP (f σ st) (fun y st1=>WP (g x y st1) (fun z st2=>Q (.nx (σ.set i (some z))) st2))):=by
 refine⟨?_,rfl,?_,?_,?_,?_,?_,?_,?_,?_,?_⟩
 ·intros;rw[zyr,ze];congr;funext x st1
  cases x<;>simp[WP]
 ·intros;rw[zbiy,ze];congr;funext x st1;rw[ze];congr;funext l st2;rw[ze];congr;funext h st3
  apply propext;split
  ·constructor
   ·intro q;exact .inl ⟨_,rfl,q⟩
   ·rintro(⟨xs,e,q⟩ | ⟨xs,e,q⟩)
    ·cases e;exact q
    ·cases e
  ·rename_i hne;constructor
   ·intro q;split at q
    ·rename_i xs e;exact .inr ⟨xs,e,q⟩
    ·exact q.elim
   ·rintro(⟨xs,e,q⟩ | ⟨xs,e,q⟩)
    ·exact absurd e (hne xs)
    ·rw[e];exact q
 ·intros;rw[zbjb,ze];congr;funext x st1
  apply propext;constructor
  ·intro q;split at q
   ·split at q
    ·rename_i xs e;exact⟨_,xs,rfl,e,q⟩
    ·exact q.elim
   ·exact q.elim
  ·rintro⟨n,xs,rfl,e,q⟩;dsimp only;rw[e];exact q
 ·intros;rw[ztm,ze];congr;funext v st1;rw[ze];congr;funext x st2;rw[ze];congr;funext y st3
  apply propext;constructor
  ·intro q;split at q
   ·split at q
    ·split at q
     ·exact⟨_,_,_,_,rfl,rfl,by assumption,by assumption,q⟩
     ·exact q.elim
    ·exact q.elim
   ·exact q.elim
  ·rintro⟨n,k,xs,j,rfl,rfl,e1,e2,q⟩;dsimp only;rw[e1];dsimp only;rw[e2];exact q
 ·intros;rw[zrl,ze];congr;funext x st1
  apply propext;constructor
  ·intro q;split at q
   ·rename_i n xs0 e;rw[ze] at q;have e':st1[n]?=some (.lst xs0):=by
     unfold asL at e;dsimp only at e;split at e
     ·cases e;assumption
     ·cases e
    refine⟨n,xs0,rfl,e',q.mono fun ys st2 h=>?_⟩;split at h
    ·split at h
     ·exact⟨_,_,rfl,by assumption,by assumption,h⟩
     ·exact h.elim
    ·exact h.elim
   ·exact q.elim
  ·rintro⟨n,xs0,rfl,e,q⟩;rw[zgo e];dsimp only;rw[ze];refine q.mono fun ys st2 h=>?_
   obtain⟨y,xs,rfl,e2,hl,h⟩:=h;rw[e2];dsimp only;rw[if_pos hl];exact h
 ·intro x st Q;unfold bSum;dsimp only;cases h:(seqOf st x).bind asInts with
  | none=>simp[WP]
  | some ns=>simp[WP]
 ·intro x al st Q;unfold bAny;dsimp only;cases h:(asL st x).bind asBools with
  | none=>simp[WP]
  | some ns=>simp[WP]
 ·intro x gt st Q;unfold bBest;dsimp only;cases h:(seqOf st x).bind asInts with
  | none=>simp[WP]
  | some ns =>
   cases ns with
   | nil=>simp[WP]
   | cons n ns =>
    apply propext;constructor
    ·intro q;exact⟨_,_,rfl,q⟩
    ·rintro⟨a,b,e,q⟩;cases e;exact q
 ·intro g σ st Q;unfold iZipT;rw[ze];congr;funext x st1
  apply propext;constructor
  ·intro q;split at q
   ·exact⟨_,_,rfl,q⟩
   ·exact q.elim
  ·rintro⟨a,b,rfl,q⟩;exact q
 ·intro i g f σ st Q;rw[zbcy];apply propext;constructor
  ·intro q;split at q
   ·rename_i x e;rw[ze] at q;exact⟨x,e,q.mono fun y st1 h=>by rw[ze] at h;exact h⟩
   ·exact q.elim
  ·rintro⟨x,e,q⟩;rw[e];dsimp only;rw[ze];exact q.mono fun y st1 h=>by rw[ze];exact h
theorem N:(∀{xs:List D} {P:List D->Prop},(∃ys,D.tup xs=D.tup ys/\P ys)=P xs)
 /\ (∀{i:Int} {P:Int->Prop},(∃j,D.int i=D.int j/\P j)=P i)
 /\ (∀{xs:List D} {st:Store} {P:List D->Prop},(∃ys,asL st (.tup xs)=some ys/\P ys)=False)
 /\ (∀{xs:List D} {st:Store} {P:List D->Prop},(∃ys,asL st (.lst xs)=some ys/\P ys)=P xs)
 /\ (∀{xs:List D} {P:List D->Prop},(∃ys,seqV (.tup xs)=some ys/\P ys)=P xs)
 /\ (∀{xs:List D} {P:List D->Prop},(∃ys,seqV (.lst xs)=some ys/\P ys)=P xs)
 /\ (∀{b:Bool} {st:Store} {P:Bool->Prop},(∃c,tru st (.bl b)=some c/\P c)=P b)
 /\ (∀{i:Int} {P:Int->Prop},(∃j,[D.int i]=[D.int j]/\P j)=P i)
 /\ (∀{i j:Int} {P:Int->Int->Prop},(∃k l,[D.int i,D.int j]=[D.int k,D.int l]/\P k l)=P i j)
 /\ (∀{x:D} {P:D->Prop},(∃y,[x]=[y]/\P y)=P x)
 /\ (∀{a b:List D} {P:List D->List D->Prop},(∃c d,[D.tup a,D.tup b]=[.tup c,.tup d]/\P c d)=P a b)
 /\ (∀{p:Prop},(p\/False)=p)/\(∀{p:Prop},(True/\p)=p):=by
 refine⟨?_,?_,?_,?_,?_,?_,?_,?_,?_,?_,?_,by simp,by simp⟩
 ·intros;apply propext;exact⟨fun⟨_,e,p⟩=>by cases e;exact p,fun p=>⟨_,rfl,p⟩⟩
 ·intros;apply propext;exact⟨fun⟨_,e,p⟩=>by cases e;exact p,fun p=>⟨_,rfl,p⟩⟩
 ·intros;apply propext;exact⟨fun⟨_,e,p⟩=>(by cases e),fun p=>p.elim⟩
 ·intros;apply propext;exact⟨fun⟨_,e,p⟩=>by cases e;exact p,fun p=>⟨_,rfl,p⟩⟩
 ·intros;apply propext;exact⟨fun⟨_,e,p⟩=>by cases e;exact p,fun p=>⟨_,rfl,p⟩⟩
 ·intros;apply propext;exact⟨fun⟨_,e,p⟩=>by cases e;exact p,fun p=>⟨_,rfl,p⟩⟩
 ·intros;apply propext;exact⟨fun⟨_,e,p⟩=>by cases e;exact p,fun p=>⟨_,rfl,p⟩⟩
 ·intros;apply propext;exact⟨fun⟨_,e,p⟩=>by cases e;exact p,fun p=>⟨_,rfl,p⟩⟩
 ·intros;apply propext;exact⟨fun⟨_,_,e,p⟩=>by cases e;exact p,fun p=>⟨_,_,rfl,p⟩⟩
 ·intros;apply propext;exact⟨fun⟨_,e,p⟩=>by cases e;exact p,fun p=>⟨_,rfl,p⟩⟩
 ·intros;apply propext;exact⟨fun⟨_,_,e,p⟩=>by cases e;exact p,fun p=>⟨_,_,rfl,p⟩⟩
section
variable {st:Store}{n:Nat}{Q:D->Store->Prop}
theorem zch {m:Int}(hb:BagAt st n)(h1:1<=m)(h2:m<=1000000)(k:∀r st',0<=r->r < m->Drew st st' n->Q (.int r) st'):WP (zf [.ref n,.int m] st) Q:=by
 obtain⟨r,st',e,a1,a2,a3,_⟩:=zxb hb h1 (Int.lt_of_le_of_lt h2 (by decide +kernel));exact WP.of e (k r st' a1 a2 a3)
theorem zbiu {x:D}{xs:List D}{i:Int}{d:D}(h:seqOf st x=some xs)(h2:L2.atI xs i=some d)(q:Q d st):WP (oIx x (.int i) st) Q:=WP.of (zhy h h2) q
theorem zbgk {ns:List Int}{i:Nat}(hl:ns.length<=63)(hi:i<=100000)(k:∀g,BagAt (st++g) st.length->Q (.ref st.length) (st++g)):WP (zeg [.scr (ns.map .int),.int i] st) Q:=by
 obtain⟨c,x,hc,hx,e⟩:=zbgl (st:=st) hl hi;exact WP.of e (k _ ⟨c,x,by simp,hc,hx⟩)
end
noncomputable abbrev Rise (l:List (List Int)):Prop:=l.Pairwise fun a b=>HT.lexLt a b=true
theorem zxq {l:List (List Int)}(h:UpR l)(nd:l.Nodup):Rise l:=List.Pairwise.imp (fun {a b} q=>by
 obtain⟨q1,q2⟩:=q;rcases Srt.zia a b with z | z | z
 ·exact z
 ·exact absurd z q2
 ·rw[q1] at z;cases z) (h.and nd)
theorem zqq (l:List (List Int)):Rise (aO l):=zxq (zgu _) (znk l)
structure SumOk (n:Nat) (l:List (List Int)):Prop where
 rise:Rise l
 len:∀r∈l,r.length=n
 pos:∀r∈l,∀x∈r,0<=x
theorem zpv {n:Nat}{l:List (List Int)}(h:∀r∈l,r.length=n/\∀x∈r,0<=x):SumOk n (aO l):=⟨zqq l,fun r hr=>(h r (zfl hr)).1,fun r hr=>(h r (zfl hr)).2⟩
theorem Drew.lt {st st':Store}{n:Nat}(d:Drew st st' n)(h:n < st.length):n < st'.length:=xbg h d.len
theorem BagAt.lt {st:Store}{n:Nat}(h:BagAt st n):n < st.length:=by obtain⟨c,x,e,_⟩:=h;exact zw e
theorem zjh {r:List Int}{P:Int->Prop}(h:∀x∈r,P x){y:Int}(hy:P y):∀x∈r++[y],P x:=fun x hx=>by
 rcases xce.mp hx with hx | hx
 ·exact h x hx
 ·simp at hx;subst hx;exact hy
theorem zhh {α:Type}(l:List α):(l.filter fun _=>true)=l:=xie.mpr (by simp)
section
variable {st:Store}{n:Nat}{Q:D->Store->Prop}
theorem zmq (l:List Int)(j:Nat):(l.drop j++l.take j).length=l.length:=by rw[xbo,Nat.add_comm,← xbo,xdv]
theorem zti {l:List Int}{j:Nat}{s:Store}(h:l.length<=sizeLine):aM (.lst ((l.drop j).map .int)) (.lst ((l.take j).map .int)) s=.ok (.lst ((l.drop j++l.take j).map .int)) s:=by
 show(if _<=sizeLine then Res.ok (D.lst _) s else .stuck)=_;rw[if_pos,xds];rw[xbc,xbc,← xbo,zmq];exact h
theorem znl {x:D}{l:List (List Int)}(hx:seqV x=some (aJ l))(hl:l.length<=1000000)(k:∀g,Q (aK (aO l)) (st++g)):WP (zbh [x] st) Q:=by
 have h1:=zdi l;obtain⟨g,e⟩:=zmd (st:=st) hx (by lia) (by lia);exact WP.of e (k g)
end
section
variable {k:Nat}{d:D}{st:Store}
end
section
variable {k:Nat}{d:D}{st:Store}{Q:D->Store->Prop}
end
section
variable {k:Nat}{d:D}{st:Store}{Q:D->Store->Prop}
end
section
variable {k:Nat}{d:D}{st:Store}
end
section
variable {st:Store}{Q:D->Store->Prop}
end
section
variable {st:Store}{k:Nat}{d:D}{m:Int}{Q:D->Store->Prop}
end
theorem zcf {s t:SS}{σ:DS}{st:Store}{Q R:Fl->Store->Prop}(h:WP (s σ st) R)(k:∀fl s',R fl s'->seqK t Q fl s'):WP (aD s t σ st) Q:=by
 rw[zwr];exact h.mono k
section
variable {st:Store}{n:Nat}{Q:D->Store->Prop}
end
section
variable {st:Store}{n:Nat}{Q:D->Store->Prop}
theorem zzv {ks:List (List Int)}{k:List Int}(h:st[n]?=some (.dT (aQ ks)))(hl:ks.length<=1000000)(q:Q .non (st.set n (.dT (aQ (aP ks k))))):WP (zpg [.ref n,aL k] st) Q:=WP.of (zzw h hl) q
theorem zpy {ks:List (List Int)}(h:st[n]?=some (.dT (aQ ks)))(hl:ks.length<=1000000)(q:Q (.lst (aJ (sortR ks))) st):WP (bSorted [.ref n] st) Q:=WP.of (zlo h hl) q
end
section
variable {st:Store}{n:Nat}{Q:D->Store->Prop}
end
end Dd
namespace K03
end K03
namespace K13
open PySem PyProof.Rows
theorem zus (a b:Nat):(a &&& b) / 2=a / 2 &&& b / 2:=Nat.and_div_two
theorem zur (a b:Nat):(a &&& b) % 2=(a % 2) * (b % 2):=by
 have q:=@Nat.and_mod_two_eq_one a b;rcases xdy a with h | h<;>rcases xdy b with h' | h'<;>rw[h,h'] at q ⊢<;>lia
noncomputable abbrev In (e y:Nat):Prop:=e &&& y=y
theorem zkp {a b:Nat}:In a b↔(In (a / 2) (b / 2)/\¬ (b % 2=1/\a % 2=0)):=K07.zqz a b
theorem In.le {e y:Nat}(h:In e y):y<=e:=by rw[← h];exact Nat.and_le_left
theorem zod (e:Nat):In e 0:=Nat.and_zero e
theorem zzq (e:Nat):In e e:=Nat.and_self e
theorem zzs (e x:Nat):In e (e &&& x):=by unfold In;rw[← Nat.and_assoc,Nat.and_self]
theorem zux:∀(e y:Nat),In e y->In e (e - y):=fun e=>by
 induction e using Nat.strongRecOn with
 | ind e ih =>
  intro y h;by_cases z:e=0
  ·subst z;rw[Nat.zero_sub];exact zod 0
  obtain⟨h1,h2⟩:=zkp.mp h;have i:=ih (e / 2) (by lia) (y / 2) h1;have l1:=h1.le;refine zkp.mpr ⟨?_,?_⟩
  ·rw[show(e - y) / 2=e / 2 - y / 2 by lia];exact i
  ·rintro⟨a,b⟩;lia
theorem zzr:∀(e d q:Nat),In e d->In e q->q < d->q<=e &&& (d - 1):=fun e=>by
 induction e using Nat.strongRecOn with
 | ind e ih =>
  intro d q hd hq lt;by_cases z:e=0
  ·subst z;have:=hd.le;lia
  obtain⟨d1,d2⟩:=zkp.mp hd;obtain⟨q1,q2⟩:=zkp.mp hq;have e1:=zus e (d - 1);have e2:=zur e (d - 1);rcases xdy d with c | c
  ·rw[show(d - 1) / 2=d / 2 - 1 by lia] at e1;rw[show(d - 1) % 2=1 by lia,Nat.mul_one] at e2;have i:=ih (e / 2) (by lia) (d / 2) (q / 2) d1 q1 (by lia);have:q % 2<=e % 2:=by lia
   lia
  ·rw[show(d - 1) / 2=d / 2 by lia,d1] at e1;lia
noncomputable def nxt (e j:Nat):Nat:=e - (e &&& (e - j - 1))
theorem zzb {e j:Nat}(h:j < e):j < nxt e j:=by
 have:=xga (@Nat.and_le_right e (e - (j+1))) e;rw[Nat.sub_sub_self h] at this;exact this
theorem zbeg (e j:Nat):nxt e j<=e:=xfr _ _
theorem zbeh (e j:Nat):In e (nxt e j):=zux e _ (zzs e _)
theorem zqu {e j m:Nat}(hj:In e j)(hm:In e m)(lt:j < m):nxt e j<=m:=by
 have l1:=hm.le;have:=zzr e (e - j) (e - m) (zux e j hj) (zux e m hm) (Nat.sub_lt_sub_left (xbg lt l1) lt);exact Nat.sub_le_of_le_add (Nat.add_comm _ m ▸ Nat.sub_le_iff_le_add.mp this)
theorem zza {e j:Nat}(h:j < e):Builtin.bitAnd ((j:Int) - (e:Int)) (e:Int)=(nxt e j:Nat):=by
 rw[bitAnd_np (by lia) (by lia)];have e1:(Builtin.bitNot ((j:Int) - (e:Int))).toNat=e - j - 1:=by
  unfold Builtin.bitNot;lia
 rw[e1,xgn];have:=@Nat.and_le_left e (e - j - 1);unfold nxt;lia
noncomputable def subL (e:Nat) (lo hi:Int) (n:Nat):List Nat:=(List.range n).filter fun x=>decide (e &&& x=x/\lo<=x/\(x:Int)<=hi)
theorem zew (e:Nat)(lo hi:Int)(n:Nat):subL e lo hi (n+1)=subL e lo hi n++(if e &&& n=n/\lo<=n/\(n:Int)<=hi then[n] else[]):=by
 unfold subL;rw[List.range_succ,xhe]
 congr 1
 by_cases c:e &&& n=n/\lo<=n/\(n:Int)<=hi
 ·rw[if_pos c];exact xcp (p:=fun x:Nat=>decide (e &&& x=x/\lo<=x/\(x:Int)<=hi)) (xcm c)
 ·rw[if_neg c];exact xco (p:=fun x:Nat=>decide (e &&& x=x/\lo<=x/\(x:Int)<=hi)) (by rw[xcj c];decide)
theorem zex {e:Nat}{lo hi:Int}{n:Nat}:∀(k:Nat),(∀x,n<=x->x < n+k->¬ (e &&& x=x/\lo<=x/\(x:Int)<=hi))->subL e lo hi (n+k)=subL e lo hi n
 | 0,_=>rfl
 | k+1,h=>by
  rw[← xia,zew,if_neg (h _ (by lia) (by lia)),xdz];exact zex k fun x h1 h2=>h x h1 (by lia)
theorem zgt (e:Nat)(lo hi:Int)(n:Nat):(subL e lo hi n).length<=n:=by
 have:=xdw (fun x=>decide (e &&& x=x/\lo<=x/\(x:Int)<=hi)) (List.range n);rw[xgo] at this;exact this
noncomputable def sharesL (e:Nat) (lo hi:Int):List Nat:=subL e lo hi (e+1)
theorem zdj {e j:Nat}{lo hi:Int}:j∈sharesL e lo hi↔(In e j/\lo<=j/\(j:Int)<=hi):=by
 unfold sharesL subL;rw[xfg,xdr,xdj];exact⟨fun h=>h.2,fun h=>⟨xko h.1.le,h⟩⟩
theorem zpw {e j:Nat}{lo hi:Int}(hj:In e j)(lt:j < e)(hh:(j:Int)<=hi):subL e lo hi (nxt e j)=subL e lo hi j++(if lo<=j then[j] else[]):=by
 have g:=zzb lt;obtain⟨k,hk⟩:∃k,nxt e j=(j+1)+k:=⟨nxt e j - (j+1),(xcg g).symm⟩
 rw[hk,zex k fun x h1 h2 c=>?_,zew]
 ·congr 1
  by_cases c:lo<=j
  ·rw[if_pos ⟨hj,c,hh⟩,if_pos c]
  ·rw[if_neg fun z=>c z.2.1,if_neg c]
 ·have:=zqu hj c.1 (by lia);lia
theorem ziw {e j:Nat}{lo hi:Int}(hj:In e j)(hh:hi < j):sharesL e lo hi=subL e lo hi j:=by
 have:=hj.le;obtain⟨k,hk⟩:∃k,e+1=j+k:=⟨e+1 - j,(xcg (xes this)).symm⟩
 unfold sharesL;rw[hk];exact zex k fun x h1 h2 c=>by lia
theorem zlr {e:Nat}{lo hi:Int}(hh:(e:Int)<=hi):sharesL e lo hi=subL e lo hi e++(if lo<=e then[e] else[]):=by
 unfold sharesL;rw[zew]
 congr 1
 by_cases c:lo<=e
 ·rw[if_pos ⟨zzq e,c,hh⟩,if_pos c]
 ·rw[if_neg fun z=>c z.2.1,if_neg c]
end K13
namespace Dd
open PySem L2 K13
theorem zmk {c:ST}{body:SS}{Q:Fl->Store->Prop}(I:Nat->DS->Store->Prop){k:Nat}{σ:DS}{st:Store}(h0:I k σ st)(hm:k < 1000000)
  (s:∀j σ st,I j σ st->WP (c σ st) (fun b st1=>if b=true then WP (body σ st1) (loopK (fun σ2 st2=>∃i,i < j/\I i σ2 st2) Q) else Q (.nx σ) st1)):WP (sWhile c body σ st) Q:=by
 have main:∀n j σ st,I j σ st->j < n->WP (whileF c body n σ st) Q:=by
  intro n
  induction n with
  | zero=>intro j σ st _ h;lia
  | succ n ih =>
   intro j σ st hI hlt;obtain⟨b,st1,e1,w⟩:=(s j σ st hI).get;unfold whileF;rw[e1];dsimp only[zcl];cases b with
   | false=>exact w
   | true =>
    rw[if_pos rfl] at w ⊢;obtain⟨fl,st2,e2,w⟩:=w.get;rw[e2];cases fl with
    | nx σ2=>obtain⟨i,hi,h⟩:=w;exact ih i σ2 st2 h (by lia)
    | ct σ2=>obtain⟨i,hi,h⟩:=w;exact ih i σ2 st2 h (by lia)
    | brk σ2=>exact w
    | ret v=>exact w
 exact main wCap k σ st h0 hm
noncomputable def dN (j:Nat):D:=.int (j:Int)
section
variable {st:Store}{n:Nat}{Q:D->Store->Prop}
theorem zqa {e:Nat}{lo hi:Int}(he:e<=100000)(k:∀g,Q (.lst ((sharesL e lo hi).map dN)) (st++g)):WP (zhr [.int e,.int lo,.int hi] st) Q:=by
 refine zlm rfl ?_;simp only[W,V];refine⟨small _ (by simp),?_⟩;have fin:∀(xs:List Nat) (v:Option D),xs=sharesL e lo hi->WP (sRet (eFz (aA 3)) [some (.int e),some (.int lo),some (.int hi),some (.ref st.length),v] (st++[.lst (xs.map dN)])) (retK Q):=fun xs v h=>by
  subst h;simp only[W,V,M];refine⟨_,_,rfl,by simp;rfl,?_⟩;have:=k [.dead]
  simpa using this
 refine zmk (fun m σ s=>∃j:Nat,m=e - j/\σ=[some (.int e),some (.int lo),some (.int hi),some (.ref st.length),some (.int j)]/\In e j/\s=st++[.lst ((subL e lo hi j).map dN)]) (k:=e) ⟨0,rfl,rfl,zod e,rfl⟩ (by lia) ?_;rintro m σ s ⟨j,rfl,rfl,hj,rfl⟩;simp only[W,V,Dd.N];have hle:=hj.le;split
 ·rename_i hh;unfold zgp;refine zcf (R:=fun fl s=>fl=.nx [some (.int e),some (.int lo),some (.int hi),some (.ref st.length),some (.int j)]/\s=st++[.lst ((subL e lo hi j++(if lo<=j then[j] else[])).map dN)]) ?_ ?_
  ·simp only[W,V,M,Dd.N];split
   ·rename_i c;have hlen:=zgt e lo hi j;refine⟨_,_,rfl,by simp;rfl,_,_,rfl,by simp;rfl,by rw[xbc];exact smallT _ (by lia),?_⟩;simp[dN,c]
   ·rename_i c;simp[c]
  ·rintro fl s ⟨rfl,rfl⟩;simp only[W,V,L];split
   ·rename_i c;have c':j=e:=by lia
    subst c';have:=fin (subL j lo hi j++(if lo<=j then[j] else[])) (some (.int j)) (zlr hh).symm;simp only[W,V] at this;exact this
   ·rename_i c;have lt:j < e:=by lia
    have g:=zzb lt;have g2:=zbeg e j;refine⟨trivial,trivial,e - nxt e j,by lia,nxt e j,rfl,?_,zbeh e j,?_⟩
    ·rw[zza lt]
    ·rw[zpw hj lt hh]
 ·rename_i hh;have:=fin (subL e lo hi j) (some (.int j)) (ziw hj (by lia)).symm;simp only[W,V] at this;exact this
end
end Dd
namespace Dd
open PySem L2
noncomputable abbrev RowI:=List Int
noncomputable def wtI:Int->RowI->Int
 | _,[]=>0
 | w,x::r=>w * x+wtI (2 * w+1) r
section
variable {st:Store}{Q:D->Store->Prop}
end
theorem zgs {l:RowI}{k:Nat}(h:k < l.length):l.take (k+1)=l.take k++[l.getD k 0]:=by
 rw[List.take_succ,xbt,xbf h]
 rfl
noncomputable def zeroB (l:RowI):Bool:=!l.any fun x=>!decide (x=0)
theorem zjx {l:RowI}:zeroB l=true↔∀x∈l,x=0:=by
 unfold zeroB;simp
theorem ztj {l:RowI}(h:∀x∈l,x=0):l.sum=0:=by
 induction l with
 | nil=>rfl
 | cons a l ih=>rw[xci,h a (by simp),ih fun x hx=>h x (xbl _ hx)];rfl
theorem nnS {l:RowI}(h:∀x∈l,0<=x):0<=l.sum:=by
 induction l with
 | nil=>exact Int.le_refl 0
 | cons a l ih =>
  have h1:=h a (by simp);have h2:=ih fun x hx=>h x (xbl _ hx)
  rw[xci];lia
theorem zwi {l:RowI}(hn:∀x∈l,0<=x)(h:l.sum=0):∀x∈l,x=0:=by
 induction l with
 | nil=>simp
 | cons a l ih =>
  have h1:=hn a (by simp);have h2:0<=l.sum:=nnS fun x hx=>hn x (xbl _ hx)
  rw[xci] at h;intro x hx;rcases xcc.mp hx with rfl | hx
  ·lia
  ·exact ih (fun x hx=>hn x (xbl _ hx)) (by lia) x hx
end Dd
namespace Dd
open PySem L2 K13
noncomputable abbrev Tr:=Int×Nat×RowI
noncomputable def stq (k:Nat) (l lo:Int) (t:Tr):List Tr:=(sharesL t.2.1 lo l).map fun x:Nat=>(t.1+(x:Int) * (2 * 2 ^ k - 1),t.2.1 - x,t.2.2++[l - (x:Int)])
noncomputable def parT (lo:Int->Int) (e:Nat) (l:RowI):Nat->List Tr
 | 0=>[(e,e,[])]
 | k+1=>(parT lo e l k).flatMap (stq k (l.getD k 0) (lo (l.getD k 0)))
theorem zqb (r:Nat)(lo l:Int):sharesL r lo l=(sharesL r (min lo 0) l).filter fun x:Nat=>decide (lo<=(x:Int)):=by
 unfold sharesL subL;rw[List.filter_filter]
 congr 1
 funext x
 rw[xek,xdt,xdj,xdj,xdj];constructor
 ·rintro⟨a,b,c⟩;exact⟨b,a,by lia,c⟩
 ·rintro⟨b,a,_,c⟩;exact⟨a,b,c⟩
theorem zxn (r:Nat)(lo l:Int)(h:lo<=0):sharesL r lo l=sharesL r 0 l:=by
 unfold sharesL subL
 congr 1
 funext x
 rw[xek,xdj,xdj];constructor
 ·rintro⟨a,b,c⟩;exact⟨a,by lia,c⟩
 ·rintro⟨a,b,c⟩;exact⟨a,by lia,c⟩
theorem zbhc (r:Nat)(lo l:Int):sharesL r lo l=(sharesL r 0 l).filter fun x:Nat=>decide (lo<=(x:Int)):=by
 rw[zqb,zxn r (min lo 0) l (by lia)]
section
variable {α β:Type}
theorem zgc (f:β->Nat)(S:α->List β):∀L:List α,((L.flatMap S).map f).sum=(L.map fun a=>((S a).map f).sum).sum
 | []=>rfl
 | a::L=>by rw[xhl,xds,xel,xbh,xci,zgc f S L]
theorem zfh (f:α->Nat)(p:α->Bool):∀L:List α,(∀x∈L,p x=false->f x=0)->((L.filter p).map f).sum=(L.map f).sum
 | [],_=>rfl
 | a::L,h=>by
  have ih:=zfh f p L fun x hx=>h x (xbl _ hx)
  cases c:p a with
  | true=>rw[xcp c,xbh,xbh,xci,xci,ih]
  | false=>rw[xco (by simp[c]),xbh,xci,ih,h a xbp c,xdp]
theorem zfg (f:α->Nat)(p:α->Bool):∀L:List α,((L.filter p).map f).sum<=(L.map f).sum
 | []=>xbd _
 | a::L=>by
  have ih:=zfg f p L;cases c:p a with
  | true=>rw[xcp c,xbh,xbh,xci,xci];lia
  | false=>rw[xco (by simp[c]),xbh,xci];lia
theorem zbhb (f g:α->Nat):∀L:List α,(∀x∈L,f x<=g x)->(L.map f).sum<=(L.map g).sum
 | [],_=>xbd _
 | a::L,h=>by
  have ih:=zbhb f g L fun x hx=>h x (xbl _ hx)
  have:=h a xbp;rw[xbh,xbh,xci,xci];lia
theorem zmu (f:α->Nat):∀L:List α,(∀x∈L,f x=0)->(L.map f).sum=0
 | [],_=>rfl
 | a::L,h=>by rw[xbh,xci,h a xbp,zmu f L fun x hx=>h x (xbl _ hx)]
theorem zxk (f:α->Nat):∀L:List α,(∀x∈L,1<=f x)->L.length<=(L.map f).sum
 | [],_=>xbd _
 | a::L,h=>by
  have ih:=zxk f L fun x hx=>h x (xbl _ hx)
  have:=h a xbp;rw[xbh,xbr,xci];lia
theorem zxj (f:α->Nat){x:α}:∀{L:List α},x∈L->f x<=(L.map f).sum
 | a::L,h=>by
  rw[xbh,xci];rcases xcc.mp h with rfl | h
  ·lia
  ·have:=zxj f h;lia
theorem zof (S:α->List β){c:Nat}:∀L:List α,(∀x∈L,(S x).length<=c)->(L.flatMap S).length<=L.length * c
 | [],_=>by simp
 | a::L,h=>by
  have ih:=zof S L fun x hx=>h x (xbl _ hx)
  have:=h a xbp;rw[xhl,xbo,xbr,xky];lia
end
structure TI (l:RowI) (e k:Nat) (t:Tr):Prop where
 le:Paired (fun x y:Int=>0<=x/\x<=y) t.2.2 (l.take k)
 rest:t.2.1<=e
 sm:t.2.2.sum+e=(l.take k).sum+t.2.1
theorem zbce {o l:RowI}(h:Paired (fun x y:Int=>0<=x/\x<=y) o l):∀y∈o,0<=y:=by
 induction h with
 | nil=>intro y hy;cases hy
 | cons a _ ih =>
  intro y hy;rcases xcc.mp hy with rfl | hy
  ·exact a.1
  ·exact ih y hy
theorem zbhy {o l:RowI}(h:Paired (fun x y:Int=>0<=x/\x<=y) o l):∀{w:Int},0<=w->wtI w o<=wtI w l:=by
 induction h with
 | nil=>intro w _;exact Int.le_refl _
 | cons a _ ih =>
  intro w hw;have h1:=ih (w:=2 * w+1) (by lia);have h2:=xkd a.2 hw;unfold wtI;lia
theorem zxf {l:RowI}{e k:Nat}{lo:Int}{t u:Tr}(hk:k < l.length)(h:TI l e k t)(hu:u∈stq k (l.getD k 0) lo t):TI l e (k+1) u:=by
 obtain⟨x,hx,rfl⟩:=xdk.mp hu;obtain⟨h1,h2,h3⟩:=zdj.mp hx;have h4:=h1.le;have h5:=h.rest;have h6:=h.sm;refine⟨?_,by show t.2.1 - x<=e;lia,?_⟩
 ·rw[zgs hk];exact Paired.snoc h.le ⟨by lia,by lia⟩
 ·rw[zgs hk];show(t.2.2++[l.getD k 0 - x]).sum+(e:Int)=(l.take k++[l.getD k 0]).sum+((t.2.1 - x:Nat):Int)
  rw[xel,xel];simp only[xci,xiq];lia
theorem zda {lo:Int->Int}{l:RowI}{e:Nat}:∀{k:Nat},k<=l.length->∀t∈parT lo e l k,TI l e k t
 | 0,_,t,ht=>by
  rw[xbw.mp ht];exact⟨by simpa using Paired.nil,xbd _,by simp⟩
 | k+1,hk,t,ht=>by
  obtain⟨u,hu,hm⟩:=xhy.mp ht;exact zxf hk (zda (by lia) u hu) hm
theorem znf {l:RowI}{e:Nat}{R:Int}:∀{k:Nat},k<=l.length->∀f:Tr->Nat,(∀t,(∀y∈t.2.2,0<=y)->R < t.2.2.sum->f t=0) ->
  ((parT (fun _=>0) e l k).map f).sum=((parT (fun x=>x - R) e l k).map f).sum
 | 0,_,f,_=>rfl
 | k+1,hk,f,hf=>by
  simp only[parT];rw[zgc,zgc];have cut:∀t:Tr,(∀y∈t.2.2,0<=y)->∀x∈sharesL t.2.1 0 (l.getD k 0),R < t.2.2.sum\/(x:Int) < l.getD k 0 - R->f (t.1+x * (2 * 2 ^ k - 1),t.2.1 - x,t.2.2++[l.getD k 0 - x])=0:=fun t nn x hx c=>by
   obtain⟨_,_,h3⟩:=zdj.mp hx;have ns:0<=t.2.2.sum:=nnS nn;refine hf _ (fun y hy=>?_) ?_
   ·rcases xce.mp hy with hy | hy
    ·exact nn y hy
    ·rw[xbw.mp hy];lia
   ·show R < (t.2.2++[l.getD k 0 - (x:Int)]).sum;rw[xel];simp only[xci,xiq];lia
  rw[znf (R:=R) (by lia) (fun t=>((stq k (l.getD k 0) 0 t).map f).sum) fun t nn hR=>?_]
  ·congr 1
   refine xfz fun t ht=>?_
   have I:=zda (by lia) t ht;unfold stq;rw[zbhc t.2.1 (l.getD k 0 - R),xde,xde];refine(zfh _ _ _ fun x hx c=>?_).symm;exact cut t (zbce I.le) x hx (.inr (by have:=xis c;lia))
  ·refine zmu _ _ fun u hu=>?_
   obtain⟨x,hx,rfl⟩:=xdk.mp hu;exact cut t nn x hx (.inl hR)
noncomputable def cN:RowI->Nat->Nat
 | [],_=>1
 | l::ls,r=>((sharesL r 0 l).map fun x=>cN ls (r - x)).sum
theorem zbbm:∀{l:RowI},(∀x∈l,0<=x)->∀r,1<=cN l r
 | [],_,_=>xbd _
 | a::l,h,r=>by
  have h0:0∈sharesL r 0 a:=zdj.mpr ⟨zod r,by lia,by have:=h a xbp;lia⟩;have ih:=zbbm (fun x hx=>h x (xbl _ hx)) (r - 0);unfold cN;exact xbb ih (zxj (fun x=>cN l (r - x)) h0)
theorem zfb {l:RowI}{k:Nat}(h:k < l.length):l.drop k=l.getD k 0::l.drop (k+1):=by
 rw[xfq h,xbt,xbf h];rfl
theorem zsh {lo:Int->Int}{l:RowI}{e:Nat}:∀{k:Nat},k<=l.length->((parT lo e l k).map fun t=>cN (l.drop k) t.2.1).sum<=cN l e
 | 0,_=>by simp[parT]
 | k+1,hk=>by
  refine xbb ?_ (zsh (lo:=lo) (k:=k) (by lia));simp only[parT];rw[zgc];refine zbhb _ _ _ fun t ht=>?_
  rw[zfb hk];unfold stq;simp only[cN];rw[zbhc,xde];exact zfg (fun x=>cN (l.drop (k+1)) (t.2.1 - x)) _ _
theorem zej {lo:Int->Int}{l:RowI}{e k:Nat}(hk:k<=l.length)(hn:∀x∈l,0<=x):(parT lo e l k).length<=cN l e :=
 xbb (zxk (fun t=>cN (l.drop k) t.2.1) _ fun t ht=>zbbm (fun x hx=>hn x (xft hx)) _) (zsh hk)
noncomputable abbrev Pp:=RowI×RowI
noncomputable def stL (e:Int) (p:Pp):List Pp:=(parT (fun _=>0) e.toNat p.2 p.2.length).map fun t=>(p.1++[t.1],t.2.2)
noncomputable def stD (e R:Int) (p:Pp):List Pp:=((parT (fun x=>x - R) e.toNat p.2 p.2.length).filter fun t=>decide (t.2.2.sum<=R)).map fun t=>(p.1++[t.1],t.2.2)
noncomputable def nW (b:RowI):RowI->Pp->Nat
 | [],p=>if p.1=b/\zeroB p.2=true then 1 else 0
 | e::es,p=>((stL e p).map (nW b es)).sum
theorem znn {b:RowI}:∀{es:RowI} {p:Pp},(∀e∈es,0<=e)->(∀y∈p.2,0<=y)->es.sum < p.2.sum->nW b es p=0
 | [],p,_,nn,h=>by
  unfold nW;rw[if_neg];rintro⟨_,z⟩;have:=ztj (zjx.mp z);simp at h;lia
 | e::es,p,he,nn,h=>by
  unfold nW;refine zmu _ _ fun q hq=>?_
  obtain⟨t,ht,rfl⟩:=xdk.mp hq;have I:=zda (xbd _) t ht;have h1:=I.sm;rw[xcn] at h1;have h2:=he e xbp;rw[xci] at h;refine znn (fun x hx=>he x (xbl _ hx)) (zbce I.le) ?_;show es.sum < t.2.2.sum;have h3:=I.rest;lia
theorem zzc {b:RowI}{e:Int}{es:RowI}{p:Pp}(he:∀e∈es,0<=e):((stD e es.sum p).map (nW b es)).sum=nW b (e::es) p:=by
 have key:=znf (l:=p.2) (e:=e.toNat) (R:=es.sum) (xbd _) (fun t=>nW b es (p.1++[t.1],t.2.2)) fun t nn h=>znn he nn h
 show _=((stL e p).map (nW b es)).sum;unfold stL stD;rw[xde,xde];show((List.filter _ _).map fun t:Tr=>nW b es (p.1++[t.1],t.2.2)).sum=((parT _ _ _ _).map fun t:Tr=>nW b es (p.1++[t.1],t.2.2)).sum;rw[key];refine zfh _ _ _ fun t ht c=>?_
 exact znn he (zbce (zda (xbd _) t ht).le) (show es.sum < t.2.2.sum by have:=xis c;lia)
noncomputable def flipG {α:Type} [DecidableEq α] (ks:List α) (k:α):List α:=if k∈ks then ks.filter (fun x=>decide (x≠k)) else ks++[k]
section
variable {α:Type}[DecidableEq α]
theorem zmg {ks:List α}{k:α}(h:ks.Nodup):(flipG ks k).Nodup:=by
 unfold flipG;split
 ·exact h.filter _
 ·rename_i hk;exact xje.mpr ⟨h,by simp,fun a ha b hb=>by rw[xbw.mp hb];rintro rfl;exact hk ha⟩
theorem zri {ks:List α}{k x:α}(h:x∈flipG ks k):x∈ks\/x=k:=by
 unfold flipG at h;split at h
 ·exact .inl (xfg.mp h).1
 ·rcases xce.mp h with h | h
  ·exact .inl h
  ·exact .inr (xbw.mp h)
theorem zrj (ks:List α)(k:α):(flipG ks k).length<=ks.length+1:=by
 unfold flipG;split
 ·exact xes (xdw _ _)
 ·simp
theorem zsj (f:α->Nat){k:α}:∀{ks:List α},ks.Nodup->k∈ks->((ks.filter fun x=>decide (x≠k)).map f).sum+f k=(ks.map f).sum
 | [],_,h=>by cases h
 | a::ks,nd,h=>by
  rw[xfh] at nd;by_cases c:a=k
  ·subst c;have e:(ks.filter fun x=>decide (x≠a))=ks:=xie.mpr fun x hx=>xcm fun z:x=a=>nd.1 (z ▸ hx)
   rw[xco (by simp),xbh,xci,e];lia
  ·have:=zsj f nd.2 ((xcc.mp h).resolve_left fun z=>c z.symm);rw[xcp (by simp[c]),xbh,xbh,xci,xci];lia
theorem zrh (f:α->Nat){ks:List α}{k:α}(nd:ks.Nodup):((flipG ks k).map f).sum % 2=((ks.map f).sum+f k) % 2:=by
 unfold flipG;split
 ·rename_i h;have:=zsj f nd h;lia
 ·rw[xds,xel];simp
noncomputable def oddG (l:List α):List α:=l.foldl flipG []
theorem zqr (l:List α)(x:α):oddG (l++[x])=flipG (oddG l) x:=by unfold oddG;rw[List.foldl_append];rfl
theorem zoe (f:α->Nat):∀(l ks:List α),ks.Nodup->(l.foldl flipG ks).Nodup/\((l.foldl flipG ks).map f).sum % 2=((ks.map f).sum+(l.map f).sum) % 2/\(∀x∈l.foldl flipG ks,x∈ks\/x∈l)/\(l.foldl flipG ks).length<=ks.length+l.length
 | [],ks,h=>⟨h,by simp,fun x hx=>.inl hx,xbd _⟩
 | a::l,ks,h=>by
  obtain⟨h1,h2,h3,h4⟩:=zoe f l (flipG ks a) (zmg h);have h5:=zrh f (k:=a) h;have h6:=zrj ks a;rw[xjx,xbh,xci,xbr];refine⟨h1,by lia,fun x hx=>?_,by lia⟩;rcases h3 x hx with y | y
  ·rcases zri y with z | z
   ·exact .inl z
   ·exact .inr (by rw[z];exact xbp)
  ·exact .inr (xbl _ y)
theorem zjf (f:α->Nat)(l:List α):(oddG l).Nodup/\((oddG l).map f).sum % 2=(l.map f).sum % 2/\(∀x∈oddG l,x∈l)/\(oddG l).length<=l.length:=by
 obtain⟨h1,h2,h3,h4⟩:=zoe f l [] xgc;exact⟨h1,by unfold oddG;simpa using h2,fun x hx=>(h3 x hx).resolve_left (by simp),by unfold oddG;simpa using h4⟩
theorem zje (l:List α):(oddG l).length<=l.length:=(zjf (fun _=>0) l).2.2.2
end
noncomputable def lawI (r pr:RowI):Nat->List Pp
 | 0=>[([],r)]
 | i+1=>(lawI r pr i).flatMap (stL (pr.getD i 0))
noncomputable def devI (r pr:RowI):Nat->List Pp
 | 0=>[([],r)]
 | i+1=>oddG ((devI r pr i).flatMap (stD (pr.getD i 0) (pr.drop (i+1)).sum))
theorem znv {r pr b:RowI}:∀{i:Nat},i<=pr.length->((lawI r pr i).map (nW b (pr.drop i))).sum=nW b pr ([],r)
 | 0,_=>by simp[lawI]
 | i+1,h=>by
  rw[← znv (i:=i) (by lia),lawI,zgc,zfb h]
  rfl
theorem zop {r pr b:RowI}(he:∀e∈pr,0<=e):∀{i:Nat},i<=pr.length->((devI r pr i).map (nW b (pr.drop i))).sum % 2=nW b pr ([],r) % 2
 | 0,_=>by simp[devI]
 | i+1,h=>by
  rw[← zop he (i:=i) (by lia),devI,(zjf _ _).2.1,zgc,zfb h]
  congr 2
  refine xfz fun p _=>?_
  exact zzc fun e h=>he e (xft h)
structure Lw (m:Int) (l:RowI):Prop where
 len:l.length<=4
 nn:∀x∈l,0<=x
 wt:wtI 1 l<=m
theorem Lw.of {m:Int}{l:RowI}{e:Nat}{t:Tr}(h:Lw m l)(I:TI l e l.length t):Lw m t.2.2:=by
 have hl:=I.le;rw[xcn] at hl;exact⟨by rw[xey hl];exact h.len,zbce hl,Int.le_trans (zbhy hl (by decide)) h.wt⟩
theorem zxg {m e:Int}{p q:Pp}(h:Lw m p.2)(hq:q∈stL e p):Lw m q.2/\q.1.length=p.1.length+1:=by
 obtain⟨t,ht,rfl⟩:=xdk.mp hq;exact⟨h.of (zda (xbd _) t ht),by simp⟩
theorem zxi {m e R:Int}{p q:Pp}(h:Lw m p.2)(hq:q∈stD e R p):Lw m q.2/\q.1.length=p.1.length+1/\q.2.sum<=R:=by
 obtain⟨t,ht,rfl⟩:=xdk.mp hq;obtain⟨h1,h2⟩:=xfg.mp ht;exact⟨h.of (zda (xbd _) t h1),by simp,xeu h2⟩
theorem zhc {m:Int}{r pr:RowI}(h:Lw m r):∀{i:Nat} {p:Pp},p∈lawI r pr i->Lw m p.2/\p.1.length=i
 | 0,p,hp=>by rw[xbw.mp hp];exact⟨h,rfl⟩
 | i+1,p,hp=>by
  obtain⟨q,hq,hm⟩:=xhy.mp hp;obtain⟨h1,h2⟩:=zhc h hq;obtain⟨h3,h4⟩:=zxg h1 hm;exact⟨h3,by lia⟩
theorem zfr {m:Int}{r pr:RowI}(h:Lw m r):∀{i:Nat} {p:Pp},p∈devI r pr i->Lw m p.2/\p.1.length=i/\(0 < i->p.2.sum<=(pr.drop i).sum)
 | 0,p,hp=>by rw[xbw.mp hp];exact⟨h,rfl,fun z=>absurd z (by lia)⟩
 | i+1,p,hp=>by
  obtain⟨q,hq,hm⟩:=xhy.mp ((zjf (fun _=>0) _).2.2.1 p hp);obtain⟨h1,h2,_⟩:=zfr h hq;obtain⟨h3,h4,h5⟩:=zxi h1 hm;exact⟨h3,by lia,fun _=>h5⟩
structure Bw (m:Int) (pr:RowI) (B:Nat->Nat):Prop where
 one:1<=B 0
 step:∀i l,i < pr.length->Lw m l->B i * cN l (pr.getD i 0).toNat<=B (i+1)
 few:∀i,i<=pr.length->B i<=60000
 e0:∀e∈pr,0<=e
 e1:∀e∈pr,e<=1000
 len:pr.length<=10
 pos:0 < pr.length
 least:∀l,Lw m l->∀i,i < pr.length->cN l (pr.getD i 0).toNat<=60000
theorem zjm {m:Int}{pr:RowI}{B:Nat->Nat}(h:Bw m pr B){i:Nat}(hi:i < pr.length)(S:Pp->List Pp)(hS:∀p,Lw m p.2->(S p).length<=cN p.2 (pr.getD i 0).toNat){L:List Pp}(hL:∀p∈L,Lw m p.2)(hl:L.length<=B i):(L.flatMap S).length<=B (i+1):=by
 have:∀K:List Pp,(∀p∈K,p∈L)->(K.flatMap S).length * B i<=K.length * B (i+1):=fun K=>by
  induction K with
  | nil=>intro _;simp
  | cons a K ih =>
   intro hK;have h1:=ih fun p hp=>hK p (xbl _ hp)
   have ha:=hL a (hK a xbp);have h2:=xfc (B i) (hS a ha);have h3:=h.step i a.2 hi ha;rw[Nat.mul_comm] at h3;rw[xhl,xbo,xbr,Nat.add_mul,xky];lia
 have h1:=this L fun p hp=>hp
 rcases xin (B i) with z | z
 ·have:L=[]:=xkc (by lia);subst this;exact xed _
 ·have h2:=xfc (B (i+1)) hl;have h3:(L.flatMap S).length * B i<=B (i+1) * B i:=by
   rw[Nat.mul_comm (B (i+1))];exact xbb h1 h2
  exact Nat.le_of_mul_le_mul_right h3 z
theorem zsd {m e R:Int}{p:Pp}(h:Lw m p.2):(stD e R p).length<=cN p.2 e.toNat:=by
 unfold stD;rw[xbc];exact xbb (xdw _ _) (zej (xbd _) h.nn)
theorem zxh {m e:Int}{p:Pp}(h:Lw m p.2):(stL e p).length<=cN p.2 e.toNat:=by
 unfold stL;rw[xbc];exact zej (xbd _) h.nn
theorem Bw.law {m:Int}{r pr:RowI}{B:Nat->Nat}(h:Bw m pr B)(hr:Lw m r):∀{i:Nat},i<=pr.length->(lawI r pr i).length<=B i
 | 0,_=>h.one
 | i+1,hi=>zjm h hi _ (fun p hp=>zxh hp) (fun p hp=>(zhc hr hp).1) (h.law hr (by lia))
theorem Bw.dev {m:Int}{r pr:RowI}{B:Nat->Nat}(h:Bw m pr B)(hr:Lw m r):∀{i:Nat},i<=pr.length->(devI r pr i).length<=B i
 | 0,_=>h.one
 | i+1,hi=>xbb (zje _) (zjm h hi _ (fun p hp=>zsd hp) (fun p hp=>(zfr hr hp).1) (h.dev hr (by lia)))
noncomputable def lawH (r pr:RowI):List RowI:=((lawI r pr pr.length).filter fun p=>zeroB p.2).map (·.1)
noncomputable def devH (r pr:RowI):List RowI:=(devI r pr pr.length).map (·.1)
theorem zfu {b:RowI}:∀L:List Pp,((L.filter fun p=>zeroB p.2).map (·.1)).count b=(L.map (nW b [])).sum
 | []=>rfl
 | p::L=>by
  rw[xbh,xci,← zfu L];unfold nW;cases c:zeroB p.2 with
  | true =>
   rw[xcp (by exact c),xbh,List.count_cons];by_cases e:p.1=b
   ·rw[if_pos (show(p.1==b)=true by simp[e]),if_pos ⟨e,rfl⟩];lia
   ·rw[if_neg (show ¬ (p.1==b)=true by simp[e]),if_neg fun z=>e z.1];lia
  | false=>rw[xco (by simp[c]),if_neg (fun z=>by cases z.2)];lia
theorem zbar {m:Int}{r pr:RowI}{B:Nat->Nat}(h:Bw m pr B)(hr:Lw m r)(b:RowI):(devH r pr).count b % 2=(lawH r pr).count b % 2:=by
 unfold devH lawH;rw[zfu];have h1:=znv (r:=r) (pr:=pr) (b:=b) (xbd _);have h2:=zop (r:=r) (pr:=pr) (b:=b) h.e0 (xbd _);rw[xkx] at h1 h2;rw[h1,← h2,← zfu,xie.mpr fun p hp=>?_];obtain⟨g1,g2,g3⟩:=zfr hr hp;have g4:=g3 h.pos;rw[xkx] at g4;exact zjx.mpr (zwi g1.nn (Int.le_antisymm g4 (nnS g1.nn)))
theorem ziz {α:Type}{f g:α->List RowI}{b:RowI}:∀{L:List α},(∀a∈L,(f a).count b % 2=(g a).count b % 2)->(L.flatMap f).count b % 2=(L.flatMap g).count b % 2
 | [],_=>rfl
 | a::L,h=>by
  have h1:=h a xbp;have h2:=ziz (L:=L) fun x hx=>h x (xbl _ hx)
  rw[xhl,xhl,xgp,xgp];lia
end Dd
namespace Dd
open PySem L2
section
variable {st:Store}{k:Nat}{d:D}{Q:D->Store->Prop}
end
section
variable {st:Store}{n:Nat}{Q:D->Store->Prop}
theorem zxy {p:Nat}{σ:DS}{s:Store}{x:D}{ys:List D}{i:Nat}(hi:σ[i]?=some (some (.ref p)))(h:s[p]?=some (.lst (x::ys))):ePopZ (aA i) (aB (eC (.int 0)) aC) σ s=.ok x (s.set p (.lst ys)):=by
 have e1:aA i σ s=.ok (.ref p) s:=by unfold aA;rw[hi]
 unfold ePopZ;rw[e1]
 show(match s[p]? with
  | some (.lst _)=>Res.bind (aB (eC (.int 0)) aC σ s) _
  | _=>.stuck)=_
 rw[h]
 show(match [D.int 0],s[p]? with
  | [.int 0],some (.lst (y::zs))=>Res.ok y (s.set p (.lst zs))
  | _,_=>.stuck)=_
 rw[h]
 rfl
end
end Dd
namespace K37
end K37
namespace Dd
open PySem L2 K13
section
variable {st:Store}{n:Nat}{Q:D->Store->Prop}
theorem zdu (o o':O)(g:Store):(st++o::g).set st.length o'=st++o'::g:=by simp
theorem zbq (o:O)(g:Store):(st++o::g)[st.length]?=some o:=by simp
theorem zzh {α:Type}{f:α->D}{l:List α}{i:Nat}{x:D}(h:(l.map f)[i]?=some x):∃a,l[i]?=some a/\x=f a:=by
 rw[xcb] at h;obtain⟨a,h1,h2⟩:=xcq.mp h;exact⟨a,h1,h2.symm⟩
end
section
variable {st:Store}{n:Nat}{Q:D->Store->Prop}
end
end Dd
namespace K13
end K13
namespace Dd
open PySem L2 K13
theorem zjy {f:SE}{g:SA}{σ:DS}{st:Store}{Q:D->Store->Prop}:WP (eExtend f g σ st) Q=WP (f σ st) (fun x st1=>∃n xs0,x=.ref n/\st1[n]?=some (.lst xs0)/\WP (g σ st1) (fun ys st2=>∃y xs zs,ys=[y]/\st2[n]?=some (.lst xs)/\asL st2 y=some zs/\xs.length+zs.length<=sizeLine/\Q .non (st2.set n (.lst (xs++zs))))):=by
 rw[zrk,ze]
 congr
 funext x st1
 apply propext;constructor
 ·intro q;split at q
  ·rename_i n xs0 e;rw[ze] at q;have e':st1[n]?=some (.lst xs0):=by
    unfold asL at e;dsimp only at e;split at e
    ·cases e;assumption
    ·cases e
   refine⟨n,xs0,rfl,e',q.mono fun ys st2 h=>?_⟩;split at h
   ·split at h
    ·split at h
     ·exact⟨_,_,_,rfl,by assumption,by assumption,by assumption,h⟩
     ·exact h.elim
    ·exact h.elim
   ·exact h.elim
  ·exact q.elim
 ·rintro⟨n,xs0,rfl,e,q⟩;rw[zgo e];dsimp only;rw[ze];refine q.mono fun ys st2 h=>?_
  obtain⟨y,xs,zs,rfl,e2,e3,hl,h⟩:=h;rw[e2];dsimp only;rw[e3];dsimp only;rw[if_pos hl];exact h
section
variable {st:Store}{n:Nat}{Q:D->Store->Prop}
end
end Dd
namespace Dd
open PySem L2
section
variable {st:Store}{n:Nat}{Q:D->Store->Prop}
theorem _root_.List.set_getElem_self' {α:Type}{s:List α}{m:Nat}{x:α}(h:s[m]?=some x):s.set m x=s:=by
 obtain⟨hm,rfl⟩:=xbm.mp h;exact List.set_getElem_self hm
noncomputable def prD (p:Int×RowI):D:=.tup [.int p.1,aL p.2]
theorem ztk {α:Type}{a b:List α}{x y:α}:(a++(b++(x::[]))).set (a++b).length y=a++(b++(y::[])):=by
 rw[← xbq,List.set_append_right _ _ (xbd _),xil,← xbq]
 rfl
noncomputable def paD (p:RowI×RowI):D:=.tup [aL p.1,aL p.2]
theorem zsi {l:List (RowI×RowI)}{i:Nat}{y:D}(h:(l.map paD)[i]?=some y):∃p,l[i]?=some p/\y=paD p:=by
 rw[xcb] at h;cases e:l[i]? with
 | none=>rw[e] at h;cases h
 | some p=>rw[e] at h;exact⟨p,rfl,(xcd h).symm⟩
end
end Dd
namespace K39
end K39
namespace Dd
open PySem L2 K13
noncomputable def trQ (t:Tr):D:=.tup [.int t.1,.int (t.2.1:Int),aL t.2.2]
section
variable {st:Store}{n:Nat}{Q:D->Store->Prop}
theorem zwa {S0 S2:Option D}{l o:RowI}{k m r x:Nat}{b:Int}{acc:List Tr}{s:Store}{R:Fl->Store->Prop}(hk:k < l.length)(hk4:l.length<=4)(hr:o.length<=4)(hx:x<=r)(hr1:r<=1000)
  (hs:s[m]?=some (.lst (acc.map trQ)))(ha:acc.length<=70000)
  (q:R (.nx [S0,some (aL l),S2,some (.int k),some (.ref m),some (.int b),some (.int r),some (aL o),some (.int x)]) (s.set m (.lst ((acc++if r &&& x=x then[(b+(x:Int) * (2 * 2 ^ k - 1),r - x,o++[l.getD k 0 - (x:Int)])] else[]).map trQ)))) :
  WP (zce [S0,some (aL l),S2,some (.int k),some (.ref m),some (.int b),some (.int r),some (aL o),some (.int x)] s) R:=by
 have ix:∀s:Store,oIx (aL l) (.int k) s=.ok (.int (l.getD k 0)) s:=fun s=>zhy rfl (zli (j:=k) (xs:=l.map D.int) (by rw[xcb,xbf hk,xbt,xbf hk];rfl))
 have cp:CPow 2 (k:Int):=⟨by lia,by lia,by decide⟩
 unfold zce;simp only[W,V,M,Dd.N];by_cases c:r &&& x=x
 ·have hb:Builtin.bitAnd (r:Int) (x:Int)=(x:Int):=by rw[K07.zij,c]
  rw[if_pos hb];rw[if_pos c] at q;refine⟨_,_,rfl,hs,cp,?_,WP.of (ix s) ?_⟩
  ·have h4:k=0\/k=1\/k=2\/k=3:=by lia
   refine .inl ⟨by lia,by lia⟩
  simp only[W,V,M,Dd.N];refine⟨by show 1<=sizeLine;decide,by rw[xbc];exact small _ (by show _+1<=_;lia),by show 3<=sizeLine;decide,_,_,rfl,hs,by rw[xbc];exact smallT _ (by lia),?_⟩;have e:(acc.map trQ)++[D.tup [D.int (b+(x:Int) * (2 * 2 ^ (k:Int).toNat - 1)),D.int ((r:Int) - (x:Int)),D.tup (o.map D.int++[D.int (l.getD k 0 - (x:Int))])]]=(acc++[(b+(x:Int) * (2 * 2 ^ k - 1),r - x,o++[l.getD k 0 - (x:Int)])]).map trQ:=by
   rw[xds,xgn];unfold trQ aL;simp;lia
  rw[e];exact q
 ·have hb:¬ Builtin.bitAnd (r:Int) (x:Int)=(x:Int):=fun z=>c (by rw[K07.zij] at z;lia)
  rw[if_neg hb];rw[if_neg c,xdz,List.set_getElem_self' hs] at q;exact q
theorem zmr {r:Nat}{l:Int}{N:Nat}(hl:0<=l)(h:(N:Int)=if l < (r:Int) then l else r):subL r 0 l (N+1)=sharesL r 0 l:=by
 unfold sharesL;by_cases c:l < (r:Int)
 ·rw[if_pos c] at h;obtain⟨k,hk⟩:∃k,r+1=(N+1)+k:=⟨r - N,by lia⟩
  rw[hk];exact(zex k fun x h1 h2 z=>by lia).symm
 ·rw[if_neg c] at h;have:N=r:=by lia
  rw[this]
theorem ztf {S0 S2:Option D}{l:RowI}{k m:Nat}{p:Tr}{acc:List Tr}{v8:Option D}{s:Store}{R:Fl->Store->Prop}(hk:k < l.length)(hk4:l.length<=4)(hl:0<=l.getD k 0)(hr:p.2.2.length<=4)(hr1:p.2.1<=1000)
  (hs:s[m]?=some (.lst (acc.map trQ)))(ha:acc.length<=60000)
  (q:∀w8,R (.nx [S0,some (aL l),S2,some (.int k),some (.ref m),some (.int p.1),some (.int (p.2.1:Int)),some (aL p.2.2),w8]) (s.set m (.lst ((acc++stq k (l.getD k 0) 0 p).map trQ)))) :
  WP (zcd [S0,some (aL l),S2,some (.int k),some (.ref m),some (.int p.1),some (.int (p.2.1:Int)),some (aL p.2.2),v8] s) R:=by
 have ix:∀s:Store,oIx (aL l) (.int k) s=.ok (.int (l.getD k 0)) s:=fun s=>zhy rfl (zli (j:=k) (xs:=l.map D.int) (by rw[xcb,xbf hk,xbt,xbf hk];rfl))
 have hm:m < s.length:=zw hs;unfold zcd;simp only[W,V];refine WP.of (ix s) ?_;simp only[W,V,Dd.N];obtain⟨N,hN⟩:∃N:Nat,(N:Int)=if l.getD k 0 < (p.2.1:Int) then l.getD k 0 else(p.2.1:Int):=⟨(if l.getD k 0 < (p.2.1:Int) then l.getD k 0 else(p.2.1:Int)).toNat,by split<;>lia⟩
 have hNr:N<=p.2.1:=by split at hN<;>lia
 have hNl:(N:Int)<=l.getD k 0:=by split at hN<;>lia
 rw[← hN];refine⟨rngN (by lia) (by lia),?_⟩;refine zcg (fun i σ s'=>(∃w8,σ=[S0,some (aL l),S2,some (.int k),some (.ref m),some (.int p.1),some (.int (p.2.1:Int)),some (aL p.2.2),w8])/\s'=s.set m (.lst ((acc++(subL p.2.1 0 (l.getD k 0) i).map fun x:Nat=>(p.1+(x:Int) * (2 * 2 ^ k - 1),p.2.1 - x,p.2.2++[l.getD k 0 - (x:Int)])).map trQ))) ⟨⟨_,rfl⟩,?_⟩ ?_ ?_
 ·rw[show subL p.2.1 0 (l.getD k 0) 0=[] from rfl,xik,xdz];exact(List.set_getElem_self' hs).symm
 ·rintro i x σ s' hx ⟨⟨w8,rfl⟩,rfl⟩;obtain⟨hi,rfl⟩:=zgd hx;refine⟨_,rfl,?_⟩;have hi:i<=N:=by lia
  have hsl:=zgt p.2.1 0 (l.getD k 0) i;rw[xio];refine zwa (o:=p.2.2) (r:=p.2.1) (x:=i) (b:=p.1) hk hk4 hr (by lia) hr1 (zep hm) (by rw[xbo,xbc];lia) ?_;simp only[L];refine⟨⟨_,rfl⟩,?_⟩;rw[List.set_set,zew]
  congr 3
  rw[xds,xbq]
  congr 2
  by_cases c:p.2.1 &&& i=i
  ·rw[if_pos c,if_pos ⟨c,by lia,by lia⟩];rfl
  ·rw[if_neg c,if_neg fun z=>c z.1];rfl
 ·rintro σ s' ⟨⟨w8,rfl⟩,rfl⟩;rw[zbp,show((N:Int)+1).toNat=N+1 by lia,zmr hl hN];exact q _
theorem zwz {l:List Tr}{i:Nat}{y:D}(h:(l.map trQ)[i]?=some y):∃p,l[i]?=some p/\y=trQ p:=by
 rw[xcb] at h;cases e:l[i]? with
 | none=>rw[e] at h;cases h
 | some p=>rw[e] at h;exact⟨p,rfl,(xcd h).symm⟩
theorem zev {α β:Type}(S:α->List β)(L:List α)(j:Nat):((L.take j).flatMap S).length<=(L.flatMap S).length:=by
 have:L.flatMap S=(L.take j).flatMap S++(L.drop j).flatMap S:=by rw[← xeh,xdv]
 rw[this,xbo];lia
theorem zqm {l:RowI}{e:Nat}{a1 b1:D}(he:a1=.int (e:Int))(hb1:b1=aL l)(hl:l.length<=4)(hn:∀x∈l,0<=x)(he1:e<=1000)(hc:cN l e<=60000)(k:∀g,Q (.lst ((parT (fun _=>0) e l l.length).map fun t=>prD (t.1,t.2.2))) (st++g)):WP (zcs [a1,b1] st) Q:=by
 refine zlm rfl ?_;subst he hb1;simp only[W,V];refine⟨by decide,by show 3<=sizeLine;decide,by show 1<=sizeLine;decide,?_⟩;rw[show((l.map D.int).length:Int)=(l.length:Int) by rw[xbc]];refine⟨_,rfl,rngN (by lia) (by lia),?_⟩;have pl:∀i,i<=l.length->(parT (fun _=>0) e l i).length<=60000:=fun i hi=>xbb (zej hi hn) hc
 refine zcg (fun i σ s=>(∃v3 v4 v5 v6 v7 v8:Option D,σ=[some (.int (e:Int)),some (aL l),some (.lst ((parT (fun _=>0) e l i).map trQ)),v3,v4,v5,v6,v7,v8])/\∃g,s=st++g) ⟨⟨_,_,_,_,_,_,rfl⟩,[],by simp⟩ ?_ ?_
 ·rintro i x σ s hx ⟨⟨v3,v4,v5,v6,v7,v8,rfl⟩,g,rfl⟩;obtain⟨hi,rfl⟩:=zgd hx;have hi:i < l.length:=by lia
  have hv:0<=l.getD i 0:=by
   rw[xbt,xbf hi];exact hn _ (xee hi)
  refine⟨_,rfl,?_⟩;unfold zdp;simp only[W,V,Dd.N];refine⟨by decide,?_⟩;refine zcg (fun j σ s=>(∃v5 v6 v7 v8:Option D,σ=[some (.int (e:Int)),some (aL l),some (.lst ((parT (fun _=>0) e l i).map trQ)),some (.int i),some (.ref (st++g).length),v5,v6,v7,v8])/\s=(st++g)++(.lst ((((parT (fun _=>0) e l i).take j).flatMap (stq i (l.getD i 0) 0)).map trQ)::[])) ⟨⟨_,_,_,_,by rw[xio]⟩,rfl⟩ ?_ ?_
  ·rintro j y σ s hy ⟨⟨w5,w6,w7,w8,rfl⟩,rfl⟩;obtain⟨p,hp,rfl⟩:=zwz hy;have I:=zda (by lia) p (xby hp);refine⟨_,rfl,?_⟩;have h1:=xey I.le;rw[xct] at h1;have h2:=I.rest;refine ztf (p:=p) (acc:=((parT (fun _=>0) e l i).take j).flatMap (stq i (l.getD i 0) 0)) hi hl hv (by lia) (by lia) (zbq _ _) (xbb (zev _ _ _) (pl (i+1) hi)) fun w=>?_
   simp only[L];refine⟨⟨_,_,_,_,rfl⟩,?_⟩;rw[zdu,zo hp,xeh];simp
  ·rintro σ s ⟨⟨w5,w6,w7,w8,rfl⟩,rfl⟩;rw[xbc,xcn,show(parT (fun _=>0) e l i).flatMap (stq i (l.getD i 0) 0)=parT (fun _=>0) e l (i+1) from rfl];simp only[W,V,M,L];exact⟨_,_,rfl,zbq _ _,⟨_,_,_,_,_,_,rfl⟩,_,by rw[xbq,ztk]⟩
 ·rintro σ s ⟨⟨v3,v4,v5,v6,v7,v8,rfl⟩,g,rfl⟩;have el:(rng 0 (l.length:Int).toNat).length=l.length:=by rw[zbp];simp
  rw[el];simp only[W,V,Dd.N];have hT:=pl l.length (xbd _);refine⟨by rw[xbc];exact small _ (by lia),?_⟩;refine zml (as:=parT (fun _=>0) e l l.length) (fun σ=>∃a b c,σ=[a,b,c]) (fun _=>true) (fun p=>prD (p.1,p.2.2)) trQ ⟨_,_,_,rfl⟩ ?_ ?_
  ·rintro p hp σ ⟨a,b,c,rfl⟩;refine⟨_,rfl,⟨_,_,_,rfl⟩,by simp only[W,xla],fun _=>?_⟩;simp only[W,V];exact⟨by show 2<=sizeLine;decide,trivial,rfl⟩
  ·rw[zhh];exact k g
theorem znr {S0 S1 S2 S3 S4 v7 v8 v9:Option D}{ps:List Pp}{s:Store}{R:Fl->Store->Prop}{e m:Int}(he0:0<=e)(he1:e<=1000)(hp:∀p∈ps,Lw m p.2/\p.1.length<=20)(hc:∀l,Lw m l->cN l e.toNat<=60000)(hl:ps.length<=60000)(hf:(ps.flatMap (stL e)).length<=60000)
  (q:∀w7 w8 w9 g,R (.nx [S0,S1,S2,S3,S4,some (.lst ((ps.flatMap (stL e)).map paD)),some (.int e),w7,w8,w9]) (s++g)) :
  WP (zbd [S0,S1,S2,S3,S4,some (.lst (ps.map paD)),some (.int e),v7,v8,v9] s) R:=by
 unfold zbd;simp only[W,V,Dd.N];refine⟨by decide,?_⟩;have tl:∀i,((ps.take i).flatMap (stL e)).length<=60000:=fun i=>xbb (zev _ _ _) hf
 refine zcg (fun j σ s'=>(∃w8 w9,σ=[S0,S1,S2,S3,S4,some (.lst (ps.map paD)),some (.int e),some (.ref s.length),w8,w9])/\∃g,s'=s++(.lst (((ps.take j).flatMap (stL e)).map paD)::g)) ⟨⟨_,_,rfl⟩,[],rfl⟩ ?_ ?_
 ·rintro j y σ s' hy ⟨⟨w8,w9,rfl⟩,g,rfl⟩;obtain⟨p,hp',rfl⟩:=zsi hy;have hm:=xby hp';refine⟨_,rfl,?_⟩;unfold zbv;simp only[W,V,Dd.N,zjy];refine⟨_,_,rfl,zbq _ _,?_⟩;have h3:=(hp p hm).1;generalize hbb:aL p.2=bb;generalize haa:D.int e=aa;refine zqm (e:=e.toNat) (by rw[← haa];congr 1;lia) hbb.symm h3.len h3.nn (by lia) (hc _ h3) fun g2=>?_
  subst haa;have h4:(parT (fun _=>0) e.toNat p.2 p.2.length).length<=60000:=xbb (zej (xbd _) h3.nn) (hc _ h3);refine⟨_,rfl,by rw[xbc];exact small _ (by lia),?_⟩;refine zml (as:=parT (fun _=>0) e.toNat p.2 p.2.length) (fun σ=>∃a b,σ=[a,b,some (aL p.1)]) (fun _=>true) (fun t=>paD (p.1++[t.1],t.2.2)) (fun t=>prD (t.1,t.2.2)) ⟨_,_,rfl⟩ ?_ ?_
  ·rintro q' hq σ ⟨a,b,rfl⟩;refine⟨_,rfl,⟨_,_,rfl⟩,by simp only[W,xla],fun _=>?_⟩;simp only[W,V];have h5:=(hp p hm).2;refine⟨by show 1<=sizeLine;decide,by rw[xbc];exact small _ (by show _+1<=_;lia),by show 2<=sizeLine;decide,trivial,?_⟩;unfold paD aL;simp
  ·rw[zhh,xbq,xfm];refine⟨_,_,_,rfl,zbq _ _,rfl,?_,?_⟩
   ·rw[xbc,xbc];have:=tl j;exact small _ (by lia)
   ·simp only[L];refine⟨⟨_,_,rfl⟩,g++g2,?_⟩;rw[zdu,zo hp',xeh,xds];simp[stL]
 ·rintro σ s' ⟨⟨w8,w9,rfl⟩,g,rfl⟩;rw[xbc,xcn];simp only[W,V,M];refine⟨_,_,rfl,zbq _ _,?_⟩;rw[zdu];exact q _ _ _ _
theorem zhg {l:RowI}{i:Nat}(h:i < l.length):l.getD i 0∈l:=by
 rw[xbt,xbf h];exact xee h
theorem zxp {S0 S1 v5 v6 v7 v8 v9:Option D}{m:Int}{r pr:RowI}{B:Nat->Nat}{acc:List RowI}{s g0:Store}{R:Fl->Store->Prop}(hB:Bw m pr B)(hr:Lw m r)(ha:acc.length<=900000)
  (q:∀w5 w6 w7 w8 w9 g,R (.nx [S0,S1,some (.ref s.length),some (aL r),some (aL pr),w5,w6,w7,w8,w9]) (s++(.lst (aJ (acc++lawH r pr))::g))) :
  WP (zbc [S0,S1,some (.ref s.length),some (aL r),some (aL pr),v5,v6,v7,v8,v9] (s++(.lst (aJ acc)::g0))) R:=by
 unfold zbc;refine zcf (R:=fun fl s'=>fl=.nx [S0,S1,some (.ref s.length),some (aL r),some (aL pr),some (.lst ((lawI r pr 0).map paD)),v6,v7,v8,v9]/\s'=s++(.lst (aJ acc)::g0)) ?_ ?_
 ·simp only[W,V];exact⟨by decide,by show 2<=sizeLine;decide,by show 1<=sizeLine;decide,rfl,trivial⟩
 rintro fl s' ⟨rfl,rfl⟩;show WP _ _;have wl:∀i,i<=pr.length->(lawI r pr i).length<=60000:=fun i hi=>xbb (hB.law hr hi) (hB.few i hi)
 refine zcf (R:=fun fl s'=>∃w6 w7 w8 w9 g,fl=.nx [S0,S1,some (.ref s.length),some (aL r),some (aL pr),some (.lst ((lawI r pr pr.length).map paD)),w6,w7,w8,w9]/\s'=s++(.lst (aJ acc)::g)) ?_ ?_
 ·simp only[W,V,Dd.N];refine zcg (fun i σ s'=>∃w6 w7 w8 w9 g,σ=[S0,S1,some (.ref s.length),some (aL r),some (aL pr),some (.lst ((lawI r pr i).map paD)),w6,w7,w8,w9]/\s'=s++(.lst (aJ acc)::g)) ⟨_,_,_,_,g0,rfl,rfl⟩ ?_ ?_
  ·rintro i y σ s' hy ⟨w6,w7,w8,w9,g,rfl,rfl⟩;have hy2:i < pr.length/\y=.int (pr.getD i 0):=by
    rw[xcb] at hy;cases e:pr[i]? with
    | none=>rw[e] at hy;cases hy
    | some z=>rw[e] at hy;exact⟨(xbm.mp e).1,by rw[xbt,e];exact(xcd hy).symm⟩
   obtain⟨hi,rfl⟩:=hy2;refine⟨_,rfl,?_⟩;have hm:=zhg hi;have h10:=hB.len;refine znr (m:=m) (ps:=lawI r pr i) (hB.e0 _ hm) (hB.e1 _ hm) (fun p hp=>?_) (fun l hl=>hB.least l hl i hi) (wl i (by lia)) (wl (i+1) hi) fun w7 w8 w9 g2=>?_
   ·obtain⟨h1,h2⟩:=zhc hr hp;exact⟨h1,by lia⟩
   ·simp only[L];exact⟨_,_,_,_,g++g2,rfl,by rw[xbq,xfm]⟩
  ·rintro σ s' ⟨w6,w7,w8,w9,g,rfl,rfl⟩;rw[xbc];exact⟨_,_,_,_,g,rfl,rfl⟩
 rintro fl s' ⟨w6,w7,w8,w9,g,rfl,rfl⟩;show WP _ _;simp only[W,V,Dd.N,zjy];refine⟨_,_,rfl,zbq _ _,?_⟩;have hw:=wl pr.length (xbd _);refine⟨by rw[xbc];exact small _ (by lia),?_⟩;refine zml (as:=lawI r pr pr.length) (fun σ=>∃a b,σ=[a,b]) (fun p=>zeroB p.2) (fun p=>aL p.1) paD ⟨_,_,rfl⟩ ?_ ?_
 ·rintro p hp σ ⟨a,b,rfl⟩;refine⟨_,rfl,⟨_,_,rfl⟩,?_,fun _=>by simp only[W,V,xla]⟩;simp only[W,V];have e:bAnyI [aL p.2] (s++(.lst (aJ acc)::g))=.ok (.bl (p.2.any fun x=>!decide (x=0))) (s++(.lst (aJ acc)::g)):=by
   unfold bAnyI;dsimp only;rw[show(seqOf (s++(.lst (aJ acc)::g)) (aL p.2)).bind asInts=some p.2 from zde p.2]
  refine WP.of e ?_;refine⟨_,rfl,?_⟩;exact⟨rfl,rfl⟩
 ·refine⟨_,_,_,rfl,zbq _ _,rfl,?_,?_⟩
  ·rw[zp,xbc];have:=xdw (fun p:RowI×RowI=>zeroB p.2) (lawI r pr pr.length);exact small _ (by lia)
  ·rw[zdu];have e:aJ acc++((lawI r pr pr.length).filter fun p=>zeroB p.2).map (fun p=>aL p.1)=aJ (acc++lawH r pr):=by
    unfold aJ lawH;rw[xds,xde]
    rfl
   rw[e];exact q _ _ _ _ _ _
structure Ab (m:Int) (cs ps:List RowI) (c:Nat):Prop where
 row:∀r∈cs,Lw m r
 pro:∀pr∈ps,∃B,Bw m pr B/\B pr.length<=c
 few:cs.length * (ps.length * c)<=900000
theorem Ab.one {m:Int}{cs ps:List RowI}{c:Nat}(h:Ab m cs ps c)(H:RowI->RowI->List RowI)(hH:∀r pr B,Bw m pr B->Lw m r->(H r pr).length<=B pr.length){r:RowI}(hr:r∈cs){L:List RowI}(hL:∀p∈L,p∈ps):(L.flatMap (H r)).length<=L.length * c :=
 zof _ _ fun p hp=>by
  obtain⟨B,h1,h2⟩:=h.pro p (hL p hp);exact xbb (hH r p B h1 (h.row r hr)) h2
theorem Ab.all {m:Int}{cs ps:List RowI}{c:Nat}(h:Ab m cs ps c)(H:RowI->RowI->List RowI)(hH:∀r pr B,Bw m pr B->Lw m r->(H r pr).length<=B pr.length){K:List RowI}(hK:∀p∈K,p∈cs):(K.flatMap fun r=>ps.flatMap (H r)).length<=K.length * (ps.length * c) :=
 zof _ _ fun r hr=>h.one H hH (hK r hr) fun p hp=>hp
theorem Ab.at {m:Int}{cs ps:List RowI}{c:Nat}(h:Ab m cs ps c)(H:RowI->RowI->List RowI)(hH:∀r pr B,Bw m pr B->Lw m r->(H r pr).length<=B pr.length){i j:Nat}{r:RowI}(hr:cs[i]?=some r):(((cs.take i).flatMap fun r=>ps.flatMap (H r))++(ps.take j).flatMap (H r)).length<=900000:=by
 have h1:=h.all H hH (K:=cs.take i) fun p hp=>xfu hp
 have h2:=h.one H hH (xby hr) (L:=ps.take j) fun p hp=>xfu hp
 have hi:=(xbm.mp hr).1;have h3:(cs.take i).length=i:=by rw[xct];lia
 have h4:(ps.take j).length<=ps.length:=by rw[xct];lia
 have h5:=xfc c h4;have h6:=xfc (ps.length * c) hi;have h7:=h.few;rw[xky] at h6;rw[h3] at h1;rw[xbo];lia
theorem zso {m:Int}:∀r pr B,Bw m pr B->Lw m r->(lawH r pr).length<=B pr.length:=fun r pr B hB hr=>by
 unfold lawH;rw[xbc];exact xbb (xdw _ _) (hB.law hr (xbd _))
noncomputable def lawAll (cs ps:List RowI):List RowI:=cs.flatMap fun r=>ps.flatMap (lawH r)
theorem zvk {m:Int}{cs ps:List RowI}{c:Nat}{a1 b1:D}(he:a1=aK cs)(hb1:b1=aK ps)(h:Ab m cs ps c)(k:∀g,Q (aK (aO (lawAll cs ps))) (st++g)):WP (zt [a1,b1] st) Q:=by
 refine zlm rfl ?_;subst he hb1;simp only[W,V,Dd.N];refine⟨by decide,?_⟩;refine zcg (fun i σ s=>(∃v3 v4 v5 v6 v7 v8 v9:Option D,σ=[some (aK cs),some (aK ps),some (.ref st.length),v3,v4,v5,v6,v7,v8,v9])/\∃g,s=st++(.lst (aJ (lawAll (cs.take i) ps))::g)) ⟨⟨_,_,_,_,_,_,_,rfl⟩,[],rfl⟩ ?_ ?_
 ·rintro i y σ s hy ⟨⟨v3,v4,v5,v6,v7,v8,v9,rfl⟩,g,rfl⟩;obtain⟨r,hrr,rfl⟩:=zbw hy;have hmem:=xby hrr;refine⟨_,rfl,?_⟩;unfold zbu;simp only[W,V,Dd.N];refine zcg (fun j σ s=>(∃v4 v5 v6 v7 v8 v9:Option D,σ=[some (aK cs),some (aK ps),some (.ref st.length),some (aL r),v4,v5,v6,v7,v8,v9])/\∃g,s=st++(.lst (aJ (lawAll (cs.take i) ps++(ps.take j).flatMap (lawH r)))::g)) ⟨⟨_,_,_,_,_,_,rfl⟩,g,by simp⟩ ?_ ?_
  ·rintro j y σ s hy ⟨⟨v4,v5,v6,v7,v8,v9,rfl⟩,g,rfl⟩;obtain⟨pr,hpp,rfl⟩:=zbw hy;refine⟨_,rfl,?_⟩;obtain⟨B,hB,_⟩:=h.pro pr (xby hpp);refine zxp hB (h.row r hmem) (h.at lawH zso hrr) fun w5 w6 w7 w8 w9 g2=>?_
   simp only[L];refine⟨⟨_,_,_,_,_,_,rfl⟩,g2,?_⟩;rw[zo hpp,xeh,xbq];simp
  ·rintro σ s ⟨⟨v4,v5,v6,v7,v8,v9,rfl⟩,g,rfl⟩;simp only[L];refine⟨⟨_,_,_,_,_,_,_,rfl⟩,g,?_⟩;rw[zp,xcn,zo hrr];unfold lawAll;rw[xeh];simp
 ·rintro σ s ⟨⟨v3,v4,v5,v6,v7,v8,v9,rfl⟩,g,rfl⟩;rw[zp,xcn];simp only[W,V,M];refine⟨_,_,rfl,zbq _ _,?_⟩;have h1:=h.all lawH zso (K:=cs) fun p hp=>hp
  have h2:=h.few;refine znl rfl (show(lawAll cs ps).length<=_ by unfold lawAll;lia) fun g2=>?_
  rw[zdu,xbq];exact k _
end
noncomputable def trF (t:Tr):D:=.tup [.int (t.2.1:Int),.int t.1,aL t.2.2]
noncomputable abbrev pk (p:Pp):List (List Int):=[p.1,p.2]
theorem zyb {p q:Pp}:pk p=pk q↔p=q:=by
 constructor
 ·intro h;injection h with h1 h2
  injection h2 with h3 _
  exact Prod.ext h1 h3
 ·rintro rfl;rfl
theorem ztx {ks:List Pp}{p:Pp}:pk p∈ks.map pk↔p∈ks:=by
 rw[xdk];exact⟨fun⟨q,h,e⟩=>by rw[← zyb.mp e];exact h,fun h=>⟨p,h,rfl⟩⟩
theorem zyc (ks:List Pp)(p:Pp):(ks.map pk).filter (fun x=>decide (x≠pk p))=(ks.filter fun x=>decide (x≠p)).map pk:=by
 rw[List.filter_map]
 congr 1
 refine List.filter_congr fun x _=>?_
 show decide (pk x≠pk p)=decide (x≠p);rw[xek,xdj,xdj,Ne,zyb]
theorem znz (p:Pp):keyP (paD p)=some (pk p):=by
 unfold paD keyP;simp only[keysP,zdk]
section
variable {st:Store}{n:Nat}{Q:D->Store->Prop}
theorem zva {ks:List Pp}{p:Pp}(h:st[n]?=some (.dP (ks.map pk)))(hl:ks.length<=1000000)(q:Q .non (st.set n (.dP ((flipG ks p).map pk)))):WP (zfd [.ref n,paD p] st) Q:=by
 have e1:oPIn (paD p) (.ref n) st=.ok (.bl (decide (p∈ks))) st:=by
  unfold oPIn;rw[znz];dsimp only;rw[h];dsimp only
  congr 2
  rw[decide_eq_decide];exact ztx
 refine zlm rfl ?_;simp only[W,V];refine WP.of e1 ?_;dsimp only[bK];unfold flipG at q;by_cases c:p∈ks
 ·rw[if_pos c] at q;rw[xcm c,if_pos rfl];have e2:ePPop (aA 0) (aA 1) [some (.ref n),some (paD p)] st=.ok (.bl true) (st.set n (.dP ((ks.filter fun x=>decide (x≠p)).map pk))):=by
   unfold ePPop aA;simp only[xgy,xgx,zcl,h,znz];rw[if_pos (ztx.mpr c),zyc]
  refine WP.of e2 ?_;exact q
 ·rw[if_neg c] at q;rw[xcj c,if_neg (by decide)];have e2:sPPut (aA 0) (aA 1) (eC (.bl true)) [some (.ref n),some (paD p)] st=.ok (.nx [some (.ref n),some (paD p)]) (st.set n (.dP ((ks++[p]).map pk))):=by
   unfold sPPut aA eC;simp only[xgy,xgx,zcl];unfold pput;rw[znz];simp only[h];rw[if_neg (fun z=>c (ztx.mp z)),if_pos (by rw[xbc];exact smallT _ hl),xds]
   rfl
  refine WP.of e2 ?_;exact q
theorem zxa {l:List Tr}{i:Nat}{y:D}(h:(l.map trF)[i]?=some y):∃p,l[i]?=some p/\y=trF p:=by
 rw[xcb] at h;obtain⟨a,h1,h2⟩:=xcq.mp h;exact⟨a,h1,h2.symm⟩
theorem zkf {k:Nat}(h:k < 4):(1:Int)<=2 * 2 ^ k - 1/\(2:Int) * 2 ^ k - 1<=15:=by
 have h4:k=0\/k=1\/k=2\/k=3:=by lia
 rcases h4 with rfl | rfl | rfl | rfl<;>decide
theorem ztg {S0 S1 S3 v10:Option D}{R l w:Int}{k:Nat}{t:Tr}{acc:List Tr}{g:Store}{E:Fl->Store->Prop}(hw:w=2 * 2 ^ k - 1)(hk:k < 4)(hr:t.2.1<=1000)(ho:t.2.2.length<=4)(ha:acc.length<=60000)
  (q:∀w10 g',E (.nx [S0,S1,some (.int R),S3,some (.int w),some (.int l),some (.ref st.length),some (.int (t.2.1:Int)),some (.int t.1),some (aL t.2.2),w10]) (st++(.lst ((acc++stq k l (l - R) t).map trF)::g'))) :
  WP (zdf [S0,S1,some (.int R),S3,some (.int w),some (.int l),some (.ref st.length),some (.int (t.2.1:Int)),some (.int t.1),some (aL t.2.2),v10] (st++(.lst (acc.map trF)::g))) E:=by
 unfold zdf;simp only[W,V,Dd.N];refine zqa (by lia) fun g2=>?_
 simp only[W,V,Dd.N];rw[xbq,xfm];generalize g++g2=g3;have hsl:(sharesL t.2.1 (l - R) l).length<=t.2.1+1:=K13.zgt _ _ _ _;refine zcg (fun j σ s=>(∃z,σ=[S0,S1,some (.int R),S3,some (.int w),some (.int l),some (.ref st.length),some (.int (t.2.1:Int)),some (.int t.1),some (aL t.2.2),z])/\s=st++(.lst ((acc++((sharesL t.2.1 (l - R) l).take j).map fun x:Nat=>(t.1+(x:Int) * (2 * 2 ^ k - 1),t.2.1 - x,t.2.2++[l - (x:Int)])).map trF)::g3)) ⟨⟨_,rfl⟩,by simp⟩ ?_ ?_
 ·rintro j y σ s hy ⟨⟨z,rfl⟩,rfl⟩;obtain⟨a,ha',rfl⟩:=zzh hy;have hle:=(zdj.mp (xby ha')).1.le;refine⟨_,rfl,?_⟩;unfold zet dN;simp only[W,V,M,Dd.N,L];have h2:((sharesL t.2.1 (l - R) l).take j).length<=(sharesL t.2.1 (l - R) l).length:=by rw[xct];exact xfk _ _
  refine⟨_,_,rfl,zbq _ _,?_,small _ (by simp),by rw[xbc];exact small _ (by simp;lia),small _ (by simp),_,_,rfl,zbq _ _,by rw[xbc,xbo,xbc];exact smallT _ (by lia),⟨_,rfl⟩,?_⟩
  ·have pw:=zkf hk;exact .inl ⟨by lia,by lia⟩
  ·rw[zdu,zo ha',hw];simp[trF,aL,Int.mul_comm];lia
 ·rintro σ s ⟨⟨z,rfl⟩,rfl⟩;rw[xbc,xcn];exact q _ _
theorem zlv {l:RowI}{e:Nat}{R:Int}{a1 b1 c1:D}(he:a1=.int (e:Int))(hb1:b1=aL l)(hc1:c1=.int R)(hl:l.length<=4)(hn:∀x∈l,0<=x)(he1:e<=1000)(hc:cN l e<=60000)(k:∀g,Q (.lst (((parT (fun x=>x - R) e l l.length).filter fun t=>decide (t.2.2.sum<=R)).map fun t=>prD (t.1,t.2.2))) (st++g)):WP (zee [a1,b1,c1] st) Q:=by
 refine zlm rfl ?_;subst he hb1 hc1;simp only[W,V,Dd.N];refine⟨by decide,by show 3<=sizeLine;decide,by show 1<=sizeLine;decide,?_⟩;have pl:∀i,i<=l.length->(parT (fun x=>x - R) e l i).length<=60000:=fun i hi=>xbb (zej hi hn) hc
 refine zcg (fun i σ s=>(∃v5 v6 v7 v8 v9 v10:Option D,σ=[some (.int (e:Int)),some (aL l),some (.int R),some (.lst ((parT (fun x=>x - R) e l i).map trF)),some (.int (2 * 2 ^ i - 1)),v5,v6,v7,v8,v9,v10])/\∃g,s=st++g) ⟨⟨_,_,_,_,_,_,rfl⟩,[],by simp⟩ ?_ ?_
 ·rintro i x σ s hx ⟨⟨v5,v6,v7,v8,v9,v10,rfl⟩,g,rfl⟩;have hy2:i < l.length/\x=.int (l.getD i 0):=by
   rw[xcb] at hx;cases e:l[i]? with
   | none=>rw[e] at hx;cases hx
   | some z=>rw[e] at hx;exact⟨(xbm.mp e).1,by rw[xbt,e];exact(xcd hx).symm⟩
  obtain⟨hi,rfl⟩:=hy2;refine⟨_,rfl,?_⟩;unfold zes;simp only[W,V,Dd.N];refine⟨by decide,?_⟩;generalize hb:st++g=base;refine zcg (fun j σ s=>(∃v7 v8 v9 v10:Option D,σ=[some (.int (e:Int)),some (aL l),some (.int R),some (.lst ((parT (fun x=>x - R) e l i).map trF)),some (.int (2 * 2 ^ i - 1)),some (.int (l.getD i 0)),some (.ref base.length),v7,v8,v9,v10])/\∃g',s=base++(.lst ((((parT (fun x=>x - R) e l i).take j).flatMap (stq i (l.getD i 0) (l.getD i 0 - R))).map trF)::g')) ⟨⟨_,_,_,_,rfl⟩,[],rfl⟩ ?_ ?_
  ·rintro j y σ s hy ⟨⟨w7,w8,w9,w10,rfl⟩,g',rfl⟩;obtain⟨p,hp,rfl⟩:=zxa hy;have I:=zda (by lia) p (xby hp);refine⟨_,rfl,?_⟩;have h1:=xey I.le;rw[xct] at h1;have h2:=I.rest;refine ztg (t:=p) (k:=i) rfl (by lia) (by lia) (by lia) (xbb (zev _ _ _) (pl (i+1) hi)) fun w g2=>?_
   simp only[L];refine⟨⟨_,_,_,_,rfl⟩,g2,?_⟩;rw[zo hp,xeh];simp
  ·rintro σ s ⟨⟨w7,w8,w9,w10,rfl⟩,g',rfl⟩;rw[xbc,xcn,show(parT (fun x=>x - R) e l i).flatMap (stq i (l.getD i 0) (l.getD i 0 - R))=parT (fun x=>x - R) e l (i+1) from rfl];have pw:=zkf (show i < 4 by lia);simp only[W,V,M,Dd.N,L];refine⟨_,_,rfl,zbq _ _,.inl ⟨by lia,by lia⟩,⟨some (.int (l.getD i 0)),some (.ref base.length),w7,w8,w9,w10,?_⟩,_,by rw[zdu,← hb,xbq]⟩;rw[show 2 * ((2:Int) * 2 ^ i - 1)+1=2 * 2 ^ (i+1) - 1 by rw[xkw];lia]
 ·rintro σ s ⟨⟨v5,v6,v7,v8,v9,v10,rfl⟩,g,rfl⟩;rw[xbc];simp only[W,V,Dd.N];have hT:=pl l.length (xbd _);refine⟨by rw[xbc];exact small _ (by lia),?_⟩;refine zml (as:=parT (fun x=>x - R) e l l.length) (fun σ=>∃a b c,σ=[a,b,c,some (.int R)]) (fun t=>decide (t.2.2.sum<=R)) (fun p=>prD (p.1,p.2.2)) trF ⟨_,_,_,rfl⟩ ?_ ?_
  ·rintro p hp σ ⟨a,b,c,rfl⟩;refine⟨_,rfl,⟨_,_,_,rfl⟩,?_,fun _=>?_⟩
   ·simp only[W,V,M,Dd.N];exact⟨p.2.2,zde _,rfl⟩
   ·simp only[W,V];exact⟨by show 2<=sizeLine;decide,trivial,rfl⟩
  ·exact k g
theorem zxx {l:List Tr}{i:Nat}{y:D}(h:(l.map fun t=>prD (t.1,t.2.2))[i]?=some y):∃p,l[i]?=some p/\y=prD (p.1,p.2.2):=by
 rw[xcb] at h;obtain⟨a,h1,h2⟩:=xcq.mp h;exact⟨a,h1,h2.symm⟩
theorem zns {ps:List Pp}{e R m:Int}{a1 b1 c1:D}(he:a1=.lst (ps.map paD))(hb1:b1=.int e)(hc1:c1=.int R)(he0:0<=e)(he1:e<=1000)(hp:∀p∈ps,Lw m p.2/\p.1.length<=20)(hc:∀l,Lw m l->cN l e.toNat<=60000)(hf:(ps.flatMap (stD e R)).length<=60000)
  (k:∀g,Q (.lst ((oddG (ps.flatMap (stD e R))).map paD)) (st++g)):WP (zbk [a1,b1,c1] st) Q:=by
 refine zlm rfl ?_;subst he hb1 hc1;refine zcf (R:=fun fl s=>fl=.nx [some (.lst (ps.map paD)),some (.int e),some (.int R),some (.ref st.length),none,none,none,none]/\s=st++[.dP []]) ?_ ?_
 ·simp only[W,V];exact WP.of (show eDNewP _ st=.ok (.ref st.length) (st++[.dP []]) from rfl) ⟨rfl,rfl⟩
 rintro fl s ⟨rfl,rfl⟩;show WP _ _;have tl:∀i,((ps.take i).flatMap (stD e R)).length<=60000:=fun i=>xbb (zev _ _ _) hf
 simp only[W,V,Dd.N];refine zcg (fun i σ s=>(∃v4 v5 v6 v7,σ=[some (.lst (ps.map paD)),some (.int e),some (.int R),some (.ref st.length),v4,v5,v6,v7])/\∃g,s=st++(.dP ((oddG ((ps.take i).flatMap (stD e R))).map pk)::g)) ⟨⟨_,_,_,_,rfl⟩,[],rfl⟩ ?_ ?_
 ·rintro i y σ s hy ⟨⟨v4,v5,v6,v7,rfl⟩,g,rfl⟩;obtain⟨p,hp',rfl⟩:=zsi hy;have hm:=(hp p (xby hp'))
  refine⟨_,rfl,?_⟩;unfold zcm;simp only[W,V,Dd.N];generalize hbb:aL p.2=bb;generalize haa:D.int e=aa;refine zlv (e:=e.toNat) (R:=R) (by rw[← haa];congr 1;lia) hbb.symm rfl hm.1.len hm.1.nn (by lia) (hc _ hm.1) fun g2=>?_
  subst haa hbb;simp only[W,V,Dd.N];rw[xbq,xfm];generalize g++g2=g3;generalize hT:((parT (fun x=>x - R) e.toNat p.2 p.2.length).filter fun t=>decide (t.2.2.sum<=R))=ts;have eS:stD e R p=ts.map fun t=>(p.1++[t.1],t.2.2):=by unfold stD;rw[hT]
  have hT1:ts.length<=60000:=by
   rw[← hT];exact xbb (xdw _ _) (xbb (zej (xbd _) hm.1.nn) (hc _ hm.1))
  refine zcg (fun j σ s=>(∃v6 v7,σ=[some (.lst (ps.map paD)),some (.int e),some (.int R),some (.ref st.length),some (aL p.1),some (aL p.2),v6,v7])/\s=st++(.dP ((oddG ((ps.take i).flatMap (stD e R)++(ts.take j).map fun t=>(p.1++[t.1],t.2.2))).map pk)::g3)) ⟨⟨_,_,rfl⟩,by simp⟩ ?_ ?_
  ·rintro j y σ s hy ⟨⟨w6,w7,rfl⟩,rfl⟩;obtain⟨t,ht,rfl⟩:=zxx hy;refine⟨_,rfl,?_⟩;unfold zcn;simp only[W,V,Dd.N];have h5:=hm.2;refine⟨by show 1<=sizeLine;decide,by rw[xbc];exact small _ (by show _+1<=_;lia),by show 2<=sizeLine;decide,?_⟩;have e1:D.tup [D.tup (p.1.map D.int++[D.int t.1]),aL t.2.2]=paD (p.1++[t.1],t.2.2):=by unfold paD aL;simp
   rw[e1];refine zva (zbq _ _) ?_ ?_
   ·have h6:=zje ((ps.take i).flatMap (stD e R)++(ts.take j).map fun t=>(p.1++[t.1],t.2.2));have h7:=tl i;have h8:(ts.take j).length<=ts.length:=by rw[xct];exact xfk _ _
    rw[xbo,xbc] at h6;lia
   ·simp only[L];refine⟨⟨_,_,rfl⟩,?_⟩;rw[zdu,zo ht,xds,← xbq];simp only[xbh,xik];rw[zqr]
  ·rintro σ s ⟨⟨w6,w7,rfl⟩,rfl⟩;rw[xbc,xcn,← eS];simp only[L];refine⟨⟨_,_,_,_,rfl⟩,g3,?_⟩;rw[zo hp',xeh];simp
 ·rintro σ s ⟨⟨v4,v5,v6,v7,rfl⟩,g,rfl⟩;rw[xbc,xcn];simp only[W,V];have h1:=zje (ps.flatMap (stD e R));have eb:bListP [.ref st.length] (st++(.dP ((oddG (ps.flatMap (stD e R))).map pk)::g))=.ok (.lst ((oddG (ps.flatMap (stD e R))).map paD)) (st++(.dP ((oddG (ps.flatMap (stD e R))).map pk)::g)):=by
   unfold bListP;dsimp only;rw[zbq];dsimp only;rw[if_pos (by rw[xbc];lia),xde]
   rfl
  exact WP.of eb (k _)
theorem zjo {m:Int}:∀r pr B,Bw m pr B->Lw m r->(devH r pr).length<=B pr.length:=fun r pr B hB hr=>by
 unfold devH;rw[xbc];exact hB.dev hr (xbd _)
theorem zvj {l:RowI}{i:Nat}(h:i < l.length):(l.drop i).sum - l.getD i 0=(l.drop (i+1)).sum:=by
 rw[zfb h,xci];lia
theorem zbec {m:Int}{r pr:RowI}{B:Nat->Nat}{a1 b1:D}(he:a1=aL r)(hb1:b1=aL pr)(hB:Bw m pr B)(hr:Lw m r)(k:∀g,Q (.lst (aJ (devH r pr))) (st++g)):WP (zm [a1,b1] st) Q:=by
 refine zlm rfl ?_;subst he hb1;have wl:∀i,i<=pr.length->(devI r pr i).length<=60000:=fun i hi=>xbb (hB.dev hr hi) (hB.few i hi)
 simp only[W,V,M,Dd.N];refine⟨_,zde _,by decide,by show 2<=sizeLine;decide,by show 1<=sizeLine;decide,?_⟩;refine zcg (fun i σ s=>(∃v4,σ=[some (aL r),some (aL pr),some (.int (pr.drop i).sum),some (.lst ((devI r pr i).map paD)),v4])/\∃g,s=st++g) ⟨⟨_,rfl⟩,[],by simp⟩ ?_ ?_
 ·rintro i x σ s hx ⟨⟨v4,rfl⟩,g,rfl⟩;have hy2:i < pr.length/\x=.int (pr.getD i 0):=by
   rw[xcb] at hx;cases e:pr[i]? with
   | none=>rw[e] at hx;cases hx
   | some z=>rw[e] at hx;exact⟨(xbm.mp e).1,by rw[xbt,e];exact(xcd hx).symm⟩
  obtain⟨hi,rfl⟩:=hy2;refine⟨_,rfl,?_⟩;unfold zbb;simp only[W,V,Dd.N];refine WP.of (show sAug 2 (oI (fun _ _=>True) fun i j=>D.int (i - j)) (aA 4) [some (aL r),some (aL pr),some (.int (pr.drop i).sum),some (.lst ((devI r pr i).map paD)),some (.int (pr.getD i 0))] (st++g)=.ok (.nx [some (aL r),some (aL pr),some (.int ((pr.drop i).sum - pr.getD i 0)),some (.lst ((devI r pr i).map paD)),some (.int (pr.getD i 0))]) (st++g) from rfl) ?_;rw[zvj hi];simp only[W,V,Dd.N];have hm:=zhg hi;have h10:=hB.len;generalize ha:D.lst ((devI r pr i).map paD)=a1;generalize hb:D.int (pr.getD i 0)=b1;generalize hc:D.int (pr.drop (i+1)).sum=c1;refine zns (m:=m) ha.symm hb.symm hc.symm (hB.e0 _ hm) (hB.e1 _ hm) (fun p hp=>?_) (fun l hl=>hB.least l hl i hi) ?_ fun g2=>?_
  ·obtain⟨h1,h2,_⟩:=zfr hr hp;exact⟨h1,by lia⟩
  ·exact xbb (zjm hB hi _ (fun p hp=>zsd hp) (fun p hp=>(zfr hr hp).1) (hB.dev hr (by lia))) (hB.few _ hi)
  ·subst ha hb hc;simp only[W,V,L];exact⟨⟨_,rfl⟩,g++g2,by rw[xbq]⟩
 ·rintro σ s ⟨⟨v4,rfl⟩,g,rfl⟩;rw[xbc];simp only[W,V,Dd.N];refine⟨by rw[xbc];exact small _ (by have:=wl pr.length (xbd _);lia),?_⟩;refine zml (as:=devI r pr pr.length) (fun σ=>∃a b,σ=[a,b]) (fun _=>true) (fun p=>aL p.1) paD ⟨_,_,rfl⟩ ?_ ?_
  ·rintro p hp σ ⟨a,b,rfl⟩;exact⟨_,rfl,⟨_,_,rfl⟩,by simp only[W,xla],fun _=>by simp only[W,V,xla]⟩
  ·rw[zhh];have e:(devI r pr pr.length).map (fun p=>aL p.1)=aJ (devH r pr):=by unfold aJ devH;rw[xde];rfl
   rw[e];exact k g
noncomputable def devAll (cs ps:List RowI):List RowI:=cs.flatMap fun r=>ps.flatMap (devH r)
theorem zwj {m:Int}{cs ps:List RowI}{c:Nat}(h:Ab m cs ps c):aO (devAll cs ps)=aO (lawAll cs ps) :=
 zsl (zdy _) fun x=>by
  rw[zgz];have:(devAll cs ps).count x % 2=(lawAll cs ps).count x % 2:=ziz fun r hr=>ziz fun pr hpr=>by
   obtain⟨B,hB,_⟩:=h.pro pr hpr;exact zbar hB (h.row r hr) x
  rw[this]
theorem zuk (l:List RowI)(x:RowI):aN (l++[x])=aP (aN l) x:=by unfold aN;rw[List.foldl_append];rfl
theorem zhn {m:Int}{cs ps:List RowI}{c:Nat}{a1 b1:D}(he:a1=aK cs)(hb1:b1=aK ps)(h:Ab m cs ps c)(k:∀g,Q (aK (aO (lawAll cs ps))) (st++g)):WP (zcb [a1,b1] st) Q:=by
 refine zlm rfl ?_;subst he hb1;simp only[W,V,Dd.N];refine zcg (fun i σ s=>(∃v3 v4 v5:Option D,σ=[some (aK cs),some (aK ps),some (.ref st.length),v3,v4,v5])/\∃g,s=st++(.dT (aQ (aN (devAll (cs.take i) ps)))::g)) ⟨⟨_,_,_,rfl⟩,[],rfl⟩ ?_ ?_
 ·rintro i y σ s hy ⟨⟨v3,v4,v5,rfl⟩,g,rfl⟩;obtain⟨r,hrr,rfl⟩:=zbw hy;have hmem:=xby hrr;refine⟨_,rfl,?_⟩;unfold zdg;simp only[W,V,Dd.N];refine zcg (fun j σ s=>(∃v4 v5:Option D,σ=[some (aK cs),some (aK ps),some (.ref st.length),some (aL r),v4,v5])/\∃g,s=st++(.dT (aQ (aN (devAll (cs.take i) ps++(ps.take j).flatMap (devH r))))::g)) ⟨⟨_,_,rfl⟩,g,by simp⟩ ?_ ?_
  ·rintro j y σ s hy ⟨⟨v4,v5,rfl⟩,g,rfl⟩;obtain⟨pr,hpp,rfl⟩:=zbw hy;refine⟨_,rfl,?_⟩;obtain⟨B,hB,hBc⟩:=h.pro pr (xby hpp);have hat:=h.at devH zjo (j:=j) hrr;have hpl:(devH r pr).length<=60000:=xbb (zjo r pr B hB (h.row r hmem)) (hB.few _ (xbd _));unfold zdh;simp only[W,V,Dd.N];generalize ha:aL r=aa;generalize hb:aL pr=bb;refine zbec ha.symm hb.symm hB (h.row r hmem) fun g2=>?_
   subst ha hb;simp only[W,V,Dd.N];rw[xbq,xfm];generalize g++g2=g3;refine zcg (fun a σ s=>(∃v5:Option D,σ=[some (aK cs),some (aK ps),some (.ref st.length),some (aL r),some (aL pr),v5])/\s=st++(.dT (aQ (aN (devAll (cs.take i) ps++(ps.take j).flatMap (devH r)++(devH r pr).take a)))::g3)) ⟨⟨_,rfl⟩,by simp⟩ ?_ ?_
   ·rintro a y σ s hy ⟨⟨w5,rfl⟩,rfl⟩;obtain⟨b,hbb,rfl⟩:=zbw hy;refine⟨_,rfl,?_⟩;unfold zim;simp only[W,V,Dd.N];refine zzv (zbq _ _) ?_ ?_
    ·have h6:=zdi (devAll (cs.take i) ps++(ps.take j).flatMap (devH r)++(devH r pr).take a);have h8:((devH r pr).take a).length<=(devH r pr).length:=by rw[xct];exact xfk _ _
     unfold devAll at h6 ⊢;rw[xbo] at h6;lia
    ·simp only[L];refine⟨⟨_,rfl⟩,?_⟩;rw[zdu,zo hbb,← xbq,zuk]
   ·rintro σ s ⟨⟨w5,rfl⟩,rfl⟩;rw[zp,xcn];simp only[L];refine⟨⟨_,_,rfl⟩,g3,?_⟩;rw[zo hpp,xeh,xbq];simp
  ·rintro σ s ⟨⟨v4,v5,rfl⟩,g,rfl⟩;simp only[L];refine⟨⟨_,_,_,rfl⟩,g,?_⟩;rw[zp,xcn,zo hrr];unfold devAll;rw[xeh];simp
 ·rintro σ s ⟨⟨v3,v4,v5,rfl⟩,g,rfl⟩;rw[zp,xcn];simp only[W,V,M];have h1:=h.all devH zjo (K:=cs) fun p hp=>hp
  have h2:=h.few;have h3:=zdi (devAll cs ps);refine zpy (zbq _ _) (by unfold devAll at h3 ⊢;lia) ?_;have e:=zwj h;rw[← e] at k;exact k _
end
section
variable {st:Store}{n:Nat}{Q:D->Store->Prop}
end
end Dd
namespace K08
end K08
namespace Dd
open PySem L2 K13
section
variable {st:Store}{n:Nat}{Q:D->Store->Prop}
end
section
variable {st:Store}{n:Nat}{Q:D->Store->Prop}
end
section
variable {st:Store}{n:Nat}{Q:D->Store->Prop}
end
section
variable {st:Store}{n:Nat}{Q:D->Store->Prop}
theorem zxc:∀{r:List Int},(∀x∈r,0<=x)->0<=r.sum
 | [],_=>by simp
 | a::r,h=>by
  have h1:=h a (by simp);have h2:=zxc fun x hx=>h x (xbl _ hx)
  rw[xci];lia
theorem zth (l:List Int)(j:Nat):(l.drop j++l.take j).sum=l.sum:=by
 have:(l.take j++l.drop j).sum=l.sum:=by rw[xdv]
 rw[xel] at this ⊢;lia
theorem zlt {N d:Int}(hb:BagAt st n)(hN:1<=N)(hN2:N<=1000)(hd:0<=d)(hd2:d<=1000)(k:∀r st',r.length=N.toNat->(∀x∈r,0<=x)->r.sum<=d->Drew st st' n->Q (aL r) st'):WP (zca [.ref n,.int N,.int d] st) Q:=by
 refine zlm rfl ?_;simp only[W,V];refine zch hb (by lia) (by lia) fun l0 st1 h1 h2 d1=>?_
 refine zch d1.bag (by lia) (by lia) fun r1 st2 h3 h4 d2=>?_
 have D2:=d1.trans d2
 have main:∀left:Int,0<=left->left<=d->WP (aD (aF 4 (eLstM aC))
   (aD (sFor (iR1 (aB (aS oSub (aA 1) (eC (.int 1))) aC)) (gN 5) zbt)
   (aD (sDrop (eAppend (aA 4) (aB (aA 3) aC)))
   (aD (aF 6 (aE zf (aB (aA 0) (aB (aA 1) aC))))
   (sRet (aE bTuple (aB (aS aM (eSl (aA 4) (pSome (aA 6)) pNone) (eSl (aA 4) pNone (pSome (aA 6)))) aC)))))) [some (.ref n),some (.int N),some (.int d),some (.int left),none,none,none] st2) (retK Q):=fun left hl0 hl1=>by
  simp only[W,V];refine⟨small _ (by simp),True.intro,_,rfl,rngN (by lia) (by lia),?_⟩;have hk:st.length<=st2.length:=D2.len;have hkn:st2.length≠n:=xjt (D2.lt hb.lt);refine zcg (fun i σ s=>∃(left:Int) (r:List Int) (v:Option D),σ=[some (.ref n),some (.int N),some (.int d),some (.int left),some (.ref st2.length),v,none]/\0<=left/\r.sum+left<=d/\r.length=i/\(∀x∈r,0<=x)/\Drew st s n/\s[st2.length]?=some (.lst (r.map .int)))
   ⟨left,[],none,rfl,hl0,(by rw[xiq,xio];exact hl1),rfl,by simp,D2.trans (.more D2.bag _),by simp⟩ ?_ ?_
  ·rintro i x σ s hx ⟨left,r,v,rfl,a1,a2,a3,a4,a5,a6⟩;obtain⟨hi,rfl⟩:=zgd hx;refine⟨_,rfl,?_⟩;unfold zbt;simp only[W,V,M];refine⟨_,_,rfl,a6,?_⟩;have a0:=zxc a4;refine zch a5.bag (by lia) (by lia) fun y s2 b1 b2 e2=>?_
   have a6':s2[st2.length]?=some (.lst (r.map .int)):=(e2.keep _ (zw a6) hkn).trans a6;have E2:=a5.trans e2;have hlt:=zw a6';refine⟨_,_,rfl,a6',by rw[xbc];exact smallT _ (by lia),?_⟩;have a7:(s2.set st2.length (.lst (r.map D.int++[D.int y])))[st2.length]?=some (.lst ((r++[y]).map .int)):=by rw[zep hlt];simp
   refine zbiu (xs:=(r++[y]).map .int) (d:=.int y) (zdv a7) (by rw[xds];exact zwd _ _) ?_;simp only[W,V,L];exact⟨True.intro,left - y,r++[y],_,rfl,by lia,(by rw[xel,xci,xiq];lia),by simp[a3],zjh a4 b1,E2.over hb.lt hk,a7⟩
  ·rintro σ s ⟨left,r,v,rfl,a1,a2,a3,a4,a5,a6⟩;rw[zbp] at a3;simp only[W,V,M];have hlt:=zw a6;refine⟨_,_,rfl,a6,_,_,rfl,a6,by rw[xbc];exact smallT _ (by lia),?_⟩;have a7:(s.set st2.length (.lst (r.map D.int++[D.int left])))[st2.length]?=some (.lst ((r++[left]).map .int)):=by rw[zep hlt];simp
   have D5:Drew st (s.set st2.length (.lst (r.map D.int++[D.int left]))) n:=a5.over hb.lt hk;refine zch D5.bag (by lia) (by lia) fun y s2 b1 b2 e2=>?_
   have a8:s2[st2.length]?=some (.lst ((r++[left]).map .int)):=(e2.keep _ (zw a7) hkn).trans a7;refine⟨y,rfl,.inr ⟨_,zgo a8,y,rfl,.inr ⟨_,zgo a8,?_⟩⟩⟩;obtain⟨j,rfl⟩:=xda b1;rw[zrw,zbbj];refine WP.of (zti (small _ (by rw[xbo,xjp];lia))) ?_;simp only[W,V];refine k _ _ ?_ ?_ ?_ (D5.trans e2)
   ·rw[zmq,xbo,xjp];lia
   ·intro x hx;rcases xce.mp hx with hx | hx
    ·exact zjh a4 a1 x (xft hx)
    ·exact zjh a4 a1 x (xfu hx)
   ·rw[zth,xel,xci,xiq];lia
 simp only[W,V];split
 ·have q:=main d hd (Int.le_refl _);simp only[W,V] at q;exact q
 ·have q:=main l0 h1 (by lia);simp only[W,V] at q;exact q
theorem zsc {N m d:Int}(hb:BagAt st n)(hN:1<=N)(hN2:N<=1000)(hm:0<=m)(hm2:m < 63)(hd:0<=d)(hd2:d<=1000)(k:∀l st',l.length<=m->SumOk N.toNat l->(∀r∈l,r.sum<=d)->Drew st st' n->Q (aK l) st'):WP (zef [.ref n,.int N,.int m,.int d] st) Q:=by
 refine zlm rfl ?_;simp only[W,V];refine zch hb (by lia) (by lia) fun c st1 h1 h2 d1=>?_
 refine⟨c,rfl,rngN (by lia) (by lia),by rw[zbp];exact small _ (by lia),?_⟩;refine zmm (fun i acc σ s=>∃(l:List (List Int)) (v:Option D),acc=aJ l/\l.length=i/\(∀r∈l,r.length=N.toNat/\∀x∈r,0<=x)/\(∀r∈l,r.sum<=d)/\σ=[v,some (.ref n),some (.int N),some (.int d)]/\Drew st s n) ⟨[],none,rfl,rfl,by simp,by simp,rfl,d1⟩ ?_ ?_
 ·rintro i x acc σ s hx ⟨l,v,rfl,a1,a2,a0,rfl,a3⟩;refine⟨_,rfl,?_⟩;simp only[W,V];refine zlt a3.bag hN hN2 hd hd2 fun r s2 b1 b2 b0 b3=>⟨l++[r],_,by simp[aJ],by simp[a1],fun z hz=>?_,fun z hz=>?_,rfl,a3.trans b3⟩
  ·rcases xce.mp hz with hz | hz
   ·exact a2 z hz
   ·simp at hz;subst hz;exact⟨b1,b2⟩
  ·rcases xce.mp hz with hz | hz
   ·exact a0 z hz
   ·simp at hz;subst hz;exact b0
 ·rintro ys σ s ⟨l,v,rfl,a1,a2,a0,rfl,a3⟩;rw[zbp] at a1;refine znl (l:=l) rfl (by lia) fun g=>k _ _ ?_ (zpv a2) (fun r hr=>a0 r (zfl hr)) (a3.trans (.more a3.bag g))
  have:=zgg l;lia
end
noncomputable def vw:Nat->RowI->Int
 | _,[]=>0
 | n,x::r=>(2 ^ n - 1) * x+vw (n - 1) r
theorem zsa (x:Int):∀(r:RowI) (w:Int) (k:Nat),w=2 * 2 ^ k - 1->wtI w (r++[x])=wtI w r+(2 * 2 ^ (k+r.length) - 1) * x
 | [],w,k,h=>by simp[wtI,h]
 | y::r,w,k,h=>by
  have:=zsa x r (2 * w+1) (k+1) (by rw[h,xkw];lia);rw[xfm];unfold wtI;rw[this,xbr,show k+1+r.length=k+(r.length+1) by lia];lia
theorem zwy:∀r:RowI,wtI 1 r.reverse=vw r.length r
 | []=>rfl
 | x::r=>by
  rw[xhk,zsa x r.reverse 1 0 rfl,zwy r,xbr];rw[show vw (r.length+1) (x::r)=(2 ^ (r.length+1) - 1) * x+vw (r.length+1 - 1) r from rfl,xgu,xdp,xkw,xki,Int.mul_comm 2,Int.add_comm]
theorem zsb (y:Int):∀(r:RowI) (n:Nat),vw n (r++[y])=vw n r+(2 ^ (n - r.length) - 1) * y
 | [],n=>by simp[vw]
 | x::r,n=>by
  rw[xfm];unfold vw;rw[zsb y r (n - 1),xbr,show n - 1 - r.length=n - (r.length+1) by lia];lia
structure Cv (m:Int) (r:RowI):Prop where
 len:r.length<=4
 nn:∀x∈r,0<=x
 wt:vw r.length r<=m
theorem Cv.tail {m x:Int}{r:RowI}(h:Cv m (x::r))(hx:x=0):Cv m r:=by
 have h1:=h.len;have h3:=h.wt;rw[xbr] at h1;subst hx;unfold vw at h3;rw[xbr,xki] at h3;exact⟨by lia,fun y hy=>h.nn y (xbl _ hy),by lia⟩
theorem Cv.rev {m:Int}{r:RowI}(h:Cv m r):Lw m r.reverse :=
 ⟨by rw[xgu];exact h.len,fun x hx=>h.nn x (xhv.mp hx),by rw[zwy];exact h.wt⟩
section
variable {st:Store}{n:Nat}{Q:D->Store->Prop}
theorem zos {m:Int}(hb:BagAt st n)(h0:0<=m)(h1:m<=16)(k:∀r st',Lw m r->Drew st st' n->Q (aL r) st'):WP (zct [.ref n,.int m] st) Q:=by
 have hkn:st.length≠n:=xjt hb.lt;refine zlm rfl ?_;refine zcf (R:=fun fl s=>fl=.nx [some (.ref n),some (.int m),some (.ref st.length),none,none,none]/\s=st++[.lst []]) ?_ ?_
 ·simp only[W,V];exact⟨small _ (by simp),trivial,trivial⟩
 rintro fl s ⟨rfl,rfl⟩;show WP _ _;refine zcf (R:=fun fl s=>fl=.nx [some (.ref n),some (.int m),some (.ref st.length),some (.int m),none,none]/\s=st++[.lst []]) ?_ ?_
 ·simp only[W,V,xla]
 rintro fl s ⟨rfl,rfl⟩;show WP _ _;refine zcf (R:=fun fl s=>∃(r:RowI) (v u w:Option D),fl=.nx [some (.ref n),some (.int m),some (.ref st.length),v,u,w]/\Cv m r/\Drew st s n/\s[st.length]?=some (.lst (r.map .int))) ?_ ?_
 ·simp only[W,V];refine WP.of (show iRD (aB (eC (.int 3)) (aB (eUn oNeg (eC (.int 1))) (aB (eUn oNeg (eC (.int 1))) aC))) [some (.ref n),some (.int m),some (.ref st.length),some (.int m),none,none] (st++[.lst []])=.ok (rngD 3 4) (st++[.lst []]) from rfl) ?_;refine zcg (fun i σ s=>∃(r:RowI) (left:Int) (u w:Option D),σ=[some (.ref n),some (.int m),some (.ref st.length),some (.int left),u,w]/\r.length=i/\(∀x∈r,0<=x)/\0<=left/\left<=16/\vw 4 r+left<=m/\Drew st s n/\s[st.length]?=some (.lst (r.map .int))) ⟨[],m,_,_,rfl,rfl,by simp,h0,h1,by simp[vw],.more hb _,by simp⟩ ?_ ?_
  ·rintro i x σ s hx ⟨r,left,u,w,rfl,a1,a2,a3,a4,a7,a5,a6⟩;obtain⟨hi,rfl⟩:=zmw hx;refine⟨_,rfl,?_⟩;unfold zdr;have hdv:∃dv:Int,(2:Int) * 2 ^ ((3:Int) - (i:Int)).toNat - 1=dv/\1<=dv/\dv<=15/\(2:Int) ^ (4 - i) - 1=dv:=by
    have h4:i=0\/i=1\/i=2\/i=3:=by lia
    rcases h4 with rfl | rfl | rfl | rfl
    ·exact⟨15,rfl,by decide,by decide,by decide⟩
    ·exact⟨7,rfl,by decide,by decide,by decide⟩
    ·exact⟨3,rfl,by decide,by decide,by decide⟩
    ·exact⟨1,rfl,by decide,by decide,by decide⟩
   obtain⟨dv,edv,d1,d2,d3⟩:=hdv;have cp:CPow 2 ((3:Int) - (i:Int)):=⟨by lia,by lia,by decide⟩
   simp only[W,V,M,Dd.N,edv];have hq0:0<=left / dv:=Int.ediv_nonneg a3 (by lia);have hq1:left / dv * dv<=left:=Int.ediv_mul_le left (by lia);have hq2:left / dv<=16:=by
    have:left / dv * 1<=left / dv * dv:=xkd d1 hq0;lia
   refine⟨cp,⟨by lia,Int.lt_of_le_of_lt d2 (by decide +kernel)⟩,?_⟩;refine zch a5.bag (by lia) (by lia) fun y s1 y0 y1 dd=>⟨cp,?_⟩
   have hyd:0<=y * dv/\y * dv<=left:=by
    have h1:y * dv<=left / dv * dv:=Int.mul_le_mul_of_nonneg_right (by lia) (by lia);exact⟨Int.mul_nonneg y0 (by lia),by lia⟩
   simp only[W,V,L];have s6:s1[st.length]?=some (.lst (r.map .int)):=(dd.keep _ (zw a6) hkn).trans a6;refine⟨.inr ⟨by lia,by lia⟩,trivial,_,_,rfl,s6,_,_,rfl,s6,by rw[xbc];exact smallT _ (by lia),r++[y],left - y * dv,_,_,rfl,by simp[a1],?_,by lia,by lia,?_,(a5.trans dd).over hb.lt (xbd _),?_⟩
   ·intro z hz;rcases xce.mp hz with hz | hz
    ·exact a2 z hz
    ·rw[xbw.mp hz];lia
   ·rw[zsb,a1,d3,Int.mul_comm dv];lia
   ·rw[zep (zw s6)];simp
  ·rintro σ s ⟨r,left,u,w,rfl,a1,a2,a3,a4,a7,a5,a6⟩;have a1:r.length=4:=a1;exact⟨r,_,_,_,rfl,⟨by lia,a2,by rw[a1];lia⟩,a5,a6⟩
 rintro fl s ⟨r,v,u,w,rfl,hr,hd,hs⟩;show WP _ _;refine zcf (R:=fun fl s=>∃(r:RowI) (v u w:Option D),fl=.nx [some (.ref n),some (.int m),some (.ref st.length),v,u,w]/\Cv m r/\Drew st s n/\s[st.length]?=some (.lst (r.map .int))) ?_ ?_
 ·refine zmk (fun j σ s=>∃(r:RowI) (v u w:Option D),j=r.length/\σ=[some (.ref n),some (.int m),some (.ref st.length),v,u,w]/\Cv m r/\Drew st s n/\s[st.length]?=some (.lst (r.map .int))) (k:=r.length) ⟨r,v,u,w,rfl,rfl,hr,hd,hs⟩ (by have:=hr.1;lia) ?_;rintro j σ s ⟨r,v,u,w,rfl,rfl,hr,hd,hs⟩;simp only[W,V];refine WP.of (zbbv (zdv hs)) ?_;simp only[W,V];cases r with
  | nil =>
   rw[if_neg (by simp)];exact⟨trivial,[],_,_,_,rfl,hr,hd,hs⟩
  | cons x r =>
   rw[if_pos (by simp)];refine⟨trivial,WP.of (zhy (zdv hs) (zwc (j:=0) (d:=.int x) (by simp))) ?_⟩;simp only[W,V];split
   ·unfold zdq;simp only[W];refine WP.of (zxy rfl hs) ?_;simp only[L];exact⟨r.length,by simp,r,_,_,_,rfl,rfl,hr.tail (by assumption),hd.over hb.lt (xbd _),zep (zw hs)⟩
   ·exact⟨x::r,_,_,_,rfl,hr,hd,hs⟩
 rintro fl s ⟨r,v,u,w,rfl,hr,hd,hs⟩;show WP _ _;have eb:eBack (aA 2) (eUn oNeg (eC (.int 1))) [some (.ref n),some (.int m),some (.ref st.length),v,u,w] s=.ok (.lst (r.reverse.map .int)) s:=by
  show(match asL s (.ref st.length) with
   | some xs=>Res.ok (D.lst xs.reverse) s
   | none=>.stuck)=_
  rw[zgo hs,List.map_reverse]
 simp only[W];refine WP.of eb ?_;simp only[W,V];exact WP.of (show bTuple [.lst (r.reverse.map .int)] s=.ok (aL r.reverse) s from rfl) (k _ _ hr.rev hd)
theorem zdn {c m:Int}(hb:BagAt st n)(c0:0<=c)(c1:c<=40)(h0:0<=m)(h1:m<=16)(k:∀l st',l.length<=c->(∀r∈l,Lw m r)->Drew st st' n->Q (aK l) st'):WP (zr [.ref n,.int c,.int m] st) Q:=by
 refine zlm rfl ?_;simp only[W,V];refine zch hb (by lia) (by lia) fun c2 st1 a1 a2 d1=>?_
 try simp only[W,V,Dd.N]
 refine⟨rngN (by lia) (by lia),by rw[zbp];exact small _ (by lia),?_⟩;refine zmm (fun j acc σ s=>∃(l:List RowI) (v:Option D),acc=aJ l/\l.length=j/\(∀r∈l,Lw m r)/\σ=[v,some (.ref n),some (.int m)]/\Drew st s n) ⟨[],none,rfl,rfl,by simp,rfl,d1⟩ ?_ ?_
 ·rintro j x acc σ s hx ⟨l,v,rfl,b1,b2,rfl,b3⟩;refine⟨_,rfl,?_⟩;simp only[W,V];refine zos b3.bag h0 h1 fun r s2 hr d2=>⟨l++[r],_,by simp[aJ],by simp[b1],?_,rfl,b3.trans d2⟩
  intro z hz;rcases xce.mp hz with hz | hz
  ·exact b2 z hz
  ·rw[xbw.mp hz];exact hr
 ·rintro ys σ s ⟨l,v,rfl,b1,b2,rfl,b3⟩;rw[zbp] at b1;refine znl (l:=l) rfl (by lia) fun g=>k _ _ (by have:=zgg l;lia) (fun r hr=>b2 r (zfl hr)) (b3.trans (.more b3.bag g))
end
noncomputable def prodL:RowI->Nat
 | []=>1
 | x::r=>(x.toNat+1) * prodL r
theorem zbco (r:Nat){a:Int}(h:0<=a):(sharesL r 0 a).length<=a.toNat+1:=by
 obtain⟨N,hN⟩:∃N:Nat,(N:Int)=if a < (r:Int) then a else(r:Int):=⟨(if a < (r:Int) then a else(r:Int)).toNat,by split<;>lia⟩
 rw[← zmr h hN];have:=zgt r 0 a (N+1);split at hN<;>lia
theorem zta:∀{l:RowI},(∀x∈l,0<=x)->∀r,cN l r<=prodL l
 | [],_,_=>xbd _
 | a::l,h,r=>by
  have ih:=zta (fun x hx=>h x (xbl _ hx));have h1:=zbco r (h a xbp);unfold cN prodL;have h2:∀L:List Nat,(L.map fun x=>cN l (r - x)).sum<=L.length * prodL l:=fun L=>by
   induction L with
   | nil=>simp
   | cons x L ihL =>
    have:=ih (r - x);rw[xbh,xci,xbr,xky];lia
  exact xbb (h2 _) (xfc _ h1)
theorem tab33:∀a < 17,∀b < 6,∀c < 3,∀d < 2,a+3 * b+7 * c+15 * d<=16->(a+1) * ((b+1) * ((c+1) * ((d+1) * 1)))<=33:=by decide +kernel
theorem four {l:RowI}{m:Int}(h:Lw m l):∃a b c d:Nat,(a:Int)+3 * b+7 * c+15 * d<=m/\((l=[]/\a=0/\b=0/\c=0/\d=0)\/(l=[(a:Int)]/\b=0/\c=0/\d=0)\/(l=[(a:Int),b]/\c=0/\d=0)\/(l=[(a:Int),b,c]/\d=0)\/l=[(a:Int),b,c,d]):=by
 have h1:=h.len;have h2:=h.nn;have h3:=h.wt
 match l,h1,h2,h3 with
 | [],_,_,h3=>exact⟨0,0,0,0,by simpa [wtI] using h3,.inl ⟨rfl,rfl,rfl,rfl,rfl⟩⟩
 | [a],_,h2,h3 =>
  obtain⟨a,rfl⟩:=xda (h2 a (by simp));exact⟨a,0,0,0,by simp only[wtI] at h3;lia,.inr (.inl ⟨rfl,rfl,rfl,rfl⟩)⟩
 | [a,b],_,h2,h3 =>
  obtain⟨a,rfl⟩:=xda (h2 a (by simp));obtain⟨b,rfl⟩:=xda (h2 b (by simp));exact⟨a,b,0,0,by simp only[wtI] at h3;lia,.inr (.inr (.inl ⟨rfl,rfl,rfl⟩))⟩
 | [a,b,c],_,h2,h3 =>
  obtain⟨a,rfl⟩:=xda (h2 a (by simp));obtain⟨b,rfl⟩:=xda (h2 b (by simp));obtain⟨c,rfl⟩:=xda (h2 c (by simp));exact⟨a,b,c,0,by simp only[wtI] at h3;lia,.inr (.inr (.inr (.inl ⟨rfl,rfl⟩)))⟩
 | [a,b,c,d],_,h2,h3 =>
  obtain⟨a,rfl⟩:=xda (h2 a (by simp));obtain⟨b,rfl⟩:=xda (h2 b (by simp));obtain⟨c,rfl⟩:=xda (h2 c (by simp));obtain⟨d,rfl⟩:=xda (h2 d (by simp));exact⟨a,b,c,d,by simp only[wtI] at h3;lia,.inr (.inr (.inr (.inr rfl)))⟩
 | _::_::_::_::_::_,h1,_,_=>simp only[xbr] at h1;lia
theorem zbhw {l:RowI}(h:Lw 16 l)(r:Nat):cN l r<=33:=by
 refine xbb (zta h.nn r) ?_;obtain⟨a,b,c,d,hw,hl⟩:=four h;have key:=tab33 a (by lia) b (by lia) c (by lia) d (by lia) (by lia);rcases hl with⟨rfl,rfl,rfl,rfl,rfl⟩ | ⟨rfl,rfl,rfl,rfl⟩ | ⟨rfl,rfl,rfl⟩ | ⟨rfl,rfl⟩ | rfl
 ·decide
 all_goals
  simp only[prodL,xgn];lia
theorem tab3:((List.range 11).all fun e=>(List.range 9).all fun a=>(List.range 3).all fun b=>(List.range 2).all fun c=>!decide (a+3 * b+7 * c<=8)||(decide (cN [(a:Int),(b:Int),(c:Int)] e<=3 ^ e)&&decide (cN [(a:Int),(b:Int),(c:Int),0] e<=3 ^ e)))=true:=by decide +kernel
theorem tab3a {e a b c:Nat}(he:e < 11)(ha:a < 9)(hb:b < 3)(hc:c < 2)(h:a+3 * b+7 * c<=8):cN [(a:Int),(b:Int),(c:Int)] e<=3 ^ e/\cN [(a:Int),(b:Int),(c:Int),0] e<=3 ^ e:=by
 have h1:=xgd.mp (xgd.mp (xgd.mp (xgd.mp tab3 e (xdr.mpr he)) a (xdr.mpr ha)) b (xdr.mpr hb)) c (xdr.mpr hc);rw[xcm h,xgm,Bool.false_or,xdt] at h1;exact⟨xeu h1.1,xeu h1.2⟩
theorem tab3b:∀e < 11,∀a:Nat,a < 9->∀b:Nat,b < 3->a+3 * b<=8->cN [(a:Int),b] e<=3 ^ e/\cN [(a:Int)] e<=3 ^ e:=by decide +kernel
theorem cN_3 {l:RowI}(h:Lw 8 l){e:Nat}(he:e<=10):cN l e<=3 ^ e:=by
 obtain⟨a,b,c,d,hw,hl⟩:=four h;have hd:d=0:=by lia
 subst hd;rcases hl with⟨rfl,rfl,rfl,rfl,_⟩ | ⟨rfl,rfl,rfl,_⟩ | ⟨rfl,rfl,_⟩ | ⟨rfl,_⟩ | rfl
 ·exact xim (by simp)
 ·exact(tab3b e (by lia) a (by lia) 0 (by lia) (by lia)).2
 ·exact(tab3b e (by lia) a (by lia) b (by lia) (by lia)).1
 ·exact(tab3a (by lia) (by lia) (by lia) (by lia) (by lia)).1
 ·exact(tab3a (by lia) (by lia) (by lia) (by lia) (by lia)).2
theorem Lw.mono {m m':Int}{l:RowI}(h:Lw m l)(hm:m<=m'):Lw m' l:=⟨h.len,h.nn,Int.le_trans h.wt hm⟩
theorem znt {l:RowI}(hn:∀x∈l,0<=x):∀x∈l,x<=l.sum:=by
 induction l with
 | nil=>intro x hx;cases hx
 | cons a l ih =>
  intro x hx;have h0:=hn a xbp;have h1:=nnS fun y hy=>hn y (xbl a hy)
  rw[xci];rcases xcc.mp hx with rfl | hx
  ·lia
  ·have:=ih (fun y hy=>hn y (xbl _ hy)) x hx;lia
theorem bwA {pr:RowI}{N d:Int}(hl:pr.length=N.toNat)(h1:1<=N)(h3:N<=3)(hn:∀x∈pr,0<=x)(hs:pr.sum<=d)(hd:d<=24):Bw 16 pr (fun i=>33 ^ i)/\33 ^ pr.length<=35937:=by
 have p3:∀i,i<=pr.length->33 ^ i<=35937:=fun i hi=>xbb (xka (by decide) (show i<=3 by lia)) (by decide)
 refine⟨⟨xbd _,fun i l _ h=>?_,fun i hi=>xbb (p3 i hi) (by decide),hn,fun e he=>?_,by lia,by lia,fun l h i _=>xbb (zbhw h _) (by decide)⟩,p3 _ (xbd _)⟩
 ·rw[Nat.pow_succ];exact Nat.mul_le_mul_left _ (zbhw h _)
 ·have:=znt hn e he;lia
theorem zgb {l:RowI}(hn:∀x∈l,0<=x)(i:Nat):0<=(l.take i).sum/\(l.take i).sum<=l.sum:=by
 have h1:=nnS fun x hx=>hn x (xfu (i:=i) hx)
 have h2:=nnS fun x hx=>hn x (xft (i:=i) hx)
 have h3:l.sum=(l.take i).sum+(l.drop i).sum:=by rw[← xel,xdv]
 lia
theorem bwB {pr:RowI}{N:Int}(hl:pr.length=N.toNat)(h1:1<=N)(h3:N<=10)(hn:∀x∈pr,0<=x)(hs:pr.sum<=10):Bw 8 pr (fun i=>3 ^ (pr.take i).sum.toNat)/\3 ^ (pr.take pr.length).sum.toNat<=59049:=by
 have p3:∀i,3 ^ (pr.take i).sum.toNat<=59049:=fun i=>xbb (xka (by decide) (show(pr.take i).sum.toNat<=10 by have:=zgb hn i;lia)) (by decide)
 have ge:∀i,i < pr.length->0<=pr.getD i 0/\pr.getD i 0<=10:=fun i hi=>by
  have:=znt hn _ (zhg hi);exact⟨hn _ (zhg hi),by lia⟩
 refine⟨⟨by simp,fun i l hi h=>?_,fun i hi=>xbb (p3 i) (by decide),hn,fun e he=>?_,by lia,by lia,fun l h i hi=>?_⟩,p3 _⟩
 ·have g:=ge i hi;have t:=(zgb hn i).1;rw[zgs hi,xel];simp only[xci,xiq,Int.add_zero];rw[Int.toNat_add t g.1,Nat.pow_add];exact Nat.mul_le_mul_left _ (cN_3 h (by lia))
 ·have:=znt hn e he;lia
 ·have g:=ge i hi;exact xbb (cN_3 h (show(pr.getD i 0).toNat<=10 by lia)) (xbb (xka (by decide) (show(pr.getD i 0).toNat<=10 by lia)) (by decide))
end Dd
namespace Dd
open PySem L2 K07 K23
theorem zfn {st:Store}{l:List (List Int)}(hr:∀r∈l,r.length<=1000):zbo [aK l,aK l] st=.ok (.bl true) st:=by
 have W:=zuz (bd:=gN 2) (body:=zbm) (xs:=aJ l) (σ:=[some (aK l),some (aK l),none]) (st:=st) (fun i σ s=>s=st/\∃v,σ=[some (aK l),some (aK l),v]) ⟨rfl,none,rfl⟩ (by
   rintro i y σ s hy ⟨rfl,v,rfl⟩;obtain⟨r,hk,rfl⟩:=zbw hy;have hrl:=hr r (xby hk);have V:=zsy (bd:=gN 0) (c:=aI) (f:=eOr (eNot (aE bIsinst (aB (aA 0) (aB (eC (.ty "int")) aC)))) (aE bIsinst (aB (aA 0) (aB (eC (.ty "bool")) aC)))) (xs:=r.map D.int) (σ:=[none]) (st:=s)
    (fun i acc σ s'=>s'=s/\(∃v,σ=[v])/\acc=(r.take i).map fun _=>D.bl false) ⟨rfl,⟨none,rfl⟩,rfl⟩ (by
     rintro i y acc σ s' hy ⟨rfl,⟨v,rfl⟩,rfl⟩;rw[xcb] at hy;cases hx:r[i]? with
     | none=>rw[hx] at hy;cases hy
     | some x =>
      rw[hx] at hy;cases hy;refine⟨[some (.int x)],true,s',rfl,rfl,.inr ⟨rfl,.bl false,s',rfl,rfl,⟨_,rfl⟩,?_⟩⟩;rw[zo hx]
      simp)
   obtain⟨ys,σ',st',e,rfl,_,rfl⟩:=V;rw[zhx,xcn] at e;have ec:aG (aH (aA 2)) 1 [] (gN 0) aI (eOr (eNot (aE bIsinst (aB (aA 0) (aB (eC (.ty "int")) aC)))) (aE bIsinst (aB (aA 0) (aB (eC (.ty "bool")) aC)))) [some (aK l), some (aK l), some (aL r)] st'=.ok (.lst (r.map fun _=>D.bl false)) st':=by
    rw[zog];show(if(r.map D.int).length<=sizeLine then _ else _)=_;rw[if_pos (by rw[zhx];exact small _ (by lia))];show((compF _ _ _ _ [none] _).bind _)=_;rw[e]
    rfl
   have eb:bAny false [.lst (r.map fun _=>D.bl false)] st'=.ok (.bl false) st':=by
    have:asBools (r.map fun _=>D.bl false)=some (r.map fun _=>false):=by
     clear e ec hrl hk hy
     induction r with
     | nil=>rfl
     | cons a r ih=>rw[xbh,asBools,ih];rfl
    unfold bAny;simp[this]
   refine⟨[some (aK l),some (aK l),some (aL r)],[some (aK l),some (aK l),some (aL r)],st',rfl,?_,rfl,_,rfl⟩;unfold zbm;have t1:bNot (eTru (aE bIsinst (aB (aA 2) (aB (eC (.ty "tuple")) aC)))) [some (aK l), some (aK l), some (aL r)] st'=.ok false st':=rfl
   have t2:eTru (aE (bAny false) (aB (aG (aH (aA 2)) 1 [] (gN 0) aI (eOr (eNot (aE bIsinst (aB (aA 0) (aB (eC (.ty "int")) aC)))) (aE bIsinst (aB (aA 0) (aB (eC (.ty "bool")) aC))))) aC)) [some (aK l), some (aK l), some (aL r)] st'=.ok false st':=by
    rw[zvc,zoh,zll,ec];show((bAny false [.lst (r.map fun _=>D.bl false)] st').bind _)=_;rw[eb]
    rfl
   rw[zbcw,zbgn,t1,zcl,if_neg (by decide),t2]
   rfl)
 obtain⟨σ',st',e,rfl,v,rfl⟩:=W;refine zme rfl ?_;refine seqN (σ1:=[some (aK l),some (aK l),none]) (st1:=st') ?_ ?_
 ·have t1:bNot (eTru (aE bIsinst (aB (aA 0) (aB (eC (.ty "tuple")) aC)))) [some (aK l), some (aK l), none] st'=.ok false st':=rfl
  have t2:eB (aS oNe (aA 0) (aA 1)) [some (aK l),some (aK l),none] st'=.ok false st':=by
   rw[eB_v,zbhq];show((oNe (aK l) (aK l) st').bind _)=_;rw[show oNe (aK l) (aK l) st'=_ from zyy l l];simp
  show sIf _ _ _ [some (aK l),some (aK l),none] st'=_;rw[zbcw,zbgn,t1,zcl,if_neg (by decide),t2]
  rfl
 refine seqN (σ1:=[some (aK l),some (aK l),v]) (st1:=st') ?_ rfl;rw[zbcx];exact e
end Dd
namespace Dd
open PySem L2 K13
theorem zjj {m:Int}{cs ps:List RowI}{c:Nat}(h:Ab m cs ps c):∀x∈aO (lawAll cs ps),x.length<=1000:=fun x hx=>by
 obtain⟨r,hr,h1⟩:=xhy.mp (zfl hx);obtain⟨pr,hp,h2⟩:=xhy.mp h1;obtain⟨p,h3,rfl⟩:=xdk.mp h2;obtain⟨B,hB,_⟩:=h.pro pr hp;have:=(zhc (h.row r hr) (xfg.mp h3).1).2;have:=hB.len;lia
section
variable {st:Store}{n:Nat}{Q:D->Store->Prop}
theorem zuu {S v1 v2 v3 v6 v7:Option D}{st:Store}{m:Int}{cs ps:List RowI}{c:Nat}{I:DS->Store->Prop}{R:Fl->Store->Prop}(h:Ab m cs ps c)(k:∀w6 w7 s,I [S,v1,v2,v3,some (aK cs),some (aK ps),w6,w7] s) :
  WP (aD (aF 6 (aE zt (aB (aA 4) (aB (aA 5) aC)))) (sFor (iR1 (aB (eC (.int 2)) aC)) (gN 7) zjw) [S,v1,v2,v3,some (aK cs),some (aK ps),v6,v7] st) (loopK I R):=by
 refine zcf (R:=fun fl s=>fl=.nx [S,v1,v2,v3,some (aK cs),some (aK ps),some (aK (aO (lawAll cs ps))),v7]) ?_ ?_
 ·simp only[W,V];generalize ha:aK cs=aa;generalize hb:aK ps=bb;refine zvk ha.symm hb.symm h fun g=>?_
  subst ha hb
  rfl
 rintro fl s rfl;show WP _ _;generalize hd:aK (aO (lawAll cs ps))=due;simp only[W,V,Dd.N];refine⟨rngN (by lia) (by lia),?_⟩;refine zcg (fun i σ s=>∃w7,σ=[S,v1,v2,v3,some (aK cs),some (aK ps),some due,w7]) ⟨_,rfl⟩ ?_ ?_
 ·rintro i x σ s hx ⟨w7,rfl⟩;refine⟨_,rfl,?_⟩;unfold zjw;simp only[W,V,Dd.N];generalize ha:aK cs=aa;generalize hb:aK ps=bb;refine zhn ha.symm hb.symm h fun g=>?_
  subst ha hb hd;refine WP.of (zfn (zjj h)) ?_;refine⟨true,rfl,?_⟩;rw[if_neg (by decide)];simp only[L];exact⟨_,rfl⟩
 ·rintro σ s ⟨w7,rfl⟩;subst hd;exact k _ _ _
end
theorem zrd (ns:List Int)(hl:ns.length<=63):∃st',zbgx [.scr (ns.map .int)] []=.ok (.bl true) st':=by
 have key:WP (zbgx [.scr (ns.map .int)] []) (fun v _=>v=.bl true):=by
  refine zlm rfl ?_;simp only[W,V];have hle:((ns.map D.int).length:Int)<=63:=by rw[xbc];lia
  have hge:(0:Int)<=((ns.map D.int).length:Int):=by lia
  generalize ((ns.map D.int).length:Int)=len at hle hge;refine⟨_,rfl,rngN (by split<;>lia) (by split<;>lia),?_⟩;refine zcg (fun i σ s=>∃v1 v2 v3 v4 v5 v6 v7:Option D,σ=[some (.scr (ns.map .int)),v1,v2,v3,v4,v5,v6,v7]) ⟨_,_,_,_,_,_,_,rfl⟩ ?_ ?_
  ·rintro i x σ s0 hx ⟨v1,v2,v3,v4,v5,v6,v7,rfl⟩;obtain⟨hi,rfl⟩:=zgd hx;have hi2:i<=20:=by split at hi<;>lia
   refine⟨_,rfl,?_⟩;unfold zpf;refine zcf (R:=fun fl s=>fl=.nx [some (.scr (ns.map .int)),some (.int i),some (.ref s0.length),v3,v4,v5,v6,v7]/\BagAt s s0.length) ?_ ?_
   ·simp only[W,V];rw[xio];exact zbgk hl (by lia) fun g hb=>⟨rfl,hb⟩
   rintro fl s ⟨rfl,hb⟩;show WP _ _;refine zcf (R:=fun fl s=>∃a:Int,1<=a/\a<=3/\fl=.nx [some (.scr (ns.map .int)),some (.int i),some (.ref s0.length),some (.int a),v4,v5,v6,v7]/\BagAt s s0.length) ?_ ?_
   ·simp only[W,V];refine zch hb (by lia) (by lia) fun y s1 y0 y1 d=>?_
    simp only[W,V,Dd.N];exact⟨1+y,by lia,by lia,rfl,d.bag⟩
   rintro fl s ⟨a,a1,a2,rfl,hb⟩;show WP _ _;refine zcf (R:=fun fl s=>∃a:Int,1<=a/\a<=10/\fl=.nx [some (.scr (ns.map .int)),some (.int i),some (.ref s0.length),some (.int a),v4,v5,v6,v7]/\BagAt s s0.length) ?_ ?_
   ·simp only[W,V];refine zch hb (by lia) (by lia) fun y s1 y0 y1 d=>?_
    simp only[W,V,Dd.N];split
    ·refine zch d.bag (by lia) (by lia) fun z s2 z0 z1 d2=>?_
     simp only[W,V,Dd.N];exact⟨4+z,by lia,by lia,rfl,d2.bag⟩
    ·exact⟨a,a1,by lia,rfl,d.bag⟩
   rintro fl s ⟨a,a1,a2,rfl,hb⟩;show WP _ _;refine zcf (R:=fun fl s=>∃(m:Int) (cs ps:List RowI) (c:Nat),Ab m cs ps c/\fl=.nx [some (.scr (ns.map .int)),some (.int i),some (.ref s0.length),some (.int a),some (aK cs),some (aK ps),v6,v7]) ?_ ?_
   ·simp only[W,V,Dd.N];split
    ·rename_i lt;refine⟨by show 2<=sizeLine;decide,?_⟩;refine zch hb (by lia) (by lia) fun y s1 y0 y1 d=>?_
     have pick:∃m:Int,0<=m/\m<=16/\oIx (.lst [.int 12,.int 16]) (.int y) s1=.ok (.int m) s1:=by
      have:y=0\/y=1:=by lia
      rcases this with rfl | rfl
      ·exact⟨12,by decide,by decide,rfl⟩
      ·exact⟨16,by decide,by decide,rfl⟩
     obtain⟨m,m0,m1,em⟩:=pick;refine WP.of em ?_;refine zdn d.bag (by lia) (by lia) m0 m1 fun cs s2 c1 c2 d2=>?_
     refine⟨by show 4<=sizeLine;decide,?_⟩;refine zch d2.bag (by lia) (by lia) fun z s3 z0 z1 d3=>?_
     have pick2:∃q:Int,0<=q/\q<=24/\oIx (.lst [.int 24,.int 24,.int 16,.int 24]) (.int z) s3=.ok (.int q) s3:=by
      have:z=0\/z=1\/z=2\/z=3:=by lia
      rcases this with rfl | rfl | rfl | rfl
      ·exact⟨24,by decide,by decide,rfl⟩
      ·exact⟨24,by decide,by decide,rfl⟩
      ·exact⟨16,by decide,by decide,rfl⟩
      ·exact⟨24,by decide,by decide,rfl⟩
     obtain⟨q,q0,q1,eq⟩:=pick2;refine WP.of eq ?_;refine zsc d3.bag a1 (by lia) (by lia) (by lia) q0 (by lia) fun ps s4 p1 p2 p3 d4=>?_
     refine⟨16,cs,ps,35937,⟨fun r hr=>(c2 r hr).mono m1,fun pr hp=>⟨_,bwA (N:=a) (p2.len pr hp) a1 (by lia) (p2.pos pr hp) (p3 pr hp) q1⟩,?_⟩,rfl⟩;have h1:ps.length * 35937<=5 * 35937:=xfc _ (by lia);exact xbb (Nat.mul_le_mul (show cs.length<=4 by lia) h1) (by decide)
    ·rename_i ge;refine⟨by show 2<=sizeLine;decide,?_⟩;refine zch hb (by lia) (by lia) fun y s1 y0 y1 d=>?_
     have pick:∃m:Int,0<=m/\m<=8/\oIx (.lst [.int 6,.int 8]) (.int y) s1=.ok (.int m) s1:=by
      have:y=0\/y=1:=by lia
      rcases this with rfl | rfl
      ·exact⟨6,by decide,by decide,rfl⟩
      ·exact⟨8,by decide,by decide,rfl⟩
     obtain⟨m,m0,m1,em⟩:=pick;refine WP.of em ?_;refine zdn d.bag (by lia) (by lia) m0 (by lia) fun cs s2 c1 c2 d2=>?_
     refine zsc d2.bag a1 (by lia) (by lia) (by lia) (by lia) (by lia) fun ps s4 p1 p2 p3 d4=>?_
     refine⟨8,cs,ps,59049,⟨fun r hr=>(c2 r hr).mono m1,fun pr hp=>⟨_,bwB (N:=a) (p2.len pr hp) a1 a2 (p2.pos pr hp) (p3 pr hp)⟩,?_⟩,rfl⟩;have h1:ps.length * 59049<=2 * 59049:=xfc _ (by lia);exact xbb (Nat.mul_le_mul (show cs.length<=2 by lia) h1) (by decide)
   rintro fl s ⟨m,cs,ps,c,h,rfl⟩;show WP _ _;exact zuu h fun w6 w7 s=>⟨_,_,_,_,_,_,_,rfl⟩
  ·rintro σ s ⟨v1,v2,v3,v4,v5,v6,v7,rfl⟩;simp only[W,V]
 obtain⟨v,st',e,rfl⟩:=key.get;exact⟨st',e⟩
end Dd
namespace K38
theorem holds:∀ns:List Int,ns.length<=63->∃st',Dd.zbgx [.scr (ns.map .int)] []=.ok (.bl true) st':=fun ns hl=>Dd.zrd ns hl
end K38
namespace K38
open PySem L2 Dd
noncomputable def top (i:Nat):Stmt:=PySem.Challenge.pw_raisedsums_k38_counts_done.main.body.getD i (.Pass ⟨0,0,0,0⟩)
section
variable {Y:En}
theorem zma (T:TopF Y.K "_law_bag" (top 10))(Ae:Y.mg "len"=none)(z_abs:Y.mg "abs"=none)(Af:Y.mg "min"=none)(Aa:Y.mg "range"=none):Cl Y "_law_bag" 1 ["_law_script", "_law_at"] zeg:=cmk ["_law_script", "_law_at", "_law_cell", "_law_mix", "_law_k"] T fun nd f cdv A outer s H E hr=>(zb (sst nd zd)
 (zb (zec (zbr (zqn hr.units0) zqt sv (zq zbs zpb rfl Ae zoz (sa1 sv)) (nomark _)) (zc (sst nd (zq zvx zbgt rfl z_abs zbgi (sa1 (zkx sv sv (fun _ _=>rfl)))))) zdd)
 (zb (sst nd (sad (zel zfx (oI_D fun _ _ _ _=>.int _) zd sv) zd))
 (zb (sfr (zbl rfl Aa (sa1 (zq (zhp rfl) zbgu rfl Af zvz (sa2 (zq zbs zpb rfl Ae zoz (sa1 sv)) zd)))) (sgn nd)
 (zc (sst nd (zel zlw (oI_D fun _ _ _ _=>.int _) (sad (sad (zel zfx (oI_D fun _ _ _ _=>.int _) sv zd) (zel zlw (oI_D fun _ _ _ _=>.int _) (zkx sv sv (fun _ _=>rfl)) zd)) sv) zd))))
 (zb (zec (zbr (zqn hr.units0) zqt sv (zel zbdx (oI_D fun _ _ _ _=>.int _) zd zd) (nomark _)) (zc (sst nd zd)) zdd)
 (zc (zbe (zer (sa2 sv sv)))))))))
theorem zlz (T:TopF Y.K "_law_odd" (top 12))(Ah:Y.mg "sorted"=none)(Ad:Y.mg "tuple"=none):Cl Y "_law_odd" 1 ["_law_things"] zbh:=cmk ["_law_things", "_law_odd_here", "_law_thing"] T fun nd f cdv A outer s H E hr=>(zb (sst nd zsw)
 (zb (sfr (zba sv) (sgn nd)
 (zc (zoj (zwm hr) sv sv (zbaw (zvr (zwm hr) sv sv zsx ⟨rfl,rfl,rfl,rfl⟩)) rfl)))
 (zc (zbe (zed zbx zhq rfl Ad zem (sa1 (zq (zfw rfl hr.units) zlh rfl Ah zlc (sa1 (zfs rfl (zvl sv) (fun _ _ _ _ _=>(zbg (i:=0) (show(["_law_thing", "_law_odd_here"]:List Str).Nodup from by decide +kernel) rfl (Or.inl rfl))) (fun _ _ _ _ _=>(zjn (zgm (zbbb (zwm hr) sv sv (fun _ _=>rfl))))) (fun _ _ _ _ _=>sv) (N:=["_law_thing", "_law_odd_here"]) (k:=1) (is:=[1]) (zfv (by rfl)))))))))))
theorem zgx (T:TopF Y.K "_law_parted" (top 17))(Ae:Y.mg "len"=none)(Aa:Y.mg "range"=none)(Af:Y.mg "min"=none):Cl Y "_law_parted" 1 ["_law_e", "_law_left"] zcs:=cmk ["_law_e", "_law_left", "_law_ways", "_law_k", "_law_further", "_law_built", "_law_rest", "_law_over", "_law_x"] T fun nd f cdv A outer s H E hr=>(zb (sst nd (zjp (sa1 (zcx (zl sv (sa2 sv (zcx zcu)))))))
 (zb (sfr (zbl rfl Aa (sa1 (zq zbs zpb rfl Ae zoz (sa1 sv)))) (sgn nd)
 (zb (sst nd (zer zcu))
 (zb (sfr (zba sv) (zdo rfl (zi (sgn nd) (zi (sgn nd) (zi (sgn nd) zcc))))
 (zc (sfr (zbl rfl Aa (sa1 (sad (zq (zhp rfl) zbgu rfl Af zvz (sa2 sv (zkx sv sv (fun _ _=>rfl)))) zd))) (sgn nd)
 (zc (zec (zbr (znh hr.units) zwk (zel zyu (zsm fun _ _ _ _=>.int _) sv sv) sv (nomark _)) (zc (zbj (zdl sv (sa1 (zcx (zl (sad sv (zel zfx (oI_D fun _ _ _ _=>.int _) sv (ssb (zel zui (oI_D fun _ _ _ _=>.int _) zd sv) zd))) (sa2 (ssb sv sv) (sad sv (zcx (sa1 (ssb (zkx sv sv (fun _ _=>rfl)) sv))))))))))) zdd)))))
 (zc (sst nd (zbax sv))))))
 (zc (zbe (zfs rfl (zba sv) (fun _ _ _ _ _=>(zdo rfl (zi (zbg (i:=0) (show(["_law_built", "_law_rest", "_law_over"]:List Str).Nodup from by decide +kernel) rfl (Or.inl rfl)) (zi (zbg (i:=1) (show(["_law_built", "_law_rest", "_law_over"]:List Str).Nodup from by decide +kernel) rfl (Or.inl rfl)) (zi (zbg (i:=2) (show(["_law_built", "_law_rest", "_law_over"]:List Str).Nodup from by decide +kernel) rfl (Or.inl rfl)) zcc))))) (fun _ _ _ _ _=>zhk) (fun _ _ _ _ _=>(zcx (sa2 sv sv))) (N:=["_law_built", "_law_rest", "_law_over"]) (k:=3) (is:=[]) (zfv (by rfl)))))))
theorem zdx (T:TopF Y.K "_law_counts_done" (top 18))(Ai:Y.mg "any"=none)(An:Cl Y "_law_parted" 1 ["_law_e", "_law_left"] zcs)(Ag:Cl Y "_law_odd" 1 ["_law_things"] zbh):Cl Y "_law_counts_done" 2 ["_law_counts_here", "_law_some"] zt:=cmk ["_law_counts_here", "_law_some", "_law_found", "_law_one", "_law_product_here", "_law_ways", "_law_e", "_law_further", "_law_built", "_law_left"] T fun nd f cdv A outer s H E hr=>(zb (sst nd (zer zcu))
 (zb (sfr (zba sv) (sgn nd)
 (zc (sfr (zba sv) (sgn nd)
 (zb (sst nd (zjp (sa1 (zcx (sa2 (zcx zcu) sv)))))
 (zb (sfr (zba sv) (sgn nd)
 (zb (sst nd (zer zcu))
 (zb (sfr (zba sv) (zdo rfl (zi (sgn nd) (zi (sgn nd) zcc)))
 (zc (zbj (zky sv (sa1 (zfs rfl (zba (scl An hr (sa2 sv sv))) (fun _ _ _ _ _=>(zdo rfl (zi (zbg (i:=0) (show(["_law_x", "_law_over", "_law_built"]:List Str).Nodup from by decide +kernel) rfl (Or.inl rfl)) (zi (zbg (i:=1) (show(["_law_x", "_law_over", "_law_built"]:List Str).Nodup from by decide +kernel) rfl (Or.inl rfl)) zcc)))) (fun _ _ _ _ _=>zhk) (fun _ _ _ _ _=>(zcx (sa2 (sad sv (zcx (sa1 sv))) sv))) (N:=["_law_x", "_law_over", "_law_built"]) (k:=2) (is:=[8]) (zfv (by rfl))))))))
 (zc (sst nd (zbax sv))))))
 (zc (zbj (zky sv (sa1 (zfs rfl (zba sv) (fun _ _ _ _ _=>(zdo rfl (zi (zbg (i:=0) (show(["_law_built", "_law_left"]:List Str).Nodup from by decide +kernel) rfl (Or.inl rfl)) (zi (zbg (i:=1) (show(["_law_built", "_law_left"]:List Str).Nodup from by decide +kernel) rfl (Or.inl rfl)) zcc)))) (fun _ _ _ _ _=>(zjn (zku (zgm (zq (zrz rfl) zbbw rfl Ai zbbq (sa1 sv)))))) (fun _ _ _ _ _=>sv) (N:=["_law_built", "_law_left"]) (k:=2) (is:=[]) (zfv (by rfl))))))))))))
 (zc (zbe (scl Ag hr (sa1 (zbax sv)))))))
theorem zjd (T:TopF Y.K "_law_take" (top 11))  : Cl Y "_law_take" 1 ["_law_bag_here", "_law_many"] zf:=cmk ["_law_bag_here", "_law_many", "_law_digit", "_law_number", "_law_room"] T fun nd f cdv A outer s H E hr=>(zb (zec (zbr zbhl (zsm fun _ _ _ _=>.bl _) (zkx sv zd (fun _ _=>rfl)) zd (nomark _)) (zb (sst nd (zel zlw (oI_D fun _ _ _ _=>.int _) (zkx sv zd (fun _ _=>rfl)) sv))
 (zb (zkv (zel zjc (oI_D fun _ _ _ _=>.int _) (zkx sv zd (fun _ _=>rfl)) sv) sv zd)
 (zc (zbe sv)))) zdd)
 (zb (sst nd zd)
 (zb (sst nd zd)
 (zb (zhj xjy (zbr (zqn hr.units0) zqt sv sv (nomark _)) (zb (zkv (zel zlw (oI_D fun _ _ _ _=>.int _) (sad (zel zfx (oI_D fun _ _ _ _=>.int _) (zkx sv zd (fun _ _=>rfl)) zd) zd) zd) sv zd)
 (zb (sst nd (sad (zel zfx (oI_D fun _ _ _ _=>.int _) sv zd) (zel zlw (oI_D fun _ _ _ _=>.int _) (zel zfx (oI_D fun _ _ _ _=>.int _) (zel zjc (oI_D fun _ _ _ _=>.int _) (zkx sv zd (fun _ _=>rfl)) zd) zd) zd)))
 (zc (sst nd (zel zfx (oI_D fun _ _ _ _=>.int _) sv zd))))))
 (zc (zbe (zel zlw (oI_D fun _ _ _ _=>.int _) sv sv)))))))
theorem zgy (T:TopF Y.K "_law_counts" (top 13))(Aa:Y.mg "range"=none)(Ae:Y.mg "len"=none)(Ad:Y.mg "tuple"=none)(Ac:Cl Y "_law_take" 1 ["_law_bag_here", "_law_many"] zf):Cl Y "_law_counts" 2 ["_law_bag_here", "_law_most"] zct:=cmk ["_law_bag_here", "_law_most", "_law_counts_here", "_law_left", "_law_k", "_law_more"] T fun nd f cdv A outer s H E hr=>(zb (sst nd (zer zcu))
 (zb (sst nd sv)
 (zb (sfr (zon rfl Aa (zl zd (sa2 (zrs zd) (zrs zd)))) (sgn nd)
 (zb (sst nd (scl Ac hr (sa2 sv (sad (zel zjc (oI_D fun _ _ _ _=>.int _) sv (ssb (zel zui (oI_D fun _ _ _ _=>.int _) zd sv) zd)) zd))))
 (zb (sst nd (ssb sv (zel zfx (oI_D fun _ _ _ _=>.int _) sv (ssb (zel zui (oI_D fun _ _ _ _=>.int _) zd sv) zd))))
 (zc (zbj (zdl sv (sa1 sv)))))))
 (zb (zhj xjy (JW.pt (zbab (zbr zbhl (zsm fun _ _ _ _=>.bl _) (zq zbs zpb rfl Ae zoz (sa1 sv)) zd (nomark _)) (zoi (zbr (znh hr.units) zwk (zkx sv zd (fun _ _=>rfl)) zd (nomark _)) (by first | exact Or.inl rfl | exact Or.inr rfl)))) (zc (zbj (zbav sv (sa1 zd)))))
 (zc (zbe (zed zbx zhq rfl Ad zem (sa1 (zbbf sv (zrs zd))))))))))
theorem zdw (T:TopF Y.K "_law_some_counts" (top 14))(Aa:Y.mg "range"=none)(Ag:Cl Y "_law_odd" 1 ["_law_things"] zbh)(Ac:Cl Y "_law_take" 1 ["_law_bag_here", "_law_many"] zf)(Ao:Cl Y "_law_counts" 2 ["_law_bag_here", "_law_most"] zct):Cl Y "_law_some_counts" 3 ["_law_bag_here", "_law_many", "_law_most"] zr:=cmk ["_law_bag_here", "_law_many", "_law_most"] T fun nd f cdv A outer s H E hr=>(zc (zbe (scl Ag hr (sa1 (scp ["_law_k", "_law_bag_here", "_law_most"] (zbl rfl Aa (sa1 (scl Ac hr (sa2 sv (sad sv zd))))) (fun _ _ _ _ _=>(scl Ao hr (sa2 sv sv))))))))
theorem zfy (T:TopF Y.K "_law_product" (top 15))(Aa:Y.mg "range"=none)(Ad:Y.mg "tuple"=none)(Ac:Cl Y "_law_take" 1 ["_law_bag_here", "_law_many"] zf):Cl Y "_law_product" 2 ["_law_bag_here", "_law_n", "_law_degree"] zca:=cmk ["_law_bag_here", "_law_n", "_law_degree", "_law_left", "_law_exponents", "_law_k", "_law_at"] T fun nd f cdv A outer s H E hr=>(zb (sst nd (scl Ac hr (sa2 sv (sad sv zd))))
 (zb (zec (zbr (znh hr.units) zwk (scl Ac hr (sa2 sv zd)) zd (nomark _)) (zc (sst nd sv)) zdd)
 (zb (sst nd (zer zcu))
 (zb (sfr (zbl rfl Aa (sa1 (ssb sv zd))) (sgn nd)
 (zb (zbj (zdl sv (sa1 (scl Ac hr (sa2 sv (sad sv zd))))))
 (zc (sst nd (ssb sv (zkx sv (zrs zd) (fun _ _=>rfl)))))))
 (zb (zbj (zdl sv (sa1 sv)))
 (zb (sst nd (scl Ac hr (sa2 sv sv)))
 (zc (zbe (zed zbx zhq rfl Ad zem (sa1 (sad (zbhu sv (zol sv) zom) (zbhu sv zom (zol sv)))))))))))))
theorem zly (T:TopF Y.K "_law_sum" (top 16))(Aa:Y.mg "range"=none)(Ag:Cl Y "_law_odd" 1 ["_law_things"] zbh)(Ac:Cl Y "_law_take" 1 ["_law_bag_here", "_law_many"] zf)(Ap:Cl Y "_law_product" 2 ["_law_bag_here", "_law_n", "_law_degree"] zca):Cl Y "_law_sum" 3 ["_law_bag_here", "_law_n", "_law_many", "_law_degree"] zef:=cmk ["_law_bag_here", "_law_n", "_law_many", "_law_degree"] T fun nd f cdv A outer s H E hr=>(zc (zbe (scl Ag hr (sa1 (scp ["_law_k", "_law_bag_here", "_law_n", "_law_degree"] (zbl rfl Aa (sa1 (scl Ac hr (sa2 sv (sad sv zd))))) (fun _ _ _ _ _=>(scl Ap hr (zl sv (sa2 sv sv)))))))))
theorem zfk (T:TopF Y.K "_law_are_rows" (top 19))(Ad:Y.mg "tuple"=none)(Aj:Y.mg "isinstance"=none)(z_bool:Y.mg "bool"=none)(z_int:Y.mg "int"=none)(Ai:Y.mg "any"=none):Cl Y "_law_are_rows" 1 ["_law_found", "_law_due"] zbo:=cmk ["_law_found", "_law_due", "_law_row"] T fun nd f cdv A outer s H E hr=>(zb (zec (JW.pt (zbaa (zku (zgm (zq zdm zfc rfl Aj zby (sa2 sv (zru (zkh (v:=.ty "tuple") rfl Ad zem rfl) (fun _ _=>.ty _)))))) (zoi (zbr (zbdy hr.units) zwk sv sv (nomark _)) (by first | exact Or.inl rfl | exact Or.inr rfl)))) (zc (zbe zsx)) zdd)
 (zb (sfr (zba sv) (sgn nd)
 (zc (zec (JW.pt (zbaa (zku (zgm (zq zdm zfc rfl Aj zby (sa2 sv (zru (zkh (v:=.ty "tuple") rfl Ad zem rfl) (fun _ _=>.ty _)))))) (zoi (zgm (zq (zvw rfl) zbgr rfl Ai zbbq (sa1 (scp ["_law_x"] (zba sv) (fun _ _ _ _ _=>(zbji (zbaw (zq zdm zfc rfl Aj zby (sa2 sv (zru (zkh (v:=.ty "int") rfl z_int zbgh rfl) (fun _ _=>.ty _))))) (zbfu (zq zdm zfc rfl Aj zby (sa2 sv (zru (zkh (v:=.ty "bool") rfl z_bool zbbp rfl) (fun _ _=>.ty _))))))))))) (by first | exact Or.inl rfl | exact Or.inr rfl)))) (zc (zbe zsx)) zdd)))
 (zc (zbe zsx))))
theorem zqo (T:TopF Y.K "shares" (top 3))  : Cl Y "shares" 1 ["e", "least", "most"] zhr:=cmk ["e", "least", "most", "told", "j"] T fun nd f cdv A outer s H E hr=>(zb (sst nd (zer zcu))
 (zb (sst nd zd)
 (zb (zhj xjy (zbr zbhk (zsm fun _ _ _ _=>.bl _) sv sv (nomark _)) (zb (zec (zbr zbin (zsm fun _ _ _ _=>.bl _) sv sv (nomark _)) (zc (zbj (zdl sv (sa1 sv)))) zdd)
 (zb (zec (zbr (znh hr.units) zwk sv sv (nomark _)) (zc zrn) zdd)
 (zc (sst nd (zel zyu (zsm fun _ _ _ _=>.int _) (ssb sv sv) sv))))))
 (zc (zbe (zbax sv))))))
theorem zlx (T:TopF Y.K "partings" (top 5))(Ak:Y.mg "sum"=none)(Aq:Cl Y "shares" 1 ["e", "least", "most"] zhr):Cl Y "partings" 2 ["e", "left", "rest"] zee:=cmk ["e", "left", "rest", "told", "weight", "number", "longer", "free", "made", "lefts", "part"] T fun nd f cdv A outer s H E hr=>(zb (sst nd (zjp (sa1 (zcx (zl sv (sa2 sv (zcx zcu)))))))
 (zb (sst nd zd)
 (zb (sfr (zba sv) (sgn nd)
 (zb (sst nd (zer zcu))
 (zb (sfr (zba sv) (zdo rfl (zi (sgn nd) (zi (sgn nd) (zi (sgn nd) zcc))))
 (zc (sfr (zba (scl Aq hr (zl sv (sa2 (ssb sv sv) sv)))) (sgn nd)
 (zc (zbj (zdl sv (sa1 (zcx (zl (ssb sv sv) (sa2 (sad sv (zel zfx (oI_D fun _ _ _ _=>.int _) sv sv)) (sad sv (zcx (sa1 (ssb sv sv))))))))))))))
 (zb (sst nd (zbax sv))
 (zc (sst nd (sad (zel zfx (oI_D fun _ _ _ _=>.int _) zd sv) zd)))))))
 (zc (zbe (zfs rfl (zba sv) (fun _ _ _ _ _=>(zdo rfl (zi (zbg (i:=0) (show(["free", "made", "lefts", "rest"]:List Str).Nodup from by decide +kernel) rfl (Or.inl rfl)) (zi (zbg (i:=1) (show(["free", "made", "lefts", "rest"]:List Str).Nodup from by decide +kernel) rfl (Or.inl rfl)) (zi (zbg (i:=2) (show(["free", "made", "lefts", "rest"]:List Str).Nodup from by decide +kernel) rfl (Or.inl rfl)) zcc))))) (fun _ _ _ _ _=>(zjn (zbr zbhk (zsm fun _ _ _ _=>.bl _) (zq (zlb rfl) zbbu rfl Ak zbbn (sa1 sv)) sv (nomark _)))) (fun _ _ _ _ _=>(zcx (sa2 sv sv))) (N:=["free", "made", "lefts", "rest"]) (k:=3) (is:=[2]) (zfv (by rfl))))))))
theorem znj (T:TopF Y.K "flip" (top 1))  : Cl Y "flip" 1 ["kept", "thing"] zfd:=cmk ["kept", "thing"] T fun nd f cdv A outer s H E hr=>(zc (zec (zbac (zyp hr.units sv sv)) (zc (zbj (zvp hr.units sv sv ⟨rfl, rfl, rfl, rfl⟩))) (zc (zrm hr.units sv sv zsx rfl))))
theorem zfj (T:TopF Y.K "letter_parted" (top 6))(z_list:Y.mg "list"=none)(Ar:Cl Y "partings" 2 ["e", "left", "rest"] zee)(As:Cl Y "flip" 1 ["kept", "thing"] zfd):Cl Y "letter_parted" 3 ["partly", "e", "rest"] zbk:=cmk ["partly", "e", "rest", "kept", "made", "left", "exponent", "lefts"] T fun nd f cdv A outer s H E hr=>(zb (sst nd zvq)
 (zb (sfr (zba sv) (zdo rfl (zi (sgn nd) (zi (sgn nd) zcc)))
 (zc (sfr (zba (scl Ar hr (zl sv (sa2 sv sv)))) (zdo rfl (zi (sgn nd) (zi (sgn nd) zcc)))
 (zc (zbj (scl As hr (sa2 sv (zcx (sa2 (sad sv (zcx (sa1 sv))) sv)))))))))
 (zc (zbe (zed (zoy rfl) zwb rfl z_list zbbo (sa1 sv))))))
theorem zcj (T:TopF Y.K "counts_done_on_product" (top 7))(Ak:Y.mg "sum"=none)(Au:Cl Y "letter_parted" 3 ["partly", "e", "rest"] zbk):Cl Y "counts_done_on_product" 4 ["numbers", "product"] zm:=cmk ["numbers", "product", "rest", "partly", "e"] T fun nd f cdv A outer s H E hr=>(zb (sst nd (zq (zlb rfl) zbbu rfl Ak zbbn (sa1 sv)))
 (zb (sst nd (zjp (sa1 (zcx (sa2 (zcx zcu) sv)))))
 (zb (sfr (zba sv) (sgn nd)
 (zb (zbai (i:=2) nd rfl (Or.inl rfl) sv zbeu ip_D)
 (zc (sst nd (scl Au hr (zl sv (sa2 sv sv)))))))
 (zc (zbe (zfs rfl (zba sv) (fun _ _ _ _ _=>(zdo rfl (zi (zbg (i:=0) (show(["made", "left"]:List Str).Nodup from by decide +kernel) rfl (Or.inl rfl)) (zi (zbg (i:=1) (show(["made", "left"]:List Str).Nodup from by decide +kernel) rfl (Or.inl rfl)) zcc)))) (fun _ _ _ _ _=>zhk) (fun _ _ _ _ _=>sv) (N:=["made", "left"]) (k:=2) (is:=[]) (zfv (by rfl))))))))
theorem zyw (T:TopF Y.K "flip" (top 1))  : Cl Y "flip" 1 ["kept", "thing"] zpg:=cmk ["kept", "thing"] T fun nd f cdv A outer s H E hr=>(zc (zec (zbac (zbds (zwm hr) sv sv)) (zc (zbj (zbaz (zwm hr) sv sv ⟨rfl, rfl, rfl, rfl⟩))) (zc (zoj (zwm hr) sv sv zsx rfl))))
theorem zgw (T:TopF Y.K "counts_done" (top 8))(Ah:Y.mg "sorted"=none)(Ad:Y.mg "tuple"=none)(Av:Cl Y "counts_done_on_product" 4 ["numbers", "product"] zm)(c_flip:Cl Y "flip" 1 ["kept", "thing"] zpg):Cl Y "counts_done" 5 ["counts", "some"] zcb:=cmk ["counts", "some", "kept", "numbers", "product", "made"] T fun nd f cdv A outer s H E hr=>(zb (sst nd zsw)
 (zb (sfr (zba sv) (sgn nd)
 (zc (sfr (zba sv) (sgn nd)
 (zc (sfr (zba (scl Av hr (sa2 sv sv))) (sgn nd)
 (zc (zbj (scl c_flip hr (sa2 sv sv)))))))))
 (zc (zbe (zed zbx zhq rfl Ad zem (sa1 (zq (zfw rfl hr.units) zlh rfl Ah zlc (sa1 sv))))))))
theorem zbed {f:Addr}{fd:FuncData}(F:Fun Y.K "law" "law" (top 20) f fd)(Ae:Y.mg "len"=none)(Af:Y.mg "min"=none)(Aa:Y.mg "range"=none)(Aw:Cl Y "_law_bag" 1 ["_law_script", "_law_at"] zeg)(Ac:Cl Y "_law_take" 1 ["_law_bag_here", "_law_many"] zf)(Al:Cl Y "_law_some_counts" 3 ["_law_bag_here", "_law_many", "_law_most"] zr)(Am:Cl Y "_law_sum" 3 ["_law_bag_here", "_law_n", "_law_many", "_law_degree"] zef)(Ax:Cl Y "_law_counts_done" 2 ["_law_counts_here", "_law_some"] zt)(Ay:Cl Y "_law_are_rows" 1 ["_law_found", "_law_due"] zbo)(Az:Cl Y "counts_done" 5 ["counts", "some"] zcb):FnOk Y.P Y.w Y.K Y.mg Y.base CX0 6 f fd ["_law_script"] (spLaw Y.K) :=
 have sc:FnScope ["_law_script", "_law_k", "_law_bag_here", "_law_n", "_law_counts_here", "_law_some", "_law_due", "_law_again"] ["_law_script"] (defScope (top 20)):=⟨rfl, rfl, rfl, by decide +kernel, rfl, by decide +kernel, by decide +kernel⟩
 have nd:=sc.nd
 zzj (k:=5) F sc rfl (fun cdv A outer s H E hr=>(zb (sfr (zbl rfl Aa (sa1 (sad (zq (zhp rfl) zbgu rfl Af zvz (sa2 (zq zbs zpb rfl Ae zoz (sa1 sv)) zd)) zd))) (sgn nd)
 (zb (sst nd (scl Aw hr (sa2 sv sv)))
 (zb (sst nd (sad zd (scl Ac hr (sa2 sv zd))))
 (zb (zec (zbr (znh hr.units) zwk (scl Ac hr (sa2 sv zd)) zd (nomark _)) (zc (sst nd (sad zd (scl Ac hr (sa2 sv zd))))) zdd)
 (zb (zec (zbr (zqn hr.units0) zqt sv zd (nomark _)) (zb (sst nd (scl Al hr (zl sv (sa2 zd (zkx (zjp (sa2 zd zd)) (scl Ac hr (sa2 sv zd)) (fun _ _=>rfl))))))
 (zc (sst nd (scl Am hr (zl sv (zl sv (sa2 zd (zkx (zjp (zl zd (zl zd (sa2 zd zd)))) (scl Ac hr (sa2 sv zd)) (fun _ _=>rfl))))))))) (zb (sst nd (scl Al hr (zl sv (sa2 zd (zkx (zjp (sa2 zd zd)) (scl Ac hr (sa2 sv zd)) (fun _ _=>rfl))))))
 (zc (sst nd (scl Am hr (zl sv (zl sv (sa2 zd zd))))))))
 (zb (sst nd (scl Ax hr (sa2 sv sv)))
 (zc (sfr (zbl rfl Aa (sa1 zd)) (sgn nd)
 (zc (zec (zku (zgm (scl Ay hr (sa2 (scl Az hr (sa2 sv sv)) sv)))) (zc (zbe zsx)) zdd))))))))))
 (zc (zbe zsx)))) K38.holds
end
theorem all_mk {l:W.OpenLaw}{w:World}{K:Fg}{h:Heap}{mg:Str->Option Value}{fa:Addr}(X:K.In h)(G:h.Ns mainGlobals mg)(hfa:mg "law"=some (.ref fa))
  (t1:TopF K "_law_bag" (top 10))(t2:TopF K "_law_odd" (top 12))(t3:TopF K "_law_parted" (top 17))(t4:TopF K "_law_counts_done" (top 18))(t5:TopF K "_law_take" (top 11))(t6:TopF K "_law_counts" (top 13))(t7:TopF K "_law_some_counts" (top 14))(t8:TopF K "_law_product" (top 15))(t9:TopF K "_law_sum" (top 16))(t10:TopF K "_law_are_rows" (top 19))(t11:TopF K "shares" (top 3))(t12:TopF K "partings" (top 5))(t13:TopF K "flip" (top 1))(t14:TopF K "letter_parted" (top 6))(t15:TopF K "counts_done_on_product" (top 7))(t16:TopF K "flip" (top 1))(t17:TopF K "counts_done" (top 8))(t18:TopF K "law" (top 20))  (z0:W.nsIn K mainGlobals "len"=some none)(z1:W.nsIn K mainGlobals "abs"=some none)(z2:W.nsIn K mainGlobals "min"=some none)(z3:W.nsIn K mainGlobals "range"=some none)(z4:W.nsIn K mainGlobals "sorted"=some none)(z5:W.nsIn K mainGlobals "tuple"=some none)(z6:W.nsIn K mainGlobals "any"=some none)(z7:W.nsIn K mainGlobals "isinstance"=some none)(z8:W.nsIn K mainGlobals "bool"=some none)(z9:W.nsIn K mainGlobals "int"=some none)(z10:W.nsIn K mainGlobals "sum"=some none)(z11:W.nsIn K mainGlobals "list"=some none)   :
  ∃ fd:FuncData,(∀(s:Shared) (v:Value), BindsTo s fd ⟨[v],[]⟩ [("_law_script", v)])/\∀ base:Heap, K.In base->base.Ns mainGlobals mg->FnOk l.prog w K mg base CX0 6 fa fd ["_law_script"] (spLaw K):=by
 have Ae:=xdl X G z0;have z_abs:=xdl X G z1;have Af:=xdl X G z2;have Aa:=xdl X G z3;have Ah:=xdl X G z4;have Ad:=xdl X G z5;have Ai:=xdl X G z6;have Aj:=xdl X G z7;have z_bool:=xdl X G z8;have z_int:=xdl X G z9;have Ak:=xdl X G z10;have z_list:=xdl X G z11;obtain⟨f,fd,a,F⟩:=t18;have e:=hfa.symm.trans (W.mg_of X G a);cases e;obtain⟨oc,od,kV,doc,pm,an,cdv,ct,osl,rfl,lk,hcd⟩:=id F.ex;refine⟨W.fnOf "law" "law" (defArgs (top 20)) (defBody (top 20)) (defScope (top 20)) .none kV doc pm an cdv ct, fun s v=>.of_eq rfl, fun base _ _=>?_⟩
 let Y:En:=⟨l.prog,w,K,mg,base,h,X,G⟩
 have Aw:=zma (Y:=Y) t1 Ae z_abs Af Aa;have Ag:=zlz (Y:=Y) t2 Ah Ad;have An:=zgx (Y:=Y) t3 Ae Aa Af;have Ax:=zdx (Y:=Y) t4 Ai An Ag;have Ac:=zjd (Y:=Y) t5;have Ao:=zgy (Y:=Y) t6 Aa Ae Ad Ac;have Al:=zdw (Y:=Y) t7 Aa Ag Ac Ao;have Ap:=zfy (Y:=Y) t8 Aa Ad Ac;have Am:=zly (Y:=Y) t9 Aa Ag Ac Ap;have Ay:=zfk (Y:=Y) t10 Ad Aj z_bool z_int Ai;have Aq:=zqo (Y:=Y) t11;have Ar:=zlx (Y:=Y) t12 Ak Aq;have As:=znj (Y:=Y) t13;have Au:=zfj (Y:=Y) t14 z_list Ar As;have Av:=zcj (Y:=Y) t15 Ak Au;have c_flip:=zyw (Y:=Y) t16;have Az:=zgw (Y:=Y) t17 Ah Ad Av c_flip;exact zbed (Y:=Y) F Ae Af Aa Aw Ac Al Am Ax Ay Az
end K38
open PySem PySem.W PyProof.Rows
set_option maxRecDepth 100000 in
set_option maxHeartbeats 0 in
theorem PySem.Challenge.cw_raisedsums_k38_counts_done_holds : PySem.Challenge.rw_raisedsums_k38_counts_done.Holds := by
  w_on; o_law; k_head; (case hw => w_witness2)
  k_fill
  refine L2.zwt (l := PySem.Challenge.rw_raisedsums_k38_counts_done) (n := 63) (k := 6) (x := "_law_script") (CX := fun _ => L2.CX0) (sp := fun w => Dd.spLaw _) rfl (by decide) rfl ⟨rfl, by decide, by decide⟩ (fun w h Y => PySem.W.kIn_of Y) ?F (fun _ _ a ns hl _ hS => ⟨a, ns, rfl, hS, hl, fun _ => rfl⟩) (fun _ _ _ _ _ z => z)
  case F =>
    intro w mg fa h KX G hmg
    refine' K38.all_mk KX G hmg ?t1 ?t2 ?t3 ?t4 ?t5 ?t6 ?t7 ?t8 ?t9 ?t10 ?t11 ?t12 ?t13 ?t14 ?t15 ?t16 ?t17 ?t18  ?z0 ?z1 ?z2 ?z3 ?z4 ?z5 ?z6 ?z7 ?z8 ?z9 ?z10 ?z11  
    all_goals first|k_is|kernel_rfl|(refine' L2.zcv ?a ?l ?c ?k;(case a=>k_is);(case l=>k_is);(case c=>k_is);(case k=>k_is))|skip
#print axioms PySem.Challenge.cw_raisedsums_k38_counts_done_holds
