import PyProof.Rows.All
import Wide.All
import OpenK.AllK
import Wide.FinOn
import PyProof.EqAt
import PyProof.EqKinds
import PyProof.TupleCall
import PySem.Challenge.RW_raisedsums_k15_rows_put_together
set_option Elab.async false
set_option linter.all false
set_option maxRecDepth 100000
namespace PySem.W.Fast
theorem tw8161676548455006700:True:=⟨⟩
theorem tw4686746476449718997:True:=⟨⟩
theorem tw2045614538317122794:True:=⟨⟩
theorem tw17427370811051767510:True:=⟨⟩
theorem tw5884793565761493150:True:=⟨⟩
theorem tw5893364728678694895:True:=⟨⟩
theorem tw15195795254919565043:True:=⟨⟩
theorem tw8068124564803611960:True:=⟨⟩
theorem tw15060923306155793291:True:=⟨⟩
theorem tw13818035474976044672:True:=⟨⟩
theorem tw12537836813830330404:True:=⟨⟩
theorem tw13412595522854745229:True:=⟨⟩
theorem tw16865625420557467322:True:=⟨⟩
theorem tw628041353850718963:True:=⟨⟩
theorem tw9702674781817486866:True:=⟨⟩
theorem tw4586485772184012357:True:=⟨⟩
theorem tw10598522679334819502:True:=⟨⟩
theorem tw7279850468836096782:True:=⟨⟩
theorem tw7537216500504610826:True:=⟨⟩
theorem tw13360564603739892560:True:=⟨⟩
theorem tw10609870960012029526:True:=⟨⟩
theorem tw16144481292989974434:True:=⟨⟩
theorem tw14126451955089422031:True:=⟨⟩
theorem tw1526460088153417775:True:=⟨⟩
theorem tw14543260944666408840:True:=⟨⟩
theorem tw13693022084934606046:True:=⟨⟩
theorem tw15107988305025178420:True:=⟨⟩
theorem tw3862145981945554516:True:=⟨⟩
theorem tw10817312904362136873:True:=⟨⟩
theorem tw11369659891502725423:True:=⟨⟩
theorem tw6633989127748021817:True:=⟨⟩
theorem tw6119645946271215136:True:=⟨⟩
theorem tw4810054964476670912:True:=⟨⟩
theorem tw4480250044805698210:True:=⟨⟩
theorem tw16858512169792329350:True:=⟨⟩
theorem tw8884986531578673685:True:=⟨⟩
theorem tw4590482436450345790:True:=⟨⟩
theorem tw9130200182366657291:True:=⟨⟩
theorem tw1148078527793667509:True:=⟨⟩
theorem tw14970608150084842358:True:=⟨⟩
theorem tw13740749183513004942:True:=⟨⟩
end PySem.W.Fast
set_option genSizeOfSpec false
set_option genInjectivity false
abbrev Fg:=PySem.W.Frag
abbrev xba:=@PySem.wpAny_bind
abbrev xbb:=@Nat.le_trans
abbrev xbc:=@PySem.Heap.get?_push_of_some
abbrev xbd:=@PySem.wpAny_pure
abbrev xbe:=@List.getElem?_eq_getElem
abbrev xbf:=@List.length_map
abbrev xbg:=@Nat.le_refl
abbrev xbh:=@Nat.lt_of_lt_of_le
abbrev xbi:=@PyProof.Rows.wpS_bind
abbrev xbj:=@PyProof.Rows.wpS_pure
abbrev xbk:=@PySem.Heap.lt_size
abbrev xbl:=@List.mem_singleton
abbrev xbm:=@List.size_toArray
abbrev xbn:=@List.mem_cons
abbrev xbo:=@List.getElem?_eq_some_iff
abbrev xbp:=@Nat.le_of_lt
abbrev xbq:=@List.map_cons
abbrev xbr:=@Nat.le_add_right
abbrev xbs:=@Nat.le_of_not_lt
abbrev xbt:=@Nat.ne_of_lt
abbrev xbu:=@decide_eq_false
abbrev xbv:=@Array.length_toList
abbrev xbw:=@Option.some.inj
abbrev xbx:=@List.getElem?_append_left
abbrev xby:=@List.length_cons
abbrev xbz:=@PySem.Heap.get?_push_size
abbrev xca:=@Nat.add_le_add_left
abbrev xcb:=@List.length_append
abbrev xcc:=@List.mem_append
abbrev xcd:=@Nat.add_sub_cancel'
abbrev xce:=@List.mem_cons_self
abbrev xcf:=@Array.getElem?_toList
abbrev xcg:=@List.append_assoc
abbrev xch:=@List.mem_of_getElem?
abbrev xci:=@List.mem_cons_of_mem
abbrev xcj:=@decide_eq_true
abbrev xck:=@Nat.lt_of_le_of_lt
abbrev xcl:=@List.getD_eq_getElem?_getD
abbrev xcm:=@List.getElem?_set_ne
abbrev xcn:=@Nat.add_sub_cancel_left
abbrev xco:=@List.length_take
abbrev xcp:=@List.getElem?_map
abbrev xcq:=@Nat.le_of_lt_succ
abbrev xcr:=@Bool.false_eq_true
abbrev xcs:=@Nat.lt_of_le_of_ne
abbrev xct:=@PySem.W.mg_none_of
abbrev xcu:=@Nat.zero_le
abbrev xcv:=@Option.map_eq_some_iff
abbrev xcw:=@List.getElem?_append_right
abbrev xcx:=@Nat.le_sub_one_of_lt
abbrev xcy:=@Nat.le_of_succ_le
abbrev xcz:=@List.mem_append_right
abbrev xda:=@Nat.le_of_eq
abbrev xdb:=@Nat.le_of_add_left_le
abbrev xdc:=@PySem.Heap.get?_update_other
abbrev xdd:=@Array.toList_append
abbrev xde:=@PyProof.Rows.wpS_forRange
abbrev xdf:=@Nat.sub_lt_left_of_lt_add
abbrev xdg:=@List.mem_map
abbrev xdh:=@Nat.le_antisymm
abbrev xdi:=@Nat.add_lt_of_lt_sub'
abbrev xdj:=@PySem.wpAny_mono
abbrev xdk:=@List.getElem_mem
abbrev xdl:=@List.getElem?_set_self
abbrev xdm:=@List.append_nil
abbrev xdn:=@Nat.min_eq_left
abbrev xdo:=@Nat.add_lt_add_left
abbrev xdp:=@Nat.sub_lt_sub_right
abbrev xdq:=@Nat.zero_add
abbrev xdr:=@List.lookup_cons
abbrev xds:=@Nat.not_lt_of_le
abbrev xdt:=@Nat.succ_le_succ
abbrev xdu:=@List.drop_eq_nil_of_le
abbrev xdv:=@List.getElem_of_mem
abbrev xdw:=@List.replicate_succ
abbrev xdx:=@PySem.wpAny_holding
abbrev xdy:=@List.map_map
abbrev xdz:=@Nat.le_sub_of_add_le'
abbrev xea:=@PySem.W.kia_one
abbrev xeb:=@Ne.symm
abbrev xec:=@Option.bind_eq_some_iff
abbrev xed:=@List.all_eq_true
abbrev xee:=@List.not_mem_nil
abbrev xef:=@PySem.sizeLine_eq
abbrev xeg:=@Nat.lt_of_succ_lt
abbrev xeh:=@PySem.wpAny_newObj_type
abbrev xei:=@List.find?_cons
abbrev xej:=@PySem.PassesOwn.never
abbrev xek:=@List.length_drop
abbrev xel:=@Bool.and_eq_true
abbrev xem:=@if_false
abbrev xen:=@PyProof.Rows.wpS_mono
abbrev xeo:=@PySem.F.slot_dict_keyiterator_next
abbrev xep:=@Nat.sub_le_sub_right
abbrev xeq:=@PySem.F.excBase_ValueError
abbrev xer:=@List.filter_cons_of_neg
abbrev xes:=@List.filter_cons_of_pos
abbrev xet:=@Nat.sub_pos_of_lt
abbrev xeu:=@Array.toList_push
abbrev xev:=@List.map_append
abbrev xew:=@PySem.wpAny_ite_false
abbrev xex:=@Nat.lt_or_ge
abbrev xey:=@Array.getElem?_eq_some_iff
abbrev xez:=@Array.perm_iff_toList_perm
abbrev xfa:=@Nat.lt_of_not_le
abbrev xfb:=@beq_self_eq_true
abbrev xfc:=@Bool.false_ne_true
abbrev xfd:=@PySem.Heap.get?_update_self
abbrev xfe:=@List.getElem?_drop
abbrev xff:=@Nat.lt_of_lt_of_eq
abbrev xfg:=@PySem.Heap.get?_none_of_le
abbrev xfh:=@List.length_set
abbrev xfi:=@List.pairwise_append
abbrev xfj:=@Bool.or_eq_false_iff
abbrev xfk:=@Nat.le_succ_of_le
abbrev xfl:=@List.flatten_cons
abbrev xfm:=@PySem.wpAny_truthy_bool
abbrev xfn:=@if_true
abbrev xfo:=@of_decide_eq_true
abbrev xfp:=@PySem.wpAny_loadPart_at
abbrev xfq:=@PySem.W.mg_of
abbrev xfr:=@PySem.wpAny_typeNameOfWhole_keyiter
abbrev xfs:=@PySem.mem_of_lookup
abbrev xft:=@beq_eq_false_iff_ne
abbrev xfu:=@Nat.min_le_right
abbrev xfv:=@List.take_length
abbrev xfw:=@PySem.wpAny_call_entry
abbrev xfx:=@Nat.sub_le
abbrev xfy:=@List.take_of_length_le
abbrev xfz:=@beq_iff_eq
abbrev xga:=@PyProof.Rows.wpS_modify
abbrev xgb:=@Nat.sub_add_cancel
abbrev xgc:=@PySem.wpAny_Call_Name_kw
abbrev xgd:=@List.length_replicate
abbrev xge:=@Bool.eq_iff_iff
abbrev xgf:=@List.Perm.append_left
abbrev xgg:=@List.take_append_drop
abbrev xgh:=@List.perm_append_comm
abbrev xgi:=@PySem.wpAny_passesOwn
abbrev xgj:=@Nat.lt_irrefl
abbrev xgk:=@List.mem_append_left
abbrev xgl:=@List.drop_eq_getElem_cons
abbrev xgm:=@PySem.wpAny_rule
abbrev xgn:=@List.mem_range
abbrev xgo:=@List.take_succ_eq_append_getElem
abbrev xgp:=@Nat.sub_le_sub_left
abbrev xgq:=@PyProof.Rows.slot_tuple_getitem
abbrev xgr:=@List.countP_cons_of_pos
abbrev xgs:=@Nat.lt_add_of_pos_right
abbrev xgt:=@Int.eq_ofNat_of_zero_le
abbrev xgu:=@PyProof.Rows.wpS_get
abbrev xgv:=@PySem.Calls.spliced_cons
abbrev xgw:=@List.nodup_cons
abbrev xgx:=@List.length_nil
abbrev xgy:=@PySem.Obj.data_mapFields
abbrev xgz:=@Nat.sub_lt
abbrev xha:=@Nat.min_le_left
abbrev xhb:=@List.pairwise_cons
abbrev xhc:=@List.count_eq_zero
abbrev xhd:=@PySem.tupleKind_room_in1
abbrev xhe:=@PySem.Calls.callWith_builtin
abbrev xhf:=@List.Perm.append_right
abbrev xhg:=@decide_true
abbrev xhh:=@PySem.wpAny_dictEntries
abbrev xhi:=@Nat.lt_trans
abbrev xhj:=@Array.extract_eq_empty_of_le
abbrev xhk:=@decide_false
abbrev xhl:=@PyProof.Rows.callWith_type1
abbrev xhm:=@Nat.min_eq_right
abbrev xhn:=@Array.toList_reverse
abbrev xho:=@List.reverse_reverse
abbrev xhp:=@List.mem_of_mem_take
abbrev xhq:=@PySem.F.slot_tuple_mul
abbrev xhr:=@PySem.W.looks_findIn
abbrev xhs:=@or_false
abbrev xht:=@PySem.Paired.length
abbrev xhu:=@PySem.Calls.Name_function_global
abbrev xhv:=@PySem.wpAny_field
abbrev xhw:=@PySem.Heap.get?_update_ne
abbrev xhx:=@PySem.Heap.SameBut.update
abbrev xhy:=@List.mem_filter
abbrev xhz:=@Array.getElem?_eq_getElem
abbrev xia:=@List.pairwise_iff_getElem
abbrev xib:=@Int.emod_nonneg
abbrev xic:=@PySem.wpAny_execs_nil
abbrev xid:=@PySem.F.args_tuple_add_2
abbrev xie:=@Nat.sub_self
abbrev xif:=@Array.append_empty
abbrev xig:=@PySem.W.tail_of_in
abbrev xih:=@List.filter_append
abbrev xii:=@PyProof.Rows.slot_tuple_getitem
abbrev xij:=@List.nodup_nil
abbrev xik:=@PySem.call_meets
abbrev xil:=@PySem.wpAny_setField
abbrev xim:=@PySem.F.entry_tuple_add
abbrev xin:=@List.countP_cons_of_neg
abbrev xio:=@List.pairwise_singleton
abbrev xip:=@List.getElem?_cons_succ
abbrev xiq:=@List.eraseIdx_cons_succ
abbrev xir:=@PySem.Calls.spliced_nil
abbrev xis:=@Nat.zero_lt_of_lt
abbrev xit:=@Nat.lt_succ_of_lt
abbrev xiu:=@List.count_append
abbrev xiv:=@PySem.wpAny_pyIter_list
abbrev xiw:=@PySem.F.slot_tuple_add
abbrev xix:=@List.any_cons
abbrev xiy:=@List.cons.inj
abbrev xiz:=@PySem.wpAny_standAt
abbrev xja:=@List.mem_reverse
abbrev xjb:=@Nat.lt_succ_self
abbrev xjc:=@PyProof.Rows.wpS_lift
abbrev xjd:=@PySem.F.slot_tuple_lt
abbrev xje:=@PySem.F.slot_dict_get
abbrev xjf:=@List.getElem?_eq_none
abbrev xjg:=@List.length_filter_le
abbrev xjh:=@Array.getElem?_setIfInBounds_ne
abbrev xji:=@PyProof.Rows.callWith_builtin1
abbrev xjj:=@PySem.Calls.evalArgs_plain
abbrev xjk:=@List.mem_of_mem_drop
abbrev xjl:=@Nat.add_zero
abbrev xjm:=@List.foldl_cons
abbrev xjn:=@PySem.wpAny_call
abbrev xjo:=@PySem.codeAny_mono
abbrev xjp:=@PySem.codeAny_call_builtin
abbrev xjq:=@List.filterMap_cons
abbrev xjr:=@PySem.wpAny_isSubtype_exc
abbrev xjs:=@Nat.le_succ
abbrev xjt:=@PySem.Calls.Constant_str
abbrev xju:=@PySem.W.callWith_K
abbrev xjv:=@Nat.pos_of_ne_zero
abbrev xjw:=@List.getElem?_take
abbrev xjx:=@PySem.F.args_tuple_mul_2
abbrev xjy:=@List.contains_cons
abbrev xjz:=@Nat.eq_zero_or_pos
abbrev xka:=@PySem.wpAny_pyIter_tuple
abbrev xkb:=@PySem.F.excAttr_ValueError
abbrev xkc:=@PySem.wpAny_attempt
abbrev xkd:=@Int.toNat_natCast
abbrev xke:=@List.mapM_toArray
abbrev xkf:=@List.ext_getElem?
abbrev xkg:=@List.length_range
abbrev xkh:=@PySem.F.entry_tuple_mul
abbrev xki:=@PySem.Heap.get?_push_at
abbrev xkj:=@Nat.ne_of_gt
abbrev xkk:=@List.map_nil
abbrev xkl:=@Nat.max_eq_right
abbrev xkm:=@Int.zero_add
abbrev xkn:=@map_eq_pure_bind
abbrev xko:=@List.of_mem_zip
abbrev xkp:=@Nat.le_add_left
abbrev xkq:=@Nat.two_pos
abbrev xkr:=@List.drop_drop
set_option maxHeartbeats 0
namespace L2
open PySem PySem.Spec PyProof.Rows
noncomputable abbrev Key:=Sum Int Str
noncomputable def keyIs:Key->Value->Bool
 | .inl k,v=>Value.isInt k v
 | .inr x,v=>Value.isStrOf x v
noncomputable def keyH (w:World):Key->Int
 | .inl k=>hashInt k
 | .inr x=>hashStr w x
theorem zbe:∀{k:Key} {v:Value},keyIs k v=true->(∃i t,k=Sum.inl i/\v=Value.int i t)\/(∃x t,k=Sum.inr x/\v=Value.str x t)
 | .inl i,v,h=>by
  obtain ⟨t,e⟩:=Value.isInt_shape (k:=i) (v:=v) h;exact .inl ⟨i,t,rfl,e⟩
 | .inr x,v,h=>by
  obtain ⟨t,e⟩:=Value.isStrOf_shape (x:=x) (v:=v) h;exact .inr ⟨x,t,rfl,e⟩
theorem zqo (i:Int) (t:Tok):keyIs (.inl i) (.int i t)=true:=by simp[keyIs,Value.isInt]
theorem zqn (x:Str) (t:Tok):keyIs (.inr x) (.str x t)=true:=by simp[keyIs,Value.isStrOf]
theorem zbdv (a b:Int):decide ((Sum.inl a:Key)=Sum.inl b)=(a == b):=by
 by_cases e:a=b
 ·subst e;simp
 ·have h:¬ (Sum.inl a:Key)=Sum.inl b:=fun q=>e (Sum.inl.inj q)
  rw[xbu h];exact (xft.mpr e).symm
theorem zbds (a b:Str):decide ((Sum.inr a:Key)=Sum.inr b)=decide (a=b):=by
 by_cases e:a=b
 ·subst e;simp
 ·have h:¬ (Sum.inr a:Key)=Sum.inr b:=fun q=>e (Sum.inr.inj q)
  rw[xbu h,xbu e]
theorem zbdu (a:Int) (b:Str):decide ((Sum.inl a:Key)=Sum.inr b)=false:=xbu (fun q=>nomatch q)
theorem zbdt (a:Str) (b:Int):decide ((Sum.inr a:Key)=Sum.inl b)=false:=xbu (fun q=>nomatch q)
noncomputable def mixKind (prog:Program) (w:World):PySem.KeyKind prog w Key where
 is:=keyIs
 hash:=keyH w
 inj:=fun v a b ha hb=>by
  rcases zbe ha with ⟨i,t,rfl,rfl⟩ | ⟨x,t,rfl,rfl⟩
  ·rcases zbe hb with ⟨j,u,rfl,e⟩ | ⟨y,u,rfl,e⟩
   ·injection e with e1 _;rw[e1]
   ·exact nomatch e
  ·rcases zbe hb with ⟨j,u,rfl,e⟩ | ⟨y,u,rfl,e⟩
   ·exact nomatch e
   ·injection e with e1 _;rw[e1]
 byValue:=fun k v h=>by
  rcases zbe h with ⟨i,t,rfl,rfl⟩ | ⟨x,t,rfl,rfl⟩<;>rfl
 pyHash:=fun hv h=>by
  rcases zbe hv with ⟨i,t,rfl,rfl⟩ | ⟨x,t,rfl,rfl⟩
  ·exact wpAny_pyHash_int h
  ·exact wpAny_pyHash_str h
 eqBool:=fun hu hv h=>by
  rcases zbe hu with ⟨i,t,rfl,rfl⟩ | ⟨x,t,rfl,rfl⟩
  ·rcases zbe hv with ⟨j,u,rfl,rfl⟩ | ⟨y,u,rfl,rfl⟩
   ·rw[zbdv] at h;exact wpAny_eqBool_int h
   ·rw[zbdu] at h;exact SeqAt.EqAt.int_str i t y u _ _ _ _ h
  ·rcases zbe hv with ⟨j,u,rfl,rfl⟩ | ⟨y,u,rfl,rfl⟩
   ·rw[zbdt] at h;exact SeqAt.EqAt.str_int x t j u _ _ _ _ h
   ·rw[zbds] at h;exact wpAny_eqBool_str h
 «strs»:=fun k x t v h=>by
  rcases zbe h with ⟨i,u,rfl,e⟩ | ⟨y,u,rfl,e⟩
  ·exact nomatch e
  ·injection e with e1 _
   subst e1;cases v<;>rfl
theorem zli (prog:Program) (w:World) (i:Int) (t:Tok):(mixKind prog w).is (.inl i) (.int i t)=true:=zqo i t
theorem zlh (prog:Program) (w:World) (x:Str) (t:Tok):(mixKind prog w).is (.inr x) (.str x t)=true:=zqn x t
set_option genInjectivity true in
inductive V where
 | non | bl (b:Bool) | int (i:Int) | str (x:Str) | byt (b:Array UInt8) | flt (b:UInt64) | ref (a:Addr) | ty (n:String)
 deriving DecidableEq
noncomputable def RelV:V->Value->Prop
 | .non,u=>u=Value.none
 | .bl b,u=>u=Value.bool b
 | .int i,u=>∃t,u=Value.int i t
 | .str x,u=>∃t,u=Value.str x t
 | .byt b,u=>∃t,u=Value.bytes b t
 | .flt b,u=>∃t,u=Value.float b t
 | .ref a,u=>u=Value.ref a
 | .ty n,u=>u=Value.type n
noncomputable abbrev Vals:List V->List Value->Prop:=Paired RelV
theorem Vals.length {xs:List V} {us:List Value} (r:Vals xs us):xs.length=us.length:=xht r
theorem Vals.get:∀{xs:List V} {us:List Value} {i:Nat} {x:V},Vals xs us->xs[i]?=some x->∃u,us[i]?=some u/\RelV x u
 | _,_,_,_,.nil,e=>by simp at e
 | _,_,0,_,.cons r _,e=>by simp at e;subst e;exact ⟨_,rfl,r⟩
 | _,_,i+1,x,.cons _ t,e=>by
  obtain ⟨u,h1,h2⟩:=Vals.get (i:=i) (x:=x) t (by simpa using e);exact ⟨u,by simpa using h1,h2⟩
theorem Vals.set {x:V} {u:Value} (r:RelV x u):∀{xs:List V} {us:List Value} (i:Nat),Vals xs us->Vals (xs.set i x) (us.set i u)
 | _,_,_,.nil=>.nil
 | _,_,0,.cons _ t=>.cons r t
 | _,_,i+1,.cons q t=>.cons q (Vals.set r i t)
theorem Vals.append:∀{xs ys:List V} {us ws:List Value},Vals xs us->Vals ys ws->Vals (xs++ys) (us++ws)
 | _,_,_,_,.nil,s=>s
 | _,_,_,_,.cons r t,s=>.cons r (Vals.append t s)
theorem Vals.take:∀{xs:List V} {us:List Value} (n:Nat),Vals xs us->Vals (xs.take n) (us.take n)
 | _,_,0,_=>.nil
 | _,_,_+1,.nil=>.nil
 | _,_,n+1,.cons r t=>.cons r (Vals.take n t)
theorem Vals.drop:∀{xs:List V} {us:List Value} (n:Nat),Vals xs us->Vals (xs.drop n) (us.drop n)
 | _,_,0,r=>r
 | _,_,_+1,.nil=>.nil
 | _,_,n+1,.cons _ t=>Vals.drop n t
noncomputable def RelO:Option V->Option Value->Prop
 | some v,some u=>RelV v u
 | none,none=>True
 | _,_=>False
noncomputable def KV {κ:Type}:List (κ × V)->List (κ × Value)->Prop:=Paired fun (p:κ × V) (q:κ × Value)=>p.1=q.1/\RelV p.2 q.2
noncomputable def kV:Key->V
 | .inl i=>.int i
 | .inr x=>.str x
set_option genInjectivity true in
inductive HO where
 /-- a list -/
 | lst (xs:List V)
 /-- a tuple (never changes) -/
 | tup (xs:List V)
 /-- a dict whose keys are ints and texts;one whose keys are tuples of ints and texts (the empty one is both) -/
 | dK (kvs:List (Key × V)) | dT (kvs:List (List Key × V))
 /-- a set of ints: its members,its size -/
 | set (S:Int->Bool) (n:Nat)
 /-- an instance of the class at C,its dict at dx,its attributes -/
 | ins (C dx:Addr) (fs:List (Str × V))
 /-- the dict of the instance at x -/
 | own (x:Addr)
 /-- the dict of an exception -/
 | xd (fs:List (Str × V))
 /-- a bound method,f of x -/
 | met (f x:Addr)
 /-- a range object lo,lo+1,.. below hi -/
 | rng (lo hi:Int)
 /-- a thing that is known to the object (the script;a dict while a loop walks it): read,never written while it is so -/
 | frz (o:Obj) (u:HO)
 /-- a code object's table -/
 | tbl (ps:Array Value)
 /-- any other thing,by what is true of its one object (a def of one's own: SetO a S n:=HO.ext fun h=>..) -/
 | ext (φ:Heap->Prop)
noncomputable abbrev Hp:=Addr->Option HO
noncomputable def upd (H:Hp) (a:Addr) (o:HO):Hp:=fun b=>if b=a then some o else H b
theorem zf {H:Hp} {a:Addr} {o:HO}:upd H a o a=some o:=by unfold upd;rw[if_pos rfl]
theorem zj {H:Hp} {a b:Addr} {o:HO} (h:b≠a):upd H a o b=H b:=by unfold upd;rw[if_neg h]
theorem zrt {H:Hp} {a:Addr} {o u:HO}:upd (upd H a o) a u=upd H a u:=by
 funext b;unfold upd;split<;>rfl
theorem zbgo {H:Hp} {a b:Addr} {o u:HO} (h:H a=some o) (h':H b=some u) (d:o≠u):a≠b:=by
 intro e;subst e;rw[h] at h';exact d (xbw h')
theorem zh {H:Hp} {a b:Addr} {o:HO} (h:H a=some o) (h':H b=none):a≠b:=by
 intro e;subst e;rw[h] at h';cases h'
section
variable (P:Program) (w:World)
noncomputable def ObjOk (H:Hp) (h:Heap) (a:Addr):HO->Prop
 | .lst xs => xs.length <= sizeLine /\ ∃ (its : List Value) (n : Nat), Vals xs its /\ h.get? a = some { cls := .type "list", data := .seq its.toArray n }
 | .tup xs=>xs.length<=sizeLine/\∃its:List Value,Vals xs its/\IsTup h a its.toArray
 | .dK kvs=>kvs.length<=sizeLine/\(a == sysModules)=false/\∃vs,KV kvs vs/\h.DictOf (mixKind P w) a vs
 | .dT kvs=>kvs.length<=sizeLine/\(a == sysModules)=false/\∃xs:List (List Key × Addr × Value),
  Paired (fun (p:List Key × V) (q:List Key × Addr × Value)=>p.1=q.1/\H q.2.1=some (.tup (p.1.map kV))/\RelV p.2 q.2.2) kvs xs /\
  ∃o es ep,h.get? a=some o/\o.ExactDict/\o.data=.dict es ep/\es.toList=xs.map (entryOfKey (tupleKind (mixKind P w)))/\(xs.map (·.1)).Nodup
 | .set S n=>h.SetOf (intKind P w) a S n
 | .ins C dx fs=>H dx=some (.own a)/\fs.length<=1000/\dx≠a/\h.get? a=some (PySem.W.instObj C dx) /\
  ∃mA,h.Ns1 dx mA/\(∀f,RelO (fs.lookup f) (mA f))/\PySem.Within mA (fs.map (·.1))
 | .own _=>∃o,h.get? a=some o
 | .xd fs=>∃mA,h.Ns1 a mA/\∀f,RelO (fs.lookup f) (mA f)
 | .rng lo hi => ∃ t u v, h.get? a = some { cls := .type "range", data := .fields #[.int lo t, .int hi u, .int 1 v] }
 | .frz o u=>h.get? a=some o/\ObjOk H h a u
 | .tbl ps=>h.get? a=some {cls:=.none,data:=.fields ps}
 | .met f x=>h.get? a=some (PySem.W.methodObj (.ref f) (.ref x))
 | .ext φ=>φ h/\(∃o,h.get? a=some o)/\∀h1 h2:Heap,φ h1->(∀o,h1.get? a=some o->h2.get? a=some o)->φ h2
noncomputable def HOk (H:Hp) (h:Heap):Prop:=∀a o,H a=some o->ObjOk P w H h a o
end
section
variable {P:Program} {w:World} {H H':Hp} {h h':Heap} {a:Addr} {o:HO}
theorem ObjOk.lt (x:ObjOk P w H h a o):a < h.objs.size:=by
 cases o with
 | lst xs=>obtain ⟨_,_,_,_,e⟩:=x;exact xbk e
 | tup xs=>obtain ⟨_,_,_,p⟩:=x;exact p.lt
 | dK kvs=>obtain ⟨_,_,_,_,o,_,_,e,_⟩:=x;exact xbk e
 | dT kvs=>obtain ⟨_,_,_,_,o,_,_,e,_⟩:=x;exact xbk e
 | set S n=>obtain ⟨o,_,_,_,e,_⟩:=x;exact xbk e
 | ins C dx fs=>obtain ⟨_,_,_,e,_⟩:=x;exact xbk e
 | own y=>obtain ⟨_,e⟩:=x;exact xbk e
 | xd fs=>obtain ⟨_,⟨_,_,_,e,_⟩,_⟩:=x;exact xbk e
 | rng lo hi=>obtain ⟨_,_,_,e⟩:=x;exact xbk e
 | frz ob u=>obtain ⟨e,_⟩:=x;exact xbk e
 | tbl ps=>exact xbk (show h.get? a=some _ from x)
 | met f y=>exact xbk (show h.get? a=some _ from x)
 | ext φ=>obtain ⟨_,⟨_,e⟩,_⟩:=x;exact xbk e
theorem Paired.mapP {α β:Type} {F G:α->β->Prop}:∀{l₁:List α} {l₂:List β},Paired F l₁ l₂->(∀a b,F a b->G a b)->Paired G l₁ l₂
 | _,_,.nil,_=>.nil
 | _,_,.cons r t,f=>.cons (f _ _ r) (Paired.mapP t f)
theorem ObjOk.stay (x:ObjOk P w H h a o) (k:∀b u,(b=a\/H b=some (.own a))->h.get? b=some u->h'.get? b=some u)
  (ho:∀b,H b=some (.own a)->H' b=some (.own a)) (ht:∀b xs,H b=some (.tup xs)->H' b=some (.tup xs)):ObjOk P w H' h' a o:=by
 induction o with
 | lst xs=>obtain ⟨z,its,n,r,e⟩:=x;exact ⟨z,its,n,r,k _ _ (.inl rfl) e⟩
 | tup xs=>obtain ⟨z,its,r,ob,e,c⟩:=x;exact ⟨z,its,r,ob,k _ _ (.inl rfl) e,c⟩
 | dK kvs=>obtain ⟨z,y,vs,r,ob,es,ep,e,c⟩:=x;exact ⟨z,y,vs,r,ob,es,ep,k _ _ (.inl rfl) e,c⟩
 | dT kvs =>
  obtain ⟨z,y,xs,r,ob,es,ep,e,c⟩:=x;exact ⟨z,y,xs,Paired.mapP r fun p q z=>⟨z.1,ht _ _ z.2.1,z.2.2⟩,ob,es,ep,k _ _ (.inl rfl) e,c⟩
 | set S n=>obtain ⟨ob,es,ep,t,e,c⟩:=x;exact ⟨ob,es,ep,t,k _ _ (.inl rfl) e,c⟩
 | ins C dx fs =>
  obtain ⟨d,z,ne,e,mA,⟨od,es,ep,e2,c⟩,r⟩:=x;exact ⟨ho _ d,z,ne,k _ _ (.inl rfl) e,mA,⟨od,es,ep,k _ _ (.inr d) e2,c⟩,r⟩
 | own y=>obtain ⟨ob,e⟩:=x;exact ⟨ob,k _ _ (.inl rfl) e⟩
 | xd fs=>obtain ⟨mA,⟨od,es,ep,e,c⟩,r⟩:=x;exact ⟨mA,⟨od,es,ep,k _ _ (.inl rfl) e,c⟩,r⟩
 | rng lo hi=>obtain ⟨t,u,v,e⟩:=x;exact ⟨t,u,v,k _ _ (.inl rfl) e⟩
 | frz ob u ih=>obtain ⟨e,q⟩:=x;exact ⟨k _ _ (.inl rfl) e,ih q⟩
 | tbl ps =>
  have e:h.get? a=some {cls:=.none,data:=.fields ps}:=x;show h'.get? a=some {cls:=.none,data:=.fields ps};exact k a _ (.inl rfl) e
 | met f y =>
  have e:h.get? a=some (PySem.W.methodObj (.ref f) (.ref y)):=x;show h'.get? a=some (PySem.W.methodObj (.ref f) (.ref y));exact k a _ (.inl rfl) e
 | ext φ=>obtain ⟨p,⟨o,e⟩,st⟩:=x;exact ⟨st _ _ p fun o q=>k _ _ (.inl rfl) q,⟨o,k _ _ (.inl rfl) e⟩,st⟩
theorem HOk.lt (x:HOk P w H h) (e:H a=some o):a < h.objs.size:=(x a o e).lt
theorem HOk.fresh (x:HOk P w H h) (e:h.objs.size<=a):H a=none:=by
 cases q:H a with
 | none=>rfl
 | some u=>exact absurd (xbh (x.lt q) e) (xgj _)
theorem HOk.kept (x:HOk P w H h) (k:∀b u,h.get? b=some u->h'.get? b=some u):HOk P w H h':=fun a o e =>
 (x a o e).stay (fun b u _ q=>k b u q) (fun _ q=>q) fun _ _ q=>q
theorem HOk.laid (x:HOk P w H h) (k:∀b u,h.get? b=some u->h'.get? b=some u) (hp:h.objs.size<=a) (new:ObjOk P w (upd H a o) h' a o):HOk P w (upd H a o) h':=fun b u e=>by
 have hn:=x.fresh hp;by_cases hb:b=a
 ·subst hb;rw[zf] at e;cases e;exact new
 ·rw[zj hb] at e;exact (x b u e).stay (fun c v _ q=>k c v q) (fun c q=>by rw[zj (zh q hn)];exact q) fun c xs q=>by rw[zj (zh q hn)];exact q
end
noncomputable def Rd (H:Hp) (a:Addr) (u:HO):Prop:=H a=some u\/∃o,H a=some (.frz o u)
theorem Rd.ok {P:Program} {w:World} {H:Hp} {h:Heap} {a:Addr} {u:HO} (r:Rd H a u) (x:HOk P w H h):ObjOk P w H h a u:=by
 rcases r with r | ⟨o,r⟩
 ·exact x a u r
 ·obtain ⟨_,q⟩:=x a _ r;exact q
noncomputable def Mut:Option HO->Prop
 | some (.lst _)=>True
 | some (.dK _)=>True
 | some (.dT _)=>True
 | some (.set _ _)=>True
 | some (.ins _ _ _)=>True
 | some (.ext _)=>True
 | _=>False
section
variable {P:Program} {w:World} {H:Hp} {h h':Heap} {x e:Addr} {o':HO}
theorem HOk.write (ok:HOk P w H h) (mu:Mut (H x)) (he:e=x\/H e=some (.own x)) (k:∀b u,b≠e->h.get? b=some u->h'.get? b=some u) (heo:∃u,h'.get? e=some u)
  (new:ObjOk P w (upd H x o') h' x o'):HOk P w (upd H x o') h':=fun b u q=>by
 have nown:∀c y,H c=some (.own y)->c≠x:=fun c y r z=>by subst z;rw[r] at mu;exact mu
 have ntup:∀c xs,H c=some (.tup xs)->c≠x:=fun c xs r z=>by subst z;rw[r] at mu;exact mu
 by_cases hb:b=x
 ·subst hb;rw[zf] at q;cases q;exact new
 ·rw[zj hb] at q;by_cases hbe:b=e
  ·have q':H b=some (.own x):=by
    rcases he with z | z
    ·exact absurd (hbe.trans z) hb
    ·rw[hbe];exact z
   rw[q] at q';cases q'
   obtain ⟨v,hv⟩:=heo;exact ⟨v,by rw[hbe];exact hv⟩
  ·refine (ok b u q).stay (fun c v hc r=>k c v ?_ r) (fun c r=>by rw[zj (nown c b r)];exact r) fun c xs r=>by rw[zj (ntup c xs r)];exact r
   rcases hc with rfl | hc
   ·exact hbe
   ·rintro rfl;rcases he with z | z
    ·exact nown c b hc z
    ·rw[hc] at z;cases z;exact hb rfl
end
structure Un (fs ex:List Addr) (H H':Hp) (h h':Heap):Prop where
 keep:∀b o,h.get? b=some o->H b=none->b∉fs->b∉ex->h'.get? b=some o
 slot:∀b o,h.get? b=some o->H b=none->b∈fs->b∉ex->∃sl,h'.get? b=some {o with slots:=sl}
 free:∀b o,h.get? b=some o->H b=none->b∉ex->H' b=none
 there:∀b o,h.get? b=some o->b∉ex->∃o',h'.get? b=some o'
 tups:∀b xs,H b=some (.tup xs)->H' b=some (.tup xs)
 frzs:∀b o u,H b=some (.frz o u)->H' b=some (.frz o u)
 tbls:∀b ps,H b=some (.tbl ps)->∃more,H' b=some (.tbl (ps++more))
section
variable {fs fs' ex ex':List Addr} {H H1 H2:Hp} {h h1 h2 h':Heap} {a x e:Addr} {o:HO}
theorem Un.any (u:Un fs ex H H1 h h1) {b:Addr} {ob:Obj} (q:h.get? b=some ob) (n:H b=none) (hx:b∉ex):∃sl,h1.get? b=some {ob with slots:=sl}:=by
 by_cases hb:b∈fs
 ·exact u.slot b ob q n hb hx
 ·exact ⟨ob.slots,u.keep b ob q n hb hx⟩
theorem Un.kept (k:∀b u,h.get? b=some u->h'.get? b=some u):Un fs ex H H h h' :=
 ⟨fun b ob q _ _ _=>k b ob q,fun b ob q _ _ _=>⟨ob.slots,k b ob q⟩,fun _ _ _ n _=>n,fun b ob q _=>⟨ob,k b ob q⟩,fun _ _ q=>q,fun _ _ _ q=>q,fun _ ps q=>⟨#[],by rw[q];simp⟩⟩
theorem Un.refl:Un fs ex H H h h:=Un.kept fun _ _ q=>q
theorem Un.laid (k:∀b u,h.get? b=some u->h'.get? b=some u) (hp:h.objs.size<=a) (hn:H a=none):Un fs ex H (upd H a o) h h' where
 keep:=fun b u q _ _ _=>k b u q
 slot:=fun b u q _ _ _=>⟨u.slots,k b u q⟩
 free:=fun b u q n _=>by rw[zj (xbt (xbh (xbk q) hp))];exact n
 there:=fun b u q _=>⟨u,k b u q⟩
 tups:=fun b xs q=>by rw[zj (zh q hn)];exact q
 frzs:=fun b u xs q=>by rw[zj (zh q hn)];exact q
 tbls:=fun b ps q=>⟨#[],by rw[zj (zh q hn),q];simp⟩
theorem Un.write (mu:Mut (H x)) (he:e=x\/H e=some (.own x)) (k:∀b u,b≠e->h.get? b=some u->h'.get? b=some u) (heo:∃u,h'.get? e=some u):Un fs ex H (upd H x o) h h':=by
 have hx:∀b,H b=none->b≠x:=fun b n z=>by subst z;rw[n] at mu;exact mu
 have hb:∀b,H b=none->b≠e:=fun b n z=>by
  subst z;rcases he with r | r
  ·exact hx b n r
  ·rw[n] at r;cases r
 have hm:∀b u,H b=some u->¬ Mut (some u)->b≠x:=fun b u q nm z=>by subst z;rw[q] at mu;exact nm mu
 refine ⟨fun b u q n _ _=>k b u (hb b n) q,fun b u q n _ _=>⟨u.slots,k b u (hb b n) q⟩,fun b u q n _=>by rw[zj (hx b n)];exact n,fun b u q _=>?_,
  fun b xs q=>by rw[zj (hm b _ q fun z=>z)];exact q,fun b u xs q=>by rw[zj (hm b _ q fun z=>z)];exact q,fun b ps q=>⟨#[],by rw[zj (hm b _ q fun z=>z),q];simp⟩⟩
 by_cases hbe:b=e
 ·subst hbe;exact heo
 ·exact ⟨u,k b u hbe q⟩
end
noncomputable def trk (h:Heap) (H:Hp):List Addr:=(List.range h.objs.size).filter fun a=>(H a).isSome
noncomputable def hidT (h:Heap) (H:Hp):Heap:=PySem.W.hideAll h (trk h H)
theorem zqv (h:Heap) (H:Hp):(hidT h H).objs.size=h.objs.size:=PySem.W.hideAll_size _ _
theorem zuu {h:Heap} {H:Hp} {b:Addr} {o:Obj} (e:h.get? b=some o) (n:H b=none):(hidT h H).get? b=some o :=
 PySem.W.hideAll_get _ e fun hm=>by
  have q:(H b).isSome=true:=(xhy.mp hm).2;rw[n] at q;simp at q
theorem zyo {h:Heap} {H:Hp} {b:Addr} {o:Obj} (e:(hidT h H).get? b=some o):h.get? b=some o/\H b=none:=by
 have e':h.get? b=some o:=PySem.W.of_hideAll (trk h H) e;refine ⟨e',?_⟩;cases q:H b with
 | none=>rfl
 | some x =>
  have hm:b∈trk h H:=xhy.mpr ⟨xgn.mpr (xbk e'),by simp[q]⟩;have z:(hidT h H).get? b=none:=PySem.W.hideAll_none (trk h H) hm;rw[z] at e;cases e
structure Mod (K:Fg) (mg:Str->Option Value) (base:Heap):Prop where
 kin:K.In base
 glob:base.Ns mainGlobals mg
 blt : ∃ mb, base.Ns builtinsNs mb /\ ∀ x : Str, x ≠ "__name__" -> mb x = bootBuiltins x
 nolimit:base.NoLimit
structure Cx where
 prog:Program
 w:World
 K:Fg
 mg:Str->Option Value
 base:Heap
 A:Around
 N:List Str
 s₀:Shared
 H₀:Hp
 env:Env
 outer:List Env
 stack:List Env
 ex:List Addr
 fn:Str->Bool
 calm:Bool
 pn:List (Addr × Obj)
 xe:Value->Shared->Prop
noncomputable def frs (l:List Env):List Addr:=l.filterMap (·.frame)
noncomputable abbrev Cx.fs (X:Cx):List Addr:=frs X.outer
noncomputable def Vis (sc:Scope) (x:Str):Prop:=sc.names.lookup x=some .local\/sc.names.lookup x=some .cell\/sc.names.lookup x=some .free
noncomputable def Loc (sc:Scope) (x:Str):Prop:=sc.names.lookup x=some .local\/sc.names.lookup x=some .cell
noncomputable def Look (env:Env) (h:Heap) (m:Str->Option Value) (x:Str) (u:Value):Prop :=
 (env.kindOf x=some .local/\m x=some u)\/((env.kindOf x=some .cell\/env.kindOf x=some .free)/\∃c,env.cells.lookup x=some c/\h.IsCell c (some u))
structure Cx.Ok (X:Cx):Prop where
 mod:Mod X.K X.mg X.base
 kind:X.env.scope.kind=.function
 glob:X.env.globals=mainGlobals
 blt:X.env.builtins=builtinsNs
 above:X.s₀.heap.objs.size<=X.env.locals
 inj:∀x y c,X.env.cells.lookup x=some c->X.env.cells.lookup y=some c->x=y
 has:∀x,(X.env.kindOf x=some .cell\/X.env.kindOf x=some .free)->∃c,X.env.cells.lookup x=some c
 cab:∀x c,X.fn x=true->X.env.cells.lookup x=some c->X.s₀.heap.objs.size<=c
 hd:X.calm=true->X.A.handled=none
 frames:X.A.frames=some X.stack
 stk:X.stack=X.outer\/(X.stack=X.env::X.outer/\X.env.frame=some X.env.locals)
 exf:∀b∈X.ex,b≠X.env.locals/\∀x c,X.env.cells.lookup x=some c->c≠b
 bs:∀b o,X.base.get? b=some o->X.s₀.heap.get? b=some o/\X.H₀ b=none
 bsz:X.base.objs.size<=X.s₀.heap.objs.size
 noex:∀b o,X.base.get? b=some o->b∉X.ex
 exfs:∀b∈X.ex,b∉X.fs
 funs:X.s₀.heap.FunFrames X.base X.outer
 frf:∀b∈X.fs,X.H₀ b=none
noncomputable def Hnd (A:Around) (H:Hp):Prop:=∀v,A.handled=some v->∃a o,v=.ref a/\H a=some (.frz o (.ext fun _=>True))/\∃vs,o.data=.fields vs/\vs[2]?=some .none
theorem Hnd.map {A:Around} {H H':Hp} (h:Hnd A H) (f:∀b o u,H b=some (.frz o u)->H' b=some (.frz o u)):Hnd A H':=fun v e=>let ⟨a,o,h1,h2,h3⟩:=h v e;⟨a,o,h1,f _ _ _ h2,h3⟩
theorem Hnd.none {A:Around} {H:Hp} (h:A.handled=.none):Hnd A H:=fun v e=>by rw[h] at e;cases e
structure Inv (X:Cx) (pins:List (Addr × Obj)) (σ:List (Option V)) (H:Hp) (s:Shared):Prop where
 ok:X.Ok
 os:s.os=X.s₀.os
 bare:AllBare s.gens
 base:Un X.fs X.ex X.H₀ H X.s₀.heap s.heap
 loc:∃m,s.heap.Ns X.env.locals m/\∀(i:Nat) (x:Str) (v:V),X.N[i]?=some x->σ[i]?=some (some v)->Vis X.env.scope x->∃u,RelV v u/\Look X.env s.heap m x u
 cell:∀x c,X.env.cells.lookup x=some c->∃v,s.heap.IsCell c v
 free:H X.env.locals=none
 freeC:∀x c,X.env.cells.lookup x=some c->H c=none
 pin:∀p∈X.pn++pins,s.heap.get? p.1=some p.2/\H p.1=none/\p.1≠X.env.locals/\p.1∉X.fs/\∀v,p.2.data≠.cell v
 hok:HOk X.prog X.w H s.heap
 len:σ.length=X.N.length
 hnd:Hnd X.A H
section
variable {X:Cx} {pins:List (Addr × Obj)} {σ:List (Option V)} {H H':Hp} {s:Shared} {h':Heap}
theorem Cx.Ok.nofr (ok:X.Ok) {b:Addr} {o:Obj} (e:X.base.get? b=some o):b∉X.fs:=fun hb=>by
 have:=(ok.funs.mem hb).1;rw[e] at this;cases this
theorem Inv.bs (I:Inv X pins σ H s):∀b o,X.base.get? b=some o->s.heap.get? b=some o/\H b=none:=fun b o e =>
 ⟨I.base.keep b o (I.ok.bs b o e).1 (I.ok.bs b o e).2 (I.ok.nofr e) (I.ok.noex b o e),I.base.free b o (I.ok.bs b o e).1 (I.ok.bs b o e).2 (I.ok.noex b o e)⟩
theorem Inv.bk (I:Inv X pins σ H s):∀b o,X.base.get? b=some o->s.heap.get? b=some o:=fun b o e=>(I.bs b o e).1
theorem Inv.mod (I:Inv X pins σ H s):Mod X.K X.mg X.base:=I.ok.mod
theorem Inv.kIn (I:Inv X pins σ H s):X.K.In s.heap:=I.ok.mod.kin.keeps I.bk
theorem Inv.lt (I:Inv X pins σ H s):X.env.locals < s.heap.objs.size:=let ⟨_,hn,_⟩:=I.loc;hn.lt
theorem Inv.sz (I:Inv X pins σ H s):X.s₀.heap.objs.size<=s.heap.objs.size:=xbb I.ok.above (xbp I.lt)
theorem Inv.nofs (I:Inv X pins σ H s) {a:Addr} (h:s.heap.objs.size<=a):a∉X.fs:=fun hb=>by
 obtain ⟨_,o,ho,_⟩:=I.ok.funs.mem hb;exact absurd (xbh (xbk ho) (xbb I.sz h)) (xgj _)
theorem Inv.cne (I:Inv X pins σ H s):∀x c,X.env.cells.lookup x=some c->c≠X.env.locals:=fun x c e z=>by
 obtain ⟨v,o,ho,hd⟩:=I.cell x c e;obtain ⟨m,⟨o',es,ep,ho',hd',_⟩,_⟩:=I.loc;rw[z,ho'] at ho;cases ho;rw[hd'] at hd;cases hd
theorem Inv.funs (I:Inv X pins σ H s):s.heap.FunFrames X.base X.outer:=by
 have all:∀(l:List Env),(∀b∈frs l,b∈X.fs)->X.s₀.heap.FunFrames X.base l->s.heap.FunFrames X.base l:=by
  intro l
  induction l with
  | nil=>intro _ _;trivial
  | cons env r ih =>
   intro hs hl;obtain ⟨hk,⟨L,o,hf,hn,ho,hd⟩,hr⟩:=hl;have hL:L∈X.fs:=hs L (by unfold frs;rw[xjq,hf];exact xce);obtain ⟨sl,e⟩:=I.base.slot L o ho (I.ok.frf L hL) hL fun z=>I.ok.exfs L z hL
   exact ⟨hk,⟨L,_,hf,hn,e,hd⟩,ih (fun b hb=>hs b (by unfold frs;rw[xjq,hf];exact xci _ hb)) hr⟩
 exact all X.outer (fun _ hb=>hb) I.ok.funs
theorem Inv.stack (I:Inv X pins σ H s):s.heap.FunFrames X.base X.stack:=by
 rcases I.ok.stk with e | ⟨e,hf⟩
 ·rw[e];exact I.funs
 ·rw[e];obtain ⟨m,hn,_⟩:=I.loc;refine .cons (by rw[I.ok.kind];decide) hf hn ?_ I.funs;exact xfg (xbb I.ok.bsz I.ok.above)
theorem Inv.stkSub (I:Inv X pins σ H s):∀b∈frs X.stack,b∈X.env.locals::X.fs:=fun b hb=>by
 rcases I.ok.stk with e | ⟨e,hf⟩
 ·rw[e] at hb;exact xci _ hb
 ·rw[e] at hb;unfold frs at hb;rw[xjq,hf] at hb;exact hb
theorem Inv.stkFree (I:Inv X pins σ H s):∀b∈frs X.stack,H b=none:=fun b hb=>by
 rcases xbn.mp (I.stkSub b hb) with e | hb
 ·rw[e];exact I.free
 ·obtain ⟨_,o,ho,_⟩:=I.ok.funs.mem hb;exact I.base.free b o ho (I.ok.frf b hb) fun z=>I.ok.exfs b z hb
theorem Inv.step {g':Array GenState} {t':Nat} {d':Drawn} {ch:List Addr} (I:Inv X pins σ H s)
  (hch:∀b∈ch,(b∈X.ex\/X.s₀.heap.objs.size<=b)/\b≠X.env.locals/\(∀x c,X.env.cells.lookup x=some c->c≠b)/\∀p∈X.pn++pins,p.1≠b)
  (keep:∀b o,b≠X.env.locals->b∉X.fs->b∉ch->s.heap.get? b=some o->H b=none->h'.get? b=some o)
  (slot:∀b o,b≠X.env.locals->b∈X.fs->b∉ch->s.heap.get? b=some o->H b=none->∃sl,h'.get? b=some {o with slots:=sl}) (free:∀b o,b∉ch->s.heap.get? b=some o->H b=none->H' b=none)
  (there:∀b o,b∉ch->s.heap.get? b=some o->∃o',h'.get? b=some o')
  (tups:∀b xs,H b=some (.tup xs)->H' b=some (.tup xs)) (frzs:∀b o u,H b=some (.frz o u)->H' b=some (.frz o u)) (tbls:∀b ps,H b=some (.tbl ps)->∃more,H' b=some (.tbl (ps++more)))
  (ns:∀m,s.heap.Ns X.env.locals m->h'.Ns X.env.locals m) (hok:HOk X.prog X.w H' h') (hg:AllBare g') :
  Inv X pins σ H' {s with heap:=h',gens:=g',drawn:=d',toks:=t'}:=by
 have neL:∀b o,X.s₀.heap.get? b=some o->b≠X.env.locals:=fun b o e=>xbt (xbh (xbk e) I.ok.above)
 have neC:∀b o,X.s₀.heap.get? b=some o->b∉X.ex->b∉ch:=fun b o e hx hb=>by
  rcases (hch b hb).1 with z | z
  ·exact hx z
  ·exact absurd (xbh (xbk e) z) (xgj _)
 have cellK:∀x c,X.env.cells.lookup x=some c->∀v,s.heap.IsCell c v->h'.IsCell c v:=fun x c e v hq0=>by
  obtain ⟨o,ho,hd⟩:=hq0;have nch:c∉ch:=fun z=>(hch c z).2.2.1 x c e rfl
  by_cases hc:c∈X.fs
  ·obtain ⟨sl,q⟩:=slot c o (I.cne x c e) hc nch ho (I.freeC x c e);exact ⟨_,q,hd⟩
  ·exact ⟨o,keep c o (I.cne x c e) hc nch ho (I.freeC x c e),hd⟩
 refine ⟨I.ok,I.os,hg,⟨fun b o e n hb hx=>?_,fun b o e n hb hx=>?_,fun b o e n hx=>?_,fun b o e hx=>?_,fun b xs e=>tups b xs (I.base.tups b xs e),fun b o xs e=>frzs b o xs (I.base.frzs b o xs e),fun b ps e=>?_⟩,?_,fun x c e=>?_,?_,fun x c e=>?_,fun p hp=>?_,hok,I.len,I.hnd.map frzs⟩
 ·exact keep b o (neL b o e) hb (neC b o e hx) (I.base.keep b o e n hb hx) (I.base.free b o e n hx)
 ·obtain ⟨sl,e1⟩:=I.base.slot b o e n hb hx;obtain ⟨sl',e2⟩:=slot b _ (neL b o e) hb (neC b o e hx) e1 (I.base.free b o e n hx);exact ⟨sl',e2⟩
 ·obtain ⟨o',e1⟩:=I.base.there b o e hx;exact free b o' (neC b o e hx) e1 (I.base.free b o e n hx)
 ·obtain ⟨o',e1⟩:=I.base.there b o e hx;exact there b o' (neC b o e hx) e1
 ·obtain ⟨m1,e1⟩:=I.base.tbls b ps e;obtain ⟨m2,e2⟩:=tbls b _ e1;exact ⟨m1++m2,by rw[e2,Array.append_assoc]⟩
 ·obtain ⟨m,hn,hl⟩:=I.loc;refine ⟨m,ns m hn,fun i x v e1 e2 e3=>?_⟩;obtain ⟨u,r,l⟩:=hl i x v e1 e2 e3;refine ⟨u,r,?_⟩;rcases l with l | ⟨k,c,e,z⟩
  ·exact .inl l
  ·exact .inr ⟨k,c,e,cellK x c e _ z⟩
 ·obtain ⟨v,z⟩:=I.cell x c e;exact ⟨v,cellK x c e v z⟩
 ·obtain ⟨m,⟨o,_,_,ho,_⟩,_⟩:=I.loc;exact free _ o (fun z=>(hch _ z).2.1 rfl) ho I.free
 ·obtain ⟨v,o,ho,hd⟩:=I.cell x c e;exact free c o (fun z=>(hch c z).2.2.1 x c e rfl) ho (I.freeC x c e)
 ·obtain ⟨e,n,ne,nf,d⟩:=I.pin p hp;have nch:p.1∉ch:=fun z=>(hch p.1 z).2.2.2 p hp rfl
  exact ⟨keep p.1 p.2 ne nf nch e n,free p.1 p.2 nch e n,ne,nf,d⟩
theorem Inv.un {t':Nat} (I:Inv X pins σ H s) (u:Un X.fs [] H H' s.heap h') (hok:HOk X.prog X.w H' h'):Inv X pins σ H' {s with heap:=h',toks:=t'}:=by
 obtain ⟨m,⟨o,es,ep,ho,r⟩,_⟩:=id I.loc;obtain ⟨sl,hL⟩:=u.any ho I.free (by simp)
 exact I.step (g':=s.gens) (d':=s.drawn) (ch:=[]) (fun _ z=>nomatch z) (fun b o _ hb _ e n=>u.keep b o e n hb (by simp)) (fun b o _ hb _ e n=>u.slot b o e n hb (by simp)) (fun b o _ e n=>u.free b o e n (by simp)) (fun b o _ e=>u.there b o e (by simp)) u.tups u.frzs u.tbls (fun m' hm=>by
  obtain ⟨o',es',ep',ho',r'⟩:=hm;rw[ho] at ho';cases ho'
  exact ⟨_,es',ep',hL,r'⟩) hok I.bare
theorem Inv.call {g':Array GenState} {t':Nat} {d':Drawn} {ch:List Addr} (I:Inv X pins σ H s) (u:Un (frs X.stack) ch H H' s.heap h') (hok:HOk X.prog X.w H' h') (hg:AllBare g')
  (hch:∀b∈ch,(b∈X.ex\/X.s₀.heap.objs.size<=b)/\b≠X.env.locals/\(∀x c,X.env.cells.lookup x=some c->c≠b)/\∀p∈X.pn++pins,p.1≠b) :
  Inv X pins σ H' {s with heap:=h',gens:=g',drawn:=d',toks:=t'}:=by
 obtain ⟨m,⟨o,es,ep,ho,r⟩,_⟩:=id I.loc;obtain ⟨sl,hL⟩:=u.any ho I.free fun z=>(hch _ z).2.1 rfl
 exact I.step (ch:=ch) hch (fun b o hL hb hc e n=>u.keep b o e n (fun z=>(xbn.mp (I.stkSub b z)).elim hL hb) hc) (fun b o _ _ hc e n=>u.any e n hc) (fun b o hc e n=>u.free b o e n hc) (fun b o hc e=>u.there b o e hc) u.tups u.frzs u.tbls (fun m' hm=>by
  obtain ⟨o',es',ep',ho',r'⟩:=hm;rw[ho] at ho';cases ho'
  exact ⟨_,es',ep',hL,r'⟩) hok hg
theorem Inv.turned {t':Nat} {it:Addr} (I:Inv X pins σ H s) (k:∀b o,b≠it->s.heap.get? b=some o->h'.get? b=some o) (hn:H it=none) (hL:it≠X.env.locals)
  (h1:it∈X.ex\/X.s₀.heap.objs.size<=it) (h2:∀x c,X.env.cells.lookup x=some c->c≠it) (h3:∀p∈X.pn++pins,p.1≠it):Inv X pins σ H {s with heap:=h',toks:=t'}:=by
 have nit:∀b u,H b=some u->b≠it:=fun b u e z=>by rw[z,hn] at e;cases e
 refine I.step (g':=s.gens) (d':=s.drawn) (ch:=[it]) (fun b hb=>?_) (fun b o _ _ hc e _=>k b o (fun z=>hc (by simp[z])) e) (fun b o _ _ hc e _=>⟨o.slots,k b o (fun z=>hc (by simp[z])) e⟩) (fun _ _ _ _ n=>n)
  (fun b o hc e=>⟨o,k b o (fun z=>hc (by simp[z])) e⟩) (fun _ _ e=>e) (fun _ _ _ e=>e) (fun b ps e=>⟨#[],by rw[e];simp⟩) (fun m hm=>?_) (fun b u e=>?_) I.bare
 ·have e:b=it:=by simpa using hb
  subst e;exact ⟨h1,hL,h2,h3⟩
 ·obtain ⟨o,es,ep,ho,r⟩:=hm;exact ⟨o,es,ep,k _ o (xeb hL) ho,r⟩
 ·refine (I.hok b u e).stay (fun c v hc q=>k c v ?_ q) (fun _ q=>q) fun _ _ q=>q
  rcases hc with z | z
  ·rw[z];exact nit b u e
  ·exact nit c _ z
theorem Inv.tok (I:Inv X pins σ H s) (t:Nat):Inv X pins σ H {s with toks:=t}:=I.un (h':=s.heap) (t':=t) Un.refl I.hok
theorem Inv.kept {t':Nat} (I:Inv X pins σ H s) (k:∀b u,s.heap.get? b=some u->h'.get? b=some u):Inv X pins σ H {s with heap:=h',toks:=t'}:=I.un (Un.kept k) (I.hok.kept k)
theorem Inv.laid {a:Addr} {o:HO} {t':Nat} (I:Inv X pins σ H s) (k:∀b u,s.heap.get? b=some u->h'.get? b=some u) (hp:s.heap.objs.size<=a) (new:ObjOk X.prog X.w (upd H a o) h' a o) :
 Inv X pins σ (upd H a o) {s with heap:=h',toks:=t'}:=I.un (Un.laid k hp (I.hok.fresh hp)) (I.hok.laid k hp new)
theorem Inv.write {x e:Addr} {o:HO} {t':Nat} (I:Inv X pins σ H s) (mu:Mut (H x)) (he:e=x\/H e=some (.own x)) (k:∀b u,b≠e->s.heap.get? b=some u->h'.get? b=some u) (heo:∃u,h'.get? e=some u)
 (new:ObjOk X.prog X.w (upd H x o) h' x o):Inv X pins σ (upd H x o) {s with heap:=h',toks:=t'}:=I.un (Un.write mu he k heo) (I.hok.write mu he k heo new)
theorem Inv.pins_of {pins':List (Addr × Obj)} (I:Inv X pins σ H s) (h:∀p∈pins',s.heap.get? p.1=some p.2/\H p.1=none/\p.1≠X.env.locals/\p.1∉X.fs/\∀v,p.2.data≠.cell v):Inv X pins' σ H s :=
 ⟨I.ok,I.os,I.bare,I.base,I.loc,I.cell,I.free,I.freeC,fun p hp=>(xcc.mp hp).elim (fun z=>I.pin p (xgk _ z)) (h p),I.hok,I.len,I.hnd⟩
theorem znc {N:List Str} (hN:N.Nodup) {i j:Nat} {x:Str} (a:N[i]?=some x) (b:N[j]?=some x):i=j:=by
 obtain ⟨h1,e1⟩:=xbo.mp a;obtain ⟨h2,e2⟩:=xbo.mp b;exact (List.getElem_inj hN).mp (e1.trans e2.symm)
theorem zjq {M:Model} {A:Around} {E:Value->Shared->Prop} {i:Nat} {x:Str} {v:V} {u:Value} {Q:Unit->Shared->Prop} (I:Inv X pins σ H s) (hN:X.N.Nodup) (hi:X.N[i]?=some x) (hx:Loc X.env.scope x) (r:RelV v u)
  (h:∀s',Inv X pins (σ.set i (some v)) H s'->(∃a,Heap.SameBut a s.heap s'.heap/\(a=X.env.locals\/X.env.cells.lookup x=some a))->Q () s') (hf:X.fn x=true\/X.env.scope.names.lookup x=some .local:=by first | exact .inl rfl | exact .inr rfl | assumption):wpAny M A (storeName X.env x u) Q E s:=by
 obtain ⟨m,hn,hl⟩:=id I.loc;have hcls:(X.env.scope.kind == .class || (X.env.scope.kind == .module && X.env.locals != X.env.globals))=false:=by rw[I.ok.kind];rfl
 have hiσ:i < σ.length:=by rw[I.len];exact (xbo.mp hi).1
 have cne:=I.cne;have tracked:∀{a:Addr} {h':Heap},(∃o,s.heap.get? a=some o/\H a=none)->Heap.SameBut a s.heap h'->HOk X.prog X.w H h':=fun {a h'} ha hs b ob e=>by
  obtain ⟨_,_,hfree⟩:=ha;refine (I.hok b ob e).stay (fun c w' hc q=>(hs.2 c ?_).trans q) (fun _ q=>q) fun _ _ q=>q
  rintro rfl;rcases hc with rfl | hc
  ·rw[hfree] at e;cases e
  ·rw[hfree] at hc;cases hc
 rcases hx with hk | hk
 ·refine wpAny_storeName_local hk hn (fun h' hn' hs=>?_) hcls;obtain ⟨oL,_,_,hoL,_⟩:=id hn;refine h _ ⟨I.ok,I.os,I.bare,⟨fun b o e n hb hx=>?_,fun b o e n hb hx=>?_,I.base.free,fun b o e hx=>?_,I.base.tups,I.base.frzs,I.base.tbls⟩,⟨_,hn',fun j y v' e1 e2 e3=>?_⟩,fun y c e=>?_,I.free,I.freeC,fun p hp=>?_,tracked ⟨oL,hoL,I.free⟩ hs,by simpa using I.len,I.hnd⟩ ⟨_,hs,.inl rfl⟩
  ·exact (hs.2 b (xbt (xbh (xbk e) I.ok.above))).trans (I.base.keep b o e n hb hx)
  ·obtain ⟨sl,e1⟩:=I.base.slot b o e n hb hx;exact ⟨sl,(hs.2 b (xbt (xbh (xbk e) I.ok.above))).trans e1⟩
  ·obtain ⟨o',e1⟩:=I.base.there b o e hx;exact ⟨o',(hs.2 b (xbt (xbh (xbk e) I.ok.above))).trans e1⟩
  ·by_cases hj:j=i
   ·subst hj;rw[hi] at e1;cases e1
    rw[xdl hiσ] at e2;cases e2;exact ⟨u,r,.inl ⟨hk,by simp⟩⟩
   ·rw[xcm (xeb hj)] at e2;obtain ⟨u',r',q⟩:=hl j y v' e1 e2 e3;refine ⟨u',r',?_⟩;rcases q with ⟨k,e⟩ | ⟨k,c,e,z⟩
    ·refine .inl ⟨k,?_⟩;have:y≠x:=fun e=>hj (znc hN e1 (e ▸ hi))
     simp[this,e]
    ·exact .inr ⟨k,c,e,z.sameBut hs (cne y c e)⟩
  ·obtain ⟨w',z⟩:=I.cell y c e;exact ⟨w',z.sameBut hs (cne y c e)⟩
  ·obtain ⟨e,n,ne,nf,d⟩:=I.pin p hp;exact ⟨(hs.2 p.1 ne).trans e,n,ne,nf,d⟩
 ·have hfn:X.fn x=true:=by
   rcases hf with z | z
   ·exact z
   ·rw[z] at hk;cases hk
  obtain ⟨c,hc⟩:=I.ok.has x (.inl hk);obtain ⟨w',z⟩:=I.cell x c hc;refine wpAny_storeName_cell I.ok.kind hk hc z (fun h' hc' hs=>?_);obtain ⟨oc,hoc,hocd⟩:=id z;refine h {s with heap:=h'} ⟨I.ok,I.os,I.bare,⟨fun b o e n hb hx=>?_,fun b o e n hb hx=>?_,I.base.free,fun b o e hx=>?_,I.base.tups,I.base.frzs,I.base.tbls⟩,⟨m,hn.sameBut hs (xeb (cne x c hc)),fun j y v' e1 e2 e3=>?_⟩,fun y c' e=>?_,I.free,I.freeC,fun p hp=>?_,tracked ⟨oc,hoc,I.freeC x c hc⟩ hs,by simpa using I.len,I.hnd⟩ ⟨c,hs,.inr hc⟩
  ·exact (hs.2 b (xbt (xbh (xbk e) (I.ok.cab x c hfn hc)))).trans (I.base.keep b o e n hb hx)
  ·obtain ⟨sl,e1⟩:=I.base.slot b o e n hb hx;exact ⟨sl,(hs.2 b (xbt (xbh (xbk e) (I.ok.cab x c hfn hc)))).trans e1⟩
  ·obtain ⟨o',e1⟩:=I.base.there b o e hx;exact ⟨o',(hs.2 b (xbt (xbh (xbk e) (I.ok.cab x c hfn hc)))).trans e1⟩
  ·by_cases hj:j=i
   ·subst hj;rw[hi] at e1;cases e1
    rw[xdl hiσ] at e2;cases e2;exact ⟨u,r,.inr ⟨.inl hk,c,hc,hc'⟩⟩
   ·rw[xcm (xeb hj)] at e2;obtain ⟨u',r',q⟩:=hl j y v' e1 e2 e3;refine ⟨u',r',?_⟩;rcases q with q | ⟨k,c',e,z'⟩
    ·exact .inl q
    ·refine .inr ⟨k,c',e,z'.sameBut hs ?_⟩;rintro rfl;exact hj (znc hN e1 (I.ok.inj _ _ _ e hc ▸ hi))
  ·by_cases hcc:c'=c
   ·subst hcc;exact ⟨_,hc'⟩
   ·obtain ⟨w2,z2⟩:=I.cell y c' e;exact ⟨w2,z2.sameBut hs hcc⟩
  ·obtain ⟨e,n,ne,nf,d⟩:=I.pin p hp;refine ⟨(hs.2 p.1 ?_).trans e,n,ne,nf,d⟩;intro q;rw[q,hoc] at e;have q':oc=p.2:=xbw e;exact d w' (by rw[← q'];exact hocd)
theorem zii {M:Model} {A:Around} {E:Value->Shared->Prop} {i:Nat} {x:Str} {v:V} {u:Value} {Q:Unit->Shared->Prop} (I:Inv X pins σ H s) (hN:X.N.Nodup) (hi:X.N[i]?=some x) (hx:Loc X.env.scope x) (r:RelV v u)
  (h:∀s',Inv X pins (σ.set i (some v)) H s'->Q () s') (hf:X.fn x=true\/X.env.scope.names.lookup x=some .local:=by first | exact .inl rfl | exact .inr rfl | assumption):wpAny M A (storeName X.env x u) Q E s :=
 zjq I hN hi hx r (fun s' I' _=>h s' I') hf
theorem Inv.call' {s':Shared} {ch:List Addr} (I:Inv X pins σ H s) (ho:s'.os=s.os) (u:Un (frs X.stack) ch H H' s.heap s'.heap) (hok:HOk X.prog X.w H' s'.heap) (hg:AllBare s'.gens)
  (hch:∀b∈ch,(b∈X.ex\/X.s₀.heap.objs.size<=b)/\b≠X.env.locals/\(∀x c,X.env.cells.lookup x=some c->c≠b)/\∀p∈X.pn++pins,p.1≠b):Inv X pins σ H' s':=by
 obtain ⟨h',g',d',t',o'⟩:=s';have e:o'=s.os:=ho;subst e;exact I.call (g':=g') (t':=t') (d':=d') u hok hg hch
end
noncomputable abbrev XK:=Value->Option Addr->Hp->Prop
noncomputable abbrev St:=List (Option V)
noncomputable abbrev VK:=V->Hp->Prop
noncomputable abbrev TE:=St->Hp->VK->Prop
noncomputable abbrev TT:=St->Hp->(Bool->Hp->Prop)->Prop
noncomputable abbrev TA:=St->Hp->(List V->Hp->Prop)->Prop
structure Ends where
 nx:St->Hp->Prop
 rt:VK
 bk:St->Hp->Prop:=fun _ _=>False
 ct:St->Hp->Prop:=fun _ _=>False
noncomputable abbrev TS:=Ends->St->Hp->Prop
noncomputable def EP (X:Cx) (pins:List (Addr × Obj)) (σ:St) (Q:VK) (u:Value) (s':Shared):Prop:=∃v H',Inv X pins σ H' s'/\RelV v u/\Q v H'
noncomputable def TP (X:Cx) (pins:List (Addr × Obj)) (σ:St) (Q:Bool->Hp->Prop) (b:Bool) (s':Shared):Prop:=∃H',Inv X pins σ H' s'/\Q b H'
noncomputable def AP (X:Cx) (pins:List (Addr × Obj)) (σ:St) (Q:List V->Hp->Prop) (us:List Value) (s':Shared):Prop:=∃vs H',Inv X pins σ H' s'/\Vals vs us/\Q vs H'
noncomputable def SP (X:Cx) (pins:List (Addr × Obj)) (D:Ends) (f:Flow) (s':Shared):Prop :=
 match f with
 | .next=>∃σ' H',Inv X pins σ' H' s'/\D.nx σ' H'
 | .brk=>∃σ' H',Inv X pins σ' H' s'/\D.bk σ' H'
 | .cont=>∃σ' H',Inv X pins σ' H' s'/\D.ct σ' H'
 | .ret u=>∃v σ' H',Inv X pins σ' H' s'/\RelV v u/\D.rt v H'
noncomputable def PE (X:Cx) (e:Expr) (t:TE):Prop :=
 ∀(pins:List (Addr × Obj)) (s:Shared) (σ:St) (H:Hp) (Q:VK),Inv X pins σ H s->t σ H Q->wpAny (model X.prog X.w) X.A (eval e X.env) (EP X pins σ Q) X.xe s
noncomputable def PT (X:Cx) (e:Expr) (t:TT):Prop :=
 ∀(pins:List (Addr × Obj)) (s:Shared) (σ:St) (H:Hp) (Q:Bool->Hp->Prop),Inv X pins σ H s->t σ H Q->wpAny (model X.prog X.w) X.A (isTrue e X.env (eval e X.env)) (TP X pins σ Q) X.xe s
noncomputable def PW (X:Cx) (e:Expr) (t:TT):Prop :=
 ∀(whole:Sem Value) (pins:List (Addr × Obj)) (s:Shared) (σ:St) (H:Hp) (Q:Bool->Hp->Prop),Inv X pins σ H s->t σ H Q->wpAny (model X.prog X.w) X.A (isTrue e X.env whole) (TP X pins σ Q) X.xe s
theorem PW.pt {X:Cx} {e:Expr} {t:TT} (h:PW X e t):PT X e t:=h _
noncomputable def PA (X:Cx) (es:List Expr) (t:TA):Prop :=
 ∀(pos:Pos) (pins:List (Addr × Obj)) (s:Shared) (σ:St) (H:Hp) (Q:List V->Hp->Prop),Inv X pins σ H s->t σ H Q->wpAny (model X.prog X.w) X.A (spliced (backTo pos (starEach es X.env))) (AP X pins σ Q) X.xe s
noncomputable def PS (X:Cx) (st:Stmt) (t:TS):Prop :=
 ∀(pins:List (Addr × Obj)) (s:Shared) (σ:St) (H:Hp) (D:Ends),Inv X pins σ H s->t D σ H->wpAny (model X.prog X.w) X.A (exec st X.env) (SP X pins D) X.xe s
noncomputable def PSs (X:Cx) (st:List Stmt) (t:TS):Prop :=
 ∀(pins:List (Addr × Obj)) (s:Shared) (σ:St) (H:Hp) (D:Ends),Inv X pins σ H s->t D σ H->wpAny (model X.prog X.w) X.A (execs st X.env) (SP X pins D) X.xe s
theorem thn {α:Type} {t:Sem α} {Q Q':α->Shared->Prop} {M:Model} {A:Around} {E:Value->Shared->Prop} {s:Shared} (h:wpAny M A t Q E s) (hQ:∀a s,Q a s->Q' a s):wpAny M A t Q' E s:=xdj h hQ fun _ _ x=>x
section
variable {X:Cx}
noncomputable def tVar (i:Nat):TE:=fun σ H Q=>∃v,σ[i]?=some (some v)/\Q v H
noncomputable def tC (v:V):TE:=fun _ H Q=>Q v H
theorem zmp {i : Nat} {x : Str} {pos : Pos} (hN : X.N[i]? = some x) (hv : Vis X.env.scope x) (hd : (x == ("__debug__" : Str)) = false := by decide) (hcd : (x == ("__classdict__" : Str)) = false := by decide) : PE X (.Name x pos) (tVar i) := by
 intro pins s σ H Q I h;obtain ⟨v,e,h⟩:=h;obtain ⟨m,hn,hl⟩:=I.loc;obtain ⟨u,r,l⟩:=hl i x v hN e hv;have fin:EP X pins σ Q u s:=⟨v,H,I,r,h⟩
 rcases l with ⟨hk,hm⟩ | ⟨hk,c,hc,hcell⟩
 ·exact wpAny_Name (wpAny_loadName_local I.ok.kind hk hn hm fin) hd
 ·rcases hk with hk | hk
  ·exact wpAny_Name (wpAny_loadName_cell I.ok.kind hk hc hcell fin) hd
  ·exact wpAny_Name (wpAny_loadName_free I.ok.kind hk hc hcell fin hcd) hd
theorem zbcz {i j pos}:PE X (.Constant (.int i) j pos) (tC (.int i)):=fun _ _ _ H _ I h=>wpAny_Constant_int ⟨.int i,H,I.tok _,⟨_,rfl⟩,h⟩
theorem zbhn {b j pos}:PE X (.Constant (.bool b) j pos) (tC (.bl b)):=fun _ _ _ H _ I h=>Constant_bool ⟨.bl b,H,I,rfl,h⟩
theorem zbcy {j pos}:PE X (.Constant .none j pos) (tC .non):=fun _ _ _ H _ I h=>Constant_none ⟨.non,H,I,rfl,h⟩
theorem zbcv {x j pos}:PE X (.Constant (.str x) j pos) (tC (.str x)):=fun _ _ _ H _ I h=>xjt ⟨.str x,H,I.tok _,⟨_,rfl⟩,h⟩
noncomputable def Gl (X:Cx) (x:Str):Prop:=X.env.kindOf x=some .globalImplicit
theorem zhp {E:Value->Shared->Prop} {pins:List (Addr × Obj)} {s:Shared} {σ:St} {H:Hp} {x:Str} {u:Value} {pos:Pos} {Q:Value->Shared->Prop} (I:Inv X pins σ H s) (hg:Gl X x) (hm:X.mg x=some u) (h:Q u s)
  (hd : (x == ("__debug__" : Str)) = false := by decide) : wpAny (model X.prog X.w) X.A (eval (.Name x pos) X.env) Q E s :=
 xhu I.ok.kind hg (Calls.loadGlobal_global (by rw[I.ok.glob];exact I.mod.glob.keeps I.bk) hm h) hd
theorem znl {E:Value->Shared->Prop} {pins:List (Addr × Obj)} {s:Shared} {σ:St} {H:Hp} {x:Str} {u:Value} {pos:Pos} {Q:Value->Shared->Prop} (I:Inv X pins σ H s) (hg:Gl X x) (hm:X.mg x=none) (hv:bootBuiltins x=some u) (h:Q u s)
  (hn : x ≠ "__name__" := by decide) (hd : (x == ("__debug__" : Str)) = false := by decide) : wpAny (model X.prog X.w) X.A (eval (.Name x pos) X.env) Q E s := by
 obtain ⟨mb,h1,h2⟩:=I.mod.blt;exact xhu I.ok.kind hg (Calls.loadGlobal_builtin (by rw[I.ok.glob];exact I.mod.glob.keeps I.bk) hm (by rw[I.ok.blt];exact h1.keeps I.bk) ((h2 x hn).trans hv) h) hd
theorem zmq {x : Str} {v : V} {u : Value} {pos : Pos} (hg : Gl X x) (hm : X.mg x = some u) (r : RelV v u) (hd : (x == ("__debug__" : Str)) = false := by decide) : PE X (.Name x pos) (tC v) :=
 fun _ _ _ H _ I h=>zhp I hg hm ⟨v,H,I,r,h⟩ hd
theorem zfs {x : Str} {v : V} {u : Value} {pos : Pos} (hg : Gl X x) (hm : X.mg x = none) (hv : bootBuiltins x = some u) (r : RelV v u) (hn : x ≠ "__name__" := by decide) (hd : (x == ("__debug__" : Str)) = false := by decide) : PE X (.Name x pos) (tC v) :=
 fun _ _ _ H _ I h=>znl I hg hm hv ⟨v,H,I,r,h⟩ hn hd
variable {a b:Expr} {ta tb:TE} {pos:Pos}
noncomputable def PC (X:Cx) (op:CmpOp) (a b:Expr) (t:TE):Prop :=
 ∀(pins:List (Addr × Obj)) (s:Shared) (σ:St) (H:Hp) (Q:VK),Inv X pins σ H s->t σ H Q ->
  wpAny (model X.prog X.w) X.A (eval a X.env) (fun v s₁=>wpAny (model X.prog X.w) X.A (eval b X.env) (fun u s₂=>wpAny (model X.prog X.w) X.A (compareOp op v u) (EP X pins σ Q) X.xe s₂) X.xe s₁) X.xe s
noncomputable def tB (t:TE):TT:=fun σ H Q=>t σ H fun x H1=>∃c,x=.bl c/\Q c H1
theorem zbco {op:CmpOp} {t:TE} (h:PC X op a b t) (h1:behindInMarks op b=false:=by first | exact nobehind _ (by decide) (by decide) | rfl):PT X (.Compare a [op] [b] pos) (tB t):=by
 intro pins s σ H Q I hw;refine wpAny_isTrue_Compare1 (thn (h pins s σ H _ I hw) fun v s1 h1=>thn h1 fun u s2 h2=>thn h2 fun c s3 hq0=>?_) h1;obtain ⟨x,H1,I1,r1,q1⟩:=hq0;obtain ⟨d,rfl,q⟩:=q1;cases r1;exact xfm ⟨H1,I1,q⟩
variable {tA tB':TT} {rest:List Expr}
noncomputable def tAnd (t u:TT):TT:=fun σ H Q=>t σ H fun c H1=>if c=true then u σ H1 Q else Q false H1
noncomputable def tOr (t u:TT):TT:=fun σ H Q=>t σ H fun c H1=>if c=true then Q true H1 else u σ H1 Q
noncomputable def tNot (t:TT):TT:=fun σ H Q=>t σ H fun c H1=>Q (!c) H1
theorem pw_and1 (ha:PT X a tA):PW X (.BoolOp .And [a] pos) tA:=by
 intro wh pins s σ H Q I h;refine isTrue_and (thn (ha pins s σ H Q I h) fun c s1 e=>?_);cases c with
 | true=>exact isTrue_and_nil e
 | false=>exact e
theorem pw_or1 (ha:PT X a tA):PW X (.BoolOp .Or [a] pos) tA:=by
 intro wh pins s σ H Q I h;refine isTrue_or (thn (ha pins s σ H Q I h) fun c s1 e=>?_);cases c with
 | false=>exact isTrue_or_nil e
 | true=>exact e
theorem pw_and (ha:PT X a tA) (hb:PW X (.BoolOp .And (b::rest) pos) tB'):PW X (.BoolOp .And (a::b::rest) pos) (tAnd tA tB'):=by
 intro wh pins s σ H Q I h;refine isTrue_and (thn (ha pins s σ H _ I h) fun c s1 hq0=>?_);obtain ⟨H1,I1,q1⟩:=hq0;cases c with
 | true=>exact hb wh pins s1 σ H1 Q I1 q1
 | false=>exact ⟨H1,I1,q1⟩
theorem pw_or (ha:PT X a tA) (hb:PW X (.BoolOp .Or (b::rest) pos) tB'):PW X (.BoolOp .Or (a::b::rest) pos) (tOr tA tB'):=by
 intro wh pins s σ H Q I h;refine isTrue_or (thn (ha pins s σ H _ I h) fun c s1 hq0=>?_);obtain ⟨H1,I1,q1⟩:=hq0;cases c with
 | true=>exact ⟨H1,I1,q1⟩
 | false=>exact hb wh pins s1 σ H1 Q I1 q1
theorem zbcn (ha:PT X a tA):PT X (.UnaryOp .Not a pos) (tNot tA):=by
 intro pins s σ H Q I h;exact isTrue_not (ha pins s σ H (fun c H1=>Q (!c) H1) I h)
noncomputable def tAndV (ta tb:TE):TE:=fun σ H Q=>ta σ H fun x H1=>∃c,x=.bl c/\if c=true then tb σ H1 Q else Q (.bl false) H1
noncomputable def tNotV (ta:TE):TE:=fun σ H Q=>ta σ H fun x H1=>∃c,x=.bl c/\Q (.bl (!c)) H1
theorem zbcw {op} {t:TE} (h:PE X a t):PE X (.BoolOp op [a] pos) t:=fun pins s σ H Q I hw=>BoolOp_one (h pins s σ H Q I hw)
theorem zbdb (ha:PE X a ta) (hb:PE X (.BoolOp .And (b::rest) pos) tb):PE X (.BoolOp .And (a::b::rest) pos) (tAndV ta tb):=by
 intro pins s σ H Q I h;refine BoolOp_and (thn (ha pins s σ H _ I h) fun v s1 hq0=>?_);obtain ⟨x,H1,I1,r1,q1⟩:=hq0;obtain ⟨c,rfl,q1⟩:=q1;cases r1;refine xfm ?_;cases c with
 | true=>exact hb pins s1 σ H1 Q I1 q1
 | false=>exact ⟨.bl false,H1,I1,rfl,q1⟩
theorem zbcx (ha:PE X a ta):PE X (.UnaryOp .Not a pos) (tNotV ta):=by
 intro pins s σ H Q I h;refine UnaryOp_ (thn (ha pins s σ H _ I h) fun v s1 hq0=>?_);obtain ⟨x,H1,I1,r1,q1⟩:=hq0;obtain ⟨c,rfl,q1⟩:=q1;cases r1;exact not_of (xfm ⟨.bl (!c),H1,I1,rfl,q1⟩)
end
noncomputable def SqL (K:Fg) (H:Hp) (a:Addr) (xs:List V):Prop :=
 Rd H a (.lst xs) \/
  ∃ (o : Obj) (its : Array Value) (n : Nat), K.lookup a = some o /\ o.cls = .type "list" /\ o.dict = none /\ o.data = .seq its n /\ its.size <= sizeLine /\ Vals xs its.toList
noncomputable def SqT (K:Fg) (H:Hp) (a:Addr) (xs:List V):Prop :=
 Rd H a (.tup xs) \/
  ∃ (o : Obj) (its : Array Value) (n : Nat), K.lookup a = some o /\ o.cls = .type "tuple" /\ o.data = .seq its n /\ its.size <= sizeLine /\ Vals xs its.toList
noncomputable def absV:Value->Option V
 | .none=>some .non
 | .bool b=>some (.bl b)
 | .int i _=>some (.int i)
 | .str x _=>some (.str x)
 | .bytes b _=>some (.byt b)
 | .float b _=>some (.flt b)
 | .ref a=>some (.ref a)
 | .type n=>some (.ty n)
 | _=>none
theorem RelV.abs {x:V} {u:Value} (r:RelV x u):absV u=some x:=by
 cases x with
 | non=>cases r;rfl
 | bl _=>cases r;rfl
 | int _=>obtain ⟨t,rfl⟩:=r;rfl
 | str _=>obtain ⟨t,rfl⟩:=r;rfl
 | byt _=>obtain ⟨t,rfl⟩:=r;rfl
 | flt _=>obtain ⟨t,rfl⟩:=r;rfl
 | ref _=>cases r;rfl
 | ty _=>cases r;rfl
theorem RelV.inj {x y:V} {u:Value} (r:RelV x u) (q:RelV y u):x=y:=xbw (r.abs.symm.trans q.abs)
theorem Vals.inj:∀{xs ys:List V} {us:List Value},Vals xs us->Vals ys us->xs=ys
 | _,_,_,.nil,.nil=>rfl
 | _,_,_,.cons r t,.cons r' t'=>by rw[r.inj r',Vals.inj t t']
section
variable {X:Cx} {pins:List (Addr × Obj)} {σ:St} {H:Hp} {s:Shared} {a:Addr} {xs ys:List V}
theorem SqL.of {K:Fg} (h:H a=some (.lst xs)):SqL K H a xs:=.inl (.inl h)
theorem SqT.of {K:Fg} (h:H a=some (.tup xs)):SqT K H a xs:=.inl (.inl h)
theorem Inv.list (I:Inv X pins σ H s) (h:SqL X.K H a xs):∃its:List Value,Vals xs its/\PlainL s.heap a its.toArray/\xs.length<=sizeLine:=by
 rcases h with h | ⟨o,its,n,hk,hc,hd,hs,hz,r⟩
 ·obtain ⟨z,its,n,r,e⟩:=h.ok I.hok;exact ⟨its,r,⟨_,n,e,rfl,rfl,rfl⟩,z⟩
 ·refine ⟨its.toList,r,⟨o,n,I.kIn a o hk,hc,hd,by simpa using hs⟩,?_⟩;have e:=r.length;simp only[xbv] at e;lia
theorem Inv.tuple (I:Inv X pins σ H s) (h:SqT X.K H a xs):∃its:List Value,Vals xs its/\IsTup s.heap a its.toArray/\xs.length<=sizeLine:=by
 rcases h with h | ⟨o,its,n,hk,hc,hs,hz,r⟩
 ·obtain ⟨z,its,r,p⟩:=h.ok I.hok;exact ⟨its,r,p,z⟩
 ·refine ⟨its.toList,r,⟨o,I.kIn a o hk,hc,n,by simpa using hs⟩,?_⟩;have e:=r.length;simp only[xbv] at e;lia
theorem Inv.list_inj (I:Inv X pins σ H s) (h:SqL X.K H a xs) (h':SqL X.K H a ys):xs=ys:=by
 obtain ⟨its,r,⟨o,n,e,_,_,d⟩,_⟩:=I.list h;obtain ⟨its',r',⟨o',n',e',_,_,d'⟩,_⟩:=I.list h';rw[e] at e';cases e'
 rw[d] at d';injection d' with d1 _
 have:its=its':=by simpa using congrArg Array.toList d1
 subst this;exact r.inj r'
theorem Inv.tuple_inj (I:Inv X pins σ H s) (h:SqT X.K H a xs) (h':SqT X.K H a ys):xs=ys:=by
 obtain ⟨its,r,⟨o,e,_,n,d⟩,_⟩:=I.tuple h;obtain ⟨its',r',⟨o',e',_,n',d'⟩,_⟩:=I.tuple h';rw[e] at e';cases e'
 rw[d] at d';injection d' with d1 _
 have:its=its':=by simpa using congrArg Array.toList d1
 subst this;exact r.inj r'
end
noncomputable abbrev Cx.wish (X:Cx) (E:Value->Shared->Prop):Cx:={X with xe:=E}
noncomputable abbrev Cx.nox (X:Cx):Cx:=X.wish fun _ _=>False
theorem Cx.Ok.wish {X:Cx} (ok:X.Ok) (E:Value->Shared->Prop):(X.wish E).Ok :=
 ⟨ok.mod,ok.kind,ok.glob,ok.blt,ok.above,ok.inj,ok.has,ok.cab,ok.hd,ok.frames,ok.stk,ok.exf,ok.bs,ok.bsz,ok.noex,ok.exfs,ok.funs,ok.frf⟩
theorem Cx.Ok.unwish {X:Cx} {E:Value->Shared->Prop} (ok:(X.wish E).Ok):X.Ok :=
 ⟨ok.mod,ok.kind,ok.glob,ok.blt,ok.above,ok.inj,ok.has,ok.cab,ok.hd,ok.frames,ok.stk,ok.exf,ok.bs,ok.bsz,ok.noex,ok.exfs,ok.funs,ok.frf⟩
section
variable {X:Cx} {pins:List (Addr × Obj)} {σ:St} {H:Hp} {s:Shared} {E:Value->Shared->Prop}
theorem Inv.wish (I:Inv X pins σ H s) (E:Value->Shared->Prop):Inv (X.wish E) pins σ H s:=⟨I.ok.wish E,I.os,I.bare,I.base,I.loc,I.cell,I.free,I.freeC,I.pin,I.hok,I.len,I.hnd⟩
theorem Inv.unwish (I:Inv (X.wish E) pins σ H s):Inv X pins σ H s:=⟨I.ok.unwish,I.os,I.bare,I.base,I.loc,I.cell,I.free,I.freeC,I.pin,I.hok,I.len,I.hnd⟩
theorem SP.unwish {D:Ends} {f:Flow} {s':Shared} (h:SP (X.wish E) pins D f s'):SP X pins D f s':=by
 cases f with
 | next=>obtain ⟨σ',H',I,q⟩:=h;exact ⟨σ',H',I.unwish,q⟩
 | brk=>obtain ⟨σ',H',I,q⟩:=h;exact ⟨σ',H',I.unwish,q⟩
 | cont=>obtain ⟨σ',H',I,q⟩:=h;exact ⟨σ',H',I.unwish,q⟩
 | ret u=>obtain ⟨v,σ',H',I,r,q⟩:=h;exact ⟨v,σ',H',I.unwish,r,q⟩
theorem PSs.nox {st:List Stmt} {t:TS} (h:PSs X.nox st t):PSs X st t:=fun pins s σ H D I hw =>
 xdj (h pins s σ H D (I.wish _) hw) (fun _ _ q=>q.unwish) fun _ _ z=>False.elim z
end
section
variable {X:Cx} {st:Stmt} {rest:List Stmt} {t u:TS} {e:Expr} {te:TE} {pos:Pos}
noncomputable def tNext:TS:=fun D σ H=>D.nx σ H
noncomputable def tSeq (t u:TS):TS:=fun D σ H=>t {D with nx:=u D} σ H
theorem zxo:PSs X [] tNext:=fun _ _ σ H _ I h=>xic ⟨σ,H,I,h⟩
theorem zis (h1:PS X st t) (h2:PSs X rest u):PSs X (st::rest) (tSeq t u):=by
 intro pins s σ H D I h;refine wpAny_execs_cons (thn (h1 pins s σ H {D with nx:=u D} I h) fun f s1 q=>?_);cases f with
 | next =>
  obtain ⟨σ',H',I',q⟩:=q;exact h2 pins s1 σ' H' D I' q
 | ret v=>exact q
 | brk=>exact q
 | cont=>exact q
theorem zmm (h1:PS X st t):PSs X [st] t:=by
 intro pins s σ H D I h;refine wpAny_execs_cons (thn (h1 pins s σ H D I h) fun f s1 q=>?_);cases f with
 | next=>exact xic q
 | ret v=>exact q
 | brk=>exact q
 | cont=>exact q
theorem Inv.quiet {pins:List (Addr × Obj)} {σ:St} {H:Hp} {s:Shared} (I:Inv X pins σ H s):interactive X.env=false:=by simp[interactive,I.ok.kind]
noncomputable def tDrop (te:TE):TS:=fun D σ H=>te σ H fun _ H1=>D.nx σ H1
theorem zsb (he:PE X e te) (hs:swapsWith e none pos.line X.env=pure false:=by rfl):PS X (.Expr e pos) (tDrop te):=by
 intro pins s σ H D I h;exact wpAny_Expr_any (thn (he pins s σ H _ I h) fun v s1 ⟨x,H1,I1,r1,q1⟩=>⟨σ,H1,I1,q1⟩) I.quiet hs
noncomputable def tRet (te:TE):TS:=fun D σ H=>te σ H D.rt
theorem zxq (he:PE X e te):PS X (.Return (some e) pos) (tRet te):=by
 intro pins s σ H D I h;exact wpAny_Return_some (thn (he pins s σ H _ I h) fun v s1 ⟨x,H1,I1,r1,q1⟩=>⟨x,σ,H1,I1,r1,q1⟩)
noncomputable def tIfS (c:TT) (t u:TS):TS:=fun D σ H=>c σ H fun b H1=>if b=true then t D σ H1 else u D σ H1
theorem zbgi {c:Expr} {a b:List Stmt} {tc:TT} (hc:PT X c tc) (ha:PSs X a t) (hb:PSs X b u):PS X (.If c a b pos) (tIfS tc t u):=by
 intro pins s σ H D I h;refine wpAny_If (thn (hc pins s σ H _ I h) fun d s1 hq0=>?_);obtain ⟨H1,I1,q1⟩:=hq0;cases d with
 | true=>exact ha pins s1 σ H1 D I1 q1
 | false=>exact hb pins s1 σ H1 D I1 q1
end
noncomputable abbrev TG:=V->St->Hp->(St->Hp->Prop)->Prop
noncomputable abbrev TGs:=List V->St->Hp->(St->Hp->Prop)->Prop
noncomputable def PG (X:Cx) (target:Expr) (t:TG):Prop :=
 ∀(pins:List (Addr × Obj)) (s:Shared) (σ:St) (H:Hp) (v:V) (u:Value) (Q:St->Hp->Prop),Inv X pins σ H s->RelV v u->t v σ H Q ->
  wpAny (model X.prog X.w) X.A (assign target X.env u) (fun _ s'=>∃σ' H',Inv X pins σ' H' s'/\Q σ' H') X.xe s
noncomputable def PGs (X:Cx) (ts:List Expr) (t:TGs):Prop :=
 ∀(pins:List (Addr × Obj)) (s:Shared) (σ:St) (H:Hp) (vs:List V) (us:List Value) (Q:St->Hp->Prop),Inv X pins σ H s->Vals vs us->t vs σ H Q ->
  wpAny (model X.prog X.w) X.A (assignInOrder ((assignEach ts X.env).map (·.2)) us) (fun _ s'=>∃σ' H',Inv X pins σ' H' s'/\Q σ' H') X.xe s
noncomputable abbrev TSet:=V->V->V->Hp->(Hp->Prop)->Prop
noncomputable def PSet (X:Cx) (t:TSet):Prop :=
 ∀(pins:List (Addr × Obj)) (s:Shared) (σ:St) (H:Hp) (o i v:V) (ov iv u:Value) (Q:Hp->Prop),Inv X pins σ H s->RelV o ov->RelV i iv->RelV v u->t o i v H Q ->
  wpAny (model X.prog X.w) X.A (setItem ov iv u) (fun _ s'=>∃H',Inv X pins σ H' s'/\Q H') X.xe s
section
variable {X:Cx} {pos:Pos}
noncomputable def gName (i:Nat):TG:=fun v σ H Q=>Q (σ.set i (some v)) H
theorem zya {i:Nat} {x:Str} (hN:X.N.Nodup) (hi:X.N[i]?=some x) (hx:Loc X.env.scope x) (hf:X.fn x=true\/X.env.scope.names.lookup x=some .local:=by first | exact .inl rfl | exact .inr rfl | assumption):PG X (.Name x pos) (gName i):=by
 intro pins s σ H v u Q I r h;exact wpAny_assign_Name (zii I hN hi hx r (fun s' I'=>⟨_,H,I',h⟩) hf)
noncomputable def gNil:TGs:=fun vs σ H Q=>vs=[]/\Q σ H
noncomputable def gCons (t:TG) (u:TGs):TGs:=fun vs σ H Q=>∃v r,vs=v::r/\t v σ H fun σ' H'=>u r σ' H' Q
theorem zxz:PGs X [] gNil:=by
 intro pins s σ H vs us Q I r h;obtain ⟨e,h⟩:=h;subst e;cases r;exact assignInOrder_nil ⟨σ,H,I,h⟩
theorem ztu {e:Expr} {es:List Expr} {t:TG} {u:TGs} (h1:PG X e t) (h2:PGs X es u)
  (hs:(assignEach (e::es) X.env).map (·.2)=assign e X.env::(assignEach es X.env).map (·.2):=by rfl):PGs X (e::es) (gCons t u):=by
 intro pins s σ H vs us Q I r h;obtain ⟨v,vr,e1,h⟩:=h;subst e1;cases r with
 | cons r rr =>
  rw[hs];refine assignInOrder_cons (thn (h1 pins s σ H _ _ _ I r h) fun _ s1 hq0=>?_);obtain ⟨σ1,H1,I1,q1⟩:=hq0;exact h2 pins s1 σ1 H1 _ _ Q I1 rr q1
noncomputable def gTup (K:Fg) (n:Nat) (t:TGs):TG:=fun v σ H Q=>∃a xs,v=.ref a/\SqT K H a xs/\xs.length=n/\t xs σ H Q
theorem zbct {es:List Expr} {k:Nat} {t:TGs} {n:Nat} (hc:X.calm=true) (h:PGs X es t)
  (hn:(assignEach es X.env).length=n:=by rfl) (hst:(assignEach es X.env).findIdx? (·.1)=none:=by rfl):PG X (.Tuple es k pos) (gTup X.K n t):=by
 intro pins s σ H v u Q I r hw;obtain ⟨a,xs,e1,hq,hl,hw⟩:=hw;subst e1;cases r;obtain ⟨its,rv,ht,hz⟩:=I.tuple hq;refine assign_Tuple_tuple (I.ok.hd hc) ht (by simp[hn,← hl,rv.length]) hst fun h' hx=>?_
 have I1:Inv X pins σ H {s with heap:=h'}:=I.kept (t':=s.toks) fun b o e=>hx b o (xbt (xbk e)) e
 exact h pins _ σ H xs _ Q I1 (by simpa using rv) hw
noncomputable def gSub (to ti:TE) (t:TSet):TG:=fun v σ H Q=>to σ H fun o H1=>ti σ H1 fun i H2=>t o i v H2 fun H3=>Q σ H3
theorem zbcu {o i:Expr} {to ti:TE} {t:TSet} (ho:PE X o to) (hi:PE X i ti) (hs:PSet X t)
  (ha:∀v,assign (.Subscript o i pos) X.env v=(do
   let ov ← holding [v] (eval o X.env)
   let iv ← holding [v,ov] (eval i X.env)
   standAt pos
   holding [v,ov,iv] (setItem ov iv v)
   release [v,ov,iv] []):=by intro _;rfl):PG X (.Subscript o i pos) (gSub to ti t):=by
 intro pins s σ H v u Q I r h;rw[ha];refine xba (xdx (thn (ho pins s σ H _ I h) fun ov s1 hq0=>?_));obtain ⟨x,H1,I1,r1,q1⟩:=hq0;refine xba (xdx (thn (hi pins s1 σ H1 _ I1 q1) fun iv s2 hq0=>?_));obtain ⟨y,H2,I2,r2,q2⟩:=hq0;refine xba (xiz (xba (xdx (thn (hs pins s2 σ H2 x y v ov iv u _ I2 r1 r2 r q2) fun _ s3 hq0=>?_))));obtain ⟨H3,I3,q3⟩:=hq0;exact wpAny_release ⟨σ,H3,I3,q3⟩
noncomputable def tAsg (te:TE) (g:TG):TS:=fun D σ H=>te σ H fun x H1=>g x σ H1 D.nx
theorem zbcr {tg e:Expr} {te:TE} {g:TG} (he:PE X e te) (hg:PG X tg g) (hs:swapsWithSole [tg] e pos.line X.env=pure false:=by rfl) (hw:swappedStores [tg] e X.env=pure none:=by rfl)
  (h1:(assignEach [tg] X.env).map (·.2)=[assign tg X.env]:=by rfl):PS X (.Assign [tg] e pos) (tAsg te g):=by
 intro pins s σ H D I h;refine wpAny_Assign_stores (thn (he pins s σ H _ I h) fun v s1 hq0=>?_) hs hw;obtain ⟨x,H1,I1,r1,q1⟩:=hq0;rw[h1];exact thn (hg pins s1 σ H1 x v _ I1 r1 q1) fun _ s2 q=>q
theorem zbcq {i:Nat} {x:Str} {e:Expr} {te:TE} {pos':Pos} (hN:X.N.Nodup) (hi:X.N[i]?=some x) (hx:Loc X.env.scope x) (he:PE X e te) (hs:swapsWith e (some (.Name x pos')) pos.line X.env=pure false:=by rfl) (hf:X.fn x=true\/X.env.scope.names.lookup x=some .local:=by first | exact .inl rfl | exact .inr rfl | assumption) :
  PS X (.Assign [.Name x pos'] e pos) (tAsg te (gName i)):=by
 intro pins s σ H D I h;refine wpAny_Assign_Name (thn (he pins s σ H _ I h) fun v s1 hq0=>?_) hs;obtain ⟨y,H1,I1,r1,q1⟩:=hq0;exact zii I1 hN hi hx r1 (fun s2 I2=>⟨_,H1,I2,q1⟩) hf
noncomputable def tWhile (c:TT) (tb:TS):TS:=fun D σ H=>∃W:Nat->St->Hp->Prop,(∃m,W m σ H)/\∀m σ H,W m σ H ->
 c σ H fun b H1=>if b=true then ∃N:St->Hp->Prop,(∀σ' H',N σ' H'->∃m',m' < m/\W m' σ' H')/\tb {D with nx:=N,ct:=N,bk:=D.nx} σ H1 else D.nx σ H1
theorem ztn {c:Expr} {body:List Stmt} {tc:TT} {tb:TS} (hp:PassesOwn (model X.prog X.w) X.A X.env X.xe) (hc:PT X c tc) (hb:PSs X body tb):PS X (.While c body [] pos) (tWhile tc tb):=by
 intro pins s σ H D I h;obtain ⟨W,⟨m0,w0⟩,turn⟩:=h;refine wpAny_While (codeAny_whileLoop (fun n s'=>∃σ' H',Inv X pins σ' H' s'/\W n σ' H') ?_ m0 ⟨σ,H,I,w0⟩);rintro n s1 ⟨σ1,H1,I1,w1⟩;refine xgi hp (thn (hc pins s1 σ1 H1 _ I1 (turn n σ1 H1 w1)) fun b s2 hq0=>?_);obtain ⟨H2,I2,q2⟩:=hq0;cases b with
 | true =>
  obtain ⟨N,hN,q2⟩:=q2;rw[if_pos rfl];refine xgi hp (thn (hb pins s2 σ1 H2 _ I2 q2) fun f s3 q3=>?_);cases f with
  | next =>
   obtain ⟨σ3,H3,I3,n3⟩:=q3;obtain ⟨m',hm,w3⟩:=hN σ3 H3 n3;exact ⟨m',hm,σ3,H3,I3,w3⟩
  | cont =>
   obtain ⟨σ3,H3,I3,n3⟩:=q3;obtain ⟨m',hm,w3⟩:=hN σ3 H3 n3;exact ⟨m',hm,σ3,H3,I3,w3⟩
  | brk=>exact q3
  | ret v=>exact q3
 | false =>
  rw[if_neg xfc];exact xic ⟨σ1,H2,I2,q2⟩
end
structure It where
 go:Nat->Hp->Prop
 yld:Nat->Hp->V->Hp->Prop
 stop:Nat->Hp->Prop
noncomputable def FpOk (X:Cx) (pins:List (Addr × Obj)) (H:Hp) (b:Addr):Prop :=
 H b=none/\b≠X.env.locals/\b∉X.fs/\(b∈X.ex\/X.s₀.heap.objs.size<=b)/\(∀x c,X.env.cells.lookup x=some c->c≠b)/\∀p∈X.pn++pins,p.1≠b
theorem Inv.fpOk {X:Cx} {pins:List (Addr × Obj)} {σ:St} {H H':Hp} {s:Shared} {b:Addr} (I:Inv X pins σ H s) (hb:s.heap.objs.size<=b) (hn:H' b=none):FpOk X pins H' b:=by
 refine ⟨hn,xkj (xbh I.lt hb),I.nofs hb,.inr (xbb I.sz hb),fun x c e z=>?_,fun p hp z=>?_⟩
 ·obtain ⟨v,q⟩:=I.cell x c e;exact absurd (xbh q.lt (by rw[z];exact hb)) (xgj _)
 ·exact absurd (xbh (xbk (I.pin p hp).1) (by rw[z];exact hb)) (xgj _)
structure Turn (P:Program) (w:World) (K:Fg) (tg:Expr) (J:It) (fp:List Addr) (it:Addr) (tn:Nat->Heap->Prop):Prop where
 mem:it∈fp
 obj:∀i h,tn i h->∀b∈fp,∃o,h.get? b=some o/\∀v,o.data≠.cell v
 keep:∀i h h',tn i h->(∀b∈fp,∀o,h.get? b=some o->h'.get? b=some o)->tn i h'
 item:∀(X:Cx),X.prog=P->X.w=w->X.K=K->X.calm=true->∀(i:Nat) (pins:List (Addr × Obj)) (s:Shared) (σ:St) (H:Hp) (E:Value->Shared->Prop),Inv X pins σ H s->(∀b∈fp,FpOk X pins H b)->tn i s.heap->J.go i H ->
  wpAny (model P w) X.A (pyNext (.ref it)) (fun r s1=>∃u,r=some u /\
   wpAny (model P w) X.A (letOwnedTupleGo tg (.ref it) u) (fun _ s2=>∃x H',Inv X pins σ H' s2/\RelV x u/\J.yld i H x H'/\tn (i+1) s2.heap/\∀b∈fp,H' b=none) E s1) E s
 done:∀(X:Cx),X.prog=P->X.w=w->X.K=K->X.calm=true->∀(i:Nat) (pins:List (Addr × Obj)) (s:Shared) (σ:St) (H:Hp) (E:Value->Shared->Prop),Inv X pins σ H s->(∀b∈fp,FpOk X pins H b)->tn i s.heap->J.stop i H ->
  wpAny (model P w) X.A (pyNext (.ref it)) (fun r s1=>r=none/\Inv X pins σ H s1) E s
 self:∀(A:Around) (i:Nat) (s:Shared) (Q:Value->Shared->Prop) (E:Value->Shared->Prop),tn i s.heap->Q (.ref it) s->wpAny (model P w) A (pyIter (.ref it)) Q E s
noncomputable abbrev TI:=St->Hp->(It->Hp->Prop)->Prop
noncomputable def PIE (X:Cx) (pins:List (Addr × Obj)) (σ:St) (tg:Expr) (R:It->Hp->Prop) (itv:Value) (s2:Shared):Prop :=
 ∃(it:Addr) (fp:List Addr) (tn:Nat->Heap->Prop) (J:It) (H':Hp),itv=.ref it/\Inv X pins σ H' s2/\Turn X.prog X.w X.K tg J fp it tn/\tn 0 s2.heap/\(∀b∈fp,FpOk X pins H' b)/\R J H'
noncomputable def PI (X:Cx) (tg iter:Expr) (wi:TI):Prop :=
 ∀(pins:List (Addr × Obj)) (s:Shared) (σ:St) (H:Hp) (R:It->Hp->Prop),Inv X pins σ H s->wi σ H R ->
  wpAny (model X.prog X.w) X.A (eval iter X.env) (fun v s1=>wpAny (model X.prog X.w) X.A (pyIter v) (PIE X pins σ tg R) X.xe s1) X.xe s
theorem zbbu {M : Model} {A : Around} {E : Value -> Shared -> Prop} {s : Shared} {tg : Expr} {it : Addr} {u : Value} {o : Obj} {n : String} {vs : Array Value} {Q : Unit -> Shared -> Prop} (ho : s.heap.get? it = some o) (hc : o.cls = .type n) (hd : o.data = .fields vs)
    (hn : ["enumerate", "zip", "dict_itemiterator", "dict_reverseitemiterator", "odict_iterator", "itertools.zip_longest", "itertools.pairwise"].contains n = false) (hQ : Q () s) : wpAny M A (letOwnedTupleGo tg (.ref it) u) Q E s := by
  unfold letOwnedTupleGo;cases tg <;> first
    | exact xbd hQ
    | (cases u <;> first
        | exact xbd hQ
        | (refine xba (wpAny_load ho ?_)
           rw [hc, hd];show wpAny M A (if (["enumerate", "zip", "dict_itemiterator", "dict_reverseitemiterator", "odict_iterator", "itertools.zip_longest", "itertools.pairwise"].contains n && vs[0]? == some (rawInt _)) = true then _ else _) Q E s
           rw [if_neg (by intro h; rw [hn, Bool.false_and] at h; cases h)]
           exact xbd hQ))
noncomputable def Itl (K:Fg) (a:Addr):It :=
 ⟨fun i H=>∃xs x,SqL K H a xs/\xs[i]?=some x,fun i H x H'=>H'=H/\∀xs,SqL K H a xs->xs[i]?=some x,fun i H=>∃xs,SqL K H a xs/\xs.length<=i⟩
noncomputable def Itt (K:Fg) (a:Addr):It :=
 ⟨fun i H=>∃xs x,SqT K H a xs/\xs[i]?=some x,fun i H x H'=>H'=H/\∀xs,SqT K H a xs->xs[i]?=some x,fun i H=>∃xs,SqT K H a xs/\xs.length<=i⟩
noncomputable def Itr (lo:Int) (n:Nat):It:=⟨fun i _=>i < n,fun i H x H'=>H'=H/\x=.int (lo+i),fun i _=>n<=i⟩
theorem zph {P:Program} {w:World} {K:Fg} {tg:Expr} (a it:Addr):Turn P w K tg (Itl K a) [it] it (fun i h=>h.IsListIter it a i) where
 mem:=by simp
 obj:=fun i h st b hb=>by
  have e:b=it:=by simpa using hb
  subst e;obtain ⟨o,e,c,d⟩:=st;exact ⟨o,e,fun v z=>by rw[d] at z;cases z⟩
 keep:=fun i h h' st k=>st.at fun o e=>k it (by simp) o e
 item:=by
  intro X hP hw hK hc i pins s σ H E I hf st hg;subst hP hw hK;obtain ⟨xs,x,hq,hx⟩:=hg;obtain ⟨its,rv,p,hz⟩:=I.list hq;obtain ⟨u,hu,ru⟩:=rv.get hx;obtain ⟨f0,f1,f2,f3,f4,f5⟩:=hf it (by simp);refine wpAny_pyNext_list_item st p.isList (x:=u) (by simpa using hu) fun h' st' sb=>?_
  have I1:Inv X pins σ H {s with heap:=h'}:=I.turned (t':=s.toks) (fun b o hb e=>(sb.2 b hb).trans e) f0 f1 f3 f4 f5;obtain ⟨o,e,c,d⟩:=id st';exact ⟨u,rfl,zbbu (s:={s with heap:=h'}) e c d (by decide) ⟨x,H,I1,ru,⟨rfl,fun ys hy=>by rw[I.list_inj hy hq];exact hx⟩,st',fun b hb=>(hf b hb).1⟩⟩
 done:=by
  intro X hP hw hK hc i pins s σ H E I hf st hg;subst hP hw hK;obtain ⟨xs,hq,hx⟩:=hg;obtain ⟨its,rv,p,hz⟩:=I.list hq;obtain ⟨f0,f1,f2,f3,f4,f5⟩:=hf it (by simp);have hl:=rv.length;exact wpAny_pyNext_list_end (I.ok.hd hc) st p.isList (by simp;lia) fun h' eb=>⟨rfl,I.turned (t':=s.toks) (fun b o hb e=>eb b o hb e) f0 f1 f3 f4 f5⟩
 self:=fun _ _ _ _ _ st h=>wpAny_pyIter_listiter st h
theorem zlw {P:Program} {w:World} {K:Fg} {tg:Expr} (a it:Addr):Turn P w K tg (Itt K a) [it] it (fun i h=>h.IsTupleIter it a i) where
 mem:=by simp
 obj:=fun i h st b hb=>by
  have e:b=it:=by simpa using hb
  subst e;obtain ⟨o,e,c,d⟩:=st;exact ⟨o,e,fun v z=>by rw[d] at z;cases z⟩
 keep:=fun i h h' st k=>st.at fun o e=>k it (by simp) o e
 item:=by
  intro X hP hw hK hc i pins s σ H E I hf st hg;subst hP hw hK;obtain ⟨xs,x,hq,hx⟩:=hg;obtain ⟨its,rv,p,hz⟩:=I.tuple hq;obtain ⟨u,hu,ru⟩:=rv.get hx;obtain ⟨f0,f1,f2,f3,f4,f5⟩:=hf it (by simp);refine wpAny_pyNext_tuple_item st (show s.heap.IsTuple a its.toArray from p) (x:=u) (by simpa using hu) fun h' st' sb=>?_
  have I1:Inv X pins σ H {s with heap:=h'}:=I.turned (t':=s.toks) (fun b o hb e=>(sb.2 b hb).trans e) f0 f1 f3 f4 f5;obtain ⟨o,e,c,d⟩:=id st';exact ⟨u,rfl,zbbu (s:={s with heap:=h'}) e c d (by decide) ⟨x,H,I1,ru,⟨rfl,fun ys hy=>by rw[I.tuple_inj hy hq];exact hx⟩,st',fun b hb=>(hf b hb).1⟩⟩
 done:=by
  intro X hP hw hK hc i pins s σ H E I hf st hg;subst hP hw hK;obtain ⟨xs,hq,hx⟩:=hg;obtain ⟨its,rv,p,hz⟩:=I.tuple hq;obtain ⟨f0,f1,f2,f3,f4,f5⟩:=hf it (by simp);have hl:=rv.length;exact wpAny_pyNext_tuple_end (I.ok.hd hc) st (show s.heap.IsTuple a its.toArray from p) (by simp;lia) fun h' eb=>⟨rfl,I.turned (t':=s.toks) (fun b o hb e=>eb b o hb e) f0 f1 f3 f4 f5⟩
 self:=fun _ _ _ _ _ st h=>wpAny_pyIter_tupleiter st h
theorem zlx {P:Program} {w:World} {K:Fg} {tg:Expr} (it:Addr) (lo:Int) (n:Nat):Turn P w K tg (Itr lo n) [it] it (fun i h=>IsRangeIter h it (lo+(i:Nat) * 1) ((n:Int) - (i:Nat)) 1) where
 mem:=by simp
 obj:=fun i h st b hb=>by
  have e:b=it:=by simpa using hb
  subst e
  exact ⟨_,st,fun v z=>by
   have z':Data.fields _=Data.cell v:=z
   cases z'⟩
 keep:=fun i h h' st k=>k it (by simp) _ st
 item:=by
  intro X hP hw hK hc i pins s σ H E I hf st hg;subst hP hw hK;obtain ⟨f0,f1,f2,f3,f4,f5⟩:=hf it (by simp);have W:=Walks.range (prog:=X.prog) (w:=X.w) (I.ok.hd hc) it lo 1 n;refine W.item i s _ _ hg st fun v h' tk hv st' kk=>?_
  obtain ⟨t,rfl⟩:=hv;have I1:Inv X pins σ H {s with heap:=h',toks:=tk}:=I.turned (fun b o hb e=>kk b o (by simpa using hb) e) f0 f1 f3 f4 f5;refine ⟨_, rfl, zbbu (s := { s with heap := h', toks := tk }) (n := "range_iterator") st' rfl rfl (by decide) ⟨.int (lo + i), H, I1, ⟨t, ?_⟩, ⟨rfl, rfl⟩, st', fun b hb => (hf b hb).1⟩⟩
  rw[Int.mul_one]
 done:=by
  intro X hP hw hK hc i pins s σ H E I hf st hg;subst hP hw hK;obtain ⟨f0,f1,f2,f3,f4,f5⟩:=hf it (by simp);exact wpAny_pyNext_range_end (I.ok.hd hc) st (by have:n<=i:=hg;lia) fun h' eb=>⟨rfl,I.turned (t':=s.toks) (fun b o hb e=>eb b o hb e) f0 f1 f3 f4 f5⟩
 self:=fun _ _ _ _ _ st h=>wpAny_pyIter_rangeiter st h
section
variable {X:Cx} {tg:Expr}
noncomputable def iList (K:Fg) (tl:TE):TI:=fun σ H R=>tl σ H fun x H1=>∃a,x=.ref a/\(∃xs,SqL K H1 a xs)/\R (Itl K a) H1
noncomputable def iTup (K:Fg) (tl:TE):TI:=fun σ H R=>tl σ H fun x H1=>∃a,x=.ref a/\(∃xs,SqT K H1 a xs)/\R (Itt K a) H1
theorem zsc {l:Expr} {tl:TE} (hl:PE X l tl):PI X tg l (iList X.K tl):=by
 intro pins s σ H R I h;refine thn (hl pins s σ H _ I h) fun v s1 hq0=>?_
 obtain ⟨x,H1,I1,r1,q1⟩:=hq0;obtain ⟨a,e,⟨xs,hq⟩,q⟩:=q1;subst e;cases r1;obtain ⟨its,rv,p,hz⟩:=I1.list hq;refine xiv p.isList ?_;refine ⟨s1.heap.objs.size,[s1.heap.objs.size],_,_,H1,rfl,I1.kept (t':=s1.toks) fun b o e=>xbc _ e,zph a _,⟨_,xbz _ rfl,rfl,rfl⟩,fun b hb=>?_,q⟩;have e:b=s1.heap.objs.size:=by simpa using hb
 subst e;exact I1.fpOk (xbg _) (I1.hok.fresh (xbg _))
theorem zxw {l:Expr} {tl:TE} (hl:PE X l tl):PI X tg l (iTup X.K tl):=by
 intro pins s σ H R I h;refine thn (hl pins s σ H _ I h) fun v s1 hq0=>?_
 obtain ⟨x,H1,I1,r1,q1⟩:=hq0;obtain ⟨a,e,⟨xs,hq⟩,q⟩:=q1;subst e;cases r1;obtain ⟨its,rv,p,hz⟩:=I1.tuple hq;refine xka (show s1.heap.IsTuple a its.toArray from p) ?_;refine ⟨s1.heap.objs.size,[s1.heap.objs.size],_,_,H1,rfl,I1.kept (t':=s1.toks) fun b o e=>xbc _ e,zlw a _,⟨_,xbz _ rfl,rfl,rfl⟩,fun b hb=>?_,q⟩;have e:b=s1.heap.objs.size:=by simpa using hb
 subst e;exact I1.fpOk (xbg _) (I1.hok.fresh (xbg _))
theorem ztj {pins:List (Addr × Obj)} {σ:St} {H:Hp} {s:Shared} {R:It->Hp->Prop} {E:Value->Shared->Prop} {lo hi:Int} {t u v:Tok} {tk:Nat} (I:Inv X pins σ H s) (h1:-(2 ^ 62)<=lo) (h2:lo < 2 ^ 62) (h3:-(2 ^ 62)<=hi) (h4:hi < 2 ^ 62)
  (q : R (Itr lo (hi - lo).toNat) H) : wpAny (model X.prog X.w) X.A (pyIter (.ref s.heap.objs.size)) (PIE X pins σ tg R) E { s with heap := s.heap.push { cls := .type "range", data := .fields #[.int lo t, .int hi u, .int 1 v] }, toks := tk } := by
 refine wpAny_pyIter_range (IsRange.new ..) (small_one h1 h2 h3 h4) ?_;have I1 : Inv X pins σ H { s with heap := s.heap.push { cls := .type "range", data := .fields #[.int lo t, .int hi u, .int 1 v] }, toks := tk } := I.kept fun b o e => xbc _ e
 refine ⟨(s.heap.push { cls := .type "range", data := .fields #[.int lo t, .int hi u, .int 1 v] }).objs.size, [(s.heap.push { cls := .type "range", data := .fields #[.int lo t, .int hi u, .int 1 v] }).objs.size], _, _, H, rfl,
  I1.kept (t':=tk) fun b o e=>xbc _ e,zlx _ lo (hi - lo).toNat,?_,fun b hb=>?_,q⟩
 ·have e1:lo+((0:Nat):Int) * 1=lo:=by simp
  have e2:(((hi - lo).toNat:Nat):Int) - ((0:Nat):Int)=Builtin.Range.rangeSize lo hi 1:=by rw[rangeSize_one];split<;>lia
  show IsRangeIter _ _ (lo+((0:Nat):Int) * 1) ((((hi - lo).toNat:Nat):Int) - ((0:Nat):Int)) 1;rw[e1,e2];exact xbz _ rfl
 ·have e : b = (s.heap.push { cls := .type "range", data := .fields #[.int lo t, .int hi u, .int 1 v] }).objs.size := by simpa using hb
  subst e;exact I1.fpOk (xbg _) (I1.hok.fresh (xbg _))
noncomputable def iRng1 (ta:TA):TI:=fun σ H R=>ta σ H fun vs H1=>∃j:Int,vs=[.int j]/\-(2 ^ 62)<=j/\j < 2 ^ 62/\R (Itr 0 j.toNat) H1
theorem zpv {a : Expr} {ta : TA} {p pos : Pos} (hg : Gl X "range") (hm : X.mg "range" = none) (ha : PA X [a] ta) (hs : starEach [a] X.env = [(false, eval a X.env)] := by rfl) : PI X tg (.Call (.Name "range" p) [a] [] pos) (iRng1 ta) := by
 intro pins s σ H R I h;refine Call_ (znl I hg hm boot_range (xhl (thn (ha pos pins s σ H _ I h) fun us s1 hq0=>?_) hs rfl));obtain ⟨vs,H1,I1,r1,q1⟩:=hq0;obtain ⟨j,e,q1,q2,q⟩:=q1;subst e;cases r1 with
 | cons r rr =>
  cases rr;obtain ⟨t,rfl⟩:=r;exact call_range_1 (ztj I1 (by lia) (by lia) q1 q2 (by simpa using q))
noncomputable def tFor (wi:TI) (g:TG) (tb:TS):TS:=fun D σ H=>wi σ H fun J H1=>∃W:Nat->Nat->St->Hp->Prop,(∃m,W 0 m σ H1)/\∀i m σ H,W i m σ H ->
 (J.stop i H/\D.nx σ H)\/(J.go i H/\∃N:St->Hp->Prop,(∀σ' H',N σ' H'->∃m',m' < m/\W (i+1) m' σ' H')/\∀x H',J.yld i H x H'->g x σ H' fun σ2 H2=>tb {D with nx:=N,ct:=N,bk:=D.nx} σ2 H2)
noncomputable def pinsAt (fp:List Addr) (h:Heap):List (Addr × Obj):=fp.filterMap fun b=>(h.get? b).map fun o=>(b,o)
theorem zdk {fp:List Addr} {h:Heap} {b:Addr} {o:Obj} (hb:b∈fp) (e:h.get? b=some o):(b,o)∈pinsAt fp h:=List.mem_filterMap.mpr ⟨b,hb,by rw[e];rfl⟩
theorem zqa {fp:List Addr} {h:Heap} {p:Addr × Obj} (hp:p∈pinsAt fp h):p.1∈fp/\h.get? p.1=some p.2:=by
 obtain ⟨b,hb,e⟩:=List.mem_filterMap.mp hp;cases q:h.get? b with
 | none=>rw[q] at e;cases e
 | some o =>
  rw[q] at e;have e':(b,o)=p:=xbw e;subst e';exact ⟨hb,q⟩
theorem Inv.pinned {pins:List (Addr × Obj)} {σ:St} {H:Hp} {s:Shared} {fp:List Addr} (I:Inv X pins σ H s) (hf:∀b∈fp,FpOk X pins H b) (ho:∀b∈fp,∃o,s.heap.get? b=some o/\∀v,o.data≠.cell v):Inv X (pins++pinsAt fp s.heap) σ H s :=
 I.pins_of fun p hp=>(xcc.mp hp).elim (fun z=>I.pin p (xcz _ z)) fun z=>by
  obtain ⟨hb,e⟩:=zqa z;obtain ⟨f0,f1,f2,_⟩:=hf p.1 hb;obtain ⟨o,e',d⟩:=ho p.1 hb;rw[e] at e';cases e'
  exact ⟨e,f0,f1,f2,d⟩
theorem Inv.unpinned {pins pl:List (Addr × Obj)} {σ:St} {H:Hp} {s:Shared} (I:Inv X (pins++pl) σ H s):Inv X pins σ H s:=I.pins_of fun p hp=>I.pin p (xcz _ (xgk _ hp))
theorem ztp {iter:Expr} {body:List Stmt} {wi:TI} {g:TG} {tb:TS} {pos:Pos} (hp:PassesOwn (model X.prog X.w) X.A X.env X.xe) (hc:X.calm=true) (hi:PI X tg iter wi) (hg:PG X tg g) (hb:PSs X body tb)
  (hs:∀x,foldedSetIterable iter X.env x=pure x:=by intro _;rfl):PS X (.For tg iter body [] pos) (tFor wi g tb):=by
 intro pins s σ H D I h;refine wpAny_For (thn (hi pins s σ H _ I h) fun v s1 h1=>thn h1 fun itv s2 h2=>?_) hs;obtain ⟨it,fp,tn,J,H2,e,I2,T,st2,f2,W,⟨m0,w0⟩,turn⟩:=h2;subst e;have stat:∀{H':Hp},(∀b∈fp,H' b=none)->∀b∈fp,FpOk X pins H' b:=fun hn b hb=>⟨hn b hb,(f2 b hb).2⟩
 refine codeAny_forLoop_any (fun n s'=>∃i σ' H',Inv X pins σ' H' s'/\tn i s'.heap/\(∀b∈fp,H' b=none)/\W i n σ' H') ?_ m0 ⟨0,σ,H2,I2,st2,fun b hb=>(f2 b hb).1,w0⟩;rintro n s3 ⟨i,σ3,H3,I3,st3,fr3,w3⟩;rcases turn i n σ3 H3 w3 with ⟨stop,qn⟩ | ⟨go,N,hN,step⟩
 ·refine xgi hp (thn (T.done X rfl rfl rfl hc i pins s3 σ3 H3 X.xe I3 (stat fr3) st3 stop) fun r s4 hq0=>?_);obtain ⟨hr,I4⟩:=hq0;subst hr;exact xic ⟨σ3,H3,I4,qn⟩
 ·refine xgi hp (thn (T.item X rfl rfl rfl hc i pins s3 σ3 H3 X.xe I3 (stat fr3) st3 go) fun r s4 hq0=>?_);obtain ⟨u,hr,h4⟩:=hq0;subst hr;refine xgi hp (thn h4 fun _ s5 hq0=>?_);obtain ⟨x,H5,I5,r5,y5,st5,fr5⟩:=hq0;have I5':=I5.pinned (stat fr5) (T.obj _ _ st5);refine xgi hp (thn (hg _ s5 σ3 H5 x u _ I5' r5 (step x H5 y5)) fun _ s6 hq0=>?_);obtain ⟨σ6,H6,I6,q6⟩:=hq0;refine xgi hp (thn (hb _ s6 σ6 H6 _ I6 q6) fun f s7 q7=>?_);have again:∀{σ7:St} {H7:Hp},Inv X (pins++pinsAt fp s5.heap) σ7 H7 s7->N σ7 H7->∃m,m < n/\∃i σ' H',Inv X pins σ' H' s7/\tn i s7.heap/\(∀b∈fp,H' b=none)/\W i m σ' H':=fun {σ7 H7} I7 n7=>by
   obtain ⟨m',hm,w7⟩:=hN σ7 H7 n7;refine ⟨m',hm,i+1,σ7,H7,I7.unpinned,T.keep _ _ _ st5 fun b hb o e=>(I7.pin (b,o) (xcz _ (xcz _ (zdk hb e)))).1,fun b hb=>?_,w7⟩;obtain ⟨o,e,d⟩:=T.obj _ _ st5 b hb;exact (I7.pin (b,o) (xcz _ (xcz _ (zdk hb e)))).2.1
  cases f with
  | next=>obtain ⟨σ7,H7,I7,n7⟩:=q7;exact again I7 n7
  | cont=>obtain ⟨σ7,H7,I7,n7⟩:=q7;exact again I7 n7
  | brk=>obtain ⟨σ7,H7,I7,q7⟩:=q7;exact ⟨σ7,H7,I7.unpinned,q7⟩
  | ret v=>obtain ⟨x7,σ7,H7,I7,r7,q7⟩:=q7;exact ⟨x7,σ7,H7,I7.unpinned,r7,q7⟩
end
noncomputable abbrev R2:=V->V->Hp->VK->Prop
noncomputable def OpR (X:Cx) (f:Value->Value->Sem Value) (r:R2):Prop :=
 ∀(pins:List (Addr × Obj)) (s:Shared) (σ:St) (H:Hp) (x y:V) (v u:Value) (Q:VK),Inv X pins σ H s->RelV x v->RelV y u->r x y H Q ->
  wpAny (model X.prog X.w) X.A (f v u) (EP X pins σ Q) X.xe s
noncomputable def UnR (X:Cx) (f:Value->Sem Value) (r:V->Hp->VK->Prop):Prop :=
 ∀(pins:List (Addr × Obj)) (s:Shared) (σ:St) (H:Hp) (x:V) (v:Value) (Q:VK),Inv X pins σ H s->RelV x v->r x H Q ->
  wpAny (model X.prog X.w) X.A (f v) (EP X pins σ Q) X.xe s
noncomputable def CallR (X:Cx) (f:Value) (r:List V->Hp->VK->Prop):Prop :=
 ∀(pins:List (Addr × Obj)) (s:Shared) (σ:St) (H:Hp) (xs:List V) (us:List Value) (Q:VK),Inv X pins σ H s->Vals xs us->r xs H Q ->
  wpAny (model X.prog X.w) X.A (call f us) (EP X pins σ Q) X.xe s
noncomputable def TruR (X:Cx) (r:V->Hp->(Bool->Hp->Prop)->Prop):Prop :=
 ∀(pins:List (Addr × Obj)) (s:Shared) (σ:St) (H:Hp) (x:V) (v:Value) (Q:Bool->Hp->Prop),Inv X pins σ H s->RelV x v->r x H Q ->
  wpAny (model X.prog X.w) X.A (truthy v) (TP X pins σ Q) X.xe s
noncomputable def tOp (r:R2) (ta tb:TE):TE:=fun σ H Q=>ta σ H fun x H1=>tb σ H1 fun y H2=>r x y H2 Q
noncomputable def tUn (r:V->Hp->VK->Prop) (ta:TE):TE:=fun σ H Q=>ta σ H fun x H1=>r x H1 Q
noncomputable def rI (C:Int->Int->Prop) (g:Int->Int->V):R2:=fun x y H Q=>∃i j,x=.int i/\y=.int j/\C i j/\Q (g i j) H
noncomputable def rI0 (g:Int->Int->V):R2:=fun x y H Q=>∃i j,x=.int i/\y=.int j/\Q (g i j) H
noncomputable def rU (g:Int->V):V->Hp->VK->Prop:=fun x H Q=>∃i,x=.int i/\Q (g i) H
section
variable {X:Cx} {a b c:Expr} {ta tb tc:TE} {pos:Pos}
theorem binT (ha:PE X a ta) (hb:PE X b tb) {pins:List (Addr × Obj)} {s:Shared} {σ:St} {H:Hp} {R:V->V->Hp->Prop} (I:Inv X pins σ H s)
  (h:ta σ H fun x H1=>tb σ H1 fun y H2=>R x y H2) {Q:Value->Shared->Prop} {f:Value->Value->Sem Value}
  (hf:∀v u s2 x y H2,Inv X pins σ H2 s2->RelV x v->RelV y u->R x y H2->wpAny (model X.prog X.w) X.A (f v u) Q X.xe s2) :
  wpAny (model X.prog X.w) X.A (eval a X.env) (fun v s₁=>wpAny (model X.prog X.w) X.A (eval b X.env) (fun u s₂=>wpAny (model X.prog X.w) X.A (f v u) Q X.xe s₂) X.xe s₁) X.xe s:=by
 refine thn (ha pins s σ H _ I h) fun v s1 hq0=>?_
 obtain ⟨x,H1,I1,r1,q1⟩:=hq0;refine thn (hb pins s1 σ H1 _ I1 q1) fun u s2 hq0=>?_
 obtain ⟨y,H2,I2,r2,q2⟩:=hq0;exact hf v u s2 x y H2 I2 r1 r2 q2
theorem zbhk {op:Operator} {r:R2} (ho:OpR X (binaryOp op) r) (ha:PE X a ta) (hb:PE X b tb):PE X (.BinOp a op b pos) (tOp r ta tb):=by
 intro pins s σ H Q I h;exact wpAny_BinOp (binT ha hb I h fun v u s2 x y H2 I2 rx ry q=>ho pins s2 σ H2 x y v u Q I2 rx ry q)
theorem zbhj {op:UnaryOp} {r:V->Hp->VK->Prop} (ho:UnR X (unaryOp op) r) (ha:PE X a ta):PE X (.UnaryOp op a pos) (tUn r ta):=by
 intro pins s σ H Q I h;exact UnaryOp_ (thn (ha pins s σ H _ I h) fun v s1 ⟨x,H1,I1,r1,q1⟩=>ho pins s1 σ H1 x v Q I1 r1 q1)
theorem opI {f:Value->Value->Sem Value} {C:Int->Int->Prop} {g:Int->Int->Int}
  (rule:∀(i j:Int) (t u:Tok) (s:Shared) (Q:Value->Shared->Prop) (E:Value->Shared->Prop),C i j->Q (.int (g i j) s.toks) {s with toks:=s.toks+1}->wpAny (model X.prog X.w) X.A (f (.int i t) (.int j u)) Q E s) :
  OpR X f (rI C fun i j=>.int (g i j)):=by
 intro pins s σ H x y v u Q I rx ry h;obtain ⟨i,j,rfl,rfl,hc,q⟩:=h;obtain ⟨t,rfl⟩:=rx;obtain ⟨t',rfl⟩:=ry;exact rule i j t t' s _ _ hc ⟨.int (g i j),H,I.tok _,⟨_,rfl⟩,q⟩
theorem opI0 {f:Value->Value->Sem Value} {g:Int->Int->Int}
  (rule:∀(i j:Int) (t u:Tok) (s:Shared) (Q:Value->Shared->Prop) (E:Value->Shared->Prop),Q (.int (g i j) s.toks) {s with toks:=s.toks+1}->wpAny (model X.prog X.w) X.A (f (.int i t) (.int j u)) Q E s) :
  OpR X f (rI0 fun i j=>.int (g i j)):=by
 intro pins s σ H x y v u Q I rx ry h;obtain ⟨i,j,rfl,rfl,q⟩:=h;obtain ⟨t,rfl⟩:=rx;obtain ⟨t',rfl⟩:=ry;exact rule i j t t' s _ _ ⟨.int (g i j),H,I.tok _,⟨_,rfl⟩,q⟩
theorem opB0 {f:Value->Value->Sem Value} {g:Int->Int->Bool}
  (rule:∀(i j:Int) (t u:Tok) (s:Shared) (Q:Value->Shared->Prop) (E:Value->Shared->Prop),Q (.bool (g i j)) s->wpAny (model X.prog X.w) X.A (f (.int i t) (.int j u)) Q E s) :
  OpR X f (rI0 fun i j=>.bl (g i j)):=by
 intro pins s σ H x y v u Q I rx ry h;obtain ⟨i,j,rfl,rfl,q⟩:=h;obtain ⟨t,rfl⟩:=rx;obtain ⟨t',rfl⟩:=ry;exact rule i j t t' s _ _ ⟨.bl (g i j),H,I,rfl,q⟩
noncomputable def CPow (i j:Int):Prop:=0<=j/\j<=1000000/\i.natAbs < 2 ^ 64
noncomputable def CMul (i j:Int):Prop:=(-(2 ^ 64) < i/\i < 2 ^ 64)\/(-(2 ^ 64) < j/\j < 2 ^ 64)
theorem CMul.ok {i j:Int} (h:CMul i j):IntMulOk i j:=by
 rcases h with ⟨h1,h2⟩ | ⟨h1,h2⟩
 ·exact .of_left (intBits_le_64 h1 h2)
 ·exact .of_right (intBits_le_64 h1 h2)
theorem zbdj:OpR X (binaryOp .Add) (rI0 fun i j=>.int (i+j)):=opI0 fun _ _ _ _ _ _ _ q=>add_int q
theorem zue:OpR X (binaryOp .Sub) (rI0 fun i j=>.int (i - j)):=opI0 fun _ _ _ _ _ _ _ q=>sub_int q
theorem zla:OpR X (binaryOp .Mult) (rI CMul fun i j=>.int (i * j)):=opI fun _ _ _ _ _ _ _ hc q=>mul_int q hc.ok
theorem ziv:OpR X (binaryOp .Mod) (rI (fun _ j=>0 < j) fun i j=>.int (i % j)):=opI fun i j _ _ _ _ _ hc q=>by
 have h1:(0:Int) < j:=hc;exact mod_int' (by lia) (by rw[Int.fmod_eq_emod_of_nonneg i (by lia)];exact q)
theorem zbde:OpR X (binaryOp .Pow) (rI CPow fun i j=>.int (i ^ j.toNat)):=opI fun _ _ _ _ _ _ _ hc q=>pow_int_small hc.1 hc.2.1 hc.2.2 q
theorem unI {f:Value->Sem Value} {g:Int->Int}
  (rule:∀(i:Int) (t:Tok) (s:Shared) (Q:Value->Shared->Prop) (E:Value->Shared->Prop),Q (.int (g i) s.toks) {s with toks:=s.toks+1}->wpAny (model X.prog X.w) X.A (f (.int i t)) Q E s) :
  UnR X f (rU fun i=>.int (g i)):=by
 intro pins s σ H x v Q I rx h;obtain ⟨i,rfl,q⟩:=h;obtain ⟨t,rfl⟩:=rx;exact rule i t s _ _ ⟨.int (g i),H,I.tok _,⟨_,rfl⟩,q⟩
theorem zbbz:UnR X (unaryOp .USub) (rU fun i=>.int (-i)):=unI fun _ _ _ _ _ q=>neg_int q
theorem zbec {pins:List (Addr × Obj)} {σ:St} {H:Hp} {s:Shared} {Q:VK} {k k':Bool} (I:Inv X pins σ H s) (q:Q (.bl k) H) (e:k=k'):EP X pins σ Q (.bool k') s:=by
 subst e;exact ⟨.bl k,H,I,rfl,q⟩
theorem zbhq:OpR X (compareOp .Lt) (rI0 fun i j=>.bl (decide (i < j))):=opB0 fun _ _ _ _ _ _ _ q=>lt_int q
theorem zbdg:OpR X (compareOp .LtE) (rI0 fun i j=>.bl (decide (i<=j))):=opB0 fun _ _ _ _ _ _ _ q=>le_int q
theorem zbbr:OpR X (compareOp .Gt) (rI0 fun i j=>.bl (decide (j < i))):=opB0 fun _ _ _ _ _ _ _ q=>gt_int q
theorem zbhr:OpR X (compareOp .GtE) (rI0 fun i j=>.bl (decide (j<=i))):=opB0 fun _ _ _ _ _ _ _ q=>ge_int q
theorem zbdh:OpR X (compareOp .Is) (fun x y H Q=>y=.non/\Q (.bl (decide (x=.non))) H):=by
 intro pins s σ H x y v u Q I rx ry h;obtain ⟨rfl,q⟩:=h;cases ry;refine is_none_gen (zbec I q ?_);cases x<;>first
  | (cases rx;rfl)
  | (obtain ⟨t,rfl⟩:=rx;rfl)
theorem OpR.or {f:Value->Value->Sem Value} {r r':R2} (h:OpR X f r) (h':OpR X f r'):OpR X f (fun x y H Q=>r x y H Q\/r' x y H Q):=by
 intro pins s σ H x y v u Q I rx ry q;rcases q with q | q
 ·exact h pins s σ H x y v u Q I rx ry q
 ·exact h' pins s σ H x y v u Q I rx ry q
theorem nomark (b:Expr) {op:CmpOp} (h:op≠.In:=by decide) (h2:op≠.NotIn:=by decide):behindInMarks op b=false:=by
 have e1:(op == CmpOp.In)=false:=by cases op<;>first | rfl | exact absurd rfl h
 have e2:(op == CmpOp.NotIn)=false:=by cases op<;>first | rfl | exact absurd rfl h2
 cases b<;>simp[behindInMarks,e1,e2]
theorem zyg {op:CmpOp} {r:R2} (ho:OpR X (compareOp op) r) (ha:PE X a ta) (hb:PE X b tb) (hm:behindInMarks op b=false):PE X (.Compare a [op] [b] pos) (tOp r ta tb):=by
 intro pins s σ H Q I h;exact wpAny_Compare1 (binT ha hb I h fun v u s2 x y H2 I2 rx ry q=>ho pins s2 σ H2 x y v u Q I2 rx ry q) hm
noncomputable def tTest (t:TE):TT:=fun σ H Q=>t σ H fun x H'=>∃k,x=.bl k/\Q k H'
theorem zxn {op:CmpOp} {r:R2} (ho:OpR X (compareOp op) r) (ha:PE X a ta) (hb:PE X b tb) (hm:behindInMarks op b=false):PT X (.Compare a [op] [b] pos) (tTest (tOp r ta tb)):=by
 intro pins s σ H Q I h
 refine wpAny_isTrue_Compare1 (thn (ha pins s σ H _ I h) fun v s1 ⟨x,H1,I1,r1,q1⟩=>thn (hb pins s1 σ H1 _ I1 q1) fun u s2 ⟨y,H2,I2,r2,q2⟩ =>
  thn (ho pins s2 σ H2 x y v u _ I2 r1 r2 q2) fun c s3 ⟨z,H3,I3,r3,k,e,q3⟩=>?_) hm
 subst e;cases r3;exact xfm ⟨H3,I3,q3⟩
noncomputable def TruV (K:Fg) (x:V) (H:Hp) (k:Bool):Prop :=
 match x with
 | .non=>k=false
 | .bl b=>k=b
 | .int i=>k=(i != 0)
 | .str y=>y.length<=sizeLine/\k=((y.length:Int) != 0)
 | .byt y=>y.size<=sizeLine/\k=((y.size:Int) != 0)
 | .ref p=>(∃xs,SqL K H p xs/\k=!xs.isEmpty)\/(∃xs,SqT K H p xs/\k=!xs.isEmpty)\/∃kvs,H p=some (.dK kvs)/\k=!kvs.isEmpty
 | _=>False
theorem znn {κ:Type} {kvs:List (κ × V)} {vs:List (κ × Value)} (r:KV kvs vs):(!vs.isEmpty)=!kvs.isEmpty:=by
 cases r<;>rfl
theorem zhq {xs:List V} {its:List Value} (r:Vals xs its):(!its.toArray.isEmpty)=!xs.isEmpty:=by
 cases r<;>simp
theorem line63:(sizeLine:Nat) < 2 ^ 63:=by rw[xef];decide
theorem zbca:TruR X (fun x H Q=>∃k,TruV X.K x H k/\Q k H):=by
 intro pins s σ H x v Q I rx h;obtain ⟨k,e,q⟩:=h;have hl:=line63;have hs:sizeLine=16777216:=xef;cases x with
 | non =>
  cases rx;have e':k=false:=e;subst e';exact truthy_none ⟨H,I,q⟩
 | bl b =>
  cases rx;have e':k=b:=e;subst e';exact xfm ⟨H,I,q⟩
 | int i =>
  obtain ⟨t,rfl⟩:=rx;have e':k=(i != 0):=e;subst e';exact PySem.P.truthy_int ⟨H,I,q⟩
 | str y =>
  obtain ⟨t,rfl⟩:=rx;obtain ⟨hy,e'⟩:y.length<=sizeLine/\k=((y.length:Int) != 0):=e;subst e';exact PySem.P.truthy_str (by lia) ⟨H,I.tok _,q⟩
 | byt y =>
  obtain ⟨t,rfl⟩:=rx;obtain ⟨hy,e'⟩:y.size<=sizeLine/\k=((y.size:Int) != 0):=e;subst e';exact PySem.W.truthy_bytes (by lia) ⟨H,I.tok _,q⟩
 | ref p =>
  cases rx;have e':(∃xs,SqL X.K H p xs/\k=!xs.isEmpty)\/(∃xs,SqT X.K H p xs/\k=!xs.isEmpty)\/∃kvs,H p=some (.dK kvs)/\k=!kvs.isEmpty:=e
  rcases e' with ⟨xs,hx,e'⟩ | ⟨xs,hx,e'⟩ | ⟨kvs,hx,e'⟩
  ·subst e';obtain ⟨its,r,pl,hz⟩:=I.list hx;have hlen:=r.length;exact wpAny_truthy_list pl.isList (by simp only[xbm];lia) ⟨H,I.tok _,by rw[zhq r];exact q⟩
  ·subst e';obtain ⟨its,r,pl,hz⟩:=I.tuple hx;have hlen:=r.length;exact truthy_tuple pl (by simp only[xbm];lia) ⟨H,I.tok _,by rw[zhq r];exact q⟩
  ·subst e';obtain ⟨hz,hS,vs,r,m⟩:kvs.length<=sizeLine/\(p == sysModules)=false/\∃vs,KV kvs vs/\s.heap.DictOf (mixKind X.prog X.w) p vs:=I.hok p _ hx
   have hlen:kvs.length=vs.length:=xht r;exact wpAny_truthy_dict hS m (by lia) ⟨H,I.tok _,by rw[znn r];exact q⟩
 | _=>exact (show False from e).elim
theorem ztm (ha:PE X a ta) (he:∀whole,isTrue a X.env whole=(do let v ← whole;standAt a.pos;holding [v] (truthy v))) :
  PT X a (fun σ H Q=>ta σ H fun x H'=>∃k,TruV X.K x H' k/\Q k H'):=by
 intro pins s σ H Q I h;exact isTrue_plain (thn (ha pins s σ H _ I h) fun v s1 ⟨x,H1,I1,r1,q1⟩=>zbca pins s1 σ H1 x v Q I1 r1 q1) (he _)
theorem zmu:OpR X (binaryOp .Add) (fun x y H Q=>∃i j,x=.str i/\y=.str j/\i.length+j.length<=sizeLine/\Q (.str (i++j)) H):=by
 intro pins s σ H x y v u Q I rx ry h;obtain ⟨i,j,rfl,rfl,hz,q⟩:=h;obtain ⟨t,rfl⟩:=rx;obtain ⟨t',rfl⟩:=ry;exact add_str (fun t' tk=>⟨.str (i++j),H,I.tok _,⟨_,rfl⟩,q⟩) hz
theorem vals1 {x:V} {us:List Value} (r:Vals [x] us):∃u,us=[u]/\RelV x u:=by
 cases r with
 | cons r1 r2=>cases r2;exact ⟨_,rfl,r1⟩
theorem vals2 {x y:V} {us:List Value} (r:Vals [x,y] us):∃u w',us=[u,w']/\RelV x u/\RelV y w':=by
 cases r with
 | cons r1 r2 =>
  cases r2 with
  | cons r3 r4=>cases r4;exact ⟨_,_,rfl,r1,r3⟩
theorem zvv : CallR X (.builtin "abs") (fun xs H Q => ∃ i, xs = [.int i] /\ Q (.int (if i < 0 then -i else i)) H) := by
 intro pins s σ H xs us Q I r h;obtain ⟨i,rfl,q⟩:=h;obtain ⟨u,rfl,t,rfl⟩:=vals1 r;exact call_abs_int fun u tk=>⟨.int (if i < 0 then -i else i),H,I.tok _,⟨_,rfl⟩,q⟩
theorem zkk (hc : X.calm = true) : CallR X (.builtin "max") (fun xs H Q => ∃ i j, xs = [.int i, .int j] /\ Q (.int (if j > i then j else i)) H) := by
 intro pins s σ H xs us Q I r h;obtain ⟨i,j,rfl,q⟩:=h;obtain ⟨u,w',rfl,⟨t,rfl⟩,⟨t',rfl⟩⟩:=vals2 r;refine max_two_ints (I.ok.hd hc) fun h' tk k=>⟨_,H,I.kept k,?_,q⟩
 by_cases hj:j > i
 ·rw[if_pos hj,if_pos hj];exact ⟨_,rfl⟩
 ·rw[if_neg hj,if_neg hj];exact ⟨_,rfl⟩
theorem zgz (hc : X.calm = true) : CallR X (.builtin "min") (fun xs H Q => ∃ i j, xs = [.int i, .int j] /\ Q (.int (if j < i then j else i)) H) := by
 intro pins s σ H xs us Q I r h;obtain ⟨i,j,rfl,q⟩:=h;obtain ⟨u,w',rfl,⟨t,rfl⟩,⟨t',rfl⟩⟩:=vals2 r;refine min_two_ints (I.ok.hd hc) fun h' tk k=>⟨_,H,I.kept k,?_,q⟩
 by_cases hj:j < i
 ·rw[if_pos hj,if_pos hj];exact ⟨_,rfl⟩
 ·rw[if_neg hj,if_neg hj];exact ⟨_,rfl⟩
theorem zrp : CallR X (.type "int") (fun xs H Q => (∃ i, xs = [.int i] /\ Q (.int i) H) \/ ∃ k, xs = [.bl k] /\ Q (.int (if k then 1 else 0)) H) := by
 intro pins s σ H xs us Q I r h;rcases h with ⟨i,rfl,q⟩ | ⟨k,rfl,q⟩
 ·obtain ⟨u,rfl,t,rfl⟩:=vals1 r;exact call_int_int ⟨.int i,H,I,⟨_,rfl⟩,q⟩
 ·obtain ⟨u,rfl,r1⟩:=vals1 r;cases r1;exact call_int_bool ⟨.int (if k then 1 else 0),H,I.tok _,⟨_,rfl⟩,q⟩
end
structure ObjM (h:Heap) (x dx C:Addr) (mA:Str->Option Value):Prop where
 obj:h.get? x=some (PySem.W.instObj C dx)
 ns:h.Ns1 dx mA
 ne:dx≠x
theorem zql {h:Heap} {dx:Addr} {mA:Str->Option Value} (n:h.Ns1 dx mA):∃od,h.get? dx=some od/\∀name,PySem.W.lookIn name od=some (mA name):=by
 obtain ⟨o,es,ep,ho,hd,hk,_,hm⟩:=n;refine ⟨o,ho,fun name=>?_⟩;have e:=hm name;unfold nsFind findBy at e;rw[← Array.find?_toList] at e;unfold PySem.W.lookIn;rw[hd];dsimp only;split
 ·rename_i y q;rw[q] at e;exact congrArg some e
 ·rename_i q;rw[q] at e;have a:es.toList.any (·.refKey)=false:=by
   rw[List.any_eq_false];intro y hy;obtain ⟨z,t,hkey⟩:=hk y (Array.mem_toList_iff.mp hy);simp[DictEntry.refKey,hkey]
  have a':¬ es.toList.any (·.refKey)=true:=by rw[a];exact xfc
  rw[if_neg a'];exact congrArg some e
theorem ObjM.look {h:Heap} {x dx C:Addr} {mA:Str->Option Value} (I:ObjM h x dx C mA):∃od,PySem.W.InstAt h x (PySem.W.instObj C dx) C (some od)/\∀name,PySem.W.lookIn name od=some (mA name) :=
 let ⟨od,ho,hl⟩:=zql I.ns
 ⟨od,⟨I.obj,rfl,rfl,ho⟩,hl⟩
section
variable {prog:Program} {w:World} {A:Around} {E:Value->Shared->Prop} {s:Shared} {K:Fg} {x dx C f:Addr} {mA:Str->Option Value} {name:Str} {v:Value}
end
theorem RelO.some_of {v:V} {o:Option Value} (r:RelO (some v) o):∃u,o=some u/\RelV v u:=by
 cases o with
 | none=>exact (show False from r).elim
 | some u=>exact ⟨u,rfl,r⟩
section
variable {P:Program} {w:World} {H H':Hp} {h h':Heap} {a C dx:Addr} {fs fs':List (Str × V)}
theorem zzi (hok:HOk P w H h) (e:H a=some (.ins C dx fs)):∃mA,ObjM h a dx C mA/\(∀f,RelO (fs.lookup f) (mA f))/\PySem.Within mA (fs.map (·.1))/\fs.length<=1000/\H dx=some (.own a):=by
 obtain ⟨d,z,ne,ob,mA,n,r,q⟩:=(show ObjOk P w H h a (.ins C dx fs) from hok a _ e)
 exact ⟨mA,⟨ob,n,ne⟩,r,q,z,d⟩
end
structure Cls (K:Fg) (C:Addr):Prop where
 pg:PySem.W.plainGet K C Str.empty=true
 hd:PySem.W.hasDictIn K C=true
 po:PySem.W.plainOver K C=true
 sa : PySem.W.findIn K (.ref C) "__setattr__" = some (some (.builtin "object.__setattr__"))
theorem Cls.get {K:Fg} {C:Addr} (c:Cls K C) (f:Str):PySem.W.plainGet K C f=true:=c.pg
section
variable {X:Cx} {pins:List (Addr × Obj)} {σ:St} {H:Hp} {s:Shared} {a C dx:Addr} {fs:List (Str × V)} {f:Str} {v:V} {A:Around} {E:Value->Shared->Prop}
theorem zbbk {prog:Program} {w:World} {env:Env} {e:Expr} {f:Str} {pos:Pos} {s:Shared} {Q:Value->Shared->Prop} (hb:attributeBase e f env (eval e env)=eval e env)
  (h:wpAny (model prog w) A (eval e env) (fun o s₁=>wpAny (model prog w) A (getAttr o f true) Q E s₁) E s):wpAny (model prog w) A (eval (.Attribute e f pos) env) Q E s :=
 Attribute_any_ h (by rw[arm_eval_Attribute,hb])
end
section
variable {X:Cx} {o e value:Expr} {f:Str} {pos pos' tpos:Pos} {ta tv:TE}
end
section
variable {X:Cx} {pins:List (Addr × Obj)} {σ:St} {H:Hp} {s:Shared} {A:Around} {E:Value->Shared->Prop} {Q:Value->Shared->Prop} {c:Value} {b:Bool}
inductive TyOf (K:Fg) (H:Hp):V->Value->Prop where
 | non : TyOf K H .non (.type "NoneType")
 | bl (x : Bool) : TyOf K H (.bl x) (.type "bool")
 | int (i : Int) : TyOf K H (.int i) (.type "int")
 | str (x : Str) : TyOf K H (.str x) (.type "str")
 | flt (x : UInt64) : TyOf K H (.flt x) (.type "float")
 | lst {a : Addr} {xs : List V} (e : H a = some (.lst xs)) : TyOf K H (.ref a) (.type "list")
 | frz {a : Addr} {o : Obj} {xs : List V} (e : H a = some (.frz o (.lst xs))) : TyOf K H (.ref a) (.type "list")
 | tup {a : Addr} {xs : List V} (e : H a = some (.tup xs)) : TyOf K H (.ref a) (.type "tuple")
 | dK {a : Addr} {kvs : List (Key × V)} (e : H a = some (.dK kvs)) : TyOf K H (.ref a) (.type "dict")
 | dT {a : Addr} {kvs : List (List Key × V)} (e : H a = some (.dT kvs)) : TyOf K H (.ref a) (.type "dict")
 | ins {a C dx : Addr} {fs : List (Str × V)} (e : H a = some (.ins C dx fs)) (cl : Cls K C) (ha : PySem.W.findIn K (.ref C) "__class__" = some (some (.builtin "object.__class__")))
  (hn : PySem.W.specialIn K (.builtin "object.__class__") "__get__" = some (some (.builtin "getset_descriptor.__get__"))) (htk : PySem.W.takesIn K (.builtin "object.__class__") = some true)
  (hm : PySem.W.mroIn K C (.type "object") = some true) : TyOf K H (.ref a) (.ref C)
theorem zqs {x:V} {u t:Value} (I:Inv X pins σ H s) (rx:RelV x u) (ty:TyOf X.K H x t) (e:PySem.W.kitOne X.K t c=some b) (h:∀tk,Q (.bool b) {s with toks:=tk}) :
  wpAny (model X.prog X.w) A (call (.builtin "isinstance") [u, c]) Q E s := by
 cases ty with
 | non=>cases (show u=Value.none from rx);exact xea PySem.W.kitx_none I.kIn True.intro e (fun z=>nomatch z) h
 | bl y=>cases (show u=Value.bool y from rx);exact xea PySem.W.kitx_bool I.kIn True.intro e (fun z=>nomatch z) h
 | int i=>obtain ⟨t,q⟩:=(show ∃t,u=Value.int i t from rx);cases q;exact xea PySem.W.kitx_int I.kIn True.intro e (fun z=>nomatch z) h
 | str y=>obtain ⟨t,q⟩:=(show ∃t,u=Value.str y t from rx);cases q;exact xea PySem.W.kitx_str I.kIn True.intro e (fun z=>nomatch z) h
 | flt y=>obtain ⟨t,q⟩:=(show ∃t,u=Value.float y t from rx);cases q;exact xea PySem.W.kitx_float I.kIn True.intro e (fun z=>nomatch z) h
 | @lst a xs ea =>
  cases (show u=Value.ref a from rx);obtain ⟨_,_,n,_,h1⟩:=(show ObjOk X.prog X.w H s.heap a (.lst xs) from I.hok a _ ea)
  exact xea PySem.W.kitx_list I.kIn ⟨_,h1,rfl⟩ e (fun z=>nomatch z) h
 | @frz a ob xs ea =>
  cases (show u=Value.ref a from rx);obtain ⟨_,_,_,n,_,h1⟩:=(show ObjOk X.prog X.w H s.heap a (.frz ob (.lst xs)) from I.hok a _ ea)
  exact xea PySem.W.kitx_list I.kIn ⟨_,h1,rfl⟩ e (fun z=>nomatch z) h
 | @tup a xs ea =>
  cases (show u=Value.ref a from rx);obtain ⟨_,_,_,p⟩:=(show ObjOk X.prog X.w H s.heap a (.tup xs) from I.hok a _ ea)
  obtain ⟨o,h1,h2,_⟩:=p;exact xea PySem.W.kitx_tuple I.kIn ⟨o,h1,h2⟩ e (fun z=>nomatch z) h
 | @dK a kvs ea =>
  cases (show u=Value.ref a from rx);obtain ⟨_,_,vs,_,p⟩:=(show ObjOk X.prog X.w H s.heap a (.dK kvs) from I.hok a _ ea)
  obtain ⟨o,es,ep,h1,h2,_⟩:=p;exact xea PySem.W.kitx_dict I.kIn ⟨o,h1,h2.1⟩ e (fun z=>nomatch z) h
 | @dT a kvs ea =>
  cases (show u=Value.ref a from rx);obtain ⟨_,_,xs,_,o,es,ep,h1,h2,_⟩:=(show ObjOk X.prog X.w H s.heap a (.dT kvs) from I.hok a _ ea)
  exact xea PySem.W.kitx_dict I.kIn ⟨o,h1,h2.1⟩ e (fun z=>nomatch z) h
 | @ins a C dx fs ea cl ha hn htk hm =>
  cases (show u=Value.ref a from rx);obtain ⟨mA,O,_⟩:=zzi I.hok ea;obtain ⟨od,J,_⟩:=O.look;exact xea (PySem.W.kitx_own (cl.get _) cl.hd ha hn htk hm) I.kIn J e (fun z=>nomatch z) h
end
structure Room (k:Nat) (A:Around):Prop where
 hd:A.handled=none
 dp:A.depth+3 * k+5 < recursionLimit
 un:A.units+16 * k+200 < cLine
theorem Room.mono {j k:Nat} {A:Around} (r:Room k A) (h:j<=k):Room j A:=⟨r.hd,by have:=r.dp;lia,by have:=r.un;lia⟩
theorem Room.deeper {k:Nat} {A:Around} (r:Room (k+1) A) (env:Env):Room k (A.deeper env) :=
 ⟨r.hd,by have:=r.dp;show A.depth+1+3 * k+5 < _;lia,by have:=r.un;show A.units+3+16 * k+200 < _;lia⟩
theorem znh {A : Around} {C : Addr} {us : List Value} {kw : List (Str × Value)} : (A.under (.builtin "type.__call__" ⟨.ref C :: us, kw⟩)).depth = A.depth + 1 := by
 first | rfl | simp[Around.under,Code.weight,Code.isCreation,Code.isGuard,Code.isCaller,Code.frames,Code.isFrame,guardIds]
theorem zng {A : Around} {C : Addr} {us : List Value} {kw : List (Str × Value)} : (A.under (.builtin "type.__call__" ⟨.ref C :: us, kw⟩)).units = A.units + 1 := by
 first | rfl | simp[Around.under,Code.cUnits,Code.frames,Code.isFrame]
theorem Room.make {k : Nat} {A : Around} (r : Room (k + 1) A) (C : Addr) (us : List Value) (kw : List (Str × Value)) : Room k (A.under (.builtin "type.__call__" ⟨.ref C :: us, kw⟩)) :=
 ⟨r.hd,by have:=r.dp;rw[znh];lia,by have:=r.un;rw[zng];lia⟩
theorem Room.depth {k:Nat} {A:Around} (r:Room k A):A.depth < recursionLimit:=by have:=r.dp;lia
theorem Room.units {k:Nat} {A:Around} (r:Room k A):A.units+64 < cLine:=by have:=r.un;lia
theorem Room.units0 {k:Nat} {A:Around} (r:Room k A):A.units < cLine:=by have:=r.un;lia
noncomputable def tNil:TA:=fun _ H Q=>Q [] H
noncomputable def tCons (ta:TE) (tr:TA):TA:=fun σ H Q=>ta σ H fun x H1=>tr σ H1 fun xs H2=>Q (x::xs) H2
section
variable {X:Cx} {e:Expr} {es:List Expr} {te:TE} {t:TA} {pos:Pos}
theorem zud:PA X [] tNil:=fun _ _ _ _ H Q I h=>xir ⟨[],H,I,.nil,h⟩
theorem zft (ha:PE X e te) (hr:PA X es t) (hs:starEach (e::es) X.env=(false,eval e X.env)::starEach es X.env:=by rfl):PA X (e::es) (tCons te t):=by
 intro pos pins s σ H Q I h;rw[hs];show wpAny _ _ (spliced ((false,eval e X.env)::backTo pos (starEach es X.env))) _ _ s;refine xgv (thn (ha pins s σ H _ I h) fun u s1 hq0=>?_);obtain ⟨x,H1,I1,r1,q1⟩:=hq0;exact thn (hr pos pins s1 σ H1 _ I1 q1) fun us s2 ⟨xs,H2,I2,r2,q2⟩=>⟨x::xs,H2,I2,.cons r1 r2,q2⟩
noncomputable def tTup (t:TA):TE:=fun σ H Q=>t σ H fun xs H1=>xs.length<=sizeLine/\∀p,H1 p=none->Q (.ref p) (upd H1 p (.tup xs))
noncomputable def tLst (t:TA):TE:=fun σ H Q=>t σ H fun xs H1=>xs.length<=sizeLine/\∀p,H1 p=none->Q (.ref p) (upd H1 p (.lst xs))
theorem zyb {x1} (h:PA X es t):PE X (.Tuple es x1 pos) (tTup t):=by
 intro pins s σ H Q I hq;refine wpAny_Tuple_spliced (thn (h pos pins s σ H _ I hq) fun us s1 ⟨xs,H1,I1,r,z,q⟩=>⟨by rw[← r.length];exact z,?_⟩);have hf:H1 s1.heap.objs.size=none:=I1.hok.fresh (xbg _);refine ⟨.ref s1.heap.objs.size,upd H1 s1.heap.objs.size (.tup xs),I1.laid (t':=s1.toks) (fun b u e=>xbc _ e) (xbg _) ?_,rfl,q _ hf⟩;exact ⟨z,us,r,⟨_,xbz _ rfl,rfl,_,rfl⟩⟩
theorem zyc (h:PA X es t):PE X (.List es pos) (tLst t):=by
 intro pins s σ H Q I hq;refine wpAny_List_spliced (thn (h pos pins s σ H _ I hq) fun us s1 ⟨xs,H1,I1,r,z,q⟩=>⟨by rw[← r.length];exact z,?_⟩);have hf:H1 s1.heap.objs.size=none:=I1.hok.fresh (xbg _);refine ⟨.ref s1.heap.objs.size,upd H1 s1.heap.objs.size (.lst xs),I1.laid (t':=s1.toks) (fun b u e=>xbc _ e) (xbg _) ?_,rfl,q _ hf⟩;exact ⟨z,us,0,r,xbz _ rfl⟩
end
noncomputable abbrev Sp:=List V->Hp->VK->XK->Prop
noncomputable abbrev CXT:=List Env->Hp->Shared->XK->Value->Shared->Prop
structure Env0 (P:Program) (w:World) (K:Fg) (mg:Str->Option Value) (base:Heap) (A:Around) (outer:List Env) (s:Shared) (H:Hp):Prop where
 frames:A.frames=some outer
 mod:Mod K mg base
 bs:∀b o,base.get? b=some o->s.heap.get? b=some o/\H b=none
 bsz:base.objs.size<=s.heap.objs.size
 funs:s.heap.FunFrames base outer
 frf:∀b∈frs outer,H b=none
 hok:HOk P w H s.heap
 bare:AllBare s.gens
noncomputable def CE (outer:List Env) (P:Program) (w:World) (H:Hp) (s:Shared) (Q:VK) (u:Value) (s':Shared):Prop :=
 ∃v H',s'.os=s.os/\AllBare s'.gens/\Un (frs outer) [] H H' s.heap s'.heap/\HOk P w H' s'.heap/\RelV v u/\Q v H'
noncomputable def CR (CX:CXT) (outer:List Env) (P:Program) (w:World) (H:Hp) (s:Shared) (Q:VK) (E:XK) (r:Result) (s':Shared):Prop :=
 match r with
 | .ok (.ret u)=>CE outer P w H s Q u s'
 | .ok _=>False
 | .error e=>CX outer H s E e s'
structure FnOk (P:Program) (w:World) (K:Fg) (mg:Str->Option Value) (base:Heap) (CX:CXT) (k:Nat) (f:Addr) (fd:FuncData) (ps:List Str) (sp:Sp):Prop where
 len:∀vs H Q E,sp vs H Q E->vs.length=ps.length
 run:∀(A:Around) (outer:List Env) (s:Shared) (H:Hp) (args:Args) (us:List Value) (vs:List V) (Q:VK) (E:XK),Room k A->Env0 P w K mg base A outer s H->BindsTo s fd args (ps.zip us)->Vals vs us->sp vs H Q E ->
  codeAny (model P w) A (.call (.ref f) args) (CR CX outer P w H s Q E) s
theorem Env0.make {P:Program} {w:World} {K:Fg} {mg:Str->Option Value} {base:Heap} {A:Around} {outer:List Env} {s:Shared} {H:Hp} (e:Env0 P w K mg base A outer s H) (C:Addr) (us:List Value) (kw:List (Str × Value)) :
 Env0 P w K mg base (A.under (.builtin "type.__call__" ⟨.ref C :: us, kw⟩)) outer s H := ⟨by first | exact e.frames | (simpa [Around.under, Code.envs, Code.isFrame, pushEnvs] using e.frames), e.mod, e.bs, e.bsz, e.funs, e.frf, e.hok, e.bare⟩
section
variable {X:Cx} {pins:List (Addr × Obj)} {σ:St} {H:Hp} {s s':Shared}
theorem Inv.env0 (I:Inv X pins σ H s):Env0 X.prog X.w X.K X.mg X.base X.A X.stack s H :=
 ⟨I.ok.frames,I.ok.mod,I.bs,xbb I.ok.bsz I.sz,I.stack,I.stkFree,I.hok,I.bare⟩
theorem Inv.after {Q:VK} {u:Value} (I:Inv X pins σ H s) (h:CE X.stack X.prog X.w H s Q u s'):EP X pins σ Q u s':=by
 obtain ⟨v,H',os,bare,un,hok,r,q⟩:=h;obtain ⟨hh,g,d,t,os'⟩:=s';obtain rfl:os'=s.os:=os;exact ⟨v,H',I.call (h':=hh) (g':=g) (d':=d) (t':=t) (ch:=[]) un hok bare (fun b z=>absurd z (by simp)),r,q⟩
end
noncomputable def tCall (sp:Sp) (dvs:List V) (E:XK) (t:TA):TE:=fun σ H Q=>t σ H fun vs H1=>sp (vs++dvs) H1 Q E
noncomputable def Binds (K:Fg) (fd:FuncData) (ps:List Str) (ds:List Value):Prop :=
 ∀(s:Shared) (us:List Value),K.In s.heap->(us++ds).length=ps.length->BindsTo s fd ⟨us,[]⟩ (ps.zip (us++ds))
theorem Binds.all {K:Fg} {fd:FuncData} {ps:List Str} (h:∀us:List Value,us.length=ps.length->bindArgs fd ⟨us,[]⟩=pure (ps.zip us)):Binds K fd ps []:=fun s us _ hl=>by
 rw[xdm] at hl ⊢;exact .of_eq (h us hl)
noncomputable def Passes (CX:CXT) (X:Cx) (E:XK):Prop:=∀(pins:List (Addr × Obj)) (σ:St) (H:Hp) (s:Shared) (e:Value) (s':Shared),Inv X pins σ H s->CX X.stack H s E e s'->X.xe e s'
section
variable {X:Cx} {CX:CXT} {k:Nat} {f C:Addr} {fd:FuncData} {ps:List Str} {sp:Sp} {dvs:List V} {ds:List Value} {E:XK} {x m:Str} {p pos apos:Pos} {e o:Expr} {es:List Expr} {ta:TE} {t:TA}
theorem zbcl {pins:List (Addr × Obj)} {σ:St} {H:Hp} {s:Shared} {Q:VK} {us:List Value} {vs:List V} (F:FnOk X.prog X.w X.K X.mg X.base CX k f fd ps sp) (hr:Room k X.A) (hb:Binds X.K fd ps ds) (hd:Vals dvs ds) (hx:Passes CX X E)
  (I:Inv X pins σ H s) (r:Vals vs us) (h:sp (vs++dvs) H Q E):wpAny (model X.prog X.w) X.A (call (.ref f) us) (EP X pins σ Q) X.xe s:=by
 have r2:Vals (vs++dvs) (us++ds):=r.append hd;have hl:(us++ds).length=ps.length:=by rw[← r2.length];exact F.len _ _ _ _ h
 refine xjn (xjo (F.run X.A X.stack s H ⟨us,[]⟩ (us++ds) (vs++dvs) Q E hr I.env0 (hb s us I.kIn hl) r2 h) fun r s' hq=>?_);cases r with
 | error e=>exact hx pins σ H s e s' I hq
 | ok fl =>
  cases fl with
  | ret u=>exact I.after hq
  | next=>exact False.elim hq
  | brk=>exact False.elim hq
  | cont=>exact False.elim hq
theorem zyh (F:FnOk X.prog X.w X.K X.mg X.base CX k f fd ps sp) (hr:Room k X.A) (hg:Gl X x) (hm:X.mg x=some (.ref f)) (hk:PySem.W.keepIn X.K (.ref f)=true) (hb:Binds X.K fd ps ds) (hd:Vals dvs ds) (hx:Passes CX X E)
  (ha : PA X (e :: es) t) (hdb : (x == ("__debug__" : Str)) = false := by decide) (he : starEach (e :: es) X.env = (false, eval e X.env) :: starEach es X.env := by rfl) (hpl : (backTo pos (starEach es X.env)).any (·.1) = false := by rfl) :
  PE X (.Call (.Name x p) (e::es) [] pos) (tCall sp dvs E t):=by
 intro pins s σ H Q I h;refine xgc (zhp I hg hm ?_ hdb);refine xju (h₀:=X.base) I.ok.mod.kin hk (thn (ha pos pins s σ H _ I h) fun us s1 ⟨vs,H1,I1,r,q⟩=>⟨I1.kIn,?_⟩) he hpl;exact zbcl F hr hb hd hx I1 r q
end
section
variable {X:Cx} {CX:CXT} {k:Nat} {f C:Addr} {fd:FuncData} {ps ks:List Str} {sp:Sp} {E:XK} {x m:Str} {p pos apos kpos:Pos} {e o:Expr} {es:List Expr} {kws:List Keyword} {te ta:TE} {t tk:TA} {nm:Option Str}
variable {g:List Value->List Value->List Value} {gV:List V->List V->List V}
end
structure FnScope (N P:List Str) (sc:Scope):Prop where
 kind:sc.kind=.function
 co:sc.isCoroutine=false
 gen:sc.isGenerator=false
 nd:N.Nodup
 pre:N.take P.length=P
 par:∀x∈P,sc.names.lookup x=some .local\/sc.names.lookup x=some .cell
 nofree:∀y∈sc.names,y.2≠.free
theorem zkm {kindOf:Str->Option NameKind} {x:Str}:∀{binds:List (Str × Value)} {m:Str->Option Value},(∀v,(x,v)∉binds)->bindL kindOf binds m x=m x
 | [],_,_=>rfl
 | (n,v)::r,m,h=>by
  unfold bindL;rw[zkm fun w hw=>h w (xci _ hw)];split
  ·have:x≠n:=by rintro rfl;exact h v xce
   simp[this]
  ·rfl
theorem zko {kindOf:Str->Option NameKind} {x:Str}:∀{binds:List (Str × Value)} {m:Str->Option Value},(∀v,(x,v)∉binds)->bindC kindOf binds m x=m x
 | [],_,_=>rfl
 | (n,v)::r,m,h=>by
  unfold bindC;rw[zko fun w hw=>h w (xci _ hw)];split
  ·rfl
  ·have:x≠n:=by rintro rfl;exact h v xce
   simp[this]
theorem zkn {kindOf:Str->Option NameKind} {x:Str} {v:Value}:∀{P:List Str} {vs:List Value} {i:Nat} {m:Str->Option Value},P.Nodup->P[i]?=some x->vs[i]?=some v->kindOf x=some .local ->
  bindL kindOf (P.zip vs) m x=some v
 | [],_,_,_,_,h,_,_=>by simp at h
 | _::_,[],_,_,_,_,h,_=>by simp at h
 | p::P,w::vs,0,m,nd,h1,h2,hk=>by
  simp at h1 h2;subst h1;subst h2
  show bindL kindOf ((p,w)::P.zip vs) m p=_;unfold bindL;rw[zkm fun v hv=>(xgw.mp nd).1 (xko hv).1,if_pos hk];simp
 | p::P,w::vs,i+1,m,nd,h1,h2,hk=>by
  show bindL kindOf ((p,w)::P.zip vs) m x=_;unfold bindL;exact zkn (i:=i) (xgw.mp nd).2 (by simpa using h1) (by simpa using h2) hk
theorem zkp {kindOf:Str->Option NameKind} {x:Str} {v:Value}:∀{P:List Str} {vs:List Value} {i:Nat} {m:Str->Option Value},P.Nodup->P[i]?=some x->vs[i]?=some v->kindOf x≠some .local ->
  bindC kindOf (P.zip vs) m x=some v
 | [],_,_,_,_,h,_,_=>by simp at h
 | _::_,[],_,_,_,_,h,_=>by simp at h
 | p::P,w::vs,0,m,nd,h1,h2,hk=>by
  simp at h1 h2;subst h1;subst h2
  show bindC kindOf ((p,w)::P.zip vs) m p=_;unfold bindC;rw[zko fun v hv=>(xgw.mp nd).1 (xko hv).1,if_neg hk];simp
 | p::P,w::vs,i+1,m,nd,h1,h2,hk=>by
  show bindC kindOf ((p,w)::P.zip vs) m x=_;unfold bindC;exact zkp (i:=i) (xgw.mp nd).2 (by simpa using h1) (by simpa using h2) hk
noncomputable def start (N:List Str) (vs:List V):St:=vs.map some++List.replicate (N.length - vs.length) none
noncomputable def cxOf (CX:CXT) (P:Program) (w:World) (K:Fg) (mg:Str->Option Value) (base:Heap) (N:List Str) (qual:Str) (scope:Scope) (f:Addr) (cd:Value) (A:Around) (outer:List Env) (s:Shared) (H:Hp) (E:XK):Cx where
 prog:=P
 w:=w
 K:=K
 mg:=mg
 base:=base
 A:=A.deeper (envOfC qual scope s.heap.objs.size f cd)
 N:=N
 s₀:=s
 H₀:=H
 env:=envOfC qual scope s.heap.objs.size f cd
 outer:=outer
 stack:=envOfC qual scope s.heap.objs.size f cd::outer
 ex:=[]
 calm:=true
 fn:=fun _=>true
 pn:=[]
 xe:=fun e s'=>wpAny (model P w) (A.deeper (envOfC qual scope s.heap.objs.size f cd)) (leaving (envOfC qual scope s.heap.objs.size f cd) e) (fun _ s''=>CX outer H s E e s'') (fun e' s''=>CX outer H s E e' s'') s'
theorem zoh {sc:Scope} {n:Nat} {x:Str} (h:sc.names.lookup x=some .cell):∃c,(cellsFrom n sc.names []).lookup x=some c:=by
 have q:=PySem.W.cellsFrom_some sc.names n [] (.inl h);exact Option.isSome_iff_exists.mp q
theorem zqu {CX:CXT} {P:Program} {w:World} {K:Fg} {mg:Str->Option Value} {base:Heap} {N ps:List Str} {qual:Str} {scope:Scope} {f:Addr} {cd:Value} {A:Around} {outer:List Env} {s s1:Shared} {H:Hp} {E:XK} {us:List Value} {vs:List V}
  (S:FnScope N ps scope) (hd:A.handled=none) (e0:Env0 P w K mg base A outer s H) (hl:vs.length=ps.length) (r:Vals vs us)
  (x:InCallC s s.heap.objs.size (bindL (envOfC qual scope s.heap.objs.size f cd).kindOf (ps.zip us) fun _=>none) (cellsFrom (s.heap.objs.size+1) scope.names []) (bindC (envOfC qual scope s.heap.objs.size f cd).kindOf (ps.zip us) fun _=>none) s1) :
  Inv (cxOf CX P w K mg base N qual scope f cd A outer s H E) [] (start N vs) H s1:=by
 have hpl:ps.length<=N.length:=by have:=congrArg List.length S.pre;rw[xco] at this;lia
 obtain ⟨h1,tk,rfl,hk⟩:=x.done;have noA:∀b:Addr,b∉(cxOf CX P w K mg base N qual scope f cd A outer s H E).ex:=fun b z=>absurd (show b∈([]:List Addr) from z) (by simp)
 refine ⟨⟨e0.mod,S.kind,rfl,rfl,xbg _,fun y z c h1 h2=>?_,fun y hy=>?_,fun y c _ h=>?_,fun _=>hd,Around.frames_deeper e0.frames,.inr ⟨rfl,rfl⟩,fun b z=>absurd z (noA b),e0.bs,e0.bsz,fun b _ _=>noA b,fun b z=>absurd z (noA b),e0.funs,e0.frf⟩,
  rfl,e0.bare,Un.kept hk,⟨_,x.toInCall.ns,fun i y v h1 h2 h3=>?_⟩,fun y c h=>⟨_,x.cell y c h⟩,e0.hok.fresh (xbg _),fun y c h=>?_,fun p hp=>absurd (show p∈([]:List (Addr × Obj)) from hp) (by simp),e0.hok.kept hk,?_,Hnd.none hd⟩
 ·exact name_of_addr x.apart (xfs h1) (xfs h2)
 ·have hy:scope.names.lookup y=some .cell\/scope.names.lookup y=some .free:=hy;rcases hy with hy | hy
  ·exact zoh hy
  ·exact absurd rfl (S.nofree _ (xfs hy))
 ·exact xbp (x.above y c (xfs h))
 ·have hi:i < vs.length:=by
   unfold start at h2;by_cases hi:i < vs.length
   ·exact hi
   ·rw[xcw (by simpa using hi)] at h2;rw[List.getElem?_replicate] at h2;split at h2<;>cases h2
  have ha:vs[i]?=some v:=by
   unfold start at h2;rw[xbx (by simpa using hi),xcp] at h2;cases e:vs[i]? with
   | none=>rw[e] at h2;cases h2
   | some a=>rw[e] at h2;cases h2;rfl
  obtain ⟨u,hu,rv⟩:=r.get ha;have hp:ps[i]?=some y:=by
   rw[← S.pre,List.getElem?_take_of_lt (by lia)];exact h1
  have ndP:ps.Nodup:=by rw[← S.pre];exact S.nd.sublist (List.take_sublist _ _)
  refine ⟨u,rv,?_⟩;rcases S.par y (xch hp) with k | k
  ·exact .inl ⟨k,zkn ndP hp hu k⟩
  ·obtain ⟨c,e⟩:=zoh (n:=s.heap.objs.size+1) k;refine .inr ⟨.inl k,c,e,?_⟩;have q:=x.cell y c e;rw[zkp ndP hp hu (by show scope.names.lookup y≠_;rw[k];decide)] at q;exact q
 ·exact e0.hok.fresh (xbp (x.above y c (xfs h)))
 ·unfold start;show _=N.length;rw[xcb,xbf,xgd];lia
theorem zbgr {CX:CXT} {P:Program} {w:World} {K:Fg} {mg:Str->Option Value} {base:Heap} {k:Nat} {f:Addr} {name qual:Str} {params:Arguments} {body:List Stmt} {scope:Scope} {dV kV doc pm cdv ct oc:Value} {an od:Option Addr}
  {osl:Array (Option Value)} {N ps:List Str} {sp:Sp} (lk:K.lookup f=some ⟨oc,od,.func (PySem.W.fnOf name qual params body scope dV kV doc pm an cdv ct),osl⟩) (hcd:PySem.W.codeIn K cdv qual=true) (S:FnScope N ps scope)
  (len:∀vs H Q E,sp vs H Q E->vs.length=ps.length)
  (hbody:∀(A:Around) (outer:List Env) (s:Shared) (H:Hp) (vs:List V) (Q:VK) (E:XK),Room k (A.deeper (envOfC qual scope s.heap.objs.size f cdv))->sp vs H Q E ->
   ∃t,PSs (cxOf CX P w K mg base N qual scope f cdv A outer s H E) body t/\t {nx:=fun _ H'=>Q .non H',rt:=Q} (start N vs) H) :
  FnOk P w K mg base CX (k+1) f (PySem.W.fnOf name qual params body scope dV kV doc pm an cdv ct) ps sp:=by
 refine ⟨len,fun A outer s H args us vs Q E hr e0 hb r hsp=>?_⟩;have hl:=len _ _ _ _ hsp;have KX:K.In s.heap:=e0.mod.kin.keeps fun b o e=>(e0.bs b o e).1
 have lim:s.heap.NoLimit:=e0.mod.nolimit.keeps fun b o e=>(e0.bs b o e).1
 have hkind:∀y∈ps.zip us,scope.names.lookup y.1=some .local\/(scope.names.lookup y.1=some .cell/\((cellsFrom (s.heap.objs.size+1) scope.names []).lookup y.1).isSome=true):=fun hq0 hy=>by
  obtain ⟨n,v⟩:=hq0;rcases S.par n (xko hy).1 with q | q
  ·exact .inl q
  ·exact .inr ⟨q,PySem.W.cellsFrom_some _ _ _ (.inl q)⟩
 refine codeAny_call_function hr.depth (KX _ _ lk) rfl S.co S.gen rfl (PySem.W.codeRec_of KX hcd) (hb _ _ _ _ ?_);refine wpAny_newFunctionEnv_cells S.kind hkind fun env he s1 x=>?_
 subst he;refine ⟨lim.keeps x.toInCall.keep,codeAny_func ?_⟩;obtain ⟨t,ht,hq⟩:=hbody A outer s H vs Q E (hr.deeper _) hsp;have I:Inv (cxOf CX P w K mg base N qual scope f cdv A outer s H E) [] (start N vs) H s1:=zqu S hr.hd e0 hl r x;refine xdj (ht [] s1 (start N vs) H _ I hq) (fun fl s' hs=>?_) fun e s' hs=>hs
 have fin:∀{σ':St} {H':Hp} {v:V} {u:Value},Inv (cxOf CX P w K mg base N qual scope f cdv A outer s H E) [] σ' H' s'->RelV v u->Q v H'->CE outer P w H s Q u s' :=
  fun {σ' H' v u} J rv q=>⟨v,H',J.os,J.bare,J.base,J.hok,rv,q⟩
 cases fl with
 | ret u =>
  obtain ⟨v,σ',H',J,rv,q⟩:=hs;exact fin J rv q
 | next =>
  obtain ⟨σ',H',J,q⟩:=hs;exact fin (v:=V.non) (u:=Value.none) J rfl q
 | brk =>
  obtain ⟨_,_,_,q⟩:=hs;exact False.elim q
 | cont =>
  obtain ⟨_,_,_,q⟩:=hs;exact False.elim q
section
variable {X:Cx} {x:Str} {p pos:Pos} {e:Expr} {es:List Expr} {t:TA} {id T:String} {r:List V->Hp->VK->Prop}
noncomputable def tCB (r:List V->Hp->VK->Prop) (t:TA):TE:=fun σ H Q=>t σ H fun vs H1=>r vs H1 Q
theorem zmr (hc : CallR X (.builtin id) r) (hg : Gl X x) (hm : X.mg x = none) (hv : bootBuiltins x = some (.builtin id)) (ha : PA X (e :: es) t) (hn : x ≠ "__name__" := by decide) (hdb : (x == ("__debug__" : Str)) = false := by decide)
  (he:starEach (e::es) X.env=(false,eval e X.env)::starEach es X.env:=by rfl) (hpl:(backTo pos (starEach es X.env)).any (·.1)=false:=by rfl):PE X (.Call (.Name x p) (e::es) [] pos) (tCB r t):=by
 intro pins s σ H Q I h;refine xgc (znl I hg hm hv ?_ hn hdb);exact xji (thn (ha pos pins s σ H _ I h) fun us s1 ⟨vs,H1,I1,r1,q1⟩=>hc pins s1 σ H1 vs us Q I1 r1 q1) he hpl
theorem zpw (hc : CallR X (.type T) r) (hg : Gl X x) (hm : X.mg x = none) (hv : bootBuiltins x = some (.type T)) (ha : PA X (e :: es) t) (hn : x ≠ "__name__" := by decide) (hdb : (x == ("__debug__" : Str)) = false := by decide)
  (he:starEach (e::es) X.env=(false,eval e X.env)::starEach es X.env:=by rfl) (hpl:(backTo pos (starEach es X.env)).any (·.1)=false:=by rfl):PE X (.Call (.Name x p) (e::es) [] pos) (tCB r t):=by
 intro pins s σ H Q I h;refine xgc (znl I hg hm hv ?_ hn hdb);exact xhl (thn (ha pos pins s σ H _ I h) fun us s1 ⟨vs,H1,I1,r1,q1⟩=>hc pins s1 σ H1 vs us Q I1 r1 q1) he hpl
end
end L2
namespace HT
open PySem PyProof.Rows
noncomputable def lexLt:List Int->List Int->Bool
 | [],[]=>false
 | [],_::_=>true
 | _::_,[]=>false
 | x::xs,y::ys=>if x=y then lexLt xs ys else decide (x < y)
theorem zcj (x y:Int) (xs ys:List Int):lexLt (x::xs) (y::ys)=if x=y then lexLt xs ys else decide (x < y):=rfl
theorem zcx:lexLt [] []=false:=rfl
theorem zbs (y:Int) (ys:List Int):lexLt [] (y::ys)=true:=rfl
theorem zcm (x:Int) (xs:List Int):lexLt (x::xs) []=false:=rfl
theorem zuw (A:Around) (s:Shared) (a:Int) (t:Tok) (c:Int) (u:Tok):∃e,SeqAt.EqAt A s (.int a t) (.int c u) e/\(e=true↔a=c) :=
 ⟨(a == c),SeqAt.EqAt.int_int a t c u,by simp⟩
theorem zti (A:Around) (s:Shared) (a:Int) (t:Tok) (c:Int) (u:Tok) (prog:Program) (w:World) (E:Value->Shared->Prop) (Q:Value->Shared->Prop) (h:Q (.bool (decide (a < c))) s) :
  wpAny (model prog w) A (richCompare .Lt (.int a t) (.int c u)) Q E s :=
 (PyProof.Rows.lt_int h:wpAny (model prog w) A (compareOp .Lt (.int a t) (.int c u)) Q E s)
section
open PySem.SeqAt
open PySem.AutoSeq1 (wpAny_loadPart')
open PySem.MeetsSeq PySem.MeetsSeq2 PySem.MeetsSeq3
theorem zdy (l b:Addr) (items items2:Array Value) (n n2:Nat) (dd dd2:Option Addr) (sl sl2:Array (Option Value)) (ns ms:List Int) (hi:IntsAre items.toList ns) (hj:IntsAre items2.toList ms) :
  Meets (Builtin.«tuple.__lt__» ⟨[.ref l,.ref b],[]⟩)
   (fun _ R s => s.heap.get? l = some { cls := .type "tuple", dict := dd, data := .seq items n, slots := sl } /\ s.heap.get? b = some { cls := .type "tuple", dict := dd2, data := .seq items2 n2, slots := sl2 } /\
    R (.ok (.ret (.bool (lexLt ns ms)))) s) :=
 .of_wp fun prog w A R s h=>by
  obtain ⟨hp,g,d,tk,os⟩:=s;obtain ⟨hl,hb,h⟩:=h
  have f2:=AutoSeq1.sub_tuple_tuple;have z1:items.size=ns.length:=by rw[← hi.length];simp
  have z2:items2.size=ms.length:=by rw[← hj.length];simp
  wp_walk using wpAny_loadPart' hl,wpAny_loadPart' hb,wpAny_forIn_list _ (fun rest b s'=>b.1=none/\s'=⟨hp,g,d,tk,os⟩/\∃(vs ws:List Value) (ns' ms':List Int),rest=vs.zip ws /\
   IntsAre vs ns'/\IntsAre ws ms'/\ns'.length+items2.size=ms'.length+items.size/\R (.ok (.ret (.bool (lexLt ns' ms')))) ⟨hp,g,d,tk,os⟩) _
  case turn =>
   rintro ⟨y,x⟩ rest b s' ⟨hb',rfl,vs,ws,ns',ms',hz,hvi,hwi,hlen,hR⟩;cases hvi with
   | nil=>rw[List.zip_nil_left] at hz;cases hz
   | cons a t hvi' =>
    cases hwi with
    | nil=>rw[List.zip_nil_right] at hz;cases hz
    | cons c u hwi' =>
     rw[List.zip_cons_cons] at hz;injection hz with hyx hrest
     injection hyx with hy hx
     subst hy hx;rw[zcj] at hR;simp only[xby] at hlen;obtain ⟨e,he,hiff⟩:=zuw A.in1 ⟨hp,g,d,tk,os⟩ a t c u;refine xba (he prog w _ _ ?_);cases e with
     | true =>
      rw[if_pos (hiff.mp rfl)] at hR
      wp_walk
      exact ⟨rfl,rfl,_,_,_,_,hrest,hvi',hwi',by lia,hR⟩
     | false =>
      rw[if_neg (fun q=>absurd (hiff.mpr q) xfc)] at hR;have hri:=zti A.in1 ⟨hp,g,d,tk,os⟩ a t c u prog w
      wp_walk using hri
      exact ⟨_,rfl,by simpa using hR⟩
  case fin =>
   rintro ⟨b1,b2⟩ s' ⟨hb',rfl,vs,ws,ns',ms',hz,hvi,hwi,hlen,hR⟩;simp only at hb';subst hb';have hv:lexLt ns' ms'=decide (items.size < items2.size):=by
    cases hvi with
    | nil =>
     cases hwi with
     | nil =>
      simp only[xgx] at hlen;rw[zcx];exact (xbu (by lia)).symm
     | cons c u hw =>
      simp only[xgx,xby] at hlen;rw[zbs];exact (xcj (by lia)).symm
    | cons a t hv =>
     cases hwi with
     | nil =>
      simp only[xgx,xby] at hlen;rw[zcm];exact (xbu (by lia)).symm
     | cons c u hw =>
      rw[List.zip_cons_cons] at hz;cases hz
   rw[hv] at hR
   wp_walk
   exact ⟨_,rfl,by simpa [Builtin.Tuple.tupleCompareSizes] using hR⟩
  case h =>
   exact ⟨rfl,rfl,items.toList,items2.toList,ns,ms,rfl,hi,hj,by lia,h⟩
end
section
variable {prog:Program} {w:World} {A:Around} {E:Value->Shared->Prop} {s:Shared}
theorem zhm {l b:Addr} {items items2:Array Value} {ns ms:List Int} {Q:Value->Shared->Prop} (hl:IsTup s.heap l items) (hb:IsTup s.heap b items2) (hi:IntsAre items.toList ns) (hj:IntsAre items2.toList ms)
  (hu:A.units < cLine) (h:Q (.bool (lexLt ns ms)) s):wpAny (model prog w) A (compareOp .Lt (.ref l) (.ref b)) Q E s:=by
 obtain ⟨⟨cls,dd,data,sl⟩,ho,hc,n,hd⟩:=id hl;obtain ⟨⟨cls2,dd2,data2,sl2⟩,ho2,hc2,n2,hd2⟩:=id hb;simp only at hc hd hc2 hd2;subst hc hd hc2 hd2;exact richCompare_meets_room (op:=.Lt) ⟨_,ho,rfl⟩ ⟨_,ho2,rfl⟩ xjd PySem.F.entry_tuple_lt (PySem.F.args_tuple_lt_2 _ _) (zdy l b items items2 n n2 dd dd2 sl sl2 ns ms hi hj)
  ⟨ho,ho2,show Value.bool (lexLt ns ms)≠Value.notImplemented/\Q (.bool (lexLt ns ms)) s from ⟨(fun x=>nomatch x),h⟩⟩ hu
theorem zbbb {t b:Addr} {vs ws:List Value} {Q:Value->Shared->Prop} (ht:IsTup s.heap t vs.toArray) (hb:IsTup s.heap b ws.toArray) (hv:vs≠[])
  (h1 : ws = [] -> Q (.ref t) s) (h2 : ws ≠ [] -> Q (.ref s.heap.objs.size) { s with heap := s.heap.push { cls := .type "tuple", data := .seq (vs ++ ws).toArray } })
  (hsz:vs.length+ws.length<=sizeLine):wpAny (model prog w) A (binaryOp .Add (.ref t) (.ref b)) Q E s:=by
 obtain ⟨⟨cls,dd,data,sl⟩,ho,hc,n,hd⟩:=id ht;obtain ⟨⟨cls2,dd2,data2,sl2⟩,ho2,hc2,n2,hd2⟩:=id hb;simp only at hc hd hc2 hd2;subst hc hd hc2 hd2;have e:vs.toArray++ws.toArray=(vs++ws).toArray:=by simp
 by_cases hw:ws=[]
 ·exact concat_meets ⟨_,ho,rfl⟩ ⟨_,ho2,rfl⟩ noFill_tuple_add seq_tuple_add xiw xim (xid _ _)
   (tuple_addW1 t b vs.toArray ws.toArray n n2 dd dd2 sl sl2 (by simpa using hv) (by simp[hw])) ⟨ho,ho2,h1 hw⟩
 ·refine concat_meets ⟨_,ho,rfl⟩ ⟨_,ho2,rfl⟩ noFill_tuple_add seq_tuple_add xiw xim (xid _ _)
   (tuple_addW2 t b vs.toArray ws.toArray n n2 dd dd2 sl sl2 (by simpa using hv) (by simpa using hw) (by rw[xbm,xbm];exact hsz)) ⟨ho,ho2,?_⟩
  rw[e];exact h2 hw
noncomputable def sIx (n d:Nat):Option Int->Nat
 | none=>d
 | some v=>if v < 0 then (v+(n:Int)).toNat else min v.toNat n
theorem zmf (n d:Nat):sIx n d none=d:=rfl
theorem zrz (n d k:Nat):sIx n d (some (k:Int))=min k n:=by
 show (if (k:Int) < 0 then ((k:Int)+(n:Int)).toNat else min (k:Int).toNat n)=min k n;rw[if_neg (by lia),xkd]
theorem zbcj (n d:Nat) (hd:d<=n) (o:Option Int):sIx n d o<=n:=by
 cases o with
 | none=>exact hd
 | some v =>
  show (if v < 0 then (v+(n:Int)).toNat else min v.toNat n)<=n;by_cases hv:v < 0
  ·rw[if_pos hv];lia
  ·rw[if_neg hv];exact xfu _ _
theorem zst (v:Int) (n d:Nat):(if v < 0 then max (v+(n:Int)) 0 else min v (n:Int))=((sIx n d (some v):Nat):Int):=by
 show (if v < 0 then max (v+(n:Int)) 0 else min v (n:Int))=(((if v < 0 then (v+(n:Int)).toNat else min v.toNat n):Nat):Int)
 by_cases hv:v < 0
 ·simp only[if_pos hv];lia
 ·simp only[if_neg hv];lia
theorem zor (lo hi:Option Int) (n:Nat):Builtin.Slice.sliceAdjust lo hi 1 (n:Int)=(((sIx n 0 lo:Nat):Int),((sIx n n hi:Nat):Int)):=by
 have h1:¬ ((1:Int) < 0):=by lia
 unfold Builtin.Slice.sliceAdjust;simp only[h1,xem];refine Prod.ext ?_ ?_
 ·cases lo with
  | none=>rfl
  | some v=>exact zst v n 0
 ·cases hi with
  | none=>rfl
  | some v=>exact zst v n n
theorem zmn (i j:Nat):Builtin.Slice.slicePlaces (i:Int) (j:Int) 1=j - i:=by
 unfold Builtin.Slice.slicePlaces;have h1:(1:Int) > 0:=by lia
 simp only[h1,xfn,Int.ediv_one];split<;>lia
theorem zhg {v:Value} {o:Option Int} {Q:Option Int->Shared->Prop} (p:IsPart v o) (h:Q o s):wpAny (model prog w) A (Builtin.Slice.slicePartIndex v) Q E s:=by
 cases p with
 | none=>exact slicePart_none h
 | int i t=>exact slicePart_int h
theorem zct {sl:Addr} {vl vu:Value} {lo hi:Option Int} {n:Nat} {Q:Int × Int × Nat->Shared->Prop} (hs:s.heap.IsSliceOf sl vl vu .none) (pl:IsPart vl lo) (pu:IsPart vu hi)
  (h:Q (((sIx n 0 lo:Nat):Int),1,sIx n n hi - sIx n 0 lo) s):wpAny (model prog w) A (Builtin.Slice.sliceApplied (.ref sl) (pure (n:Int))) Q E s:=by
 obtain ⟨os,hos,hcs,hds⟩:=id hs;unfold Builtin.Slice.sliceApplied Builtin.Slice.sliceFields;refine xba (xba (xhv hos hds (x:=vl) rfl (xba (xhv hos hds (x:=vu) rfl (xba (xhv hos hds (x:=.none) rfl (xbd ?_)))))));refine xba (slicePart_none ?_);show wpAny _ _ (if ((1:Int) == 0)=true then _ else _) _ _ s;rw[if_neg (by decide)];refine xba (zhg pl (xba (zhg pu (xba (xbd ?_)))));show wpAny _ _ (match Builtin.Slice.sliceAdjust lo hi 1 (n:Int) with | (lo,hi)=>pure (lo,(1:Int),Builtin.Slice.slicePlaces lo hi 1)) _ _ s;rw[zor lo hi n];show wpAny _ _ (pure (((sIx n 0 lo:Nat):Int),(1:Int),Builtin.Slice.slicePlaces ((sIx n 0 lo:Nat):Int) ((sIx n n hi:Nat):Int) 1)) _ _ s;rw[zmn];exact xbd h
theorem zts (xs:Array Value) (i k:Nat):((List.range k).filterMap fun (m:Nat)=>xs[((i:Int)+(m:Int) * 1).toNat]?).toArray=((xs.toList.drop i).take k).toArray:=by
 have e:(fun (m:Nat)=>xs[((i:Int)+(m:Int) * 1).toNat]?)=fun m=>xs[i+m]?:=by
  funext m
  have:((i:Int)+(m:Int) * 1).toNat=i+m:=by lia
  rw[this]
 rw[e];have:=pick_run xs i k;rw[List.filterMap_map] at this;have e2:((fun x=>xs[x]?) ∘ fun x=>i+x)=fun m=>xs[i+m]?:=rfl
 rw[e2] at this;rw[this]
theorem zef {t sl:Addr} {items:Array Value} {vl vu:Value} {lo hi:Option Int} {Q:Value->Shared->Prop} (ht:IsTup s.heap t items) (hs:s.heap.IsSliceOf sl vl vu .none) (pl:IsPart vl lo) (pu:IsPart vu hi)
  (hw:¬ (sIx items.size 0 lo=0/\sIx items.size items.size hi=items.size))
  (h : Q (.ref s.heap.objs.size) { s with heap := s.heap.push { cls := .type "tuple", data := .seq ((items.toList.drop (sIx items.size 0 lo)).take (sIx items.size items.size hi - sIx items.size 0 lo)).toArray } })
  (hsz:items.size<=sizeLine):wpAny (model prog w) A (getItem (.ref t) (.ref sl)) Q E s:=by
 have htake:sizeOk (.seq ((items.toList.drop (sIx items.size 0 lo)).take (sIx items.size items.size hi - sIx items.size 0 lo)).toArray):=by
  show ((items.toList.drop (sIx items.size 0 lo)).take (sIx items.size items.size hi - sIx items.size 0 lo)).toArray.size<=sizeLine;rw[xbm,xco,xek,xbv];lia
 have hj:sIx items.size items.size hi<=items.size:=zbcj _ _ (xbg _) hi;obtain ⟨os,hos,hcs,hds⟩:=id hs;have hTs : s.TypeIs (.ref sl) "slice" := ⟨os, hos, hcs⟩
 unfold getItem
 try with_reducible refine xdx ?_
 first | refine xba (xbd ?_) | skip
 refine xba (wpAny_sequenceKey ht.typeIs (by decide) ?_)
 refine xba (wpAny_callSpecial?_slot (name := Str.ofString "__getitem__") ht.typeIs xgq
  (xfw xgq ht.typeIs entry_tuple_getitem ?_ (args_tuple_getitem _ _)))
 show wpAny _ _ (Builtin.Tuple.tupleItemsOf (.ref t) >>= _) _ _ s;refine xba (tupleItemsOf_ ht ?_);refine xba (wpAny_typeOf hTs ?_);rw[if_pos (by decide)];refine xba (zct hs pl pu ?_);have hno:¬ ((((sIx items.size 0 lo:Nat):Int) == 0 && (1:Int) == 1 && (sIx items.size items.size hi - sIx items.size 0 lo) == items.size)=true):=by
  intro q;rw[xel,xel] at q;have q1:((sIx items.size 0 lo:Nat):Int)=0:=eq_of_beq q.1.1;have q2:sIx items.size items.size hi - sIx items.size 0 lo=items.size:=eq_of_beq q.2;exact hw ⟨by lia,by lia⟩
 show wpAny _ _ (if (((sIx items.size 0 lo:Nat):Int) == 0 && (1:Int) == 1 && (sIx items.size items.size hi - sIx items.size 0 lo) == items.size)=true then _ else _) _ _ s;rw[if_neg hno,zts]
 first
  | exact xba (m:=Builtin.Tuple.tupleExact _) (xeh (xbd ⟨_,rfl,xbd h⟩) htake)
  | exact xba (m:=Builtin.Tuple.tupleExact _) (xeh (xba (xbd (xbd ⟨_,rfl,xbd h⟩))) htake)
  | exact xba (xba (m:=Builtin.Tuple.tupleExact _) (xeh (xbd (xbd ⟨_,rfl,xbd h⟩)) htake))
  | exact xba (xba (m:=Builtin.Tuple.tupleExact _) (xeh (xbd ⟨_,rfl,xbd h⟩) htake))
end
end HT
namespace L2
open PySem PySem.Spec PyProof.Rows
noncomputable abbrev TO:=St->Hp->(Option Int->Hp->Prop)->Prop
noncomputable def PO (X:Cx) (e:Option Expr) (t:TO):Prop :=
 ∀(pins:List (Addr × Obj)) (s:Shared) (σ:St) (H:Hp) (Q:Option Int->Hp->Prop),Inv X pins σ H s->t σ H Q ->
  wpAny (model X.prog X.w) X.A (evalPart e X.env) (fun u s'=>∃o H',Inv X pins σ H' s'/\IsPart u o/\Q o H') X.xe s
noncomputable def tNoPart:TO:=fun _ H Q=>Q none H
noncomputable def tPart (t:TE):TO:=fun σ H Q=>t σ H fun x H1=>∃i,x=.int i/\Q (some i) H1
theorem zdn {ns:List Int}:∀{us:List Value},Vals (ns.map V.int) us->IntsAre us ns:=by
 induction ns with
 | nil=>intro us r;rw[xkk] at r;cases r;exact .nil
 | cons n ns ih =>
  intro us r;rw[xbq] at r;cases r with
  | cons r1 r2 =>
   obtain ⟨t,e⟩:=r1;subst e;exact .cons n t (ih r2)
section
variable {X:Cx} {e:Expr} {te:TE} {lo hi:Option Expr} {tl th:TO} {pos p2:Pos}
theorem zxt:PO X none tNoPart:=by
 intro pins s σ H Q I h;rw[evalPart_none];exact xbd ⟨none,H,I,.none,h⟩
theorem zxs (h:PE X e te):PO X (some e) (tPart te):=by
 intro pins s σ H Q I hw;rw[evalPart_some];refine thn (h pins s σ H _ I hw) fun u s1 hq0=>?_
 obtain ⟨x,H1,I1,r1,q1⟩:=hq0;obtain ⟨i,rfl,q⟩:=q1;obtain ⟨t,rfl⟩:=r1;exact ⟨some i,H1,I1,.int i t,q⟩
noncomputable def SlR (X:Cx) (r:V->Option Int->Option Int->Hp->VK->Prop):Prop :=
 ∀(pins:List (Addr × Obj)) (s:Shared) (σ:St) (H:Hp) (x:V) (v vl vu:Value) (lo hi:Option Int) (sl:Addr) (Q:VK),Inv X pins σ H s->RelV x v->s.heap.IsSliceOf sl vl vu .none->IsPart vl lo->IsPart vu hi->r x lo hi H Q ->
  ∃ T id, typeLookup (.type T) "__getitem__" = pure (some (.builtin id)) /\ s.TypeIs v T /\ wpAny (model X.prog X.w) X.A (getItem v (.ref sl)) (EP X pins σ Q) X.xe s
theorem SlR.or {r r':V->Option Int->Option Int->Hp->VK->Prop} (h:SlR X r) (h':SlR X r'):SlR X (fun x lo hi H Q=>r x lo hi H Q\/r' x lo hi H Q):=by
 intro pins s σ H x v vl vu lo hi sl Q I rx hs pl pu q;rcases q with q | q
 ·exact h pins s σ H x v vl vu lo hi sl Q I rx hs pl pu q
 ·exact h' pins s σ H x v vl vu lo hi sl Q I rx hs pl pu q
noncomputable def tSl (r:V->Option Int->Option Int->Hp->VK->Prop) (te:TE) (tl th:TO):TE:=fun σ H Q=>te σ H fun x H1=>tl σ H1 fun l H2=>th σ H2 fun u H3=>r x l u H3 Q
theorem ztv {r:V->Option Int->Option Int->Hp->VK->Prop} (hr:SlR X r) (he:PE X e te) (hl:PO X lo tl) (hu:PO X hi th):PE X (.Subscript e (.Slice lo hi none p2) pos) (tSl r te tl th):=by
 intro pins s σ H Q I h;refine Subscript_ (thn (he pins s σ H _ I h) fun v s1 hq0=>?_);obtain ⟨x,H1,I1,r1,q1⟩:=hq0;refine wpAny_Slice (thn (hl pins s1 σ H1 _ I1 q1) fun vl s2 ⟨l,H2,I2,pl,q2⟩=>thn (hu pins s2 σ H2 _ I2 q2) fun vu s3 hq0=>?_);obtain ⟨u,H3,I3,pu,q3⟩:=hq0;rw[evalPart_none];refine xbd ?_;have I4 : Inv X pins σ H3 { s3 with heap := s3.heap.push { cls := .type "slice", data := .fields #[vl, vu, .none] } } := I3.kept (t' := s3.toks) fun b ob q => xbc _ q
 obtain ⟨T, id, hT, ht, hg⟩ := hr pins { s3 with heap := s3.heap.push { cls := .type "slice", data := .fields #[vl, vu, .none] } } σ H3 x v vl vu l u s3.heap.objs.size Q I4 r1 (Heap.IsSliceOf.new ..) pl pu q3
 show wpAny (model X.prog X.w) X.A (subscriptTail e (.Slice lo hi none p2) v (.ref s3.heap.objs.size)) (EP X pins σ Q) X.xe { s3 with heap := s3.heap.push { cls := .type "slice", data := .fields #[vl, vu, .none] } }
 exact tail_any (ops:=[.ref s3.heap.objs.size,v]) ht hT hg (by with_unfolding_all rfl)
noncomputable def cutV (xs:List V) (lo hi:Option Int):List V:=(xs.drop (HT.sIx xs.length 0 lo)).take (HT.sIx xs.length xs.length hi - HT.sIx xs.length 0 lo)
theorem zgd (xs:List V) (lo hi:Option Int):(cutV xs lo hi).length<=xs.length:=by
 unfold cutV;rw[xco,xek];lia
noncomputable def rSlT (K:Fg):V->Option Int->Option Int->Hp->VK->Prop:=fun x lo hi H Q=>∃a xs,x=.ref a/\SqT K H a xs /\
 ¬ (HT.sIx xs.length 0 lo=0/\HT.sIx xs.length xs.length hi=xs.length)/\∀p,H p=none->Q (.ref p) (upd H p (.tup (cutV xs lo hi)))
theorem zbcc:SlR X (rSlT X.K):=by
 intro pins s σ H x v vl vu lo hi sl Q I rx hs pl pu h;obtain ⟨a,xs,rfl,hx,hw,q⟩:=h;cases rx;obtain ⟨its,r,ht,hz⟩:=I.tuple hx;have hlen:its.toArray.size=xs.length:=by rw[xbm];exact r.length.symm
 refine ⟨"tuple", _, xgq.lookup, ht.typeIs, ?_⟩
 refine HT.zef ht hs pl pu (by rw[hlen];exact hw) ?_ (by rw[hlen];exact hz);rw[hlen];refine ⟨.ref s.heap.objs.size,_,I.laid (t':=s.toks) (o:=.tup (cutV xs lo hi)) (fun b ob q=>xbc _ q) (xbg _) ?_,rfl,q _ (I.hok.fresh (xbg _))⟩;exact ⟨xbb (zgd xs lo hi) hz,_,(r.drop (HT.sIx xs.length 0 lo)).take (HT.sIx xs.length xs.length hi - HT.sIx xs.length 0 lo),IsTup.new _ _⟩
noncomputable def rLtT (K:Fg):R2:=fun x y H Q=>∃a b ns ms,x=.ref a/\y=.ref b/\SqT K H a (ns.map V.int)/\SqT K H b (ms.map V.int)/\Q (.bl (HT.lexLt ns ms)) H
theorem zbdf (hu:X.A.units < cLine):OpR X (compareOp .Lt) (rLtT X.K):=by
 intro pins s σ H x y v u Q I rx ry h;obtain ⟨a,b,ns,ms,rfl,rfl,ha,hb,q⟩:=h;cases rx;cases ry;obtain ⟨its,r1,p1,_⟩:=I.tuple ha;obtain ⟨its2,r2,p2,_⟩:=I.tuple hb;have i1:IntsAre its.toArray.toList ns:=zdn r1;have i2:IntsAre its2.toArray.toList ms:=zdn r2;exact HT.zhm p1 p2 i1 i2 hu ⟨.bl (HT.lexLt ns ms),H,I,rfl,q⟩
noncomputable def rCatT (K:Fg):R2:=fun x y H Q=>∃a b xs ys,x=.ref a/\y=.ref b/\SqT K H a xs/\SqT K H b ys/\xs≠[]/\xs.length+ys.length<=sizeLine /\
 (ys=[]->Q (.ref a) H)/\(ys≠[]->∀p,H p=none->Q (.ref p) (upd H p (.tup (xs++ys))))
theorem Vals.nil_iff {xs:List V} {us:List Value} (r:Vals xs us):us=[]↔xs=[]:=by
 cases r with
 | nil=>simp
 | cons _ _=>simp
theorem zyk:OpR X (binaryOp .Add) (rCatT X.K):=by
 intro pins s σ H x y v u Q I rx ry h;obtain ⟨a,b,xs,ys,rfl,rfl,ha,hb,hx,hz,q1,q2⟩:=h;cases rx;cases ry;obtain ⟨its,r1,p1,_⟩:=I.tuple ha;obtain ⟨its2,r2,p2,_⟩:=I.tuple hb;refine HT.zbbb p1 p2 (fun z=>hx (r1.nil_iff.mp z)) (fun z=>⟨.ref a,H,I,rfl,q1 (r2.nil_iff.mp z)⟩) (fun z=>?_) (by rw[← r1.length,← r2.length];exact hz);refine ⟨.ref s.heap.objs.size,_,I.laid (t':=s.toks) (o:=.tup (xs++ys)) (fun b ob q=>xbc _ q) (xbg _) ?_,rfl,q2 (fun w=>z (r2.nil_iff.mpr w)) _ (I.hok.fresh (xbg _))⟩;exact ⟨by rw[xcb];exact hz,_,r1.append r2,IsTup.new _ _⟩
end
noncomputable def ixN (n:Nat) (i:Int):Option Nat:=if 0<=i then (if i < n then some i.toNat else none) else if -(n:Int)<=i then some (i+n).toNat else none
noncomputable def atI {α:Type} (xs:List α) (i:Int):Option α:=(ixN xs.length i).bind fun j=>xs[j]?
theorem zsg {n:Nat} {i:Int} {j:Nat} (h:ixN n i=some j):seqIndex? i n=some j/\j < n/\-(n:Int)<=i/\i < n:=by
 unfold ixN at h;by_cases h0:0<=i
 ·rw[if_pos h0] at h;by_cases h1:i < n
  ·rw[if_pos h1] at h;have e:i.toNat=j:=xbw h;exact ⟨by rw[seqIndex_of h0 h1,e],by lia,by lia,h1⟩
  ·rw[if_neg h1] at h;cases h
 ·rw[if_neg h0] at h;by_cases h1:-(n:Int)<=i
  ·rw[if_pos h1] at h;have e:(i+n).toNat=j:=xbw h;exact ⟨by rw[seqIndex_neg (by lia) h1,e],by lia,h1,by lia⟩
  ·rw[if_neg h1] at h;cases h
theorem zop {α:Type} {xs:List α} {i:Int} {v:α} (h:atI xs i=some v):∃j,seqIndex? i xs.length=some j/\xs[j]?=some v/\j < xs.length/\-(xs.length:Int)<=i/\i < xs.length:=by
 unfold atI at h;cases e:ixN xs.length i with
 | none=>rw[e] at h;cases h
 | some j =>
  rw[e] at h;obtain ⟨h1,h2,h3,h4⟩:=zsg e;exact ⟨j,h1,h,h2,h3,h4⟩
theorem zsv {α:Type} {xs:List α} {j:Nat} {v:α} (h:xs[j]?=some v):atI xs (j:Int)=some v:=by
 have hj:j < xs.length:=(xbo.mp h).1;have e:ixN xs.length (j:Int)=some j:=by
  unfold ixN;rw[if_pos (by lia),if_pos (by lia)];simp
 unfold atI;rw[e];exact h
noncomputable def PlainIx (b:Expr):Prop:=∀o i,subscripted b false o i=operate [o,i] (getItem o i)
noncomputable def IxR (X:Cx) (r:R2):Prop :=
 ∀(value slice:Expr) (pins:List (Addr × Obj)) (s:Shared) (σ:St) (H:Hp) (x y:V) (v u:Value) (Q:VK),Inv X pins σ H s->RelV x v->RelV y u->r x y H Q ->
  subscripted slice false v u=operate [v,u] (getItem v u)->wpAny (model X.prog X.w) X.A (subscriptTail value slice v u) (EP X pins σ Q) X.xe s
noncomputable def MtR (X:Cx) (id:String) (r:V->List V->Hp->VK->Prop):Prop :=
 ∀(pins:List (Addr × Obj)) (s:Shared) (σ:St) (H:Hp) (x:V) (xs:List V) (v:Value) (us:List Value) (Q:VK),Inv X pins σ H s->RelV x v->Vals xs us->r x xs H Q ->
  wpAny (model X.prog X.w) X.A (call (.builtin id) (v::us)) (EP X pins σ Q) X.xe s
section
variable {X:Cx} {a b:Expr} {ta tb:TE} {pos:Pos}
theorem IxR.or {r r':R2} (h:IxR X r) (h':IxR X r'):IxR X (fun x y H Q=>r x y H Q\/r' x y H Q):=by
 intro value slice pins s σ H x y v u Q I rx ry q hs;rcases q with q | q
 ·exact h value slice pins s σ H x y v u Q I rx ry q hs
 ·exact h' value slice pins s σ H x y v u Q I rx ry q hs
theorem zbhl {r:R2} (hr:IxR X r) (ha:PE X a ta) (hb:PE X b tb) (hs:PlainIx b):PE X (.Subscript a b pos) (tOp r ta tb):=by
 intro pins s σ H Q I h;exact Subscript_ (binT ha hb I h fun v u s2 x y H2 I2 rx ry q=>hr a b pins s2 σ H2 x y v u Q I2 rx ry q (hs _ _))
noncomputable def rIxL (K:Fg):R2:=fun x y H Q=>∃p xs i v,x=.ref p/\y=.int i/\SqL K H p xs/\atI xs i=some v/\Q v H
noncomputable def rIxT (K:Fg):R2:=fun x y H Q=>∃p xs i v,x=.ref p/\y=.int i/\SqT K H p xs/\atI xs i=some v/\Q v H
noncomputable def rIxS:R2:=fun x y H Q=>∃z i c,x=.str z/\y=.int i/\z.length<=sizeLine/\atI z.cps.toList i=some c/\Q (.str ⟨#[c]⟩) H
theorem zzd:IxR X (rIxL X.K):=by
 intro value slice pins s σ H x y v u Q I rx ry h hs;obtain ⟨p,xs,i,z,rfl,rfl,hq,he,q⟩:=h;cases rx;obtain ⟨t,rfl⟩:=ry;obtain ⟨its,r,pl,hz⟩:=I.list hq;obtain ⟨j,h1,h2,h3,h4,h5⟩:=zop he;obtain ⟨w,ew,rw'⟩:=r.get h2;have hl:=r.length;have hn:=line63;have fin:EP X pins σ Q w s:=⟨z,H,I,rw',q⟩
 by_cases h0:0<=i
 ·have hj:i.toNat=j:=by
   rw[seqIndex_of h0 h5] at h1;exact xbw h1
  exact item_listR pl.isList h0 (by lia) (by rw[hj];simpa using ew) fin hs
 ·have hj:(i+(its.toArray.size:Int)).toNat=j:=by
   rw[seqIndex_neg (by lia) h4] at h1;rw[xbm,← hl];exact xbw h1
  exact subscriptTail_builtinR (x:=w) pl.isList.typeIs slot_list_getitem.lookup
   (wpAny_getItem_list_neg (Q:=fun r s'=>r=w/\EP X pins σ Q r s') pl.isList (by lia) (by rw[xbm]<;>lia) (by lia) (by rw[hj];simpa using ew) ⟨rfl,fin⟩) hs
theorem zbdw:IxR X (rIxT X.K):=by
 intro value slice pins s σ H x y v u Q I rx ry h hs;obtain ⟨p,xs,i,z,rfl,rfl,hq,he,q⟩:=h;cases rx;obtain ⟨t,rfl⟩:=ry;obtain ⟨its,r,pl,hz⟩:=I.tuple hq;obtain ⟨j,h1,h2,h3,h4,h5⟩:=zop he;obtain ⟨w,ew,rw'⟩:=r.get h2;have hl:=r.length;have hn:=line63;have fin:EP X pins σ Q w s:=⟨z,H,I,rw',q⟩
 exact subscriptTail_builtinR (x:=w) pl.typeIs xii.lookup
  (getItem_tuple (j:=j) (Q:=fun r s'=>r=w/\EP X pins σ Q r s') pl (by lia) (by lia) (by rw[xbm,← hl];exact h1) (by simpa using ew) ⟨rfl,fin⟩) hs
theorem zbdx:IxR X rIxS:=by
 intro value slice pins s σ H x y v u Q I rx ry h hs;obtain ⟨z,i,c,rfl,rfl,hz,he,q⟩:=h;obtain ⟨t,rfl⟩:=rx;obtain ⟨t',rfl⟩:=ry;obtain ⟨j,h1,h2,h3,h4,h5⟩:=zop he;have hl:z.cps.toList.length=z.length:=by simp[Str.length]
 rw[hl] at h1 h4 h5;have hn:=line63
 exact tail_any (typeIs_str s z t) slot_str_getitem.lookup (getItem_str (c:=c) (by
  have e1:decide (i < -(2 ^ 63:Int))=false:=xbu (by lia);have e2:decide (i ≥ 2 ^ 63)=false:=xbu (by lia)
  rw[e1,e2,Bool.or_false]) (by rw[h1];simpa using h2) ⟨.str ⟨#[c]⟩,H,I.tok _,⟨_,rfl⟩,q⟩) hs
noncomputable def rIx (K:Fg):R2:=fun x y H Q=>rIxL K x y H Q\/rIxT K x y H Q\/rIxS x y H Q
theorem zbdy:IxR X (rIx X.K):=zzd.or (zbdw.or zbdx)
theorem zne (its : List Value) (n j : Nat) (u : Value) : Obj.mapSeq (·.setIfInBounds j u) { cls := .type "list", data := .seq its.toArray n } = { cls := .type "list", data := .seq (its.set j u).toArray n } := by
 simp[Obj.mapSeq]
theorem Inv.lst {pins:List (Addr × Obj)} {σ:St} {H:Hp} {s:Shared} {p:Addr} {xs:List V} (I:Inv X pins σ H s) (h:H p=some (.lst xs)) :
  ∃ (its : List Value) (n : Nat), Vals xs its /\ s.heap.get? p = some { cls := .type "list", data := .seq its.toArray n } /\ xs.length <= sizeLine := by
 obtain ⟨z,its,n,r,e⟩:=I.hok p _ h;exact ⟨its,n,r,e,z⟩
theorem Inv.lstUpd {pins:List (Addr × Obj)} {σ:St} {H:Hp} {s:Shared} {p:Addr} {xs ys:List V} {its its':List Value} {n n':Nat} {f:Obj->Obj} (I:Inv X pins σ H s) (h:H p=some (.lst xs))
  (ho : s.heap.get? p = some { cls := .type "list", data := .seq its.toArray n }) (hf : f { cls := .type "list", data := .seq its.toArray n } = { cls := .type "list", data := .seq its'.toArray n' }) (r : Vals ys its') (hz : ys.length <= sizeLine) (t : Nat) :
  Inv X pins σ (upd H p (.lst ys)) {s with heap:=s.heap.update p f,toks:=t}:=by
 have e : (s.heap.update p f).get? p = some { cls := .type "list", data := .seq its'.toArray n' } := by
  rw[xfd f ho (by rw[hf]<;>rfl),hf]
 refine I.write (x:=p) (e:=p) (by rw[h];trivial) (.inl rfl) (fun b u hb q=>(xdc _ _ (xeb hb)).trans q) ⟨_,e⟩ ?_;exact ⟨hz,its',n',r,e⟩
noncomputable def rSetL:V->V->V->Hp->(Hp->Prop)->Prop:=fun o i v H Q=>∃p xs k j,o=.ref p/\i=.int k/\H p=some (.lst xs)/\ixN xs.length k=some j/\Q (upd H p (.lst (xs.set j v)))
theorem ztd:PSet X rSetL:=by
 intro pins s σ H o i v ov iv u Q I ro ri rv h;obtain ⟨p,xs,k,j,rfl,rfl,hp,hj,q⟩:=h;cases ro;obtain ⟨t,rfl⟩:=ri;obtain ⟨its,n,r,ho,hz⟩:=I.lst hp;obtain ⟨h1,h2,h3,h4⟩:=zsg hj;have hl:=r.length;have hn:=line63;have I':Inv X pins σ (upd H p (.lst (xs.set j v))) {s with heap:=s.heap.update p (Obj.mapSeq (·.setIfInBounds j u))} :=
  I.lstUpd hp ho (zne its n j u) (r.set rv j) (by rw[xfh];exact hz) s.toks
 by_cases h0:0<=k
 ·have hk:k.toNat=j:=by
   rw[seqIndex_of h0 h4] at h1;exact xbw h1
  exact PySem.W.ki_setAt ho h0 (by lia) (by rw[xbm,← hl];exact h4) (by rw[hk];exact ⟨_,I',q⟩)
 ·have hk:(k+(its.toArray.size:Int)).toNat=j:=by
   rw[seqIndex_neg (by lia) h3] at h1;rw[xbm,← hl];exact xbw h1
  exact PySem.W.ki_setBack ho (by lia) (by rw[xbm,← hl];exact h3) (by lia) (by rw[hk];exact ⟨_,I',q⟩)
theorem zim (lo hi:Option Int) (n:Nat):(sliceBounds lo hi none n).1=((HT.sIx n 0 lo:Nat):Int)/\(sliceBounds lo hi none n).2.1=((HT.sIx n n hi:Nat):Int)/\(sliceBounds lo hi none n).2.2=1:=by
 refine ⟨?_,?_,rfl⟩
 ·cases lo with
  | none=>simp[sliceBounds,HT.sIx]
  | some i =>
   simp only[sliceBounds,HT.sIx,Option.getD_none,show (1:Int) > 0 by decide,xfn];by_cases h:i < 0
   ·simp only[h,xfn]<;>lia
   ·simp only[h,xem]<;>lia
 ·cases hi with
  | none=>simp[sliceBounds,HT.sIx]
  | some i =>
   simp only[sliceBounds,HT.sIx,Option.getD_none,show (1:Int) > 0 by decide,xfn];by_cases h:i < 0
   ·simp only[h,xfn]<;>lia
   ·simp only[h,xem]<;>lia
theorem zhf (its:List Value) (lo hi:Option Int):slicePick its.toArray lo hi none=((its.drop (HT.sIx its.length 0 lo)).take (HT.sIx its.length its.length hi - HT.sIx its.length 0 lo)).toArray:=by
 obtain ⟨h1,h2,h3⟩:=zim lo hi its.toArray.size;unfold slicePick;rw[h1,h2,h3];simp only[sliceRange_one,pick_run,xbm]<;>rfl
noncomputable def rSlL (K:Fg):V->Option Int->Option Int->Hp->VK->Prop:=fun x lo hi H Q=>∃a xs,x=.ref a/\SqL K H a xs/\∀p,H p=none->Q (.ref p) (upd H p (.lst (cutV xs lo hi)))
theorem zxh:SlR X (rSlL X.K):=by
 intro pins s σ H x v vl vu lo hi sl Q I rx hs pl pu h;obtain ⟨a,xs,rfl,hx,q⟩:=h;cases rx;obtain ⟨its,r,ht,hz⟩:=I.list hx;have hlen:=r.length;refine ⟨"list", _, slot_list_getitem.lookup, ht.isList.typeIs, ?_⟩
 refine wpAny_getItem_list_slice ht.isList hs pl pu .none (by simp) ?_ (by rw[xbm]<;>lia);rw[zhf,← hlen];refine ⟨.ref s.heap.objs.size,_,I.laid (t':=s.toks) (o:=.lst (cutV xs lo hi)) (fun b ob q=>xbc _ q) (xbg _) ?_,rfl,q _ (I.hok.fresh (xbg _))⟩;exact ⟨xbb (zgd xs lo hi) hz,_,0,(r.drop (HT.sIx xs.length 0 lo)).take (HT.sIx xs.length xs.length hi - HT.sIx xs.length 0 lo),xbz _ rfl⟩
theorem zba : CallR X (.builtin "len") (fun xs H Q => ∃ p ys, xs = [.ref p] /\ (SqL X.K H p ys \/ SqT X.K H p ys) /\ Q (.int ys.length) H) := by
 intro pins s σ H xs us Q I r h;obtain ⟨p,ys,rfl,hq,q⟩:=h;obtain ⟨u,rfl,rx⟩:=vals1 r;cases rx;have hn:=line63;rcases hq with hq | hq
 ·obtain ⟨its,r',pl,hz⟩:=I.list hq;have hlen:=r'.length;exact Calls.call_len_list pl.isList (by simp only[xbm]<;>lia) ⟨.int ys.length,H,I.tok _,⟨s.toks+1,by rw[xbm,hlen]⟩,q⟩
 ·obtain ⟨its,r',pl,hz⟩:=I.tuple hq;have hlen:=r'.length;exact len_tuple pl (by simp only[xbm]<;>lia) ⟨.int ys.length,H,I.tok _,⟨s.toks+1,by rw[xbm,hlen]⟩,q⟩
theorem CallR.or {f:Value} {r r':List V->Hp->VK->Prop} (h:CallR X f r) (h':CallR X f r'):CallR X f (fun xs H Q=>r xs H Q\/r' xs H Q):=by
 intro pins s σ H xs us Q I rs q;rcases q with q | q
 ·exact h pins s σ H xs us Q I rs q
 ·exact h' pins s σ H xs us Q I rs q
theorem zji : CallR X (.type "list") (fun xs H Q => ∃ p ys, xs = [.ref p] /\ (SqL X.K H p ys \/ SqT X.K H p ys) /\ ∀ l, H l = none -> Q (.ref l) (upd H l (.lst ys))) := by
 intro pins s σ H xs us Q I r h;obtain ⟨p,ys,rfl,hq,q⟩:=h;obtain ⟨u,rfl,rx⟩:=vals1 r;cases rx;have fin:∀(its:List Value),Vals ys its->ys.length<=sizeLine->∀(h':Heap) (c':Nat),(∀b o',s.heap.get? b=some o'->h'.get? b=some o') ->
   h'.get? s.heap.objs.size = some { cls := .type "list", dict := none, data := .seq its.toArray c', slots := #[] } -> EP X pins σ Q (.ref s.heap.objs.size) { s with heap := h' } := fun its r' hz h' c' kp e =>
  ⟨.ref s.heap.objs.size,_,I.laid (t':=s.toks) kp (xbg _) (show ObjOk X.prog X.w _ h' _ (.lst ys) from ⟨hz,its,c',r',e⟩),rfl,q _ (I.hok.fresh (xbg _))⟩
 rcases hq with hq | hq
 ·obtain ⟨its,r',pl,hz⟩:=I.list hq;have hlen:=r'.length;obtain ⟨o,ho,hc,n,hd⟩:=pl.isList;exact call_list_seq p (.inl rfl) ho hc hd (fun h' c' kp e=>fin its r' hz h' c' kp e) (by simp only[xbm]<;>lia)
 ·obtain ⟨its,r',pl,hz⟩:=I.tuple hq;have hlen:=r'.length;obtain ⟨o,ho,hc,n,hd⟩:=pl;exact call_list_seq p (.inr rfl) ho hc hd (fun h' c' kp e=>fin its r' hz h' c' kp e) (by simp only[xbm]<;>lia)
theorem zec : CallR X (.type "tuple") (fun xs H Q => ∃ p ys, xs = [.ref p] /\ ((SqL X.K H p ys /\ ∀ l, H l = none -> Q (.ref l) (upd H l (.tup ys))) \/ (SqT X.K H p ys /\ Q (.ref p) H))) := by
 intro pins s σ H xs us Q I r h;obtain ⟨p,ys,rfl,h⟩:=h;obtain ⟨u,rfl,rx⟩:=vals1 r;cases rx;rcases h with ⟨hq,q⟩ | ⟨hq,q⟩
 ·obtain ⟨its,r',pl,hz⟩:=I.list hq;have hlen:=r'.length;refine call_tuple_list pl.isList (fun h' kp=>?_) (by simp only[xbm]<;>lia);have I1:Inv X pins σ H {s with heap:=h'}:=I.kept (t':=s.toks) kp;have I2 : Inv X pins σ (upd H h'.objs.size (.tup ys)) { s with heap := h'.push { cls := .type "tuple", data := .seq its.toArray } } :=
   I1.laid (t':=s.toks) (fun b o e=>xbc _ e) (xbg _) (show ObjOk X.prog X.w _ _ _ (.tup ys) from ⟨hz,its,r',IsTup.new _ _⟩)
  exact ⟨.ref h'.objs.size,_,I2,rfl,q _ (I1.hok.fresh (xbg _))⟩
 ·obtain ⟨its,r',pl,hz⟩:=I.tuple hq;exact call_tuple_same pl ⟨.ref p,H,I,rfl,q⟩
noncomputable def tyV (K:Fg) (T:String) (x:V) (H:Hp):Prop:=match x with
 | .str _ => T = "str"
 | .int _ => T = "int"
 | .ref p => (T = "list" /\ ∃ xs, SqL K H p xs) \/ (T = "tuple" /\ ∃ o, K.lookup p = some o /\ o.cls = .type "tuple" /\ o.dict = none) \/
  (T = "dict" /\ ((∃ kvs, H p = some (.dK kvs)) \/ ∃ kvs, H p = some (.dT kvs))) \/ (T = "set" /\ ∃ S n, H p = some (.set S n))
 | _=>False
theorem zxa {pins:List (Addr × Obj)} {σ:St} {H:Hp} {s:Shared} {T:String} {x:V} {v:Value} (I:Inv X pins σ H s) (r:RelV x v) (ty:tyV X.K T x H) :
  s.TypeIs v T/\∀a,v=.ref a->∃ob,s.heap.get? a=some ob/\ob.dict=none:=by
 cases x with
 | str z =>
  obtain ⟨t,rfl⟩:=r;cases (show T = "str" from ty)
  exact ⟨typeIs_str s z t,fun _ e=>nomatch e⟩
 | int i =>
  obtain ⟨t,rfl⟩:=r;cases (show T = "int" from ty)
  exact ⟨typeIs_int s i t,fun _ e=>nomatch e⟩
 | ref p =>
  cases r;rcases ty with ⟨rfl,xs,hq⟩ | ⟨rfl,o,hk,hc,hd⟩ | ⟨rfl,hk⟩ | ⟨rfl,S,n,hk⟩
  ·obtain ⟨its,_,pl,_⟩:=I.list hq;refine ⟨pl.isList.typeIs,fun a e=>?_⟩;cases e;obtain ⟨o,n,e,c,hd,_⟩:=pl;exact ⟨o,e,hd⟩
  ·refine ⟨⟨o,I.kIn p o hk,hc⟩,fun a e=>?_⟩;cases e;exact ⟨o,I.kIn _ o hk,hd⟩
  ·have z:∃o,s.heap.get? p=some o/\o.ExactDict:=by
    rcases hk with ⟨kvs,hk⟩ | ⟨kvs,hk⟩
    ·obtain ⟨_,_,_,_,o,_,_,e,ex,_⟩:=I.hok p _ hk;exact ⟨o,e,ex⟩
    ·obtain ⟨_,_,_,_,o,_,_,e,ex,_⟩:=I.hok p _ hk;exact ⟨o,e,ex⟩
   obtain ⟨o,e,ex⟩:=z;refine ⟨⟨o,e,ex.1⟩,fun a e2=>?_⟩;cases e2;exact ⟨o,e,ex.2.1⟩
  ·obtain ⟨o,_,_,_,e,ex,_⟩:=I.hok p _ hk;refine ⟨⟨o,e,ex.1⟩,fun a e2=>?_⟩;cases e2;exact ⟨o,e,ex.2.1⟩
 | _=>exact False.elim ty
noncomputable def tBM0 (K:Fg) (T:String) (r:V->List V->Hp->VK->Prop) (to:TE):TE:=fun σ H Q=>to σ H fun x H1=>tyV K T x H1/\r x [] H1 Q
noncomputable def tBM (K:Fg) (T:String) (r:V->List V->Hp->VK->Prop) (to:TE) (t:TA):TE:=fun σ H Q=>to σ H fun x H1=>tyV K T x H1/\t σ H1 fun xs H2=>r x xs H2 Q
variable {o e:Expr} {es:List Expr} {to:TE} {t:TA} {name:Str} {apos cpos:Pos} {T id:String} {r:V->List V->Hp->VK->Prop}
theorem zbda (pa : PlainAttrs T) (slot : Slot T name id) (hty : typeOf (.builtin id) = pure (.type "method_descriptor")) (hm : MtR X id r) (ho : PE X o to)
  (hbase:attributeBase o name X.env (eval o X.env)=eval o X.env:=by rfl) (hline:(apos.endLine == cpos.line)=true:=by rfl):PE X (.Call (.Attribute o name apos) [] [] cpos) (tBM0 X.K T r to):=by
 intro pins s σ H Q I h;refine wpAny_Call_method0_late hbase hline (thn (ho pins s σ H _ I h) fun v s1 hq0=>?_);obtain ⟨x,H1,I1,r1,ty,q1⟩:=hq0;obtain ⟨h1,h2⟩:=zxa I1 r1 ty;exact ⟨T,id,pa,slot,hty,h1,h2,xhe rfl (PySem.evalArgs_none (hm pins s1 σ H1 x [] v [] Q I1 r1 .nil q1))⟩
theorem zbhm (pa : PlainAttrs T) (slot : Slot T name id) (hty : typeOf (.builtin id) = pure (.type "method_descriptor")) (hm : MtR X id r) (ho : PE X o to) (ha : PA X (e :: es) t)
  (hbase:attributeBase o name X.env (eval o X.env)=eval o X.env:=by rfl)
  (hfew:((backTo cpos (starEach (e::es) X.env)).all (fun x=>!x.1) && (backToKw cpos (keywordEach [] X.env)).all (fun x=>x.1.isSome)
   && decide ((e::es).length+([]:List Keyword).length+(if ([]:List Keyword).isEmpty then 0 else 1) < 30))=true:=by rfl)
  (hline:(apos.endLine == cpos.line)=true:=by rfl) (hs:starEach (e::es) X.env=(false,eval e X.env)::starEach es X.env:=by rfl) (hplain:(backTo cpos (starEach es X.env)).any (·.1)=false:=by rfl) :
  PE X (.Call (.Attribute o name apos) (e::es) [] cpos) (tBM X.K T r to t):=by
 intro pins s σ H Q I h;refine wpAny_Call_method_late hbase hfew hline rfl (thn (ho pins s σ H _ I h) fun v s1 hq0=>?_);obtain ⟨x,H1,I1,r1,ty,q1⟩:=hq0;obtain ⟨h1,h2⟩:=zxa I1 r1 ty;refine ⟨T,id,pa,slot,hty,h1,h2,?_⟩;have hA:=ha cpos pins s1 σ H1 _ I1 q1;rw[hs] at hA ⊢;refine xhe (by show (false || (backTo cpos (starEach es X.env)).any (·.1))=false;rw[hplain]<;>rfl) (xjj ?_);exact thn hA fun us s2 ⟨vs,H2,I2,r2,q2⟩=>hm pins s2 σ H2 x vs v us Q I2 r1 r2 q2
/- xs.append(e),list.index on a module's tuple .. are MtR facts of 06m -/
end
noncomputable def MtM (X:Cx) (id:String) (r:V->List V->Hp->VK->Prop):Prop :=
 ∀(pins:List (Addr × Obj)) (s:Shared) (σ:St) (H:Hp) (x:V) (xs:List V) (v:Value) (us:List Value) (Q:VK),Inv X pins σ H s->RelV x v->Vals xs us->r x xs H Q ->
  wpAny (model X.prog X.w) X.A (call (.builtin id) (v::us)) (EP X pins σ Q) X.xe s
theorem Vals.one:∀{x:V} {us:List Value},Vals [x] us->∃u,us=[u]/\RelV x u
 | _,_,.cons r .nil=>⟨_,rfl,r⟩
theorem Vals.zero:∀{us:List Value},Vals [] us->us=[]
 | _,.nil=>rfl
section
variable {X:Cx} {pins:List (Addr × Obj)} {σ:St} {H:Hp} {s:Shared} {l b:Addr} {xs ys zs:List V}
theorem Inv.lset {its its':List Value} {n:Nat} {f:Array Value->Array Value} {t':Nat} (I:Inv X pins σ H s) (hH:H l=some (.lst xs))
  (e : s.heap.get? l = some { cls := .type "list", data := .seq its.toArray n }) (hf : f its.toArray = its'.toArray) (hv : Vals ys its') (hz : ys.length <= sizeLine) :
  Inv X pins σ (upd H l (.lst ys)) {s with heap:=s.heap.update l (Obj.mapSeq f),toks:=t'}:=by
 have q:=PySem.IsL.update e f;rw[hf] at q;refine I.write (x:=l) (e:=l) (by rw[hH];exact trivial) (.inl rfl) (fun b' u hb hu=>(xdc s.heap (Obj.mapSeq f) (xeb hb)).trans hu) ⟨_,q⟩ ?_;exact ⟨hz,its',_,hv,q⟩
theorem Inv.lnew {its:List Value} {t':Nat} (I:Inv X pins σ H s) (hv:Vals ys its) (hz:ys.length<=sizeLine) :
  Inv X pins σ (upd H s.heap.objs.size (.lst ys)) { s with heap := s.heap.push { cls := .type "list", data := .seq its.toArray }, toks := t' } :=
 I.laid (fun _ _ q=>xbc _ q) (xbg _) ⟨hz,its,0,hv,xbz _ rfl⟩
theorem Inv.fresh (I:Inv X pins σ H s):H s.heap.objs.size=none:=I.hok.fresh (xbg _)
theorem Inv.lstM (I : Inv X pins σ H s) (hH : H l = some (.lst xs)) : xs.length <= sizeLine /\ ∃ (its : List Value) (n : Nat), Vals xs its /\ xs.length = its.length /\ s.heap.get? l = some { cls := .type "list", data := .seq its.toArray n } := by
 obtain ⟨z,its,n,r,e⟩:=I.hok l _ hH;exact ⟨z,its,n,r,r.length,e⟩
end
section
variable {X:Cx}
noncomputable def rAppend:V->List V->Hp->VK->Prop:=fun x vs H Q=>∃l xs y,x=.ref l/\vs=[y]/\H l=some (.lst xs)/\xs.length < sizeLine/\Q .non (upd H l (.lst (xs++[y])))
theorem zjx : MtM X "list.append" rAppend := by
 intro pins s σ H x vs v us Q I rx rv h;obtain ⟨l,xs,y,rfl,rfl,hH,hz,q⟩:=h;cases rx;obtain ⟨u,rfl,ru⟩:=rv.one;obtain ⟨z,its,n,r,hl,e⟩:=I.lstM hH;refine xik F.slot_list_append ⟨_,e,rfl⟩ F.entry_list_append (F.args_list_append_2 _ _) (PySem.list_append l its.toArray n u (by rw[xbm];lia)) ⟨e,?_⟩;refine ⟨.non,_,I.lset (its':=its++[u]) hH e (by simp) (r.append (.cons ru .nil)) ?_,rfl,q⟩;rw[xcb,List.length_singleton];lia
noncomputable def rClear:V->List V->Hp->VK->Prop:=fun x vs H Q=>∃l xs,x=.ref l/\vs=[]/\H l=some (.lst xs)/\Q .non (upd H l (.lst []))
theorem zuk : MtM X "list.clear" rClear := by
 intro pins s σ H x vs v us Q I rx rv h;obtain ⟨l,xs,rfl,rfl,hH,q⟩:=h;cases rx;have hus:=rv.zero;subst hus;obtain ⟨z,its,n,r,hl,e⟩:=I.lstM hH;refine xik F.slot_list_clear ⟨_,e,rfl⟩ F.entry_list_clear (F.args_list_clear_1 _) (AutoSeq1.list_clear_list_0 l its.toArray n (by rw[xbm];lia)) ⟨e,?_⟩;exact ⟨.non,_,I.lset (its':=[]) (ys:=[]) hH e rfl .nil (xcu _),rfl,q⟩
noncomputable def rCat:R2:=fun x y H Q=>∃l b xs zs,x=.ref l/\y=.ref b/\H l=some (.lst xs)/\H b=some (.lst zs)/\xs.length+zs.length<=sizeLine/\∀p,H p=none->Q (.ref p) (upd H p (.lst (xs++zs)))
theorem zbdi:OpR X (binaryOp .Add) rCat:=by
 intro pins s σ H x y v u Q I rx ry h;obtain ⟨l,b,xs,zs,rfl,rfl,hH,hB,hz,q⟩:=h;cases rx;cases ry;obtain ⟨z,its,n,r,hl,e⟩:=I.lstM hH;obtain ⟨z2,its2,n2,r2,hl2,e2⟩:=I.lstM hB;refine PySem.P.add_list e e2 ?_ (by rw[xbm,xbm];lia);have ea:its.toArray++its2.toArray=(its++its2).toArray:=by simp
 rw[ea];exact ⟨.ref _,_,I.lnew (t':=s.toks) (r.append r2) (by rw[xcb];lia),rfl,q _ I.fresh⟩
end
section
variable {prog:Program} {w:World} {A:Around} {E:Value->Shared->Prop} {s:Shared}
end
section
variable {X:Cx}
end
section
variable {κ:Type} [DecidableEq κ]
noncomputable def valV (kvs:List (κ × V)) (k:κ):Option V:=(kvs.find? fun kv=>decide (kv.1=k)).map (·.2)
noncomputable def putK (kvs:List (κ × V)) (k:κ) (v:V):List (κ × V) :=
 if (kvs.any fun kv=>decide (kv.1=k))=true then kvs.map (fun kv=>if kv.1=k then (kv.1,v) else kv) else kvs++[(k,v)]
noncomputable def dropK (kvs:List (κ × V)) (k:κ):List (κ × V):=kvs.filter fun kv=>decide (kv.1≠k)
theorem zgf {p:κ × V} {r:List (κ × V)} {k:κ} (e:p.1=k):valV (p::r) k=some p.2:=by simp[valV,xei,e]
theorem zgg {p:κ × V} {r:List (κ × V)} {k:κ} (e:¬ p.1=k):valV (p::r) k=valV r k:=by simp[valV,xei,e]
theorem zlu (k:κ):∀kvs:List (κ × V),(kvs.any fun kv=>decide (kv.1=k))=(valV kvs k).isSome
 | []=>rfl
 | p::r=>by
  rw[xix];by_cases e:p.1=k
  ·simp only[zgf e,xcj e,Bool.true_or,Option.isSome_some]
  ·rw[zgg e,xbu e,Bool.false_or];exact zlu k r
theorem zfy (kvs:List (κ × V)) (k:κ) (v:V):(putK kvs k v).length<=kvs.length+1:=by
 unfold putK;split
 ·rw[xbf];lia
 ·rw[xcb,xby,xgx];lia
theorem RelO.isSome_eq {o:Option V} {u:Option Value} (r:RelO o u):o.isSome=u.isSome:=by
 cases o with
 | none=>cases u with
  | none=>rfl
  | some _=>exact (show False from r).elim
 | some _=>cases u with
  | none=>exact (show False from r).elim
  | some _=>rfl
theorem RelO.getD {o:Option V} {u:Option Value} {d:V} {d':Value} (r:RelO o u) (rd:RelV d d'):RelV (o.getD d) (u.getD d'):=by
 cases o with
 | none=>cases u with
  | none=>exact rd
  | some _=>exact (show False from r).elim
 | some _=>cases u with
  | none=>exact (show False from r).elim
  | some _=>exact r
theorem KV.val {kvs:List (κ × V)} {vs:List (κ × Value)} (r:KV kvs vs) (k:κ):RelO (valV kvs k) (valueAt vs k):=by
 unfold KV at r
 induction r with
 | nil=>exact True.intro
 | @cons p q ps qs h t ih =>
  obtain ⟨h1,h2⟩:=h;by_cases e:p.1=k
  ·have e':q.1=k:=h1.symm.trans e;have b:valueAt (q::qs) k=some q.2:=by simp[valueAt,xei,e']
   rw[zgf e,b];exact h2
  ·have e':¬ q.1=k:=fun z=>e (h1.trans z)
   have b:valueAt (q::qs) k=valueAt qs k:=by simp[valueAt,xei,e']
   rw[zgg e,b];exact ih
theorem KV.any {kvs:List (κ × V)} {vs:List (κ × Value)} (r:KV kvs vs) (k:κ):(kvs.any fun kv=>decide (kv.1=k))=vs.any fun kv=>decide (kv.1=k):=by
 unfold KV at r
 induction r with
 | nil=>rfl
 | cons h t ih=>rw[xix,xix,ih,h.1]
theorem KV.repl {kvs:List (κ × V)} {vs:List (κ × Value)} (r:KV kvs vs) (k:κ) {y:V} {u:Value} (ry:RelV y u) :
  KV (kvs.map fun kv=>if kv.1=k then (kv.1,y) else kv) (vs.map fun kv=>if kv.1=k then (kv.1,u) else kv):=by
 unfold KV at r ⊢
 induction r with
 | nil=>exact .nil
 | @cons p q ps qs h t ih =>
  rw[xbq,xbq];refine .cons ?_ ih;obtain ⟨h1,h2⟩:=h;by_cases e:p.1=k
  ·rw[if_pos e,if_pos (h1.symm.trans e)];exact ⟨h1,ry⟩
  ·rw[if_neg e,if_neg (fun z=>e (h1.trans z))];exact ⟨h1,h2⟩
theorem KV.put {kvs:List (κ × V)} {vs:List (κ × Value)} (r:KV kvs vs) (k:κ) {y:V} {u:Value} (ry:RelV y u):KV (putK kvs k y) (stored vs k u):=by
 unfold putK stored;rw[r.any k];by_cases e:(vs.any fun kv=>decide (kv.1=k))=true
 ·rw[if_pos e,if_pos e];exact r.repl k ry
 ·rw[if_neg e,if_neg e];exact Paired.snoc r ⟨rfl,ry⟩
theorem KV.length {kvs:List (κ × V)} {vs:List (κ × Value)} (r:KV kvs vs):kvs.length=vs.length:=xht r
end
theorem zzb {P:Program} {w:World} {k:Key} {u:Value} (r:RelV (kV k) u):(mixKind P w).is k u=true:=by
 cases k with
 | inl i=>obtain ⟨t,e⟩:=(show ∃t,u=Value.int i t from r);subst e;exact zli P w i t
 | inr x=>obtain ⟨t,e⟩:=(show ∃t,u=Value.str x t from r);subst e;exact zlh P w x t
theorem zjz {P:Program} {w:World}:∀{ks:List Key} {us:List Value},Vals (ks.map kV) us->ItemsAre (mixKind P w) ks us
 | [],_,r=>by rw[xkk] at r;cases r;exact .nil
 | k::ks,_,r=>by
  rw[xbq] at r;cases r with
  | cons h t=>exact .cons (zzb h) (zjz t)
noncomputable abbrev KT (H:Hp):List (List Key × V)->List (List Key × Addr × Value)->Prop:=Paired fun p q=>p.1=q.1/\H q.2.1=some (.tup (p.1.map kV))/\RelV p.2 q.2.2
theorem KT.val {H:Hp} {kvs:List (List Key × V)} {xs:List (List Key × Addr × Value)} (r:KT H kvs xs) (k:List Key):RelO (valV kvs k) ((atKey xs k).map (·.2)):=by
 induction r with
 | nil=>exact True.intro
 | @cons p q ps qs h t ih =>
  obtain ⟨h1,_,h2⟩:=h;by_cases e:p.1=k
  ·have e':q.1=k:=h1.symm.trans e;have b:atKey (q::qs) k=some q.2:=by simp[atKey,xei,e']
   rw[zgf e,b];exact h2
  ·have e':¬ q.1=k:=fun z=>e (h1.trans z)
   have b:atKey (q::qs) k=atKey qs k:=by simp[atKey,xei,e']
   rw[zgg e,b];exact ih
theorem KT.repl {H:Hp} {kvs:List (List Key × V)} {xs:List (List Key × Addr × Value)} (r:KT H kvs xs) (k:List Key) {y:V} {u:Value} (ry:RelV y u) :
  KT H (kvs.map fun kv=>if kv.1=k then (kv.1,y) else kv) (xs.map (putAt k u)):=by
 induction r with
 | nil=>exact .nil
 | @cons p q ps qs h t ih =>
  rw[xbq,xbq];refine .cons ?_ ih;obtain ⟨h1,h2,h3⟩:=h;unfold putAt;by_cases e:p.1=k
  ·rw[if_pos e,if_pos (h1.symm.trans e)];exact ⟨h1,h2,ry⟩
  ·rw[if_neg e,if_neg (fun z=>e (h1.trans z))];exact ⟨h1,h2,h3⟩
theorem KT.put {H:Hp} {kvs:List (List Key × V)} {xs:List (List Key × Addr × Value)} (r:KT H kvs xs) (k:List Key) {b:Addr} {y:V} {u:Value} (hb:H b=some (.tup (k.map kV))) (ry:RelV y u) :
  KT H (putK kvs k y) (storedH xs k b u):=by
 have e:(kvs.any fun kv=>decide (kv.1=k))=(atKey xs k).isSome:=by
  rw[zlu,(r.val k).isSome_eq,Option.isSome_map]
 unfold putK storedH;rw[e];by_cases q:(atKey xs k).isSome=true
 ·rw[if_pos q,if_pos q];exact r.repl k ry
 ·rw[if_neg q,if_neg q];exact Paired.snoc r ⟨rfl,hb,ry⟩
theorem KT.keeps {H H':Hp} {kvs:List (List Key × V)} {xs:List (List Key × Addr × Value)} (r:KT H kvs xs) (ht:∀b ys,H b=some (.tup ys)->H' b=some (.tup ys)):KT H' kvs xs :=
 Paired.mapP r fun _ _ z=>⟨z.1,ht _ _ z.2.1,z.2.2⟩
section
variable {P:Program} {w:World} {H:Hp} {h:Heap} {a:Addr}
theorem zbgh {u:HO} (ok:HOk P w H h) (e:Rd H a u):ObjOk P w H h a u:=e.ok ok
theorem zwl {kvs:List (Key × V)} (ok:HOk P w H h) (e:Rd H a (.dK kvs)):kvs.length<=sizeLine/\(a == sysModules)=false/\∃vs,KV kvs vs/\h.DictOf (mixKind P w) a vs :=
 show ObjOk P w H h a (.dK kvs) from zbgh ok e
theorem zbih {kvs:List (Key × V)} (ok:HOk P w H h) (e:H a=some (.dK kvs)):kvs.length<=sizeLine/\(a == sysModules)=false/\∃vs,KV kvs vs/\h.DictOf (mixKind P w) a vs:=zwl ok (.inl e)
theorem zlj {ks:List Key} (ok:HOk P w H h) (e:H a=some (.tup (ks.map kV))):(tupleKind (mixKind P w)).is h ks a:=by
 obtain ⟨_,its,r,o,h1,h2,n,h3⟩:=(show ObjOk P w H h a (.tup (ks.map kV)) from ok a _ e)
 exact ⟨o,its.toArray,n,h1,h2,h3,by simpa using zjz r⟩
theorem zwk {kvs:List (List Key × V)} (ok:HOk P w H h) (e:Rd H a (.dT kvs)):kvs.length<=sizeLine/\(a == sysModules)=false /\
  ∃xs,KT H kvs xs/\h.DictOfH (tupleKind (mixKind P w)) a xs:=by
 obtain ⟨z,y,xs,r,o,es,ep,h1,h2,h3,h4,h5⟩:=(show ObjOk P w H h a (.dT kvs) from zbgh ok e)
 refine ⟨z,y,xs,r,o,es,ep,h1,h2,h3,h4,fun x hx=>?_,h5⟩;have all:∀{l:List (List Key × V)} {m:List (List Key × Addr × Value)},KT H l m->∀x∈m,(tupleKind (mixKind P w)).is h x.1 x.2.1:=by
  intro l m q
  induction q with
  | nil=>intro x hx;exact nomatch hx
  | @cons p q ps qs hq t ih =>
   intro x hx;rcases xbn.mp hx with e | hx
   ·subst e;exact zlj ok (by rw[← hq.1];exact hq.2.1)
   ·exact ih x hx
 exact all r x hx
theorem zbgx {kvs:List (List Key × V)} (ok:HOk P w H h) (e:H a=some (.dT kvs)):kvs.length<=sizeLine/\(a == sysModules)=false /\
 ∃xs,KT H kvs xs/\h.DictOfH (tupleKind (mixKind P w)) a xs:=zwk ok (.inl e)
end
noncomputable def DGet (H:Hp) (a:Addr) (y:V) (r:Option V):Prop :=
 (∃kvs k,Rd H a (.dK kvs)/\y=kV k/\r=valV kvs k)\/∃kvs k b,Rd H a (.dT kvs)/\y=.ref b/\H b=some (.tup (k.map kV))/\r=valV kvs k
noncomputable def DPut (H:Hp) (a:Addr) (y v:V) (H':Hp):Prop :=
 (∃kvs k,H a=some (.dK kvs)/\y=kV k/\kvs.length < sizeLine/\H'=upd H a (.dK (putK kvs k v))) \/
 ∃kvs k b,H a=some (.dT kvs)/\y=.ref b/\H b=some (.tup (k.map kV))/\kvs.length < sizeLine/\H'=upd H a (.dT (putK kvs k v))
theorem DPut.t {H:Hp} {a b:Addr} {kvs:List (List Key × V)} {k:List Key} {v:V} (e:H a=some (.dT kvs)) (eb:H b=some (.tup (k.map kV))) (hl:kvs.length < sizeLine) :
 DPut H a (.ref b) v (upd H a (.dT (putK kvs k v))):=.inr ⟨kvs,k,b,e,rfl,eb,hl,rfl⟩
section
variable {X:Cx} {pins:List (Addr × Obj)} {σ:St} {H:Hp} {s:Shared} {a:Addr} {y v:V} {u r:Value} {o:Option V} {A:Around} {E:Value->Shared->Prop}
theorem Inv.big (I:Inv X pins σ H s):sysModules < s.heap.objs.size:=by
 have h:mainGlobals < s.heap.objs.size:=(I.mod.glob.keeps I.bk).lt;exact xhi (by decide) h
theorem zrh {Q:Value->Shared->Prop} (hu:A.units+1 < cLine) (I:Inv X pins σ H s) (g:DGet H a y (some v)) (ry:RelV y u) (h:∀w' s',Inv X pins σ H s'->RelV v w'->Q w' s') :
  wpAny (model X.prog X.w) A (getItem (.ref a) u) Q E s:=by
 rcases g with ⟨kvs,k,e,ey,l⟩ | ⟨kvs,k,b,e,ey,eb,l⟩
 ·subst ey;obtain ⟨z,hd,vs,rel,dd⟩:=zwl I.hok e;obtain ⟨w',hw,rw'⟩:=RelO.some_of (v:=v) (o:=valueAt vs k) (by rw[l];exact rel.val k);exact wpAny_getItem_of (zzb ry) dd.mapOf hw (h w' _ (I.tok _) rw')
 ·subst ey;cases (show u=Value.ref b from ry);obtain ⟨z,hd,xs,rel,dd⟩:=zwk I.hok e;obtain ⟨w',hw,rw'⟩:=RelO.some_of (v:=v) (o:=(atKey xs k).map (·.2)) (by rw[l];exact rel.val k);obtain ⟨p,hp,hp2⟩:=xcv.mp hw;refine wpAny_getItem_heap (xhd hu) (zlj I.hok eb) dd hp ?_;rw[hp2];exact h w' _ (I.tok _) rw'
theorem d_in {Q:Value->Shared->Prop} (hu:A.units+1 < cLine) (I:Inv X pins σ H s) (g:DGet H a y o) (ry:RelV y u) (h:∀s',Inv X pins σ H s'->Q (.bool o.isSome) s') :
  wpAny (model X.prog X.w) A (compareOp .In u (.ref a)) Q E s:=by
 rcases g with ⟨kvs,k,e,ey,l⟩ | ⟨kvs,k,b,e,ey,eb,l⟩
 ·subst ey;obtain ⟨z,hd,vs,rel,dd⟩:=zwl I.hok e;refine wpAny_in_of (zzb ry) hd dd.mapOf ?_;rw[← (rel.val k).isSome_eq,← l];exact h _ (I.tok _)
 ·subst ey;cases (show u=Value.ref b from ry);obtain ⟨z,hd,xs,rel,dd⟩:=zwk I.hok e;refine wpAny_in_heap (xhd hu) (zlj I.hok eb) hd dd ?_;have q:=(rel.val k).isSome_eq;rw[Option.isSome_map] at q;rw[← q,← l];exact h _ (I.tok _)
theorem zoa {h':Heap} {t':Nat} {ob:HO} (I:Inv X pins σ H s) (mu:Mut (H a)) (hs:Heap.SameBut a s.heap h') (he:∃q,h'.get? a=some q) (new:ObjOk X.prog X.w (upd H a ob) h' a ob) :
  Inv X pins σ (upd H a ob) {s with heap:=h',toks:=t'} :=
 I.write (x:=a) (e:=a) mu (.inl rfl) (fun b q hb z=>(hs.2 b hb).trans z) he new
theorem zbey {P:Program} {w:World} {H':Hp} {h':Heap} {kvs:List (Key × V)} {vs:List (Key × Value)} (z:kvs.length<=sizeLine) (hd:(a == sysModules)=false) (rel:KV kvs vs) (dd:h'.DictOf (mixKind P w) a vs) :
 ObjOk P w H' h' a (.dK kvs):=⟨z,hd,vs,rel,dd⟩
theorem zre {H':Hp} {Q:Unit->Shared->Prop} (hu:A.units+1 < cLine) (I:Inv X pins σ H s) (g:DPut H a y v H') (ry:RelV y u) (rv:RelV v r) (h:∀s',Inv X pins σ H' s'->Q () s') :
  wpAny (model X.prog X.w) A (setItem (.ref a) u r) Q E s:=by
 rcases g with ⟨kvs,k,e,ey,l,eH⟩ | ⟨kvs,k,b,e,ey,eb,l,eH⟩
 ·subst ey eH;obtain ⟨z,hd,vs,rel,dd⟩:=zbih I.hok e;have hz:vs.length<=sizeLine:=by rw[← rel.length];exact z
  have hl:(putK kvs k v).length<=sizeLine:=by have:=zfy kvs k v;lia
  refine wpAny_setItem_pairs (hsz:=hz) (zzb ry) dd fun h' dd' hs=>h _ ?_
  have he:∃q,h'.get? a=some q:=let ⟨q,_,_,hq,_⟩:=dd';⟨q,hq⟩
  exact zoa I (by rw[e];exact True.intro) hs he (zbey hl hd (rel.put k rv) dd')
 ·subst ey eH;cases (show u=Value.ref b from ry);obtain ⟨z,hd,xs,rel,dd⟩:=zbgx I.hok e;have hz:xs.length<=sizeLine:=by rw[← xht rel];exact z
  have hl:(putK kvs k v).length<=sizeLine:=by have:=zfy kvs k v;lia
  refine wpAny_setItem_heap (hsz:=hz) (xhd hu) (zlj I.hok eb) dd fun h' dd' hs=>h _ ?_
  obtain ⟨q,es,ep,hq,h2,h3,h4,_,h5⟩:=dd';refine zoa I (by rw[e];exact True.intro) hs ⟨q,hq⟩ ⟨hl,hd,_,(rel.put k eb rv).keeps fun c ys ec=>?_,q,es,ep,hq,h2,h3,h4,h5⟩;rw[zj (zbgo ec e (fun z=>nomatch z))];exact ec
end
section
variable {X:Cx} {pins:List (Addr × Obj)} {σ:St} {H:Hp} {s:Shared} {a:Addr} {kvs:List (Key × V)} {k:Key} {u:Value} {A:Around} {E:Value->Shared->Prop}
end
noncomputable def NoSl (i:Expr):Prop:=∀ov iv,subscripted i false ov iv=operate [ov,iv] (getItem ov iv)
theorem zxf {prog:Program} {w:World} {A:Around} {E:Value->Shared->Prop} {s:Shared} {env:Env} {value slice:Expr} {pos:Pos} {T id:String} {Q:Value->Shared->Prop}
  (hl : typeLookup (.type T) "__getitem__" = pure (some (.builtin id))) (hs : NoSl slice)
  (h:wpAny (model prog w) A (eval value env) (fun o s₁=>wpAny (model prog w) A (eval slice env) (fun i s₂=>s₂.TypeIs o T/\wpAny (model prog w) A (getItem o i) Q E s₂) E s₁) E s) :
  wpAny (model prog w) A (eval (.Subscript value slice pos) env) Q E s:=by
 refine Subscript_ (xdj h (fun o s₁ h₁=>xdj h₁ (fun i s₂ h₂=>?_) fun _ _ x=>x) fun _ _ x=>x);obtain ⟨hT,h₂⟩:=h₂;unfold subscriptTail;refine xba ?_;rw[getitemInPython_of_ne hT.not_modules];refine xba (wpAny_specialOf hT hl ?_);have fin:wpAny (model prog w) A (subscripted slice false o i) (fun r s₃=>wpAny (model prog w) A (letTemporaryGo value o r >>= fun _=>pure r) Q E s₃) E s₂:=by
  rw[hs o i];exact wpAny_operating (xdj h₂ (fun r s₃ h₃=>xba (wpAny_letTemporaryGo (xbd h₃))) fun _ _ x=>x)
 first
  | exact xbd (xba fin)
  | exact xba (xbd (xba fin))
  | exact xba fin
theorem zln {X : Cx} {pins : List (Addr × Obj)} {σ : St} {H : Hp} {s : Shared} {a : Addr} {y : V} {o : Option V} (I : Inv X pins σ H s) (g : DGet H a y o) : s.TypeIs (.ref a) "dict" := by
 rcases g with ⟨kvs,k,e,_,_⟩ | ⟨kvs,k,b,e,_,_,_⟩
 ·obtain ⟨_,_,vs,_,dd⟩:=zwl I.hok e;exact dd.typeIs
 ·obtain ⟨_,_,xs,_,dd⟩:=zwk I.hok e;exact dd.typeIs
noncomputable def tDGet (td ty:TE):TE:=fun σ H Q=>td σ H fun x H1=>ty σ H1 fun y H2=>∃a v,x=.ref a/\DGet H2 a y (some v)/\Q v H2
noncomputable def tDIn (ty td:TE):TE:=fun σ H Q=>ty σ H fun y H1=>td σ H1 fun x H2=>∃a o,x=.ref a/\DGet H2 a y o/\Q (.bl o.isSome) H2
noncomputable def sDPut (td ty tv:TE):TS:=fun D σ H=>tv σ H fun v H1=>td σ H1 fun x H2=>ty σ H2 fun y H3=>∃a H4,x=.ref a/\DPut H3 a y v H4/\D.nx σ H4
section
variable {X:Cx} {o i e value:Expr} {pos pos' tpos:Pos} {td ty tv:TE}
theorem zye (hu:X.A.units+1 < cLine) (ho:PE X o td) (hi:PE X i ty) (hs:NoSl i):PE X (.Subscript o i pos) (tDGet td ty):=by
 intro pins s σ H Q I h;refine zxf PySem.F.slot_dict_getitem.lookup hs (thn (ho pins s σ H _ I h) fun u s1 ⟨x,H1,I1,rx,q1⟩=>thn (hi pins s1 σ H1 _ I1 q1) fun iv s2 hq0=>?_);obtain ⟨y,H2,I2,ry,a,v,ex,g,q2⟩:=hq0;subst ex;obtain rfl:u=Value.ref a:=rx;exact ⟨zln I2 g,zrh hu I2 g ry fun w' s3 I3 rw'=>⟨v,H2,I3,rw',q2⟩⟩
theorem zbdd (hu:X.A.units+1 < cLine) (hi:PE X i ty) (ho:PE X o td):PC X .In i o (tDIn ty td):=by
 intro pins s σ H Q I h;refine thn (hi pins s σ H _ I h) fun iv s1 ⟨y,H1,I1,ry,q1⟩=>thn (ho pins s1 σ H1 _ I1 q1) fun u s2 hq0=>?_
 obtain ⟨x,H2,I2,rx,a,ov,ex,g,q2⟩:=hq0;subst ex;obtain rfl:u=Value.ref a:=rx;exact d_in hu I2 g ry fun s3 I3=>⟨.bl ov.isSome,H2,I3,rfl,q2⟩
theorem zxr (hu:X.A.units+1 < cLine) (ho:PE X o td) (hi:PE X i ty) (hv:PE X value tv) (hs:swapsWith value (some (.Subscript o i pos')) pos.line X.env=pure false) :
  PS X (.Assign [.Subscript o i pos'] value pos) (sDPut td ty tv):=by
 intro pins s σ H D I h;refine wpAny_Assign_Subscript (thn (hv pins s σ H _ I h) fun r s1 ⟨v,H1,I1,rv,q1⟩=>thn (ho pins s1 σ H1 _ I1 q1) fun u s2 ⟨x,H2,I2,rx,q2⟩=>thn (hi pins s2 σ H2 _ I2 q2) fun iv s3 hq0=>?_) hs;obtain ⟨y,H3,I3,ry,a,H4,ex,g,q3⟩:=hq0;subst ex;obtain rfl:u=Value.ref a:=rx;exact zre hu I3 g ry rv fun s4 I4=>⟨σ,H4,I4,q3⟩
end
theorem zuy {P : Program} {w : World} {H : Hp} (h : Heap) (hb : sysModules < h.objs.size) : ObjOk P w H (h.push { cls := .type "dict", data := .dict #[] }) h.objs.size (.dT []) :=
 ⟨xcu _,xft.mpr (xeb (xbt hb)),[],.nil,_,#[],0,xbz _ rfl,⟨rfl,rfl,rfl⟩,rfl,rfl,xij⟩
noncomputable def tDNewT:TE:=fun _ H Q=>∀p,H p=none->Q (.ref p) (upd H p (.dT []))
section
variable {X:Cx} {pos:Pos}
theorem zty:PE X (.Dict [] [] pos) tDNewT:=fun pins s σ H Q I h =>
 wpAny_Dict_empty ⟨.ref s.heap.objs.size,_,I.laid (a:=s.heap.objs.size) (o:=.dT []) (t':=s.toks) (fun _ _ q=>xbc _ q) (xbg _) (zuy s.heap I.big),rfl,h _ (I.hok.fresh (xbg _))⟩
end
structure M1 (X:Cx) (o:Expr) (m:Str) (apos:Pos) (e:Expr) (cpos:Pos):Prop where
 base:attributeBase o m X.env (eval o X.env)=eval o X.env
 few:((backTo cpos (starEach [e] X.env)).all (fun x=>!x.1) && (backToKw cpos (keywordEach [] X.env)).all (fun x=>x.1.isSome)
  && decide (([e]:List Expr).length+([]:List Keyword).length+(if ([]:List Keyword).isEmpty then 0 else 1) < 30))=true
 line:(apos.endLine == cpos.line)=true
 trees:backTo cpos (starEach [e] X.env)=[(false,eval e X.env)]
structure M2 (X:Cx) (o:Expr) (m:Str) (apos:Pos) (e f:Expr) (cpos:Pos):Prop where
 base:attributeBase o m X.env (eval o X.env)=eval o X.env
 few:((backTo cpos (starEach [e,f] X.env)).all (fun x=>!x.1) && (backToKw cpos (keywordEach [] X.env)).all (fun x=>x.1.isSome)
  && decide (([e,f]:List Expr).length+([]:List Keyword).length+(if ([]:List Keyword).isEmpty then 0 else 1) < 30))=true
 line:(apos.endLine == cpos.line)=true
 trees:backTo cpos (starEach [e,f] X.env)=[(false,eval e X.env),(false,eval f X.env)]
noncomputable def IsD (H:Hp) (a:Addr):Prop:=(∃kvs,Rd H a (.dK kvs))\/∃kvs,Rd H a (.dT kvs)
theorem zzh {X:Cx} {pins:List (Addr × Obj)} {σ:St} {H:Hp} {s:Shared} {a:Addr} (I:Inv X pins σ H s) (d:IsD H a) :
  s.TypeIs (.ref a) "dict" /\ (∀ b, Value.ref a = .ref b -> ∃ ob, s.heap.get? b = some ob /\ ob.dict = none) /\ (a == sysModules) = false := by
 rcases d with ⟨kvs,e⟩ | ⟨kvs,e⟩
 ·obtain ⟨_,hd,vs,_,dd⟩:=zwl I.hok e;refine ⟨dd.typeIs,fun b q=>?_,hd⟩;cases q;obtain ⟨ob,_,_,h1,h2,_⟩:=dd;exact ⟨ob,h1,h2.2.1⟩
 ·obtain ⟨_,hd,xs,_,dd⟩:=zwk I.hok e;refine ⟨dd.typeIs,fun b q=>?_,hd⟩;cases q;obtain ⟨ob,_,_,h1,h2,_⟩:=dd;exact ⟨ob,h1,h2.2.1⟩
section
variable {X:Cx} {pins:List (Addr × Obj)} {σ:St} {H:Hp} {s:Shared} {a:Addr} {y d:V} {u r:Value} {o:Option V} {A:Around} {E:Value->Shared->Prop}
theorem zbff {Q:Value->Shared->Prop} (hu:A.units+1 < cLine) (I:Inv X pins σ H s) (g:DGet H a y o) (ry:RelV y u) (rd:RelV d r) (h:∀w' s',Inv X pins σ H s'->RelV (o.getD d) w'->Q w' s') :
  wpAny (model X.prog X.w) A (call (.builtin "dict.get") [.ref a, u, r]) Q E s := by
 rcases g with ⟨kvs,k,e,ey,l⟩ | ⟨kvs,k,b,e,ey,eb,l⟩
 ·subst ey;obtain ⟨z,hd,vs,rel,dd⟩:=zwl I.hok e;refine call_meetsIn xje dd.typeIs PySem.F.entry_dict_get (PySem.F.args_dict_get_3 _ _ _) (meets_dict_get_default (mixKind X.prog X.w) a (zzb ry) hd r) ⟨_,dd.mapOf,h _ _ (I.tok _) ?_⟩;rw[l];exact (rel.val k).getD rd
 ·subst ey;cases (show u=Value.ref b from ry);obtain ⟨z,hd,xs,rel,dd⟩:=zwk I.hok e;refine call_meetsIn xje dd.typeIs PySem.F.entry_dict_get (PySem.F.args_dict_get_3 _ _ _) (meetsH_dict_get_default (tupleKind (mixKind X.prog X.w)) a b hd r) ⟨xhd hu,k,xs,zlj I.hok eb,dd,h _ _ (I.tok _) ?_⟩;rw[l];exact (rel.val k).getD rd
end
noncomputable def tDGet2 (td ty tx:TE):TE:=fun σ H Q=>td σ H fun x H1=>∃a,x=.ref a/\IsD H1 a/\ty σ H1 fun y H2=>tx σ H2 fun z H3=>∃o,DGet H3 a y o/\Q (o.getD z) H3
section
variable {X:Cx} {o e f:Expr} {apos cpos:Pos} {td ty tx:TE}
theorem ztz (hu : X.A.units + 1 < cLine) (ho : PE X o td) (he : PE X e ty) (hf : PE X f tx) (m : M2 X o "get" apos e f cpos) : PE X (.Call (.Attribute o "get" apos) [e, f] [] cpos) (tDGet2 td ty tx) := by
 intro pins s σ H Q I h;refine wpAny_Call_method m.base m.few m.line PySem.F.plainAttrs_dict xje PySem.F.type_dict_get (thn (ho pins s σ H _ I h) fun u s1 hq0=>?_);obtain ⟨x,H1,I1,rx,a,ex,d,q1⟩:=hq0;subst ex;obtain rfl:u=Value.ref a:=rx;obtain ⟨t1,t2,_⟩:=zzh I1 d;refine ⟨t1,t2,?_⟩;rw[m.trees]
 refine xhe rfl (xjj (xgv (thn (he pins s1 σ H1 _ I1 q1) fun iv s2 ⟨y,H2,I2,ry,q2⟩ =>
  xgv (thn (hf pins s2 σ H2 _ I2 q2) fun fv s3 ⟨z,H3,I3,rz,ov,g,q3⟩=>xir ?_))))
 exact zbff hu I3 g ry rz fun w' s4 I4 rw'=>⟨_,H3,I4,rw',q3⟩
end
section
variable {X:Cx} {pins:List (Addr × Obj)} {σ:St} {H:Hp} {s:Shared} {a:Addr} {kvs:List (Key × V)} {A:Around} {E:Value->Shared->Prop}
end
section
variable {X:Cx} {pins:List (Addr × Obj)} {σ:St} {H:Hp} {s:Shared} {a:Addr} {y:V} {u:Value} {A:Around} {E:Value->Shared->Prop}
end
end L2
namespace Att
open PySem PySem.W PySem.Calls PyProof.Rows
theorem zfj {P:Params} {h:Heap}:∀(ns:List Int) (vs:List Value),WellAll P h vs (ns.map WData.int)->IntsAre vs ns:=by
 intro ns
 induction ns with
 | nil =>
  intro vs w;rw[xkk] at w;cases w;exact .nil
 | cons n ns ih =>
  intro vs w;rw[xbq] at w;cases w with
  | cons a b =>
   cases a;exact .cons _ _ (ih _ b)
theorem zpn {l:OpenLaw} {n:Nat} (hn:l.most=some n) {P:Params} {h:Heap} {args:List WData} {vals:List Value}
  (hpre:l.row.toRowW.claim.pre args=true) (hwl:WellAll P h vals args) :
  ∃ a vs ns, vals = [Value.ref a] /\ args = [WData.list (ns.map WData.int)] /\ h.get? a = some { cls := .type "list", data := .seq vs.toArray } /\ IntsAre vs ns /\ ns.length <= n := by
 have hsh:WShape.hasAll [] args [.list .int]=true:=(pre_splitW hpre).1;have hc:l.pre.holds [] {args:=args}=true:=(pre_splitW hpre).2;obtain ⟨d,r,rfl,h1,h2⟩:=hasAllW_cons hsh;obtain rfl:=hasAllW_nil h2;obtain ⟨xs,rfl,h3⟩:=hasW_list h1;obtain ⟨ns,rfl⟩:=items_int h3;have hlen:ns.length<=n:=by
  unfold OpenLaw.pre at hc;have h4:(WTm.not (.lt (.lit (.int (n:Int))) (.len (.arg 0)))).holds [] {args:=[.list (ns.map .int)]}=true:=by
   have h4:=(holds_andW hc).1;rw[hn] at h4;exact h4
  have h5:=condW_of h4 (w_not (w_lt w_lit (w_len_list (w_arg rfl))));rw[xbf] at h5;refine xbs fun q=>?_
  have q':(n:Int) < ((ns.length:Nat):Int):=by lia
  first
   | (rw[xcj q'] at h5;exact absurd h5 (by decide))
   | (simp at h5;lia)
 cases hwl with
 | cons w1 w2 =>
  cases w2;cases w1 with
  | list ho hall=>exact ⟨_,_,ns,rfl,rfl,ho,zfj ns _ hall,hlen⟩
theorem zpu (l:OpenLaw) (args:List WData):l.row.toRowW.claim.post args (.bool true) args=true :=
 postW_of (r:=l.row.toRowW) (X:=(true == true))
  (show WShape.has [] (.bool true) .bool=true by first | rfl | decide | simp[WShape.has,WShape.arms,WShape.armsAll])
  (show (WTm.eq .res (.lit (.bool true))).value [] {args:=args,res:=some (.bool true),after:=args}=some (.bool (true == true)) from w_eq_bool (w_res rfl) w_lit) rfl
theorem attach_call {l:OpenLaw} {n:Nat} {q:Program} {loose:List Str} {XP:(Str->Option Value)->Heap->Prop} {YP:World->Heap->Prop} {d:DefRec}
  (hn:l.most=some n) (hdf:d.params.defaults=[])
  (call:∀(w:World) (s₀ s₁:Shared) (mg mb:Str->Option Value) (fa:Addr) (o:Obj) (pm cd doc:Value) (a:Addr) (vs:List Value) (ns:List Int),
   Ground q loose [] XP w s₀ mg mb s₁.heap->YP w s₁.heap ->
   s₁.heap.get? fa=some o->o.data=.func (docDef d.name d.params d.body d.scope pm cd doc)->s₁.heap.CodeRec cd d.name->mg d.name=some (.ref fa) ->
   s₁.heap.get? a = some { cls := .type "list", data := .seq vs.toArray } -> IntsAre vs ns -> ns.length <= n -> s₁.gens = #[] ->
   codeAny (model l.prog w) callerA (.call (.ref fa) ⟨[.ref a],[]⟩) (fun r s'=>r=.ok (.ret (.bool true))/\OldK s₁.heap s'.heap/\s'.os=s₁.os/\AllBare s'.gens) s₁) :
  WalkO q loose XP YP l.row.toRowW d [] (fun f vs=>PySem.call f vs):=by
 intro w s₀ s₁ mg mb G Y fa o pm cd doc dV kV ho hd hcd hD hmg hg args vals as hpre hlay hrd hwl hlo;obtain rfl:dV=.none:=Dflts.none hD hdf;obtain rfl:kV=.none:=Dflts.noKw hD;obtain ⟨a,vs,ns,rfl,rfl,hobj,hints,hlen⟩:=zpn hn hpre hwl;refine enter_call (xjo (call w s₀ s₁ mg mb fa o pm cd doc a vs ns G Y ho (fd_plain hd) hcd hmg hobj hints hlen hg) fun r s' hq=>?_);obtain ⟨rfl,h2,h3,h4⟩:=hq;exact ⟨.inl ⟨.bool true,.bool true,[],rfl,fun _=>rfl,.bool true,zpu l _,fun _=>⟨List.Pairwise.nil,fun _ hm=>(nomatch hm)⟩⟩,h2,h3,h4⟩
section
variable {prog:Program} {w:World} {A:Around} {E:Value->Shared->Prop} {s:Shared} {K:Frag}
end
end Att
namespace L2
open PySem PySem.Spec PyProof.Rows
theorem zjn:∀{vs:List Value} {ns:List Int},IntsAre vs ns->Vals (ns.map V.int) vs
 | _,_,.nil=>.nil
 | _,_,.cons n t h=>.cons ⟨t,rfl⟩ (zjn h)
noncomputable def Only (H:Hp):Prop:=∀b,H b=none\/∃o xs,H b=some (.frz o (.lst xs))
theorem zup {P:Program} {w:World} {K:Fg} {mg mb:Str->Option Value} {CX:CXT} {k:Nat} {fa a:Addr} {fd:FuncData} {x:Str} {sp:Sp} {s₁:Shared} {vs:List Value} {ns:List Int}
  (KX : K.In s₁.heap) (hns : s₁.heap.Ns mainGlobals mg) (hb : s₁.heap.Ns builtinsNs mb) (hbb : ∀ x : Str, x ≠ "__name__" -> mb x = bootBuiltins x) (hlim : s₁.heap.NoLimit) (hg : s₁.gens = #[])
  (ha : s₁.heap.get? a = some { cls := .type "list", data := .seq vs.toArray }) (hi : IntsAre vs ns) (hl : ns.length <= sizeLine) (hr : Room k callerA)
  (F:∀base:Heap,K.In base->base.Ns mainGlobals mg->FnOk P w K mg base CX k fa fd [x] sp) (hbind:∀(s:Shared) (u:Value),BindsTo s fd ⟨[u],[]⟩ [(x,u)])
  (hsp:∀H:Hp,Only H->SqL K H a (ns.map V.int)->sp [.ref a] H (fun v _=>v=.bl true) fun _ _ _=>False)
  (hCX:∀H e s',CX [] H s₁ (fun _ _ _=>False) e s'->False) :
  codeAny (model P w) callerA (.call (.ref fa) ⟨[.ref a],[]⟩) (fun r s'=>r=.ok (.ret (.bool true))/\OldK s₁.heap s'.heap/\s'.os=s₁.os/\AllBare s'.gens) s₁:=by
 have rv:=zjn hi;have lenV:=hi.length;have core:∀H:Hp,Only H->SqL K H a (ns.map V.int)->HOk P w H s₁.heap->(∀b,H b≠none->b=a)->(H a≠none->K.lookup a=none) ->
   codeAny (model P w) callerA (.call (.ref fa) ⟨[.ref a],[]⟩) (fun r s'=>r=.ok (.ret (.bool true))/\OldK s₁.heap s'.heap/\s'.os=s₁.os/\AllBare s'.gens) s₁:=by
  intro H hO hS hok hA hK;have base_of:∀{b:Addr} {o:Obj},s₁.heap.get? b=some o->H b=none->(hidT s₁.heap H).get? b=some o:=fun e n=>zuu e n
  have noA:∀{b:Addr} {o:Obj} {es:Array DictEntry} {ep:Nat},s₁.heap.get? b=some o->o.data=.dict es ep->H b=none:=fun {b o es ep} e d=>by
   cases q:H b with
   | none=>rfl
   | some u =>
    have e':b=a:=hA b (by rw[q];simp);subst e';rw[ha] at e;cases e
    have d':Data.seq vs.toArray _=Data.dict es ep:=d;cases d'
  have nsK:∀{b:Addr} {m:Str->Option Value},s₁.heap.Ns b m->(hidT s₁.heap H).Ns b m:=fun {b m} ⟨o,es,ep,e,d,r⟩=>⟨o,es,ep,base_of e (noA e d),d,r⟩
  have hKb:K.In (hidT s₁.heap H):=fun b o e=>base_of (KX b o e) (by
   cases q:H b with
   | none=>rfl
   | some u =>
    have e':b=a:=hA b (by rw[q];simp);subst e'
    rw[hK (by rw[q];simp)] at e;cases e)
  have hM:Mod K mg (hidT s₁.heap H):=⟨hKb,nsK hns,⟨mb,nsK hb,hbb⟩,let ⟨mc,h1,h2⟩:=hlim;⟨mc,nsK h1,h2⟩⟩
  have e0:Env0 P w K mg (hidT s₁.heap H) callerA [] s₁ H:=⟨rfl,hM,fun b o e=>zyo e,xda (zqv _ _),trivial,fun b hb=>absurd (show b∈([]:List Addr) from hb) (by simp),hok,.of_eq hg⟩
  refine xjo ((F _ hKb (nsK hns)).run callerA [] s₁ H ⟨[.ref a],[]⟩ [.ref a] [.ref a] _ _ hr e0 (hbind s₁ (.ref a)) (.cons rfl .nil) (hsp H hO hS)) fun r s' h=>?_
  cases r with
  | error e=>exact (hCX H e s' h).elim
  | ok fl =>
   cases fl with
   | next=>exact False.elim h
   | brk=>exact False.elim h
   | cont=>exact False.elim h
   | ret u =>
    obtain ⟨v,H',os,bare,un,hok',r',q⟩:=h;have q':v=.bl true:=q;subst q';obtain rfl:u=Value.bool true:=r';refine ⟨rfl,OldK.of_keep fun b o e=>?_,os,bare⟩;cases q:H b with
    | none=>exact un.keep b o e q (by intro z;exact absurd (show b∈([]:List Addr) from z) (by simp)) (by simp)
    | some u =>
     rcases hO b with z | ⟨ob,xs,z⟩
     ·rw[q] at z;cases z
     ·have z2:=un.frzs b ob _ z;obtain ⟨e1,_⟩:=hok b _ z;obtain ⟨e2,_⟩:=hok' b _ z2;rw[e] at e1;cases e1
      exact e2
 cases hk:K.lookup a with
 | some o =>
  have e:=KX a o hk;rw[ha] at e;cases e;refine core (fun _=>none) (fun _=>.inl rfl) (.inr ⟨_,vs.toArray,_,hk,rfl,rfl,rfl,by rw[xbm,lenV];exact hl,by simpa using rv⟩) (fun b u z=>by have z':(none:Option HO)=some u:=z;cases z') (fun b z=>absurd rfl z) fun z=>absurd rfl z
 | none =>
  refine core (fun b => if b = a then some (.frz { cls := .type "list", data := .seq vs.toArray } (.lst (ns.map V.int))) else none) (fun b => ?_) (.inl (.inr ⟨{ cls := .type "list", data := .seq vs.toArray }, if_pos rfl⟩)) (fun b u z => ?_) (fun b z => ?_) fun _ => hk
  ·by_cases hb:b=a
   ·exact .inr ⟨_,_,if_pos hb⟩
   ·exact .inl (if_neg hb)
  ·by_cases hb:b=a
   ·have z':=(if_pos hb).symm.trans z;cases z';subst hb;exact ⟨ha,by rw[xbf];exact hl,vs,_,rv,ha⟩
   ·have z':=(if_neg hb).symm.trans z;cases z'
  ·by_cases hb:b=a
   ·exact hb
   ·exact absurd (if_neg hb) z
theorem zwv {l:PySem.W.OpenLaw} {n k:Nat} {q:Program} {loose:List Str} {XP:(Str->Option Value)->Heap->Prop} {YP:World->Heap->Prop} {d:DefRec} {K:Params->Fg} {CX:World->CXT} {sp:World->Sp} {x:Str}
  (hn:l.most=some n) (hn2:n<=sizeLine) (hdf:d.params.defaults=[]) (hr:Room k callerA)
  (hY:∀(w:World) (h:Heap),YP w h->(K w.params).In h)
  (F:∀(w:World) (mg:Str->Option Value) (fa:Addr) (h:Heap),(K w.params).In h->h.Ns mainGlobals mg->mg d.name=some (.ref fa) ->
   ∃fd:FuncData,(∀(s:Shared) (u:Value),BindsTo s fd ⟨[u],[]⟩ [(x,u)]) /\
    ∀base:Heap,(K w.params).In base->base.Ns mainGlobals mg->FnOk l.prog w (K w.params) mg base (CX w) k fa fd [x] (sp w))
  (hsp:∀(w:World) (H:Hp) (a:Addr) (ns:List Int),ns.length<=n->Only H->SqL (K w.params) H a (ns.map V.int)->sp w [.ref a] H (fun v _=>v=.bl true) fun _ _ _=>False)
  (hCX:∀(w:World) (H:Hp) (s:Shared) (e:Value) (s':Shared),CX w [] H s (fun _ _ _=>False) e s'->False) :
  PySem.W.WalkO q loose XP YP l.row.toRowW d [] (fun f vs=>PySem.call f vs):=by
 refine Att.attach_call hn hdf fun w s₀ s₁ mg mb fa o pm cd doc a vs ns G Y ho hd hcd hmg hobj hints hlen hg=>?_
 have KX:=hY w _ Y;obtain ⟨fd,hb,hF⟩:=F w mg fa _ KX G.T.g hmg;exact zup KX G.T.g G.T.b G.T.builtins G.T.nolimit hg hobj hints (xbb hlen hn2) hr hF hb (fun H hO hS=>hsp w H a ns hlen hO hS) fun H e s'=>hCX w H s₁ e s'
end L2
/- THE LAST THEOREM (shape;LID,My.* are yours):
 My.Adr: a structure of the addresses that your layer names (classes,functions);My.Txt K t: a structure (Prop) of the equations over K;
 My.txt_mk : {K} {implicit addresses ..} (e1 : nsIn K mainGlobals "law" = some (some (.ref f))) (e2 : K.lookup f = some ⟨oc, od, .func (fnOf "law" "law" params body scope dV kV doc pm an cdv ct), sl⟩) (e3 : codeIn K cdv "law" = true) .. : ∃ t, My.Txt K t
(the tactic k_is has no namespace: write k_is) -/
namespace L2
open PySem PySem.Spec PyProof.Rows
noncomputable def defArgs (s:Stmt):Arguments:=match s with
 | .FunctionDef _ a _ _ _ _ _ _ _ _=>a
 | _=>{posonlyargs:=[],args:=[],vararg:=none,kwonlyargs:=[],kw_defaults:=[],kwarg:=none,defaults:=[]}
noncomputable def defBody (s:Stmt):List Stmt:=match s with
 | .FunctionDef _ _ b _ _ _ _ _ _ _=>b
 | _=>[]
noncomputable def defScope (s:Stmt):Scope:=match s with
 | .FunctionDef _ _ _ _ _ _ sc _ _ _=>sc
 | _=>{kind:=.function,names:=[],isGenerator:=false,isCoroutine:=false}
noncomputable abbrev CX0:CXT:=fun _ _ _ _ _ _=>False
noncomputable abbrev E0:XK:=fun _ _ _=>False
theorem pass0 {X:Cx}:Passes CX0 X E0:=fun _ _ _ _ _ _ _ h=>h.elim
structure Fun (K:Fg) (x qual:Str) (st:Stmt) (f:Addr) (fd:FuncData):Prop where
 ex:∃(oc:Value) (od:Option Addr) (kV doc pm:Value) (an:Option Addr) (cdv ct:Value) (osl:Array (Option Value)),
  fd=PySem.W.fnOf x qual (defArgs st) (defBody st) (defScope st) .none kV doc pm an cdv ct/\K.lookup f=some ⟨oc,od,.func fd,osl⟩/\PySem.W.codeIn K cdv qual=true
 kp:PySem.W.keepIn K (.ref f)=true
section
variable {P:Program} {w:World} {K:Fg} {mg:Str->Option Value} {base:Heap}
theorem Fun.ok {x qual:Str} {st:Stmt} {f:Addr} {fd:FuncData} {N ps:List Str} {k:Nat} {sp:Sp} (F:Fun K x qual st f fd) (S:FnScope N ps (defScope st)) (len:∀vs H Q E,sp vs H Q E->vs.length=ps.length)
  (hbody:∀(cdv:Value) (A:Around) (outer:List Env) (s:Shared) (H:Hp) (vs:List V) (Q:VK) (E:XK),Room k (A.deeper (envOfC qual (defScope st) s.heap.objs.size f cdv))->sp vs H Q E ->
   ∃t,PSs (cxOf CX0 P w K mg base N qual (defScope st) f cdv A outer s H E).nox (defBody st) t/\t {nx:=fun _ H'=>Q .non H',rt:=Q} (start N vs) H):FnOk P w K mg base CX0 (k+1) f fd ps sp:=by
 obtain ⟨oc,od,kV,doc,pm,an,cdv,ct,osl,rfl,lk,hcd⟩:=F.ex;refine zbgr lk hcd S len fun A outer s H vs Q E hr hsp=>?_
 obtain ⟨t,h,q⟩:=hbody cdv A outer s H vs Q E hr hsp;exact ⟨t,h.nox,q⟩
theorem Fun.binds {x qual:Str} {st:Stmt} {f:Addr} {fd:FuncData} {ps:List Str} (F:Fun K x qual st f fd)
  (h:∀(kV doc pm:Value) (an:Option Addr) (cdv ct:Value) (us:List Value),us.length=ps.length->bindArgs (PySem.W.fnOf x qual (defArgs st) (defBody st) (defScope st) .none kV doc pm an cdv ct) ⟨us,[]⟩=pure (ps.zip us)):Binds K fd ps []:=by
 obtain ⟨oc,od,kV,doc,pm,an,cdv,ct,osl,rfl,lk,hcd⟩:=F.ex;exact .all (h kV doc pm an cdv ct)
theorem zzl {x qual:Str} {st:Stmt} {f:Addr} {oc:Value} {od an:Option Addr} {osl:Array (Option Value)} {kV doc pm cdv ct:Value} (l:K.lookup f=some ⟨oc,od,.func (PySem.W.fnOf x qual (defArgs st) (defBody st) (defScope st) .none kV doc pm an cdv ct),osl⟩)
 (c:PySem.W.codeIn K cdv qual=true) (k:PySem.W.keepIn K (.ref f)=true):Fun K x qual st f (PySem.W.fnOf x qual (defArgs st) (defBody st) (defScope st) .none kV doc pm an cdv ct):=⟨⟨oc,od,kV,doc,pm,an,cdv,ct,osl,rfl,l,c⟩,k⟩
end
theorem zwj {A:Around} {k:Nat} (hr:Room k A):A.units+1 < cLine:=xck (xca (by decide:1<=64) _) hr.units
section
variable {X:Cx}
theorem pv (i : Nat) {x : Str} {pos : Pos} (hN : X.N[i]? = some x := by rfl) (hv : Vis X.env.scope x := by first | exact Or.inl rfl | exact Or.inr (Or.inl rfl) | exact Or.inr (Or.inr rfl)) (hd : (x == ("__debug__" : Str)) = false := by decide)
 (hcd : (x == ("__classdict__" : Str)) = false := by decide) : PE X (.Name x pos) (tVar i) := zmp hN hv hd hcd
end
theorem iteF {A B:Prop} (h:B):if false=true then A else B:=by
 rw[if_neg xfc];exact h
theorem iteT {A B:Prop} (h:A):if true=true then A else B:=by
 rw[if_pos rfl];exact h
section
variable {X:Cx}
end
section
variable {κ:Type} [DecidableEq κ]
end
section
variable {P:Program} {w:World} {B:Around} {R:Result->Shared->Prop} {sh:Shared}
noncomputable abbrev NoX:Value->Shared->Prop:=fun _ _=>False
noncomputable abbrev testsOf (cs:List Expr) (ev:Env):Sem Bool :=
 forIn cs true fun d b=>if b=true then do let z ← isTrue d ev (eval d ev);pure (ForInStep.yield z) else pure (ForInStep.yield b)
noncomputable def CompStep (P:Program) (w:World) (B:Around) (tg x:Expr) (cs:List Expr) (ev:Env) (i l:Value) (K:Shared->Prop) (v:Value) (sa:Shared):Prop :=
 wpAny (model P w) B (letOwnedTupleGo tg i v) (fun _ sb=>wpAny (model P w) B (assign tg ev v) (fun _ sc=>wpAny (model P w) B (testsOf cs ev) (fun ok sd =>
  if ok = true then wpAny (model P w) B (eval x ev) (fun y se => wpAny (model P w) B (call (.builtin "list.append") [l, y]) (fun _ sf => K sf) NoX se) NoX sd else K sd) NoX sc) NoX sb) NoX sa
theorem zrm {tg it x:Expr} {cs:List Expr} {sc:Scope} {ps:Pos} {i l:Value} {ev:Env} (J:Nat->Shared->Prop)
  (go:∀k sk,J k sk->wpAny (model P w) B (pyNext i) (fun o sa=>match o with
   | none=>R (.ok .next) sa
   | some v=>CompStep P w B tg x cs ev i l (fun sf=>∃k',k' < k/\J k' sf) v sa) NoX sk)
  (k:Nat) (hJ:J k sh):codeAny (model P w) B (.compLoop (.ListComp x [⟨tg,it,cs,0⟩] sc ps) 0 i l ev) R sh:=by
 have none_:∀{E:Value->Shared->Prop} (e:Value) (z:Shared),NoX e z->E e z:=fun _ _ z=>z.elim
 refine codeAny_loop rfl J (fun k sk hk=>wpAny_noted (by
  rw[compTurn_list];refine xba (xiz (xba (xdj (go k sk hk) (fun o sa ho=>?_) none_)))
  match o,ho with
  | none,ho=>exact xbd ho
  | some v,ho =>
   refine xba (xdj ho (fun _ sb hb=>xba (xdj hb (fun _ sc' hc=>xba (xdj hc (fun ok sd hd=>?_) none_)) none_)) none_)
   match ok,hd with
   | false,hd=>exact xbd (And.intro rfl hd)
   | true,hd=>exact xba (xba (xdj hd (fun y se he=>xba (xdj he (fun _ sf hf=>xbd (xbd (And.intro rfl hf))) none_)) none_)))) k hJ
end
theorem zjh {env:Env}:∀(names:List (Str × NameKind)) (acc:List (Str × Addr)),(∀y∈names,y.2=.free->∃c,env.cells.lookup y.1=some c)->(∀x c,acc.lookup x=some c->env.cells.lookup x=some c) ->
  ∃cl:List (Str × Addr),(forIn names acc (fun x r=>if (x.2 == NameKind.free)=true then do let a ← cellOf env x.1;pure (ForInStep.yield ((x.1,a)::r)) else pure (ForInStep.yield r)):Sem (List (Str × Addr)))=pure cl /\
   (∀x c,cl.lookup x=some c->env.cells.lookup x=some c)/\(∀x c,acc.lookup x=some c->∃c',cl.lookup x=some c')/\∀x,(x,NameKind.free)∈names->∃c,cl.lookup x=some c:=by
 intro names
 induction names with
 | nil=>intro acc _ ha;exact ⟨acc,rfl,ha,fun x c e=>⟨c,e⟩,fun x z=>(nomatch z)⟩
 | cons y r ih =>
  intro acc hf ha;obtain ⟨n,k⟩:=y;by_cases hk:k=.free
  ·subst hk;obtain ⟨c,hc⟩:=hf (n,.free) xce rfl
   obtain ⟨cl,e,h1,h2,h3⟩:=ih ((n,c)::acc) (fun y hy=>hf y (xci _ hy)) (fun x c' e=>by
    rw[xdr] at e;by_cases hx:x=n
    ·subst hx;rw[xfb] at e;cases e;exact hc
    ·rw[xft.mpr hx] at e
     exact ha x c' e)
   refine ⟨cl,?_,h1,fun x c' e'=>?_,fun x hx=>?_⟩
   ·rw[List.forIn_cons];simp only[xfb,ite_true];have q:cellOf env n=pure c:=by unfold cellOf;rw[hc]
    rw[q];simp only[pure_bind];exact e
   ·by_cases hx:x=n
    ·subst hx;exact h2 x c (by rw[xdr,xfb])
    ·exact h2 x c' (by rw[xdr,xft.mpr hx];exact e')
   ·rcases xbn.mp hx with z | z
    ·cases z;exact h2 n c (by rw[xdr,xfb])
    ·exact h3 x z
  ·obtain ⟨cl,e,h1,h2,h3⟩:=ih acc (fun y hy=>hf y (xci _ hy)) ha;refine ⟨cl,?_,h1,h2,fun x hx=>?_⟩
   ·rw[List.forIn_cons];have hb:(k == NameKind.free)=false:=by simpa using hk
    simp only[hb,xcr,xem,pure_bind];exact e
   ·rcases xbn.mp hx with z | z
    ·cases z;exact absurd rfl hk
    ·exact h3 x z
theorem zog {scope:Scope} {env:Env} (h:∀y∈scope.names,y.2=.free->∃c,env.cells.lookup y.1=some c) :
  ∃cl,closureFor scope env=pure cl/\(∀x c,cl.lookup x=some c->env.cells.lookup x=some c)/\∀x,(x,NameKind.free)∈scope.names->∃c,cl.lookup x=some c:=by
 obtain ⟨cl,e,h1,_,h3⟩:=zjh (env:=env) scope.names [] h (fun x c e=>(nomatch e));refine ⟨cl,?_,h1,h3⟩;unfold closureFor;have e':=congrArg (fun m=>m >>= fun r=>(pure r:Sem (List (Str × Addr)))) e;simp only[pure_bind] at e';exact e'
theorem zbd {env:Env}:∀{names:List (Str × NameKind)} {x:Str} {k:NameKind},(names.map fun (n,k)=>if (k == NameKind.free && env.scope.kind == .function && env.kindOf n == some .cell) then (n,NameKind.cell) else (n,k)).lookup x=some k ->
  names.lookup x=some k\/(k=.cell/\names.lookup x=some .free)
 | [],_,_,h=>by simp at h
 | (n,k')::r,x,k,h=>by
  have ih:=@zbd env r x k;have h':List.lookup x ((if (k' == NameKind.free && env.scope.kind == .function && env.kindOf n == some .cell)=true then (n,NameKind.cell) else (n,k'))::_)=_:=h;cases hx:x == n with
  | true =>
   by_cases hc:(k' == NameKind.free && env.scope.kind == .function && env.kindOf n == some .cell)=true
   ·rw[if_pos hc] at h';simp only[xdr,hx] at h' ⊢;cases h';rw[xel,xel] at hc;exact .inr ⟨rfl,by rw[eq_of_beq hc.1.1]⟩
   ·rw[if_neg hc] at h';simp only[xdr,hx] at h' ⊢;exact .inl h'
  | false =>
   have h2:(r.map fun (n,k)=>if (k == NameKind.free && env.scope.kind == .function && env.kindOf n == some .cell) then (n,NameKind.cell) else (n,k)).lookup x=some k:=by
    by_cases hc:(k' == NameKind.free && env.scope.kind == .function && env.kindOf n == some .cell)=true
    ·rw[if_pos hc] at h';simp only[xdr,hx] at h';exact h'
    ·rw[if_neg hc] at h';simp only[xdr,hx] at h';exact h'
   simp only[xdr,hx];exact ih h2
noncomputable def cxC (X:Cx) (N:List Str) (scope:Scope) (cl:List (Str × Addr)) (C:Addr) (fp:List Addr) (s:Shared) (H:Hp):Cx :=
 {X with N:=N,s₀:=s,H₀:=H,env:=compEnvC scope cl C X.env,outer:=X.stack,ex:=fp,fn:=fun _=>false,pn:=[],xe:=fun _ _=>False}
noncomputable def startC (k:Nat) (is:List Nat) (σ:St):St:=List.replicate k none++is.map fun i=>(σ[i]?).getD none
structure CompScope (X:Cx) (N:List Str) (k:Nat) (is:List Nat) (scope:Scope):Prop where
 kind:scope.kind=.function
 nocell:∀y∈scope.names,y.2≠.cell
 names:∀y∈scope.names,y.2=.local->scope.names.lookup y.1=some .local
 frees:∀y∈scope.names,y.2=.free->X.env.kindOf y.1=some .cell\/X.env.kindOf y.1=some .free
 len:N.length=k+is.length
 own:∀j i,is[j]?=some i->∃x,N[k+j]?=some x/\X.N[i]?=some x/\scope.names.lookup x=some .free
theorem zdl {x:Str} {k:NameKind} {l:List (Str × NameKind)} (h:l.lookup x=some k):(x,k)∈l:=xfs h
section
variable {X:Cx} {pins:List (Addr × Obj)} {σ:St} {H:Hp} {s:Shared}
theorem zus {N:List Str} {k:Nat} {is:List Nat} {scope:Scope} {cl:List (Str × Addr)} {fp:List Addr} {h1:Heap} {tk:Nat} (S:CompScope X N k is scope) (I:Inv X pins σ H s)
  (c1:∀x c,cl.lookup x=some c->X.env.cells.lookup x=some c) (c2:∀x,(x,NameKind.free)∈scope.names->∃c,cl.lookup x=some c)
  (hf:∀b∈fp,FpOk X pins H b) (hfo:∀b∈fp,∃o,s.heap.get? b=some o) (hn:h1.Ns s.heap.objs.size (fun _=>none)) (hk:∀b o,s.heap.get? b=some o->h1.get? b=some o) :
  Inv (cxC X N scope cl s.heap.objs.size fp s H) [] (startC k is σ) H {s with heap:=h1,toks:=tk}:=by
 have hC:∀b o,s.heap.get? b=some o->b≠s.heap.objs.size:=fun b o e=>xbt (xbk e)
 have nfs:∀b∈fp,b∉frs X.stack:=fun b hb z=>by
  rcases xbn.mp (I.stkSub b z) with e | e
  ·exact (hf b hb).2.1 e
  ·exact (hf b hb).2.2.1 e
 refine ⟨⟨I.ok.mod,S.kind,I.ok.glob,I.ok.blt,xbg _,fun x y c e1 e2=>I.ok.inj x y c (c1 x c e1) (c1 y c e2),fun x hx=>?_,fun x c z=>?_,I.ok.hd,I.ok.frames,.inl rfl,fun b hb=>⟨?_,fun x c e=>?_⟩,I.bs,xbb I.ok.bsz I.sz,fun b o e hb=>?_,nfs,I.stack,I.stkFree⟩,
  rfl,I.bare,Un.kept hk,⟨_,hn,fun i x v e1 e2 e3=>?_⟩,fun x c e=>?_,I.hok.fresh (xbg _),fun x c e=>I.freeC x c (c1 x c e),fun p hp=>(nomatch hp),I.hok.kept hk,?_,I.hnd⟩
 ·have hx':(scope.names.map fun (n,k)=>if (k == NameKind.free && X.env.scope.kind == .function && X.env.kindOf n == some .cell) then (n,NameKind.cell) else (n,k)).lookup x=some .cell\/(scope.names.map fun (n,k)=>if (k == NameKind.free && X.env.scope.kind == .function && X.env.kindOf n == some .cell) then (n,NameKind.cell) else (n,k)).lookup x=some .free:=hx;have q:scope.names.lookup x=some .free:=by
   rcases hx' with z | z
   ·rcases zbd z with q | ⟨_,q⟩
    ·exact absurd rfl (S.nocell _ (zdl q))
    ·exact q
   ·rcases zbd z with q | ⟨q,_⟩
    ·exact q
    ·cases q
  exact c2 x (zdl q)
 ·cases z
 ·obtain ⟨o,e⟩:=hfo b hb;exact hC b o e
 ·exact (hf b hb).2.2.2.2.1 x c (c1 x c e)
 ·rcases (hf b hb).2.2.2.1 with z | z
  ·exact I.ok.noex b o e z
  ·exact absurd (xbh (xbk (I.ok.bs b o e).1) z) (xgj _)
 ·-- a name of the def around
  unfold startC at e2;have hi:k<=i:=by
   rcases xex i k with z | z
   ·rw[xbx (by rw[xgd];exact z),List.getElem?_replicate,if_pos z] at e2;cases e2
   ·exact z
  rw[xcw (by rw[xgd];exact hi),xgd,xcp] at e2;cases ej:is[i - k]? with
  | none=>rw[ej] at e2;cases e2
  | some j =>
   rw[ej] at e2;have e2':(σ[j]?).getD none=some v:=xbw e2;obtain ⟨y,y1,y2,y3⟩:=S.own (i - k) j ej;have ey:y=x:=by
    have z:N[i]?=some y:=by rw[← y1];congr 1;lia
    have e1':N[i]?=some x:=e1;rw[z] at e1';exact xbw e1'
   subst ey;have e4:σ[j]?=some (some v):=by
    cases q:σ[j]? with
    | none=>rw[q] at e2';cases e2'
    | some o=>rw[q] at e2';exact congrArg some e2'
   have kd:=S.frees _ (zdl y3) rfl;have vis:Vis X.env.scope y:=.inr kd;obtain ⟨m,_,hl⟩:=I.loc;obtain ⟨u,r,lk⟩:=hl j y v y2 e4 vis;refine ⟨u,r,?_⟩;rcases lk with ⟨z,_⟩ | ⟨_,c,e5,cc⟩
   ·rcases kd with q | q<;>(rw[q] at z;cases z)
   ·obtain ⟨c',e6⟩:=c2 y (zdl y3);have:c'=c:=by
     have z:=c1 y c' e6;rw[e5] at z;exact (xbw z).symm
    subst this;refine .inr ⟨?_,c',e6,?_⟩
    ·rcases e3 with z | z | z
     ·exact absurd (zbd z) (by
       rw[y3];rintro (q | ⟨q,_⟩)
       ·cases q
       ·cases q)
     ·exact .inl z
     ·exact .inr z
    ·obtain ⟨o,ho,hd⟩:=cc;exact ⟨o,hk _ o ho,hd⟩
 ·obtain ⟨v,o,ho,hd⟩:=I.cell x c (c1 x c e);exact ⟨v,o,hk _ o ho,hd⟩
 ·unfold startC;rw[xcb,xgd,xbf];exact S.len.symm
theorem zut {N:List Str} {scope:Scope} {cl:List (Str × Addr)} {fp:List Addr} {σ':St} {H':Hp} {s':Shared} {h':Heap} (I:Inv X pins σ H s) (hf:∀b∈fp,FpOk X pins H b) (J:Inv (cxC X N scope cl s.heap.objs.size fp s H) [] σ' H' s')
  (hs:Heap.SameBut s.heap.objs.size s'.heap h'):Inv X pins σ H' {s' with heap:=h'}:=by
 have hC:∀b o,s.heap.get? b=some o->b≠s.heap.objs.size:=fun b o e=>xbt (xbk e)
 have hH:H' s.heap.objs.size=none:=J.free;have B:Un (frs X.stack) fp H H' s.heap s'.heap:=J.base
 have U:Un (frs X.stack) fp H H' s.heap h':=⟨fun b o e n h1 h2=>hs.extBut b o (hC b o e) (B.keep b o e n h1 h2),fun b o e n h1 h2=>by
   obtain ⟨sl,q⟩:=B.slot b o e n h1 h2;exact ⟨sl,hs.extBut b _ (hC b o e) q⟩,B.free,fun b o e hx=>by
   obtain ⟨o',q⟩:=B.there b o e hx
   exact ⟨o',hs.extBut b o' (hC b o e) q⟩,B.tups,B.frzs,B.tbls⟩
 refine I.call' (s':={s' with heap:=h'}) J.os U (fun a o e=>?_) J.bare (fun b hb=>⟨(hf b hb).2.2.2.1,(hf b hb).2.1,(hf b hb).2.2.2.2.1,(hf b hb).2.2.2.2.2⟩);refine (J.hok a o e).stay (fun b u hb q=>hs.extBut b u ?_ q) (fun _ q=>q) fun _ _ q=>q
 rcases hb with z | z
 ·intro y;rw[z] at y;rw[y,hH] at e;cases e
 ·intro y;rw[y,hH] at z;cases z
end
structure OffC (X:Cx) (pins:List (Addr × Obj)) (H:Hp) (C:Addr):Prop where
 free:H C=none
 loc:C≠X.env.locals
 young:X.s₀.heap.objs.size<=C
 cell:∀x c,X.env.cells.lookup x=some c->c≠C
 pin:∀p∈X.pn++pins,p.1≠C
theorem OffC.back {X:Cx} {pins:List (Addr × Obj)} {σ:St} {H:Hp} {C:Addr} {s:Shared} {h':Heap} (o:OffC X pins H C) (I:Inv X pins σ H s) (hs:Heap.SameBut C s.heap h'):Inv X pins σ H {s with heap:=h'} :=
 I.turned (t':=s.toks) (fun b u hb e=>hs.extBut b u hb e) o.free o.loc (.inr o.young) o.cell o.pin
noncomputable def nxC (p:Addr) (te:TE) (tc:TT) (N:St->Hp->Prop):St->Hp->Prop:=fun σ2 H3=>tc σ2 H3 fun b H4 =>
 if b=true then te σ2 H4 fun y H5=>∃xs,H5 p=some (.lst xs)/\xs.length < sizeLine/\N σ2 (upd H5 p (.lst (xs++[y]))) else N σ2 H4
noncomputable def CompG (J:It) (g:TG) (tc:TT) (te:TE) (Q:VK) (p:Addr) (σ:St) (H:Hp):Prop:=∃W:Nat->Nat->St->Hp->Prop,(∃m,W 0 m σ H) /\
 ∀i m σ' H',W i m σ' H'->(J.stop i H'/\Q (.ref p) H')\/(J.go i H'/\∃N:St->Hp->Prop,(∀σ2 H2,N σ2 H2->∃m',m' < m/\W (i+1) m' σ2 H2)/\∀x H2,J.yld i H' x H2->g x σ' H2 (nxC p te tc N))
noncomputable def tComp (wi:TI) (k:Nat) (is:List Nat) (g:TG) (tc:TT) (te:TE):TE:=fun σ H Q=>wi σ H fun J H1=>∀p,H1 p=none->CompG J g tc te Q p (startC k is σ) (upd H1 p (.lst []))
noncomputable def tYes:TT:=fun _ H Q=>Q true H
section
variable {X:Cx} {tg iter elt:Expr} {ifs:List Expr} {wi:TI} {g:TG} {tc:TT} {te:TE} {N:List Str} {k:Nat} {is:List Nat} {scope:Scope} {pos:Pos}
noncomputable def PIf (X:Cx) (ifs:List Expr) (t:TT):Prop :=
 ∀(pins:List (Addr × Obj)) (s:Shared) (σ:St) (H:Hp) (Q:Bool->Hp->Prop),Inv X pins σ H s->t σ H Q ->
  wpAny (model X.prog X.w) X.A (forIn ifs true fun c r=>if r=true then do let ok ← isTrue c X.env (eval c X.env);pure (ForInStep.yield ok) else pure (ForInStep.yield r)) (TP X pins σ Q) X.xe s
theorem zxv:PIf X [] tYes:=fun pins s σ H Q I h=>wpAny_tests_nil ⟨H,I,h⟩
theorem zxu {c:Expr} {t:TT} (h:PT X c t):PIf X [c] t:=fun pins s σ H Q I hq=>wpAny_tests_one (h pins s σ H Q I hq)
theorem zhz (hcalm:X.calm=true) (hg:∀cl C fp s H,PG (cxC X N scope cl C fp s H) tg g) (hc:∀cl C fp s H,PIf (cxC X N scope cl C fp s H) ifs tc) (he:∀cl C fp s H,PE (cxC X N scope cl C fp s H) elt te)
  (S:CompScope X N k is scope) {pins:List (Addr × Obj)} {σ:St} {H2:Hp} {s2:Shared} {cl:List (Str × Addr)} {it:Addr} {fp:List Addr} {tn:Nat->Heap->Prop} {J:It} {Q:VK} {E:Value->Shared->Prop} {RR:Value->Addr->Result->Shared->Prop}
  (I2:Inv X pins σ H2 s2) (T:Turn X.prog X.w X.K tg J fp it tn) (st2:tn 0 s2.heap) (f2:∀b∈fp,FpOk X pins H2 b)
  (c1:∀x c,cl.lookup x=some c->X.env.cells.lookup x=some c) (c2:∀x,(x,NameKind.free)∈scope.names->∃c,cl.lookup x=some c)
  (h:∀p,H2 p=none->∃W:Nat->Nat->St->Hp->Prop,(∃m,W 0 m (startC k is σ) (upd H2 p (.lst []))) /\
   ∀i m σ' H',W i m σ' H'->(J.stop i H'/\Q (.ref p) H')\/(J.go i H'/\∃N:St->Hp->Prop,(∀σ2 H2,N σ2 H2->∃m',m' < m/\W (i+1) m' σ2 H2)/\∀x H2,J.yld i H' x H2->g x σ' H2 (nxC p te tc N)))
  (hR:∀(p C:Addr) (s':Shared) (H':Hp) (m:Str->Option Value),OffC X pins H' C->s'.heap.Ns C m->Inv X pins σ H' s'->Q (.ref p) H'->RR (.ref p) C (.ok .next) s') :
  wpAny (model X.prog X.w) X.A (newList []) (fun acc s₃=>wpAny (model X.prog X.w) X.A (newFunctionEnv scope X.env.globals cl [] X.env.qual none .none (some X.env)) (fun cenv s₄ =>
   codeAny (model X.prog X.w) X.A (.compStart (.ListComp elt [⟨tg,iter,ifs,0⟩] scope pos) 0 (.ref it) acc {cenv with scope:=relabel scope X.env}) (RR acc cenv.locals) s₄) E s₃) E s2:=by
 refine xeh ?_;have fresh:H2 s2.heap.objs.size=none:=I2.fresh;have I3 : Inv X pins σ (upd H2 s2.heap.objs.size (.lst [])) { s2 with heap := s2.heap.push { cls := .type "list", dict := none, data := .seq ([] : List Value).toArray } } := I2.lnew (t' := s2.toks) (.nil) (by decide)
 generalize hs3 : ({ s2 with heap := s2.heap.push { cls := .type "list", dict := none, data := .seq ([] : List Value).toArray } } : Shared) = s3 at I3
 have k3:∀b o,s2.heap.get? b=some o->s3.heap.get? b=some o:=fun b o e=>by rw[← hs3];exact xbc _ e
 refine wpAny_newFunctionEnv S.nocell (by intro y hy;simp at hy) (fun h₁ hns₁ hsb₁=>?_) S.kind;have st3:tn 0 s3.heap:=T.keep _ _ _ st2 fun b _ o e=>k3 b o e
 have f3:∀b∈fp,FpOk X pins (upd H2 s2.heap.objs.size (.lst [])) b:=fun b hb=>by
  obtain ⟨o,e,_⟩:=T.obj _ _ st2 b hb;exact ⟨by rw[zj (xbt (xbk e))];exact (f2 b hb).1,(f2 b hb).2⟩
 have k4:∀b o,s3.heap.get? b=some o->h₁.get? b=some o:=fun b o e=>hsb₁.extBut b o (xbt (xbk e)) (xbc _ e)
 have J4:=zus (tk:=s3.toks+([]:List (Str × Value)).length) S I3 c1 c2 f3 (fun b hb=>let ⟨o,e,_⟩:=T.obj _ _ st3 b hb;⟨o,e⟩) hns₁ k4;obtain ⟨W,⟨m0,w0⟩,turn⟩:=h s2.heap.objs.size fresh;have st4:tn 0 h₁:=T.keep _ _ _ st3 fun b _ o e=>k4 b o e
 have loop:codeAny (model X.prog X.w) X.A (.compLoop (.ListComp elt [⟨tg,iter,ifs,0⟩] scope pos) 0 (.ref it) (.ref s2.heap.objs.size) (compEnvC scope cl s3.heap.objs.size X.env)) (RR (.ref s2.heap.objs.size) s3.heap.objs.size) {s3 with heap:=h₁,toks:=s3.toks+([]:List (Str × Value)).length}:=by
  have stat:∀{H':Hp},(∀b∈fp,H' b=none)->∀b∈fp,FpOk (cxC X N scope cl s3.heap.objs.size fp s3 (upd H2 s2.heap.objs.size (.lst []))) [] H' b:=fun {H'} hn b hb=>by
   obtain ⟨o,e,_⟩:=T.obj _ _ st3 b hb;refine ⟨hn b hb,xbt (xbk e),J4.ok.exfs b hb,.inl hb,fun x c e'=>(f3 b hb).2.2.2.2.1 x c (c1 x c e'),fun p hp=>(nomatch hp)⟩
  refine zrm (fun n s'=>∃i σ' H',Inv (cxC X N scope cl s3.heap.objs.size fp s3 (upd H2 s2.heap.objs.size (.lst []))) [] σ' H' s'/\tn i s'.heap/\(∀b∈fp,H' b=none)/\W i n σ' H') ?_ m0
   ⟨0,_,_,J4,st4,fun b hb=>(f3 b hb).1,w0⟩
  rintro n s5 ⟨i,σ5,H5,I5,st5,fr5,w5⟩;rcases turn i n σ5 H5 w5 with ⟨stop,q⟩ | ⟨go,N',hN',step⟩
  ·refine thn (T.done (cxC X N scope cl s3.heap.objs.size fp s3 (upd H2 s2.heap.objs.size (.lst []))) rfl rfl rfl hcalm i [] s5 σ5 H5 _ I5 (stat fr5) st5 stop) fun r s6 hq0=>?_
   obtain ⟨hr,I6⟩:=hq0;subst hr;obtain ⟨m,hm,_⟩:=I6.loc;refine hR _ _ s6 H5 m ⟨I6.free,xkj I3.lt,I3.sz,fun x c e=>?_,fun p hp=>xbt (xbk (I3.pin p hp).1)⟩ hm (zut (h':=s6.heap) I3 f3 I6 (.refl ..)) q;obtain ⟨v,o,ho,_⟩:=I3.cell x c e;exact xbt (xbk ho)
  ·refine thn (T.item (cxC X N scope cl s3.heap.objs.size fp s3 (upd H2 s2.heap.objs.size (.lst []))) rfl rfl rfl hcalm i [] s5 σ5 H5 _ I5 (stat fr5) st5 go) fun r s6 hq0=>?_
   obtain ⟨u,hr,h6⟩:=hq0;subst hr;refine thn h6 fun _ s7 hq0=>?_
   obtain ⟨x,H7,I7,r7,y7,st7,fr7⟩:=hq0;have I7':=I7.pinned (stat fr7) (T.obj _ _ st7);refine thn (hg cl s3.heap.objs.size fp s3 _ _ s7 σ5 H7 x u _ I7' r7 (step x H7 y7)) fun _ s8 hq0=>?_
   obtain ⟨σ8,H8,I8,q8⟩:=hq0;refine thn (hc cl s3.heap.objs.size fp s3 _ _ s8 σ8 H8 _ I8 q8) fun b s9 hq0=>?_
   obtain ⟨H9,I9,q9⟩:=hq0;have again:∀{σ':St} {H':Hp} {s':Shared} {m':Nat},Inv (cxC X N scope cl s3.heap.objs.size fp s3 (upd H2 s2.heap.objs.size (.lst []))) ([]++pinsAt fp s7.heap) σ' H' s'->m' < n->W (i+1) m' σ' H' ->
     ∃m,m < n/\∃i σ' H',Inv (cxC X N scope cl s3.heap.objs.size fp s3 (upd H2 s2.heap.objs.size (.lst []))) [] σ' H' s'/\tn i s'.heap/\(∀b∈fp,H' b=none)/\W i m σ' H':=fun {σ' H' s' m'} I' hm w'=>by
    refine ⟨m',hm,i+1,σ',H',I'.unpinned,T.keep _ _ _ st7 fun b hb o e=>(I'.pin (b,o) (xcz _ (xcz _ (zdk hb e)))).1,fun b hb=>?_,w'⟩;obtain ⟨o,e,d⟩:=T.obj _ _ st7 b hb;exact (I'.pin (b,o) (xcz _ (xcz _ (zdk hb e)))).2.1
   cases b with
   | false =>
    obtain ⟨m',hm,w'⟩:=hN' _ _ q9;exact again I9 hm w'
   | true =>
    refine thn (he cl s3.heap.objs.size fp s3 _ _ s9 σ8 H9 _ I9 q9) fun v s10 hq0=>?_
    obtain ⟨y,H10,I10,r10,xs,hxs,hz,n10⟩:=hq0;obtain ⟨m',hm,w'⟩:=hN' _ _ n10;refine thn (zjx (X:=cxC X N scope cl s3.heap.objs.size fp s3 (upd H2 s2.heap.objs.size (.lst []))) _ s10 σ8 H10 (.ref s2.heap.objs.size) [y] _ [v] (fun _ H'=>H'=upd H10 s2.heap.objs.size (.lst (xs++[y]))) I10 rfl (.cons r10 .nil) ⟨_,xs,y,rfl,rfl,hxs,hz,rfl⟩) fun _ s11 hq0=>?_
    obtain ⟨_,H11,I11,_,e11⟩:=hq0;subst e11;exact again I11 hm w'
 have hs3' : s2.heap.push { cls := .type "list", dict := none, data := .seq ([] : List Value).toArray } = s3.heap := by rw [← hs3]
 have fin:=codeAny_compStart_list (elt:=elt) (target:=tg) (iter:=iter) (ifs:=ifs) (rest:=[]) (scope:=scope) (pos:=pos) loop (T.self X.A 0 _ _ _ st4 loop);exact fin
theorem zff (S:CompScope X N k is scope) {pins:List (Addr × Obj)} {σ:St} {H:Hp} {s:Shared} (I:Inv X pins σ H s) :
  ∃cl,closureFor scope X.env=pure cl/\(∀x c,cl.lookup x=some c->X.env.cells.lookup x=some c)/\∀x,(x,NameKind.free)∈scope.names->∃c,cl.lookup x=some c :=
 zog fun y hy hf=>I.ok.has y.1 (S.frees y hy hf)
theorem zyf (hcalm:X.calm=true) (hi:PI X tg iter wi) (hg:∀cl C fp s H,PG (cxC X N scope cl C fp s H) tg g) (hc:∀cl C fp s H,PIf (cxC X N scope cl C fp s H) ifs tc) (he:∀cl C fp s H,PE (cxC X N scope cl C fp s H) elt te)
  (S:CompScope X N k is scope) (hs:∀x,foldedSetIterable iter X.env x=pure x:=by intro _;rfl):PE X (.ListComp elt [⟨tg,iter,ifs,0⟩] scope pos) (tComp wi k is g tc te):=by
 intro pins s σ H Q I h;obtain ⟨cl,e,c1,c2⟩:=zff S I;rw[eval_ListComp];refine wpAny_comprehension_free (use:=none) rfl hs e S.kind S.names (thn (hi pins s σ H _ I h) fun xv s1 h1=>thn h1 fun itv s2 h2=>?_);obtain ⟨it,fp,tn,J,H2,e2,I2,T,st2,f2,h3⟩:=h2;subst e2;refine zhz (Q:=Q) (RR:=fun acc C=>compPost (model X.prog X.w) X.A X.xe none (EP X pins σ Q) acc C) hcalm hg hc he S I2 T st2 f2 c1 c2 h3 ?_;intro p C s' H' m off hm I' q;exact ⟨m,hm,fun h' hs'=>⟨.ref p,H',off.back I' hs',rfl,q⟩⟩
theorem zxp {i:Nat} {x:Str} {pos':Pos} (hcalm:X.calm=true) (hN:X.N.Nodup) (hxi:X.N[i]?=some x) (hx:Loc X.env.scope x) (hi:PI X tg iter wi) (hg:∀cl C fp s H,PG (cxC X N scope cl C fp s H) tg g) (hc:∀cl C fp s H,PIf (cxC X N scope cl C fp s H) ifs tc)
  (he:∀cl C fp s H,PE (cxC X N scope cl C fp s H) elt te) (S:CompScope X N k is scope) {spos:Pos} (hsw:swapsWith (.ListComp elt [⟨tg,iter,ifs,0⟩] scope pos) (some (.Name x pos')) spos.line X.env=pure true:=by rfl)
  (hf:X.fn x=true\/X.env.scope.names.lookup x=some .local:=by first | exact .inl rfl | exact .inr rfl | assumption)
  (hs:∀x,foldedSetIterable iter X.env x=pure x:=by intro _;rfl):PS X (.Assign [.Name x pos'] (.ListComp elt [⟨tg,iter,ifs,0⟩] scope pos) spos) (tAsg (tComp wi k is g tc te) (gName i)):=by
 intro pins s σ H D I h;obtain ⟨cl,e,c1,c2⟩:=zff S I;rw[exec_Assign_Name_used (hs:=hsw)];refine xba (xiz (xba (?_:wpAny _ X.A _ _ _ s)));show wpAny _ X.A (do let _ ← comprehension (.ListComp elt [⟨tg,iter,ifs,0⟩] scope pos) scope X.env _ (newList []) false (eval iter X.env) (some (assign (.Name x pos') X.env))) _ _ s
 refine xba (xdj (wpAny_comprehension_free (use:=some (assign (.Name x pos') X.env)) (Q:=fun _ s'=>SP X pins D .next s') rfl hs e S.kind S.names
  (thn (hi pins s σ H _ I h) fun xv s1 h1=>thn h1 fun itv s2 h2=>?_)) (fun _ s' hq=>xbd (xbd hq)) fun _ _ e=>e)
 obtain ⟨it,fp,tn,J,H2,e2,I2,T,st2,f2,h3⟩:=h2;subst e2;refine zhz (Q:=fun v H'=>gName i v σ H' D.nx) (RR:=fun acc C=>compPost (model X.prog X.w) X.A X.xe (some (assign (.Name x pos') X.env)) (fun _ s'=>SP X pins D .next s') acc C) hcalm hg hc he S I2 T st2 f2 c1 c2 h3 ?_;intro p C s' H' m off hm I' q;show wpAny _ X.A (assign (.Name x pos') X.env (.ref p)) _ _ _;refine wpAny_assign_Name (zjq (v:=.ref p) I' hN hxi hx rfl (fun s'' I'' hq0=>?_) hf);obtain ⟨a,hsb,ha⟩:=hq0;have hCa:C≠a:=by
  rcases ha with z | z
  ·rw[z];exact off.loc
  ·exact (off.cell x a z).symm
 exact ⟨m,hm.sameBut hsb hCa,fun h' hs'=>⟨_,H',off.back I'' hs',q⟩⟩
end
section
variable {g:TG} {tc:TT} {te:TE} {Q:VK} {σ:St} {H:Hp} {p:Addr}
end
noncomputable def Callee (P:Program) (w:World) (K:Fg) (mg:Str->Option Value) (base:Heap) (x:Str) (k:Nat) (ps:List Str) (sp:Sp):Prop :=
 ∃f fd,FnOk P w K mg base CX0 k f fd ps sp/\Binds K fd ps []/\PySem.W.keepIn K (.ref f)=true/\mg x=some (.ref f)
section
variable {X:Cx} {x:Str} {k:Nat} {ps:List Str} {sp:Sp} {p pos:Pos} {e:Expr} {es:List Expr} {t:TA}
theorem zua (c : Callee X.prog X.w X.K X.mg X.base x k ps sp) (hr : Room k X.A) (hg : Gl X x) (ha : PA X (e :: es) t) (hdb : (x == ("__debug__" : Str)) = false := by decide)
  (he:starEach (e::es) X.env=(false,eval e X.env)::starEach es X.env:=by rfl) (hpl:(backTo pos (starEach es X.env)).any (·.1)=false:=by rfl) :
  PE X (.Call (.Name x p) (e::es) [] pos) (tCall sp [] E0 t):=by
 obtain ⟨f,fd,F,b,kp,m⟩:=c;exact zyh F hr hg m kp b .nil pass0 ha hdb he hpl
end
noncomputable def TopF (K:Fg) (x:Str) (st:Stmt):Prop :=
 ∃f fd,PySem.W.nsIn K mainGlobals x=some (some (.ref f))/\Fun K x x st f fd
theorem zcs {K:Fg} {x:Str} {st:Stmt} {f:Addr} {od an:Option Addr} {sl:Array (Option Value)} {oc kV dc pm cd ct:Value}
  (a:PySem.W.nsIn K mainGlobals x=some (some (.ref f))) (l:K.lookup f=some ⟨oc,od,.func (PySem.W.fnOf x x (defArgs st) (defBody st) (defScope st) .none kV dc pm an cd ct),sl⟩) (c:PySem.W.codeIn K cd x=true) (k:PySem.W.keepIn K (.ref f)=true):TopF K x st :=
 ⟨f,_,a,zzl l c k⟩
theorem zrn {P:Program} {w:World} {K:Fg} {mg:Str->Option Value} {base h:Heap} {x:Str} {st:Stmt} {N ps:List Str} {k:Nat} {sp:Sp} (T:TopF K x st) (X:K.In h) (G:h.Ns mainGlobals mg) (S:FnScope N ps (defScope st))
  (bd:∀(kV doc pm:Value) (an:Option Addr) (cdv ct:Value) (us:List Value),us.length=ps.length->bindArgs (PySem.W.fnOf x x (defArgs st) (defBody st) (defScope st) .none kV doc pm an cdv ct) ⟨us,[]⟩=pure (ps.zip us))
  (len:∀vs H Q E,sp vs H Q E->vs.length=ps.length)
  (hbody:∀(f:Addr) (cdv:Value) (A:Around) (outer:List Env) (s:Shared) (H:Hp) (vs:List V) (Q:VK) (E:XK),Room k (A.deeper (envOfC x (defScope st) s.heap.objs.size f cdv))->sp vs H Q E ->
   ∃t,PSs (cxOf CX0 P w K mg base N x (defScope st) f cdv A outer s H E).nox (defBody st) t/\t {nx:=fun _ H'=>Q .non H',rt:=Q} (start N vs) H):Callee P w K mg base x (k+1) ps sp:=by
 obtain ⟨f,fd,a,F⟩:=T;exact ⟨f,fd,F.ok S len (hbody f),F.binds bd,F.kp,xfq X G a⟩
section
variable {X:Cx}
theorem zck : CallR X (.builtin "isinstance") (fun xs H Q => ∃ x T t b, xs = [x, .ty T] /\ TyOf X.K H x t /\ PySem.W.kitOne X.K t (.type T) = some b /\ Q (.bl b) H) := by
 intro pins s σ H xs us Q I r h;obtain ⟨x,T,t,b,rfl,ty,e,q⟩:=h;obtain ⟨u,w',rfl,ru,rw'⟩:=vals2 r;cases (show w'=Value.type T from rw');exact zqs I ru ty e fun tk=>⟨.bl b,H,I.tok tk,rfl,q⟩
noncomputable def CDivP (i j:Int):Prop:=0 < j/\j < 2 ^ 1000
theorem zmt:OpR X (binaryOp .FloorDiv) (rI CDivP fun i j=>.int (i / j)):=opI fun i j _ _ _ _ _ hc q=>by
 have e:i.fdiv j=i / j:=Int.fdiv_eq_ediv_of_nonneg i (by have:=hc.1;lia);refine floordiv_int (by have:=hc.1;lia) (by rw[e];exact q) (.inl (PyProof.noPylong_of_log2 ?_));have h1:j.natAbs < 2 ^ 1000:=by
  have h2:=hc.1;have h3:=hc.2;have h4:(j.natAbs:Int)=j:=by lia
  have h5:(j.natAbs:Int) < ((2 ^ 1000:Nat):Int):=by
   rw[h4];exact_mod_cast h3
  exact_mod_cast h5
 have h0:j.natAbs≠0:=by have:=hc.1;lia
 have:=(Nat.log2_lt h0).mpr h1;lia
end
section
variable {X:Cx} {st:Stmt} {t:TS}
end
noncomputable def compLook (XN:List Str) (xs:List (Str × NameKind)) (N:List Str) (k:Nat) (is:List Nat) (scope:Scope):Bool :=
 (scope.kind == .function) && scope.names.all (fun y=>y.2 != .cell) && scope.names.all (fun y=>y.2 != .local || scope.names.lookup y.1 == some .local) &&
 scope.names.all (fun y=>y.2 != .free || (xs.lookup y.1 == some .cell || xs.lookup y.1 == some .free)) && (N.length == k+is.length) &&
 (List.range is.length).all (fun j=>match is[j]?,N[k+j]? with
  | some i,some x=>XN[i]? == some x && scope.names.lookup x == some .free
  | _,_=>false)
theorem zhy {X:Cx} {N:List Str} {k:Nat} {is:List Nat} {scope:Scope} (h:compLook X.N X.env.scope.names N k is scope=true):CompScope X N k is scope:=by
 unfold compLook at h;simp only[xel,xed] at h;obtain ⟨⟨⟨⟨⟨h1,h2⟩,h3⟩,h4⟩,h5⟩,h6⟩:=h;refine ⟨eq_of_beq h1,fun y hy e=>?_,fun y hy e=>?_,fun y hy e=>?_,eq_of_beq h5,fun j i e=>?_⟩
 ·have:=h2 y hy;rw[e] at this;simp at this
 ·have:=h3 y hy;rw[e] at this;simp at this;exact this
 ·have:=h4 y hy;rw[e] at this;simp at this;exact this
 ·have hj:j < is.length:=(xbo.mp e).1;have:=h6 j (xgn.mpr hj);rw[e] at this;cases e2:N[k+j]? with
  | none=>rw[e2] at this;cases this
  | some x =>
   rw[e2] at this;simp only[xel,xfz] at this;exact ⟨x,rfl,this.1,this.2⟩
theorem zib : bootBuiltins "len" = some (.builtin "len") := by decide +kernel
theorem zbfo : bootBuiltins "abs" = some (.builtin "abs") := by decide +kernel
theorem zvx : bootBuiltins "min" = some (.builtin "min") := by decide +kernel
theorem zvy : bootBuiltins "max" = some (.builtin "max") := by decide +kernel
theorem zvw : bootBuiltins "sum" = some (.builtin "sum") := by decide +kernel
theorem zkl : bootBuiltins "sorted" = some (.builtin "sorted") := by decide +kernel
theorem zbfn : bootBuiltins "all" = some (.builtin "all") := by decide +kernel
theorem zbg : bootBuiltins "isinstance" = some (.builtin "isinstance") := by decide +kernel
theorem zbbf : bootBuiltins "int" = some (.type "int") := by decide +kernel
theorem zsu : bootBuiltins "bool" = some (.type "bool") := by decide +kernel
theorem zha : bootBuiltins "tuple" = some (.type "tuple") := by decide +kernel
theorem zbbe : bootBuiltins "list" = some (.type "list") := by decide +kernel
theorem zlv {H:Hp} {p:Addr} {o:HO} (h:H p=some o):upd H p o=H:=by
 funext b
 unfold upd;split
 ·subst b;exact h.symm
 ·rfl
section
variable {X:Cx} {K:Fg}
end
end L2
namespace Srt
open PySem PySem.W PyProof.Rows
section
variable (r:Nat->Nat)
noncomputable def lt (i j:Nat):Bool:=decide (r i < r j)
noncomputable def At (p:Array Nat) (i:Nat):Nat:=r (p.getD i 0)
noncomputable def Up (p:Array Nat) (n:Nat):Prop:=∀i j,i<=j->j < n->At r p i<=At r p j
end
section
variable {r:Nat->Nat} {p:Array Nat} {n:Nat}
end
section
variable {n:Nat}
end
section
variable {P:Program} {w:World} {B:Around} {E:Value->Shared->Prop} {st:Shared}
noncomputable def midHeap (h : Heap) (d : Addr) (xs : List Value) : Heap := ((h.update d (Obj.mapSeq fun _ => (#[] : Array Value))).push (seqObj "tuple" xs.toArray 0)).push (seqObj "list" #[] 0)
theorem zfw {h:Heap} {d b:Addr} {xs:List Value} {ob:Obj} (ne:b≠d) (e:h.get? b=some ob):(midHeap h d xs).get? b=some ob :=
 xbc _ (xbc _ ((xhw _ _ _ _ ne).trans e))
noncomputable def Answers (P:Program) (w:World) (B:Around) (r:Nat->Nat) (xs:List Value) (sg:Shared):Prop :=
 ∃κ,(∀R:SortKind->Shared->Prop,R κ sg->wpAny (model P w) B (keyKind' xs.toArray) R (fun _ _=>False) sg) /\
  ∀i j C,i < xs.length->j < xs.length->C (lt r i j) sg->kas_ask P w B κ xs i j C sg
noncomputable def outOf (xs:List Value) (p:Array Nat):Array Value:=List.toArray (p.toList.map fun i=>xs.getD i Value.none)
theorem zpl {xs:List Value} (h:xs.length < 2):(xs.toArray.zip xs.toArray).map (·.2)=outOf xs (List.toArray (List.range xs.length)):=by
 unfold outOf
 match xs,h with
 | [],_=>simp
 | [_],_=>simp[List.range_succ]
 | _::_::_,h=>exact absurd h (by simp)
end
end Srt
namespace Srt
open PySem PySem.W PyProof.Rows HT
theorem zev:∀a:List Int,lexLt a a=false
 | []=>rfl
 | x::a=>by rw[zcj,if_pos rfl];exact zev a
theorem zeg:∀{a b c:List Int},lexLt a b=true->lexLt b c=true->lexLt a c=true
 | _,[],[],_,h=>by rw[zcx] at h;cases h
 | _,_::_,[],_,h=>by rw[zcm] at h;cases h
 | [],[],_::_,h,_=>by rw[zcx] at h;cases h
 | _::_,[],_::_,h,_=>by rw[zcm] at h;cases h
 | [],_::_,_::_,_,_=>zbs _ _
 | x::a,y::b,z::c,h1,h2=>by
  rw[zcj] at h1 h2 ⊢;by_cases e1:x=y
  ·rw[if_pos e1] at h1;subst e1;by_cases e2:x=z
   ·rw[if_pos e2] at h2 ⊢;exact zeg h1 h2
   ·rw[if_neg e2] at h2 ⊢;exact h2
  ·rw[if_neg e1] at h1;have h1':=xfo h1;by_cases e2:y=z
   ·subst e2;rw[if_neg e1];exact h1
   ·rw[if_neg e2] at h2;have h2':=xfo h2;rw[if_neg (by lia)];exact xcj (by lia)
theorem zho:∀a b:List Int,lexLt a b=true\/a=b\/lexLt b a=true
 | [],[]=>.inr (.inl rfl)
 | [],_::_=>.inl (zbs _ _)
 | _::_,[]=>.inr (.inr (zbs _ _))
 | x::a,y::b=>by
  rw[zcj,zcj];by_cases e:x=y
  ·subst e;rw[if_pos rfl,if_pos rfl];rcases zho a b with h | h | h
   ·exact .inl h
   ·exact .inr (.inl (by rw[h]))
   ·exact .inr (.inr h)
  ·rw[if_neg e,if_neg (fun z=>e z.symm)];rcases Int.lt_or_gt_of_ne e with h | h
   ·exact .inl (xcj h)
   ·exact .inr (.inr (xcj h))
theorem zqm {a b:List Int} (h:lexLt a b=true):lexLt b a=false:=by
 cases e:lexLt b a with
 | false=>rfl
 | true=>have:=zeg h e;rw[zev] at this;cases this
theorem zoe {p q:Nat->Bool} (hpq:∀x,p x=true->q x=true):∀{l:List Nat} {y:Nat},y∈l->q y=true->p y=false->l.countP p < l.countP q
 | [],_,h,_,_=>nomatch h
 | x::l,y,h,h1,h2=>by
  have mono:∀l:List Nat,l.countP p<=l.countP q:=fun l=>List.countP_mono_left fun x _=>hpq x
  rcases xbn.mp h with rfl | h
  ·rw[xgr h1,xin (by rw[h2];decide)];exact Nat.lt_succ_of_le (mono l)
  ·have ih:=zoe hpq h h1 h2;by_cases c:p x=true
   ·rw[xgr c,xgr (hpq x c)];lia
   ·rw[xin c];by_cases d:q x=true
    ·rw[xgr d];lia
    ·rw[xin d];exact ih
noncomputable def rank (ks:List (List Int)) (i:Nat):Nat:=(List.range ks.length).countP fun k=>lexLt (ks.getD k []) (ks.getD i [])
theorem zmk {ks:List (List Int)} {i j:Nat} (hi:i < ks.length) (hj:j < ks.length):lt (rank ks) i j=lexLt (ks.getD i []) (ks.getD j []):=by
 have up:∀{a b:Nat},a < ks.length->lexLt (ks.getD a []) (ks.getD b [])=true->rank ks a < rank ks b:=fun {a b} ha h =>
  zoe (fun x hx=>zeg hx h) (xgn.mpr ha) h (zev _)
 cases e:lexLt (ks.getD i []) (ks.getD j []) with
 | true=>exact xcj (up hi e)
 | false =>
  refine xbu fun h=>?_
  rcases zho (ks.getD i []) (ks.getD j []) with z | z | z
  ·rw[e] at z;cases z
  ·unfold rank at h;rw[z] at h;exact absurd h (xgj _)
  ·have:=up hj z;lia
section
variable {prog:Program} {w:World} {A:Around} {s:Shared} {b:Bool} {Q:Bool->Shared->Prop}
theorem znj:∀{us ws:List Value} {ns ms:List Int} (i:Nat),IntsAre us ns->IntsAre ws ms->Q (lexLt ns ms) s->KatLex prog w A b (decide (us.length < ws.length)) Q (us.zip ws) i s
 | _,_,_,_,_,.nil,.nil,h=>h
 | _,_,_,_,_,.nil,.cons _ _ _,h=>h
 | _,_,_,_,_,.cons _ _ _,.nil,h=>h
 | _,_,_,_,i,.cons x t (vs:=us) (ns:=ns) r1,.cons y u (vs:=ws) (ns:=ms) r2,h=>by
  rw[zcj] at h;refine kat_cons (wpAny_eqBool_int (kat_go (fun e=>kat_yes ?_) fun e=>kat_no ?_))
  ·rw[if_pos (eq_of_beq e)] at h;have q:=znj (i+1) r1 r2 h;have ee:decide ((Value.int x t::us).length < (Value.int y u::ws).length)=decide (us.length < ws.length):=by
    rw[xby,xby,xge];simp
   rw[ee];exact q
  ·rw[if_neg (xft.mp e)] at h;cases hb:(b && i == 0) with
   | true=>exact oneLt_int h
   | false=>exact kat_one _ _ (PyProof.Rows.lt_int h)
end
end Srt
namespace L2
open PySem PySem.Spec PyProof.Rows PySem.W
theorem zjm:∀{as:List Addr} {us:List Value},Vals (as.map V.ref) us->us=as.map Value.ref
 | [],_,.nil=>rfl
 | a::as,_,.cons r t=>by
  rw[show _=Value.ref a from r,zjm t]
  rfl
noncomputable def TupsAt (K:Fg) (H:Hp) (ps:List (Addr × List Int)):Prop:=∀p∈ps,SqT K H p.1 (p.2.map V.int)
theorem zn {α β:Type} (f:α->β) (d:β) {l:List α} {i:Nat} {x:α} (h:l[i]?=some x):(l.map f).getD i d=f x:=by
 rw[xcl,xcp,h]
 rfl
section
variable {X:Cx}
end
end L2
namespace L2
open PySem PySem.Spec PyProof.Rows
mutual
inductive DAt (K:Fg) (H:Hp):V->PyData->Prop
 | non:DAt K H .non .none
 | bl (b:Bool):DAt K H (.bl b) (.bool b)
 | int (i:Int):DAt K H (.int i) (.int i)
 | str (x:Str):DAt K H (.str x) (.str x)
 | lst {a:Addr} {xs:List V} {ds:List PyData}:SqL K H a xs->DAll K H xs ds->DAt K H (.ref a) (.list ds)
 | tup {a:Addr} {xs:List V} {ds:List PyData}:SqT K H a xs->DAll K H xs ds->DAt K H (.ref a) (.tuple ds)
inductive DAll (K:Fg) (H:Hp):List V->List PyData->Prop
 | nil:DAll K H [] []
 | cons {x:V} {xs:List V} {d:PyData} {ds:List PyData}:DAt K H x d->DAll K H xs ds->DAll K H (x::xs) (d::ds)
end
section
variable {X:Cx} {pins:List (Addr × Obj)} {σ:St} {H:Hp} {s:Shared}
mutual
theorem zeu (I:Inv X pins σ H s):∀{v:V} {d:PyData} {u:Value},DAt X.K H v d->RelV v u->∃as,Reads s.heap u d as
 | _,_,_,.non,r=>by cases r;exact ⟨_,.none⟩
 | _,_,_,.bl b,r=>by cases r;exact ⟨_,.bool b⟩
 | _,_,_,.int i,r=>by obtain ⟨t,rfl⟩:=r;exact ⟨_,.int i t⟩
 | _,_,_,.str x,r=>by obtain ⟨t,rfl⟩:=r;exact ⟨_,.str x t⟩
 | _,_,_,.lst h all,r=>by
  cases r;obtain ⟨its,rv,⟨o,n,e,c,_,dd⟩,_⟩:=I.list h;obtain ⟨as,q⟩:=zdt I all rv;exact ⟨_,.list e c dd q⟩
 | _,_,_,.tup h all,r=>by
  cases r;obtain ⟨its,rv,⟨o,e,c,n,dd⟩,_⟩:=I.tuple h;obtain ⟨as,q⟩:=zdt I all rv;exact ⟨_,.tuple e c dd q⟩
theorem zdt (I:Inv X pins σ H s):∀{vs:List V} {ds:List PyData} {us:List Value},DAll X.K H vs ds->Vals vs us->∃as,ReadsAll s.heap us ds as
 | _,_,_,.nil,.nil=>⟨_,.nil⟩
 | _,_,_,.cons h t,.cons r rs=>by
  obtain ⟨as,q⟩:=zeu I h r;obtain ⟨bs,q'⟩:=zdt I t rs;exact ⟨_,.cons q q'⟩
end
end
noncomputable def rEqX (K:Fg) (neg:Bool):R2:=fun x y H Q=>∃dx dy,DAt K H x dx/\DAt K H y dy/\PySem.SeqAt.shaped dx=true/\PySem.SeqAt.shaped dy=true/\Q (.bl (if neg then !PyData.eqv dx dy else PyData.eqv dx dy)) H
section
variable {X:Cx}
theorem zlb (hu:X.A.units+64 < cLine):OpR X (compareOp .Eq) (rEqX X.K false):=by
 intro pins s σ H x y v u Q I r1 r2 h;obtain ⟨dx,dy,a1,a2,a3,a4,q⟩:=h;obtain ⟨as,ra⟩:=zeu I a1 r1;obtain ⟨bs,rb⟩:=zeu I a2 r2;exact eq_dataH ra rb a3 a4 hu ⟨.bl (PyData.eqv dx dy),H,I,rfl,q⟩
theorem zuf (hu:X.A.units+64 < cLine):OpR X (compareOp .NotEq) (rEqX X.K true):=by
 intro pins s σ H x y v u Q I r1 r2 h;obtain ⟨dx,dy,a1,a2,a3,a4,q⟩:=h;obtain ⟨as,ra⟩:=zeu I a1 r1;obtain ⟨bs,rb⟩:=zeu I a2 r2;exact ne_dataH ra rb a3 a4 hu ⟨.bl (!PyData.eqv dx dy),H,I,rfl,q⟩
end
noncomputable def dI (ns:List Int):List PyData:=ns.map PyData.int
noncomputable def dRow (ns:List Int):PyData:=.tuple (dI ns)
theorem zbav:∀a b:List Int,PyData.eqvAll (dI a) (dI b)=decide (a=b)
 | [],[]=>by rfl
 | [],_::_=>by rfl
 | _::_,[]=>by rfl
 | x::a,y::b=>by
  show (x == y && PyData.eqvAll (dI a) (dI b))=_;rw[zbav a b,xge];simp
theorem zvp (a b:List Int):PyData.eqv (dRow a) (dRow b)=decide (a=b):=zbav a b
theorem zki:∀a b:List (List Int),PyData.eqvAll (a.map dRow) (b.map dRow)=decide (a=b)
 | [],[]=>by rfl
 | [],_::_=>by rfl
 | _::_,[]=>by rfl
 | x::a,y::b=>by
  show (PyData.eqv (dRow x) (dRow y) && PyData.eqvAll (a.map dRow) (b.map dRow))=_;rw[zki a b,zvp,xge];simp
theorem zbau:∀a:List Int,PyData.canLayAll0 (dI a)=true/\PyData.depthAll (dI a)=0
 | []=>⟨rfl,rfl⟩
 | x::a=>by
  obtain ⟨h1,h2⟩:=zbau a;refine ⟨?_,?_⟩
  ·show (true && PyData.canLayAll0 (dI a))=true;rw[h1];rfl
  ·show max 0 (PyData.depthAll (dI a))=0;rw[h2];rfl
theorem zkh:∀a:List (List Int),PyData.canLayAll0 (a.map dRow)=true/\PyData.depthAll (a.map dRow)<=1
 | []=>⟨rfl,xcu _⟩
 | x::a=>by
  obtain ⟨h1,h2⟩:=zkh a;obtain ⟨h3,h4⟩:=zbau x;refine ⟨?_,?_⟩
  ·show (PyData.canLayAll0 (dI x) && PyData.canLayAll0 (a.map dRow))=true;rw[h1,h3];rfl
  ·show max (PyData.depthAll (dI x)+1) (PyData.depthAll (a.map dRow))<=1;rw[h4];lia
theorem zfe (a:List (List Int)):PySem.SeqAt.shaped (.tuple (a.map dRow))=true:=by
 obtain ⟨h1,h2⟩:=zkh a;show (PyData.canLayAll0 (a.map dRow) && decide (PyData.depthAll (a.map dRow)+1<=64))=true;rw[h1,xcj (by lia)];rfl
section
variable {X:Cx}
theorem zhd:∀{bs:List Bool} {us:List Value},Vals (bs.map V.bl) us->us=bs.map Value.bool
 | [],_,.nil=>rfl
 | b::bs,_,.cons r t=>by
  rw[show _=Value.bool b from r,zhd t]
  rfl
theorem zpq (bs:List Bool):((List.range bs.length).all fun i=>bs.getD i false)=bs.all id:=by
 rw[xge];simp only[xed,xgn];constructor
 ·intro h b hb;obtain ⟨i,hi,rfl⟩:=xdv hb;have:=h i hi;rw[xcl,xbe hi] at this;exact this
 ·intro h i hi;rw[xcl,xbe hi];exact h _ (xdk hi)
noncomputable def rAny (K:Fg) (al:Bool):List V->Hp->VK->Prop:=fun xs H Q=>∃(l:Addr) (bs:List Bool),xs=[.ref l]/\SqL K H l (bs.map V.bl)/\Q (.bl (if al then bs.all id else bs.any id)) H
theorem zkt {prog:Program} {w:World} {A:Around} (bs:List Bool):TruthOf prog w A (fun i v=>(bs.map Value.bool).toArray[i]?=some v) (fun i=>bs.getD i false):=fun i v s Q E hP hQ=>by
 have hP':(bs.map Value.bool)[i]?=some v:=by simpa using hP
 rw[xcp] at hP';cases e:bs[i]? with
 | none=>rw[e] at hP';cases hP'
 | some b =>
  rw[e] at hP';cases hP';dsimp only at hQ;rw[xcl,e] at hQ;exact xfm hQ
theorem zwe (hc:X.calm=true) {pins:List (Addr × Obj)} {σ:St} {H:Hp} {s:Shared} {l:Addr} {bs:List Bool} {R:Bool->Prop} (I:Inv X pins σ H s) (hl:SqL X.K H l (bs.map V.bl)) {Q:Value->Shared->Prop} {F:(Nat->Bool)->Nat->Bool}
  (hQ:∀s',Inv X pins σ H s'->Q (.bool (F (fun i=>bs.getD i false) bs.length)) s') :
  wpAny (model X.prog X.w) X.A.in1 (pyIter (.ref l)) (fun it s₂=>∃I fp wr n P St tr,it=.ref I/\Walks X.prog X.w X.A.in1 I fp wr n P St/\St 0 s₂.heap/\TruthOf X.prog X.w X.A.in1 P tr /\
   ∀h' tk,(∀b o,b∉wr->s₂.heap.get? b=some o->h'.get? b=some o)->Q (.bool (F tr n)) {s₂ with heap:=h',toks:=tk}) X.xe s:=by
 obtain ⟨its,rv,pl,hz⟩:=I.list hl;have e:=zhd rv;subst e;have hlt:l < s.heap.objs.size:=by obtain ⟨o,n,e,_⟩:=pl;exact xbk e
 refine xiv pl.isList ?_;refine ⟨s.heap.objs.size,_,[s.heap.objs.size],_,_,_,_,rfl,Walks.list (A:=X.A.in1) (I.ok.hd hc) _ l (xbt hlt) (bs.map Value.bool).toArray,⟨⟨_,xbz _ rfl,rfl,rfl⟩,pl.isList.push _⟩,zkt bs,fun h' tk hk=>?_⟩;have e2:(bs.map Value.bool).toArray.size=bs.length:=by simp
 rw[e2];refine hQ _ ?_;refine I.kept (t':=tk) fun b o e=>hk b o ?_ (xbc _ e)
 intro z;have z':b=s.heap.objs.size:=by simpa using z
 have z2:=xbk e;rw[z'] at z2;exact absurd z2 (xgj _)
theorem zvu (hc : X.calm = true) : CallR X (.builtin "all") (rAny X.K true) := by
 intro pins s σ H xs us Q I r h;obtain ⟨l,bs,rfl,hl,q⟩:=h;obtain ⟨u,rfl,ru⟩:=vals1 r;cases ru;refine call_all_walk (zwe (R:=fun _=>True) hc I hl (F:=fun tr n=>(List.range n).all tr) fun s' I'=>⟨.bl ((List.range bs.length).all fun i=>bs.getD i false),H,I',rfl,?_⟩);rw[zpq];exact q
end
end L2
namespace Dct
open PySem PySem.W PyProof.Rows
noncomputable def Raw (h:Heap) (d:Addr) (es:Array DictEntry) (ep:Nat):Prop:=∃ob,h.get? d=some ob/\ob.ExactDict/\ob.data=.dict es ep
theorem Raw.kept {h h':Heap} {d:Addr} {es:Array DictEntry} {ep:Nat} (x:Raw h d es ep) (k:∀ob,h.get? d=some ob->h'.get? d=some ob):Raw h' d es ep :=
 let ⟨ob,e,r⟩:=x;⟨ob,k ob e,r⟩
theorem Raw.lt {h:Heap} {d:Addr} {es:Array DictEntry} {ep:Nat} (x:Raw h d es ep):d < h.objs.size:=let ⟨_,e,_⟩:=x;xbk e
theorem Raw.is {st : Shared} {d : Addr} {es : Array DictEntry} {ep : Nat} (x : Raw st.heap d es ep) : st.TypeIs (.ref d) "dict" := let ⟨ob, e, c, _⟩ := x; ⟨ob, e, c.1⟩
section
variable {P:Program} {w:World} {B:Around} {E:Value->Shared->Prop} {st:Shared} {d it:Addr} {es:Array DictEntry} {ep k:Nat}
noncomputable def iterObj (d : Addr) (n ep : Nat) : Obj := { cls := .type "dict_keyiterator", data := .fields #[.ref d, .int 0 0, .int n 0, .int ep 0] }
theorem zmj {W:Value->Shared->Prop} (ns:(d == sysModules)=false) (x:Raw st.heap d es ep) (fin:W (.ref st.heap.objs.size) {st with heap:=st.heap.push (iterObj d es.size ep)}):wpAny (model P w) B (pyIter (.ref d)) W E st:=by
 obtain ⟨ob,e,c,dt⟩:=id x;have ty:=x.is;refine wpAny_pyIter_slot ty F.slot_dict_iter (xfw F.slot_dict_iter ty F.entry_dict_iter ?body (F.args_dict_iter_1 _))
 case body =>
  unfold Builtin.«dict.__iter__» Builtin.Dict.dictSlotNone Builtin.Dict.showsAll;refine xba (xba (wpAny_notOrdered_dict ty (xbd ?_)));show wpAny _ _ ((if (d == sysModules)=true then _ else _) >>= _) _ _ st;rw[if_neg (fun z=>xfc (ns.symm.trans z))];refine xba (xbd (xba (xhh e dt (xba (wpAny_dictEpoch e dt (xba (xeh (xbd ⟨_, rfl, "dict_keyiterator", _, ⟨_, xbz _ rfl, rfl⟩, xeo.lookup, ?_⟩))))))))
  exact fin
theorem zmi {W:Option Value->Shared->Prop} {en:DictEntry} (hi:st.heap.IsKeyIter it d k es.size ep) (x:Raw st.heap d es ep) (hk:es[k]?=some en)
  (fin:∀g:Heap,g.IsKeyIter it d (k+1) es.size ep->Heap.SameBut it st.heap g->W (some en.key) {st with heap:=g}):wpAny (model P w) B (pyNext (.ref it)) W E st:=by
 obtain ⟨oi,ei,ci,di⟩:=id hi;obtain ⟨ob,e,c,dt⟩:=id x;have lt:k < es.size:=(xey.mp hk).1;unfold pyNext;refine xba (xkc (wpAny_callSpecial?_slot (name := Str.ofString "__next__") hi.typeIs xeo (xfw xeo hi.typeIs F.entry_dict_keyiterator_next ?body (F.args_dict_keyiterator_next_1 _))))
 case body =>
  refine xba (xbd (xba (xba (xba (xfr hi.typeIs (xbd (xba (wpAny_fieldsOf ei di ?_))))))));simp only [show Builtin.Dict_items.ownsTuple "dict_keyiterator" = false from by decide, xcr, ite_false]
  show wpAny _ _ (if (Value.ref d == Value.none)=true then _ else _) _ _ st;have nn:¬ (Value.ref d == Value.none)=true:=xfc;rw[if_neg nn];refine xba (xbd (xba (xhh e dt ?_)));rw[if_neg (by simp)];refine xba (xbd (xba (wpAny_dictEpoch e dt ?_)));rw[if_neg (by simp)];refine xbd ?_;simp only[show ¬ ((k:Int) < 0) from by lia,ite_false,xkd,hk];refine xba (xba (xfr hi.typeIs (xbd (xba (wpAny_isOneOf_keyiter hi.typeIs ?_)))));show wpAny _ _ (setField (.ref it) 1 (rawInt ((k:Int)+1)) >>= _) _ _ st;refine xba (xil ei di (by simp) ?_);have hi':(st.heap.update it (Obj.mapFields (·.setIfInBounds 1 (rawInt ((k:Int)+1))))).IsKeyIter it d (k+1) es.size ep :=
   ⟨_,xfd _ ei (Obj.isFreed_of_fields (xgy di _)),(Obj.cls_mapFields ..).trans ci,by rw[xgy di];simp[rawInt]⟩
  refine xba (xdx (xba (wpAny_isOneOf_keyiter (s:={st with heap:=st.heap.update it (Obj.mapFields (·.setIfInBounds 1 (rawInt ((k:Int)+1))))}) hi'.typeIs ?_)));show wpAny _ _ (pure en.key) _ _ _;exact xbd (xbd ⟨_,rfl,xbd (fin _ hi' (xhx ..))⟩)
theorem zsa {W:Option Value->Shared->Prop} (hh:B.handled=none) (hi:st.heap.IsKeyIter it d k es.size ep) (x:Raw st.heap d es ep) (hk:es.size<=k)
  (fin:∀g:Heap,Heap.ExtBut it st.heap g->W none {st with heap:=g}):wpAny (model P w) B (pyNext (.ref it)) W E st:=by
 obtain ⟨oi,ei,ci,di⟩:=id hi;obtain ⟨ob,e,c,dt⟩:=id x;unfold pyNext;refine xba (xkc (wpAny_callSpecial?_slot (name := Str.ofString "__next__") hi.typeIs xeo (xfw xeo hi.typeIs F.entry_dict_keyiterator_next ?body (F.args_dict_keyiterator_next_1 _))))
 case body =>
  refine xba (xbd (xba (xba (xba (xfr hi.typeIs (xbd (xba (wpAny_fieldsOf ei di ?_))))))));simp only [show Builtin.Dict_items.ownsTuple "dict_keyiterator" = false from by decide, xcr, ite_false]
  show wpAny _ _ (if (Value.ref d == Value.none)=true then _ else _) _ _ st;have nn:¬ (Value.ref d == Value.none)=true:=xfc;rw[if_neg nn];refine xba (xbd (xba (xhh e dt ?_)));rw[if_neg (by simp)];refine xba (xbd (xba (wpAny_dictEpoch e dt ?_)));rw[if_neg (by simp)];refine xbd ?_;simp only[show ¬ ((k:Int) < 0) from by lia,ite_false,xkd,Array.getElem?_eq_none hk];refine xba (xba (xfr hi.typeIs (xbd ?_)));show wpAny _ _ (setField (.ref it) 0 .none >>= _) _ _ st;refine xba (xil ei di (by simp) ?_);show wpAny _ _ (newExc (.type "StopIteration") [] >>= _) _ _ _
  refine xba ?_;simp only[newExc,newTuple];refine xba (xeh (xba (m:=firstArgMember _ _) (wpAny_of_eq (a:=Value.none) (by first | rfl | (simp only[firstArgMember];rfl)) (xeh ?_ (by size_fits)))) (by size_fits));simp only[raiseNew];refine xba (wpAny_handled ?_);rw[show B.in1.handled=none from hh];refine xba (xbd (wpAny_throw ?_));refine xba (wpAny_isInstance (T := "StopIteration") (b := true) ?_ isSubtype_stop (xbd (fin _ (((xhx ..).extBut.push _).push _))))
  exact ⟨_,xbz _ rfl,rfl⟩
theorem zpp (hh:B.handled=none) (ne:d≠it) (es:Array DictEntry) (ep:Nat) :
  Walks P w B it [it,d] [it] es.size (fun i v=>∃en,es[i]?=some en/\v=en.key) (fun i h=>h.IsKeyIter it d i es.size ep/\Raw h d es ep) where
 sub:=fun b hb=>xbn.mpr (.inl (xbl.mp hb))
 frame:=fun _ _ _ z hk=>⟨z.1.at fun o e=>hk it xce o e,z.2.kept fun o e=>hk d (xci _ (xbl.mpr rfl)) o e⟩
 item:=fun i sh W' E' hi z hQ=>by
  have hx:es[i]?=some es[i]:=xhz hi;exact zmi z.1 z.2 hx fun g a b=>hQ es[i].key g sh.toks ⟨_,hx,rfl⟩ ⟨a,z.2.kept fun o e=>b.extBut d o ne e⟩ fun c o hc e=>b.extBut c o (fun q=>hc (xbl.mpr q)) e
 done:=fun sh W' E' z hQ=>zsa hh z.1 z.2 (xbg _) fun g b=>hQ g sh.toks fun c o hc e=>b c o (fun q=>hc (xbl.mpr q)) e
 self:=fun _ _ _ _ z hQ=>wpAny_pyIter_keyiter z.1 hQ
theorem zxm (ns : (d == sysModules) = false) (es : Array DictEntry) (ep : Nat) : KdlSrc P w "dict" d d es.size (fun i v => ∃ en, es[i]? = some en /\ v = en.key) (fun h => Raw h d es ep) where
 type:=fun _ x=>x.is
 there:=fun _ x=>⟨x.lt,x.lt⟩
 keep:=fun _ _ x hk=>x.kept fun o e=>hk d (.inl rfl) o e
 notList:=by decide
 notTuple:=by decide
 hint:=fun _ _ _ _ x hq=>kdl_hint_dict x.is hq
 iter:=fun _ sh hh x=>⟨_,_,fun _ _ hq=>zmj ns x hq,zpp hh (xbt x.lt) es ep,⟨⟨_,xbz _ rfl,rfl,rfl⟩,x.kept fun o e=>xbc _ e⟩⟩
end
end Dct
namespace Srt
open PySem PySem.W PyProof.Rows
section
variable {P:Program} {w:World} {B:Around} {E:Value->Shared->Prop} {st:Shared}
end
end Srt
namespace L2
open PySem PySem.Spec PyProof.Rows
theorem ObjOk.ob {P:Program} {w:World} {H:Hp} {h:Heap} {a:Addr} {o:HO} (x:ObjOk P w H h a o):∃ob,h.get? a=some ob:=by
 cases o with
 | lst xs=>obtain ⟨_,_,_,_,e⟩:=x;exact ⟨_,e⟩
 | tup xs=>obtain ⟨_,_,_,ob,e,_⟩:=x;exact ⟨_,e⟩
 | dK kvs=>obtain ⟨_,_,_,_,ob,_,_,e,_⟩:=x;exact ⟨_,e⟩
 | dT kvs=>obtain ⟨_,_,_,_,ob,_,_,e,_⟩:=x;exact ⟨_,e⟩
 | set S n=>obtain ⟨ob,_,_,_,e,_⟩:=x;exact ⟨_,e⟩
 | ins C dx fs=>obtain ⟨_,_,_,e,_⟩:=x;exact ⟨_,e⟩
 | own y=>obtain ⟨_,e⟩:=x;exact ⟨_,e⟩
 | xd fs=>obtain ⟨_,⟨_,_,_,e,_⟩,_⟩:=x;exact ⟨_,e⟩
 | rng lo hi=>obtain ⟨_,_,_,e⟩:=x;exact ⟨_,e⟩
 | frz ob u=>obtain ⟨e,_⟩:=x;exact ⟨_,e⟩
 | tbl ps=>exact ⟨_,(show h.get? a=some _ from x)⟩
 | met f y=>exact ⟨_,(show h.get? a=some _ from x)⟩
 | ext φ=>obtain ⟨_,⟨_,e⟩,_⟩:=x;exact ⟨_,e⟩
section
variable {X:Cx} {pins:List (Addr × Obj)} {σ:St} {H:Hp} {s:Shared}
theorem Inv.away (I:Inv X pins σ H s) {q:Addr} (ne:∀b ob,s.heap.get? b=some ob->b≠q):H q=none:=by
 cases e:H q with
 | none=>rfl
 | some o =>
  obtain ⟨ob,z⟩:=(I.hok q o e).ob;exact absurd rfl (ne q ob z)
theorem Inv.laidN {q:Addr} {o:HO} {g:Heap} {t':Nat} (I:Inv X pins σ H s) (k:∀b u,s.heap.get? b=some u->g.get? b=some u) (ne:∀b ob,s.heap.get? b=some ob->b≠q) (new:ObjOk X.prog X.w (upd H q o) g q o) :
  Inv X pins σ (upd H q o) {s with heap:=g,toks:=t'}:=by
 have hn:=I.away ne;have off:∀{b:Addr} {u:HO},H b=some u->upd H q o b=some u:=fun {b u} e=>by rw[zj (zh e hn)];exact e
 refine I.un ⟨fun b u e _ _ _=>k b u e,fun b u e _ _ _=>⟨u.slots,k b u e⟩,fun b u e n _=>by rw[zj (ne b u e)];exact n,fun b u e _=>⟨u,k b u e⟩,fun b xs e=>off e,fun b ob u e=>off e,fun b ps e=>⟨#[],by rw[off e];simp⟩⟩ fun b u e=>?_
 by_cases hb:b=q
 ·subst hb;rw[zf] at e;cases e;exact new
 ·rw[zj hb] at e;exact (I.hok b u e).stay (fun c v _ z=>k c v z) (fun c z=>off z) fun c xs z=>off z
end
theorem zsf (ns:List Int):(ns.map (Sum.inl:Int->Key)).map kV=ns.map V.int:=by rw[xdy];rfl
theorem zhx {P:Program} {w:World} {H:Hp} {kvs:List (List Key × V)}:∀{ks:List (List Int)} {xs:List (List Key × Addr × Value)},
  Paired (fun (p:List Key × V) (q:List Key × Addr × Value)=>p.1=q.1/\H q.2.1=some (.tup (p.1.map kV))/\RelV p.2 q.2.2) kvs xs->kvs.map (·.1)=ks.map (fun ns=>ns.map Sum.inl) ->
   ∃ps:List (Addr × List Int),ps.map (·.2)=ks/\(∀p∈ps,H p.1=some (.tup (p.2.map V.int)))/\xs.map (fun q=>(entryOfKey (tupleKind (mixKind P w)) q).key)=ps.map fun p=>Value.ref p.1:=by
 induction kvs with
 | nil =>
  intro ks xs r e;cases r;cases ks with
  | nil=>exact ⟨[],rfl,fun p hp=>(nomatch hp),rfl⟩
  | cons x ks=>cases e
 | cons kv kvs ih =>
  intro ks xs r e;cases r with
  | cons r rs =>
   cases ks with
   | nil=>cases e
   | cons ns ks =>
    rw[xbq,xbq] at e;injection e with e1 e2
    obtain ⟨ps,a1,a2,a3⟩:=ih rs e2;rename_i b _;obtain ⟨r1,r2,r3⟩:=r;refine ⟨(b.2.1,ns)::ps,by rw[xbq,a1],fun p hp=>?_,by rw[xbq,xbq,a3];rfl⟩;rcases xbn.mp hp with z | z
    ·subst z;rw[e1,zsf] at r2;exact r2
    ·exact a2 p z
open PySem.W in
theorem zwf {P:Program} {w:World} {B:Around} {sg:Shared} {ps:List (Addr × List Int)} (h2:2<=ps.length)
  (tup : ∀ (i : Nat) (p : Addr × List Int), ps[i]? = some p -> ∃ (us : List Value) (o : Obj) (n : Nat), IntsAre us p.2 /\ sg.heap.get? p.1 = some o /\ o.cls = .type "tuple" /\ o.data = .seq us.toArray n /\ p.2 ≠ []) :
  Srt.Answers P w B (Srt.rank (ps.map (·.2))) (ps.map fun p=>Value.ref p.1) sg:=by
 refine ⟨tuples' true,fun R hq=>?_,fun i j C hi hj hC=>?_⟩
 ·have kt:∀(l:List (Addr × List Int)),(∀p∈l,∃i:Nat,ps[i]?=some p)->∃fs:List Value,KatTups sg.heap (l.map fun p=>Value.ref p.1) fs/\fs.length=l.length/\∀v∈fs,∃i t,v=Value.int i t:=fun l=>by
   induction l with
   | nil=>intro _;exact ⟨[],KatTups.nil,rfl,fun v hv=>(nomatch hv)⟩
   | cons p l ih =>
    intro hp;obtain ⟨fs,b1,b2,b3⟩:=ih fun p' hp'=>hp p' (xci _ hp')
    obtain ⟨i,hi⟩:=hp p xce;obtain ⟨us,o,n,a1,a2,a3,a4,a5⟩:=tup i p hi;obtain ⟨pa,pn⟩:=p;dsimp only at a1 a2 a3 a4 a5;cases a1 with
    | nil=>exact absurd rfl a5
    | cons x t r=>exact ⟨Value.int x t::fs,KatTups.cons a2 a3 a4 rfl b1,by rw[xby,xby,b2],fun v hv=>(xbn.mp hv).elim (fun z=>⟨x,t,z⟩) (b3 v)⟩
  obtain ⟨fs,b1,b2,b3⟩:=kt ps fun p hp=>List.mem_iff_getElem?.mp hp
  exact kat_kind (T := .type "int") b1 (by lia) (fun v hv => by
   obtain ⟨i,t,rfl⟩:=b3 v hv
   exact Looks.of_pure rfl) rfl hq
 ·rw[xbf] at hi hj;have ei:ps[i]?=some ps[i]:=xbe hi;have ej:ps[j]?=some ps[j]:=xbe hj;obtain ⟨us,o,n,a1,a2,a3,a4,a5⟩:=tup i _ ei;obtain ⟨us2,o2,n2,c1,c2,c3,c4,c5⟩:=tup j _ ej;unfold kas_ask;rw[zn (fun p:Addr × List Int=>Value.ref p.1) _ ei,zn (fun p:Addr × List Int=>Value.ref p.1) _ ej];refine kat_lt a2 a4 c2 c4 (Srt.znj 0 a1 c1 ?_);rw[Srt.zmk (by rw[xbf];exact hi) (by rw[xbf];exact hj),zn (fun p:Addr × List Int=>p.2) _ ei,zn (fun p:Addr × List Int=>p.2) _ ej] at hC;exact hC
theorem zms {ps:List (Addr × List Int)} {p:Array Nat} (p1:p.Perm (List.toArray (List.range ps.length))) (p2:Srt.Up (Srt.rank (ps.map (·.2))) p ps.length) :
  ∃qs:List (Addr × List Int),qs.Perm ps/\(qs.map (·.2)).Pairwise (fun x y=>HT.lexLt y x=false)/\Srt.outOf (ps.map fun p=>Value.ref p.1) p=(qs.map fun p=>Value.ref p.1).toArray:=by
 have hps:p.size=ps.length:=by rw[p1.size_eq];simp
 have sm:∀i∈p.toList,i < ps.length:=fun i hi=>by
  have h3:=(p1.mem_iff (a:=i)).mp (by rw[← Array.mem_toList_iff];exact hi);exact xgn.mp (List.mem_toArray.mp h3)
 refine ⟨p.toList.map fun i=>ps.getD i (0,[]),?_,?_,?_⟩
 ·have e1:p.toList.Perm (List.range ps.length):=by
   have:=xez.mp p1
   simpa using this
  have e2:=e1.map fun i=>ps.getD i (0,[])
  have e3:((List.range ps.length).map fun i=>ps.getD i (0,[]))=ps:=by
   apply List.ext_getElem
   ·simp
   ·intro i h1 h2;simp[xcl,h2]
  rw[e3] at e2;exact e2
 ·rw[xdy,xia];intro i j hi hj hij;rw[List.getElem_map,List.getElem_map];rw[xbf] at hi hj;have hi':i < p.size:=by simpa using hi
  have hj':j < p.size:=by simpa using hj
  have hu:=p2 i j (xbp hij) (by lia);have g:∀k,(hk:k < p.toList.length)->p.getD k 0=p.toList[k]:=fun k hk=>by
   have hk':k < p.size:=by simpa using hk
   rw[Array.getD_eq_getD_getElem?,xhz hk'];simp
  have si:=sm _ (xdk hi);have sj:=sm _ (xdk hj);have lk:=Srt.zmk (ks:=ps.map (·.2)) (i:=p.toList[j]) (j:=p.toList[i]) (by rw[xbf];exact sj) (by rw[xbf];exact si);have hno:Srt.lt (Srt.rank (ps.map (·.2))) p.toList[j] p.toList[i]=false:=by
   refine xbu fun z=>?_
   unfold Srt.At at hu;rw[g i hi,g j hj] at hu;lia
  rw[hno] at lk;have v:∀k,k < ps.length->(ps.map (·.2)).getD k []=(ps.getD k (0,[])).2:=fun k hk=>by
   have ek:ps[k]?=some ps[k]:=xbe hk;rw[zn (fun p:Addr × List Int=>p.2) _ ek,xcl,ek]
   rfl
  rw[v _ sj,v _ si] at lk;exact lk.symm
 ·unfold Srt.outOf;rw[xdy]
  congr 1
  refine List.map_congr_left fun i hi=>?_
  have hi2:=sm i hi;have ei:ps[i]?=some ps[i]:=xbe hi2;rw[zn (fun p:Addr × List Int=>Value.ref p.1) _ ei];show _=Value.ref (ps.getD i (0,[])).1;rw[xcl,ei]
  rfl
section
variable {X:Cx}
end
section
variable {X:Cx} {pins:List (Addr × Obj)} {σ:St} {H:Hp} {s:Shared}
theorem Inv.freeze {a:Addr} {kvs:List (List Key × V)} {ob:Obj} (I:Inv X pins σ H s) (h:H a=some (.dT kvs)) (e:s.heap.get? a=some ob):Inv X pins σ (upd H a (.frz ob (.dT kvs))) s:=by
 have off:∀{b:Addr} {u:HO},H b=some u->(∀l,u≠.dT l)->upd H a (.frz ob (.dT kvs)) b=some u:=fun {b u} q n=>by
  rw[zj (by rintro rfl;rw[h] at q;cases q;exact n _ rfl)];exact q
 have z:=I.un (h':=s.heap) (t':=s.toks) (H':=upd H a (.frz ob (.dT kvs))) ⟨fun b u q _ _ _=>q,fun b u q _ _ _=>⟨u.slots,q⟩,fun b u q n _=>by
   rw[zj (by rintro rfl;rw[h] at n;cases n)];exact n,fun b u q _=>⟨u,q⟩,fun b xs q=>off q (fun l z=>by cases z),fun b o u q=>off q (fun l z=>by cases z),fun b ps q=>⟨#[],by rw[off q (fun l z=>by cases z)];simp⟩⟩ (fun b u q=>by
   by_cases hb:b=a
   ·subst hb;rw[zf] at q;cases q;exact ⟨e,(I.hok b _ h).stay (fun c v _ r=>r) (fun c r=>off r (fun l z=>by cases z)) fun c xs r=>off r (fun l z=>by cases z)⟩
   ·rw[zj hb] at q
    exact (I.hok b u q).stay (fun c v _ r=>r) (fun c r=>off r (fun l z=>by cases z)) fun c xs r=>off r (fun l z=>by cases z))
 exact z
end
noncomputable def Itd (a:Addr) (ob:Obj) (kvs:List (List Key × V)) (ps:List (Addr × List Int)):It :=
 ⟨fun i H=>i < ps.length/\H a=some (.frz ob (.dT kvs)),fun i H x H'=>H'=H/\∃p,ps[i]?=some p/\x=.ref p.1,fun i H=>ps.length<=i/\H a=some (.frz ob (.dT kvs))⟩
theorem zpi {P:Program} {w:World} {K:Fg} {tg:Expr} {a it:Addr} {ob:Obj} {kvs:List (List Key × V)} {ps:List (Addr × List Int)} {es:Array DictEntry} {ep:Nat} (ex:ob.ExactDict) (dt:ob.data=.dict es ep)
  (hk:es.toList.map (·.key)=ps.map fun p=>Value.ref p.1):Turn P w K tg (Itd a ob kvs ps) [it] it (fun i h=>h.IsKeyIter it a i es.size ep) where
 mem:=xbl.mpr rfl
 obj:=fun i h st b hb=>by
  have e:b=it:=xbl.mp hb;subst e;obtain ⟨o,e,c,d⟩:=st;exact ⟨o,e,fun v z=>by rw[d] at z;cases z⟩
 keep:=fun i h h' st k=>st.at fun o e=>k it (xbl.mpr rfl) o e
 item:=by
  intro Y hP hw hK hc i pins s σ H E I hf st hg;subst hP hw hK;obtain ⟨hi,hz⟩:=hg;have hsz:es.size=ps.length:=by
   have:=congrArg List.length hk
   rwa [xbf,xbf,xbv] at this
  obtain ⟨eo,_⟩:=(show ObjOk Y.prog Y.w H s.heap a (.frz ob (.dT kvs)) from I.hok a _ hz)
  obtain ⟨f0,f1,f2,f3,f4,f5⟩:=hf it (xbl.mpr rfl);have hen:es[i]?=some es[i]:=xhz (by lia);have hpi:ps[i]?=some ps[i]:=xbe hi;have hkey:es[i].key=Value.ref ps[i].1:=by
   have q:=congrArg (fun l=>l[i]?) hk;simp only[xcp,xcf,hen,hpi] at q;exact xbw q
  refine Dct.zmi st ⟨ob,eo,ex,dt⟩ hen fun g st' sb=>?_
  have I1:Inv Y pins σ H {s with heap:=g}:=I.turned (t':=s.toks) (fun b o hb e=>sb.extBut b o hb e) f0 f1 f3 f4 f5;obtain ⟨o,e,c,d⟩:=id st';exact ⟨_,rfl,zbbu (s:={s with heap:=g}) e c d (by decide) ⟨.ref ps[i].1,H,I1,hkey,⟨rfl,ps[i],hpi,rfl⟩,st',fun b hb=>(hf b hb).1⟩⟩
 done:=by
  intro Y hP hw hK hc i pins s σ H E I hf st hg;subst hP hw hK;obtain ⟨hi,hz⟩:=hg;have hsz:es.size=ps.length:=by
   have:=congrArg List.length hk
   rwa [xbf,xbf,xbv] at this
  obtain ⟨eo,_⟩:=(show ObjOk Y.prog Y.w H s.heap a (.frz ob (.dT kvs)) from I.hok a _ hz)
  obtain ⟨f0,f1,f2,f3,f4,f5⟩:=hf it (xbl.mpr rfl);exact Dct.zsa (I.ok.hd hc) st ⟨ob,eo,ex,dt⟩ (by lia) fun g eb=>⟨rfl,I.turned (t':=s.toks) (fun b o hb e=>eb b o hb e) f0 f1 f3 f4 f5⟩
 self:=fun _ _ _ _ _ st h=>wpAny_pyIter_keyiter st h
noncomputable def iDct (td:TE):TI:=fun σ H R=>td σ H fun x H1=>∃(a:Addr) (kvs:List (List Key × V)) (ks:List (List Int)),x=.ref a/\H1 a=some (.dT kvs)/\kvs.map (·.1)=ks.map (fun ns=>ns.map Sum.inl) /\
 ∀(ob:Obj) (ps:List (Addr × List Int)),ps.map (·.2)=ks->(∀p∈ps,H1 p.1=some (.tup (p.2.map V.int)))->R (Itd a ob kvs ps) (upd H1 a (.frz ob (.dT kvs)))
theorem zxx {X:Cx} {tg l:Expr} {td:TE} (hl:PE X l td):PI X tg l (iDct td):=by
 intro pins s σ H R I h;refine thn (hl pins s σ H _ I h) fun v s1 hq0=>?_
 obtain ⟨x,H1,I1,r1,q1⟩:=hq0;obtain ⟨a,kvs,ks,rfl,hd,ek,q⟩:=q1;cases r1;obtain ⟨z,ns,ys,rel,ob,es,ep,e1,e2,e3,e4,e5⟩:=(show ObjOk X.prog X.w H1 s1.heap a (.dT kvs) from I1.hok a _ hd)
 obtain ⟨ps,a1,a2,a3⟩:=zhx (P:=X.prog) (w:=X.w) rel ek;have hes:es.toList.map (·.key)=ps.map fun p=>Value.ref p.1:=by rw[e4,xdy];exact a3
 refine Dct.zmj ns ⟨ob,e1,e2,e3⟩ ?_;have I2:=I1.freeze hd e1;refine ⟨s1.heap.objs.size,[s1.heap.objs.size],_,_,_,rfl,I2.kept (t':=s1.toks) fun b o e=>xbc _ e,zpi e2 e3 hes,⟨_,xbz _ rfl,rfl,rfl⟩,fun b hb=>?_,q ob ps a1 a2⟩;have e:b=s1.heap.objs.size:=xbl.mp hb;subst e;exact I2.fpOk (xbg _) (I2.hok.fresh (xbg _))
section
variable {g:TG} {tc:TT} {te:TE} {Q:VK} {σ:St} {H:Hp} {p:Addr}
end
end L2
namespace L2
open PySem PySem.Spec PyProof.Rows PySem.W
noncomputable def TupsG (g : Heap) (ps : List (Addr × List Int)) : Prop := ∀ p ∈ ps, ∃ (us : List Value) (o : Obj) (n : Nat), IntsAre us p.2 /\ g.get? p.1 = some o /\ o.cls = .type "tuple" /\ o.data = .seq us.toArray n
section
variable {P:Program} {w:World} {B:Around} {E:Value->Shared->Prop} {sg:Shared}
theorem zkb:∀{ps:List (Addr × List Int)},TupsG sg.heap ps->∃fs:List (Option Value),fs.map Option.isSome=ps.map (fun p=>!p.2.isEmpty)/\∀(W:List (Option Value)->Shared->Prop),W fs sg->wpAny (model P w) B ((ps.map fun p=>Value.ref p.1).mapM firstOfTuple') W E sg
 | [],_=>⟨[],rfl,fun W h=>by rw[xkk,List.mapM_nil];exact xbd h⟩
 | p::ps,h=>by
  obtain ⟨fs,f1,f2⟩:=zkb (ps:=ps) fun q hq=>h q (xci _ hq)
  obtain ⟨us,o,n,a1,a2,a3,a4⟩:=h p xce;refine ⟨us.toArray[0]?::fs,?_,fun W hW=>?_⟩
  ·rw[xbq,xbq,f1]
   congr 1
   obtain ⟨pa,pn⟩:=p;dsimp only at a1 ⊢;cases a1 with
   | nil=>rfl
   | cons x t r=>rfl
  ·rw[xbq,List.mapM_cons];have ty:Looks (model P w) sg.heap (typeOf (.ref p.1)) o.cls:=(Looks.ld a2).andThen .now;refine xba ?_;rw[kas_first_eq];refine xba (Looks.here ty ?_);rw[a3,if_neg (by first | decide | simp)];exact xba (listItems_at a2 a4 (xbd (xba (f2 _ (xbd hW)))))
theorem zni (x y:Value):keyLt' general' x y=oneLt' false x y:=rfl
theorem zwd {κ:SortKind} (hκ:κ=general'\/κ=oneType') (hu:B.units < cLine) {a b:Addr × List Int} (ha:TupsG sg.heap [a]) (hb:TupsG sg.heap [b]) {C:Bool->Shared->Prop} (hC:C (HT.lexLt a.2 b.2) sg) :
  wpAny (model P w) B (keyLt' κ (.ref a.1) (.ref b.1)) C E sg:=by
 obtain ⟨us,o,n,a1,a2,a3,a4⟩:=ha a xce;obtain ⟨us2,o2,n2,b1,b2,b3,b4⟩:=hb b xce;rcases hκ with rfl | rfl
 ·rw[zni];exact kat_one _ _ (HT.zhm (items:=us.toArray) (items2:=us2.toArray) ⟨o,a2,a3,n,a4⟩ ⟨o2,b2,b3,n2,b4⟩ a1 b1 hu hC)
 ·rw[keyLt'_oneType,oneLt'_eq];simp only[ite_true];refine xba (wpAny_cRoomFor hu (xba (wpAny_callSpecialIfBound?_slot (T := "tuple") ⟨o, a2, a3⟩ xjd ?_)))
  obtain ⟨cls,dd,data,sl⟩:=o;obtain ⟨cls2,dd2,data2,sl2⟩:=o2;dsimp only at a3 a4 b3 b4;subst a3 a4 b3 b4;exact xik xjd ⟨_,a2,rfl⟩ PySem.F.entry_tuple_lt (PySem.F.args_tuple_lt_2 _ _) (HT.zdy a.1 b.1 us.toArray us2.toArray n n2 dd dd2 sl sl2 a.2 b.2 a1 b1) ⟨a2,b2,xfm hC⟩
theorem zwg {ps:List (Addr × List Int)} (hu:B.units < cLine) (tup:TupsG sg.heap ps) (emp:∃p∈ps,p.2=[]):Srt.Answers P w B (Srt.rank (ps.map (·.2))) (ps.map fun p=>Value.ref p.1) sg:=by
 obtain ⟨fs,f1,f2⟩:=zkb (P:=P) (w:=w) (B:=B) (E:=fun _ _=>False) tup;have notAll:¬ (fs.toArray.all fun x=>x.isSome)=true:=fun z=>by
  have z':fs.all (fun x=>x.isSome)=true:=by simpa using z
  obtain ⟨p,hp,he⟩:=emp;have m:(!p.2.isEmpty)∈fs.map Option.isSome:=by rw[f1];exact List.mem_map_of_mem (f:=fun p:Addr × List Int=>!p.2.isEmpty) hp
  obtain ⟨o,ho,e⟩:=xdg.mp m;have:=xed.mp z' o ho;rw[e,he] at this;cases this
 have cmp:∀{κ:SortKind},κ=general'\/κ=oneType'->∀i j C,i < (ps.map fun p=>Value.ref p.1).length->j < (ps.map fun p=>Value.ref p.1).length->C (Srt.lt (Srt.rank (ps.map (·.2))) i j) sg->kas_ask P w B κ (ps.map fun p=>Value.ref p.1) i j C sg:=fun {κ} hκ i j C hi hj hC=>by
  rw[xbf] at hi hj;have ei:ps[i]?=some ps[i]:=xbe hi;have ej:ps[j]?=some ps[j]:=xbe hj;unfold kas_ask;rw[zn (fun p:Addr × List Int=>Value.ref p.1) _ ei,zn (fun p:Addr × List Int=>Value.ref p.1) _ ej];rw[Srt.zmk (by rw[xbf];exact hi) (by rw[xbf];exact hj),zn (fun p:Addr × List Int=>p.2) _ ei,zn (fun p:Addr × List Int=>p.2) _ ej] at hC;have one:∀k,(hk:k < ps.length)->TupsG sg.heap [ps[k]]:=fun k hk q hq=>by
   rw[xbl.mp hq];exact tup _ (xdk hk)
  exact zwd hκ hu (one i hi) (one j hj) hC
 by_cases fst:(fs.toArray[0]?.bind id).isSome=true
 ·refine ⟨general',fun R hR=>?_,cmp (.inl rfl)⟩;rw[kat_kind_eq,xke,xkn];refine xba (xba (f2 _ (xbd ?_)));rw[if_neg notAll,if_pos fst];exact xbd hR
 ·refine ⟨oneType',fun R hR=>?_,cmp (.inr rfl)⟩;rw[kat_kind_eq,xke,xkn];refine xba (xba (f2 _ (xbd ?_)));rw[if_neg notAll,if_neg fst,oneTypeOnly'_eq,xke,xkn];have ty : ∀ v ∈ (ps.map fun p => Value.ref p.1), ∀ W : Value -> Shared -> Prop, W (.type "tuple") sg -> wpAny (model P w) B (typeOf v) W (fun _ _ => False) sg := fun v hv W hW => by
   obtain ⟨p,hp,rfl⟩:=xdg.mp hv;obtain ⟨us,o,n,a1,a2,a3,a4⟩:=tup p hp;have lk:Looks (model P w) sg.heap (typeOf (.ref p.1)) o.cls:=(Looks.ld a2).andThen .now;rw[a3] at lk;exact lk.here hW
  refine xba (xba (xba (kas_mapM (r := Value.type "tuple") _ ty (xbd ?_))))
  obtain ⟨p,hp,_⟩:=emp;obtain ⟨p0,rest,rfl⟩:∃p0 rest,ps=p0::rest:=by
   cases ps with
   | nil=>exact nomatch hp
   | cons p0 rest=>exact ⟨p0,rest,rfl⟩
  have all : ((List.map (fun _ => Value.type "tuple") ((p0 :: rest).map fun p => Value.ref p.1)).toArray.all fun x => x == Value.type "tuple") = true := by
   rw[List.all_toArray,xed];intro x hx;obtain ⟨_,_,rfl⟩:=xdg.mp hx
   rfl
  have zero : (List.map (fun _ => Value.type "tuple") ((p0 :: rest).map fun p => Value.ref p.1)).toArray[0]? = some (Value.type "tuple") := by simp
  rw[zero];simp only[all,ite_true];exact xbd (xbd hR)
theorem zsx {ps:List (Addr × List Int)} (hu:B.units < cLine) (h2:2<=ps.length) (tup:TupsG sg.heap ps):Srt.Answers P w B (Srt.rank (ps.map (·.2))) (ps.map fun p=>Value.ref p.1) sg:=by
 by_cases c:∃p∈ps,p.2=[]
 ·exact zwg hu tup c
 ·refine zwf h2 fun i p hi=>?_
  have hp:=xch hi;obtain ⟨us,o,n,a1,a2,a3,a4⟩:=tup p hp;exact ⟨us,o,n,a1,a2,a3,a4,fun z=>c ⟨p,hp,z⟩⟩
end
theorem zek (z:List (Addr × List Int)):Vals (z.map fun p=>V.ref p.1) (z.map fun p=>Value.ref p.1):=by
 induction z with
 | nil=>exact .nil
 | cons x z ih=>exact .cons rfl ih
section
variable {X:Cx}
end
end L2
namespace TS
open PySem PyProof.Rows
noncomputable def kA (R:Keyed->Nat) (xs:Array Keyed) (i:Nat):Nat:=match xs[i]? with
 | some p=>R p
 | none=>0
theorem zcn {R:Keyed->Nat} {xs ys:Array Keyed} {i j:Nat} (h:xs[i]?=ys[j]?):kA R xs i=kA R ys j:=by unfold kA;rw[h]
theorem zcq {R:Keyed->Nat} {xs:Array Keyed} {i:Nat} {x:Keyed} (h:xs[i]?=some x):kA R xs i=R x:=by unfold kA;rw[h]
noncomputable def UpA (R:Keyed->Nat) (xs:Array Keyed) (a b:Nat):Prop:=∀i j,a<=i->i<=j->j < b->kA R xs i<=kA R xs j
noncomputable def DnA (R:Keyed->Nat) (xs:Array Keyed) (a b:Nat):Prop:=∀i j,a<=i->i<=j->j < b->kA R xs j<=kA R xs i
section
variable {prog:Program} {w:World} {A:Around} {E:Value->Shared->Prop} {s:Shared} {κ:SortKind} {a₀:Array Keyed} {R:Keyed->Nat}
noncomputable def Orc (prog:Program) (w:World) (A:Around) (s:Shared) (κ:SortKind) (a₀:Array Keyed) (R:Keyed->Nat):Prop :=
 ∀x,x∈a₀.toList->∀y,y∈a₀.toList->∀(C:Bool->Shared->Prop),C (decide (R x < R y)) s->wpAny (model prog w) A (keyLt' κ x.1 y.1) C (fun _ _=>False) s
structure B (κ:SortKind) (a₀:Array Keyed) (st:SortSt):Prop where
 perm:(arrOf st).Perm a₀
 kind:kindOf st=κ
 failed:failedOf st=none
theorem B.size {st:SortSt} (h:B κ a₀ st):(arrOf st).size=a₀.size:=h.perm.size_eq
theorem B.set {st:SortSt} (h:B κ a₀ st) {xs:Array Keyed} (hp:xs.Perm (arrOf st)):B κ a₀ (setArr st xs):=⟨hp.trans h.perm,h.kind,h.failed⟩
theorem B.mem {st:SortSt} (h:B κ a₀ st) {i:Nat} (hi:i < a₀.size):∃x,(arrOf st)[i]?=some x/\x∈a₀.toList:=by
 have hi':i < (arrOf st).size:=by rw[h.size];exact hi
 exact ⟨_,getElem?_pos _ i hi',(xez.mp h.perm).mem_iff.mp (by simp)⟩
theorem w_lt {x y:Keyed} {st:SortSt} {Q:Option Bool->SortSt->Prop} (O:Orc prog w A s κ a₀ R) (hk:kindOf st=κ) (hx:x∈a₀.toList) (hy:y∈a₀.toList) (h:Q (some (decide (R x < R y))) st):wpS (model prog w) A E s (lt' x y) Q st:=by
 rw[lt'_eq];refine xbi (xgu ?_);rw[hk];refine xbi (xjc (xkc (xdj (O x hx y hy (fun b s'=>s'=s/\b=decide (R x < R y)) ⟨rfl,rfl⟩) (fun b s' hb=>?_) fun _ _ f=>f.elim)));obtain ⟨rfl,rfl⟩:=hb;exact ⟨rfl,xbj h⟩
theorem zhb {arr:Array Keyed} {i:Nat} {x:Keyed} {st:SortSt} {Q:Keyed->SortSt->Prop} (e:arr[i]?=some x) (h:Q x st):wpS (model prog w) A E s (elem' arr i) Q st:=by
 rw[elem'_eq,e];exact xbj h
theorem zih {i j:Nat} {st:SortSt} {Q:Option Bool->SortSt->Prop} (O:Orc prog w A s κ a₀ R) (b:B κ a₀ st) (hi:i < a₀.size) (hj:j < a₀.size) (h:Q (some (decide (kA R (arrOf st) i < kA R (arrOf st) j))) st):wpS (model prog w) A E s (ltAt' i j) Q st:=by
 obtain ⟨x,e1,m1⟩:=b.mem hi;obtain ⟨y,e2,m2⟩:=b.mem hj;rw[zcq e1,zcq e2] at h;rw[ltAt'_eq];exact xbi (xgu (xbi (zhb e1 (xbi (zhb e2 (w_lt O b.kind m1 m2 h))))))
theorem zpc {i j:Nat} {st:SortSt} {Q:Unit->SortSt->Prop} (h:Q () (setArr st (mirror (arrOf st) i j ((j - i) / 2)))):wpS (model prog w) A E s (reverseSlice' i j) Q st:=by
 rw[reverseSlice'_eq];exact xga h
theorem zbby {i j:Nat} {st:SortSt} {Q:Unit->SortSt->Prop} (h:Q () (setArr st (bubble (arrOf st) i (i - j)))):wpS (model prog w) A E s (moveDown' i j) Q st:=by
 rw[moveDown'_eq];exact xga h
theorem zwn {lo x n N:Nat} (h:x < n) (hn:lo+n<=N):lo+x < N:=xbh (xdo h lo) hn
theorem zwm {lo x n N:Nat} (h:x < n) (hn:lo+n<=N):lo+x - 1 < N:=xck (xfx _ _) (zwn h hn)
theorem znm {lo n:Nat} (h:1<=n):lo+n - 1 < lo+n:=xgz (xbh h (xkp _ _)) Nat.one_pos
theorem zbbs {j lo n:Nat} (h:j < lo+(n+1)) (e:¬j=lo+n):j < lo+n:=xcs (xcq h) e
theorem zyv {i j k:Nat} (c2:k < j):i<=i+j - 1 - k:=Nat.le_sub_of_add_le (xcx (xdo c2 i))
theorem zyw {i j k:Nat} (c1:i<=k) (c2:k < j):i+j - 1 - k < j:=xck (xgp c1 _) (by rw[Nat.sub_right_comm,xcn];exact xgz (xis c2) Nat.one_pos)
theorem zgp {xs:Array Keyed} {i j:Nat} (hj:j<=xs.size) (k:Nat):kA R (mirror xs i j ((j - i) / 2)) k=if i<=k/\k < j then kA R xs (i+j - 1 - k) else kA R xs k:=by
 have e:=getElem?_mirror_all (i:=i) hj k;split
 ·rename_i c;rw[if_pos c] at e;exact zcn e
 ·rename_i c;rw[if_neg c] at e;exact zcn e
noncomputable def Out (xs ys:Array Keyed) (a b:Nat):Prop:=∀k,k < a\/b<=k->xs[k]?=ys[k]?
theorem Out.refl (xs:Array Keyed) (a b:Nat):Out xs xs a b:=fun _ _=>rfl
theorem Out.trans {xs ys zs:Array Keyed} {a b:Nat} (h1:Out xs ys a b) (h2:Out ys zs a b):Out xs zs a b:=fun k hk=>(h1 k hk).trans (h2 k hk)
theorem Out.mirror {xs:Array Keyed} {i j a b:Nat} (hj:j<=xs.size) (hi:a<=i) (hb:j<=b):Out (mirror xs i j ((j - i) / 2)) xs a b:=fun k hk=>by
 rw[getElem?_mirror_all (i:=i) hj k,if_neg fun z=>hk.elim (fun h=>xds (xbb hi z.1) h) fun h=>xds (xbb hb h) z.2]
theorem Out.bubble {xs:Array Keyed} {src d a b:Nat} (hs:src < xs.size) (hd:d<=src) (ha:a<=src - d) (hb:src < b):Out (bubble xs src d) xs a b:=fun k hk=>by
 rw[getElem?_bubble hs d hd k,if_neg fun z=>hk.elim (fun h=>xds (xbb ha (xda z.symm)) h) fun h=>xds h (xck (xbb (xda z) (xfx _ _)) hb),if_neg fun z=>hk.elim (fun h=>xds (xbb ha (xbp z.1)) h) fun h=>xds h (xck z.2 hb)]
structure Sm (st st':SortSt) (a b:Nat):Prop where
 out:Out (arrOf st') (arrOf st) a b
 pend:pendingOf st'=pendingOf st
theorem zwz {lo a nrem:Nat} {st:SortSt} {Q:Option (Option Nat) × Nat->SortSt->Prop} (O:Orc prog w A s κ a₀ R) (b:B κ a₀ st) (hn:lo+nrem<=a₀.size) (ha:1<=a) (han:a<=nrem) (hs:UpA R (arrOf st) lo (lo+a))
  (h:∀n,a<=n->n<=nrem->UpA R (arrOf st) lo (lo+n)->(n=nrem\/kA R (arrOf st) (lo+n) < kA R (arrOf st) (lo+n - 1))->Q (none,n) st) :
  wpS (model prog w) A E s (forIn [a:nrem] ((none,a):Option (Option Nat) × Nat) fun _ r=>do
   let x ← ltAt' (lo+r.2) (lo+r.2 - 1)
   match x with
   | some smaller=>if smaller=true then pure (ForInStep.done (none,r.2)) else pure (ForInStep.yield (none,r.2+1))
   | _=>pure (ForInStep.done (some none,r.2))) Q st:=by
 refine xde (I:=fun x c st'=>st'=st/\c=(none,x)/\UpA R (arrOf st) lo (lo+x)) ?_ ?_ ⟨rfl,rfl,hs⟩
 ·rintro x c st' h1 h2 ⟨rfl,rfl,h3⟩;dsimp only;refine xbi (zih O b (zwn h2 hn) (zwm h2 hn) ?_);by_cases c:kA R (arrOf st') (lo+x) < kA R (arrOf st') (lo+x - 1)
  ·simp only[c,xhg,xfn];exact xbj (h x h1 (xbp h2) h3 (.inr c))
  ·simp only[c,xhk,xcr,xem];refine xbj ⟨rfl,rfl,fun i j hi hij hj=>?_⟩;by_cases e:j=lo+x
   ·subst e;by_cases e2:i=lo+x
    ·rw[e2];exact xbg _
    ·exact xbb (h3 i (lo+x - 1) hi (xcx (xcs hij e2)) (znm (xbb ha h1))) (xbs c)
   ·exact h3 i j hi hij (zbbs hj e)
 ·rintro c st' ⟨rfl,rfl,h3⟩;rw[xkl han] at h3 ⊢;exact h nrem han (xbg _) h3 (.inl rfl)
theorem zew {xs:Array Keyed} {i j:Nat} (hj:j<=xs.size) (he:∀k,i<=k->k < j->kA R xs k=kA R xs (j - 1)) (k:Nat):kA R (mirror xs i j ((j - i) / 2)) k=kA R xs k:=by
 rw[zgp hj];split
 ·rename_i c;rw[he _ (zyv c.2) (zyw c.1 c.2),he k c.1 c.2]
 ·rfl
structure Fl (κ:SortKind) (a₀:Array Keyed) (R:Keyed->Nat) (st₀ st:SortSt) (lo n neq b:Nat):Prop where
 base:B κ a₀ st
 same:Sm st₀ st lo b
 dn:DnA R (arrOf st) lo (lo+n)
 hq:neq+1<=n
 eqs:∀i,lo+n - (neq+1)<=i->i < lo+n->kA R (arrOf st) i=kA R (arrOf st) (lo+n - 1)
theorem Fl.turn {st₀ st:SortSt} {lo n neq b:Nat} (h:Fl κ a₀ R st₀ st lo n neq b) (hb:lo+n<=b) (hs:b<=a₀.size) :
  Fl κ a₀ R st₀ (setArr st (mirror (arrOf st) (lo+n - (neq+1)) (lo+n) ((lo+n - (lo+n - (neq+1))) / 2))) lo n neq b/\∀k,kA R (mirror (arrOf st) (lo+n - (neq+1)) (lo+n) ((lo+n - (lo+n - (neq+1))) / 2)) k=kA R (arrOf st) k:=by
 have hz:=h.base.size;have hq:=h.hq;have hle:lo+n<=(arrOf st).size:=by rw[hz];exact xbb hb hs
 have e:=zew (R:=R) (xs:=arrOf st) (i:=lo+n - (neq+1)) (j:=lo+n) hle h.eqs;refine ⟨⟨h.base.set (mirror_perm _ _ _ _),⟨(Out.mirror hle (Nat.le_sub_of_add_le (xca hq lo)) hb).trans h.same.out,h.same.pend⟩,fun i j a1 a2 a3=>?_,h.hq,fun i a1 a2=>?_⟩,e⟩
 ·show kA R (mirror _ _ _ _) j<=kA R (mirror _ _ _ _) i;rw[e,e];exact h.dn i j a1 a2 a3
 ·show kA R (mirror _ _ _ _) i=kA R (mirror _ _ _ _) _;rw[e,e];exact h.eqs i a1 a2
theorem Fl.less {st₀ st:SortSt} {lo n neq b:Nat} (h:Fl κ a₀ R st₀ st lo n neq b) (c:kA R (arrOf st) (lo+n)<=kA R (arrOf st) (lo+n - 1)):DnA R (arrOf st) lo (lo+(n+1)):=fun i j a1 a2 a3=>by
 have hq:=h.hq;by_cases e:j=lo+n
 ·subst e;by_cases e2:i=lo+n
  ·rw[e2];exact xbg _
  ·exact xbb c (h.dn i (lo+n - 1) a1 (xcx (xcs a2 e2)) (znm (xbb (xkp 1 neq) hq)))
 ·exact h.dn i j a1 a2 (zbbs a3 e)
theorem Fl.fresh {st₀ st:SortSt} {lo n neq b:Nat} (h:Fl κ a₀ R st₀ st lo n neq b) (c:kA R (arrOf st) (lo+n)<=kA R (arrOf st) (lo+n - 1)):Fl κ a₀ R st₀ st lo (n+1) 0 b:=⟨h.base,h.same,h.less c,xdt (xcu _),fun i g1 g2=>by
 have:i=lo+(n+1) - 1:=xdh (xcq g2) g1
 rw[this]⟩
theorem Fl.more {st₀ st:SortSt} {lo n neq b:Nat} (h:Fl κ a₀ R st₀ st lo n neq b) (c:kA R (arrOf st) (lo+n)=kA R (arrOf st) (lo+n - 1)):Fl κ a₀ R st₀ st lo (n+1) (neq+1) b:=by
 have hq:=h.hq;refine ⟨h.base,h.same,h.less (xda c),xdt hq,fun i g1 g2=>?_⟩;rw[show lo+(n+1) - 1=lo+n from rfl];by_cases e:i=lo+n
 ·rw[e]
 ·rw[c];exact h.eqs i (xbb (xda (Nat.succ_sub_succ (lo+n) (neq+1)).symm) g1) (zbbs g2 e)
theorem zwy {lo nrem:Nat} {st:SortSt} {Q:Option Nat->SortSt->Prop} (O:Orc prog w A s κ a₀ R) (b:B κ a₀ st) (hn:lo+nrem<=a₀.size) (h1:1<=nrem)
  (h:∀m st',1<=m->m<=nrem->B κ a₀ st'->Sm st st' lo (lo+nrem)->UpA R (arrOf st') lo (lo+m)->Q (some m) st'):wpS (model prog w) A E s (countRun' lo nrem) Q st:=by
 have sm0:Sm st st lo (lo+nrem):=⟨Out.refl _ _ _,rfl⟩
 have one:∀xs:Array Keyed,UpA R xs lo (lo+1):=fun xs i j a1 a2 a3=>by
  have:i=j:=xdh a2 (xbb (xcq a3) a1);subst this;exact xbg _
 have oneD:∀xs:Array Keyed,DnA R xs lo (lo+1):=fun xs i j a1 a2 a3=>by
  have:i=j:=xdh a2 (xbb (xcq a3) a1);subst this;exact xbg _
 rw[countRun'_eq];dsimp only;refine xbi (zwz O b hn (xbg _) h1 (one _) fun n n1 n2 hu hlast=>?_);dsimp only;split
 ·exact xbj (h n st n1 n2 b sm0 hu)
 rename_i hne;have hne':n≠nrem:=fun z=>hne (by simp[z])
 have hlt:n < nrem:=xcs n2 hne';have hl:kA R (arrOf st) (lo+n) < kA R (arrOf st) (lo+n - 1):=by
  rcases hlast with z | z
  ·exact absurd z hne'
  ·exact z
 have hz:=b.size;have fin:∀(n:Nat) (st1:SortSt),B κ a₀ st1->Sm st st1 lo (lo+nrem)->1<=n->n<=nrem->DnA R (arrOf st1) lo (lo+n) ->
   B κ a₀ (setArr st1 (mirror (arrOf st1) lo (lo+n) ((lo+n - lo) / 2)))/\Sm st (setArr st1 (mirror (arrOf st1) lo (lo+n) ((lo+n - lo) / 2))) lo (lo+nrem)/\UpA R (mirror (arrOf st1) lo (lo+n) ((lo+n - lo) / 2)) lo (lo+n):=fun n st1 b1 sm1 m1 m2 dn1=>by
  have hz:=b1.size;have hm:=xca m2 lo;have hle:lo+n<=(arrOf st1).size:=by rw[hz];exact xbb hm hn
  refine ⟨b1.set (mirror_perm _ _ _ _),⟨(Out.mirror hle (xbg _) hm).trans sm1.out,sm1.pend⟩,fun i j a1 a2 a3=>?_⟩;have hi:=xck a2 a3;rw[zgp hle,zgp hle,if_pos ⟨a1,hi⟩,if_pos ⟨xbb a1 a2,a3⟩];exact dn1 _ _ (zyv a3) (xgp a2 _) (zyw a1 hi)
 have eqs:¬ kA R (arrOf st) lo < kA R (arrOf st) (lo+n - 1)->∀k,lo<=k->k < lo+n->kA R (arrOf st) k=kA R (arrOf st) (lo+n - 1):=fun c k k1 k2=>by
  have g1:=hu lo k (xbg _) k1 k2;have g2:=hu k (lo+n - 1) k1 (xcx k2) (znm n1);exact xdh g2 (xbb (xbs c) g1)
 have dnx:∀xs:Array Keyed,(∀k,kA R xs k=kA R (arrOf st) k)->¬ kA R (arrOf st) lo < kA R (arrOf st) (lo+n - 1)->DnA R xs lo (lo+(n+1)):=fun xs e c i j a1 a2 a3=>by
  rw[e,e];by_cases e2:j=lo+n
  ·subst e2;by_cases e3:i=lo+n
   ·rw[e3];exact xbg _
   ·rw[eqs c i a1 (xcs a2 e3)];exact xbp hl
  ·have jn:=zbbs a3 e2;rw[eqs c i a1 (xck a2 jn),eqs c j (xbb a1 a2) jn];exact xbg _
 split
 ·have hle:lo+n<=(arrOf st).size:=by rw[hz];exact xbb (xca n2 lo) hn
  refine xbi (zih O b (xbh (xgs h1) hn) (zwm hlt hn) ?_);by_cases c:kA R (arrOf st) lo < kA R (arrOf st) (lo+n - 1)
  ·simp only[c,xhg,xfn];exact xbj (h n st n1 n2 b sm0 hu)
  ·simp only[c,xhk,xcr,xem];refine xbi (zpc ?_);have b1:B κ a₀ (setArr st (mirror (arrOf st) lo (lo+n) ((lo+n - lo) / 2))):=b.set (mirror_perm _ _ _ _);have sm1:Sm st (setArr st (mirror (arrOf st) lo (lo+n) ((lo+n - lo) / 2))) lo (lo+nrem):=⟨Out.mirror hle (xbg _) (xca n2 lo),rfl⟩
   have dn1:DnA R (arrOf (setArr st (mirror (arrOf st) lo (lo+n) ((lo+n - lo) / 2)))) lo (lo+(n+1)):=dnx _ (zew hle (eqs c)) c;generalize (setArr st (mirror (arrOf st) lo (lo+n) ((lo+n - lo) / 2)))=st1 at b1 sm1 dn1 ⊢;refine xbi (xjc (xgm ⟨rfl,?_⟩));refine xbi (xen (xde (I:=fun x c st'=>∃neq,c=(none,x,neq)/\Fl κ a₀ R st st' lo x neq (lo+nrem)) (Q:=fun c st'=>∃m neq,c=(none,m,neq)/\n+1<=m/\m<=nrem/\Fl κ a₀ R st st' lo m neq (lo+nrem)) ?_ ?_ ?_) ?_)
   ·rintro x c st' a1 a2 ⟨neq,rfl,f⟩;dsimp only;refine xbi (zih O f.base (zwn a2 hn) (zwm a2 hn) ?_);by_cases c:kA R (arrOf st') (lo+x) < kA R (arrOf st') (lo+x - 1)
    ·simp only[c,xhg,xfn];split
     ·obtain ⟨f2,e⟩:=f.turn (xca (xbp a2) lo) hn;refine xbi (zpc (xbj ⟨0,rfl,f2.fresh ?_⟩));refine xbp (?_:kA R (mirror _ _ _ _) _ < kA R (mirror _ _ _ _) _);rw[e,e];exact c
     ·exact xbj ⟨0,rfl,f.fresh (xbp c)⟩
    ·simp only[c,xhk,xcr,xem];refine xbi (zih O f.base (zwm a2 hn) (zwn a2 hn) ?_);by_cases c2:kA R (arrOf st') (lo+x - 1) < kA R (arrOf st') (lo+x)
     ·simp only[c2,xhg,xfn];exact xbj ⟨x,neq,rfl,a1,xbp a2,f⟩
     ·simp only[c2,xhk,xcr,xem];exact xbj ⟨neq+1,rfl,f.more (xdh (xbs c2) (xbs c))⟩
   ·rintro c st' ⟨neq,rfl,f⟩;rw[xkl hlt] at f ⊢;exact ⟨nrem,neq,rfl,hlt,xbg _,f⟩
   ·exact ⟨0,rfl,b1,sm1,dn1,xdt (xcu _),fun i g1 g2=>by
     have:i=lo+(n+1) - 1:=xdh (xcq g2) g1
     rw[this]⟩
   ·rintro c st' ⟨m,neq,rfl,a1,a2,f⟩;dsimp only;split
    ·obtain ⟨f2,e⟩:=f.turn (xca a2 lo) hn;refine xbi (zpc (xbi (zpc ?_)));obtain ⟨b3,s3,u3⟩:=fin m _ f2.base f2.same (xdb a1) a2 f2.dn;exact xbi (zwz O b3 hn (xdb a1) a2 u3 fun m' m1 m2 hu' _=>xbj (h m' _ (xbb (xdb a1) m1) m2 b3 s3 hu'))
    ·refine xbi (zpc ?_);obtain ⟨b3,s3,u3⟩:=fin m _ f.base f.same (xdb a1) a2 f.dn;exact xbi (zwz O b3 hn (xdb a1) a2 u3 fun m' m1 m2 hu' _=>xbj (h m' _ (xbb (xdb a1) m1) m2 b3 s3 hu'))
 ·rename_i hn1;have b1:=b;have sm1:=sm0
  have dn1:DnA R (arrOf st) lo (lo+(n+1)):=dnx _ (fun _=>rfl) (by
   have:n=1:=xdh (xbs hn1) n1;subst this
   simp)
  refine xbi (xjc (xgm ⟨rfl,?_⟩));refine xbi (xen (xde (I:=fun x c st'=>∃neq,c=(none,x,neq)/\Fl κ a₀ R st st' lo x neq (lo+nrem)) (Q:=fun c st'=>∃m neq,c=(none,m,neq)/\n+1<=m/\m<=nrem/\Fl κ a₀ R st st' lo m neq (lo+nrem)) ?_ ?_ ?_) ?_)
  ·rintro x c st' a1 a2 ⟨neq,rfl,f⟩;dsimp only;refine xbi (zih O f.base (zwn a2 hn) (zwm a2 hn) ?_);by_cases c:kA R (arrOf st') (lo+x) < kA R (arrOf st') (lo+x - 1)
   ·simp only[c,xhg,xfn];split
    ·obtain ⟨f2,e⟩:=f.turn (xca (xbp a2) lo) hn;refine xbi (zpc (xbj ⟨0,rfl,f2.fresh ?_⟩));refine xbp (?_:kA R (mirror _ _ _ _) _ < kA R (mirror _ _ _ _) _);rw[e,e];exact c
    ·exact xbj ⟨0,rfl,f.fresh (xbp c)⟩
   ·simp only[c,xhk,xcr,xem];refine xbi (zih O f.base (zwm a2 hn) (zwn a2 hn) ?_);by_cases c2:kA R (arrOf st') (lo+x - 1) < kA R (arrOf st') (lo+x)
    ·simp only[c2,xhg,xfn];exact xbj ⟨x,neq,rfl,a1,xbp a2,f⟩
    ·simp only[c2,xhk,xcr,xem];exact xbj ⟨neq+1,rfl,f.more (xdh (xbs c2) (xbs c))⟩
  ·rintro c st' ⟨neq,rfl,f⟩;rw[xkl hlt] at f ⊢;exact ⟨nrem,neq,rfl,hlt,xbg _,f⟩
  ·exact ⟨0,rfl,b1,sm1,dn1,xdt (xcu _),fun i g1 g2=>by
    have:i=lo+(n+1) - 1:=xdh (xcq g2) g1
    rw[this]⟩
  ·rintro c st' ⟨m,neq,rfl,a1,a2,f⟩;dsimp only;split
   ·obtain ⟨f2,e⟩:=f.turn (xca a2 lo) hn;refine xbi (zpc (xbi (zpc ?_)));obtain ⟨b3,s3,u3⟩:=fin m _ f2.base f2.same (xdb a1) a2 f2.dn;exact xbi (zwz O b3 hn (xdb a1) a2 u3 fun m' m1 m2 hu' _=>xbj (h m' _ (xbb (xdb a1) m1) m2 b3 s3 hu'))
   ·refine xbi (zpc ?_);obtain ⟨b3,s3,u3⟩:=fin m _ f.base f.same (xdb a1) a2 f.dn;exact xbi (zwz O b3 hn (xdb a1) a2 u3 fun m' m1 m2 hu' _=>xbj (h m' _ (xbb (xdb a1) m1) m2 b3 s3 hu'))
end
section
variable {prog:Program} {w:World} {A:Around} {E:Value->Shared->Prop} {s:Shared} {κ:SortKind} {a₀:Array Keyed} {R:Keyed->Nat}
theorem zjy {xs:Array Keyed} {src d:Nat} (hs:src < xs.size) (hd:d<=src) (k:Nat):kA R (bubble xs src d) k=if k=src - d then kA R xs src else if src - d < k/\k<=src then kA R xs (k - 1) else kA R xs k:=by
 have e:=getElem?_bubble hs d hd k;split
 ·rename_i c;rw[if_pos c] at e;exact zcn e
 ·rename_i c;rw[if_neg c] at e;split
  ·rename_i c2;rw[if_pos c2] at e;exact zcn e
  ·rename_i c2;rw[if_neg c2] at e;exact zcn e
theorem zgo {a b n:Nat} (h1:a<=b) (h:b - a<=n - max 0 n):b=a:=by
 rw[Nat.zero_max,xie] at h;exact xdh (Nat.le_of_sub_eq_zero (Nat.le_zero.mp h)) h1
theorem zbeb {l r:Nat} (h:¬l ≥ r):l<=(l+r) / 2:=(Nat.le_div_iff_mul_le xkq).mpr (by rw[Nat.mul_two];exact xca (xbp (xfa h)) l)
theorem zbbt {l r:Nat} (h:¬l ≥ r):(l+r) / 2 < r:=(Nat.div_lt_iff_lt_mul xkq).mpr (by rw[Nat.mul_two];exact Nat.add_lt_add_right (xfa h) r)
theorem hf_l {l r k x:Nat} (h:¬l ≥ r) (g:r - l<=k - x):(l+r) / 2 - l<=k - (x+1):=xbb (xcx (xdp (zbeb h) (zbbt h))) (xep g 1)
theorem hf_r {l r k x:Nat} (h:¬l ≥ r) (g:r - l<=k - x):r - ((l+r) / 2+1)<=k - (x+1):=xbb (xgp (xdt (zbeb h)) r) (xep g 1)
theorem ztq {p j q:Nat} (h:p < j) (h2:j<=q):j - 1 < q:=xbh (xgz (xis h) Nat.one_pos) h2
theorem zbhd {lo n ok:Nat} {st:SortSt} {Q:Bool->SortSt->Prop} (O:Orc prog w A s κ a₀ R) (b:B κ a₀ st) (hn:lo+n<=a₀.size) (h1:1<=ok) (h2:ok<=n) (up:UpA R (arrOf st) lo (lo+ok))
  (h:∀st',B κ a₀ st'->Sm st st' lo (lo+n)->UpA R (arrOf st') lo (lo+n)->Q true st'):wpS (model prog w) A E s (binarySort' lo n ok) Q st:=by
 rw[binarySort'_eq]
 refine xbi (xen (xde (I:=fun k c st'=>c=(none,())/\B κ a₀ st'/\Sm st st' lo (lo+n)/\UpA R (arrOf st') lo (lo+min k n))
  (Q:=fun c st'=>c=(none,())/\B κ a₀ st'/\Sm st st' lo (lo+n)/\UpA R (arrOf st') lo (lo+n)) ?_ ?_ ?_) ?_)
 ·rintro k c st' k1 k2 ⟨rfl,b1,sm1,up1⟩;rw[xdn (xbp k2)] at up1;have hz:=b1.size;have hk:lo+k < a₀.size:=xbh (xdo k2 lo) hn
  refine xbi (xen (xde (I:=fun x c st2=>st2=st'/\∃l r,c=(none,l,r)/\l<=r/\r<=k/\r - l<=k - x/\(∀i,i < l->kA R (arrOf st') (lo+i)<=kA R (arrOf st') (lo+k))/\(∀i,r<=i->i < k->kA R (arrOf st') (lo+k)<=kA R (arrOf st') (lo+i)))
   (Q:=fun c st2=>st2=st'/\∃l r,c=(none,l,r)/\l<=k/\(∀i,i < l->kA R (arrOf st') (lo+i)<=kA R (arrOf st') (lo+k))/\(∀i,l<=i->i < k->kA R (arrOf st') (lo+k)<=kA R (arrOf st') (lo+i))) ?_ ?_ ?_) ?_)
  ·rintro x c st2 x1 x2 ⟨rfl,l,r,rfl,g1,g2,g3,g4,g5⟩;dsimp only;by_cases hge:l ≥ r
   ·rw[if_pos hge];have e:l=r:=xdh g1 hge;subst e;exact xbj ⟨rfl,l,l,rfl,g2,g4,g5⟩
   ·have hm:lo+(l+r) / 2 < lo+k:=xdo (xbh (zbbt hge) g2) lo;rw[if_neg hge];refine xbi (zih O b1 hk (xhi hm hk) ?_);by_cases c:kA R (arrOf st2) (lo+k) < kA R (arrOf st2) (lo+(l+r) / 2)
    ·simp only[c,xhg,xfn];exact xbj ⟨rfl,l,(l+r) / 2,rfl,zbeb hge,xbb (xbp (zbbt hge)) g2,hf_l hge g3,g4,fun i a1 a2=>xbb (xbp c) (up1 _ _ (xbr _ _) (xca a1 lo) (xdo a2 lo))⟩
    ·simp only[c,xhk,xcr,xem];exact xbj ⟨rfl,(l+r) / 2+1,r,rfl,zbbt hge,g2,hf_r hge g3,fun i a1=>xbb (up1 (lo+i) (lo+(l+r) / 2) (xbr _ _) (xca (xcq a1) lo) hm) (xbs c),g5⟩
  ·rintro c st2 ⟨rfl,l,r,rfl,g1,g2,g3,g4,g5⟩;have e:=zgo g1 g3;subst e;exact ⟨rfl,_,_,rfl,g2,g4,g5⟩
  ·exact ⟨rfl,0,k,rfl,xcu _,xbg _,xbg _,fun i hi=>absurd hi (Nat.not_lt_zero _),fun i a1 a2=>absurd a2 (xds a1)⟩
  ·rintro c st2 ⟨rfl,l,r,rfl,g1,g2,g3⟩;dsimp only;have hd:lo+k - (lo+k - (lo+l))=lo+l:=Nat.sub_sub_self (xca g1 lo);have hs:lo+k < (arrOf st2).size:=by rw[hz];exact hk
   refine xbi (zbby (xbj ⟨rfl,b1.set (bubble_perm _ _ _),⟨(Out.bubble hs (xfx _ _) (by rw[hd];exact xbr _ _) (xdo k2 lo)).trans sm1.out,sm1.pend⟩,fun i j a1 a2 a3=>?_⟩));show kA R (bubble (arrOf st2) (lo+k) (lo+k - (lo+l))) i<=kA R (bubble (arrOf st2) (lo+k) (lo+k - (lo+l))) j;rw[zjy hs (xfx _ _),zjy hs (xfx _ _),hd];rw[xdn k2] at a3;have hj:j<=lo+k:=xcq a3;have low:∀q,lo<=q->q < lo+l->kA R (arrOf st2) q<=kA R (arrOf st2) (lo+k):=fun q q1 q2=>by
    have:=g2 (q - lo) (xdf q1 q2);rw[xcd q1] at this;exact this
   have hig:∀q,lo+l<=q->q < lo+k->kA R (arrOf st2) (lo+k)<=kA R (arrOf st2) q:=fun q q1 q2=>by
    have q0:=xbb (xbr _ _) q1;have:=g3 (q - lo) (xdz q1) (xdf q0 q2);rw[xcd q0] at this;exact this
   by_cases i1:i=lo+l
   ·rw[if_pos i1];by_cases j1:j=lo+l
    ·rw[if_pos j1];exact xbg _
    ·have jj:=xcs (i1 ▸ a2) (xeb j1);rw[if_neg j1,if_pos ⟨jj,hj⟩];exact hig _ (xcx jj) (ztq jj hj)
   ·rw[if_neg i1];by_cases i2:lo+l < i/\i<=lo+k
    ·have jj:=xbh i2.1 a2;rw[if_pos i2,if_neg (xkj jj),if_pos ⟨jj,hj⟩];exact up1 _ _ (xbb (xbr lo l) (xcx i2.1)) (xep a2 1) (ztq jj hj)
    ·have il:i < lo+l:=xcs (xbs fun z=>i2 ⟨z,xbb a2 hj⟩) i1;rw[if_neg i2];by_cases j1:j=lo+l
     ·rw[if_pos j1];exact low i a1 il
     ·rw[if_neg j1];by_cases j2:lo+l < j/\j<=lo+k
      ·rw[if_pos j2];exact up1 _ _ a1 (xcx (xhi il j2.1)) (ztq j2.1 hj)
      ·rw[if_neg j2];exact up1 _ _ a1 a2 (xbh (xcs (xbs fun z=>j2 ⟨z,hj⟩) j1) (xca g1 lo))
 ·rintro c st' ⟨rfl,b1,sm1,up1⟩;rw[xhm (Nat.le_max_right _ _)] at up1;exact ⟨rfl,b1,sm1,up1⟩
 ·refine ⟨rfl,b,⟨Out.refl _ _ _,rfl⟩,fun i j a1 a2 a3=>up i j a1 a2 (xbh a3 (xca (xbb (xha _ _) (xda (Nat.max_eq_left h1))) lo))⟩
 ·rintro c st' ⟨rfl,b1,sm1,up1⟩;exact xbj (h st' b1 sm1 up1)
noncomputable def gallop':Bool->Keyed->Array Keyed->Nat->Nat->Nat->StateT SortSt Sem (Option Nat):=sortPriv% PySem.Builtin.gallop
noncomputable def Cut (left:Bool) (R:Keyed->Nat) (key:Keyed) (arr:Array Keyed) (base n h:Nat):Prop:=h<=n/\(∀i,i < h->if left then kA R arr (base+i) < R key else kA R arr (base+i)<=R key)/\(∀i,h<=i->i < n->if left then R key<=kA R arr (base+i) else R key < kA R arr (base+i))
noncomputable def ahead (left:Bool) (R:Keyed->Nat) (key:Keyed) (arr:Array Keyed) (base i:Nat):Bool:=if left then decide (kA R arr (base+i) < R key) else decide (kA R arr (base+i)<=R key)
theorem zhc {left:Bool} {key:Keyed} {arr:Array Keyed} {base i:Nat} {st:SortSt} {Q:Option Bool->SortSt->Prop} (O:Orc prog w A s κ a₀ R) (hk:kindOf st=κ) (mk:key∈a₀.toList) (ma:∃x,arr[base+i]?=some x/\x∈a₀.toList) (h:Q (some (ahead left R key arr base i)) st) :
  wpS (model prog w) A E s (do
   let x ← elem' arr (base+i)
   if left=true then lt' x key else do
    let y ← lt' key x
    pure (Option.map (fun x=>!x) y)) Q st:=by
 obtain ⟨x,e,m⟩:=ma;refine xbi (zhb e ?_);unfold ahead at h;rw[zcq e] at h;cases left with
 | true =>
  rw[if_pos rfl] at h ⊢;exact w_lt O hk m mk h
 | false =>
  rw[if_neg (by decide)] at h ⊢;refine xbi (w_lt O hk mk m (xbj ?_));have q:(!decide (R key < R x))=decide (R x<=R key):=by
   by_cases c:R key < R x
   ·rw[xcj c,xbu (Nat.not_le_of_lt c)];rfl
   ·rw[xbu c,xcj (xbs c)];rfl
  show Q (some (!decide (R key < R x))) st;rw[q];exact h
theorem zoq {left:Bool} {key:Keyed} {arr:Array Keyed} {base n i j:Nat} (up:UpA R arr base (base+n)) (hij:i<=j) (hj:j < n) (h:ahead left R key arr base j=true):ahead left R key arr base i=true:=by
 have:=up (base+i) (base+j) (xbr _ _) (xca hij _) (xdo hj _);unfold ahead at h ⊢;cases left with
 | true=>rw[if_pos rfl] at h ⊢;exact xcj (xck this (xfo h))
 | false=>rw[if_neg (by decide)] at h ⊢;exact xcj (xbb this (xfo h))
theorem zbaw {left:Bool} {key:Keyed} {arr:Array Keyed} {base n h:Nat} (h0:h<=n) (h1:∀i,i < h->ahead left R key arr base i=true) (h2:∀i,h<=i->i < n->ahead left R key arr base i=false):Cut left R key arr base n h:=by
 refine ⟨h0,fun i hi=>?_,fun i a1 a2=>?_⟩
 ·have:=h1 i hi;unfold ahead at this;cases left with
  | true=>rw[if_pos rfl] at this ⊢;exact xfo this
  | false=>rw[if_neg (by decide)] at this ⊢;exact xfo this
 ·have:=h2 i a1 a2;unfold ahead at this;cases left with
  | true=>rw[if_pos rfl] at this ⊢;exact xbs (of_decide_eq_false this)
  | false=>rw[if_neg (by decide)] at this ⊢;exact xfa (of_decide_eq_false this)
theorem zsi {a b:Nat} (c:¬a ≥ b):(b - a) / 2 < b - a:=Nat.div_lt_self (xet (xfa c)) (xbg 2)
theorem zbdo {a b:Nat} (c:¬a ≥ b):a+(b - a) / 2 < b:=xdi (zsi c)
theorem zwi {a b n:Nat} (c:¬a ≥ b) (h:b<=n):a+(b - a) / 2 < n:=xbh (zbdo c) h
theorem zyy {a b n x:Nat} (h:b - a<=n - x):b - (a+(b - a) / 2+1)<=n - (x+1):=xbb (xgp (xdt (xbr a _)) b) (xep h 1)
theorem zyx {a b n x:Nat} (c:¬a ≥ b) (h:b - a<=n - x):a+(b - a) / 2 - a<=n - (x+1):=by
 rw[xcn];exact xbb (xcx (zsi c)) (xep h 1)
theorem zbai (o:Nat):o < 2 * o+1:=Nat.lt_succ_of_le (Nat.le_mul_of_pos_left o xkq)
theorem zbaj {x o:Nat} (h:x+1<=o):x+1+1<=2 * o+1:=xdt (xbb h (Nat.le_mul_of_pos_left o xkq))
theorem zxe {a b n:Nat} (h:a+b < n):b < n - a:=Nat.lt_sub_of_add_lt (Nat.add_comm a b ▸ h)
inductive GI (f:Nat->Bool) (n:Nat) (st:SortSt) (x:Nat):Option (Option Nat) × Nat × Nat->SortSt->Prop where
 | mk {a b:Nat} (q1:a<=b) (q2:b<=n) (q3:b - a<=n - x) (q4:∀i,i < a->f i=true) (q5:∀i,b<=i->i < n->f i=false):GI f n st x (none,a,b) st
inductive GE (f:Nat->Bool) (n:Nat) (st:SortSt):Option (Option Nat) × Nat × Nat->SortSt->Prop where
 | mk {b:Nat} (q2:b<=n) (q4:∀i,i < b->f i=true) (q5:∀i,b<=i->i < n->f i=false):GE f n st (none,b,b) st
inductive GU (f:Nat->Bool) (n hint:Nat) (P:Nat->Prop) (st:SortSt):Option (Option Nat) × Nat × Nat->SortSt->Prop where
 | mk {l o:Nat} (g1:l < o) (g2:hint+l < n) (g3:f (hint+l)=true) (g4:P o):GU f n hint P st (none,l,o) st
inductive GD (f:Nat->Bool) (hint:Nat) (P:Nat->Prop) (st:SortSt):Option (Option Nat) × Nat × Nat->SortSt->Prop where
 | mk {l o:Nat} (g1:l < o) (g2:l<=hint) (g3:f (hint - l)=false) (g4:P o):GD f hint P st (none,l,o) st
theorem zdq {left:Bool} {key:Keyed} {arr:Array Keyed} {base n hint:Nat} {st:SortSt} {Q:Option Nat->SortSt->Prop} (O:Orc prog w A s κ a₀ R) (hk:kindOf st=κ) (mk:key∈a₀.toList) (ma:∀i,i < n->∃x,arr[base+i]?=some x/\x∈a₀.toList) (hh:hint < n)
  (up:UpA R arr base (base+n)) (h:∀k,Cut left R key arr base n k->Q (some k) st):wpS (model prog w) A E s (gallop' left key arr base n hint) Q st:=by
 have mono:∀i j,i<=j->j < n->ahead left R key arr base j=true->ahead left R key arr base i=true:=fun i j a1 a2=>zoq up a1 a2
 have monoF:∀i j,i<=j->j < n->ahead left R key arr base i=false->ahead left R key arr base j=false:=fun i j a1 a2 e=>by
  cases c:ahead left R key arr base j with
  | false=>rfl
  | true=>rw[mono i j a1 a2 c] at e;cases e
 refine xbi (zhc O hk mk (ma hint hh) ?_);dsimp only;cases hr:ahead left R key arr base hint with
 | true =>
  rw[if_pos rfl];refine xbi (xen (xde (I:=fun x=>GU (ahead left R key arr base) n hint (x+1<=·) st) (Q:=GU (ahead left R key arr base) n hint (fun o=>n - hint<=o\/(hint+o < n/\ahead left R key arr base (hint+o)=false)) st) ?_ ?_ ?_) ?_)
  ·rintro x c st' x1 x2 @⟨l,o,g1,g2,g3,g4⟩;dsimp only;by_cases c:o ≥ n - hint
   ·rw[if_pos c];exact xbj (.mk g1 g2 g3 (.inl c))
   ·have c3:hint+o < n:=xdi (xfa c);rw[if_neg c];refine xbi (zhc O hk mk (ma (hint+o) c3) ?_);dsimp only;cases c2:ahead left R key arr base (hint+o) with
    | true=>exact xbj (.mk (zbai o) c3 c2 (zbaj g4))
    | false=>exact xbj (.mk g1 g2 g3 (.inr ⟨c3,c2⟩))
  ·rintro c st' @⟨l,o,g1,g2,g3,g4⟩;rw[Nat.zero_max] at g4;exact .mk g1 g2 g3 (.inl (xbb (xfx _ _) (xcy g4)))
  ·exact .mk Nat.one_pos hh hr (xbg _)
  ·rintro c st' @⟨l,o,g1,g2,g3,g4⟩;dsimp only;have f1:∀i,i < hint+l+1->ahead left R key arr base i=true:=fun i hi=>mono i (hint+l) (xcq hi) g2 g3
   have f2:∀i,hint+min o (n - hint)<=i->i < n->ahead left R key arr base i=false:=fun i a1 a2=>by
    rcases g4 with g | ⟨ga,gb⟩
    ·rw[xhm g,xcd (xbp hh)] at a1;exact absurd a2 (xds a1)
    ·rw[xdn (xbp (zxe ga))] at a1;exact monoF (hint+o) i a1 a2 gb
   have f3:hint+l+1<=hint+min o (n - hint):=xca (Nat.le_min.mpr ⟨g1,zxe g2⟩) hint;have f4:hint+min o (n - hint)<=n:=xbb (xca (xfu _ _) hint) (xda (xcd (xbp hh)));generalize hint+l+1=lo at f1 f3 ⊢;generalize hint+min o (n - hint)=hi at f2 f3 f4 ⊢;refine xbi (xen (xde (I:=GI (ahead left R key arr base) n st) (Q:=GE (ahead left R key arr base) n st) ?_ ?_ (.mk f3 f4 (xbb (xfx _ _) f4) f1 f2)) ?_)
   ·rintro x c st2 x1 x2 @⟨a,b,q1,q2,q3,q4,q5⟩;dsimp only;by_cases c:a ≥ b
    ·rw[if_pos c];have e:b=a:=xdh c q1;subst e;exact xbj (.mk q2 q4 q5)
    ·rw[if_neg c];refine xbi (zhc O hk mk (ma (a+(b - a) / 2) (zwi c q2)) ?_);dsimp only;cases c2:ahead left R key arr base (a+(b - a) / 2) with
     | true=>exact xbj (.mk (zbdo c) q2 (zyy q3) (fun i hi=>mono i (a+(b - a) / 2) (xcq hi) (zwi c q2) c2) q5)
     | false=>exact xbj (.mk (xbr _ _) (xbp (zwi c q2)) (zyx c q3) q4 fun i a1 a2=>monoF (a+(b - a) / 2) i a1 a2 c2)
   ·rintro c st2 @⟨a,b,q1,q2,q3,q4,q5⟩;have e:=zgo q1 q3;subst e;exact .mk q2 q4 q5
   ·rintro c st2 @⟨b,q2,q4,q5⟩;exact xbj (h b (zbaw q2 q4 q5))
 | false =>
  rw[if_neg (by decide)];refine xbi (xen (xde (I:=fun x=>GD (ahead left R key arr base) hint (x+1<=·) st) (Q:=GD (ahead left R key arr base) hint (fun o=>hint+1<=o\/(o<=hint/\ahead left R key arr base (hint - o)=true)) st) ?_ ?_ ?_) ?_)
  ·rintro x c st' x1 x2 @⟨l,o,g1,g2,g3,g4⟩;dsimp only;by_cases c:o ≥ hint+1
   ·rw[if_pos c];exact xbj (.mk g1 g2 g3 (.inl c))
   ·rw[if_neg c];refine xbi (zhc O hk mk (ma (hint - o) (xck (xfx _ _) hh)) ?_);dsimp only;cases c2:ahead left R key arr base (hint - o) with
    | true=>exact xbj (.mk g1 g2 g3 (.inr ⟨xcq (xfa c),c2⟩))
    | false=>exact xbj (.mk (zbai o) (xcq (xfa c)) c2 (zbaj g4))
  ·rintro c st' @⟨l,o,g1,g2,g3,g4⟩;rw[Nat.zero_max] at g4;exact .mk g1 g2 g3 (.inl (xbb hh (xcy g4)))
  ·exact .mk Nat.one_pos (xcu _) hr (xbg _)
  ·rintro c st' @⟨l,o,g1,g2,g3,g4⟩;dsimp only;have f1:∀i,i < hint+1 - min o (hint+1)->ahead left R key arr base i=true:=fun i hi=>by
    rcases g4 with g | ⟨ga,gb⟩
    ·rw[xhm g,xie] at hi;exact absurd hi (Nat.not_lt_zero _)
    ·rw[xdn (xfk ga),Nat.succ_sub ga] at hi;exact mono i (hint - o) (xcq hi) (xck (xfx _ _) hh) gb
   have f2:∀i,hint - l<=i->i < n->ahead left R key arr base i=false:=fun i a1 a2=>monoF (hint - l) i a1 a2 g3
   have f3:hint+1 - min o (hint+1)<=hint - l:=xbb (xgp (Nat.le_min.mpr ⟨g1,xdt g2⟩) _) (xda (Nat.succ_sub_succ hint l));have f4:hint - l<=n:=xbb (xfx _ _) (xbp hh);generalize hint+1 - min o (hint+1)=lo at f1 f3 ⊢;generalize hint - l=hi at f2 f3 f4 ⊢;refine xbi (xen (xde (I:=GI (ahead left R key arr base) n st) (Q:=GE (ahead left R key arr base) n st) ?_ ?_ (.mk f3 f4 (xbb (xfx _ _) f4) f1 f2)) ?_)
   ·rintro x c st2 x1 x2 @⟨a,b,q1,q2,q3,q4,q5⟩;dsimp only;by_cases c:a ≥ b
    ·rw[if_pos c];have e:b=a:=xdh c q1;subst e;exact xbj (.mk q2 q4 q5)
    ·rw[if_neg c];refine xbi (zhc O hk mk (ma (a+(b - a) / 2) (zwi c q2)) ?_);dsimp only;cases c2:ahead left R key arr base (a+(b - a) / 2) with
     | true=>exact xbj (.mk (zbdo c) q2 (zyy q3) (fun i hi=>mono i (a+(b - a) / 2) (xcq hi) (zwi c q2) c2) q5)
     | false=>exact xbj (.mk (xbr _ _) (xbp (zwi c q2)) (zyx c q3) q4 fun i a1 a2=>monoF (a+(b - a) / 2) i a1 a2 c2)
   ·rintro c st2 @⟨a,b,q1,q2,q3,q4,q5⟩;have e:=zgo q1 q3;subst e;exact .mk q2 q4 q5
   ·rintro c st2 @⟨b,q2,q4,q5⟩;exact xbj (h b (zbaw q2 q4 q5))
end
section
variable {prog:Program} {w:World} {A:Around} {E:Value->Shared->Prop} {s:Shared} {κ:SortKind} {a₀:Array Keyed} {R:Keyed->Nat}
noncomputable abbrev Ord (R:Keyed->Nat) (l:List Keyed):Prop:=l.Pairwise fun x y=>R x<=R y
structure SmG (st st':SortSt):Prop where
 arr:arrOf st'=arrOf st
 pend:pendingOf st'=pendingOf st
 kind:kindOf st'=kindOf st
 failed:failedOf st'=failedOf st
theorem SmG.refl (st:SortSt):SmG st st:=⟨rfl,rfl,rfl,rfl⟩
theorem SmG.trans {a b c:SortSt} (x:SmG a b) (y:SmG b c):SmG a c:=⟨y.arr.trans x.arr,y.pend.trans x.pend,y.kind.trans x.kind,y.failed.trans x.failed⟩
noncomputable def mergeLo':Array Keyed->Array Keyed->StateT SortSt Sem (Array Keyed):=sortPriv% PySem.Builtin.mergeLo
noncomputable def mergeHi':Array Keyed->Array Keyed->StateT SortSt Sem (Array Keyed):=sortPriv% PySem.Builtin.mergeHi
structure ML (R:Keyed->Nat) (all out rest:List Keyed):Prop where
 perm:(out++rest).Perm all
 ord:Ord R out
 le:∀x∈out,∀y∈rest,R x<=R y
theorem ML.grow {all out rest xs rest':List Keyed} (m:ML R all out rest) (p:rest.Perm (xs++rest')) (o:Ord R xs) (h:∀x∈xs,∀y∈rest',R x<=R y):ML R all (out++xs) rest':=by
 refine ⟨?_,xfi.mpr ⟨m.ord,o,fun x hx y hy=>m.le x hx y (p.mem_iff.mpr (xgk _ hy))⟩,fun x hx y hy=>?_⟩
 ·rw[xcg];exact (xgf out p.symm).trans m.perm
 ·rcases xcc.mp hx with hx | hx
  ·exact m.le x hx y (p.mem_iff.mpr (xcz _ hy))
  ·exact h x hx y hy
theorem ML.fin {all out rest rest':List Keyed} (m:ML R all out rest) (p:rest'.Perm rest) (o:Ord R rest'):(out++rest').Perm all/\Ord R (out++rest') :=
 ⟨(xgf out p).trans m.perm,xfi.mpr ⟨m.ord,o,fun x hx y hy=>m.le x hx y (p.mem_iff.mp hy)⟩⟩
theorem Ord.at {l:List Keyed} (h:Ord R l) {i j:Nat} {x y:Keyed} (hi:l[i]?=some x) (hj:l[j]?=some y) (hij:i<=j):R x<=R y:=by
 obtain ⟨h1,e1⟩:=xbo.mp hi;obtain ⟨h2,e2⟩:=xbo.mp hj;by_cases c:i=j
 ·subst c;rw[← e1,← e2];exact xbg _
 ·rw[← e1,← e2];exact xia.mp h i j h1 h2 (xcs hij c)
theorem Ord.drop {l:List Keyed} (h:Ord R l) (n:Nat):Ord R (l.drop n):=List.Pairwise.sublist (List.drop_sublist _ _) h
theorem Ord.take {l:List Keyed} (h:Ord R l) (n:Nat):Ord R (l.take n):=List.Pairwise.sublist (List.take_sublist _ _) h
theorem zbc {l:List Keyed} {n:Nat} {y:Keyed} (h:y∈l.drop n):∃j,n<=j/\l[j]?=some y:=by
 obtain ⟨i,hi,e⟩:=xdv h;refine ⟨n+i,xbr _ _,?_⟩;rw[← e,List.getElem_drop];exact xbe _
theorem zq {l:List Keyed} {n:Nat} {y:Keyed} (h:y∈l.take n):∃j,j < n/\l[j]?=some y:=by
 obtain ⟨i,hi,e⟩:=xdv h;have hi2:i < n/\i < l.length:=by rw[xco] at hi;exact Nat.lt_min.mp hi
 refine ⟨i,hi2.1,?_⟩;rw[← e,List.getElem_take];exact xbe _
theorem zfa {l:List Keyed} {i:Nat} {x:Keyed} (h:l[i]?=some x):l.drop i=x::l.drop (i+1):=by
 obtain ⟨h1,rfl⟩:=xbo.mp h;exact xgl h1
theorem zhu (l:List Keyed) (i k:Nat):l.drop i=(l.drop i).take k++l.drop (i+k):=by
 rw[← xkr,xgg]
structure Two (R:Keyed->Nat) (la lb:List Keyed):Prop where
 oa:Ord R la
 ob:Ord R lb
 last:∀x,la[la.length - 1]?=some x->∀y∈lb,R y<=R x
noncomputable def Fin (R:Keyed->Nat) (la lb:List Keyed) (r:Array Keyed):Prop:=r.toList.Perm (la++lb)/\Ord R r.toList
variable {la lb:List Keyed} {out:Array Keyed} {ia ib:Nat}
theorem ML.pushB {R:Keyed->Nat} {all:List Keyed} (T:Two R la lb) (m:ML R all out.toList (la.drop ia++lb.drop ib)) {y:Keyed} (hy:lb[ib]?=some y) (h:∀z∈la.drop ia,R y<=R z):ML R all (out.push y).toList (la.drop ia++lb.drop (ib+1)):=by
 rw[xeu];refine m.grow ?_ (xio _ _) fun x hx z hz=>?_
 ·rw[zfa hy];exact List.perm_middle
 ·simp at hx;subst hx
  rcases xcc.mp hz with hz | hz
  ·exact h z hz
  ·obtain ⟨j,hj,e⟩:=zbc hz;exact T.ob.at hy e (xcy hj)
theorem ML.pushA {R:Keyed->Nat} {all:List Keyed} (T:Two R la lb) (m:ML R all out.toList (la.drop ia++lb.drop ib)) {x:Keyed} (hx:la[ia]?=some x) (h:∀z∈lb.drop ib,R x<=R z):ML R all (out.push x).toList (la.drop (ia+1)++lb.drop ib):=by
 rw[xeu];refine m.grow ?_ (xio _ _) fun w hw z hz=>?_
 ·rw[zfa hx];exact .refl _
 ·simp at hw;subst hw
  rcases xcc.mp hz with hz | hz
  ·obtain ⟨j,hj,e⟩:=zbc hz;exact T.oa.at hx e (xcy hj)
  ·exact h z hz
theorem zbn (xs:Array Keyed) (i j:Nat):(xs.extract i j).toList=(xs.toList.drop i).take (j - i):=by
 rw[Array.toList_extract,List.extract_eq_take_drop]
theorem zkd (xs:Array Keyed) (i:Nat):(xs.extract i).toList=xs.toList.drop i:=by
 rw[zbn];exact xfy (by simp)
theorem zbi {xs:Array Keyed} {i:Nat} {x:Keyed} (h:xs.toList[i]?=some x):kA R xs i=R x:=zcq (by rw[← xcf];exact h)
end
section
variable {prog:Program} {w:World} {A:Around} {E:Value->Shared->Prop} {s:Shared} {κ:SortKind} {a₀:Array Keyed} {R:Keyed->Nat} {a b out:Array Keyed} {ia ib k:Nat} {y x:Keyed} {all:List Keyed}
theorem ML.galA (T:Two R a.toList b.toList) (m:ML R all out.toList (a.toList.drop ia++b.toList.drop ib)) (hy:b.toList[ib]?=some y) (c:Cut false R y a ia (a.size - ia) k):ML R all (out++a.extract ia (ia+k)).toList (a.toList.drop (ia+k)++b.toList.drop ib)/\∀z∈a.toList.drop (ia+k),R y<=R z:=by
 have up:∀z∈a.toList.drop (ia+k),R y<=R z:=fun z hz=>by
  obtain ⟨j,hj,e⟩:=zbc hz;have hj2:j < a.size:=by have:=(xbo.mp e).1;simpa using this
  have h0:=xbb (xbr _ _) hj;have:=c.2.2 (j - ia) (xdz hj) (xdp h0 hj2);rw[xcd h0,zbi e] at this;exact xbp this
 have low:∀z∈(a.toList.drop ia).take k,R z<=R y:=fun z hz=>by
  obtain ⟨j,hj,e⟩:=zq hz;rw[xfe] at e;have:=c.2.1 j hj;rw[zbi e] at this;exact this
 refine ⟨?_,up⟩;rw[xdd,zbn,xcn];refine m.grow ?_ ((T.oa.drop ia).take k) fun z hz v hv=>?_
 ·conv=>lhs;rw[zhu a.toList ia k]
  rw[xcg]
 ·rcases xcc.mp hv with hv | hv
  ·exact xbb (low z hz) (up v hv)
  ·obtain ⟨j,hj,e⟩:=zbc hv;exact xbb (low z hz) (T.ob.at hy e hj)
theorem ML.galB (T:Two R a.toList b.toList) (m:ML R all out.toList (a.toList.drop ia++b.toList.drop ib)) (hx:a.toList[ia]?=some x) (c:Cut true R x b ib (b.size - ib) k):ML R all (out++b.extract ib (ib+k)).toList (a.toList.drop ia++b.toList.drop (ib+k))/\∀z∈b.toList.drop (ib+k),R x<=R z:=by
 have up:∀z∈b.toList.drop (ib+k),R x<=R z:=fun z hz=>by
  obtain ⟨j,hj,e⟩:=zbc hz;have hj2:j < b.size:=by have:=(xbo.mp e).1;simpa using this
  have h0:=xbb (xbr _ _) hj;have:=c.2.2 (j - ib) (xdz hj) (xdp h0 hj2);rw[xcd h0,zbi e] at this;exact this
 have low:∀z∈(b.toList.drop ib).take k,R z<=R x:=fun z hz=>by
  obtain ⟨j,hj,e⟩:=zq hz;rw[xfe] at e;have:=c.2.1 j hj;rw[zbi e] at this;exact xbp this
 refine ⟨?_,up⟩;rw[xdd,zbn,xcn];refine m.grow ?_ ((T.ob.drop ib).take k) fun z hz v hv=>?_
 ·conv=>lhs;rw[zhu b.toList ib k]
  rw[← xcg,← xcg];exact xhf _ xgh
 ·rcases xcc.mp hv with hv | hv
  ·obtain ⟨j,hj,e⟩:=zbc hv;exact xbb (low z hz) (T.oa.at hx e hj)
  ·exact xbb (low z hz) (up v hv)
theorem ML.done (T:Two R a.toList b.toList) (m:ML R (a.toList++b.toList) out.toList (a.toList.drop ia++b.toList.drop ib)) (h:ia=a.size\/ib=b.size):Fin R a.toList b.toList (out++a.extract ia++b.extract ib):=by
 unfold Fin;rw[xdd,xdd,zkd,zkd,xcg];refine m.fin (.refl _) ?_;rcases h with rfl | rfl
 ·rw[xdu (by simp),List.nil_append];exact T.ob.drop _
 ·rw[xdu (as:=b.toList) (by simp),xdm];exact T.oa.drop _
theorem ML.lastA (T:Two R a.toList b.toList) (m:ML R (a.toList++b.toList) out.toList (a.toList.drop ia++b.toList.drop ib)) (h:ia+1=a.size):Fin R a.toList b.toList (out++b.extract ib++a.extract ia):=by
 unfold Fin;rw[xdd,xdd,zkd,zkd,xcg];refine m.fin xgh (xfi.mpr ⟨T.ob.drop _,T.oa.drop _,fun v hv z hz=>?_⟩);obtain ⟨j,hj,e⟩:=zbc hz;have hj2:j < a.size:=by have:=(xbo.mp e).1;simpa using this
 have:j=a.toList.length - 1:=xdh (xcx (by rw[xbv];exact hj2)) (by rw[xbv,← h];exact hj);subst this;exact T.last z e v (xjk hv)
noncomputable def setG':Nat->StateT SortSt Sem Unit:=sortPriv% PySem.Builtin.setMinGallop
theorem zpb {g:Nat} {st:SortSt} {Q:Unit->SortSt->Prop} (h:∀st',SmG st st'->Q () st'):wpS (model prog w) A E s (setG' g) Q st :=
 xga (h _ ⟨rfl,rfl,rfl,rfl⟩)
theorem zbgc {α:Type} {K:Nat->StateT SortSt Sem α} {Q:α->SortSt->Prop} {st:SortSt} (h:∀v,wpS (model prog w) A E s (K v) Q st):∀y x:Nat,wpS (model prog w) A E s (if y > 1 then K x else K y) Q st:=fun y x=>by
 by_cases e:y > 1
 ·rw[if_pos e];exact h x
 ·rw[if_neg e];exact h y
theorem zbge {α:Type} {c c2:Prop} [Decidable c] [Decidable c2] {X Y Y':StateT SortSt Sem α} {Q:α->SortSt->Prop} {st:SortSt} (hY:¬c->Y'=Y) (h1:c->c2->wpS (model prog w) A E s X Q st) (h2:(c->¬c2)->wpS (model prog w) A E s Y Q st):wpS (model prog w) A E s (if c then (if c2 then X else Y) else Y') Q st:=by
 by_cases e:c
 ·rw[if_pos e];by_cases e2:c2
  ·rw[if_pos e2];exact h1 e e2
  ·rw[if_neg e2];exact h2 fun _=>e2
 ·rw[if_neg e,hY e];exact h2 fun z=>absurd z e
theorem zwx {α:Type} {c c2 c3:Prop} [Decidable c] [Decidable c2] [Decidable c3] {X X3 Y Y':StateT SortSt Sem α} {Q:α->SortSt->Prop} {st:SortSt} (hY:¬c->Y'=Y) (h1:c->c2->wpS (model prog w) A E s X Q st) (h3:c->c3->wpS (model prog w) A E s X3 Q st) (h2:(c->¬c2/\¬c3)->wpS (model prog w) A E s Y Q st):wpS (model prog w) A E s (if c then (if c2 then X else if c3 then X3 else Y) else Y') Q st:=by
 by_cases e:c
 ·rw[if_pos e];by_cases e2:c2
  ·rw[if_pos e2];exact h1 e e2
  ·rw[if_neg e2];by_cases e3:c3
   ·rw[if_pos e3];exact h3 e e3
   ·rw[if_neg e3];exact h2 fun _=>⟨e2,e3⟩
 ·rw[if_neg e,hY e];exact h2 fun z=>absurd z e
theorem zbgd {α:Type} {c c2:Prop} [Decidable c] [Decidable c2] {X X2 Y:StateT SortSt Sem α} {Q:α->SortSt->Prop} {st:SortSt} (h1:c->wpS (model prog w) A E s X Q st) (h2:c2->wpS (model prog w) A E s X2 Q st) (h3:¬c->¬c2->wpS (model prog w) A E s Y Q st):wpS (model prog w) A E s (if c then X else if c2 then X2 else Y) Q st:=by
 by_cases e:c
 ·rw[if_pos e];exact h1 e
 ·rw[if_neg e];by_cases e2:c2
  ·rw[if_pos e2];exact h2 e2
  ·rw[if_neg e2];exact h3 e e2
theorem w_if {α:Type} {c:Prop} [Decidable c] {X Y:StateT SortSt Sem α} {Q:α->SortSt->Prop} {st:SortSt} (h1:c->wpS (model prog w) A E s X Q st) (h2:¬c->wpS (model prog w) A E s Y Q st):wpS (model prog w) A E s (if c then X else Y) Q st:=by
 by_cases e:c
 ·rw[if_pos e];exact h1 e
 ·rw[if_neg e];exact h2 e
theorem w_el {α:Type} {arr:Array Keyed} {i:Nat} {x:Keyed} {f:Keyed->StateT SortSt Sem α} {Q:α->SortSt->Prop} {st:SortSt} (e:arr[i]?=some x) (h:wpS (model prog w) A E s (f x) Q st):wpS (model prog w) A E s (elem' arr i >>= f) Q st:=xbi (zhb e h)
theorem zww {α:Type} {x y:Keyed} {f:Option Bool->StateT SortSt Sem α} {Q:α->SortSt->Prop} {st:SortSt} (O:Orc prog w A s κ a₀ R) (hk:kindOf st=κ) (hx:x∈a₀.toList) (hy:y∈a₀.toList) (h1:R x < R y->wpS (model prog w) A E s (f (some true)) Q st) (h2:R y<=R x->wpS (model prog w) A E s (f (some false)) Q st):wpS (model prog w) A E s (lt' x y >>= f) Q st:=by
 refine xbi (w_lt O hk hx hy ?_);by_cases c:R x < R y
 ·rw[xcj c];exact h1 c
 ·rw[xbu c];exact h2 (xbs c)
inductive Dn {β:Type} (R:Keyed->Nat) (a b:Array Keyed) (st:SortSt):Option (Array Keyed) × β->SortSt->Prop where
 | mk {r:Array Keyed} {z:β} {st':SortSt} (sm:SmG st st') (f:Fin R a.toList b.toList r):Dn R a b st (some r,z) st'
inductive L1 (R:Keyed->Nat) (a b:Array Keyed) (st:SortSt) (x:Nat):Option (Array Keyed) × Array Keyed × Nat × Nat × Nat->SortSt->Prop where
 | mk {out:Array Keyed} {ia ib g:Nat} {st':SortSt} (sm:SmG st st') (m:ML R (a.toList++b.toList) out.toList (a.toList.drop ia++b.toList.drop ib)) (ha:ia+1 < a.size) (hb:ib < b.size) (hx:x < ia+ib):L1 R a b st x (none,out,ia,ib,g) st'
inductive L2' (R:Keyed->Nat) (a b:Array Keyed) (st:SortSt) (x:Nat):Option (Array Keyed) × Array Keyed × Nat × Nat × Nat × Nat->SortSt->Prop where
 | mk {out:Array Keyed} {ia ib ac bc:Nat} {st':SortSt} (sm:SmG st st') (m:ML R (a.toList++b.toList) out.toList (a.toList.drop ia++b.toList.drop ib)) (ha:ia+1 < a.size) (hb:ib < b.size) (hx:x<=ia+ib):L2' R a b st x (none,out,ia,ib,ac,bc) st'
inductive L3 (R:Keyed->Nat) (a b:Array Keyed) (st:SortSt) (x:Nat):Option (Array Keyed) × Array Keyed × Nat × Nat × Nat × Nat × Nat->SortSt->Prop where
 | mk {out:Array Keyed} {ia ib g ac bc:Nat} {st':SortSt} (sm:SmG st st') (m:ML R (a.toList++b.toList) out.toList (a.toList.drop ia++b.toList.drop ib)) (ha:ia+1 < a.size) (hb:ib < b.size) (hx:x<=ia+ib):L3 R a b st x (none,out,ia,ib,g,ac,bc) st'
theorem zpd {st:SortSt} {Q:Array Keyed->SortSt->Prop} (O:Orc prog w A s κ a₀ R) (hk:kindOf st=κ) (ma:∀x∈a.toList,x∈a₀.toList) (mb:∀x∈b.toList,x∈a₀.toList) (T:Two R a.toList b.toList) (ha:1<=a.size) (hb:1<=b.size)
  (fst:∀y,b.toList[0]?=some y->∀x∈a.toList,R y<=R x) (h:∀r st',SmG st st'->Fin R a.toList b.toList r->Q r st'):wpS (model prog w) A E s (mergeLo' a b) Q st:=by
 have atA:∀(i:Nat) (hi:i < a.size),a[i]?=some a[i]/\a.toList[i]?=some a[i]/\a[i]∈a₀.toList:=fun i hi=>⟨getElem?_pos a i hi,by rw[xcf];exact getElem?_pos a i hi,ma _ (by simp)⟩
 have atB:∀(i:Nat) (hi:i < b.size),b[i]?=some b[i]/\b.toList[i]?=some b[i]/\b[i]∈a₀.toList:=fun i hi=>⟨getElem?_pos b i hi,by rw[xcf];exact getElem?_pos b i hi,mb _ (by simp)⟩
 have upA:∀i,UpA R a i (i+(a.size - i)):=fun i p q a1 a2 a3=>by
  have hq:q < a.size:=by lia
  have e1:=(atA p (by lia)).2.1;have e2:=(atA q hq).2.1;rw[zbi e1,zbi e2];exact T.oa.at e1 e2 a2
 have upB:∀i,UpA R b i (i+(b.size - i)):=fun i p q a1 a2 a3=>by
  have hq:q < b.size:=by lia
  have e1:=(atB p (by lia)).2.1;have e2:=(atB q hq).2.1;rw[zbi e1,zbi e2];exact T.ob.at e1 e2 a2
 obtain ⟨y0,f0,f1⟩:∃x,b[0]?=some x/\b.toList[0]?=some x:=⟨_,(atB 0 hb).1,(atB 0 hb).2.1⟩
 have start:ML R (a.toList++b.toList) (#[y0]:Array Keyed).toList (a.toList.drop 0++b.toList.drop 1):=by
  have z:ML R (a.toList++b.toList) (#[]:Array Keyed).toList (a.toList.drop 0++b.toList.drop 0):=⟨by simp,List.Pairwise.nil,by simp⟩
  exact z.pushB T f1 fun x hx=>fst y0 f1 x (xjk hx)
 refine xbi (xjc (xgm ⟨rfl,xbi (zhb f0 (zbgd (fun c1=>?_) (fun c2=>?_) fun c1 c2=>?_))⟩))
 ·exact xbj (h _ _ (.refl _) (start.done T (.inr (by simpa using c1))))
 ·exact xbj (h _ _ (.refl _) (start.lastA T (by simpa using c2)))
 simp only[xfz] at c1 c2;refine xbi (xgu ?_);refine xbi (xen (xde (I:=L1 R a b st) (Q:=Dn R a b st) ?_ ?_ (.mk (.refl _) start (by lia) (by lia) (by lia))) ?_)
 ·rintro x c st1 x1 x2 @⟨out,ia,ib,g,st1,sm1,m,ha1,hb1,hx⟩;dsimp only;refine xbi (xen (xde (I:=fun _=>L2' R a b st (ia+ib)) (Q:=fun c st'=>Dn R a b st c st'\/L2' R a b st (ia+ib) c st') ?_ ?_ (.mk sm1 m ha1 hb1 (xbg _))) ?_)
  ·rintro x' c st2 _ _ @⟨out,ia',ib',ac,bc,st2,sm2,m,ha2,hb2,hp⟩;dsimp only;have ea:=(atA ia' (xeg ha2)).1;have ela:=(atA ia' (xeg ha2)).2.1;have mea:=(atA ia' (xeg ha2)).2.2;have eb:=(atB ib' hb2).1;have elb:=(atB ib' hb2).2.1;have meb:=(atB ib' hb2).2.2;refine w_el eb (w_el ea (zww O (sm2.kind.trans hk) meb mea (fun cw=>w_el eb ?_) fun cw=>w_el ea ?_))
   ·skip
    have m2:=m.pushB T elb fun z hz=>by
     obtain ⟨j,hj,e⟩:=zbc hz;exact xbb (xbp cw) (T.oa.at ela e hj)
    refine w_if (fun c5=>xbj (.inl (.mk sm2 (m2.done T (.inr (eq_of_beq c5)))))) fun c5=>?_
    rw[xfz] at c5;have hb3:ib'+1 < b.size:=xcs hb2 c5;have hp3:ia+ib<=ia'+(ib'+1):=xfk hp;exact w_if (fun _=>xbj (.inr (.mk sm2 m2 ha2 hb3 hp3))) fun _=>xbj (.mk sm2 m2 ha2 hb3 hp3)
   ·skip
    have m2:=m.pushA T ela fun z hz=>by
     obtain ⟨j,hj,e⟩:=zbc hz;exact xbb cw (T.ob.at elb e hj)
    refine w_if (fun c5=>xbj (.inl (.mk sm2 (m2.lastA T (eq_of_beq c5))))) fun c5=>?_
    rw[xfz] at c5;have ha3:ia'+1+1 < a.size:=xcs ha2 c5;have hp3:ia+ib<=ia'+1+ib':=Nat.succ_add ia' ib' ▸ xfk hp
    exact w_if (fun _=>xbj (.inr (.mk sm2 m2 ha3 hb2 hp3))) fun _=>xbj (.mk sm2 m2 ha3 hb2 hp3)
  ·exact fun c st2 k=>.inr k
  ·rintro c st2 (⟨sm2,f⟩ | @⟨out,ia',ib',ac,bc,st2,sm2,m,ha2,hb2,hp⟩)
   ·exact xbj (.mk sm2 f)
   ·dsimp only;refine xbi (xjc (xgm ⟨rfl,?_⟩));refine xbi (xen (xde (I:=fun x'=>L3 R a b st (ia+ib+x')) (Q:=fun c st'=>Dn R a b st c st'\/L3 R a b st (ia+ib+1) c st') ?_ ?_ (.mk sm2 m ha2 hb2 hp)) ?_)
    ·rintro x' c st3 _ x2' @⟨out,ia',ib',g',ac,bc,st3,sm3,m,ha2,hb2,hp⟩;dsimp only;have eb:=(atB ib' hb2).1;have elb:=(atB ib' hb2).2.1;have meb:=(atB ib' hb2).2.2;generalize g' - 1=g1;generalize g'=y;revert g1;revert y
     refine zbgc ?_;intro gg;refine xbi (zpb fun st4 sg=>?_);have sm4:=sm3.trans sg;refine w_el eb (xbi (zdq O (sm4.kind.trans hk) meb (fun i hi=>⟨_,(atA (ia'+i) (xdi hi)).1,(atA (ia'+i) (xdi hi)).2.2⟩) (xet (xeg ha2)) (upA ia') fun k1 cut1=>?_));have m5:=(m.galA T elb cut1).1;have u5:=(m.galA T elb cut1).2;have hk1:=cut1.1;dsimp only;refine zwx (fun c6=>?_) (fun c6 c7=>?_) (fun c6 c8=>?_) fun hh=>?_
     ·have z:k1=0:=Nat.le_zero.mp (xbs c6);subst z;simp only[xjl,xhj (xha _ _),xif]
     ·exact xbj (.inl (.mk sm4 (m5.lastA T (eq_of_beq c7))))
     ·exact xbj (.inl (.mk sm4 (m5.done T (.inl (eq_of_beq c8)))))
     have ha5:ia'+k1+1 < a.size:=by
      by_cases c6:k1 > 0
      ·have:=hh c6;simp at this;lia
      ·lia
     have hp5:ia+ib+x'<=ia'+k1+ib':=xbb hp (Nat.add_le_add_right (xbr _ _) _);clear hh;generalize ia'+k1=ia5 at m5 u5 ha5 hp5 ⊢;generalize out++a.extract ia' ia5=out5 at m5 ⊢;have m6:=m5.pushB T elb u5;have ea:=(atA _ (xeg ha5)).1;have ela:=(atA _ (xeg ha5)).2.1;have mea:=(atA _ (xeg ha5)).2.2;refine w_el eb (w_if (fun c9=>xbj (.inl (.mk sm4 (m6.done T (.inr (eq_of_beq c9)))))) fun c9=>w_el ea ?_);rw[xfz] at c9;refine xbi (zdq O (sm4.kind.trans hk) mea (fun i hi=>⟨_,(atB (ib'+1+i) (xdi hi)).1,(atB (ib'+1+i) (xdi hi)).2.2⟩) (xet (xcs hb2 c9)) (upB (ib'+1)) fun k2 cut2=>?_);have m7:=(m6.galB T ela cut2).1;have u7:=(m6.galB T ela cut2).2;have hk2:=cut2.1;dsimp only;refine zbge (fun d6=>?_) (fun d6 d7=>?_) fun hh=>?_
     ·have z2:k2=0:=Nat.le_zero.mp (xbs d6);subst z2;simp only[xjl,xhj (xha _ _),xif]
     ·exact xbj (.inl (.mk sm4 (m7.done T (.inr (eq_of_beq d7)))))
     have h20:ib'+1+k2≠b.size:=by
      by_cases d6:k2 > 0
      ·have:=hh d6;simp at this;lia
      ·lia
     have m8:=m7.pushA T ela u7;refine w_el ea (w_if (fun d8=>xbj (.inl (.mk sm4 (m8.lastA T (eq_of_beq d8))))) fun d8=>?_);rw[xfz] at d8;have ha9:ia5+1+1 < a.size:=xcs ha5 d8;have hb9:ib'+1+k2 < b.size:=by lia
     have hp9:ia+ib+(x'+1)<=ia5+1+(ib'+1+k2):=by lia
     exact w_if (fun _=>xbj (.inr (.mk sm4 m8 ha9 hb9 (xbb (xca (xkp 1 x') _) hp9)))) fun _=>xbj (.mk sm4 m8 ha9 hb9 hp9)
    ·rintro c st3 ⟨sm3,m,ha2,hb2,hp⟩;exact .inr (.mk sm3 m ha2 hb2 (by lia))
    ·rintro c st3 (⟨sm3,f⟩ | ⟨sm3,m,ha2,hb2,hp⟩)
     ·exact xbj (.mk sm3 f)
     ·exact xbi (zpb fun st4 sg=>xbj (.mk (sm3.trans sg) m ha2 hb2 (xbh (Nat.succ_lt_succ hx) hp)))
 ·rintro c st1 ⟨sm1,m,ha1,hb1,hx⟩;lia
 ·rintro c st1 ⟨sm1,f⟩;exact xbj (h _ st1 sm1 f)
end
structure MH (R:Keyed->Nat) (all out rest:List Keyed):Prop where
 perm:(rest++out.reverse).Perm all
 ord:Ord R out.reverse
 le:∀x∈rest,∀y∈out,R x<=R y
section
variable {R:Keyed->Nat}
theorem MH.grow {all out rest xs rest':List Keyed} (m:MH R all out rest) (p:rest.Perm (rest'++xs.reverse)) (o:Ord R xs.reverse) (h:∀x∈rest',∀y∈xs,R x<=R y):MH R all (out++xs) rest':=by
 refine ⟨?_,?_,fun x hx y hy=>?_⟩
 ·rw[List.reverse_append,← xcg];exact (xhf _ p.symm).trans m.perm
 ·rw[List.reverse_append];exact xfi.mpr ⟨o,m.ord,fun x hx y hy=>m.le x (p.mem_iff.mpr (xcz _ hx)) y (xja.mp hy)⟩
 ·rcases xcc.mp hy with hy | hy
  ·exact m.le x (p.mem_iff.mpr (xgk _ hx)) y hy
  ·exact h x hx y hy
theorem MH.fin {all out rest rest':List Keyed} (m:MH R all out rest) (p:rest'.Perm rest) (o:Ord R rest'):(rest'++out.reverse).Perm all/\Ord R (rest'++out.reverse) :=
 ⟨(xhf _ p).trans m.perm,xfi.mpr ⟨o,m.ord,fun x hx y hy=>m.le x (p.mem_iff.mp hx) y (xja.mp hy)⟩⟩
theorem zel {l:List Keyed} {i:Nat} {x:Keyed} (h:l[i]?=some x):l.take (i+1)=l.take i++[x]:=by
 obtain ⟨h1,rfl⟩:=xbo.mp h;exact xgo h1
structure TwoH (R:Keyed->Nat) (la lb:List Keyed):Prop where
 oa:Ord R la
 ob:Ord R lb
 first:∀y,lb[0]?=some y->∀x∈la,R y<=R x
variable {la lb all:List Keyed} {out:Array Keyed} {na nb:Nat}
theorem MH.pushB (T:TwoH R la lb) (m:MH R all out.toList (la.take na++lb.take (nb+1))) {y:Keyed} (hy:lb[nb]?=some y) (h:∀z∈la.take na,R z<=R y):MH R all (out.push y).toList (la.take na++lb.take nb):=by
 rw[xeu];refine m.grow ?_ (by simp) fun z hz w hw=>?_
 ·rw[zel hy];simp
 ·simp at hw;subst hw
  rcases xcc.mp hz with hz | hz
  ·exact h z hz
  ·obtain ⟨j,hj,e⟩:=zq hz;exact T.ob.at e hy (by lia)
theorem MH.pushA (T:TwoH R la lb) (m:MH R all out.toList (la.take (na+1)++lb.take nb)) {x:Keyed} (hx:la[na]?=some x) (h:∀z∈lb.take nb,R z<=R x):MH R all (out.push x).toList (la.take na++lb.take nb):=by
 rw[xeu];refine m.grow ?_ (by simp) fun z hz w hw=>?_
 ·rw[zel hx];simp only[List.reverse_singleton,xcg];exact xgf _ xgh
 ·simp at hw;subst hw
  rcases xcc.mp hz with hz | hz
  ·obtain ⟨j,hj,e⟩:=zq hz;exact T.oa.at e hx (by lia)
  ·exact h z hz
end
section
variable {prog:Program} {w:World} {A:Around} {E:Value->Shared->Prop} {s:Shared} {κ:SortKind} {a₀:Array Keyed} {R:Keyed->Nat} {a b out:Array Keyed} {na nb k:Nat} {y x:Keyed} {all:List Keyed}
theorem zod (l:List Keyed) {k n:Nat} (h:k<=n):l.take n=l.take k++(l.drop k).take (n - k):=by
 conv=>lhs;rw[show n=k+(n - k) by lia,List.take_add]
theorem MH.galA (T:TwoH R a.toList b.toList) (m:MH R all out.toList (a.toList.take na++b.toList.take (nb+1))) (hy:b.toList[nb]?=some y) (hn:na<=a.size) (c:Cut false R y a 0 na k):MH R all (out++(a.extract k na).reverse).toList (a.toList.take k++b.toList.take (nb+1))/\∀z∈a.toList.take k,R z<=R y:=by
 have low:∀z∈a.toList.take k,R z<=R y:=fun z hz=>by
  obtain ⟨j,hj,e⟩:=zq hz;have:=c.2.1 j hj;rw[xdq,zbi e] at this;exact this
 have up:∀z∈(a.toList.drop k).take (na - k),R y<=R z:=fun z hz=>by
  obtain ⟨j,hj,e⟩:=zq hz;rw[xfe] at e;have:=c.2.2 (k+j) (by lia) (by lia);rw[xdq,zbi e] at this;exact xbp this
 refine ⟨?_,low⟩;rw[xdd,xhn,zbn];refine m.grow ?_ (by rw[xho];exact (T.oa.drop k).take _) fun v hv z hz=>?_
 ·rw[xho,zod a.toList c.1,xcg,xcg];exact xgf _ xgh
 ·have hz:=up z (xja.mp hz);rcases xcc.mp hv with hv | hv
  ·exact xbb (low v hv) hz
  ·obtain ⟨j,hj,e⟩:=zq hv;exact xbb (T.ob.at e hy (by lia)) hz
theorem MH.galB (T:TwoH R a.toList b.toList) (m:MH R all out.toList (a.toList.take (na+1)++b.toList.take nb)) (hx:a.toList[na]?=some x) (hn:nb<=b.size) (c:Cut true R x b 0 nb k):MH R all (out++(b.extract k nb).reverse).toList (a.toList.take (na+1)++b.toList.take k)/\∀z∈b.toList.take k,R z<=R x:=by
 have low:∀z∈b.toList.take k,R z<=R x:=fun z hz=>by
  obtain ⟨j,hj,e⟩:=zq hz;have:=c.2.1 j hj;rw[xdq,zbi e] at this;exact xbp this
 have up:∀z∈(b.toList.drop k).take (nb - k),R x<=R z:=fun z hz=>by
  obtain ⟨j,hj,e⟩:=zq hz;rw[xfe] at e;have:=c.2.2 (k+j) (by lia) (by lia);rw[xdq,zbi e] at this;exact this
 refine ⟨?_,low⟩;rw[xdd,xhn,zbn];refine m.grow ?_ (by rw[xho];exact (T.ob.drop k).take _) fun v hv z hz=>?_
 ·rw[xho,zod b.toList c.1,xcg]
 ·have hz:=up z (xja.mp hz);rcases xcc.mp hv with hv | hv
  ·obtain ⟨j,hj,e⟩:=zq hv;exact xbb (T.oa.at e hx (by lia)) hz
  ·exact xbb (low v hv) hz
theorem zgs (xs:Array Keyed) (n:Nat):(xs.extract 0 n).toList=xs.toList.take n:=by
 rw[zbn,List.drop_zero,Nat.sub_zero]
theorem MH.done (T:TwoH R a.toList b.toList) (m:MH R (a.toList++b.toList) out.toList (a.toList.take na++b.toList.take nb)) (h:na=0\/nb=0):Fin R a.toList b.toList (a.extract 0 na++b.extract 0 nb++out.reverse):=by
 unfold Fin;rw[xdd,xdd,zgs,zgs,xhn];refine m.fin (.refl _) ?_;rcases h with rfl | rfl
 ·rw[List.take_zero,List.nil_append];exact T.ob.take _
 ·rw[List.take_zero,xdm];exact T.oa.take _
theorem MH.firstB (T:TwoH R a.toList b.toList) (m:MH R (a.toList++b.toList) out.toList (a.toList.take na++b.toList.take nb)) (h:nb=1):Fin R a.toList b.toList (b.extract 0 nb++a.extract 0 na++out.reverse):=by
 unfold Fin;rw[xdd,xdd,zgs,zgs,xhn];refine m.fin xgh (xfi.mpr ⟨T.ob.take _,T.oa.take _,fun v hv z hz=>?_⟩);obtain ⟨j,hj,e⟩:=zq hv;have:j=0:=by lia
 subst this;exact T.first v e z (xhp hz)
inductive H1 (R:Keyed->Nat) (a b:Array Keyed) (st:SortSt) (x:Nat):Option (Array Keyed) × Nat × Nat × Array Keyed × Nat->SortSt->Prop where
 | mk {na nb:Nat} {out:Array Keyed} {g:Nat} {st':SortSt} (sm:SmG st st') (m:MH R (a.toList++b.toList) out.toList (a.toList.take na++b.toList.take nb)) (a1:1<=na) (a2:na<=a.size) (b1:2<=nb) (b2:nb<=b.size) (hx:x+na+nb < a.size+b.size):H1 R a b st x (none,na,nb,out,g) st'
inductive H2 (R:Keyed->Nat) (a b:Array Keyed) (st:SortSt) (x:Nat):Option (Array Keyed) × Nat × Nat × Array Keyed × Nat × Nat->SortSt->Prop where
 | mk {na nb:Nat} {out:Array Keyed} {ac bc:Nat} {st':SortSt} (sm:SmG st st') (m:MH R (a.toList++b.toList) out.toList (a.toList.take na++b.toList.take nb)) (a1:1<=na) (a2:na<=a.size) (b1:2<=nb) (b2:nb<=b.size) (hx:na+nb<=x):H2 R a b st x (none,na,nb,out,ac,bc) st'
inductive H3 (R:Keyed->Nat) (a b:Array Keyed) (st:SortSt) (x y:Nat):Option (Array Keyed) × Nat × Nat × Array Keyed × Nat × Nat × Nat->SortSt->Prop where
 | mk {na nb:Nat} {out:Array Keyed} {g ac bc:Nat} {st':SortSt} (sm:SmG st st') (m:MH R (a.toList++b.toList) out.toList (a.toList.take na++b.toList.take nb)) (a1:1<=na) (a2:na<=a.size) (b1:2<=nb) (b2:nb<=b.size) (hx:y+na+nb<=x):H3 R a b st x y (none,na,nb,out,g,ac,bc) st'
theorem zpe {st:SortSt} {Q:Array Keyed->SortSt->Prop} (O:Orc prog w A s κ a₀ R) (hk:kindOf st=κ) (ma:∀x∈a.toList,x∈a₀.toList) (mb:∀x∈b.toList,x∈a₀.toList) (T:TwoH R a.toList b.toList) (ha:1<=a.size) (hb:1<=b.size)
  (lst:∀x,a.toList[a.size - 1]?=some x->∀y∈b.toList,R y<=R x) (h:∀r st',SmG st st'->Fin R a.toList b.toList r->Q r st'):wpS (model prog w) A E s (mergeHi' a b) Q st:=by
 have atA:∀(i:Nat) (hi:i < a.size),a[i]?=some a[i]/\a.toList[i]?=some a[i]/\a[i]∈a₀.toList:=fun i hi=>⟨getElem?_pos a i hi,by rw[xcf];exact getElem?_pos a i hi,ma _ (by simp)⟩
 have atB:∀(i:Nat) (hi:i < b.size),b[i]?=some b[i]/\b.toList[i]?=some b[i]/\b[i]∈a₀.toList:=fun i hi=>⟨getElem?_pos b i hi,by rw[xcf];exact getElem?_pos b i hi,mb _ (by simp)⟩
 have upA:∀n,n<=a.size->UpA R a 0 (0+n):=fun n hn p q a1 a2 a3=>by
  have hq:q < a.size:=xbh a3 (xbb (xda (xdq n)) hn);have e1:=(atA p (xck a2 hq)).2.1;have e2:=(atA q hq).2.1;rw[zbi e1,zbi e2];exact T.oa.at e1 e2 a2
 have upB:∀n,n<=b.size->UpA R b 0 (0+n):=fun n hn p q a1 a2 a3=>by
  have hq:q < b.size:=xbh a3 (xbb (xda (xdq n)) hn);have e1:=(atB p (xck a2 hq)).2.1;have e2:=(atB q hq).2.1;rw[zbi e1,zbi e2];exact T.ob.at e1 e2 a2
 obtain ⟨x0,f0,f1⟩:∃x,a[a.size - 1]?=some x/\a.toList[a.size - 1]?=some x:=⟨_,(atA (a.size - 1) (xgz ha Nat.one_pos)).1,(atA (a.size - 1) (xgz ha Nat.one_pos)).2.1⟩
 have start:MH R (a.toList++b.toList) (#[x0]:Array Keyed).toList (a.toList.take (a.size - 1)++b.toList.take b.size):=by
  have z:MH R (a.toList++b.toList) (#[]:Array Keyed).toList (a.toList.take (a.size - 1+1)++b.toList.take b.size):=by
   refine ⟨?_,List.Pairwise.nil,by simp⟩;rw[xgb ha,xfy (by simp),xfy (by simp)];simp
  exact z.pushA T f1 fun y hy=>lst x0 f1 y (xhp hy)
 refine xbi (xjc (xgm ⟨rfl,xbi (zhb f0 (zbgd (fun c1=>?_) (fun c2=>?_) fun c1 c2=>?_))⟩))
 ·exact xbj (h _ _ (.refl _) (start.done T (.inl (by simpa using c1))))
 ·exact xbj (h _ _ (.refl _) (start.firstB T (by simpa using c2)))
 simp only[xfz] at c1 c2;refine xbi (xgu ?_);refine xbi (xen (xde (I:=H1 R a b st) (Q:=Dn R a b st) ?_ ?_ (.mk (.refl _) start (by lia) (by lia) (by lia) (xbg _) (by lia))) ?_)
 ·rintro x c st1 x1 x2 @⟨na,nb,out,g,st1,sm1,m,a1,a2,b1,b2,hx⟩;dsimp only;refine xbi (xen (xde (I:=fun _=>H2 R a b st (na+nb)) (Q:=fun c st'=>Dn R a b st c st'\/H2 R a b st (na+nb) c st') ?_ ?_ (.mk sm1 m a1 a2 b1 b2 (xbg _))) ?_)
  ·rintro x' c st2 _ _ @⟨na',nb',out,ac,bc,st2,sm2,m,g1,g2,g3,g4,hp⟩;obtain ⟨p,rfl⟩:∃p,na'=p+1:=⟨na' - 1,(xgb g1).symm⟩
   obtain ⟨q,rfl⟩:∃q,nb'=q+1:=⟨nb' - 1,(xgb (xcy g3)).symm⟩
   dsimp only;have ea:=(atA p g2).1;have ela:=(atA p g2).2.1;have mea:=(atA p g2).2.2;have eb:=(atB q g4).1;have elb:=(atB q g4).2.1;have meb:=(atB q g4).2.2;refine w_el eb (w_el ea (zww O (sm2.kind.trans hk) meb mea (fun cw=>w_el ea ?_) fun cw=>w_el eb ?_))
   ·skip
    have m2:=m.pushA T ela fun z hz=>by
     obtain ⟨j,hj,e⟩:=zq hz;exact xbb (T.ob.at e elb (xcq hj)) (xbp cw)
    refine w_if (fun c5=>xbj (.inl (.mk sm2 (m2.done T (.inl (eq_of_beq c5)))))) fun c5=>?_
    rw[xfz] at c5;have a3:1<=p:=xjv c5;have a4:p<=a.size:=xcy g2;have a5:p+(q+1)<=na+nb:=xbb (Nat.add_le_add_right (xjs p) _) hp;exact w_if (fun _=>xbj (.inr (.mk sm2 m2 a3 a4 g3 g4 a5))) fun _=>xbj (.mk sm2 m2 a3 a4 g3 g4 a5)
   ·skip
    have m2:=m.pushB T elb fun z hz=>by
     obtain ⟨j,hj,e⟩:=zq hz;exact xbb (T.oa.at e ela (xcq hj)) cw
    refine w_if (fun c5=>xbj (.inl (.mk sm2 (m2.firstB T (eq_of_beq c5))))) fun c5=>?_
    rw[xfz] at c5;have a3:2<=q:=xcs (Nat.le_of_succ_le_succ g3) (xeb c5);have a4:q<=b.size:=xcy g4;have a5:p+1+q<=na+nb:=xcy hp;exact w_if (fun _=>xbj (.inr (.mk sm2 m2 g1 g2 a3 a4 a5))) fun _=>xbj (.mk sm2 m2 g1 g2 a3 a4 a5)
  ·exact fun c st2 k=>.inr k
  ·rintro c st2 (⟨sm2,f⟩ | @⟨na',nb',out,ac,bc,st2,sm2,m,g1,g2,g3,g4,hp⟩)
   ·exact xbj (.mk sm2 f)
   ·dsimp only;refine xbi (xjc (xgm ⟨rfl,?_⟩));refine xbi (xen (xde (I:=H3 R a b st (na+nb)) (Q:=fun c st'=>Dn R a b st c st'\/H3 R a b st (na+nb) 1 c st') ?_ ?_ (.mk sm2 m g1 g2 g3 g4 (by rw[xdq];exact hp))) ?_)
    ·rintro x' c st3 _ x2' @⟨na',nb',out,g',ac,bc,st3,sm3,m,g1,g2,g3,g4,hp⟩;obtain ⟨q,rfl⟩:∃q,nb'=q+1:=⟨nb' - 1,(xgb (xcy g3)).symm⟩
     dsimp only;have eb:=(atB q g4).1;have elb:=(atB q g4).2.1;have meb:=(atB q g4).2.2;generalize g' - 1=g1;generalize g'=y;revert g1;revert y
     refine zbgc ?_;intro gg;refine xbi (zpb fun st4 sg=>?_);have sm4:=sm3.trans sg;refine w_el eb (xbi (zdq O (sm4.kind.trans hk) meb (fun i hi=>⟨_,(atA (0+i) (by lia)).1,(atA (0+i) (by lia)).2.2⟩) (by lia) (upA na' g2) fun k1 cut1=>?_));have m5:=(m.galA T elb g2 cut1).1;have u5:=(m.galA T elb g2 cut1).2;have hk1:=cut1.1;dsimp only;refine zbge (fun c6=>?_) (fun c6 c7=>?_) fun hh=>?_
     ·have z:k1=na':=by lia
      subst z;rw[show out++(a.extract k1 k1).reverse=out by simp[xha]]
     ·exact xbj (.inl (.mk sm4 (m5.done T (.inl (eq_of_beq c7)))))
     have g5:1<=k1:=by
      by_cases c6:na' - k1 > 0
      ·have:=hh c6;simp at this;lia
      ·lia
     have g6:k1<=a.size:=xbb hk1 g2;have hp5:x'+k1+(q+1)<=na+nb:=by lia
     clear hh hk1 cut1;generalize out++(a.extract k1 na').reverse=out5 at m5 ⊢;obtain ⟨p,rfl⟩:∃p,k1=p+1:=⟨k1 - 1,(xgb g5).symm⟩
     simp only[Nat.add_sub_cancel];have m6:=m5.pushB T elb u5;have ea:=(atA p g6).1;have ela:=(atA p g6).2.1;have mea:=(atA p g6).2.2;refine w_el eb (w_if (fun c9=>xbj (.inl (.mk sm4 (m6.firstB T (eq_of_beq c9))))) fun c9=>w_el ea ?_);rw[xfz] at c9;refine xbi (zdq O (sm4.kind.trans hk) mea (fun i hi=>⟨_,(atB (0+i) (by lia)).1,(atB (0+i) (by lia)).2.2⟩) (by lia) (upB q (xcy g4)) fun k2 cut2=>?_);have m7:=(m6.galB T ela (xcy g4) cut2).1;have u7:=(m6.galB T ela (xcy g4) cut2).2;have hk2:=cut2.1;dsimp only;refine zwx (fun d6=>?_) (fun d6 d7=>?_) (fun d6 d9=>?_) fun hh=>?_
     ·have z2:k2=q:=by lia
      subst z2;simp only[xhj (xbb (xha _ _) (xbg _)),Array.reverse_empty,xif]
     ·exact xbj (.inl (.mk sm4 (m7.firstB T (eq_of_beq d7))))
     ·exact xbj (.inl (.mk sm4 (m7.done T (.inr (eq_of_beq d9)))))
     have h20:2<=k2:=by
      by_cases d6:q - k2 > 0
      ·have:=hh d6;simp at this;lia
      ·lia
     have m8:=m7.pushA T ela u7;refine w_el ea (w_if (fun d8=>xbj (.inl (.mk sm4 (m8.done T (.inl (eq_of_beq d8)))))) fun d8=>?_);rw[xfz] at d8;have a3:1<=p:=xjv d8;have a4:p<=a.size:=xcy g6;have a5:k2<=b.size:=xbb hk2 (xcy g4);have a6:x'+1+p+k2<=na+nb:=by lia
     exact w_if (fun _=>xbj (.inr (.mk sm4 m8 a3 a4 h20 a5 (by lia)))) fun _=>xbj (.mk sm4 m8 a3 a4 h20 a5 a6)
    ·rintro c st3 ⟨sm3,m,g1,g2,g3,g4,hp⟩;exact .inr (.mk sm3 m g1 g2 g3 g4 (by lia))
    ·rintro c st3 (⟨sm3,f⟩ | @⟨na',nb',out,g',ac,bc,st3,sm3,m,g1,g2,g3,g4,hp⟩)
     ·exact xbj (.mk sm3 f)
     ·have h9:x+1+na'+nb' < a.size+b.size:=by lia
      exact xbi (zpb fun st4 sg=>xbj (.mk (sm3.trans sg) m g1 g2 g3 g4 h9))
 ·rintro c st1 ⟨sm1,m,a1,a2,b1,b2,hx⟩;lia
 ·rintro c st1 ⟨sm1,f⟩;exact xbj (h _ st1 sm1 f)
end
theorem zml:∀(l:List Keyed) (n off:Nat) (xs:Array Keyed),off+n+l.length<=xs.size->∀i,((l.zipIdx n).foldl (fun a p=>a.setIfInBounds (off+p.2) p.1) xs)[i]?=if off+n<=i/\i < off+n+l.length then l[i - (off+n)]? else xs[i]?
 | [],n,off,xs,h,i=>by
  rw[if_neg (by simp)]
  rfl
 | x::l,n,off,xs,h,i=>by
  rw[List.zipIdx_cons,xjm];rw[xby] at h;have e1:off+(n+1)+l.length=off+n+(l.length+1):=Nat.succ_add_eq_add_succ (off+n) l.length;rw[zml l (n+1) off _ (by rw[Array.size_setIfInBounds];exact xbb (xda e1) h) i];rw[xby];by_cases c:off+(n+1)<=i/\i < off+(n+1)+l.length
  ·rw[if_pos c,if_pos ⟨xcy c.1,xff c.2 e1⟩,show i - (off+n)=i - (off+(n+1))+1 from (xgb (xet c.1)).symm,xip]
  ·rw[if_neg c];by_cases c2:i=off+n
   ·rw[if_pos ⟨xda c2.symm,xck (xda c2) (xgs (Nat.succ_pos _))⟩,c2,xie,List.getElem?_cons_zero];exact Array.getElem?_setIfInBounds_self_of_lt (xbh (xgs (Nat.succ_pos l.length)) h)
   ·rw[if_neg fun z=>c ⟨xcs z.1 (xeb c2),xff z.2 e1.symm⟩];exact xjh (fun z=>c2 z.symm)
theorem ztl {m xs:Array Keyed} {off:Nat} (h:off+m.size<=xs.size):(m.toList.zipIdx.foldl (fun a p=>a.setIfInBounds (off+p.2) p.1) xs).toList=xs.toList.take off++m.toList++xs.toList.drop (off+m.size):=by
 apply xkf;intro i;rw[xcf,zml m.toList 0 off xs (by simpa using h) i];simp only[xjl,xbv];have l1:(xs.toList.take off).length=off:=by rw[xco,xbv];exact xdn (xbb (xbr _ _) h)
 by_cases c:off<=i/\i < off+m.size
 ·rw[if_pos c,xcg,xcw (xbb (xda l1) c.1),l1,xbx (by rw[xbv];exact xdf c.1 c.2)]
 ·rw[if_neg c];by_cases c2:i < off
  ·rw[xcg,xbx (xff c2 l1.symm),xjw,if_pos c2,xcf]
  ·have h3:off+m.size<=i:=xbs fun z=>c ⟨xbs c2,z⟩
   rw[xcw (by rw[xcb,l1,xbv];exact h3),xfe];simp only[xcb,l1,xbv];rw[xcd h3,xcf]
section
variable {prog:Program} {w:World} {A:Around} {E:Value->Shared->Prop} {s:Shared} {κ:SortKind} {a₀:Array Keyed} {R:Keyed->Nat}
theorem zsd {xs:Array Keyed} {i j:Nat} (up:UpA R xs i j) (hj:j<=xs.size):Ord R (xs.extract i j).toList:=by
 rw[zbn];refine xia.mpr fun p q hp hq hpq=>?_
 simp only[xco,xek,xbv] at hp hq;simp only[List.getElem_take,List.getElem_drop,Array.getElem_toList];have:=up (i+p) (i+q) (xbr _ _) (xca (xbp hpq) i) (xdi (xbh hq (xha _ _)));rw[zcq (getElem?_pos xs (i+p) (xdi (xbh hp (xfu _ _)))),zcq (getElem?_pos xs (i+q) (xdi (xbh hq (xfu _ _))))] at this;exact this
theorem zfx {xs:Array Keyed} {i j:Nat} {x:Keyed} (h:x∈(xs.extract i j).toList):∃q,i<=q/\q < j/\xs[q]?=some x:=by
 rw[zbn] at h;obtain ⟨q,hq,e⟩:=zq h;rw[xfe,xcf] at e;exact ⟨i+q,xbr _ _,xdi hq,e⟩
theorem zzr {xs:Array Keyed} {i j q:Nat} (h:q < j - i):(xs.extract i j).toList[q]?=xs[i+q]?:=by
 rw[zbn,xjw,if_pos h,xfe,xcf]
structure Mg (R:Keyed->Nat) (xs ys:Array Keyed) (lo hi:Nat):Prop where
 perm:ys.Perm xs
 out:Out ys xs lo hi
 up:UpA R ys lo hi
theorem zqk {xs m:Array Keyed} {sa sb ea k nb':Nat} {y0 xl:Keyed} (hsb:sb<=ea) (hea:ea<=xs.size) (hk:sa+k < sb) (hnb:sb+nb'<=ea) (hnb1:1<=nb') (upA:UpA R xs sa sb) (upB:UpA R xs sb ea)
  (e0:xs[sb]?=some y0) (el:xs[sb - 1]?=some xl) (c1:Cut false R y0 xs sa (sb - sa) k) (c2:Cut true R xl xs sb (ea - sb) nb')
  (f:Fin R (xs.extract (sa+k) sb).toList (xs.extract sb (sb+nb')).toList m):Mg R xs (m.toList.zipIdx.foldl (fun a p=>a.setIfInBounds (sa+k+p.2) p.1) xs) sa ea:=by
 have lx:(xs.extract (sa+k) sb).toList.length=sb - (sa+k):=by rw[zbn,xco,xek,xbv];exact xdn (xep (xbb hsb hea) _)
 have ly:(xs.extract sb (sb+nb')).toList.length=nb':=by rw[zbn,xco,xek,xbv,xcn];exact xdn (xdz (xbb hnb hea))
 have lm:m.size=sb+nb' - (sa+k):=by
  have:=f.1.length_eq;rw[xcb,lx,ly,xbv] at this;exact this.trans (Nat.sub_add_comm (xbp hk)).symm
 have he:sa+k+m.size=sb+nb':=by rw[lm];exact xcd (xbb (xbp hk) (xbr _ _))
 have hsz:sa+k+m.size<=xs.size:=by rw[he];exact xbb hnb hea
 have hs1:=xcx hk;have s1:sb - 1 < sb:=xgz (xis hk) Nat.one_pos;have g:∀i,(m.toList.zipIdx.foldl (fun a p=>a.setIfInBounds (sa+k+p.2) p.1) xs)[i]?=if sa+k<=i/\i < sb+nb' then m.toList[i - (sa+k)]? else xs[i]?:=fun i=>by
  have:=zml m.toList 0 (sa+k) xs (by simpa using hsz) i;simp only[xjl,xbv] at this;rw[he] at this;exact this
 have mid:∀v∈m.toList,R y0<=R v/\R v<=R xl:=fun v hv=>by
  rcases xcc.mp (f.1.mem_iff.mp hv) with hv | hv
  ·obtain ⟨q,q1,q2,e⟩:=zfx hv;have q0:=xbb (xbr _ _) q1;have h1:=c1.2.2 (q - sa) (xdz q1) (xdp q0 q2);rw[xcd q0,zcq e] at h1;have h2:=upA q (sb - 1) q0 (xcx q2) s1;rw[zcq e,zcq el] at h2;have h1':R y0 < R v:=h1;exact ⟨xbp h1',h2⟩
  ·obtain ⟨q,q1,q2,e⟩:=zfx hv;have h1:=upB sb q (xbg _) q1 (xbh q2 hnb);rw[zcq e,zcq e0] at h1;have h2:=c2.2.1 (q - sb) (xdf q1 q2);rw[xcd q1,zcq e] at h2;have h2':R v < R xl:=h2;exact ⟨h1,xbp h2'⟩
 have low:∀i,sa<=i->i < sa+k->kA R xs i<=R y0:=fun i a1 a2=>by
  have:=c1.2.1 (i - sa) (xdf a1 a2);rw[xcd a1] at this;exact this
 have hig:∀i,sb+nb'<=i->i < ea->R xl<=kA R xs i:=fun i a1 a2=>by
  have i0:=xbb (xbr _ _) a1;have:=c2.2.2 (i - sb) (xdz a1) (xdp i0 a2);rw[xcd i0] at this;exact this
 have kk:∀i,kA R (m.toList.zipIdx.foldl (fun a p=>a.setIfInBounds (sa+k+p.2) p.1) xs) i=if sa+k<=i/\i < sb+nb' then kA R m (i - (sa+k)) else kA R xs i:=fun i=>by
  have:=g i;split
  ·rename_i c;rw[if_pos c,xcf] at this;exact zcn this
  ·rename_i c;rw[if_neg c] at this;exact zcn this
 have mm:∀i,i < m.size->∃v,m.toList[i]?=some v/\v∈m.toList:=fun i hi=>⟨m.toList[i]'(by simpa using hi),xbe _,xdk _⟩
 refine ⟨?_,fun i hi=>?_,fun i j a1 a2 a3=>?_⟩
 ·refine xez.mpr ?_;rw[ztl hsz,he];have split:xs.toList=xs.toList.take (sa+k)++((xs.extract (sa+k) sb).toList++(xs.extract sb (sb+nb')).toList)++xs.toList.drop (sb+nb'):=by
   rw[zbn,zbn];rw[xcn]
   conv=>lhs;rw[← xgg (sa+k) xs.toList,← xgg (sb - (sa+k)) (xs.toList.drop (sa+k)),xkr,xcd (xbp hk),← xgg nb' (xs.toList.drop sb),xkr]
   simp only[xcg]
  conv=>rhs;rw[split]
  exact xhf _ (xgf _ f.1)
 ·rw[g i,if_neg fun z=>hi.elim (fun h=>xds (xbb (xbr sa k) z.1) h) fun h=>xds h (xbh z.2 hnb)]
 ·rw[kk,kk];by_cases ci:sa+k<=i/\i < sb+nb'
  ·rw[if_pos ci];obtain ⟨v,ev,mv⟩:=mm (i - (sa+k)) (by rw[lm];exact xdp ci.1 ci.2);rw[zbi ev];by_cases cj:sa+k<=j/\j < sb+nb'
   ·rw[if_pos cj];obtain ⟨u,eu,mu⟩:=mm (j - (sa+k)) (by rw[lm];exact xdp cj.1 cj.2);rw[zbi eu];exact f.2.at ev eu (xep a2 _)
   ·rw[if_neg cj];exact xbb (mid v mv).2 (hig j (xbs fun z=>cj ⟨xbb ci.1 a2,z⟩) a3)
  ·rw[if_neg ci];by_cases ci2:i < sa+k
   ·have h1:=low i a1 ci2;by_cases cj:sa+k<=j/\j < sb+nb'
    ·rw[if_pos cj];obtain ⟨u,eu,mu⟩:=mm (j - (sa+k)) (by rw[lm];exact xdp cj.1 cj.2);rw[zbi eu];exact xbb h1 (mid u mu).1
    ·rw[if_neg cj];by_cases cj2:j < sa+k
     ·exact upA i j a1 a2 (xhi cj2 hk)
     ·have h2:=hig j (xbs fun z=>cj ⟨xbs cj2,z⟩) a3;have h3:R y0<=R xl:=by
       have s0:=xbb (xbr _ _) hs1;have h4:=c1.2.2 (sb - 1 - sa) (xdz hs1) (xdp s0 s1);rw[xcd s0,zcq el] at h4;exact xbp h4
      exact xbb h1 (xbb h3 h2)
   ·have hi2:sb+nb'<=i:=xbs fun z=>ci ⟨xbs ci2,z⟩
    rw[if_neg fun z=>xds (xbb hi2 a2) z.2];exact upB i j (xbb (xbr _ _) hi2) a2 a3
end
section
variable {prog:Program} {w:World} {A:Around} {E:Value->Shared->Prop} {s:Shared} {κ:SortKind} {a₀:Array Keyed} {R:Keyed->Nat}
theorem zbhc {x st:SortSt} {Q:Unit->SortSt->Prop} (h:Q () x):wpS (model prog w) A E s (set x:StateT SortSt Sem PUnit) Q st:=by
 unfold wpS;rw[StateT.run_set];exact xbd ⟨rfl,h⟩
theorem zpf {i sa na pw sb nb pw':Nat} {st:SortSt} {Q:Bool->SortSt->Prop} (O:Orc prog w A s κ a₀ R) (b:B κ a₀ st) (p1:(pendingOf st)[i]?=some (sa,na,pw)) (p2:(pendingOf st)[i+1]?=some (sb,nb,pw')) (hsb:sb=sa+na) (hna:1<=na) (hnb:1<=nb) (hz:sb+nb<=a₀.size)
  (upA:UpA R (arrOf st) sa sb) (upB:UpA R (arrOf st) sb (sb+nb))
  (h:∀st',B κ a₀ st'->pendingOf st'=((pendingOf st).setIfInBounds i (sa,na+nb,pw)).eraseIdxIfInBounds (i+1)->Out (arrOf st') (arrOf st) sa (sb+nb)->UpA R (arrOf st') sa (sb+nb)->Q true st'):wpS (model prog w) A E s (mergeAt' i) Q st:=by
 have hsz:=b.size;have bs:sb < a₀.size:=xbh (xgs hnb) hz;refine xbi (xgu ?_);dsimp only;have q1:(sortPriv% PySem.Builtin.SortState.pending) st=pendingOf st:=rfl;rw[q1,p1,p2];dsimp only;refine xbi (zbhc ?_);obtain ⟨y0,e0,my0⟩:=b.mem (i:=sb) bs;have inA:∀q,q < a₀.size->∃x,(arrOf st)[q]?=some x/\x∈a₀.toList:=fun q hq=>b.mem hq
 refine xbi (zhb e0 ?_);refine xbi (zdq O b.kind my0 (fun q hq=>inA (sa+q) (xhi (xff (xdo hq sa) hsb.symm) bs)) hna (by rw[← hsb];exact upA) fun k c1=>?_);dsimp only;have hk:=c1.1;have c1':Cut false R y0 (arrOf st) sa (sb - sa) k:=by rw[show sb - sa=na from by rw[hsb,xcn]];exact c1
 by_cases d1:na - k=0
 ·rw[if_pos (by simpa using d1)];refine xbj (h _ ⟨b.perm,b.kind,b.failed⟩ rfl (Out.refl _ _ _) fun p q a1 a2 a3=>?_);by_cases z1:q < sb
  ·exact upA p q a1 a2 z1
  ·by_cases z2:p < sb
   ·have h1:=c1.2.1 (p - sa) (xbh (xdf a1 (xff z2 hsb)) (Nat.le_of_sub_eq_zero d1));rw[xcd a1] at h1;have h2:=upB sb q (xbg _) (xbs z1) a3;rw[zcq e0] at h2;exact xbb h1 h2
   ·exact upB p q (xbs z2) a2 a3
 ·rw[if_neg (by simpa using d1)];have hk2:sa+k < sb:=xff (xdo (xfa fun z=>d1 (Nat.sub_eq_zero_of_le z)) sa) hsb.symm;have s1:sb - 1 < sb:=xgz (xis hk2) Nat.one_pos;obtain ⟨xl,el,mxl⟩:=inA (sb - 1) (xhi s1 bs);have el':(arrOf st)[sa+k+(na - k) - 1]?=some xl:=by rw[Nat.add_assoc,xcd hk,← hsb];exact el
  refine xbi (zhb el' ?_);refine xbi (zdq O b.kind mxl (fun q hq=>inA (sb+q) (xbh (xdo hq sb) hz)) (xgz hnb Nat.one_pos) upB fun nb' c2=>?_);dsimp only;have hn2:=c2.1;have c2':Cut true R xl (arrOf st) sb (sb+nb - sb) nb':=by rw[xcn];exact c2
  by_cases d2:nb'=0
  ·rw[if_pos (by simpa using d2)];refine xbj (h _ ⟨b.perm,b.kind,b.failed⟩ rfl (Out.refl _ _ _) fun p q a1 a2 a3=>?_);subst d2;by_cases z1:q < sb
   ·exact upA p q a1 a2 z1
   ·by_cases z2:p < sb
    ·have h1:=upA p (sb - 1) a1 (xcx z2) s1;rw[zcq el] at h1;have h2:=c2.2.2 (q - sb) (xcu _) (xdf (xbs z1) a3);rw[xcd (xbs z1)] at h2;exact xbb h1 h2
    ·exact upB p q (xbs z2) a2 a3
  ·rw[if_neg (by simpa using d2)];have hn1:1<=nb':=xjv d2;have hez:sb<=(arrOf st).size:=by rw[hsz];exact xbp bs
   have hbz:sb+nb<=(arrOf st).size:=by rw[hsz];exact hz
   have hb2:sb+nb'<=sb+nb:=xca hn2 sb;have oa:Ord R ((arrOf st).extract (sa+k) sb).toList:=zsd (fun p q a1 a2 a3=>upA p q (xbb (xbr _ _) a1) a2 a3) hez;have ob:Ord R ((arrOf st).extract sb (sb+nb')).toList:=zsd (fun p q a1 a2 a3=>upB p q a1 a2 (xbh a3 hb2)) (xbb hb2 hbz);have ma:∀x∈((arrOf st).extract (sa+k) sb).toList,x∈a₀.toList:=fun x hx=>by
    obtain ⟨q,q1,q2,e⟩:=zfx hx;obtain ⟨x',e',m'⟩:=inA q (xhi q2 bs);rw[e] at e';cases e';exact m'
   have mb:∀x∈((arrOf st).extract sb (sb+nb')).toList,x∈a₀.toList:=fun x hx=>by
    obtain ⟨q,q1,q2,e⟩:=zfx hx;obtain ⟨x',e',m'⟩:=inA q (xbh q2 (xbb hb2 hz));rw[e] at e';cases e';exact m'
   have sx:((arrOf st).extract (sa+k) sb).size=sb - (sa+k):=by rw[Array.size_extract,xdn hez]
   have sy:((arrOf st).extract sb (sb+nb')).size=nb':=by rw[Array.size_extract,xdn (xbb hb2 hbz),xcn]
   have fst:∀y,((arrOf st).extract sb (sb+nb')).toList[0]?=some y->∀x∈((arrOf st).extract (sa+k) sb).toList,R y<=R x:=fun y hy x hx=>by
    rw[zzr (by rw[xcn];exact hn1),xjl,e0] at hy;cases hy;obtain ⟨q,q1,q2,e⟩:=zfx hx;have q0:=xbb (xbr _ _) q1;have:=c1.2.2 (q - sa) (xdz q1) (xdf q0 (xff q2 hsb));rw[xcd q0,zcq e] at this;exact xbp this
   have lst:∀x,((arrOf st).extract (sa+k) sb).toList[sb - (sa+k) - 1]?=some x->∀y∈((arrOf st).extract sb (sb+nb')).toList,R y<=R x:=fun x hx y hy=>by
    rw[zzr (xgz (xet hk2) Nat.one_pos),show sa+k+(sb - (sa+k) - 1)=sb - 1 from by rw[← Nat.add_sub_assoc (xet hk2),xcd (xbp hk2)],el] at hx;cases hx;obtain ⟨q,q1,q2,e⟩:=zfx hy;have:=c2.2.1 (q - sb) (xdf q1 q2);rw[xcd q1,zcq e] at this;exact xbp this
   have post:∀m st2,SmG st st2\/True->Fin R ((arrOf st).extract (sa+k) sb).toList ((arrOf st).extract sb (sb+nb')).toList m->Mg R (arrOf st) (m.toList.zipIdx.foldl (fun a p=>a.setIfInBounds (sa+k+p.2) p.1) (arrOf st)) sa (sb+nb):=fun m _ _ f =>
    zqk (xbr _ _) hbz hk2 hb2 hn1 upA upB e0 el c1' c2' f
   by_cases d3:na - k<=nb'
   ·rw[if_pos d3];refine xbi (zpd O b.kind ma mb ⟨oa,ob,fun x hx=>lst x (by rw[xbv,sx] at hx;exact hx)⟩ (by show 1<=((arrOf st).extract (sa+k) sb).size;rw[sx];exact xet hk2) (by show 1<=((arrOf st).extract sb (sb+nb')).size;rw[sy];exact hn1) fst fun m st2 sg f=>?_);have mg:=post m st2 (.inr trivial) f;refine xbi (xga (xbi (xgu ?_)));have a2:arrOf st2=arrOf st:=sg.arr;have f2:failedOf st2=none:=sg.failed.trans b.failed;refine xbj (?_:Q ((failedOf st2).isNone) (setArr st2 (m.toList.zipIdx.foldl (fun a p=>a.setIfInBounds (sa+k+p.2) p.1) (arrOf st2))));rw[f2,a2];exact h _ ⟨mg.perm.trans b.perm,sg.kind.trans b.kind,f2⟩ sg.pend mg.out mg.up
   ·rw[if_neg d3];refine xbi (zpe O b.kind ma mb ⟨oa,ob,fst⟩ (by show 1<=((arrOf st).extract (sa+k) sb).size;rw[sx];exact xet hk2) (by show 1<=((arrOf st).extract sb (sb+nb')).size;rw[sy];exact hn1) (fun x hx=>lst x (by rw[sx] at hx;exact hx)) fun m st2 sg f=>?_);have mg:=post m st2 (.inr trivial) f;refine xbi (xga (xbi (xgu ?_)));have a2:arrOf st2=arrOf st:=sg.arr;have f2:failedOf st2=none:=sg.failed.trans b.failed;refine xbj (?_:Q ((failedOf st2).isNone) (setArr st2 (m.toList.zipIdx.foldl (fun a p=>a.setIfInBounds (sa+k+p.2) p.1) (arrOf st2))));rw[f2,a2];exact h _ ⟨mg.perm.trans b.perm,sg.kind.trans b.kind,f2⟩ sg.pend mg.out mg.up
end
noncomputable def Segs (R:Keyed->Nat) (xs:Array Keyed):Nat->List (Nat × Nat × Nat)->Nat->Prop
 | s,[],e=>s=e
 | s,p::r,e=>p.1=s/\1<=p.2.1/\UpA R xs s (s+p.2.1)/\Segs R xs (s+p.2.1) r e
section
variable {R:Keyed->Nat} {xs ys:Array Keyed}
theorem Segs.le:∀{l:List (Nat × Nat × Nat)} {s e:Nat},Segs R xs s l e->s+l.length<=e
 | [],s,e,h=>by cases h;simp
 | p::r,s,e,h=>by
  have:=Segs.le h.2.2.2;have:=h.2.1;simp;lia
theorem Segs.append:∀{l m:List (Nat × Nat × Nat)} {s e:Nat},Segs R xs s (l++m) e↔∃k,Segs R xs s l k/\Segs R xs k m e
 | [],m,s,e=>⟨fun h=>⟨s,rfl,h⟩,fun ⟨k,h1,h2⟩=>by cases h1;exact h2⟩
 | p::r,m,s,e=>by
  constructor
  ·rintro ⟨h1,h2,h3,h4⟩;obtain ⟨k,g1,g2⟩:=Segs.append.mp h4;exact ⟨k,⟨h1,h2,h3,g1⟩,g2⟩
  ·rintro ⟨k,⟨h1,h2,h3,h4⟩,g2⟩;exact ⟨h1,h2,h3,Segs.append.mpr ⟨k,h4,g2⟩⟩
theorem UpA.same {a b:Nat} (h:UpA R xs a b) (e:∀i,a<=i->i < b->ys[i]?=xs[i]?):UpA R ys a b:=fun i j a1 a2 a3=>by
 rw[zcn (e i a1 (xck a2 a3)),zcn (e j (xbb a1 a2) a3)];exact h i j a1 a2 a3
theorem Segs.same:∀{l:List (Nat × Nat × Nat)} {s e:Nat},Segs R xs s l e->(∀i,s<=i->i < e->ys[i]?=xs[i]?)->Segs R ys s l e
 | [],s,e,h,_=>h
 | p::r,s,e,h,k=>by
  have:=Segs.le h.2.2.2;exact ⟨h.1,h.2.1,h.2.2.1.same fun i a1 a2=>k i a1 (xbh a2 (xbb (xbr _ _) this)),Segs.same h.2.2.2 fun i a1 a2=>k i (xbb (xbr _ _) a1) a2⟩
theorem Segs.power {s e:Nat}:∀{l m:List (Nat × Nat × Nat)},l.map (fun p=>(p.1,p.2.1))=m.map (fun p=>(p.1,p.2.1))->Segs R xs s l e->Segs R xs s m e:=by
 intro l
 induction l generalizing s with
 | nil=>intro m h k;cases m with
  | nil=>exact k
  | cons=>cases h
 | cons p r ih=>intro m h k;cases m with
  | nil=>cases h
  | cons q t =>
   rw[xbq,xbq] at h;obtain ⟨h1,h2⟩:=xiy h;obtain ⟨g1,g2⟩:=Prod.mk.inj h1;obtain ⟨k1,k2,k3,k4⟩:=k;rw[g2] at k2 k3 k4;exact ⟨g1.symm.trans k1,k2,k3,ih h2 k4⟩
end
section
variable {prog:Program} {w:World} {A:Around} {E:Value->Shared->Prop} {s:Shared} {κ:SortKind} {a₀:Array Keyed} {R:Keyed->Nat}
theorem zuo {l:List (Nat × Nat × Nat)} {i:Nat} (h:i+1 < l.length):∃pre p q post,l=pre++p::q::post/\pre.length=i:=by
 refine ⟨l.take i,l[i],l[i+1],l.drop (i+2),?_,by rw[xco];exact xdn (xbp (xeg h))⟩
 conv=>lhs;rw[← xgg i l,xgl (xeg h),xgl h]
theorem w_at {i e:Nat} {st:SortSt} {Q:Bool->SortSt->Prop} (O:Orc prog w A s κ a₀ R) (b:B κ a₀ st) (sg:Segs R (arrOf st) 0 (pendingOf st).toList e) (he:e<=a₀.size) (hi:i+1 < (pendingOf st).size)
  (h:∀st',B κ a₀ st'->Segs R (arrOf st') 0 (pendingOf st').toList e->(pendingOf st').size+1=(pendingOf st).size->(∀k,e<=k->(arrOf st')[k]?=(arrOf st)[k]?)->Q true st'):wpS (model prog w) A E s (mergeAt' i) Q st:=by
 obtain ⟨pre,p,q,post,el,hl⟩:=zuo (l:=(pendingOf st).toList) (i:=i) (by simpa using hi);obtain ⟨sa,na,pw⟩:=p;obtain ⟨sb,nb,pw'⟩:=q;rw[el] at sg;obtain ⟨k,g1,g2⟩:=Segs.append.mp sg;obtain ⟨h1,h2,h3,h4,h5,h6,h7⟩:=g2;dsimp only at h1 h2 h3 h4 h5 h6 h7;subst h1;have l7:=Segs.le h7;have l1:=Segs.le g1;have p1:(pendingOf st)[i]?=some (sa,na,pw):=by rw[← xcf,el,xcw (xda hl),hl,xie];rfl
 have p2:(pendingOf st)[i+1]?=some (sb,nb,pw'):=by rw[← xcf,el,xcw (xbb (xda hl) (xbr i 1)),hl,xcn];rfl
 refine zpf O b p1 p2 h4 h2 h5 (by lia) (by rw[h4];exact h3) (by rw[h4];exact h6) fun st' b' pe ou up=>?_
 have pl:(pendingOf st').toList=pre++(sa,na+nb,pw)::post:=by
  rw[pe];rw[Array.toList_eraseIdxIfInBounds,Array.toList_setIfInBounds,el];rw[List.set_append_right _ _ (xda hl),hl,xie,List.set_cons_zero,List.eraseIdx_append_of_length_le (xbb (xda hl) (xbr i 1)),hl,xcn]
  rfl
 have keep:∀j,j < sa\/sb+nb<=j->(arrOf st')[j]?=(arrOf st)[j]?:=ou
 refine h st' b' ?_ ?_ fun j hj=>keep j (.inr (by lia))
 ·rw[pl];refine Segs.append.mpr ⟨sa,g1.same fun j a1 a2=>keep j (.inl a2),rfl,by show 1<=na+nb;lia,?_,?_⟩
  ·show UpA R (arrOf st') sa (sa+(na+nb));rw[show sa+(na+nb)=sb+nb by lia];exact up
  ·show Segs R (arrOf st') (sa+(na+nb)) post e;rw[show sa+(na+nb)=sa+na+nb by lia];exact h7.same fun j a1 a2=>keep j (.inr (by lia))
 ·have e1:(pendingOf st').size=(pendingOf st').toList.length:=by simp
  have e2:(pendingOf st).size=(pendingOf st).toList.length:=by simp
  rw[e1,e2,pl,el];simp only[xcb,xby];lia
theorem zbdp {c:Prop} [Decidable c] {a b n:Nat} (h1:a+1 < n) (h2:b+1 < n):(if c then a else b)+1 < n:=by split<;>assumption
theorem zse {g:Nat × Nat × Nat->Nat × Nat} {f:Nat × Nat × Nat->Nat × Nat × Nat} (h:∀x,g (f x)=g x):∀(l:List (Nat × Nat × Nat)) (i:Nat),(l.modify i f).map g=l.map g
 | [],i=>by simp
 | x::l,0=>by simp[h]
 | x::l,i+1=>by simp[zse h l i]
theorem Segs.mod {xs:Array Keyed} {s e:Nat} {l:List (Nat × Nat × Nat)} (h:Segs R xs s l e) (i c:Nat):Segs R xs s (l.modify i fun x=>(x.1,x.2.1,c)) e :=
 h.power (zse (g:=fun p=>(p.1,p.2.1)) (f:=fun x=>(x.1,x.2.1,c)) (fun _=>rfl) l i).symm
theorem zbbx {st:SortSt} {Q:Unit->SortSt->Prop} (O:Orc prog w A s κ a₀ R) (b:B κ a₀ st) (pe:pendingOf st=#[]) (h2:2<=a₀.size)
  (h:∀st',B κ a₀ st'->UpA R (arrOf st') 0 a₀.size->Q () st'):wpS (model prog w) A E s sortRuns' Q st:=by
 have hz:=b.size;rw[sortRuns'_eq];refine xbi (xgu ?_);dsimp only;rw[hz]
 refine xbi (xen (xde (I:=fun x c st'=>∃lo,c=(none,lo)/\B κ a₀ st'/\Segs R (arrOf st') 0 (pendingOf st').toList lo/\lo<=a₀.size/\x<=lo)
  (Q:=fun c st'=>c=(none,a₀.size)/\B κ a₀ st'/\Segs R (arrOf st') 0 (pendingOf st').toList a₀.size) ?_ ?_ ⟨0,rfl,b,by rw[pe];rfl,by lia,by lia⟩) ?_)
 ·rintro x c st1 x1 x2 ⟨lo,rfl,b1,sg1,hlo,hx⟩;dsimp only;by_cases c1:lo ≥ a₀.size
  ·rw[if_pos c1];have:lo=a₀.size:=by lia
   subst this;exact xbj ⟨rfl,b1,sg1⟩
  rw[if_neg c1];refine xbi (zwy O b1 (by lia) (by lia) fun m st2 m1 m2 b2 sm2 up2=>?_);dsimp only;have sg2:Segs R (arrOf st2) 0 (pendingOf st2).toList lo:=by
   rw[sm2.pend];exact sg1.same fun i a1 a2=>sm2.out i (.inl a2)
  by_cases c2:m < minRun' a₀.size a₀.size 0
  ·rw[if_pos c2];refine xbi (xjc (xgm ⟨rfl,?_⟩));refine xbi (zbhd O b2 (by lia) m1 (by lia) up2 fun st3 b3 sm3 up3=>?_);have sg3:Segs R (arrOf st3) 0 (pendingOf st3).toList lo:=by
    rw[sm3.pend];exact sg2.same fun i a1 a2=>sm3.out i (.inl a2)
   have hn1:1<=min (a₀.size - lo) (minRun' a₀.size a₀.size 0):=by lia
   have hn2:lo+min (a₀.size - lo) (minRun' a₀.size a₀.size 0)<=a₀.size:=by lia
   simp only[Bool.not_true,xcr,xem];generalize min (a₀.size - lo) (minRun' a₀.size a₀.size 0)=n at up3 hn1 hn2 sm3 ⊢;refine xbi (xgu ?_);cases hb:(pendingOf st3).back? with
   | none =>
    dsimp only;refine xbi (xga (xbj ⟨lo+n,rfl,⟨b3.perm,b3.kind,b3.failed⟩,?_,hn2,by lia⟩));show Segs R (arrOf st3) 0 ((pendingOf st3).push (lo,n,0)).toList (lo+n);rw[xeu];exact Segs.append.mpr ⟨lo,sg3,rfl,hn1,up3,rfl⟩
   | some p =>
    obtain ⟨s1,n1,p1⟩:=p;dsimp only;refine xbi (xen (xde (I:=fun _ c st'=>c=(none,())/\B κ a₀ st'/\Segs R (arrOf st') 0 (pendingOf st').toList lo/\UpA R (arrOf st') lo (lo+n)) (Q:=fun c st'=>c=(none,())/\B κ a₀ st'/\Segs R (arrOf st') 0 (pendingOf st').toList lo/\UpA R (arrOf st') lo (lo+n)) ?_ (fun _ _ hh=>hh) ⟨rfl,b3,sg3,up3⟩) ?_)
    ·rintro x' c st4 _ _ ⟨rfl,b4,sg4,up4⟩;refine xbi (xgu ?_);by_cases hs:(pendingOf st4).size > 1
     ·rw[if_pos hs,getElem?_pos (pendingOf st4) ((pendingOf st4).size - 2) (by lia)];obtain ⟨s2,n2,p2⟩:=(pendingOf st4)[(pendingOf st4).size - 2]'(by lia);dsimp only;split
      ·exact xbj ⟨rfl,b4,sg4,up4⟩
      ·refine xbi (w_at O b4 sg4 hlo (by lia) fun st5 b5 sg5 _ k5=>?_);exact xbj ⟨rfl,b5,sg5,up4.same fun i a1 a2=>k5 i a1⟩
     ·rw[if_neg hs];exact xbj ⟨rfl,b4,sg4,up4⟩
    ·rintro c st4 ⟨rfl,b4,sg4,up4⟩;dsimp only;refine xbi (xga (xbi (xga (xbj ⟨lo+n,rfl,⟨b4.perm,b4.kind,b4.failed⟩,?_,hn2,by lia⟩))));refine (?_:Segs R (arrOf st4) 0 (((pendingOf st4).modify ((pendingOf st4).size - 1) fun x=>(x.1,x.2.1,_)).push (lo,n,0)).toList (lo+n));rw[xeu,Array.toList_modify];exact Segs.append.mpr ⟨lo,sg4.mod _ _,rfl,hn1,up4,rfl⟩
  ·rw[if_neg c2];have b3:=b2;have sg3:=sg2;have up3:=up2;have hn1:=m1;have hn2:lo+m<=a₀.size:=by lia
   generalize st2=st3 at b3 sg3 up3 ⊢;generalize m=n at up3 hn1 hn2 ⊢;refine xbi (xgu ?_);cases hb:(pendingOf st3).back? with
   | none =>
    dsimp only;refine xbi (xga (xbj ⟨lo+n,rfl,⟨b3.perm,b3.kind,b3.failed⟩,?_,hn2,by lia⟩));show Segs R (arrOf st3) 0 ((pendingOf st3).push (lo,n,0)).toList (lo+n);rw[xeu];exact Segs.append.mpr ⟨lo,sg3,rfl,hn1,up3,rfl⟩
   | some p =>
    obtain ⟨s1,n1,p1⟩:=p;dsimp only;refine xbi (xen (xde (I:=fun _ c st'=>c=(none,())/\B κ a₀ st'/\Segs R (arrOf st') 0 (pendingOf st').toList lo/\UpA R (arrOf st') lo (lo+n)) (Q:=fun c st'=>c=(none,())/\B κ a₀ st'/\Segs R (arrOf st') 0 (pendingOf st').toList lo/\UpA R (arrOf st') lo (lo+n)) ?_ (fun _ _ hh=>hh) ⟨rfl,b3,sg3,up3⟩) ?_)
    ·rintro x' c st4 _ _ ⟨rfl,b4,sg4,up4⟩;refine xbi (xgu ?_);by_cases hs:(pendingOf st4).size > 1
     ·rw[if_pos hs,getElem?_pos (pendingOf st4) ((pendingOf st4).size - 2) (by lia)];obtain ⟨s2,n2,p2⟩:=(pendingOf st4)[(pendingOf st4).size - 2]'(by lia);dsimp only;split
      ·exact xbj ⟨rfl,b4,sg4,up4⟩
      ·refine xbi (w_at O b4 sg4 hlo (by lia) fun st5 b5 sg5 _ k5=>?_);exact xbj ⟨rfl,b5,sg5,up4.same fun i a1 a2=>k5 i a1⟩
     ·rw[if_neg hs];exact xbj ⟨rfl,b4,sg4,up4⟩
    ·rintro c st4 ⟨rfl,b4,sg4,up4⟩;dsimp only;refine xbi (xga (xbi (xga (xbj ⟨lo+n,rfl,⟨b4.perm,b4.kind,b4.failed⟩,?_,hn2,by lia⟩))));refine (?_:Segs R (arrOf st4) 0 (((pendingOf st4).modify ((pendingOf st4).size - 1) fun x=>(x.1,x.2.1,_)).push (lo,n,0)).toList (lo+n));rw[xeu,Array.toList_modify];exact Segs.append.mpr ⟨lo,sg4.mod _ _,rfl,hn1,up4,rfl⟩
 ·rintro c st1 ⟨lo,rfl,b1,sg1,hlo,hx⟩;have:lo=a₀.size:=by lia
  subst this;exact ⟨rfl,b1,sg1⟩
 ·rintro c st1 ⟨rfl,b1,sg1⟩;dsimp only
  refine xbi (xen (xde (I:=fun x c st'=>c=(none,())/\B κ a₀ st'/\Segs R (arrOf st') 0 (pendingOf st').toList a₀.size/\(pendingOf st').size+x<=a₀.size)
   (Q:=fun c st'=>c=(none,())/\B κ a₀ st'/\Segs R (arrOf st') 0 (pendingOf st').toList a₀.size/\(pendingOf st').size<=1) ?_ ?_ ⟨rfl,b1,sg1,by have:=sg1.le;simp at this;lia⟩) ?_)
  ·rintro x c st2 x1 x2 ⟨rfl,b2,sg2,hp⟩;refine xbi (xgu ?_);by_cases c1:(pendingOf st2).size<=1
   ·rw[if_pos c1];exact xbj ⟨rfl,b2,sg2,c1⟩
   rw[if_neg c1];refine xbi (w_at O b2 sg2 (xbg _) ?_ fun st3 b3 sg3 p3 _=>xbj ⟨rfl,b3,sg3,by lia⟩);exact zbdp (by lia) (by lia)
  ·rintro c st2 ⟨rfl,b2,sg2,hp⟩;exact ⟨rfl,b2,sg2,by lia⟩
  ·rintro c st2 ⟨rfl,b2,sg2,hp⟩;refine xbj (h st2 b2 ?_);cases hl:(pendingOf st2).toList with
   | nil=>rw[hl] at sg2;have:0=a₀.size:=sg2;lia
   | cons p r =>
    have:r=[]:=by
     have e2:(pendingOf st2).size=(pendingOf st2).toList.length:=by simp
     rw[e2,hl,xby] at hp;exact List.length_eq_zero_iff.mp (by lia)
    subst this;rw[hl] at sg2;obtain ⟨_,_,g3,g4⟩:=sg2;have g4':0+p.2.1=a₀.size:=g4;rw[g4'] at g3;exact g3
end
end TS
namespace Srt
open PySem PySem.W PyProof.Rows
theorem zkz {α β:Type} (f:α->β):∀{l m':List β},l.Perm m'->∀m:List α,m'=m.map f->∃p:List α,p.Perm m/\l=p.map f:=by
 intro l m' h
 induction h with
 | nil=>exact fun m e=>⟨[],by rw[List.map_eq_nil_iff.mp e.symm],rfl⟩
 | cons x _ ih =>
  intro m e;cases m with
  | nil=>cases e
  | cons y m =>
   rw[xbq] at e;injection e with e1 e2
   obtain ⟨p,p1,p2⟩:=ih m e2;exact ⟨y::p,p1.cons y,by rw[xbq,← p2,e1]⟩
 | swap x y l =>
  intro m e
  match m,e with
  | a::b::m,e =>
   rw[xbq,xbq] at e;injection e with e1 e2
   injection e2 with e2 e3
   exact ⟨b::a::m,.swap _ _ _,by rw[xbq,xbq,e1,e2,e3]⟩
 | trans _ _ ih1 ih2 =>
  intro m e;obtain ⟨p,p1,p2⟩:=ih2 m e;obtain ⟨q,q1,q2⟩:=ih1 p p2;exact ⟨q,q1.trans p1,q2⟩
noncomputable def Coh (r:Nat->Nat) (xs:List Value):Prop:=∀i j,i < xs.length->j < xs.length->xs.getD i Value.none=xs.getD j Value.none->r i=r j
open Classical in
noncomputable def rankV (r:Nat->Nat) (xs:List Value) (x:Keyed):Nat:=if h:∃i,i < xs.length/\xs.getD i Value.none=x.1 then r h.choose else 0
theorem zir {r:Nat->Nat} {xs:List Value} (coh:Coh r xs) {x:Keyed} {i:Nat} (hi:i < xs.length) (e:xs.getD i Value.none=x.1):rankV r xs x=r i:=by
 have h:∃i,i < xs.length/\xs.getD i Value.none=x.1:=⟨i,hi,e⟩
 unfold rankV;rw[dif_pos h];exact coh _ _ h.choose_spec.1 hi (h.choose_spec.2.trans e.symm)
theorem zlq (xs:List Value):(xs.toArray.zip xs.toArray).toList=(List.range xs.length).map fun i=>((xs.getD i Value.none,xs.getD i Value.none):Keyed):=by
 rw[Array.toList_zip];apply List.ext_getElem
 ·simp
 ·intro i h1 h2;have h3:i < xs.length:=by simpa using h2
  simp[xcl,h3]
section
variable {P:Program} {w:World} {B:Around} {E:Value->Shared->Prop} {st:Shared}
theorem zun {r:Nat->Nat} {xs:List Value} {κ:SortKind} {sg:Shared} (h2:2<=xs.length) (coh:Coh r xs)
  (cmp:∀i j C,i < xs.length->j < xs.length->C (lt r i j) sg->kas_ask P w B κ xs i j C sg) :
  wpAny (model P w) B ((sortRuns').run (SortSt.mk' κ (xs.toArray.zip xs.toArray) #[] 7 none)) (fun y z=>∃p:Array Nat,(p.Perm (List.toArray (List.range xs.length))/\Up r p xs.length)/\(arrOf y.2).map (·.2)=outOf xs p/\failedOf y.2=none/\z=sg) E sg:=by
 have sz:(xs.toArray.zip xs.toArray).size=xs.length:=by simp
 have O:TS.Orc P w B sg κ (xs.toArray.zip xs.toArray) (rankV r xs):=fun x hx y hy C hC=>by
  rw[zlq] at hx hy;obtain ⟨i,hi,rfl⟩:=xdg.mp hx;obtain ⟨j,hj,rfl⟩:=xdg.mp hy;rw[xgn] at hi hj;rw[zir coh hi rfl,zir coh hj rfl] at hC;exact cmp i j C hi hj hC
 have run:=TS.zbbx (E:=E) (Q:=fun _ y=>∃p:Array Nat,(p.Perm (List.toArray (List.range xs.length))/\Up r p xs.length)/\(arrOf y).map (·.2)=outOf xs p/\failedOf y=none) O (st:=SortSt.mk' κ (xs.toArray.zip xs.toArray) #[] 7 none) ⟨.refl _,rfl,rfl⟩ rfl (by rw[sz];exact h2) fun y b up=>by
  obtain ⟨l,l1,l2⟩:=zkz (fun i=>((xs.getD i Value.none,xs.getD i Value.none):Keyed)) (xez.mp b.perm) _ (zlq xs);have ll:l.length=xs.length:=by rw[l1.length_eq,xkg]
  have mem:∀k,(hk:k < l.length)->l[k] < xs.length:=fun k hk=>xgn.mp (l1.mem_iff.mp (xdk hk))
  have key:∀k,k < xs.length->TS.kA (rankV r xs) (arrOf y) k=At r l.toArray k:=fun k hk=>by
   have hk':k < l.length:=by lia
   have e:(arrOf y)[k]?=some (xs.getD l[k] Value.none,xs.getD l[k] Value.none):=by
    rw[← xcf,l2,xcp,xbe hk']
    rfl
   rw[TS.zcq e,zir coh (mem k hk') rfl];unfold At;simp[hk']
  refine ⟨l.toArray,⟨?_,fun i j hij hj=>?_⟩,?_,b.failed⟩
  ·exact xez.mpr (by simpa using l1)
  ·rw[← key i (by lia),← key j hj];exact up i j (xcu _) hij (by rw[sz];exact hj)
  ·unfold outOf;apply Array.toList_inj.mp;rw[Array.toList_map,l2,xdy]
   rfl
 exact xdj run (fun y z hz=>by
  obtain ⟨rfl,p,a,b,c⟩:=hz
  exact ⟨p,a,b,c,rfl⟩) fun _ _ x=>x
theorem zhe (r : Nat -> Nat) {d : Addr} {xs : List Value} {k : Nat} {W : Fin -> Shared -> Prop} (e0 : st.heap.get? d = some (seqObj "list" xs.toArray k)) (few : xs.length <= sizeLine) (coh : Coh r xs)
  (ask:2<=xs.length->Answers P w B r xs {st with heap:=midHeap st.heap d xs})
  (fin:∀p:Array Nat,p.Perm (List.toArray (List.range xs.length))->Up r p xs.length->W (.done (.ret .none)) {st with heap:=sortedHeap st.heap d xs (outOf xs p)}) :
  wpAny (model P w) B (Builtin.«list.sort» ⟨[.ref d],[]⟩) W E st:=by
 obtain ⟨c, ec⟩ : ∃ c, (st.heap.update d (Obj.mapSeq fun _ => (#[] : Array Value))).get? d = some (seqObj "list" #[] c) := ⟨_, get?_update_seq e0 fun _ => #[]⟩
 have em : (midHeap st.heap d xs).get? d = some (seqObj "list" #[] c) := xbc _ (xbc _ ec)
 have szs:xs.toArray.size=xs.length:=xbm;rw[list_sort_plain];refine xba (listItems_at e0 rfl (xba (listUpdate_at e0 rfl (xba (seqEpoch_at ec rfl (xba (wpAny_newTuple (xba (wpAny_newList (xdx ?_) (xcu _))) (few))))) (by rw[szs];exact few) (xcu _))));show wpAny (model P w) B _ W E {st with heap:=midHeap st.heap d xs};dsimp only;by_cases two:xs.toArray.size < 2
 ·rw[if_pos two,if_pos two];rw[szs] at two;have eo:((arrOf (SortSt.mk' general' (xs.toArray.zip xs.toArray) #[] 7 none)).map (·.2))=outOf xs (List.toArray (List.range xs.length)):=zpl two
  refine xba (xbd (by
   rw[StateT.run_pure];refine xba (xbd (xba (seqEpoch_at em rfl (xba (listUpdate_at em rfl ?_ (xcu _) ?_)))))
   ·rw[if_neg (by simp)];refine xbd ?_;rw[eo];exact fin _ (.refl _) fun i j hij hj=>xda (congrArg (At r _) (by lia))
   ·rw[eo];refine xfk (xbb (xda ?_) (few));unfold outOf
    simp))
 ·rw[if_neg two,if_neg two];rw[szs] at two;obtain ⟨κ,kd,cmp⟩:=ask (by lia);refine xba (xdj (kd (fun κ' z=>κ'=κ/\z={st with heap:=midHeap st.heap d xs}) ⟨rfl,rfl⟩) (fun κ' z hz=>?_) fun _ _ x=>x.elim);obtain ⟨rfl,rfl⟩:=hz;have run:=zun (E:=E) (r:=r) (xs:=xs) (κ:=κ') (sg:={st with heap:=midHeap st.heap d xs}) (by lia) coh cmp;refine xba (xdj run (fun yy z hz=>?_) fun _ _ x=>x);obtain ⟨⟨⟩,y⟩:=yy;obtain ⟨p,hp,ho,hf,rfl⟩:=hz;dsimp only at ho hf ⊢;refine xba (seqEpoch_at em rfl (xba (listUpdate_at em rfl ?_ (xcu _) ?_)))
  ·rw[hf,if_neg (by simp),ho];exact xbd (fin p hp.1 hp.2)
  ·rw[ho];refine xfk (xbb (xda ?_) (few));unfold outOf;rw[xbm,xbf,xbv,hp.1.size_eq];simp
theorem zij (r:Nat->Nat) {d:Addr} {xs:List Value} {W:Value->Shared->Prop} (isl:st.heap.IsList d xs.toArray) (few:xs.length<=sizeLine) (coh:Coh r xs)
  (ask:2<=xs.length->∀g:Heap,(∀b ob,st.heap.get? b=some ob->g.get? b=some ob)->Answers P w B.in1.in1 r xs {st with heap:=g})
  (fin:∀p:Array Nat,p.Perm (List.toArray (List.range xs.length))->Up r p xs.length->W (.ref (st.heap.objs.size+1)) {st with heap:=sortedAll st.heap xs (outOf xs p)}) :
  wpAny (model P w) B (call (.builtin "sorted") [.ref d]) W E st := by
 let g0 : Heap := (st.heap.push (seqObj "list" #[] 0)).update st.heap.objs.size (Obj.mapSeq (· ++ xs.toArray))
 have sz:g0.objs.size=st.heap.objs.size+1:=(Heap.size_update ..).trans (size_push' _ _);have new : (g0.push (seqObj "list" xs.toArray 0)).get? (st.heap.objs.size + 1) = some (seqObj "list" xs.toArray 0) := by
  have z := xbz g0 (o := seqObj "list" xs.toArray 0) rfl
  rw[sz] at z;exact z
 have old : ∀ b ob, st.heap.get? b = some ob -> (g0.push (seqObj "list" xs.toArray 0)).get? b = some ob := fun b ob e => by
  have lt:=xbk e;exact xbc _ ((xhw _ _ _ _ (xbt lt)).trans (xbc _ e))
 have ar : argsOk "sorted" ⟨[.ref d], []⟩ := args_sorted1 _
 refine Calls.call_function_entry kind_sorted plain_sorted entry_sorted ar ?_;unfold Builtin.«sorted»;refine xba (m := checkCount "sorted" 1 1 _) (xbd (xba (collect_list isl (xba (wpAny_newList ?_ (few))) (few))))
 show wpAny _ _ _ _ _ { st with heap := g0.push (seqObj "list" xs.toArray 0) }
 have esz:(Value.ref g0.objs.size)=Value.ref (st.heap.objs.size+1):=by rw[sz]
 rw [show ((st.heap.push (seqObj "list" #[] 0)).update st.heap.objs.size (Obj.mapSeq (· ++ xs.toArray))).objs.size = st.heap.objs.size + 1 from sz]
 refine xba (xdx (xfw slot_list_sort ⟨_, new, rfl⟩ entry_list_sort (zhe r (st := { st with heap := g0.push (seqObj "list" xs.toArray 0) }) new few coh (fun two => ?_) fun p p1 p2 => ⟨_, rfl, xbd ⟨_, rfl, fin p p1 p2⟩⟩) (args_list_sort _)))
 exact ask two _ fun b ob e=>zfw (xbt (xit (xbk e))) (old b ob e)
theorem zkv {T:String} {a d:Addr} {n:Nat} {It:Nat->Value->Prop} {OK:Heap->Prop} (S:KdlSrc P w T a d n It OK) (hh:B.handled=none) (ok:OK st.heap) (few:n<=sizeLine) {W:Value->Shared->Prop}
  (ask:∀xs:List Value,xs.length=n->(∀(j:Nat) (v:Value),xs[j]?=some v->It j v)->∃r:Nat->Nat,Coh r xs/\(2<=n->∀(g:Heap) (tk:Nat),(∀b ob,st.heap.get? b=some ob->g.get? b=some ob)->Answers P w B.in1.in1 r xs {st with heap:=g,toks:=tk}) /\
   ∀ (p : Array Nat) (q : Addr) (g : Heap) (tk c : Nat), p.Perm (List.toArray (List.range xs.length)) -> Up r p xs.length -> (∀ b ob, st.heap.get? b = some ob -> g.get? b = some ob) -> (∀ b ob, st.heap.get? b = some ob -> b ≠ q) -> g.get? q = some (seqObj "list" (outOf xs p) c) -> W (.ref q) { st with heap := g, toks := tk }) :
  wpAny (model P w) B (call (.builtin "sorted") [.ref a]) W E st := by
 have ar : argsOk "sorted" ⟨[.ref a], []⟩ := args_sorted1 _
 refine Calls.call_function_entry kind_sorted plain_sorted entry_sorted ar ?_;unfold Builtin.«sorted»;refine xba (m := checkCount "sorted" 1 1 _) (xbd (xba (kdu_collect (A := B.in1) S hh ok (few) fun g tk acc keep items => ?_)))
 have len:acc.toList.length=n:=by rw[xbv];exact items.1
 obtain ⟨r,coh,an,fin⟩:=ask acc.toList len (fun j v e=>items.2 j v (by rw[← xcf];exact e));refine xba (wpAny_newList ?_ (by rw[len];exact few));have new : (g.push (seqObj "list" acc.toList.toArray 0)).get? g.objs.size = some (seqObj "list" acc.toList.toArray 0) := xbz g rfl
 have old : ∀ b ob, st.heap.get? b = some ob -> (g.push (seqObj "list" acc.toList.toArray 0)).get? b = some ob := fun b ob e => xbc _ (keep b ob e)
 have lt:∀b ob,st.heap.get? b=some ob->b≠g.objs.size:=fun b ob e=>xbt (xbk (keep b ob e))
 show wpAny _ _ _ _ _ { st with heap := g.push (seqObj "list" acc.toList.toArray 0), toks := tk }
 refine xba (xdx (xfw slot_list_sort ⟨_, new, rfl⟩ entry_list_sort (zhe r (st := { st with heap := g.push (seqObj "list" acc.toList.toArray 0), toks := tk }) new (by rw [len]; exact few) coh (fun two => ?_) fun p p1 p2 => ⟨_, rfl, xbd ⟨_, rfl, ?_⟩⟩) (args_list_sort _)))
 ·exact an (by lia) _ tk fun b ob e=>zfw (lt b ob e) (old b ob e)
 ·obtain ⟨c,ec⟩:=sortedHeap_at (n:=0) (vs:=acc.toList) (out:=outOf acc.toList p) new;refine fin p g.objs.size _ tk c p1 p2 (fun b ob e=>?_) ?_ ec
  ·rw[sortedHeap_old (lt b ob e) (xbk (old b ob e))];exact old b ob e
  ·exact lt
end
end Srt
namespace L2
open PySem PySem.Spec PyProof.Rows PySem.W
theorem small10000 {n:Nat} (h:n<=1000000):n<=sizeLine:=xbb h (by rw[xef];lia)
theorem zfz:∀{us:List Value} {a b:List Int},IntsAre us a->IntsAre us b->a=b
 | _,_,_,.nil,.nil=>rfl
 | _,_,_,.cons x t r,.cons _ _ r'=>by rw[zfz r r']
theorem zof {g:Heap} {ps:List (Addr × List Int)} (tup:TupsG g ps):Srt.Coh (Srt.rank (ps.map (·.2))) (ps.map fun p=>Value.ref p.1):=fun i j hi hj e=>by
 rw[xbf] at hi hj;have ei:ps[i]?=some ps[i]:=xbe hi;have ej:ps[j]?=some ps[j]:=xbe hj;rw[zn (fun p:Addr × List Int=>Value.ref p.1) _ ei,zn (fun p:Addr × List Int=>Value.ref p.1) _ ej] at e;injection e with e
 obtain ⟨us,o,n,a1,a2,a3,a4⟩:=tup _ (xdk hi);obtain ⟨us2,o2,n2,b1,b2,b3,b4⟩:=tup _ (xdk hj);rw[e,b2] at a2;injection a2 with a2
 subst a2;rw[b4] at a4;injection a4 with a4 _
 have a5:us2=us:=by simpa using a4
 subst a5;have d:=zfz a1 b1;unfold Srt.rank;rw[zn (fun p:Addr × List Int=>p.2) _ ei,zn (fun p:Addr × List Int=>p.2) _ ej,d]
noncomputable def rSortedAL (K:Fg):List V->Hp->VK->Prop:=fun xs H Q=>∃(l:Addr) (ps:List (Addr × List Int)),xs=[.ref l]/\SqL K H l (ps.map fun p=>V.ref p.1)/\ps.length<=1000000/\TupsAt K H ps /\
 ∀(q:Addr) (qs:List (Addr × List Int)),H q=none->qs.Perm ps->(qs.map (·.2)).Pairwise (fun a b=>HT.lexLt b a=false)->Q (.ref q) (upd H q (.lst (qs.map fun p=>V.ref p.1)))
noncomputable def rSortedDAL:List V->Hp->VK->Prop:=fun xs H Q=>∃(a:Addr) (kvs:List (List Key × V)) (ks:List (List Int)),xs=[.ref a]/\Rd H a (.dT kvs)/\kvs.map (·.1)=ks.map (fun ns=>ns.map Sum.inl)/\ks.length<=1000000 /\
 ∀(q:Addr) (qs:List (Addr × List Int)),H q=none->(qs.map (·.2)).Perm ks->(qs.map (·.2)).Pairwise (fun x y=>HT.lexLt y x=false)->(∀p∈qs,H p.1=some (.tup (p.2.map V.int)))->Q (.ref q) (upd H q (.lst (qs.map fun p=>V.ref p.1)))
section
variable {X:Cx}
theorem zia (hu : X.A.units + 64 < cLine) : CallR X (.builtin "sorted") (rSortedAL X.K) := by
 intro pins s σ H xs us Q I r h;obtain ⟨l,ps,rfl,hl,h64,ht,q⟩:=h;obtain ⟨u,rfl,ru⟩:=vals1 r;cases ru;obtain ⟨its,rv,pl,hz⟩:=I.list hl;have eits:its=ps.map fun p=>Value.ref p.1:=by
  have e:(ps.map fun p=>V.ref p.1)=(ps.map (·.1)).map V.ref:=by rw[xdy];rfl
  rw[e] at rv;rw[zjm rv,xdy]
  rfl
 subst eits;have tup:∀g:Heap,(∀b o,s.heap.get? b=some o->g.get? b=some o)->TupsG g ps:=fun g keep p hp=>by
  obtain ⟨us,rv',⟨o,b2,b3,n,b4⟩,_⟩:=I.tuple (ht p hp);exact ⟨us,o,n,zdn rv',keep _ _ b2,b3,b4⟩
 refine Srt.zij (Srt.rank (ps.map (·.2))) pl.isList (by rw[xbf];exact small10000 h64) (zof (tup s.heap fun _ _ z=>z)) (fun h2 g keep=>zsx (by show X.A.units+1+1 < cLine;lia) (by rw[xbf] at h2;exact h2) (tup g keep)) (fun p p1 p2=>?_);rw[xbf] at p1 p2;obtain ⟨qs,q1,q2,q3⟩:=zms p1 p2;obtain ⟨e,he⟩:=sortedAll_at s.heap (ps.map fun p=>Value.ref p.1) (Srt.outOf (ps.map fun p=>Value.ref p.1) p);rw[q3] at he ⊢;refine ⟨.ref (s.heap.objs.size+1),_,I.laid (a:=s.heap.objs.size+1) (o:=.lst (qs.map fun p=>V.ref p.1)) (t':=s.toks) (fun _ _ z=>sortedAll_old z) (xjs _) ⟨?_,_,e,zek qs,he⟩,rfl,q _ _ (I.hok.fresh (xjs _)) q1 q2⟩;rw[xbf,q1.length_eq];exact small10000 (by lia)
theorem zgy (hc : X.calm = true) (hu : X.A.units + 64 < cLine) : CallR X (.builtin "sorted") rSortedDAL := by
 intro pins s σ H xs us Q I r h;obtain ⟨a,kvs,ks,rfl,hd,ek,few,q⟩:=h;obtain ⟨u,rfl,ru⟩:=vals1 r;cases ru;obtain ⟨z,ns,ys,rel,ob,es,ep,e1,e2,e3,e4,e5⟩:=(show ObjOk X.prog X.w H s.heap a (.dT kvs) from hd.ok I.hok)
 obtain ⟨ps,a1,a2,a3⟩:=zhx (P:=X.prog) (w:=X.w) rel ek;have hpl:ps.length=ks.length:=by rw[← a1,xbf]
 have hes:es.toList.map (·.key)=ps.map fun p=>Value.ref p.1:=by rw[e4,xdy];exact a3
 have hsz:es.size=ps.length:=by
  have:=congrArg List.length hes;rw[xbf,xbf,xbv] at this;exact this
 have tup:∀g:Heap,(∀b o,s.heap.get? b=some o->g.get? b=some o)->TupsG g ps:=fun g keep p hp=>by
  obtain ⟨us,rv,⟨o,b2,b3,n,b4⟩,_⟩:=I.tuple (SqT.of (a2 p hp));exact ⟨us,o,n,zdn rv,keep _ _ b2,b3,b4⟩
 refine Srt.zkv (Dct.zxm ns es ep) (I.ok.hd hc) ⟨ob,e1,e2,e3⟩ (small10000 (by lia)) fun vs hl hv=>?_
 have evs:vs=ps.map fun p=>Value.ref p.1:=by
  rw[← hes];apply xkf;intro i;by_cases hi:i < es.size
  ·have h1:vs[i]?=some vs[i]:=xbe (by lia);obtain ⟨en,h2,h3⟩:=hv i _ h1;rw[h1,h3,xcp,xcf,h2]
   rfl
  ·rw[xjf (by lia),xjf (by rw[xbf,xbv];lia)]
 subst evs;refine ⟨Srt.rank (ps.map (·.2)),zof (tup s.heap fun _ _ z=>z),fun h2 g tk keep=>zsx (by show X.A.units+1+1 < cLine;lia) (by lia) (tup g keep),fun p t g tk c p1 p2 keep ne eg=>?_⟩;rw[xbf] at p1 p2;obtain ⟨qs,q1,q2,q3⟩:=zms p1 p2;rw[q3] at eg;refine ⟨.ref t,_,I.laidN (o:=.lst (qs.map fun p=>V.ref p.1)) keep ne ⟨?_,_,c,zek qs,eg⟩,rfl,q t qs (I.away ne) ((q1.map _).trans (by rw[a1])) q2 fun p hp=>a2 p (q1.mem_iff.mp hp)⟩;rw[xbf,q1.length_eq];exact small10000 (by lia)
end
end L2
namespace L2
open PySem PySem.Spec PyProof.Rows
theorem zey {κ β:Type} [DecidableEq κ] {k:κ}:∀{xs:List (κ × β)} {j:Nat} {p:β},(xs.map (·.1)).Nodup->xs[j]?=some (k,p)->xs.eraseIdx j=xs.filter fun x=>decide (x.1≠k)
 | [],_,_,_,e=>by simp at e
 | x::r,0,p,nd,e=>by
  simp at e;subst e;rw[xbq,xgw] at nd;rw[List.eraseIdx_cons_zero,xer (by simp)]
  symm
  rw[List.filter_eq_self];intro y hy;refine xcj fun z=>nd.1 ?_
  rw[← z];exact xdg.mpr ⟨y,hy,rfl⟩
 | x::r,j+1,p,nd,e=>by
  rw[xbq,xgw] at nd;have e':r[j]?=some (k,p):=by simpa using e
  have hx:x.1≠k:=fun z=>nd.1 (by rw[z];exact xdg.mpr ⟨_,xch e',rfl⟩)
  rw[xiq,xes (by simpa using hx),zey nd.2 e']
theorem zke {α β:Type} (f:α->β):∀(l:List α) (j:Nat),(l.map f).eraseIdx j=(l.eraseIdx j).map f
 | [],_=>rfl
 | _::_,0=>rfl
 | x::l,j+1=>by rw[xbq,xiq,xiq,xbq,zke f l j]
section
variable {prog:Program} {w:World} {κ:Type} [DecidableEq κ] {knd:HeapKind prog w κ} {A:Around} {E:Value->Shared->Prop} {s:Shared} {d a:Addr} {k:κ} {xs:List (κ × Addr × Value)} {p:Addr × Value}
theorem zpk {W:Option DictEntry->Shared->Prop} (hu:knd.room A) (hkey:knd.is s.heap k a) (hm:s.heap.DictOfH knd d xs) (hp:atKey xs k=some p) (hsz:xs.length<=sizeLine)
  (fin:∀e h',e.val=p.2->h'.DictOfH knd d (xs.filter fun x=>decide (x.1≠k))->Heap.SameBut d s.heap h'->W (some e) {s with heap:=h',toks:=s.toks+knd.draws k}) :
  wpAny (model prog w) A (Builtin.Dict.takeOut d (.ref a)) W E s:=by
 obtain ⟨o,es,ep,ho,hc,hd,he,his,hn⟩:=hm;unfold Builtin.Dict.takeOut;refine xdx ?_;refine xba (knd.pyHash hu hkey ?_);refine xba (wpAny_dictFind_heap (s:={s with toks:=s.toks+knd.draws k}) hu hkey ho hd he his hn (fun z=>?_) fun j q hj=>?_)
 ·rw[atKey_none_of_get z] at hp;cases hp
 ·have hq:q=p:=by
   have z:=atKey_of_get hn hj;rw[hp] at z;exact (xbw z).symm
  subst hq;refine xba (xhh (s:={s with toks:=s.toks+knd.draws k}) ho hd ?_);rw[entry_at he j,hj];have big:es.size<=sizeLine:=by have:=size_of_entries he;lia
  refine xba (wpAny_updateDictKeys (hz:=big) (s:={s with toks:=s.toks+knd.draws k}) ho hd (xbd (fin _ _ rfl ⟨_,_,ep+1,xfd _ ho (Obj.isFreed_of_dict (Obj.data_mapDictKeys hd _)),hc.mapDictKeys _,Obj.data_mapDictKeys hd _,?_,fun x hx=>?_,?_⟩ (xhx ..))))
  ·rw[← zey hn hj];obtain ⟨l⟩:=es;have he':l=xs.map (entryOfKey knd):=he;subst he';simp[zke]
  ·exact knd.keeps (his x (xhy.mp hx).1) ho hd (xhx ..)
  ·exact List.Sublist.nodup (List.Sublist.map (fun x:κ × Addr × Value=>x.1) List.filter_sublist) hn
theorem ztr {W:Value->Shared->Prop} (hu:knd.room A.in1) (hkey:knd.is s.heap k a) (hm:s.heap.DictOfH knd d xs) (hp:atKey xs k=some p) (hsz:xs.length<=sizeLine)
  (fin:∀h',h'.DictOfH knd d (xs.filter fun x=>decide (x.1≠k))->Heap.SameBut d s.heap h'->W p.2 {s with heap:=h',toks:=s.toks+knd.draws k}) :
  wpAny (model prog w) A (call (.builtin "dict.pop") [.ref d, .ref a]) W E s := by
 have M:MeetsIn prog w (Builtin.«dict.pop» ⟨[.ref d,.ref a],[]⟩) (fun B R g=>B=A/\g=s/\∀h',h'.DictOfH knd d (xs.filter fun x=>decide (x.1≠k))->Heap.SameBut d s.heap h'->R (.ok (.ret p.2)) {s with heap:=h',toks:=s.toks+knd.draws k}) :=
  .of_wp fun B R g hq0=>by
   obtain ⟨hB,hg,q⟩:=hq0;subst hB hg;unfold Builtin.«dict.pop» Builtin.Dict.keyAndDefault;refine xba (xba (wpAny_notOrdered_dict hm.typeIs (xbd ?_)));obtain ⟨o,es,ep,ho,hc,hd,he,his,hn⟩:=id hm;have ne:es.isEmpty=false:=by
    have:=size_of_entries he;cases xs with
    | nil=>cases hp
    | cons x r =>
     rw[xby] at this;rw[Array.isEmpty_eq_false_iff];intro z;rw[z] at this;simp at this
   simp only[keyPart,Option.isSome_none,xcr,xem];refine xba (xhh ho hd (xba (xbd ?_)));rw[ne];simp only[xcr,xem];refine xba (zpk hu hkey hm hp hsz fun e h' hv dd hs=>?_);simp only[Option.isNone_some,xcr,xem];exact xba (wpAny_letGo (xbd ⟨e.val,rfl,by rw[hv];exact q h' dd hs⟩))
 exact call_meetsIn PySem.F.slot_dict_pop hm.typeIs PySem.F.entry_dict_pop (PySem.F.args_dict_pop_2 _ _) M ⟨rfl,rfl,fin⟩
end
theorem KT.drop {H:Hp} {kvs:List (List Key × V)} {xs:List (List Key × Addr × Value)} (r:KT H kvs xs) (k:List Key):KT H (dropK kvs k) (xs.filter fun x=>decide (x.1≠k)):=by
 unfold dropK
 induction r with
 | nil=>exact .nil
 | @cons p q ps qs h t ih =>
  by_cases e:p.1=k
  ·rw[xer (by simp[e]),xer (by simp[← h.1,e])];exact ih
  ·rw[xes (by simp[e]),xes (by simp[← h.1,e])];exact .cons h ih
section
variable {X:Cx} {pins:List (Addr × Obj)} {σ:St} {H:Hp} {s:Shared} {a b:Addr} {kvs:List (List Key × V)} {k:List Key}
theorem zbfc {v:V} {Q:Value->Shared->Prop} {E:Value->Shared->Prop} (hu:X.A.units+1 < cLine) (I:Inv X pins σ H s) (e:H a=some (.dT kvs)) (eb:H b=some (.tup (k.map kV))) (l:valV kvs k=some v)
  (h : ∀ w' s', Inv X pins σ (upd H a (.dT (dropK kvs k))) s' -> RelV v w' -> Q w' s') : wpAny (model X.prog X.w) X.A (call (.builtin "dict.pop") [.ref a, .ref b]) Q E s := by
 obtain ⟨z,hd,xs,rel,dd⟩:=zbgx I.hok e;obtain ⟨w',hw,rw'⟩:=RelO.some_of (v:=v) (o:=(atKey xs k).map (·.2)) (by rw[← l];exact rel.val k);cases hp:atKey xs k with
 | none=>rw[hp] at hw;cases hw
 | some p =>
  rw[hp] at hw;have hw':p.2=w':=xbw hw;subst hw';refine ztr (xhd hu) (zlj I.hok eb) dd hp (by rw[← xht rel];exact z) fun h' dd' hs=>h _ _ ?_ rw'
  obtain ⟨q,es,ep,hq,h2,h3,h4,_,h5⟩:=dd';refine zoa I (by rw[e];exact True.intro) hs ⟨q,hq⟩ ⟨xbb (xjg _ _) z,hd,_,(rel.drop k).keeps fun c ys ec=>?_,q,es,ep,hq,h2,h3,h4,h5⟩;rw[zj (zbgo ec e (fun z=>nomatch z))];exact ec
end
noncomputable def tDPopT (td ty:TE):TE:=fun σ H Q=>td σ H fun x H1=>∃a,x=.ref a/\IsD H1 a/\ty σ H1 fun y H2=>∃kvs k v b,H2 a=some (.dT kvs)/\y=.ref b/\H2 b=some (.tup (k.map kV))/\valV kvs k=some v/\Q v (upd H2 a (.dT (dropK kvs k)))
section
variable {X:Cx} {o e:Expr} {apos cpos:Pos} {td ty:TE}
theorem ztx (hu : X.A.units + 1 < cLine) (ho : PE X o td) (he : PE X e ty) (m : M1 X o "pop" apos e cpos) : PE X (.Call (.Attribute o "pop" apos) [e] [] cpos) (tDPopT td ty) := by
 intro pins s σ H Q I h;refine wpAny_Call_method m.base m.few m.line PySem.F.plainAttrs_dict PySem.F.slot_dict_pop PySem.F.type_dict_pop (thn (ho pins s σ H _ I h) fun u s1 hq0=>?_);obtain ⟨x,H1,I1,rx,a,ex,d,q1⟩:=hq0;subst ex;obtain rfl:u=Value.ref a:=rx;obtain ⟨t1,t2,_⟩:=zzh I1 d;refine ⟨t1,t2,?_⟩;rw[m.trees];refine xhe rfl (xjj (xgv (thn (he pins s1 σ H1 _ I1 q1) fun iv s2 ⟨y,H2,I2,ry,kvs,k,v,b,ea,ey,eb,l,q2⟩=>xir ?_)));subst ey;cases (show iv=Value.ref b from ry);exact zbfc hu I2 ea eb l fun w' s3 I3 rw'=>⟨v,_,I3,rw',q2⟩
end
noncomputable def rCatA (K:Fg):R2:=fun x y H Q=>∃a b xs ys,x=.ref a/\y=.ref b/\SqT K H a xs/\SqT K H b ys/\xs.length+ys.length<=sizeLine /\
 (xs=[]->Q (.ref b) H)/\(xs≠[]->ys=[]->Q (.ref a) H)/\(xs≠[]->ys≠[]->∀p,H p=none->Q (.ref p) (upd H p (.tup (xs++ys))))
section
variable {X:Cx}
theorem zyl:OpR X (binaryOp .Add) (rCatA X.K):=by
 intro pins s σ H x y v u Q I rx ry h;obtain ⟨a,b,xs,ys,rfl,rfl,ha,hb,hz,q0,q1,q2⟩:=h;by_cases hx:xs=[]
 ·cases rx;cases ry;obtain ⟨its,r1,p1,_⟩:=I.tuple ha;obtain ⟨its2,r2,p2,_⟩:=I.tuple hb;obtain ⟨⟨cls,dd,data,sl⟩,ho,hc,n,hd⟩:=id p1;obtain ⟨⟨cls2,dd2,data2,sl2⟩,ho2,hc2,n2,hd2⟩:=id p2;simp only at hc hd hc2 hd2;subst hc hd hc2 hd2;have e:its=[]:=r1.nil_iff.mpr hx;exact concat_meets ⟨_,ho,rfl⟩ ⟨_,ho2,rfl⟩ noFill_tuple_add seq_tuple_add xiw xim (xid _ _)
   (tuple_addW0 a b its.toArray its2.toArray n n2 dd dd2 sl sl2 (by simp[e])) ⟨ho,ho2,⟨.ref b,H,I,rfl,q0 hx⟩⟩
 ·exact zyk pins s σ H _ _ v u Q I rx ry ⟨a,b,xs,ys,rfl,rfl,ha,hb,hx,hz,fun z=>q1 hx z,fun z=>q2 hx z⟩
end
section
variable {prog:Program} {w:World} {A:Around} {E:Value->Shared->Prop} {s:Shared}
theorem zrk {t sl:Addr} {its:Array Value} {vl vu:Value} {lo hi:Option Int} {W:Value->Shared->Prop} (ht:IsTup s.heap t its) (hs:s.heap.IsSliceOf sl vl vu .none) (pl:IsPart vl lo) (pu:IsPart vu hi)
  (h0:HT.sIx its.size 0 lo=0) (h1:HT.sIx its.size its.size hi=its.size) (fin:W (.ref t) s):wpAny (model prog w) A (getItem (.ref t) (.ref sl)) W E s:=by
 obtain ⟨os,hos,hcs,hds⟩:=id hs;unfold getItem
 try with_reducible refine xdx ?_
 first | refine xba (xbd ?_) | skip
 refine xba (wpAny_sequenceKey ht.typeIs (by decide) ?_);refine xba (wpAny_callSpecial?_slot (name := Str.ofString "__getitem__") ht.typeIs xii (xfw xii ht.typeIs entry_tuple_getitem ?_ (args_tuple_getitem _ _)))
 show wpAny _ _ (Builtin.Tuple.tupleItemsOf (.ref t) >>= _) _ _ s;refine xba (tupleItemsOf_ ht ?_);have hTs : s.TypeIs (.ref sl) "slice" := ⟨os, hos, hcs⟩
 refine xba (wpAny_typeOf hTs ?_);rw[if_pos (by decide)];refine xba (HT.zct hs pl pu ?_);have yes:(((HT.sIx its.size 0 lo:Nat):Int) == 0 && (1:Int) == 1 && (HT.sIx its.size its.size hi - HT.sIx its.size 0 lo) == its.size)=true:=by
  rw[h0,h1];simp
 show wpAny _ _ (if (((HT.sIx its.size 0 lo:Nat):Int) == 0 && (1:Int) == 1 && (HT.sIx its.size its.size hi - HT.sIx its.size 0 lo) == its.size)=true then _ else _) _ _ s;rw[if_pos yes];refine xba (?_:wpAny _ _ (Builtin.Tuple.tupleIsExact (.ref t)) _ _ s);unfold Builtin.Tuple.tupleIsExact;refine xba (wpAny_typeOf ht.typeIs (xbd ?_));rw[if_pos (by decide)];exact xba (xgm (xbd ⟨_,rfl,xbd fin⟩))
end
noncomputable def rSlA (K:Fg):V->Option Int->Option Int->Hp->VK->Prop:=fun x lo hi H Q=>∃a xs,x=.ref a/\SqT K H a xs/\(cutV xs lo hi=xs->Q (.ref a) H)/\∀p,H p=none->Q (.ref p) (upd H p (.tup (cutV xs lo hi)))
theorem zxg {X:Cx}:SlR X (rSlA X.K):=by
 intro pins s σ H x v vl vu lo hi sl Q I rx hs pl pu h;obtain ⟨a,xs,rfl,hx,q1,q2⟩:=h;by_cases hw:HT.sIx xs.length 0 lo=0/\HT.sIx xs.length xs.length hi=xs.length
 ·cases rx;obtain ⟨its,r,ht,hz⟩:=I.tuple hx;have hlen:its.toArray.size=xs.length:=by rw[xbm];exact r.length.symm
  refine ⟨"tuple", _, xii.lookup, ht.typeIs, ?_⟩
  refine zrk ht hs pl pu (by rw[hlen];exact hw.1) (by rw[hlen];exact hw.2) ⟨.ref a,H,I,rfl,q1 ?_⟩;unfold cutV;rw[hw.1,hw.2];simp
 ·exact zbcc pins s σ H _ v vl vu lo hi sl Q I rx hs pl pu ⟨a,xs,rfl,hx,hw,q2⟩
theorem zfr (ns:List Int):∀k,k<=ns.length->preSum (fun i=>ns.getD i 0) k=(ns.take k).sum
 | 0,_=>rfl
 | k+1,h=>by
  show preSum (fun i=>ns.getD i 0) k+ns.getD k 0=_;rw[zfr ns k (by lia),xgo (by lia),List.sum_append,xcl,xbe (by lia)];simp
theorem zhs:∀{ns:List Int} {us:List Value} {i:Nat} {v:Value},Vals (ns.map V.int) us->us[i]?=some v->∃t,v=.int (ns.getD i 0) t
 | [],_,_,_,.nil,e=>by simp at e
 | n::ns,_,0,_,.cons r _,e=>by
  simp at e;subst e
  obtain ⟨t,rfl⟩:=r;exact ⟨t,rfl⟩
 | n::ns,_,i+1,v,.cons _ t,e=>by
  have:=zhs (i:=i) t (by simpa using e)
  simpa using this
noncomputable def rSum (K:Fg):List V->Hp->VK->Prop:=fun xs H Q=>∃(a:Addr) (ns:List Int),xs=[.ref a]/\(SqL K H a (ns.map V.int)\/SqT K H a (ns.map V.int))/\Q (.int ns.sum) H
theorem zgx {X : Cx} (hc : X.calm = true) : CallR X (.builtin "sum") (rSum X.K) := by
 intro pins s σ H xs us Q I r h;obtain ⟨a,ns,rfl,hs,q⟩:=h;obtain ⟨u,rfl,ru⟩:=vals1 r;cases ru;have key:∀{its:List Value} (h':Heap) (tk:Nat) (t':Tok) (nn:Nat),nn=ns.length->(∀b o,b≠s.heap.objs.size->s.heap.get? b=some o->h'.get? b=some o) ->
   EP X pins σ Q (.int (preSum (fun i=>ns.getD i 0) nn) t') {s with heap:=h',toks:=tk}:=fun h' tk t' nn hn hk=>by
  subst hn;rw[zfr ns _ (xbg _),xfv];exact ⟨.int ns.sum,H,I.kept (t':=tk) fun b o e=>hk b o (xbt (xbk e)) e,⟨_,rfl⟩,q⟩
 refine call_sum_walkG ?_;rcases hs with hs | hs
 ·obtain ⟨its,rv,pl,hz⟩:=I.list hs;have hlt:a < s.heap.objs.size:=by obtain ⟨o,n,e,_⟩:=pl;exact xbk e
  have hl:=rv.length;rw[xbf] at hl;refine xiv pl.isList ?_;refine ⟨s.heap.objs.size,_,[s.heap.objs.size],_,_,_,fun i=>ns.getD i 0,rfl,Walks.list (A:=X.A.in1) (I.ok.hd hc) _ a (xbt hlt) its.toArray,⟨⟨_,xbz _ rfl,rfl,rfl⟩,pl.isList.push _⟩,?_,fun i v e=>zhs rv (by simpa using e),fun h' tk t' hk=>?_⟩
  ·intro b hb;show b < (s.heap.push _).objs.size;rw[show ∀o:Obj,(s.heap.push o).objs.size=s.heap.objs.size+1 from fun o=>by simp[Heap.push]];rcases xbn.mp hb with rfl | hb
   ·exact xjb _
   ·rcases xbn.mp hb with rfl | hb
    ·exact xit hlt
    ·cases hb
  ·exact key (its:=its) h' tk t' _ (by simp[hl]) fun b o hb e=>hk b o (by simpa using hb) (xbc _ e)
 ·obtain ⟨its,rv,pl,hz⟩:=I.tuple hs;have hlt:a < s.heap.objs.size:=pl.lt;have hl:=rv.length;rw[xbf] at hl;have pt:s.heap.IsTuple a its.toArray:=pl;refine xka pt ?_;refine ⟨s.heap.objs.size,_,[s.heap.objs.size],_,_,_,fun i=>ns.getD i 0,rfl,Walks.tuple (A:=X.A.in1) (I.ok.hd hc) _ a (xbt hlt) its.toArray,⟨⟨_,xbz _ rfl,rfl,rfl⟩,pt.push _⟩,?_,fun i v e=>zhs rv (by simpa using e),fun h' tk t' hk=>?_⟩
  ·intro b hb;show b < (s.heap.push _).objs.size;rw[show ∀o:Obj,(s.heap.push o).objs.size=s.heap.objs.size+1 from fun o=>by simp[Heap.push]];rcases xbn.mp hb with rfl | hb
   ·exact xjb _
   ·rcases xbn.mp hb with rfl | hb
    ·exact xit hlt
    ·cases hb
  ·exact key (its:=its) h' tk t' _ (by simp[hl]) fun b o hb e=>hk b o (by simpa using hb) (xbc _ e)
section
variable {X:Cx} {pins:List (Addr × Obj)} {σ:St} {H:Hp} {s:Shared} {h':Heap}
theorem Inv.turned2 {t':Nat} {e it:Addr} (I:Inv X pins σ H s) (k:∀b o,b≠e->b≠it->s.heap.get? b=some o->h'.get? b=some o) (hn:H it=none) (hL:it≠X.env.locals)
  (h1:it∈X.ex\/X.s₀.heap.objs.size<=it) (h2:∀x c,X.env.cells.lookup x=some c->c≠it) (h3:∀p∈X.pn++pins,p.1≠it) (gn:H e=none) (gL:e≠X.env.locals)
  (g1:e∈X.ex\/X.s₀.heap.objs.size<=e) (g2:∀x c,X.env.cells.lookup x=some c->c≠e) (g3:∀p∈X.pn++pins,p.1≠e):Inv X pins σ H {s with heap:=h',toks:=t'}:=by
 have nit:∀b u,H b=some u->b≠it:=fun b u e z=>by rw[z,hn] at e;cases e
 have nie:∀b u,H b=some u->b≠e:=fun b u q z=>by rw[z,gn] at q;cases q
 refine I.step (g':=s.gens) (d':=s.drawn) (ch:=[e,it]) (fun b hb=>?_) (fun b o _ _ hc e _=>k b o (fun z=>hc (by simp[z])) (fun z=>hc (by simp[z])) e) (fun b o _ _ hc e _=>⟨o.slots,k b o (fun z=>hc (by simp[z])) (fun z=>hc (by simp[z])) e⟩) (fun _ _ _ _ n=>n)
  (fun b o hc e=>⟨o,k b o (fun z=>hc (by simp[z])) (fun z=>hc (by simp[z])) e⟩) (fun _ _ e=>e) (fun _ _ _ e=>e) (fun b ps e=>⟨#[],by rw[e];simp⟩) (fun m hm=>?_) (fun b u e=>?_) I.bare
 ·rcases xbn.mp hb with z | z
  ·subst z;exact ⟨g1,gL,g2,g3⟩
  ·have z':b=it:=by simpa using z
   subst z';exact ⟨h1,hL,h2,h3⟩
 ·obtain ⟨o,es,ep,ho,r⟩:=hm;exact ⟨o,es,ep,k _ o (xeb gL) (xeb hL) ho,r⟩
 ·refine (I.hok b u e).stay (fun c v hc q=>k c v ?_ ?_ q) (fun _ q=>q) fun _ _ q=>q
  ·rcases hc with z | z
   ·rw[z];exact nie b u e
   ·exact nie c _ z
  ·rcases hc with z | z
   ·rw[z];exact nit b u e
   ·exact nit c _ z
end
section
variable {X:Cx}
end
noncomputable def bestI (gt:Bool) (n:Int) (ns:List Int):Int:=ns.foldl (fun i j=>if (if gt then decide (j > i) else decide (j < i))=true then j else i) n
theorem zol:∀(ns:List Int) (n:Int),bestI true n ns∈n::ns/\∀a∈n::ns,a<=bestI true n ns
 | [],n=>⟨by simp[bestI],by simp[bestI]⟩
 | m::ns,n=>by
  have e:bestI true n (m::ns)=bestI true (if m > n then m else n) ns:=by simp[bestI]
  obtain ⟨h1,h2⟩:=zol ns (if m > n then m else n);rw[e];refine ⟨?_,fun a ha=>?_⟩
  ·rcases xbn.mp h1 with z | z
   ·rw[z];split<;>simp
   ·simp[z]
  ·have h3:=h2 _ xce;rcases xbn.mp ha with rfl | ha
   ·refine Int.le_trans ?_ h3;split<;>lia
   ·rcases xbn.mp ha with rfl | ha
    ·refine Int.le_trans ?_ h3;split<;>lia
    ·exact h2 a (xci _ ha)
theorem zok {n:Int} {ns:List Int} {k:Nat} (hk:k=ns.length):(n::ns).getD (argBest (fun i j=>decide ((n::ns).getD i 0 > (n::ns).getD j 0)) k) 0=bestI true n ns:=by
 subst hk;obtain ⟨h1,h2⟩:=argBest_gt (fun i=>(n::ns).getD i 0) ns.length;obtain ⟨g1,g2⟩:=zol ns n;have hl:argBest (fun i j=>decide ((n::ns).getD i 0 > (n::ns).getD j 0)) ns.length < (n::ns).length:=by rw[xby];lia
 obtain ⟨j,hj,ej⟩:=xdv g1;have a1:=h2 j (by simp at hj;lia);have a2:=g2 ((n::ns).getD (argBest (fun i j=>decide ((n::ns).getD i 0 > (n::ns).getD j 0)) ns.length) 0) (by rw[xcl,xbe hl];exact xdk hl);have e:(n::ns).getD j 0=bestI true n ns:=by rw[xcl,xbe hj,ej];rfl
 rw[e] at a1;lia
noncomputable def rBest (K:Fg) (gt:Bool):List V->Hp->VK->Prop:=fun xs H Q=>∃(a:Addr) (n:Int) (ns:List Int),xs=[.ref a]/\(SqL K H a ((n::ns).map V.int)\/SqT K H a ((n::ns).map V.int))/\Q (.int (bestI gt n ns)) H
section
variable {X:Cx}
theorem zpa {pins:List (Addr × Obj)} {σ:St} {H:Hp} {s:Shared} {E:Value->Shared->Prop} {a:Addr} {ns:List Int} {R:Value->Shared->Prop} (hc:X.calm=true) (I:Inv X pins σ H s) (hs:SqL X.K H a (ns.map V.int)\/SqT X.K H a (ns.map V.int))
  (h:∀I' fp wr P St s2,Walks X.prog X.w X.A.in1 I' fp wr ns.length P St->St 0 s2.heap->(∀b∈fp,b < s2.heap.objs.size)->(∀i v,P i v->∃t,v=.int (ns.getD i 0) t) ->
   (∀h' tk,(∀b o,b∉wr->s2.heap.get? b=some o->h'.get? b=some o)->Inv X pins σ H {s2 with heap:=h',toks:=tk})->R (.ref I') s2) :
  wpAny (model X.prog X.w) X.A.in1 (pyIter (.ref a)) R E s:=by
 have key:∀(o:Obj) (h':Heap) (tk:Nat),(∀b u,b∉[s.heap.objs.size]->(s.heap.push o).get? b=some u->h'.get? b=some u)->Inv X pins σ H {s with heap:=h',toks:=tk}:=fun o h' tk hk =>
  I.kept (t':=tk) fun b u e=>hk b u (by simp;exact xbt (xbk e)) (xbc _ e)
 have low:∀(o:Obj),a < s.heap.objs.size->∀b∈[s.heap.objs.size,a],b < (s.heap.push o).objs.size:=fun o hlt b hb=>by
  rw[Heap.size_push];have hb':b=s.heap.objs.size\/b=a:=by simpa using hb
  rcases hb' with z | z
  ·rw[z];exact xjb _
  ·rw[z];exact xit hlt
 rcases hs with hs | hs
 ·obtain ⟨its,rv,pl,hz⟩:=I.list hs;have hlt:a < s.heap.objs.size:=by obtain ⟨o,n,e,_⟩:=pl;exact xbk e
  have hl:=rv.length;rw[xbf] at hl;have W:=Walks.list (prog:=X.prog) (w:=X.w) (A:=X.A.in1) (I.ok.hd hc) s.heap.objs.size a (xbt hlt) its.toArray;rw[show its.toArray.size=ns.length from by rw[xbm];exact hl.symm] at W;exact xiv pl.isList (h _ _ _ _ _ { s with heap := s.heap.push { cls := .type "list_iterator", data := .fields #[.ref a, .int 0 0] } } W ⟨⟨_, xbz _ rfl, rfl, rfl⟩, pl.isList.push _⟩ (low _ hlt) (fun i v e => zhs rv (by simpa using e)) fun h' tk hk => key _ h' tk hk)
 ·obtain ⟨its,rv,pl,hz⟩:=I.tuple hs;have hlt:a < s.heap.objs.size:=pl.lt;have hl:=rv.length;rw[xbf] at hl;have pt:s.heap.IsTuple a its.toArray:=pl;have W:=Walks.tuple (prog:=X.prog) (w:=X.w) (A:=X.A.in1) (I.ok.hd hc) s.heap.objs.size a (xbt hlt) its.toArray;rw[show its.toArray.size=ns.length from by rw[xbm];exact hl.symm] at W;exact xka pt (h _ _ _ _ _ { s with heap := s.heap.push { cls := .type "tuple_iterator", data := .fields #[.ref a, .int 0 0] } } W ⟨⟨_, xbz _ rfl, rfl, rfl⟩, pt.push _⟩ (low _ hlt) (fun i v e => zhs rv (by simpa using e)) fun h' tk hk => key _ h' tk hk)
theorem zro (hc : X.calm = true) : CallR X (.builtin "max") (rBest X.K true) := by
 intro pins s σ H xs us Q I r h;obtain ⟨a,n,ns,rfl,hs,q⟩:=h;obtain ⟨u,rfl,ru⟩:=vals1 r;cases ru;refine call_max_walk (zpa hc I hs fun I' fp wr P St s2 W st low val keep=>?_);refine ⟨I',fp,wr,_,P,St,_,rfl,W,st,low,by simp,CmpOf.ints_gt (fun i=>(n::ns).getD i 0) val,fun v h' tk hP hk=>?_⟩;obtain ⟨t,rfl⟩:=val _ _ hP;rw[zok (by simp)];exact ⟨.int (bestI true n ns),H,keep h' tk hk,⟨_,rfl⟩,q⟩
end
section
variable {prog:Program} {w:World} {A:Around} {E:Value->Shared->Prop} {s:Shared} {z TI TO i1 i2 t1 t2:Addr} {xs ys:Array Value} {j:Nat}
end
section
variable {prog:Program} {w:World} {A:Around} {E:Value->Shared->Prop} {s:Shared} {z TI TO i1 i2 t1 t2:Addr} {xs ys:Array Value} {j:Nat}
end
section
variable {prog:Program} {w:World} {A:Around} {E:Value->Shared->Prop} {s:Shared}
end
section
variable {X:Cx}
end
end L2
namespace Dd
open PySem L2
set_option genInjectivity true in
inductive D where
 | non | bl (b:Bool) | int (i:Int) | str (x:Str) | ty (n:String) | ref (n:Nat) | tup (ds:List D) | lst (ds:List D) | scr (ds:List D) | exn (c:Str) (l:List Int)
set_option genInjectivity true in
inductive O where
 /-- a list that may change;a dict by tuples of ints;one that is only read;gone -/
 | lst (xs:List D) | dT (kvs:List (List Int × D)) | fT (kvs:List (List Int × D)) | dead
 /-- the law's table of codes -/
 | tab
noncomputable abbrev Store:=List O
structure Exc where
 cls:Str
 at_:List Int
set_option genInjectivity true in
inductive Res (α:Type) where
 | ok (a:α) (st:Store) | exc (x:Exc) (st:Store) | stuck
noncomputable def Res.bind {α β:Type}:Res α->(α->Store->Res β)->Res β
 | .ok a st,f=>f a st
 | .exc x st,_=>.exc x st
 | .stuck,_=>.stuck
@[simp] theorem zdc {α β:Type} (a:α) (st:Store) (f:α->Store->Res β):(Res.ok a st).bind f=f a st:=rfl
@[simp] theorem zbfp {α β:Type} (x:Exc) (st:Store) (f:α->Store->Res β):(Res.exc x st:Res α).bind f=.exc x st:=rfl
@[simp] theorem zoj {α β:Type} (f:α->Store->Res β):(Res.stuck:Res α).bind f=.stuck:=rfl
theorem zb {α β:Type} {r:Res α} {f:α->Store->Res β} {b:β} {st':Store} (h:r.bind f=.ok b st'):∃a st,r=.ok a st/\f a st=.ok b st':=by
 cases r with
 | ok a st=>exact ⟨a,st,rfl,h⟩
 | exc x st=>cases h
 | stuck=>cases h
noncomputable abbrev DS:=List (Option D)
noncomputable abbrev SE:=DS->Store->Res D
noncomputable abbrev ST:=DS->Store->Res Bool
noncomputable abbrev SA:=DS->Store->Res (List D)
set_option genInjectivity true in
inductive Fl where
 | nx (σ:DS) | ret (v:D) | brk (σ:DS) | ct (σ:DS)
noncomputable abbrev SS:=DS->Store->Res Fl
noncomputable abbrev DFn:=List D->Store->Res D
structure Loc where
 m:List (Option Addr)
 g:List Addr
noncomputable def Out (ρ:Loc) (a:Addr):Prop:=some a∉ρ.m/\a∉ρ.g
noncomputable def Ls (K:Fg) (ρ:Loc) (H:Hp) (a:Addr) (vs:List V):Prop:=(Rd H a (.lst vs)/\Out ρ a)\/∀H':Hp,SqL K H' a vs
noncomputable def XAt (K:Fg) (ρ:Loc) (H:Hp) (c:Str) (l:List Int) (a:Addr):Prop:=∃C o,PySem.W.nsIn K mainGlobals c=some (some (.ref C))/\(H a=some (.frz o (.ext fun _=>True))/\Out ρ a)/\o.cls=.ref C/\(∃vs,o.data=.fields vs/\vs[2]?=some .none) /\
 ((l = [] /\ o.dict = none) \/ ∃ i dx od, l = [i] /\ o.dict = some dx /\ H dx = some (.frz od (.xd [("at", .int i)])) /\ Out ρ dx)
theorem XAt.map {K:Fg} {ρ ρ':Loc} {H H':Hp} {c:Str} {l:List Int} {a:Addr} (h:XAt K ρ H c l a) (f:∀b ob u,H b=some (.frz ob u)->Out ρ b->H' b=some (.frz ob u)/\Out ρ' b):XAt K ρ' H' c l a:=by
 obtain ⟨C,o,h1,h2,h3,h4,h5⟩:=h;refine ⟨C,o,h1,f _ _ _ h2.1 h2.2,h3,h4,?_⟩;rcases h5 with h5 | ⟨i,dx,od,h6,h7,h8,h9⟩
 ·exact .inl h5
 ·exact .inr ⟨i,dx,od,h6,h7,(f _ _ _ h8 h9).1,(f _ _ _ h8 h9).2⟩
mutual
inductive At (K:Fg) (ρ:Loc) (H:Hp):D->V->Prop
 | non:At K ρ H .non .non
 | bl (b:Bool):At K ρ H (.bl b) (.bl b)
 | int (i:Int):At K ρ H (.int i) (.int i)
 | str (x:Str):At K ρ H (.str x) (.str x)
 | ty (n:String):At K ρ H (.ty n) (.ty n)
 | ref {n:Nat} {v:V}:n < ρ.m.length->(∀a,ρ.m[n]?=some (some a)->v=.ref a)->At K ρ H (.ref n) v
 | tup {a:Addr} {ds:List D} {vs:List V}:H a=some (.tup vs)->Out ρ a->AtAll K ρ H ds vs->At K ρ H (.tup ds) (.ref a)
 | lst {a:Addr} {ds:List D} {vs:List V}:H a=some (.lst vs)->Out ρ a->AtAll K ρ H ds vs->At K ρ H (.lst ds) (.ref a)
 | scr {a:Addr} {ds:List D} {vs:List V}:Ls K ρ H a vs->AtAll K ρ H ds vs->At K ρ H (.scr ds) (.ref a)
 | exn {c:Str} {l:List Int} {a:Addr}:XAt K ρ H c l a->At K ρ H (.exn c l) (.ref a)
inductive AtAll (K:Fg) (ρ:Loc) (H:Hp):List D->List V->Prop
 | nil:AtAll K ρ H [] []
 | cons {d:D} {ds:List D} {v:V} {vs:List V}:At K ρ H d v->AtAll K ρ H ds vs->AtAll K ρ H (d::ds) (v::vs)
end
structure Mv (ρ:Loc) (H:Hp) (ρ':Loc) (H':Hp):Prop where
 out:∀{a:Addr} {o:HO},H a=some o->Out ρ a->H' a=some o/\Out ρ' a
 len:ρ.m.length<=ρ'.m.length
 old:∀(n:Nat) (a:Addr),n < ρ.m.length->ρ'.m[n]?=some (some a)->ρ.m[n]?=some (some a)
theorem Ls.mv {K:Fg} {ρ ρ':Loc} {H H':Hp} {a:Addr} {vs:List V} (x:Mv ρ H ρ' H') (h:Ls K ρ H a vs):Ls K ρ' H' a vs:=by
 rcases h with ⟨h | ⟨o,h⟩,n⟩ | h
 ·exact .inl ⟨.inl (x.out h n).1,(x.out h n).2⟩
 ·exact .inl ⟨.inr ⟨o,(x.out h n).1⟩,(x.out h n).2⟩
 ·exact .inr h
theorem At.mv {K:Fg} {ρ ρ':Loc} {H H':Hp} (x:Mv ρ H ρ' H') {d:D} {v:V} (h:At K ρ H d v):At K ρ' H' d v :=
 At.rec (motive_1:=fun d v _=>At K ρ' H' d v) (motive_2:=fun d v _=>AtAll K ρ' H' d v) .non .bl .int .str .ty (fun h e=>.ref (xbh h x.len) fun a q=>e a (x.old _ a h q)) (fun h n _ ih=>.tup (x.out h n).1 (x.out h n).2 ih) (fun h n _ ih=>.lst (x.out h n).1 (x.out h n).2 ih) (fun h _ ih=>.scr (h.mv x) ih) (fun h=>.exn (h.map fun _ _ _ e n=>x.out e n)) .nil (fun _ _ a b=>.cons a b) h
theorem AtAll.mv {K:Fg} {ρ ρ':Loc} {H H':Hp} (x:Mv ρ H ρ' H') {d:List D} {v:List V} (h:AtAll K ρ H d v):AtAll K ρ' H' d v :=
 AtAll.rec (motive_1:=fun _ _ _=>True) (motive_2:=fun d v _=>AtAll K ρ' H' d v) trivial (fun _=>trivial) (fun _=>trivial) (fun _=>trivial) (fun _=>trivial) (fun _ _=>trivial) (fun _ _ _ _=>trivial) (fun _ _ _ _=>trivial) (fun _ _ _=>trivial) (fun _=>trivial) .nil (fun a _ _ b=>.cons (a.mv x) b) h
structure Ext (ρ:Loc) (H:Hp) (ρ':Loc) (H':Hp):Prop where
 len:ρ.m.length<=ρ'.m.length
 old:∀(n:Nat) (a:Addr),n < ρ.m.length->ρ'.m[n]?=some (some a)->ρ.m[n]?=some (some a)
 keep:∀a o,H a=some o->some a∉ρ.m->H' a=some o/\some a∉ρ'.m
 gho:ρ'.g=ρ.g
 frz:∀a ob u,H a=some (.frz ob u)->H' a=some (.frz ob u)
theorem Ext.out {ρ ρ':Loc} {H H':Hp} (x:Ext ρ H ρ' H') {a:Addr} {o:HO} (h:H a=some o) (n:Out ρ a):H' a=some o/\Out ρ' a :=
 ⟨(x.keep a o h n.1).1,(x.keep a o h n.1).2,by rw[x.gho];exact n.2⟩
theorem Ext.mv {ρ ρ':Loc} {H H':Hp} (x:Ext ρ H ρ' H'):Mv ρ H ρ' H':=⟨fun h n=>x.out h n,x.len,x.old⟩
theorem Ls.sq {K:Fg} {ρ:Loc} {H:Hp} {a:Addr} {vs:List V} (h:Ls K ρ H a vs):SqL K H a vs:=by
 rcases h with h | h
 ·exact .inl h.1
 ·exact h H
section
variable {K:Fg}
theorem Ext.refl (ρ:Loc) (H:Hp):Ext ρ H ρ H:=⟨xbg _,fun _ _ _ e=>e,fun _ _ e n=>⟨e,n⟩,rfl,fun _ _ _ e=>e⟩
theorem Ext.trans {ρ ρ1 ρ2:Loc} {H H1 H2:Hp} (a:Ext ρ H ρ1 H1) (b:Ext ρ1 H1 ρ2 H2):Ext ρ H ρ2 H2 :=
 ⟨xbb a.len b.len,fun n c h e=>a.old n c h (b.old n c (xbh h a.len) e),fun c o e n=>by
  obtain ⟨e1,n1⟩:=a.keep c o e n
  exact b.keep c o e1 n1,b.gho.trans a.gho,fun c ob u e=>b.frz c ob u (a.frz c ob u e)⟩
theorem At.ext {ρ ρ':Loc} {H H':Hp} (x:Ext ρ H ρ' H') {d:D} {v:V} (h:At K ρ H d v):At K ρ' H' d v:=h.mv x.mv
theorem AtAll.ext {ρ ρ':Loc} {H H':Hp} (x:Ext ρ H ρ' H') {d:List D} {v:List V} (h:AtAll K ρ H d v):AtAll K ρ' H' d v:=h.mv x.mv
theorem AtAll.length {ρ:Loc} {H:Hp}:∀{ds:List D} {vs:List V},AtAll K ρ H ds vs->vs.length=ds.length
 | _,_,.nil=>rfl
 | _,_,.cons _ t=>by rw[xby,xby,AtAll.length t]
theorem AtAll.get {ρ:Loc} {H:Hp}:∀{ds:List D} {vs:List V} {i:Nat} {d:D},AtAll K ρ H ds vs->ds[i]?=some d->∃v,vs[i]?=some v/\At K ρ H d v
 | _,_,_,_,.nil,e=>by simp at e
 | _,_,0,_,.cons a _,e=>by simp at e;subst e;exact ⟨_,rfl,a⟩
 | _,_,i+1,d,.cons _ t,e=>by
  obtain ⟨u,h1,h2⟩:=AtAll.get (i:=i) (d:=d) t (by simpa using e);exact ⟨u,by simpa using h1,h2⟩
theorem AtAll.append {ρ:Loc} {H:Hp}:∀{ds es:List D} {vs us:List V},AtAll K ρ H ds vs->AtAll K ρ H es us->AtAll K ρ H (ds++es) (vs++us)
 | _,_,_,_,.nil,b=>b
 | _,_,_,_,.cons a t,b=>.cons a (AtAll.append t b)
theorem AtAll.take {ρ:Loc} {H:Hp}:∀{ds:List D} {vs:List V} (n:Nat),AtAll K ρ H ds vs->AtAll K ρ H (ds.take n) (vs.take n)
 | _,_,0,_=>.nil
 | _,_,_+1,.nil=>.nil
 | _,_,n+1,.cons a t=>.cons a (AtAll.take n t)
theorem AtAll.drop {ρ:Loc} {H:Hp}:∀{ds:List D} {vs:List V} (n:Nat),AtAll K ρ H ds vs->AtAll K ρ H (ds.drop n) (vs.drop n)
 | _,_,0,h=>h
 | _,_,_+1,.nil=>.nil
 | _,_,n+1,.cons a t=>AtAll.drop n t
theorem AtAll.set {ρ:Loc} {H:Hp} {d:D} {v:V} (a:At K ρ H d v):∀{ds:List D} {vs:List V} (n:Nat),AtAll K ρ H ds vs->AtAll K ρ H (ds.set n d) (vs.set n v)
 | _,_,_,.nil=>.nil
 | _,_,0,.cons _ t=>.cons a t
 | _,_,n+1,.cons b t=>.cons b (AtAll.set a n t)
noncomputable def KvAt (K:Fg) (ρ:Loc) (H:Hp):List (List Int × D)->List (List Key × V)->Prop:=Paired fun p q=>q.1=p.1.map Sum.inl/\At K ρ H p.2 q.2
theorem KvAt.ext {ρ ρ':Loc} {H H':Hp} (x:Ext ρ H ρ' H') {a:List (List Int × D)} {b:List (List Key × V)} (h:KvAt K ρ H a b):KvAt K ρ' H' a b:=Paired.mapP h fun p q z=>⟨z.1,z.2.ext x⟩
noncomputable abbrev lamQ : Str := (("law" : Str) ++ ".<locals>.") ++ "<lambda>"
noncomputable def TabOk (H:Hp) (ps:Array Value):Prop:=TriplesOk ps.toList/\∀pos cv,codeAmong pos ps.toList=some cv->∃c oc vs t,cv=.ref c/\H c=some (.frz oc (.ext fun _=>True))/\oc.data=.fields vs/\vs[1]?=some (.str lamQ t)
theorem TabOk.map {H H':Hp} {ps:Array Value} (h:TabOk H ps) (f:∀b ob u,H b=some (.frz ob u)->H' b=some (.frz ob u)):TabOk H' ps :=
 ⟨h.1,fun pos cv e=>by obtain ⟨c,oc,vs,t,e1,e2,e3⟩:=h.2 pos cv e;exact ⟨c,oc,vs,t,e1,f _ _ _ e2,e3⟩⟩
noncomputable def OAt (K:Fg) (ρ:Loc) (H:Hp):O->Addr->Prop
 | .lst xs,a=>∃vs,H a=some (.lst vs)/\AtAll K ρ H xs vs
 | .dT kvs,a=>∃vs,H a=some (.dT vs)/\KvAt K ρ H kvs vs
 | .fT kvs,a=>∃vs ob,H a=some (.frz ob (.dT vs))/\KvAt K ρ H kvs vs
 | .dead,_=>False
 | .tab, a => (∃ c, PySem.W.tabIn K "law" = some (c, a)) /\ ∃ ps, H a = some (.tbl ps) /\ TabOk H ps
structure Rep (K:Fg) (ρ:Loc) (st:Store) (H:Hp):Prop where
 len:ρ.m.length=st.length
 inj:∀(n m:Nat) (a:Addr),ρ.m[n]?=some (some a)->ρ.m[m]?=some (some a)->n=m
 obj:∀(n:Nat) (a:Addr) (o:O),ρ.m[n]?=some (some a)->st[n]?=some o->OAt K ρ H o a
 gh:∀a∈ρ.g,(∃vs,H a=some (.lst vs))/\some a∉ρ.m
 live:∀(n:Nat) (o:O),st[n]?=some o->o≠.dead->∃a,ρ.m[n]?=some (some a)
noncomputable def AtO (K:Fg) (ρ:Loc) (H:Hp) (o:Option D) (v:Option V):Prop:=∀d,o=some d->∃u,v=some u/\At K ρ H d u
noncomputable abbrev AtS (K:Fg) (ρ:Loc) (H:Hp):DS->St->Prop:=Paired (AtO K ρ H)
theorem AtS.ext {ρ ρ':Loc} {H H':Hp} (x:Ext ρ H ρ' H') {σ:DS} {τ:St} (h:AtS K ρ H σ τ):AtS K ρ' H' σ τ:=Paired.mapP h fun o v z d e=>by
 obtain ⟨u,e1,a⟩:=z d e;exact ⟨u,e1,a.ext x⟩
theorem AtS.get {ρ:Loc} {H:Hp}:∀{σ:DS} {τ:St} {i:Nat} {d:D},AtS K ρ H σ τ->σ[i]?=some (some d)->∃u,τ[i]?=some (some u)/\At K ρ H d u
 | _,_,_,_,.nil,e=>by simp at e
 | _,_,0,_,.cons a _,e=>by
  simp at e;subst e
  obtain ⟨u,e1,h⟩:=a _ rfl;exact ⟨u,by simp[e1],h⟩
 | _,_,i+1,d,.cons _ t,e=>by
  obtain ⟨u,h1,h2⟩:=AtS.get (i:=i) (d:=d) t (by simpa using e);exact ⟨u,by simpa using h1,h2⟩
theorem AtS.set {ρ:Loc} {H:Hp} {d:D} {v:V} (a:At K ρ H d v):∀{σ:DS} {τ:St} (i:Nat),AtS K ρ H σ τ->AtS K ρ H (σ.set i (some d)) (τ.set i (some v))
 | _,_,_,.nil=>.nil
 | _,_,0,.cons _ t=>.cons (fun d' e=>by cases e;exact ⟨v,rfl,a⟩) t
 | _,_,i+1,.cons q t=>.cons q (AtS.set a i t)
end
noncomputable def tD (K:Fg) (f:SE):TE:=fun τ H Q=>∃ρ σ st v st',AtS K ρ H σ τ/\Rep K ρ st H/\f σ st=.ok v st'/\∀ρ' H' u,Ext ρ H ρ' H'->Rep K ρ' st' H'->At K ρ' H' v u->Q u H'
noncomputable def tDT (K:Fg) (f:ST):TT:=fun τ H Q=>∃ρ σ st v st',AtS K ρ H σ τ/\Rep K ρ st H/\f σ st=.ok v st'/\∀ρ' H',Ext ρ H ρ' H'->Rep K ρ' st' H'->Q v H'
noncomputable def tDA (K:Fg) (f:SA):TA:=fun τ H Q=>∃ρ σ st v st',AtS K ρ H σ τ/\Rep K ρ st H/\f σ st=.ok v st'/\∀ρ' H' u,Ext ρ H ρ' H'->Rep K ρ' st' H'->AtAll K ρ' H' v u->Q u H'
noncomputable def FlOk (K:Fg) (ρ:Loc) (H:Hp) (st':Store) (E:Ends):Fl->Prop
 | .nx σ=>∀ρ' H' τ,Ext ρ H ρ' H'->Rep K ρ' st' H'->AtS K ρ' H' σ τ->E.nx τ H'
 | .brk σ=>∀ρ' H' τ,Ext ρ H ρ' H'->Rep K ρ' st' H'->AtS K ρ' H' σ τ->E.bk τ H'
 | .ct σ=>∀ρ' H' τ,Ext ρ H ρ' H'->Rep K ρ' st' H'->AtS K ρ' H' σ τ->E.ct τ H'
 | .ret v=>∀ρ' H' u,Ext ρ H ρ' H'->Rep K ρ' st' H'->At K ρ' H' v u->E.rt u H'
theorem FlOk.ext {K:Fg} {ρ ρ1:Loc} {H H1:Hp} {st':Store} {E:Ends} {fl:Fl} (x:Ext ρ H ρ1 H1) (h:FlOk K ρ H st' E fl):FlOk K ρ1 H1 st' E fl:=by
 cases fl with
 | nx σ=>exact fun ρ' H' τ e=>h ρ' H' τ (x.trans e)
 | brk σ=>exact fun ρ' H' τ e=>h ρ' H' τ (x.trans e)
 | ct σ=>exact fun ρ' H' τ e=>h ρ' H' τ (x.trans e)
 | ret v=>exact fun ρ' H' τ e=>h ρ' H' τ (x.trans e)
noncomputable def tDS (K:Fg) (f:SS):TS:=fun E τ H=>∃ρ σ st fl st',AtS K ρ H σ τ/\Rep K ρ st H/\f σ st=.ok fl st'/\FlOk K ρ H st' E fl
noncomputable abbrev DE (X:Cx) (e:Expr) (f:SE):Prop:=PE X e (tD X.K f)
noncomputable abbrev DT (X:Cx) (e:Expr) (f:ST):Prop:=PT X e (tDT X.K f)
noncomputable abbrev DW (X:Cx) (e:Expr) (f:ST):Prop:=PW X e (tDT X.K f)
noncomputable abbrev DA (X:Cx) (es:List Expr) (f:SA):Prop:=PA X es (tDA X.K f)
noncomputable abbrev DSt (X:Cx) (s:Stmt) (f:SS):Prop:=PS X s (tDS X.K f)
noncomputable abbrev DSs (X:Cx) (s:List Stmt) (f:SS):Prop:=PSs X s (tDS X.K f)
section
variable {X:Cx} {e:Expr} {es:List Expr} {s:Stmt} {ss:List Stmt}
theorem zed {t t':TE} (h:PE X e t) (k:∀σ H Q,t' σ H Q->t σ H Q):PE X e t':=fun pins s σ H Q I q=>h pins s σ H Q I (k _ _ _ q)
theorem zbbp {t t':TT} (h:PT X e t) (k:∀σ H Q,t' σ H Q->t σ H Q):PT X e t':=fun pins s σ H Q I q=>h pins s σ H Q I (k _ _ _ q)
theorem pw_to {t t':TT} (h:PW X e t) (k:∀σ H Q,t' σ H Q->t σ H Q):PW X e t':=fun wh pins s σ H Q I q=>h wh pins s σ H Q I (k _ _ _ q)
theorem zbgm {t t':TA} (h:PA X es t) (k:∀σ H Q,t' σ H Q->t σ H Q):PA X es t':=fun pos pins s σ H Q I q=>h pos pins s σ H Q I (k _ _ _ q)
theorem zif {t t':TS} (h:PS X s t) (k:∀E σ H,t' E σ H->t E σ H):PS X s t':=fun pins z σ H E I q=>h pins z σ H E I (k _ _ _ q)
theorem zps {t t':TS} (h:PSs X ss t) (k:∀E σ H,t' E σ H->t E σ H):PSs X ss t':=fun pins z σ H E I q=>h pins z σ H E I (k _ _ _ q)
end
noncomputable def eVar (i:Nat):SE:=fun σ st=>match σ[i]? with
 | some (some d)=>.ok d st
 | _=>.stuck
noncomputable def eC (d:D):SE:=fun _ st=>.ok d st
section
variable {X:Cx}
theorem zbii {e:Expr} {i:Nat} (h:PE X e (tVar i)):DE X e (eVar i):=zed h fun τ H Q hq0=>by
 obtain ⟨ρ,σ,st,v,st',a,r,e,q⟩:=hq0;unfold eVar at e;split at e
 ·rename_i d hd;cases e;obtain ⟨u,e1,e2⟩:=a.get hd;exact ⟨u,e1,q ρ H u (.refl _ _) r e2⟩
 ·cases e
theorem zbar {e:Expr} {v:V} {d:D} (h:PE X e (tC v)) (k:∀ρ H,At X.K ρ H d v):DE X e (eC d):=zed h fun τ H Q hq0=>by
 obtain ⟨ρ,σ,st,v,st',a,r,e,q⟩:=hq0;cases e;exact q ρ H _ (.refl _ _) r (k _ _)
theorem zbiq {i j pos}:DE X (.Constant (.int i) j pos) (eC (.int i)):=zbar zbcz fun _ _=>.int i
theorem d_bl {b j pos}:DE X (.Constant (.bool b) j pos) (eC (.bl b)):=zbar zbhn fun _ _=>.bl b
theorem zbin {j pos}:DE X (.Constant .none j pos) (eC .non):=zbar zbcy fun _ _=>.non
theorem zbik {x j pos}:DE X (.Constant (.str x) j pos) (eC (.str x)):=zbar zbcv fun _ _=>.str x
end
noncomputable def eOp (g:D->D->Store->Res D) (f f':SE):SE:=fun σ st=>(f σ st).bind fun x st1=>(f' σ st1).bind fun y st2=>g x y st2
noncomputable def eUn (g:D->Store->Res D) (f:SE):SE:=fun σ st=>(f σ st).bind fun x st1=>g x st1
noncomputable def OpD (K:Fg) (g:D->D->Store->Res D) (r:R2):Prop :=
 ∀ρ H st x y u v z st' (Q:VK),Rep K ρ st H->At K ρ H x u->At K ρ H y v->g x y st=.ok z st'->(∀ρ' H' w,Ext ρ H ρ' H'->Rep K ρ' st' H'->At K ρ' H' z w->Q w H')->r u v H Q
theorem zbbq {K:Fg} {g:D->D->Store->Res D} {r:R2} (hr:OpD K g r) {f f':SE}:∀τ H Q,tD K (eOp g f f') τ H Q->tOp r (tD K f) (tD K f') τ H Q:=fun τ H Q hq0=>by
 obtain ⟨ρ,σ,st,v,st',a,rp,e,q⟩:=hq0;obtain ⟨x,st1,e1,e⟩:=zb e;obtain ⟨y,st2,e2,e⟩:=zb e;refine ⟨ρ,σ,st,x,st1,a,rp,e1,fun ρ1 H1 u x1 rp1 a1=>?_⟩;refine ⟨ρ1,σ,st1,y,st2,a.ext x1,rp1,e2,fun ρ2 H2 w x2 rp2 a2=>?_⟩;exact hr ρ2 H2 st2 x y u w v st' Q rp2 (a1.ext x2) a2 e fun ρ' H' z x3 rp3 a3=>q ρ' H' z (x1.trans (x2.trans x3)) rp3 a3
section
variable {X:Cx} {a b c:Expr} {f f' f'':SE} {pos:Pos}
theorem d_op {op:Operator} {r:R2} {g:D->D->Store->Res D} (ho:OpR X (binaryOp op) r) (hr:OpD X.K g r) (ha:DE X a f) (hb:DE X b f'):DE X (.BinOp a op b pos) (eOp g f f'):=zed (zbhk ho ha hb) (zbbq hr)
theorem zbir {op:CmpOp} {r:R2} {g:D->D->Store->Res D} (ho:OpR X (compareOp op) r) (hr:OpD X.K g r) (ha:DE X a f) (hb:DE X b f') (hm:behindInMarks op b=false):DE X (.Compare a [op] [b] pos) (eOp g f f'):=zed (zyg ho ha hb hm) (zbbq hr)
noncomputable def eB (f:SE):ST:=fun σ st=>(f σ st).bind fun v st1=>match v with
 | .bl b=>.ok b st1
 | _=>.stuck
theorem eB_t {K:Fg} {f:SE}:∀τ H Q,tDT K (eB f) τ H Q->tD K f τ H fun x H1=>∃c,x=.bl c/\Q c H1:=fun τ H Q hq0=>by
 obtain ⟨ρ,σ,st,v,st',a,rp,e,q⟩:=hq0;obtain ⟨x,st1,e1,e⟩:=zb e;refine ⟨ρ,σ,st,x,st1,a,rp,e1,fun ρ1 H1 u x1 rp1 a1=>?_⟩;cases x<;>try (cases e;done)
 cases e;cases a1;exact ⟨_,rfl,q _ _ x1 rp1⟩
theorem zbeq {op:CmpOp} {r:R2} {g:D->D->Store->Res D} (ho:OpR X (compareOp op) r) (hr:OpD X.K g r) (ha:DE X a f) (hb:DE X b f') (hm:behindInMarks op b=false):DT X (.Compare a [op] [b] pos) (eB (eOp g f f')) :=
 zbbp (zxn ho ha hb hm) fun τ H Q h=>zbbq hr _ _ _ (eB_t _ _ _ h)
noncomputable def eChain (g g':D->D->Store->Res D) (f f' f'':SE):SE:=fun σ st=>(f σ st).bind fun x st1=>(f' σ st1).bind fun y st2=>(g x y st2).bind fun z st3=>match z with
 | .bl true=>(f'' σ st3).bind fun w st4=>g' y w st4
 | .bl false=>.ok (.bl false) st3
 | _=>.stuck
end
end Dd
namespace Dd
open PySem L2
section
variable {K:Fg} {ρ:Loc} {st:Store} {H:Hp} {p a:Addr} {o:HO} {n:Nat}
theorem Ext.new (hp:H p=none) (o:HO):Ext ρ H ρ (upd H p o):=⟨xbg _,fun _ _ _ e=>e,fun b u e m=>⟨by rw[zj (zh e hp)];exact e,m⟩,rfl,fun b ob u e=>by rw[zj (zh e hp)];exact e⟩
theorem zdx {vs:List V} (h:H a=some (.lst vs)):∀ob u,H a≠some (.frz ob u):=fun ob u z=>by rw[h] at z;cases z
theorem zfv {vs:List (List Key × V)} (h:H a=some (.dT vs)):∀ob u,H a≠some (.frz ob u):=fun ob u z=>by rw[h] at z;cases z
theorem Ext.wr (h:ρ.m[n]?=some (some a)) (hz:∀ob u,H a≠some (.frz ob u)) (o:HO):Ext ρ H ρ (upd H a o):=⟨xbg _,fun _ _ _ e=>e,fun b u e m=>⟨by
 rw[zj]
 ·exact e
 ·rintro rfl
  exact m (xch h),m⟩,rfl,fun b ob u e=>by
 rw[zj]
 ·exact e
 ·rintro rfl
  exact hz _ _ e⟩
theorem OAt.has {x:O} (h:OAt K ρ H x a):∃u,H a=some u:=by
 cases x with
 | lst xs=>obtain ⟨vs,e,_⟩:=h;exact ⟨_,e⟩
 | dT kvs=>obtain ⟨vs,e,_⟩:=h;exact ⟨_,e⟩
 | fT kvs=>obtain ⟨vs,ob,e,_⟩:=h;exact ⟨_,e⟩
 | dead=>exact h.elim
 | tab=>obtain ⟨_,ps,e,_⟩:=h;exact ⟨_,e⟩
theorem OAt.ext {ρ':Loc} {H':Hp} {x:O} (e:Ext ρ H ρ' H') (same:H' a=H a) (h:OAt K ρ H x a):OAt K ρ' H' x a:=by
 cases x with
 | lst xs=>obtain ⟨vs,q,r⟩:=h;exact ⟨vs,by rw[same];exact q,r.ext e⟩
 | dT kvs=>obtain ⟨vs,q,r⟩:=h;exact ⟨vs,by rw[same];exact q,r.ext e⟩
 | fT kvs=>obtain ⟨vs,ob,q,r⟩:=h;exact ⟨vs,ob,by rw[same];exact q,r.ext e⟩
 | dead=>exact h.elim
 | tab=>obtain ⟨c,ps,q,r⟩:=h;exact ⟨c,ps,by rw[same];exact q,r.map e.frz⟩
theorem Rep.has (r:Rep K ρ st H) (h:ρ.m[n]?=some (some a)):∃x,st[n]?=some x/\OAt K ρ H x a:=by
 have hn:n < st.length:=by rw[← r.len];exact (xbo.mp h).1
 exact ⟨st[n],xbe hn,r.obj n a _ h (xbe hn)⟩
theorem Rep.new (r:Rep K ρ st H) (hp:H p=none) (o:HO):Rep K ρ st (upd H p o):=⟨r.len,r.inj,fun m b x e1 e2=>by
 have q:=r.obj m b x e1 e2;obtain ⟨u,hu⟩:=q.has;exact q.ext (Ext.new hp o) (zj (zh hu hp)),fun b hb=>by
 obtain ⟨⟨u,hu⟩,n⟩:=r.gh b hb
 exact ⟨⟨u,by rw[zj (zh hu hp)];exact hu⟩,n⟩,r.live⟩
theorem Rep.wr (r:Rep K ρ st H) (h:ρ.m[n]?=some (some a)) (hz:∀ob u,H a≠some (.frz ob u)) {x:O} {o:HO} (q:OAt K ρ (upd H a o) x a):Rep K ρ (st.set n x) (upd H a o):=⟨by rw[r.len,xfh],r.inj,fun m b y e1 e2=>by
 by_cases hm:m=n
 ·subst hm;have hb:b=a:=by rw[h] at e1;exact (xbw (xbw e1)).symm
  subst hb;have hl:m < st.length:=by rw[← r.len];exact (xbo.mp h).1
  rw[xdl hl] at e2;cases e2;exact q
 ·rw[xcm (xeb hm)] at e2;refine (r.obj m b y e1 e2).ext (Ext.wr h hz o) (zj fun z=>hm ?_);subst z;exact r.inj m n b e1 h,fun b hb=>by
 obtain ⟨⟨u,hu⟩,n1⟩:=r.gh b hb;refine ⟨⟨u,?_⟩,n1⟩;rw[zj]
 ·exact hu
 ·rintro rfl;exact n1 (xch h),fun m y e ne=>by
 by_cases hm:m=n
 ·subst hm;exact ⟨a,h⟩
 ·rw[xcm (xeb hm)] at e
  exact r.live m y e ne⟩
theorem Rep.alloc (r:Rep K ρ st H) (hp:H p=none) {x:O} {o:HO} (q:Ext ρ H ⟨ρ.m++[some p],ρ.g⟩ (upd H p o)->OAt K ⟨ρ.m++[some p],ρ.g⟩ (upd H p o) x p):Ext ρ H ⟨ρ.m++[some p],ρ.g⟩ (upd H p o)/\Rep K ⟨ρ.m++[some p],ρ.g⟩ (st++[x]) (upd H p o):=by
 have hn:∀(m:Nat) (b:Addr),(ρ.m++[some p])[m]?=some (some b)->(m < ρ.m.length/\ρ.m[m]?=some (some b))\/(m=ρ.m.length/\b=p):=fun m b e=>by
  rcases xex m ρ.m.length with z | z
  ·rw[xbx z] at e;exact .inl ⟨z,e⟩
  ·rw[xcw z] at e;have z2:m - ρ.m.length=0:=by
    have:=(xbo.mp e).1;simp at this;lia
   rw[z2] at e;simp at e;exact .inr ⟨by lia,e.symm⟩
 have nl:∀(m:Nat),ρ.m[m]?≠some (some p):=fun m e=>by
  obtain ⟨x,_,q⟩:=r.has e;obtain ⟨u,hu⟩:=q.has;rw[hp] at hu;cases hu
 have E:Ext ρ H ⟨ρ.m++[some p],ρ.g⟩ (upd H p o):=⟨by rw[xcb];lia,fun m b h e=>by
   rw[xbx h] at e;exact e,fun b u e m=>⟨by rw[zj (zh e hp)];exact e,fun z=>by
   rcases xcc.mp z with z | z
   ·exact m z
   ·simp at z;subst z;rw[hp] at e;cases e⟩,rfl,fun b ob u e=>by rw[zj (zh e hp)];exact e⟩
 refine ⟨E,⟨by rw[xcb,xcb,r.len];rfl,fun m k b e1 e2=>?_,fun m b y e1 e2=>?_,fun b hb=>?_,fun m y e ne=>?_⟩⟩
 ·rcases hn m b e1 with ⟨h1,q1⟩ | ⟨h1,rfl⟩
  ·rcases hn k b e2 with ⟨h2,q2⟩ | ⟨h2,rfl⟩
   ·exact r.inj m k b q1 q2
   ·exact absurd q1 (nl m)
  ·rcases hn k b e2 with ⟨h2,q2⟩ | ⟨h2,_⟩
   ·exact absurd q2 (nl k)
   ·lia
 ·rcases hn m b e1 with ⟨h1,q1⟩ | ⟨h1,rfl⟩
  ·rw[xbx (by rw[← r.len];exact h1)] at e2;have q:=r.obj m b y q1 e2;obtain ⟨u,hu⟩:=q.has;exact q.ext E (zj (zh hu hp))
  ·rw[h1,r.len,xcw (xbg _)] at e2;simp at e2;subst e2;exact q E
 ·obtain ⟨⟨u,hu⟩,n1⟩:=r.gh b hb;refine ⟨⟨u,by rw[zj (zh hu hp)];exact hu⟩,fun z=>?_⟩;rcases xcc.mp z with z | z
  ·exact n1 z
  ·simp at z;subst z;rw[hp] at hu;cases hu
 ·rcases xex m st.length with z | z
  ·rw[xbx z] at e;obtain ⟨b,hb⟩:=r.live m y e ne;exact ⟨b,by rw[xbx (by rw[r.len];exact z)];exact hb⟩
  ·have z2:=(xbo.mp e).1;simp at z2;have z3:m=ρ.m.length:=by rw[r.len];lia
   exact ⟨p,by rw[z3,xcw (xbg _)];simp⟩
theorem Rep.kill (r:Rep K ρ st H) (h:n < ρ.m.length):Ext ρ H ⟨ρ.m.set n none,ρ.g⟩ H/\Rep K ⟨ρ.m.set n none,ρ.g⟩ (st.set n .dead) H:=by
 have hn:∀(m:Nat) (b:Addr),(ρ.m.set n none)[m]?=some (some b)->m≠n/\ρ.m[m]?=some (some b):=fun m b e=>by
  by_cases z:m=n
  ·subst z;rw[xdl h] at e;simp at e
  ·rw[xcm (xeb z)] at e;exact ⟨z,e⟩
 have E:Ext ρ H ⟨ρ.m.set n none,ρ.g⟩ H:=⟨by rw[xfh];exact xbg _,fun m b _ e=>(hn m b e).2,fun b o e m=>⟨e,fun z=>by
  obtain ⟨i,hi,e2⟩:=xdv z;have:(ρ.m.set n none)[i]?=some (some b):=by rw[xbe hi,e2]
  exact m (xch (hn i b this).2)⟩,rfl,fun _ _ _ e=>e⟩
 refine ⟨E,⟨by rw[xfh,xfh,r.len],fun m k b e1 e2=>r.inj m k b (hn m b e1).2 (hn k b e2).2,fun m b y e1 e2=>?_,fun b hb=>⟨(r.gh b hb).1,fun z=>?_⟩,fun m y e ne=>?_⟩⟩
 rotate_left
 ·obtain ⟨i,hi,e2⟩:=xdv z;have:(ρ.m.set n none)[i]?=some (some b):=by rw[xbe hi,e2]
  exact (r.gh b hb).2 (xch (hn i b this).2)
 ·have z:m≠n:=by
   rintro rfl;rw[xdl (by rw[← r.len];exact h)] at e;cases e;exact ne rfl
  rw[xcm (xeb z)] at e;obtain ⟨b,hb⟩:=r.live m y e ne;exact ⟨b,by rw[xcm (xeb z)];exact hb⟩
 obtain ⟨z,q⟩:=hn m b e1;rw[xcm (xeb z)] at e2;exact (r.obj m b y q e2).ext E rfl
theorem zdj (r:Rep K ρ st H) (hp:H p=none):Out ρ p:=by
 refine ⟨fun z=>?_,fun z=>?_⟩
 ·obtain ⟨i,hi,e⟩:=xdv z;obtain ⟨x,_,q⟩:=r.has (n:=i) (a:=p) (by rw[xbe hi,e]);obtain ⟨u,hu⟩:=q.has;rw[hp] at hu;cases hu
 ·obtain ⟨⟨u,hu⟩,_⟩:=r.gh p z;rw[hp] at hu;cases hu
theorem At.newT (r:Rep K ρ st H) (hp:H p=none) {ds:List D} {vs:List V} (h:AtAll K ρ H ds vs):At K ρ (upd H p (.tup vs)) (.tup ds) (.ref p):=.tup zf (zdj r hp) (h.ext (Ext.new hp _))
theorem At.newL (r:Rep K ρ st H) (hp:H p=none) {ds:List D} {vs:List V} (h:AtAll K ρ H ds vs):At K ρ (upd H p (.lst vs)) (.lst ds) (.ref p):=.lst zf (zdj r hp) (h.ext (Ext.new hp _))
end
noncomputable def eAnd (f f':SE):SE:=fun σ st=>(f σ st).bind fun v st1=>match v with
 | .bl true=>f' σ st1
 | .bl false=>.ok (.bl false) st1
 | _=>.stuck
noncomputable def eOr (f f':SE):SE:=fun σ st=>(f σ st).bind fun v st1=>match v with
 | .bl true=>.ok (.bl true) st1
 | .bl false=>f' σ st1
 | _=>.stuck
noncomputable def eNot (f:SE):SE:=fun σ st=>(f σ st).bind fun v st1=>match v with
 | .bl b=>.ok (.bl (!b)) st1
 | _=>.stuck
noncomputable def bAnd (f f':ST):ST:=fun σ st=>(f σ st).bind fun b st1=>if b=true then f' σ st1 else .ok false st1
noncomputable def bOr (f f':ST):ST:=fun σ st=>(f σ st).bind fun b st1=>if b=true then .ok true st1 else f' σ st1
noncomputable def bNot (f:ST):ST:=fun σ st=>(f σ st).bind fun b st1=>.ok (!b) st1
noncomputable def eIf (c:ST) (f f':SE):SE:=fun σ st=>(c σ st).bind fun b st1=>if b=true then f σ st1 else f' σ st1
section
variable {X:Cx} {a b:Expr} {rest:List Expr} {f f':SE} {t t':ST} {pos:Pos}
theorem zbil {op} (h:DE X a f):DE X (.BoolOp op [a] pos) f:=zbcw h
theorem zbit (ha:DE X a f) (hb:DE X (.BoolOp .And (b::rest) pos) f'):DE X (.BoolOp .And (a::b::rest) pos) (eAnd f f'):=zed (zbdb ha hb) fun τ H Q hq0=>by
 obtain ⟨ρ,σ,st,v,st',at',rp,e,q⟩:=hq0;obtain ⟨x,st1,e1,e⟩:=zb e;refine ⟨ρ,σ,st,x,st1,at',rp,e1,fun ρ1 H1 u x1 rp1 a1=>?_⟩;cases x<;>try (cases e;done)
 rename_i bb;cases a1;refine ⟨bb,rfl,?_⟩;cases bb with
 | true =>
  rw[if_pos rfl];exact ⟨ρ1,σ,st1,v,st',at'.ext x1,rp1,e,fun ρ' H' u x2=>q ρ' H' u (x1.trans x2)⟩
 | false =>
  rw[if_neg (by decide)];cases e;exact q _ _ _ x1 rp1 (.bl false)
theorem zbim (ha:DE X a f):DE X (.UnaryOp .Not a pos) (eNot f):=zed (zbcx ha) fun τ H Q hq0=>by
 obtain ⟨ρ,σ,st,v,st',at',rp,e,q⟩:=hq0;obtain ⟨x,st1,e1,e⟩:=zb e;refine ⟨ρ,σ,st,x,st1,at',rp,e1,fun ρ1 H1 u x1 rp1 a1=>?_⟩;cases x<;>try (cases e;done)
 rename_i bb;cases a1;cases e;exact ⟨bb,rfl,q _ _ _ x1 rp1 (.bl _)⟩
theorem zbel {op} (h:DT X a t) (hop:op=.And\/op=.Or):DW X (.BoolOp op [a] pos) t:=by
 rcases hop with rfl | rfl
 ·exact pw_and1 h
 ·exact pw_or1 h
theorem zbem (ha:DT X a t) (hb:DW X (.BoolOp .And (b::rest) pos) t'):DW X (.BoolOp .And (a::b::rest) pos) (bAnd t t'):=pw_to (pw_and ha hb) fun τ H Q hq0=>by
 obtain ⟨ρ,σ,st,v,st',at',rp,e,q⟩:=hq0;obtain ⟨x,st1,e1,e⟩:=zb e;refine ⟨ρ,σ,st,x,st1,at',rp,e1,fun ρ1 H1 x1 rp1=>?_⟩;cases x with
 | true=>exact iteT ⟨ρ1,σ,st1,v,st',at'.ext x1,rp1,e,fun ρ' H' x2=>q ρ' H' (x1.trans x2)⟩
 | false=>cases e;exact iteF (q _ _ x1 rp1)
theorem zbie (ha:DT X a t) (hb:DW X (.BoolOp .Or (b::rest) pos) t'):DW X (.BoolOp .Or (a::b::rest) pos) (bOr t t'):=pw_to (pw_or ha hb) fun τ H Q hq0=>by
 obtain ⟨ρ,σ,st,v,st',at',rp,e,q⟩:=hq0;obtain ⟨x,st1,e1,e⟩:=zb e;refine ⟨ρ,σ,st,x,st1,at',rp,e1,fun ρ1 H1 x1 rp1=>?_⟩;cases x with
 | false=>exact iteF ⟨ρ1,σ,st1,v,st',at'.ext x1,rp1,e,fun ρ' H' x2=>q ρ' H' (x1.trans x2)⟩
 | true=>cases e;exact iteT (q _ _ x1 rp1)
theorem zbeo (ha:DT X a t):DT X (.UnaryOp .Not a pos) (bNot t):=zbbp (zbcn ha) fun τ H Q hq0=>by
 obtain ⟨ρ,σ,st,v,st',at',rp,e,q⟩:=hq0;obtain ⟨x,st1,e1,e⟩:=zb e;cases e;exact ⟨ρ,σ,st,x,_,at',rp,e1,fun ρ1 H1 x1 rp1=>q _ _ x1 rp1⟩
end
noncomputable def aNil:SA:=fun _ st=>.ok [] st
noncomputable def aCons (f:SE) (g:SA):SA:=fun σ st=>(f σ st).bind fun x st1=>(g σ st1).bind fun xs st2=>.ok (x::xs) st2
noncomputable def eTup (g:SA):SE:=fun σ st=>(g σ st).bind fun xs st1=>if xs.length<=sizeLine then .ok (.tup xs) st1 else .stuck
noncomputable def eLst (g:SA):SE:=fun σ st=>(g σ st).bind fun xs st1=>if xs.length<=sizeLine then .ok (.lst xs) st1 else .stuck
noncomputable def eLstM (g:SA):SE:=fun σ st=>(g σ st).bind fun xs st1=>if xs.length<=sizeLine then .ok (.ref st1.length) (st1++[.lst xs]) else .stuck
section
variable {X:Cx} {e:Expr} {es:List Expr} {f:SE} {g:SA} {pos:Pos}
theorem zbfb:DA X [] aNil:=zbgm zud fun τ H Q hq0=>by
 obtain ⟨ρ,σ,st,v,st',a,rp,e,q⟩:=hq0;cases e;exact q _ _ _ (.refl _ _) rp .nil
theorem zbak (ha:DE X e f) (hr:DA X es g) (hs:starEach (e::es) X.env=(false,eval e X.env)::starEach es X.env:=by rfl):DA X (e::es) (aCons f g):=zbgm (zft ha hr hs) fun τ H Q hq0=>by
 obtain ⟨ρ,σ,st,v,st',a,rp,e,q⟩:=hq0;obtain ⟨x,st1,e1,e⟩:=zb e;obtain ⟨y,st2,e2,e⟩:=zb e;cases e;refine ⟨ρ,σ,st,x,st1,a,rp,e1,fun ρ1 H1 u x1 rp1 a1=>?_⟩;exact ⟨ρ1,σ,st1,y,_,a.ext x1,rp1,e2,fun ρ2 H2 w x2 rp2 a2=>q _ _ _ (x1.trans x2) rp2 (.cons (a1.ext x2) a2)⟩
theorem zbij {x1} (h:DA X es g):DE X (.Tuple es x1 pos) (eTup g):=zed (zyb h) fun τ H Q hq0=>by
 obtain ⟨ρ,σ,st,v,st',a,rp,e,q⟩:=hq0;obtain ⟨x,st1,e1,e⟩:=zb e;split at e
 ·rename_i hl;cases e;refine ⟨ρ,σ,st,x,_,a,rp,e1,fun ρ1 H1 u x1 rp1 a1=>⟨by rw[a1.length];exact hl,fun p hp=>?_⟩⟩;exact q ρ1 _ _ (x1.trans (Ext.new hp _)) (rp1.new hp _) (.newT rp1 hp a1)
 ·cases e
theorem zbip (h:DA X es g):DE X (.List es pos) (eLst g):=zed (zyc h) fun τ H Q hq0=>by
 obtain ⟨ρ,σ,st,v,st',a,rp,e,q⟩:=hq0;obtain ⟨x,st1,e1,e⟩:=zb e;split at e
 ·rename_i hl;cases e;refine ⟨ρ,σ,st,x,_,a,rp,e1,fun ρ1 H1 u x1 rp1 a1=>⟨by rw[a1.length];exact hl,fun p hp=>?_⟩⟩;exact q ρ1 _ _ (x1.trans (Ext.new hp _)) (rp1.new hp _) (.newL rp1 hp a1)
 ·cases e
theorem At.last {K:Fg} {ρ:Loc} {H:Hp} {p:Addr} {n:Nat} (h:n=ρ.m.length):At K ⟨ρ.m++[some p],ρ.g⟩ H (.ref n) (.ref p):=by
 subst h;refine .ref (by simp) fun a e=>?_
 simp at e;rw[e]
theorem zbfe (h:DA X es g):DE X (.List es pos) (eLstM g):=zed (zyc h) fun τ H Q hq0=>by
 obtain ⟨ρ,σ,st,v,st',a,rp,e,q⟩:=hq0;obtain ⟨x,st1,e1,e⟩:=zb e;split at e
 ·rename_i hl;cases e;refine ⟨ρ,σ,st,x,_,a,rp,e1,fun ρ1 H1 u x1 rp1 a1=>⟨by rw[a1.length];exact hl,fun p hp=>?_⟩⟩;obtain ⟨E,R⟩:=rp1.alloc hp (x:=.lst x) (o:=.lst u) fun E=>⟨u,zf,a1.ext E⟩
  exact q _ _ _ (x1.trans E) R (.last rp1.len.symm)
 ·cases e
end
noncomputable def asL (st:Store):D->Option (List D)
 | .lst xs=>some xs
 | .ref n=>match st[n]? with
  | some (.lst xs)=>some xs
  | _=>none
 | _=>none
section
variable {K:Fg} {ρ:Loc} {st:Store} {H:Hp} {d:D} {u:V} {xs:List D}
theorem zdi (rp:Rep K ρ st H) {n:Nat} {o:O} (a:At K ρ H (.ref n) u) (e:st[n]?=some o) (hd:o≠.dead):∃p,u=.ref p/\ρ.m[n]?=some (some p)/\OAt K ρ H o p:=by
 cases a with
 | ref h1 h2 =>
  obtain ⟨p,hp⟩:=rp.live n o e hd;exact ⟨p,h2 p hp,hp,rp.obj n p o hp e⟩
theorem zfk (rp:Rep K ρ st H) (a:At K ρ H d u) (e:asL st d=some xs):∃p vs,u=.ref p/\H p=some (.lst vs)/\AtAll K ρ H xs vs:=by
 cases d<;>try (cases e;done)
 ·rename_i n;unfold asL at e;dsimp only at e;split at e
  ·rename_i ys hys;cases e;obtain ⟨p,rfl,hp,vs,q1,q2⟩:=zdi rp a hys (by intro z;cases z);exact ⟨p,vs,rfl,q1,q2⟩
  ·cases e
 ·cases e;cases a with
  | lst h1 h2 h3=>exact ⟨_,_,rfl,h1,h3⟩
end
noncomputable def oI (C:Int->Int->Prop) [DecidableRel C] (h:Int->Int->D) (x y:D) (st:Store):Res D:=match x,y with
 | .int i,.int j=>if C i j then .ok (h i j) st else .stuck
 | _,_=>.stuck
theorem oI_D {K:Fg} {C:Int->Int->Prop} [DecidableRel C] {h:Int->Int->D} {g:Int->Int->V} (k:∀i j ρ H,At K ρ H (h i j) (g i j)):OpD K (oI C h) (rI C g):=fun ρ H st x y u v z st' Q rp a b e q=>by
 unfold oI at e;split at e
 ·cases a;cases b;split at e
  ·rename_i hc;cases e;exact ⟨_,_,rfl,rfl,hc,q _ _ _ (.refl _ _) rp (k _ _ _ _)⟩
  ·cases e
 ·cases e
theorem zmy {K:Fg} {h:Int->Int->D} {g:Int->Int->V} (k:∀i j ρ H,At K ρ H (h i j) (g i j)):OpD K (oI (fun _ _=>True) h) (rI0 g):=fun ρ H st x y u v z st' Q rp a b e q=>by
 obtain ⟨i,j,e1,e2,_,e3⟩:=oI_D (C:=fun _ _=>True) k ρ H st x y u v z st' Q rp a b e q;exact ⟨i,j,e1,e2,e3⟩
noncomputable instance:DecidableRel CMul:=fun i j=>by unfold CMul;infer_instance
noncomputable instance:DecidableRel CDivP:=fun i j=>by unfold CDivP;infer_instance
noncomputable instance:DecidableRel CPow:=fun i j=>by unfold CPow;infer_instance
noncomputable abbrev oSub:=oI (fun _ _=>True) fun i j=>.int (i - j)
noncomputable abbrev oFdiv:=oI CDivP fun i j=>.int (i / j)
noncomputable abbrev oMod:=oI (fun _ j=>0 < j) fun i j=>.int (i % j)
noncomputable abbrev oPow:=oI CPow fun i j=>.int (i ^ j.toNat)
noncomputable abbrev oMulI:=oI CMul fun i j=>.int (i * j)
noncomputable def oAdd (x y:D) (st:Store):Res D:=match x,y with
 | .int i,.int j=>.ok (.int (i+j)) st
 | .tup a,.tup b=>if a.length+b.length<=sizeLine then .ok (.tup (a++b)) st else .stuck
 | .str a,.str b=>if a.length+b.length<=sizeLine then .ok (.str (a++b)) st else .stuck
 | x,y=>match asL st x,asL st y with
  | some a,some b=>if a.length+b.length<=sizeLine then .ok (.lst (a++b)) st else .stuck
  | _,_=>.stuck
noncomputable abbrev rAddA (K:Fg):R2:=fun x y H Q=>rI0 (fun i j=>.int (i+j)) x y H Q\/rCatA K x y H Q\/(∃i j,x=.str i/\y=.str j/\i.length+j.length<=sizeLine/\Q (.str (i++j)) H)\/rCat x y H Q
section
variable {X:Cx}
theorem zbo:OpR X (binaryOp .Add) (rAddA X.K):=zbdj.or (zyl.or (zmu.or zbdi))
theorem zcw {K:Fg}:OpD K oAdd (rAddA K):=fun ρ H st x y u v z st' Q rp a b e q=>by
 unfold oAdd at e;split at e
 ·cases a;cases b;cases e;exact .inl ⟨_,_,rfl,rfl,q _ _ _ (.refl _ _) rp (.int _)⟩
 ·rename_i ds es;split at e
  ·rename_i hl;cases e;refine .inr (.inl ?_);cases a with
   | tup h1 h2 h3 =>
    cases b with
    | tup k1 k2 k3 =>
     refine ⟨_,_,_,_,rfl,rfl,SqT.of h1,SqT.of k1,by rw[h3.length,k3.length];exact hl,fun z=>?_,fun z1 z2=>?_,fun z1 z2 p hp=>?_⟩
     ·subst z;cases h3;exact q _ _ _ (.refl _ _) rp (.tup k1 k2 k3)
     ·subst z2;cases k3;rw[xdm] at q;exact q _ _ _ (.refl _ _) rp (.tup h1 h2 h3)
     ·exact q _ _ _ (Ext.new hp _) (rp.new hp _) (.newT rp hp (h3.append k3))
  ·cases e
 ·split at e
  ·rename_i hl;cases a;cases b;cases e;exact .inr (.inr (.inl ⟨_,_,rfl,rfl,hl,q _ _ _ (.refl _ _) rp (.str _)⟩))
  ·cases e
 ·split at e
  ·rename_i h1 h2;split at e
   ·rename_i hl;cases e;obtain ⟨p,vs,rfl,g1,g2⟩:=zfk rp a h1;obtain ⟨p',ws,rfl,k1,k2⟩:=zfk rp b h2;exact .inr (.inr (.inr ⟨_,_,_,_,rfl,rfl,g1,k1,by rw[g2.length,k2.length];exact hl,fun t ht=>q _ _ _ (Ext.new ht _) (rp.new ht _) (.newL rp ht (g2.append k2))⟩))
   ·cases e
  ·cases e
end
noncomputable abbrev oLe:=oI (fun _ _=>True) fun i j=>.bl (decide (i<=j))
noncomputable abbrev oGt:=oI (fun _ _=>True) fun i j=>.bl (decide (j < i))
noncomputable abbrev oGe:=oI (fun _ _=>True) fun i j=>.bl (decide (j<=i))
mutual
noncomputable def toData:D->Option PyData
 | .non=>some .none
 | .bl b=>some (.bool b)
 | .int i=>some (.int i)
 | .str x=>some (.str x)
 | .tup ds=>(toDatas ds).map .tuple
 | .lst ds=>(toDatas ds).map .list
 | _=>none
noncomputable def toDatas:List D->Option (List PyData)
 | []=>some []
 | d::ds=>(toData d).bind fun x=>(toDatas ds).map fun xs=>x::xs
end
mutual
theorem zsq {K:Fg} {ρ:Loc} {H:Hp}:∀{d:D} {v:V} {p:PyData},At K ρ H d v->toData d=some p->DAt K H v p
 | _,_,_,.non,e=>by cases e;exact .non
 | _,_,_,.bl b,e=>by cases e;exact .bl b
 | _,_,_,.int i,e=>by cases e;exact .int i
 | _,_,_,.str x,e=>by cases e;exact .str x
 | _,_,_,.ty n,e=>by cases e
 | _,_,_,.exn _,e=>by cases e
 | _,_,_,.ref _ _,e=>by cases e
 | _,_,_,.tup h _ al,e=>by
  rw[toData] at e;obtain ⟨ps,e1,rfl⟩:=xcv.mp e;exact .tup (SqT.of h) (zgv al e1)
 | _,_,_,.lst h _ al,e=>by
  rw[toData] at e;obtain ⟨ps,e1,rfl⟩:=xcv.mp e;exact .lst (SqL.of h) (zgv al e1)
 | _,_,_,.scr _ _,e=>by cases e
theorem zgv {K:Fg} {ρ:Loc} {H:Hp}:∀{d:List D} {v:List V} {p:List PyData},AtAll K ρ H d v->toDatas d=some p->DAll K H v p
 | _,_,_,.nil,e=>by cases e;exact .nil
 | _,_,_,.cons a b,e=>by
  rw[toDatas] at e;obtain ⟨x,e1,e⟩:=xec.mp e;obtain ⟨xs,e2,rfl⟩:=xcv.mp e;exact .cons (zsq a e1) (zgv b e2)
end
noncomputable def now (st:Store) (d:D):D:=match asL st d with
 | some xs=>.lst xs
 | none=>d
noncomputable def dataOf (st:Store) (d:D):Option PyData:=toData (now st d)
theorem zkg {K:Fg} {ρ:Loc} {st:Store} {H:Hp} (rp:Rep K ρ st H) {d:D} {u:V} {p:PyData} (a:At K ρ H d u) (e:dataOf st d=some p):DAt K H u p:=by
 unfold dataOf now at e;split at e
 ·rename_i xs hx;obtain ⟨q,vs,rfl,h1,h2⟩:=zfk rp a hx;rw[toData] at e;obtain ⟨ps,e1,rfl⟩:=xcv.mp e;exact .lst (SqL.of h1) (zgv h2 e1)
 ·exact zsq a e
noncomputable def oEqG (neg:Bool) (x y:D) (st:Store):Res D:=match dataOf st x,dataOf st y with
 | some a,some b=>if PySem.SeqAt.shaped a=true/\PySem.SeqAt.shaped b=true then .ok (.bl (if neg then !PyData.eqv a b else PyData.eqv a b)) st else .stuck
 | _,_=>.stuck
theorem zqe {K:Fg} {neg:Bool}:OpD K (oEqG neg) (rEqX K neg):=fun ρ H st x y u v z st' Q rp a b e q=>by
 unfold oEqG at e;split at e
 ·rename_i p1 p2 h1 h2;split at e
  ·rename_i hs;cases e;exact ⟨_,_,zkg rp a h1,zkg rp b h2,hs.1,hs.2,q _ _ _ (.refl _ _) rp (.bl _)⟩
  ·cases e
 ·cases e
noncomputable abbrev oEq:=oEqG false
noncomputable abbrev oNe:=oEqG true
noncomputable def oIsN (neg:Bool) (x y:D) (st:Store):Res D:=match x,y with
 | .ref _,_=>.stuck
 | .non,.non=>.ok (.bl (!neg)) st
 | _,.non=>.ok (.bl neg) st
 | _,_=>.stuck
theorem zbdl {K:Fg}:OpD K (oIsN false) (fun x y H Q=>y=.non/\Q (.bl (decide (x=.non))) H):=fun ρ H st x y u v z st' Q rp a b e q=>by
 unfold oIsN at e;split at e<;>try (cases e;done)
 ·cases a;cases b;cases e
  exact ⟨rfl,q _ _ _ (.refl _ _) rp (by simp;exact .bl _)⟩
 ·rename_i h1 h2;cases b;cases e
  refine ⟨rfl,q _ _ _ (.refl _ _) rp ?_⟩;have:u≠.non:=by
   rintro rfl;cases a<;>first | exact h2 rfl | exact h1 _ rfl
  rw[xbu this];exact .bl _
noncomputable def asInts:List D->Option (List Int)
 | []=>some []
 | .int i::r=>(asInts r).map (i::·)
 | _::_=>none
theorem zco {K:Fg} {ρ:Loc} {H:Hp}:∀{ds:List D} {vs:List V} {ns:List Int},AtAll K ρ H ds vs->asInts ds=some ns->vs=ns.map V.int
 | _,_,_,.nil,e=>by cases e;rfl
 | _,_,_,.cons (d:=d) a b,e=>by
  cases d<;>try (cases e;done)
  rw[asInts] at e;obtain ⟨ms,e1,rfl⟩:=xcv.mp e;cases a;rw[zco b e1]
  rfl
noncomputable def oLtT (x y:D) (st:Store):Res D:=match x,y with
 | .int i,.int j=>.ok (.bl (decide (i < j))) st
 | .tup a,.tup b=>match asInts a,asInts b with
  | some ns,some ms=>.ok (.bl (HT.lexLt ns ms)) st
  | _,_=>.stuck
 | _,_=>.stuck
noncomputable abbrev rLtA (K:Fg):R2:=fun x y H Q=>rI0 (fun i j=>.bl (decide (i < j))) x y H Q\/rLtT K x y H Q
theorem zpx {X:Cx} (hu:X.A.units < cLine):OpR X (compareOp .Lt) (rLtA X.K):=zbhq.or (zbdf hu)
theorem zqd {K:Fg}:OpD K oLtT (rLtA K):=fun ρ H st x y u v z st' Q rp a b e q=>by
 unfold oLtT at e;split at e
 ·cases a;cases b;cases e
  exact .inl ⟨_,_,rfl,rfl,q _ _ _ (.refl _ _) rp (.bl _)⟩
 ·split at e
  ·rename_i h1 h2;cases e;cases a with
   | tup g1 g2 g3 =>
    cases b with
    | tup k1 k2 k3 =>
     have e1:=zco g3 h1;have e2:=zco k3 h2;subst e1 e2;exact .inr ⟨_,_,_,_,rfl,rfl,SqT.of g1,SqT.of k1,q _ _ _ (.refl _ _) rp (.bl _)⟩
  ·cases e
 ·cases e
noncomputable def seqOf (st:Store):D->Option (List D)
 | .tup xs=>some xs
 | .scr xs=>some xs
 | d=>asL st d
theorem zem {K:Fg} {ρ:Loc} {st:Store} {H:Hp} (rp:Rep K ρ st H) {d:D} {u:V} {xs:List D} (a:At K ρ H d u) (e:seqOf st d=some xs) :
  ∃p vs,u=.ref p/\(SqL K H p vs\/SqT K H p vs)/\AtAll K ρ H xs vs:=by
 unfold seqOf at e;split at e
 ·cases e;cases a with
  | tup h1 h2 h3=>exact ⟨_,_,rfl,.inr (SqT.of h1),h3⟩
 ·cases e;cases a with
  | scr h1 h3=>exact ⟨_,_,rfl,.inl h1.sq,h3⟩
 ·obtain ⟨p,vs,rfl,h1,h2⟩:=zfk rp a e;exact ⟨p,vs,rfl,.inl (SqL.of h1),h2⟩
theorem AtAll.atI {K:Fg} {ρ:Loc} {H:Hp} {ds:List D} {vs:List V} {i:Int} {d:D} (h:AtAll K ρ H ds vs) (e:L2.atI ds i=some d):∃v,L2.atI vs i=some v/\At K ρ H d v:=by
 unfold L2.atI at e ⊢;rw[h.length];cases hi:ixN ds.length i with
 | none=>rw[hi] at e;cases e
 | some j =>
  rw[hi] at e;obtain ⟨v,e1,e2⟩:=h.get (i:=j) e;exact ⟨v,e1,e2⟩
noncomputable def oIx (x y:D) (st:Store):Res D:=match seqOf st x,y with
 | some xs,.int i=>match L2.atI xs i with
  | some v=>.ok v st
  | none=>.stuck
 | _,_=>.stuck
theorem zbhv {K:Fg}:OpD K oIx (rIx K):=fun ρ H st x y u v z st' Q rp a b e q=>by
 unfold oIx at e;split at e
 ·rename_i h1;split at e
  ·rename_i w hw;cases e;cases b;obtain ⟨p,vs,rfl,h2,h3⟩:=zem rp a h1;obtain ⟨w',e2,a2⟩:=h3.atI hw;rcases h2 with h2 | h2
   ·exact .inl ⟨_,_,_,_,rfl,rfl,h2,e2,q _ _ _ (.refl _ _) rp a2⟩
   ·exact .inr (.inl ⟨_,_,_,_,rfl,rfl,h2,e2,q _ _ _ (.refl _ _) rp a2⟩)
  ·cases e
 ·cases e
noncomputable def cutD (xs:List D) (lo hi:Option Int):List D:=(xs.drop (HT.sIx xs.length 0 lo)).take (HT.sIx xs.length xs.length hi - HT.sIx xs.length 0 lo)
theorem AtAll.cut {K:Fg} {ρ:Loc} {H:Hp} {ds:List D} {vs:List V} (h:AtAll K ρ H ds vs) (lo hi:Option Int):AtAll K ρ H (cutD ds lo hi) (cutV vs lo hi):=by
 unfold cutD cutV;rw[h.length];exact (h.drop _).take _
noncomputable def pNone:DS->Store->Res (Option Int):=fun _ st=>.ok none st
noncomputable def pSome (f:SE):DS->Store->Res (Option Int):=fun σ st=>(f σ st).bind fun v st1=>match v with
 | .int i=>.ok (some i) st1
 | _=>.stuck
noncomputable def eSl (f:SE) (lo hi:DS->Store->Res (Option Int)):SE:=fun σ st=>(f σ st).bind fun x st1=>(lo σ st1).bind fun l st2=>(hi σ st2).bind fun h st3=>match x with
 | .tup xs=>.ok (.tup (cutD xs l h)) st3
 | x=>match asL st3 x with
  | some xs=>.ok (.lst (cutD xs l h)) st3
  | none=>.stuck
noncomputable def tDO (K:Fg) (f:DS->Store->Res (Option Int)):TO:=fun τ H Q=>∃ρ σ st v st',AtS K ρ H σ τ/\Rep K ρ st H/\f σ st=.ok v st'/\∀ρ' H',Ext ρ H ρ' H'->Rep K ρ' st' H'->Q v H'
noncomputable abbrev DO (X:Cx) (e:Option Expr) (f:DS->Store->Res (Option Int)):Prop:=PO X e (tDO X.K f)
section
variable {X:Cx} {a b e:Expr} {f f':SE} {pos:Pos} {lo hi:Option Expr} {l h:DS->Store->Res (Option Int)}
theorem zbgj {t t':TO} {e:Option Expr} (h:PO X e t) (k:∀σ H Q,t' σ H Q->t σ H Q):PO X e t':=fun pins s σ H Q I q=>h pins s σ H Q I (k _ _ _ q)
theorem zbac:DO X none pNone:=zbgj zxt fun τ H Q hq0=>by
 obtain ⟨ρ,σ,st,v,st',a,rp,e,q⟩:=hq0;cases e;exact q _ _ (.refl _ _) rp
theorem zbab (he:DE X e f):DO X (some e) (pSome f):=zbgj (zxs he) fun τ H Q hq0=>by
 obtain ⟨ρ,σ,st,v,st',a,rp,e,q⟩:=hq0;obtain ⟨x,st1,e1,e⟩:=zb e;refine ⟨ρ,σ,st,x,st1,a,rp,e1,fun ρ1 H1 u x1 rp1 a1=>?_⟩;cases x<;>try (cases e;done)
 cases e;cases a1;exact ⟨_,rfl,q _ _ x1 rp1⟩
theorem d_ix (ha:DE X a f) (hb:DE X b f') (hs:PlainIx b):DE X (.Subscript a b pos) (eOp oIx f f'):=zed (zbhl zbdy ha hb hs) (zbbq zbhv)
theorem d_sl {p2:Pos} (he:DE X e f) (hl:DO X lo l) (hu:DO X hi h):DE X (.Subscript e (.Slice lo hi none p2) pos) (eSl f l h):=zed (ztv (zxg.or zxh) he hl hu) fun τ H Q hq0=>by
 obtain ⟨ρ,σ,st,v,st',a,rp,e,q⟩:=hq0;obtain ⟨x,st1,e1,e⟩:=zb e;obtain ⟨y,st2,e2,e⟩:=zb e;obtain ⟨z,st3,e3,e⟩:=zb e;refine ⟨ρ,σ,st,x,st1,a,rp,e1,fun ρ1 H1 u x1 rp1 a1=>?_⟩;refine ⟨ρ1,σ,st1,y,st2,a.ext x1,rp1,e2,fun ρ2 H2 x2 rp2=>?_⟩;refine ⟨ρ2,σ,st2,z,st3,a.ext (x1.trans x2),rp2,e3,fun ρ3 H3 x3 rp3=>?_⟩;have a3:=a1.ext (x2.trans x3);have X3:=x1.trans (x2.trans x3);split at e
 ·cases e;refine .inl ?_;cases a3 with
  | tup h1 h2 h3 =>
   refine ⟨_,_,rfl,SqT.of h1,fun ec=>?_,fun p hp=>?_⟩
   ·refine q _ _ _ X3 rp3 (.tup h1 h2 ?_);have:=h3.cut y z;rw[ec] at this;exact this
   ·exact q _ _ _ (X3.trans (Ext.new hp _)) (rp3.new hp _) (.newT rp3 hp (h3.cut y z))
 ·split at e
  ·rename_i xs hx;cases e;obtain ⟨p,vs,rfl,g1,g2⟩:=zfk rp3 a3 hx;exact .inr ⟨_,_,rfl,SqL.of g1,fun p hp=>q _ _ _ (X3.trans (Ext.new hp _)) (rp3.new hp _) (.newL rp3 hp (g2.cut y z))⟩
  ·cases e
end
end Dd
namespace Dd
open PySem L2
noncomputable def eCall (g:List D->Store->Res D) (f:SA):SE:=fun σ st=>(f σ st).bind fun xs st1=>g xs st1
noncomputable def CaD (K:Fg) (g:List D->Store->Res D) (r:List V->Hp->VK->Prop):Prop :=
 ∀ρ H st xs us z st' (Q:VK),Rep K ρ st H->AtAll K ρ H xs us->g xs st=.ok z st'->(∀ρ' H' w,Ext ρ H ρ' H'->Rep K ρ' st' H'->At K ρ' H' z w->Q w H')->r us H Q
theorem zbgy {K:Fg} {g:List D->Store->Res D} {r:List V->Hp->VK->Prop} (hr:CaD K g r) {f:SA}:∀τ H Q,tD K (eCall g f) τ H Q->tCB r (tDA K f) τ H Q:=fun τ H Q hq0=>by
 obtain ⟨ρ,σ,st,v,st',a,rp,e,q⟩:=hq0;obtain ⟨x,st1,e1,e⟩:=zb e;exact ⟨ρ,σ,st,x,st1,a,rp,e1,fun ρ1 H1 u x1 rp1 a1=>hr ρ1 H1 st1 x u v st' Q rp1 a1 e fun ρ' H' w x2=>q ρ' H' w (x1.trans x2)⟩
section
variable {X:Cx} {x:Str} {p pos:Pos} {e:Expr} {es:List Expr} {f:SA} {id T:String} {r:List V->Hp->VK->Prop} {g:List D->Store->Res D}
theorem zbat (hc : CallR X (.builtin id) r) (hr : CaD X.K g r) (hg : Gl X x) (hm : X.mg x = none) (hv : bootBuiltins x = some (.builtin id)) (ha : DA X (e :: es) f) (hn : x ≠ "__name__" := by decide) (hdb : (x == ("__debug__" : Str)) = false := by decide)
 (he:starEach (e::es) X.env=(false,eval e X.env)::starEach es X.env:=by rfl) (hpl:(backTo pos (starEach es X.env)).any (·.1)=false:=by rfl):DE X (.Call (.Name x p) (e::es) [] pos) (eCall g f):=zed (zmr hc hg hm hv ha hn hdb he hpl) (zbgy hr)
theorem zvm (hc : CallR X (.type T) r) (hr : CaD X.K g r) (hg : Gl X x) (hm : X.mg x = none) (hv : bootBuiltins x = some (.type T)) (ha : DA X (e :: es) f) (hn : x ≠ "__name__" := by decide) (hdb : (x == ("__debug__" : Str)) = false := by decide)
 (he:starEach (e::es) X.env=(false,eval e X.env)::starEach es X.env:=by rfl) (hpl:(backTo pos (starEach es X.env)).any (·.1)=false:=by rfl):DE X (.Call (.Name x p) (e::es) [] pos) (eCall g f):=zed (zpw hc hg hm hv ha hn hdb he hpl) (zbgy hr)
end
theorem AtAll.one {K:Fg} {ρ:Loc} {H:Hp} {d:D} {us:List V} (h:AtAll K ρ H [d] us):∃u,us=[u]/\At K ρ H d u:=by
 cases h with
 | cons a b=>cases b;exact ⟨_,rfl,a⟩
theorem AtAll.two {K:Fg} {ρ:Loc} {H:Hp} {d e:D} {us:List V} (h:AtAll K ρ H [d,e] us):∃u v,us=[u,v]/\At K ρ H d u/\At K ρ H e v:=by
 cases h with
 | cons a b =>
  obtain ⟨v,rfl,c⟩:=b.one;exact ⟨_,_,rfl,a,c⟩
noncomputable def bLen:List D->Store->Res D:=fun xs st=>match xs with
 | [x]=>match seqOf st x with
  | some ys=>.ok (.int ys.length) st
  | none=>.stuck
 | _=>.stuck
theorem zic {K:Fg}:CaD K bLen (fun xs H Q=>∃p ys,xs=[.ref p]/\(SqL K H p ys\/SqT K H p ys)/\Q (.int ys.length) H):=fun ρ H st xs us z st' Q rp aa e q=>by
 unfold bLen at e;split at e
 ·split at e
  ·rename_i h;cases e;obtain ⟨u,rfl,a⟩:=aa.one;obtain ⟨p,vs,rfl,h1,h2⟩:=zem rp a h;refine ⟨p,vs,rfl,h1,?_⟩;rw[h2.length];exact q _ _ _ (.refl _ _) rp (.int _)
  ·cases e
 ·cases e
noncomputable def bAbs:List D->Store->Res D:=fun xs st=>match xs with
 | [.int i]=>.ok (.int (if i < 0 then -i else i)) st
 | _=>.stuck
theorem zbfy {K:Fg}:CaD K bAbs (fun xs H Q=>∃i,xs=[.int i]/\Q (.int (if i < 0 then -i else i)) H):=fun ρ H st xs us z st' Q rp aa e q=>by
 unfold bAbs at e;split at e
 ·cases e;obtain ⟨u,rfl,a⟩:=aa.one;cases a;exact ⟨_,rfl,q _ _ _ (.refl _ _) rp (.int _)⟩
 ·cases e
noncomputable def b2I (g:Int->Int->Int):List D->Store->Res D:=fun xs st=>match xs with
 | [.int i,.int j]=>.ok (.int (g i j)) st
 | _=>.stuck
theorem zbbj {K:Fg} {g:Int->Int->Int}:CaD K (b2I g) (fun xs H Q=>∃i j,xs=[.int i,.int j]/\Q (.int (g i j)) H):=fun ρ H st xs us z st' Q rp aa e q=>by
 unfold b2I at e;split at e
 ·cases e;obtain ⟨u,v,rfl,a,b⟩:=aa.two;cases a;cases b;exact ⟨_,_,rfl,q _ _ _ (.refl _ _) rp (.int _)⟩
 ·cases e
noncomputable abbrev bMin2:=b2I fun i j=>if j < i then j else i
noncomputable abbrev bMax2:=b2I fun i j=>if j > i then j else i
noncomputable def bSum:List D->Store->Res D:=fun xs st=>match xs with
 | [x]=>match (seqOf st x).bind asInts with
  | some ns=>.ok (.int ns.sum) st
  | none=>.stuck
 | _=>.stuck
theorem zwa {K:Fg}:CaD K bSum (rSum K):=fun ρ H st xs us z st' Q rp aa e q=>by
 unfold bSum at e;split at e
 ·split at e
  ·rename_i ns h;cases e;obtain ⟨ys,h0,h⟩:=xec.mp h;obtain ⟨u,rfl,a⟩:=aa.one;obtain ⟨p,vs,rfl,h1,h2⟩:=zem rp a h0;have e:=zco h2 h;subst e;exact ⟨p,ns,rfl,h1,q _ _ _ (.refl _ _) rp (.int _)⟩
  ·cases e
 ·cases e
noncomputable def asBools:List D->Option (List Bool)
 | []=>some []
 | .bl i::r=>(asBools r).map (i::·)
 | _::_=>none
theorem zie {K:Fg} {ρ:Loc} {H:Hp}:∀{ds:List D} {vs:List V} {ns:List Bool},AtAll K ρ H ds vs->asBools ds=some ns->vs=ns.map V.bl
 | _,_,_,.nil,e=>by cases e;rfl
 | _,_,_,.cons (d:=d) a b,e=>by
  cases d<;>try (cases e;done)
  rw[asBools] at e;obtain ⟨ms,e1,rfl⟩:=xcv.mp e;cases a;rw[zie b e1]
  rfl
noncomputable def bAny (al:Bool):List D->Store->Res D:=fun xs st=>match xs with
 | [x]=>match (asL st x).bind asBools with
  | some bs=>.ok (.bl (if al then bs.all id else bs.any id)) st
  | none=>.stuck
 | _=>.stuck
theorem zbfw {K:Fg} {al:Bool}:CaD K (bAny al) (rAny K al):=fun ρ H st xs us z st' Q rp aa e q=>by
 unfold bAny at e;split at e
 ·split at e
  ·rename_i ns h;cases e;obtain ⟨ys,h0,h⟩:=xec.mp h;obtain ⟨u,rfl,a⟩:=aa.one;obtain ⟨p,vs,rfl,h1,h2⟩:=zfk rp a h0;have e:=zie h2 h;subst e;exact ⟨p,ns,rfl,SqL.of h1,q _ _ _ (.refl _ _) rp (.bl _)⟩
  ·cases e
 ·cases e
noncomputable def tyName (st:Store):D->Option String
 | .non => some "NoneType"
 | .bl _ => some "bool"
 | .int _ => some "int"
 | .str _ => some "str"
 | .tup _ => some "tuple"
 | .lst _ => some "list"
 | .ref n=>match st[n]? with
  | some (.lst _) => some "list"
  | some (.dT _) => some "dict"
  | _=>none
 | _=>none
noncomputable def isTy (t T : String) : Bool := t == T || (t == "bool" && T == "int")
noncomputable def bIsinst:List D->Store->Res D:=fun xs st=>match xs with
 | [x,.ty T]=>match tyName st x with
  | some t => if ["int", "bool", "str", "tuple", "list", "dict"].contains T = true then .ok (.bl (isTy t T)) st else .stuck
  | none=>.stuck
 | _=>.stuck
theorem zpg {K : Fg} {ρ : Loc} {st : Store} {H : Hp} (rp : Rep K ρ st H) {d : D} {u : V} {t : String} (a : At K ρ H d u) (e : tyName st d = some t) : TyOf K H u (.type t) /\ t ∈ ["NoneType", "bool", "int", "str", "tuple", "list", "dict"] := by
 cases d<;>try (cases e;done)
 ·cases e;cases a;exact ⟨.non,by simp⟩
 ·cases e;cases a;exact ⟨.bl _,by simp⟩
 ·cases e;cases a;exact ⟨.int _,by simp⟩
 ·cases e;cases a;exact ⟨.str _,by simp⟩
 ·unfold tyName at e;dsimp only at e;split at e
  ·rename_i h;cases e;obtain ⟨p,rfl,hp,vs,q1,q2⟩:=zdi rp a h (by intro z;cases z);exact ⟨.lst q1,by simp⟩
  ·rename_i h;cases e;obtain ⟨p,rfl,hp,vs,q1,q2⟩:=zdi rp a h (by intro z;cases z);exact ⟨.dT q1,by simp⟩
  ·cases e
 ·cases e;cases a with
  | tup h1 h2 h3=>exact ⟨.tup h1,by simp⟩
 ·cases e;cases a with
  | lst h1 h2 h3=>exact ⟨.lst h1,by simp⟩
theorem zbdr {K : Fg} {t T : String} (ht : t ∈ ["NoneType", "bool", "int", "str", "tuple", "list", "dict"]) (hT : T ∈ ["int", "bool", "str", "tuple", "list", "dict"]) : PySem.W.kitOne K (.type t) (.type T) = some (isTy t T) := by
 simp only[xbn,xee,xhs] at ht hT;rcases ht with rfl | rfl | rfl | rfl | rfl | rfl | rfl<;>rcases hT with rfl | rfl | rfl | rfl | rfl | rfl<;>rfl
theorem zdo {K:Fg}:CaD K bIsinst (fun xs H Q=>∃x T t b,xs=[x,.ty T]/\TyOf K H x t/\PySem.W.kitOne K t (.type T)=some b/\Q (.bl b) H):=fun ρ H st xs us z st' Q rp aa e q=>by
 unfold bIsinst at e;split at e
 ·split at e
  ·rename_i h;split at e
   ·rename_i hT;cases e;obtain ⟨u,v,rfl,a,b⟩:=aa.two;cases b;obtain ⟨h1,h2⟩:=zpg rp a h;exact ⟨_,_,_,_,rfl,h1,zbdr h2 (by simpa using hT),q _ _ _ (.refl _ _) rp (.bl _)⟩
   ·cases e
  ·cases e
 ·cases e
noncomputable def bTuple:List D->Store->Res D:=fun xs st=>match xs with
 | [.tup ys]=>.ok (.tup ys) st
 | [x]=>match asL st x with
  | some ys=>.ok (.tup ys) st
  | none=>.stuck
 | _=>.stuck
theorem zon {K:Fg}:CaD K bTuple (fun xs H Q=>∃p ys,xs=[.ref p]/\((SqL K H p ys/\∀l,H l=none->Q (.ref l) (upd H l (.tup ys)))\/(SqT K H p ys/\Q (.ref p) H))):=fun ρ H st xs us z st' Q rp aa e q=>by
 unfold bTuple at e;split at e
 ·cases e;obtain ⟨u,rfl,a⟩:=aa.one;cases a with
  | tup h1 h2 h3=>exact ⟨_,_,rfl,.inr ⟨SqT.of h1,q _ _ _ (.refl _ _) rp (.tup h1 h2 h3)⟩⟩
 ·split at e
  ·rename_i h;cases e;obtain ⟨u,rfl,a⟩:=aa.one;obtain ⟨p,vs,rfl,h1,h2⟩:=zfk rp a h;exact ⟨_,_,rfl,.inl ⟨SqL.of h1,fun l hl=>q _ _ _ (Ext.new hl _) (rp.new hl _) (.newT rp hl h2)⟩⟩
  ·cases e
 ·cases e
noncomputable def bList:List D->Store->Res D:=fun xs st=>match xs with
 | [x]=>match seqOf st x with
  | some ys=>.ok (.lst ys) st
  | none=>.stuck
 | _=>.stuck
noncomputable def bListM:List D->Store->Res D:=fun xs st=>match xs with
 | [x]=>match seqOf st x with
  | some ys=>.ok (.ref st.length) (st++[.lst ys])
  | none=>.stuck
 | _=>.stuck
theorem zwb {K:Fg}:CaD K bListM (fun xs H Q=>∃p ys,xs=[.ref p]/\(SqL K H p ys\/SqT K H p ys)/\∀l,H l=none->Q (.ref l) (upd H l (.lst ys))):=fun ρ H st xs us z st' Q rp aa e q=>by
 unfold bListM at e;split at e
 ·split at e
  ·rename_i ys h;cases e;obtain ⟨u,rfl,a⟩:=aa.one;obtain ⟨p,vs,rfl,h1,h2⟩:=zem rp a h;refine ⟨_,_,rfl,h1,fun l hl=>?_⟩;obtain ⟨E,R⟩:=rp.alloc hl (x:=.lst ys) (o:=.lst vs) fun E=>⟨vs,zf,h2.ext E⟩
   exact q _ _ _ E R (.last rp.len.symm)
  ·cases e
 ·cases e
noncomputable abbrev rowD (ns:List Int):D:=.tup (ns.map .int)
noncomputable abbrev rowsD (l:List (List Int)):List D:=l.map rowD
noncomputable def insR (a:List Int):List (List Int)->List (List Int)
 | []=>[a]
 | b::r=>if HT.lexLt b a=true then b::insR a r else a::b::r
noncomputable def sortR:List (List Int)->List (List Int)
 | []=>[]
 | a::r=>insR a (sortR r)
noncomputable abbrev UpR (l:List (List Int)):Prop:=l.Pairwise fun a b=>HT.lexLt b a=false
theorem zgr (a:List Int):∀l,(insR a l).Perm (a::l)
 | []=>.refl _
 | b::r=>by
  unfold insR;split
  ·exact (List.Perm.cons b (zgr a r)).trans (.swap a b r)
  ·exact .refl _
theorem zce:∀l,(sortR l).Perm l
 | []=>.refl _
 | a::r=>(zgr a _).trans (.cons a (zce r))
theorem zjb {a b c:List Int} (h1:HT.lexLt b a=false) (h2:HT.lexLt c b=false):HT.lexLt c a=false:=by
 cases h:HT.lexLt c a with
 | false=>rfl
 | true =>
  rcases Srt.zho a b with z | z | z
  ·have:=Srt.zeg h z;rw[h2] at this;cases this
  ·subst z;rw[h2] at h;cases h
  ·rw[h1] at z;cases z
theorem zsh (a:List Int):∀l,UpR l->UpR (insR a l)
 | [],_=>xio _ _
 | b::r,h=>by
  obtain ⟨h1,h2⟩:=xhb.mp h;unfold insR;split
  ·rename_i c;refine xhb.mpr ⟨fun x hx=>?_,zsh a r h2⟩;rcases xbn.mp ((zgr a r).mem_iff.mp hx) with rfl | hx
   ·exact Srt.zqm c
   ·exact h1 x hx
  ·rename_i c;have c':HT.lexLt b a=false:=by simpa using c
   refine xhb.mpr ⟨fun x hx=>?_,h⟩;rcases xbn.mp hx with rfl | hx
   ·exact c'
   ·exact zjb c' (h1 x hx)
theorem zgi:∀l,UpR (sortR l)
 | []=>.nil
 | a::r=>zsh a _ (zgi r)
theorem zjp:∀{l m:List (List Int)},l.Perm m->UpR l->UpR m->l=m
 | [],m,p,_,_=>by rw[List.nil_perm.mp p]
 | a::l,[],p,_,_=>by cases List.perm_nil.mp p
 | a::l,b::m,p,h1,h2=>by
  obtain ⟨p1,p2⟩:=xhb.mp h1;obtain ⟨q1,q2⟩:=xhb.mp h2;have e:a=b:=by
   rcases xbn.mp (p.mem_iff.mp xce) with z | z
   ·exact z
   ·rcases xbn.mp (p.mem_iff.mpr (xce (a:=b) (l:=m))) with y | y
    ·exact y.symm
    ·have e1:=q1 a z;have e2:=p1 b y;rcases Srt.zho a b with w | w | w
     ·rw[e1] at w;cases w
     ·exact w
     ·rw[e2] at w;cases w
  subst e;rw[zjp (List.Perm.cons_inv p) p2 q2]
theorem zik {l m:List (List Int)} (p:m.Perm l) (h:UpR m):m=sortR l:=zjp (p.trans (zce l).symm) h (zgi l)
theorem zil (l:List (List Int)):(sortR l).length=l.length:=(zce l).length_eq
noncomputable def asRows:List D->Option (List (List Int))
 | []=>some []
 | .tup ds::r=>(asInts ds).bind fun ns=>(asRows r).map (ns::·)
 | _::_=>none
theorem zkr {K:Fg} {ρ:Loc} {H:Hp}:∀{ds:List D} {vs:List V} {l:List (List Int)},AtAll K ρ H ds vs->asRows ds=some l ->
  ∃ps:List (Addr × List Int),vs=ps.map (fun p=>V.ref p.1)/\ps.map (·.2)=l/\∀p∈ps,H p.1=some (.tup (p.2.map V.int))/\Out ρ p.1
 | _,_,_,.nil,e=>by cases e;exact ⟨[],rfl,rfl,fun _ h=>nomatch h⟩
 | _,_,_,.cons (d:=d) a b,e=>by
  cases d<;>try (cases e;done)
  rw[asRows] at e;obtain ⟨ns,e1,e⟩:=xec.mp e;obtain ⟨l,e2,rfl⟩:=xcv.mp e;obtain ⟨ps,h1,h2,h3⟩:=zkr b e2;cases a with
  | tup g1 g2 g3 =>
   rename_i ad ws;have ew:=zco g3 e1;subst ew;refine ⟨(ad,ns)::ps,by rw[h1];rfl,by rw[← h2];rfl,fun p hp=>?_⟩;rcases xbn.mp hp with rfl | hp
   ·exact ⟨g1,g2⟩
   ·exact h3 p hp
theorem zgq {K:Fg} {ρ:Loc} {H:Hp}:∀ns:List Int,AtAll K ρ H (ns.map .int) (ns.map V.int)
 | []=>.nil
 | n::ns=>.cons (.int n) (zgq ns)
theorem zio {K:Fg} {ρ:Loc} {H:Hp}:∀ps:List (Addr × List Int),(∀p∈ps,H p.1=some (.tup (p.2.map V.int))/\Out ρ p.1)->AtAll K ρ H (rowsD (ps.map (·.2))) (ps.map fun p=>V.ref p.1)
 | [],_=>.nil
 | p::ps,h=>.cons (.tup (h p xce).1 (h p xce).2 (zgq _)) (zio ps fun q hq=>h q (xci _ hq))
theorem zjw {K:Fg} {ρ:Loc} {st:Store} {H:Hp} (r:Rep K ρ st H) {p:Addr} {vs:List V} (hp:H p=some (.tup vs)):Out ρ p:=by
 refine ⟨fun z=>?_,fun z=>?_⟩
 ·obtain ⟨i,hi,e⟩:=xdv z;obtain ⟨x,_,q⟩:=r.has (n:=i) (a:=p) (by rw[xbe hi,e]);cases x with
  | lst xs=>obtain ⟨_,e,_⟩:=q;rw[hp] at e;cases e
  | dT kvs=>obtain ⟨_,e,_⟩:=q;rw[hp] at e;cases e
  | fT kvs=>obtain ⟨_,_,e,_⟩:=q;rw[hp] at e;cases e
  | dead=>exact q
  | tab=>obtain ⟨_,_,e,_⟩:=q;rw[hp] at e;cases e
 ·obtain ⟨⟨u,hu⟩,_⟩:=r.gh p z;rw[hp] at hu;cases hu
noncomputable def valD (kvs:List (List Int × D)) (k:List Int):Option D:=(kvs.find? fun kv=>decide (kv.1=k)).map (·.2)
noncomputable def putD (kvs:List (List Int × D)) (k:List Int) (v:D):List (List Int × D) :=
 if (kvs.any fun kv=>decide (kv.1=k))=true then kvs.map (fun kv=>if kv.1=k then (kv.1,v) else kv) else kvs++[(k,v)]
noncomputable def dropD (kvs:List (List Int × D)) (k:List Int):List (List Int × D):=kvs.filter fun kv=>decide (kv.1≠k)
theorem zka {a b:List Int}:a.map (Sum.inl:Int->Key)=b.map Sum.inl↔a=b:=by
 constructor
 ·intro h;exact (List.map_inj_right (f:=(Sum.inl:Int->Key)) fun x y e=>Sum.inl.inj e).mp h
 ·rintro rfl;rfl
section
variable {K:Fg} {ρ:Loc} {H:Hp} {kvs:List (List Int × D)} {vs:List (List Key × V)}
theorem KvAt.val (h:KvAt K ρ H kvs vs) (k:List Int):match valD kvs k with
  | some d=>∃v,valV vs (k.map Sum.inl)=some v/\At K ρ H d v
  | none=>valV vs (k.map Sum.inl)=none:=by
 induction h with
 | nil=>rfl
 | @cons p q ps qs h t ih =>
  obtain ⟨h1,h2⟩:=h;by_cases e:p.1=k
  ·have e1:valD (p::ps) k=some p.2:=by simp[valD,xei,e]
   rw[e1];exact ⟨q.2,zgf (by rw[h1,e]),h2⟩
  ·have e1:valD (p::ps) k=valD ps k:=by simp[valD,xei,e]
   have e2:valV (q::qs) (k.map Sum.inl)=valV qs (k.map Sum.inl):=zgg (by rw[h1,zka];exact e);rw[e1,e2];exact ih
theorem KvAt.keys (h:KvAt K ρ H kvs vs):vs.map (·.1)=(kvs.map (·.1)).map fun ns=>ns.map Sum.inl:=by
 induction h with
 | nil=>rfl
 | @cons p q ps qs h t ih=>rw[xbq,xbq,xbq,ih,h.1]
theorem KvAt.put (h:KvAt K ρ H kvs vs) (k:List Int) {d:D} {v:V} (a:At K ρ H d v):KvAt K ρ H (putD kvs k d) (putK vs (k.map Sum.inl) v):=by
 have any:∀{kvs:List (List Int × D)} {vs:List (List Key × V)},KvAt K ρ H kvs vs->(kvs.any fun kv=>decide (kv.1=k))=(vs.any fun kv=>decide (kv.1=k.map Sum.inl)):=fun h=>by
  induction h with
  | nil=>rfl
  | @cons p q ps qs h t ih =>
   rw[xix,xix,ih,h.1]
   congr 1
   simp only[zka]
 unfold putD putK;rw[any h];split
 ·rename_i hh;clear hh any
  induction h with
  | nil=>exact .nil
  | @cons p q ps qs h t ih =>
   refine .cons ?_ ih;obtain ⟨h1,h2⟩:=h;dsimp only;by_cases e:p.1=k
   ·rw[if_pos e,if_pos (by rw[h1,e])];exact ⟨h1,a⟩
   ·rw[if_neg e,if_neg (by rw[h1,zka];exact e)];exact ⟨h1,h2⟩
 ·have app:∀{kvs:List (List Int × D)} {vs:List (List Key × V)},KvAt K ρ H kvs vs->KvAt K ρ H (kvs++[(k,d)]) (vs++[(k.map Sum.inl,v)]):=fun h=>by
   induction h with
   | nil=>exact .cons ⟨rfl,a⟩ .nil
   | cons h t ih=>exact .cons h ih
  exact app h
theorem KvAt.drop (h:KvAt K ρ H kvs vs) (k:List Int):KvAt K ρ H (dropD kvs k) (dropK vs (k.map Sum.inl)):=by
 unfold dropD dropK
 induction h with
 | nil=>exact .nil
 | @cons p q ps qs h t ih =>
  by_cases e:p.1=k
  ·rw[xer (by simp[e]),xer (by simp[h.1,e])];exact ih
  ·rw[xes (by simp[e]),xes (by simp[h.1,zka,e])];exact .cons h ih
theorem KvAt.length (h:KvAt K ρ H kvs vs):kvs.length=vs.length:=xht h
end
noncomputable def pairsOf (st:Store):D->Option (List (List Int × D))
 | .ref n=>match st[n]? with
  | some (.dT kvs)=>some kvs
  | some (.fT kvs)=>some kvs
  | _=>none
 | _=>none
theorem ziu {K:Fg} {ρ:Loc} {st:Store} {H:Hp} (rp:Rep K ρ st H) {d:D} {u:V} {kvs:List (List Int × D)} (a:At K ρ H d u) (e:pairsOf st d=some kvs):∃p vs,u=.ref p/\Rd H p (.dT vs)/\KvAt K ρ H kvs vs:=by
 unfold pairsOf at e;split at e
 ·split at e
  ·rename_i h;cases e;obtain ⟨p,rfl,hp,vs,q1,q2⟩:=zdi rp a h (by intro z;cases z);exact ⟨p,vs,rfl,.inl q1,q2⟩
  ·rename_i h;cases e;obtain ⟨p,rfl,hp,vs,ob,q1,q2⟩:=zdi rp a h (by intro z;cases z);exact ⟨p,vs,rfl,.inr ⟨ob,q1⟩,q2⟩
  ·cases e
 ·cases e
noncomputable def keyOf:D->Option (List Int)
 | .tup ds=>asInts ds
 | _=>none
theorem zuq {K:Fg} {ρ:Loc} {H:Hp} {d:D} {u:V} {k:List Int} (a:At K ρ H d u) (e:keyOf d=some k):∃p,u=.ref p/\H p=some (.tup ((k.map (Sum.inl:Int->Key)).map kV)):=by
 unfold keyOf at e;split at e
 ·cases a with
  | tup h1 h2 h3 =>
   have:=zco h3 e;subst this;exact ⟨_,rfl,by rw[zsf];exact h1⟩
 ·cases e
theorem zny {K:Fg} {ρ:Loc} {st:Store} {H:Hp} (rp:Rep K ρ st H) {d y:D} {u w:V} {kvs:List (List Int × D)} {k:List Int} (a:At K ρ H d u) (b:At K ρ H y w) (e:pairsOf st d=some kvs) (e2:keyOf y=some k) :
  ∃p o,u=.ref p/\DGet H p w o/\match valD kvs k with
   | some z=>∃v,o=some v/\At K ρ H z v
   | none=>o=none:=by
 obtain ⟨p,vs,rfl,h1,h2⟩:=ziu rp a e;obtain ⟨q,rfl,h3⟩:=zuq b e2;refine ⟨p,valV vs (k.map Sum.inl),rfl,.inr ⟨vs,_,q,h1,rfl,h3,rfl⟩,?_⟩;have:=h2.val k;cases hv:valD kvs k with
 | none=>rw[hv] at this;exact this
 | some z=>rw[hv] at this;exact this
noncomputable def oDIn (neg:Bool) (y x:D) (st:Store):Res D:=match keyOf y,pairsOf st x with
 | some k,some kvs=>.ok (.bl (if neg then !(valD kvs k).isSome else (valD kvs k).isSome)) st
 | _,_=>.stuck
noncomputable def oDGet (x y:D) (st:Store):Res D:=match pairsOf st x,keyOf y with
 | some kvs,some k=>match valD kvs k with
  | some v=>.ok v st
  | none=>.stuck
 | _,_=>.stuck
noncomputable def eDGet2 (f g h:SE):SE:=fun σ st=>(f σ st).bind fun x st1=>match pairsOf st1 x with
 | some _=>(g σ st1).bind fun y st2=>(h σ st2).bind fun z st3=>match pairsOf st3 x,keyOf y with
  | some kvs,some k=>.ok ((valD kvs k).getD z) st3
  | _,_=>.stuck
 | none=>.stuck
noncomputable def eDPop (f g:SE):SE:=fun σ st=>(f σ st).bind fun x st1=>match pairsOf st1 x with
 | some _=>(g σ st1).bind fun y st2=>match x,keyOf y with
  | .ref n,some k=>match st2[n]? with
   | some (.dT kvs)=>match valD kvs k with
    | some v=>.ok v (st2.set n (.dT (dropD kvs k)))
    | none=>.stuck
   | _=>.stuck
  | _,_=>.stuck
 | none=>.stuck
noncomputable def sDPut (f g h:SE):SS:=fun σ st=>(h σ st).bind fun v st1=>(f σ st1).bind fun x st2=>(g σ st2).bind fun y st3=>match x,keyOf y with
 | .ref n,some k=>match st3[n]? with
  | some (.dT kvs)=>if kvs.length < sizeLine then .ok (.nx σ) (st3.set n (.dT (putD kvs k v))) else .stuck
  | _=>.stuck
 | _,_=>.stuck
noncomputable def eDNew:SE:=fun _ st=>.ok (.ref st.length) (st++[.dT []])
section
variable {X:Cx} {a b c o i e value f':Expr} {f g h:SE} {pos pos' apos cpos:Pos}
theorem zzg {K:Fg} {ρ:Loc} {st:Store} {H:Hp} (rp:Rep K ρ st H) {d:D} {u:V} {kvs:List (List Int × D)} (a:At K ρ H d u) (e:pairsOf st d=some kvs):∃p,u=.ref p/\IsD H p:=by
 obtain ⟨p,vs,rfl,h1,_⟩:=ziu rp a e;exact ⟨p,rfl,.inr ⟨vs,h1⟩⟩
theorem zbfh:DE X (.Dict [] [] pos) eDNew:=zed zty fun τ H Q hq0 p hp=>by
 obtain ⟨ρ,σ,st,v,st',a,rp,e,q⟩:=hq0;cases e;obtain ⟨E,R⟩:=rp.alloc hp (x:=.dT []) (o:=.dT []) fun E=>⟨[],zf,.nil⟩
 exact q _ _ _ E R (.last rp.len.symm)
theorem zbhp (hu:X.A.units+1 < cLine) (hi:DE X i g) (ho:DE X o f):PC X .In i o (tD X.K (eOp (oDIn false) g f)):=fun pins s σ H Q I hq=>by
 refine zbdd hu hi ho pins s σ H Q I ?_;obtain ⟨ρ,σ',st,v,st',a,rp,e,q⟩:=hq;obtain ⟨x,st1,e1,e⟩:=zb e;obtain ⟨y,st2,e2,e⟩:=zb e;refine ⟨ρ,σ',st,x,st1,a,rp,e1,fun ρ1 H1 u x1 rp1 a1=>?_⟩;refine ⟨ρ1,σ',st1,y,st2,a.ext x1,rp1,e2,fun ρ2 H2 w x2 rp2 a2=>?_⟩;unfold oDIn at e;split at e
 ·rename_i kk vv h1 h2;cases e;obtain ⟨p,oo,rfl,g1,g2⟩:=zny rp2 a2 (a1.ext x2) h2 h1;refine ⟨p,oo,rfl,g1,?_⟩;have:oo.isSome=(valD vv kk).isSome:=by
   revert g2;split
   ·rename_i hv;rintro ⟨v,rfl,_⟩;rw[hv];rfl
   ·rename_i hv;rintro rfl;rw[hv];rfl
  rw[this];exact q _ _ _ (x1.trans x2) rp2 (.bl _)
 ·cases e
theorem zbif {op:CmpOp} {t:SE} (h:PC X op a b (tD X.K t)) (h1:behindInMarks op b=false:=by first | exact nobehind _ (by decide) (by decide) | rfl):DT X (.Compare a [op] [b] pos) (eB t):=zbbp (zbco h h1) fun τ H Q hh=>eB_t _ _ _ hh
theorem zbfi (hu:X.A.units+1 < cLine) (ho:DE X o f) (hi:DE X i g) (hs:NoSl i):DE X (.Subscript o i pos) (eOp oDGet f g):=zed (zye hu ho hi hs) fun τ H Q hq0=>by
 obtain ⟨ρ,σ,st,v,st',a,rp,e,q⟩:=hq0;obtain ⟨x,st1,e1,e⟩:=zb e;obtain ⟨y,st2,e2,e⟩:=zb e;refine ⟨ρ,σ,st,x,st1,a,rp,e1,fun ρ1 H1 u x1 rp1 a1=>?_⟩;refine ⟨ρ1,σ,st1,y,st2,a.ext x1,rp1,e2,fun ρ2 H2 w x2 rp2 a2=>?_⟩;unfold oDGet at e;split at e
 ·rename_i h1 h2;split at e
  ·rename_i z hv;cases e;obtain ⟨p,oo,rfl,g1,g2⟩:=zny rp2 (a1.ext x2) a2 h1 h2;rw[hv] at g2;obtain ⟨vv,rfl,g3⟩:=g2;exact ⟨p,vv,rfl,g1,q _ _ _ (x1.trans x2) rp2 g3⟩
  ·cases e
 ·cases e
theorem zbaq (hu : X.A.units + 1 < cLine) (ho : DE X o f) (he : DE X e g) (hf : DE X f' h) (m : M2 X o "get" apos e f' cpos) : DE X (.Call (.Attribute o "get" apos) [e, f'] [] cpos) (eDGet2 f g h) := zed (ztz hu ho he hf m) fun τ H Q hq0 => by
 obtain ⟨ρ,σ,st,v,st',a,rp,e,q⟩:=hq0;obtain ⟨x,st1,e1,e⟩:=zb e;refine ⟨ρ,σ,st,x,st1,a,rp,e1,fun ρ1 H1 u x1 rp1 a1=>?_⟩;split at e
 ·rename_i h0;obtain ⟨p,rfl,hd⟩:=zzg rp1 a1 h0;obtain ⟨y,st2,e2,e⟩:=zb e;obtain ⟨z,st3,e3,e⟩:=zb e;refine ⟨p,rfl,hd,?_⟩;refine ⟨ρ1,σ,st1,y,st2,a.ext x1,rp1,e2,fun ρ2 H2 w x2 rp2 a2=>?_⟩;refine ⟨ρ2,σ,st2,z,st3,a.ext (x1.trans x2),rp2,e3,fun ρ3 H3 t x3 rp3 a3=>?_⟩;split at e
  ·rename_i h1 h2;cases e;obtain ⟨p',oo,ep,g1,g2⟩:=zny rp3 (a1.ext (x2.trans x3)) (a2.ext x3) h1 h2;cases ep;refine ⟨oo,g1,q _ _ _ (x1.trans (x2.trans x3)) rp3 ?_⟩;revert g2;split
   ·rename_i hv;rintro ⟨vv,rfl,g3⟩;rw[hv];exact g3
   ·rename_i hv;rintro rfl;rw[hv];exact a3
  ·cases e
 ·cases e
theorem zbfg (hu : X.A.units + 1 < cLine) (ho : DE X o f) (he : DE X e g) (m : M1 X o "pop" apos e cpos) : DE X (.Call (.Attribute o "pop" apos) [e] [] cpos) (eDPop f g) := zed (ztx hu ho he m) fun τ H Q hq0 => by
 obtain ⟨ρ,σ,st,v,st',a,rp,e,q⟩:=hq0;obtain ⟨x,st1,e1,e⟩:=zb e;refine ⟨ρ,σ,st,x,st1,a,rp,e1,fun ρ1 H1 u x1 rp1 a1=>?_⟩;split at e
 ·rename_i h0;obtain ⟨p,rfl,hd⟩:=zzg rp1 a1 h0;obtain ⟨y,st2,e2,e⟩:=zb e;refine ⟨p,rfl,hd,?_⟩;refine ⟨ρ1,σ,st1,y,st2,a.ext x1,rp1,e2,fun ρ2 H2 w x2 rp2 a2=>?_⟩;split at e
  ·rename_i n k hk _;split at e
   ·rename_i kvs hn;split at e
    ·rename_i z hv;cases e;obtain ⟨p',ep,hp,vs,g1,g2⟩:=zdi rp2 (a1.ext x2) hn (by intro z;cases z);cases ep;obtain ⟨b,rfl,g3⟩:=zuq a2 hk;have g4:=g2.val k;rw[hv] at g4;obtain ⟨vv,g5,g6⟩:=g4;have E:Ext ρ2 H2 ρ2 (upd H2 p (.dT (dropK vs (k.map Sum.inl)))):=Ext.wr hp (zfv g1) _;exact ⟨vs,_,vv,b,g1,rfl,g3,g5,q _ _ _ ((x1.trans x2).trans E) (rp2.wr hp (zfv g1) ⟨_,zf,(g2.drop k).ext E⟩) (g6.ext E)⟩
    ·cases e
   ·cases e
  ·cases e
 ·cases e
theorem zzz (hu:X.A.units+1 < cLine) (ho:DE X o f) (hi:DE X i g) (hv:DE X value h) (hs:swapsWith value (some (.Subscript o i pos')) pos.line X.env=pure false) :
  DSt X (.Assign [.Subscript o i pos'] value pos) (sDPut f g h):=zif (zxr hu ho hi hv hs) fun E τ H hq0=>by
 obtain ⟨ρ,σ,st,fl,st',a,rp,e,q⟩:=hq0;obtain ⟨v,st1,e1,e⟩:=zb e;obtain ⟨x,st2,e2,e⟩:=zb e;obtain ⟨y,st3,e3,e⟩:=zb e;refine ⟨ρ,σ,st,v,st1,a,rp,e1,fun ρ1 H1 u x1 rp1 a1=>?_⟩;refine ⟨ρ1,σ,st1,x,st2,a.ext x1,rp1,e2,fun ρ2 H2 w x2 rp2 a2=>?_⟩;refine ⟨ρ2,σ,st2,y,st3,a.ext (x1.trans x2),rp2,e3,fun ρ3 H3 t x3 rp3 a3=>?_⟩;split at e
 ·rename_i n k hk _;split at e
  ·rename_i kvs hn;split at e
   ·rename_i hl;cases e;obtain ⟨p,rfl,hp,vs,g1,g2⟩:=zdi rp3 (a2.ext x3) hn (by intro z;cases z);obtain ⟨b,rfl,g3⟩:=zuq a3 hk;have E:Ext ρ3 H3 ρ3 (upd H3 p (.dT (putK vs (k.map Sum.inl) u))):=Ext.wr hp (zfv g1) _;refine ⟨p,_,rfl,DPut.t g1 g3 (by rw[← g2.length];exact hl),?_⟩;exact q _ _ _ ((x1.trans (x2.trans x3)).trans E) (rp3.wr hp (zfv g1) ⟨_,zf,(g2.put k (a1.ext (x2.trans x3))).ext E⟩) (a.ext ((x1.trans (x2.trans x3)).trans E))
   ·cases e
  ·cases e
 ·cases e
end
noncomputable def bSorted:List D->Store->Res D:=fun xs st=>match xs with
 | [x]=>match (asL st x).bind asRows with
  | some l=>if l.length<=1000000 then .ok (.lst (rowsD (sortR l))) st else .stuck
  | none=>match pairsOf st x with
   | some kvs=>if kvs.length<=1000000 then .ok (.lst (rowsD (sortR (kvs.map (·.1))))) st else .stuck
   | none=>.stuck
 | _=>.stuck
theorem zkq {K:Fg}:CaD K bSorted (fun xs H Q=>rSortedAL K xs H Q\/rSortedDAL xs H Q):=fun ρ H st xs us z st' Q rp aa e q=>by
 unfold bSorted at e;split at e
 ·obtain ⟨u,rfl,a⟩:=aa.one;split at e
  ·rename_i l hl;obtain ⟨ys,h0,hl⟩:=xec.mp hl;split at e
   ·rename_i few;cases e;obtain ⟨p,vs,rfl,h1,h2⟩:=zfk rp a h0;obtain ⟨ps,rfl,rfl,h3⟩:=zkr h2 hl;rw[xbf] at few;refine .inl ⟨p,ps,rfl,SqL.of h1,few,fun x hx=>SqT.of (h3 x hx).1,fun t qs ht hp hs=>?_⟩;have e2:qs.map (·.2)=sortR (ps.map (·.2)):=zik (hp.map _) hs;refine q _ _ _ (Ext.new ht _) (rp.new ht _) (.newL rp ht ?_);rw[← e2];exact zio qs fun x hx=>h3 x (hp.mem_iff.mp hx)
   ·cases e
  ·split at e
   ·rename_i kvs hk;split at e
    ·rename_i few;cases e;obtain ⟨p,vs,rfl,h1,h2⟩:=ziu rp a hk;refine .inr ⟨p,vs,kvs.map (·.1),rfl,h1,h2.keys,by rw[xbf];exact few,fun t qs ht hp hs hq=>?_⟩;have e2:qs.map (·.2)=sortR (kvs.map (·.1)):=zik hp hs;refine q _ _ _ (Ext.new ht _) (rp.new ht _) (.newL rp ht ?_);rw[← e2];exact zio qs fun x hx=>⟨hq x hx,zjw rp (hq x hx)⟩
    ·cases e
   ·cases e
 ·cases e
theorem zfg {X : Cx} (hc : X.calm = true) (hu : X.A.units + 64 < cLine) : CallR X (.builtin "sorted") (fun xs H Q => rSortedAL X.K xs H Q \/ rSortedDAL xs H Q) := (zia hu).or (zgy hc hu)
noncomputable def eAppend (f:SE) (g:SA):SE:=fun σ st=>(f σ st).bind fun x st1=>match x,asL st1 x with
 | .ref n,some _=>(g σ st1).bind fun ys st2=>match ys,st2[n]? with
  | [y],some (.lst xs)=>if xs.length < sizeLine then .ok .non (st2.set n (.lst (xs++[y]))) else .stuck
  | _,_=>.stuck
 | _,_=>.stuck
noncomputable def eExtend (f:SE) (g:SA):SE:=fun σ st=>(f σ st).bind fun x st1=>match x,asL st1 x with
 | .ref n,some _=>(g σ st1).bind fun ys st2=>match ys,st2[n]? with
  | [y],some (.lst xs)=>match asL st2 y with
   | some zs=>if xs.length+zs.length<=sizeLine then .ok .non (st2.set n (.lst (xs++zs))) else .stuck
   | none=>.stuck
  | _,_=>.stuck
 | _,_=>.stuck
noncomputable def eClear (f:SE):SE:=fun σ st=>(f σ st).bind fun x st1=>match x with
 | .ref n=>match st1[n]? with
  | some (.lst _)=>.ok .non (st1.set n (.lst []))
  | _=>.stuck
 | _=>.stuck
section
variable {X:Cx} {o e i value:Expr} {es:List Expr} {f g h:SE} {ga:SA} {pos apos cpos:Pos}
theorem zvo (ho : DE X o f) (ha : DA X (e :: es) ga) (hbase : attributeBase o "append" X.env (eval o X.env) = eval o X.env := by rfl)
  (hfew:((backTo cpos (starEach (e::es) X.env)).all (fun x=>!x.1) && (backToKw cpos (keywordEach [] X.env)).all (fun x=>x.1.isSome)
   && decide ((e::es).length+([]:List Keyword).length+(if ([]:List Keyword).isEmpty then 0 else 1) < 30))=true:=by rfl)
  (hline:(apos.endLine == cpos.line)=true:=by rfl) (hs:starEach (e::es) X.env=(false,eval e X.env)::starEach es X.env:=by rfl) (hplain:(backTo cpos (starEach es X.env)).any (·.1)=false:=by rfl) :
  DE X (.Call (.Attribute o "append" apos) (e :: es) [] cpos) (eAppend f ga) := zed (zbhm PySem.F.plainAttrs_list PySem.F.slot_list_append PySem.F.type_list_append zjx ho ha hbase hfew hline hs hplain) fun τ H Q hq0 => by
 obtain ⟨ρ,σ,st,v,st',a,rp,e,q⟩:=hq0;obtain ⟨x,st1,e1,e⟩:=zb e;refine ⟨ρ,σ,st,x,st1,a,rp,e1,fun ρ1 H1 u x1 rp1 a1=>?_⟩;split at e
 ·rename_i n _ hL;obtain ⟨ys,st2,e2,e⟩:=zb e;obtain ⟨p,vs,rfl,g1,g2⟩:=zfk rp1 a1 hL;refine ⟨.inl ⟨rfl,_,SqL.of g1⟩,ρ1,σ,st1,ys,st2,a.ext x1,rp1,e2,fun ρ2 H2 ws x2 rp2 a2=>?_⟩;split at e
  ·rename_i y xs hn;split at e
   ·rename_i hl;cases e;obtain ⟨w,rfl,a3⟩:=a2.one;obtain ⟨p',ep,hp,vs2,k1,k2⟩:=zdi rp2 (a1.ext x2) hn (by intro z;cases z);cases ep;have E:Ext ρ2 H2 ρ2 (upd H2 p (.lst (vs2++[w]))):=Ext.wr hp (zdx k1) _;exact ⟨p,vs2,w,rfl,rfl,k1,by rw[k2.length];exact hl,q _ _ _ ((x1.trans x2).trans E) (rp2.wr hp (zdx k1) ⟨_,zf,(k2.append (.cons a3 .nil)).ext E⟩) .non⟩
   ·cases e
  ·cases e
 ·cases e
theorem zbas (ho : DE X o f) (hbase : attributeBase o "clear" X.env (eval o X.env) = eval o X.env := by rfl) (hline : (apos.endLine == cpos.line) = true := by rfl) : DE X (.Call (.Attribute o "clear" apos) [] [] cpos) (eClear f) :=
 zed (zbda PySem.F.plainAttrs_list PySem.F.slot_list_clear PySem.F.type_list_clear zuk ho hbase hline) fun τ H Q hq0=>by
 obtain ⟨ρ,σ,st,v,st',a,rp,e,q⟩:=hq0;obtain ⟨x,st1,e1,e⟩:=zb e;refine ⟨ρ,σ,st,x,st1,a,rp,e1,fun ρ1 H1 u x1 rp1 a1=>?_⟩;split at e
 ·split at e
  ·rename_i n _ xs hn;cases e;obtain ⟨p,rfl,hp,vs2,k1,k2⟩:=zdi rp1 a1 hn (by intro z;cases z);have E:Ext ρ1 H1 ρ1 (upd H1 p (.lst [])):=Ext.wr hp (zdx k1) _;exact ⟨.inl ⟨rfl,_,SqL.of k1⟩,p,vs2,rfl,rfl,k1,q _ _ _ (x1.trans E) (rp1.wr hp (zdx k1) ⟨_,zf,.nil⟩) .non⟩
  ·cases e
 ·cases e
noncomputable def eFz (f:SE):SE:=fun σ st=>(f σ st).bind fun x st1=>match x with
 | .ref n=>match st1[n]? with
  | some (.lst xs)=>.ok (.lst xs) (st1.set n .dead)
  | _=>.stuck
 | _=>.stuck
end
noncomputable def sNx:SS:=fun σ st=>.ok (.nx σ) st
noncomputable def sBrk:SS:=fun σ st=>.ok (.brk σ) st
noncomputable def sCt:SS:=fun σ st=>.ok (.ct σ) st
noncomputable def sRet (f:SE):SS:=fun σ st=>(f σ st).bind fun v st1=>.ok (.ret v) st1
noncomputable def sRetN:SS:=fun _ st=>.ok (.ret .non) st
noncomputable def sDrop (f:SE):SS:=fun σ st=>(f σ st).bind fun _ st1=>.ok (.nx σ) st1
noncomputable def sSet (i:Nat) (f:SE):SS:=fun σ st=>(f σ st).bind fun v st1=>.ok (.nx (σ.set i (some v))) st1
noncomputable def sSeq (s t:SS):SS:=fun σ st=>match s σ st with
 | .ok (.nx σ1) st1=>t σ1 st1
 | r=>r
noncomputable def sIf (c:ST) (s t:SS):SS:=fun σ st=>(c σ st).bind fun b st1=>if b=true then s σ st1 else t σ st1
noncomputable def sAug (i:Nat) (g:D->D->Store->Res D) (f:SE):SS:=fun σ st=>match σ[i]? with
 | some (some x)=>(f σ st).bind fun y st1=>(g x y st1).bind fun z st2=>.ok (.nx (σ.set i (some z))) st2
 | _=>.stuck
noncomputable def sSetIx (f g h:SE):SS:=fun σ st=>(h σ st).bind fun v st1=>(f σ st1).bind fun x st2=>(g σ st2).bind fun y st3=>match x,y with
 | .ref n,.int k=>match st3[n]? with
  | some (.lst xs)=>match ixN xs.length k with
   | some j=>.ok (.nx σ) (st3.set n (.lst (xs.set j v)))
   | none=>.stuck
  | _=>.stuck
 | _,_=>.stuck
section
variable {X:Cx} {e c o i value:Expr} {sm:Stmt} {rest:List Stmt} {f g h:SE} {s t:SS} {b:ST} {pos pos':Pos}
theorem zbev:DSs X [] sNx:=zps zxo fun E τ H hq0=>by
 obtain ⟨ρ,σ,st,fl,st',a,rp,e,q⟩:=hq0;cases e;exact q _ _ _ (.refl _ _) rp a
theorem zbet (he:DE X e f):DSt X (.Return (some e) pos) (sRet f):=zif (zxq he) fun E τ H hq0=>by
 obtain ⟨ρ,σ,st,fl,st',a,rp,e,q⟩:=hq0;obtain ⟨x,st1,e1,e⟩:=zb e;cases e;exact ⟨ρ,σ,st,x,_,a,rp,e1,fun ρ1 H1 u x1 rp1 a1=>q _ _ _ x1 rp1 a1⟩
theorem zzy (he:DE X e f) (hs:swapsWith e none pos.line X.env=pure false:=by rfl):DSt X (.Expr e pos) (sDrop f):=zif (zsb he hs) fun E τ H hq0=>by
 obtain ⟨ρ,σ,st,fl,st',a,rp,e,q⟩:=hq0;obtain ⟨x,st1,e1,e⟩:=zb e;cases e;exact ⟨ρ,σ,st,x,_,a,rp,e1,fun ρ1 H1 u x1 rp1 a1=>q _ _ _ x1 rp1 (a.ext x1)⟩
theorem zbhe {K:Fg} {i:Nat} {f:SE}:∀E τ H,tDS K (sSet i f) E τ H->tAsg (tD K f) (gName i) E τ H:=fun E τ H hq0=>by
 obtain ⟨ρ,σ,st,fl,st',a,rp,e,q⟩:=hq0;obtain ⟨x,st1,e1,e⟩:=zb e;cases e;exact ⟨ρ,σ,st,x,_,a,rp,e1,fun ρ1 H1 u x1 rp1 a1=>q _ _ _ x1 rp1 ((a.ext x1).set a1 i)⟩
theorem zbes {i:Nat} {x:Str} (hN:X.N.Nodup) (hi:X.N[i]?=some x) (hx:L2.Loc X.env.scope x) (he:DE X e f) (hs:swapsWith e (some (.Name x pos')) pos.line X.env=pure false:=by rfl) (hf:X.fn x=true\/X.env.scope.names.lookup x=some .local:=by first | exact .inl rfl | exact .inr rfl | assumption) :
 DSt X (.Assign [.Name x pos'] e pos) (sSet i f):=zif (zbcq hN hi hx he hs hf) zbhe
theorem zbeu (h1:DSt X sm s):DSs X [sm] s:=zmm h1
theorem zbaa (h1:DSt X sm s) (h2:DSs X rest t):DSs X (sm::rest) (sSeq s t):=zps (zis h1 h2) fun E τ H hq0=>by
 obtain ⟨ρ,σ,st,fl,st',a,rp,e,q⟩:=hq0;unfold sSeq at e;split at e
 ·rename_i σ1 st1 e1;exact ⟨ρ,σ,st,_,st1,a,rp,e1,fun ρ1 H1 τ1 x1 rp1 a1=>⟨ρ1,σ1,st1,fl,st',a1,rp1,e,q.ext x1⟩⟩
 ·rename_i hne;refine ⟨ρ,σ,st,fl,st',a,rp,e,?_⟩;cases fl with
  | nx σ'=>exact absurd e (hne σ' st')
  | brk σ'=>exact q
  | ct σ'=>exact q
  | ret v=>exact q
theorem zbig {a' b':List Stmt} (hc:DT X c b) (ha:DSs X a' s) (hb:DSs X b' t):DSt X (.If c a' b' pos) (sIf b s t):=zif (zbgi hc ha hb) fun E τ H hq0=>by
 obtain ⟨ρ,σ,st,fl,st',a,rp,e,q⟩:=hq0;obtain ⟨x,st1,e1,e⟩:=zb e;refine ⟨ρ,σ,st,x,st1,a,rp,e1,fun ρ1 H1 x1 rp1=>?_⟩;cases x with
 | true=>exact iteT ⟨ρ1,σ,st1,fl,st',a.ext x1,rp1,e,q.ext x1⟩
 | false=>exact iteF ⟨ρ1,σ,st1,fl,st',a.ext x1,rp1,e,q.ext x1⟩
theorem zvd (he:DE X value h) (ho:DE X o f) (hi:DE X i g) (ha:∀v,assign (.Subscript o i pos') X.env v=(do
   let ov ← holding [v] (eval o X.env)
   let iv ← holding [v,ov] (eval i X.env)
   standAt pos'
   holding [v,ov,iv] (setItem ov iv v)
   release [v,ov,iv] []):=by intro _;rfl)
  (hs:swapsWithSole [.Subscript o i pos'] value pos.line X.env=pure false:=by rfl) (hw:swappedStores [.Subscript o i pos'] value X.env=pure none:=by rfl)
  (h1:(assignEach [.Subscript o i pos'] X.env).map (·.2)=[assign (.Subscript o i pos') X.env]:=by rfl):DSt X (.Assign [.Subscript o i pos'] value pos) (sSetIx f g h) :=
 zif (zbcr he (zbcu ho hi ztd ha) hs hw h1) fun E τ H hq0=>by
 obtain ⟨ρ,σ,st,fl,st',a,rp,e,q⟩:=hq0;obtain ⟨v,st1,e1,e⟩:=zb e;obtain ⟨x,st2,e2,e⟩:=zb e;obtain ⟨y,st3,e3,e⟩:=zb e;refine ⟨ρ,σ,st,v,st1,a,rp,e1,fun ρ1 H1 u x1 rp1 a1=>?_⟩;refine ⟨ρ1,σ,st1,x,st2,a.ext x1,rp1,e2,fun ρ2 H2 w x2 rp2 a2=>?_⟩;refine ⟨ρ2,σ,st2,y,st3,a.ext (x1.trans x2),rp2,e3,fun ρ3 H3 t x3 rp3 a3=>?_⟩;split at e
 ·rename_i n k _;split at e
  ·rename_i xs hn;split at e
   ·rename_i j hj;cases e;cases a3;obtain ⟨p,rfl,hp,vs,g1,g2⟩:=zdi rp3 (a2.ext x3) hn (by intro z;cases z);have E:Ext ρ3 H3 ρ3 (upd H3 p (.lst (vs.set j u))):=Ext.wr hp (zdx g1) _;refine ⟨p,vs,k,j,rfl,rfl,g1,by rw[g2.length];exact hj,?_⟩;exact q _ _ _ ((x1.trans (x2.trans x3)).trans E) (rp3.wr hp (zdx g1) ⟨_,zf,(g2.set (a1.ext (x2.trans x3)) j).ext E⟩) (a.ext ((x1.trans (x2.trans x3)).trans E))
   ·cases e
  ·cases e
 ·cases e
end
noncomputable abbrev SG:=D->DS->Option DS
noncomputable def gN (i:Nat):SG:=fun d σ=>some (σ.set i (some d))
noncomputable def gsNil:List D->DS->Option DS:=fun ds σ=>match ds with
 | []=>some σ
 | _=>none
noncomputable def gsCons (t:SG) (u:List D->DS->Option DS):List D->DS->Option DS:=fun ds σ=>match ds with
 | d::r=>(t d σ).bind fun σ1=>u r σ1
 | _=>none
noncomputable def gT (n:Nat) (u:List D->DS->Option DS):SG:=fun d σ=>match d with
 | .tup ds=>if ds.length=n then u ds σ else none
 | _=>none
noncomputable def gD (K:Fg) (b:SG):TG:=fun v τ H Q=>∃ρ σ d σ',AtS K ρ H σ τ/\At K ρ H d v/\b d σ=some σ'/\∀τ',AtS K ρ H σ' τ'->Q τ' H
noncomputable def gDs (K:Fg) (b:List D->DS->Option DS):TGs:=fun vs τ H Q=>∃ρ σ ds σ',AtS K ρ H σ τ/\AtAll K ρ H ds vs/\b ds σ=some σ'/\∀τ',AtS K ρ H σ' τ'->Q τ' H
noncomputable abbrev DG (X:Cx) (tg:Expr) (b:SG):Prop:=PG X tg (gD X.K b)
noncomputable abbrev DGs (X:Cx) (ts:List Expr) (b:List D->DS->Option DS):Prop:=PGs X ts (gDs X.K b)
section
variable {X:Cx} {pos:Pos} {e:Expr} {es:List Expr} {t:SG} {u:List D->DS->Option DS}
theorem zbgl {g g':TG} (h:PG X e g) (k:∀v τ H Q,g' v τ H Q->g v τ H Q):PG X e g':=fun pins s σ H v u Q I r q=>h pins s σ H v u Q I r (k _ _ _ _ q)
theorem zxy {g g':TGs} (h:PGs X es g) (k:∀v τ H Q,g' v τ H Q->g v τ H Q):PGs X es g':=fun pins s σ H v u Q I r q=>h pins s σ H v u Q I r (k _ _ _ _ q)
theorem zbah {i:Nat} {x:Str} (hN:X.N.Nodup) (hi:X.N[i]?=some x) (hx:L2.Loc X.env.scope x) (hf:X.fn x=true\/X.env.scope.names.lookup x=some .local:=by first | exact .inl rfl | exact .inr rfl | assumption):DG X (.Name x pos) (gN i) :=
 zbgl (zya hN hi hx hf) fun v τ H Q hq0=>by
 obtain ⟨ρ,σ,d,σ',a,b,e,q⟩:=hq0;cases e;exact q _ (a.set b i)
theorem zbag:DGs X [] gsNil:=zxy zxz fun v τ H Q hq0=>by
 obtain ⟨ρ,σ,d,σ',a,b,e,q⟩:=hq0;unfold gsNil at e;split at e
 ·cases e;cases b;exact ⟨rfl,q _ a⟩
 ·cases e
theorem zvi (h1:DG X e t) (h2:DGs X es u) (hs:(assignEach (e::es) X.env).map (·.2)=assign e X.env::(assignEach es X.env).map (·.2):=by rfl):DGs X (e::es) (gsCons t u) :=
 zxy (ztu h1 h2 hs) fun v τ H Q hq0=>by
 obtain ⟨ρ,σ,d,σ',a,b,e,q⟩:=hq0;unfold gsCons at e;split at e
 ·obtain ⟨σ1,e1,e2⟩:=xec.mp e;cases b with
  | cons b1 b2=>exact ⟨_,_,rfl,ρ,σ,_,σ1,a,b1,e1,fun τ1 a1=>⟨ρ,σ1,_,σ',a1,b2,e2,q⟩⟩
 ·cases e
theorem zbfa {k:Nat} {n:Nat} (hc:X.calm=true) (h:DGs X es u) (hn:(assignEach es X.env).length=n:=by rfl) (hst:(assignEach es X.env).findIdx? (·.1)=none:=by rfl):DG X (.Tuple es k pos) (gT n u) :=
 zbgl (zbct hc h hn hst) fun v τ H Q hq0=>by
 obtain ⟨ρ,σ,d,σ',a,b,e,q⟩:=hq0;unfold gT at e;split at e
 ·split at e
  ·rename_i hl;cases b with
   | tup h1 h2 h3=>exact ⟨_,_,rfl,SqT.of h1,by rw[h3.length];exact hl,ρ,σ,_,σ',a,h3,e,q⟩
  ·cases e
 ·cases e
end
structure ExtG (ρ:Loc) (H:Hp) (ρ':Loc) (H':Hp):Prop where
 len:ρ.m.length<=ρ'.m.length
 old:∀(n:Nat) (a:Addr),n < ρ.m.length->ρ'.m[n]?=some (some a)->ρ.m[n]?=some (some a)
 keep:∀a o,H a=some o->some a∉ρ.m->H' a=some o/\some a∉ρ'.m
 gho:∀a∈ρ'.g,a∈ρ.g\/H a=none
 frz:∀a ob u,H a=some (.frz ob u)->H' a=some (.frz ob u)
theorem Ext.toG {ρ ρ':Loc} {H H':Hp} (x:Ext ρ H ρ' H'):ExtG ρ H ρ' H':=⟨x.len,x.old,x.keep,fun a h=>.inl (by rw[← x.gho];exact h),x.frz⟩
theorem ExtG.then {ρ ρ1 ρ2:Loc} {H H1 H2:Hp} (a:ExtG ρ H ρ1 H1) (b:Ext ρ1 H1 ρ2 H2):ExtG ρ H ρ2 H2 :=
 ⟨xbb a.len b.len,fun n c h e=>a.old n c h (b.old n c (xbh h a.len) e),fun c o e n=>by
  obtain ⟨e1,n1⟩:=a.keep c o e n
  exact b.keep c o e1 n1,fun c h=>a.gho c (by rw[← b.gho];exact h),fun c ob u e=>b.frz c ob u (a.frz c ob u e)⟩
theorem ExtG.out {ρ ρ':Loc} {H H':Hp} (x:ExtG ρ H ρ' H') {a:Addr} {o:HO} (h:H a=some o) (n:Out ρ a):H' a=some o/\Out ρ' a :=
 ⟨(x.keep a o h n.1).1,(x.keep a o h n.1).2,fun z=>by
  rcases x.gho a z with q | q
  ·exact n.2 q
  ·rw[h] at q;cases q⟩
theorem ExtG.mv {ρ ρ':Loc} {H H':Hp} (x:ExtG ρ H ρ' H'):Mv ρ H ρ' H':=⟨fun h n=>x.out h n,x.len,x.old⟩
theorem At.extG {K:Fg} {ρ ρ':Loc} {H H':Hp} (x:ExtG ρ H ρ' H') {d:D} {v:V} (h:At K ρ H d v):At K ρ' H' d v:=h.mv x.mv
theorem Ls.extG {K:Fg} {ρ ρ':Loc} {H H':Hp} {a:Addr} {vs:List V} (x:ExtG ρ H ρ' H') (h:Ls K ρ H a vs):Ls K ρ' H' a vs:=h.mv x.mv
structure ItOk (K:Fg) (ρ:Loc) (H:Hp) (J:It) (xs:List D):Prop where
 item:∀ρ2 H2,ExtG ρ H ρ2 H2->∀(i:Nat) (x:D),xs[i]?=some x->J.go i H2/\∀y H3,J.yld i H2 y H3->Ext ρ2 H2 ρ2 H3/\∀st,Rep K ρ2 st H2->Rep K ρ2 st H3/\At K ρ2 H3 x y
 done:∀ρ2 H2,ExtG ρ H ρ2 H2->∀i:Nat,xs.length<=i->J.stop i H2
noncomputable def iD (K:Fg) (f:SA):TI:=fun τ H R=>∃ρ σ st xs st',AtS K ρ H σ τ/\Rep K ρ st H/\f σ st=.ok xs st'/\∀ρ' H' J,Ext ρ H ρ' H'->Rep K ρ' st' H'->ItOk K ρ' H' J xs->R J H'
noncomputable abbrev DI (X:Cx) (tg iter:Expr) (f:SA):Prop:=PI X tg iter (iD X.K f)
noncomputable def seqV:D->Option (List D)
 | .tup xs=>some xs
 | .lst xs=>some xs
 | .scr xs=>some xs
 | _=>none
noncomputable def iSeq (f:SE):SA:=fun σ st=>(f σ st).bind fun x st1=>match seqV x with
 | some xs=>.ok xs st1
 | none=>.stuck
noncomputable def rng (lo:Int) (n:Nat):List D:=(List.range n).map fun (i:Nat)=>D.int (lo+i)
noncomputable def iR1 (g:SA):SA:=fun σ st=>(g σ st).bind fun xs st1=>match xs with
 | [.int j]=>if -(2 ^ 62)<=j/\j < 2 ^ 62 then .ok (rng 0 j.toNat) st1 else .stuck
 | _=>.stuck
noncomputable def iR2 (g:SA):SA:=fun σ st=>(g σ st).bind fun xs st1=>match xs with
 | [.int i,.int j]=>if -(2 ^ 62)<=i/\i < 2 ^ 62/\-(2 ^ 62)<=j/\j < 2 ^ 62 then .ok (rng i (j - i).toNat) st1 else .stuck
 | _=>.stuck
theorem zet {lo:Int} {n i:Nat} {x:D} (h:(rng lo n)[i]?=some x):i < n/\x=.int (lo+i):=by
 unfold rng at h;rw[xcp] at h;rcases xex i n with z | z
 ·rw[List.getElem?_range z] at h;exact ⟨z,(xbw h).symm⟩
 ·rw[xjf (by rw[xkg];exact z)] at h;cases h
theorem zbdz {K:Fg} {ρ:Loc} {H:Hp} {lo:Int} {n:Nat}:ItOk K ρ H (Itr lo n) (rng lo n) where
 item:=fun ρ2 H2 x i d e=>by
  obtain ⟨h1,rfl⟩:=zet e;refine ⟨h1,fun y H3 hy=>?_⟩;obtain ⟨rfl,rfl⟩:=hy;exact ⟨.refl _ _,fun _ r=>⟨r,.int _⟩⟩
 done:=fun ρ2 H2 x i h=>by
  unfold rng at h;rw[xbf,xkg] at h;exact h
section
variable {X:Cx} {tg l a b:Expr} {f:SE} {g:SA} {p pos:Pos}
theorem zbcs {t t':TI} (h:PI X tg l t) (k:∀τ H R,t' τ H R->t τ H R):PI X tg l t':=fun pins s σ H R I q=>h pins s σ H R I (k _ _ _ q)
theorem zbgk {t t':TI} (h:PI X tg l t) (h':PI X tg l t'):PI X tg l (fun τ H R=>t τ H R\/t' τ H R):=fun pins s σ H R I q=>by
 rcases q with q | q
 ·exact h pins s σ H R I q
 ·exact h' pins s σ H R I q
theorem zsy {K:Fg} {ρ:Loc} {H:Hp} {p:Addr} {xs:List D} {vs:List V} (hs:∀ρ2 H2,ExtG ρ H ρ2 H2->SqL K H2 p vs) (al:AtAll K ρ H xs vs):ItOk K ρ H (Itl K p) xs where
 item:=fun ρ2 H2 x i d e=>by
  obtain ⟨v,hv,a⟩:=al.get e;refine ⟨⟨vs,v,hs _ _ x,hv⟩,fun y H3 hy=>?_⟩;obtain ⟨rfl,h2⟩:=hy;have:=h2 vs (hs _ _ x);rw[hv] at this;cases this;exact ⟨.refl _ _,fun _ r=>⟨r,a.extG x⟩⟩
 done:=fun ρ2 H2 x i h=>⟨vs,hs _ _ x,by rw[al.length];exact h⟩
theorem zbga {K:Fg} {ρ:Loc} {H:Hp} {p:Addr} {xs:List D} {vs:List V} (hs:∀ρ2 H2,ExtG ρ H ρ2 H2->SqT K H2 p vs) (al:AtAll K ρ H xs vs):ItOk K ρ H (Itt K p) xs where
 item:=fun ρ2 H2 x i d e=>by
  obtain ⟨v,hv,a⟩:=al.get e;refine ⟨⟨vs,v,hs _ _ x,hv⟩,fun y H3 hy=>?_⟩;obtain ⟨rfl,h2⟩:=hy;have:=h2 vs (hs _ _ x);rw[hv] at this;cases this;exact ⟨.refl _ _,fun _ r=>⟨r,a.extG x⟩⟩
 done:=fun ρ2 H2 x i h=>⟨vs,hs _ _ x,by rw[al.length];exact h⟩
theorem zbez (hl:DE X l f):DI X tg l (iSeq f):=zbcs (zbgk (zsc hl) (zxw hl)) fun τ H R hq0=>by
 obtain ⟨ρ,σ,st,xs,st',a,rp,e,q⟩:=hq0;obtain ⟨x,st1,e1,e⟩:=zb e;cases x with
 | tup ys =>
  cases e;refine .inr ⟨ρ,σ,st,_,_,a,rp,e1,fun ρ1 H1 u x1 rp1 a1=>?_⟩;cases a1 with
  | tup h1 h2 h3=>exact ⟨_,rfl,⟨_,SqT.of h1⟩,q _ _ _ x1 rp1 (zbga (fun ρ2 H2 x2=>SqT.of (x2.out h1 h2).1) h3)⟩
 | lst ys =>
  cases e;refine .inl ⟨ρ,σ,st,_,_,a,rp,e1,fun ρ1 H1 u x1 rp1 a1=>?_⟩;cases a1 with
  | lst h1 h2 h3=>exact ⟨_,rfl,⟨_,SqL.of h1⟩,q _ _ _ x1 rp1 (zsy (fun ρ2 H2 x2=>SqL.of (x2.out h1 h2).1) h3)⟩
 | scr ys =>
  cases e;refine .inl ⟨ρ,σ,st,_,_,a,rp,e1,fun ρ1 H1 u x1 rp1 a1=>?_⟩;cases a1 with
  | scr h1 h3=>exact ⟨_,rfl,⟨_,h1.sq⟩,q _ _ _ x1 rp1 (zsy (fun ρ2 H2 x2=>(h1.extG x2).sq) h3)⟩
 | _=>cases e
theorem zrb (hg : Gl X "range") (hm : X.mg "range" = none) (ha : DA X [a] g) (hs : starEach [a] X.env = [(false, eval a X.env)] := by rfl) : DI X tg (.Call (.Name "range" p) [a] [] pos) (iR1 g) :=
 zbcs (zpv hg hm ha hs) fun τ H R hq0=>by
 obtain ⟨ρ,σ,st,xs,st',a,rp,e,q⟩:=hq0;obtain ⟨x,st1,e1,e⟩:=zb e;split at e
 ·split at e
  ·rename_i hj;cases e;refine ⟨ρ,σ,st,_,_,a,rp,e1,fun ρ1 H1 u x1 rp1 a1=>?_⟩;obtain ⟨w,rfl,a2⟩:=a1.one;cases a2;exact ⟨_,rfl,hj.1,hj.2,q _ _ _ x1 rp1 zbdz⟩
  ·cases e
 ·cases e
end
noncomputable def iDict (f:SE):SA:=fun σ st=>(f σ st).bind fun x st1=>match x with
 | .ref n=>match st1[n]? with
  | some (.dT kvs)=>.ok (rowsD (kvs.map (·.1))) (st1.set n (.fT kvs))
  | _=>.stuck
 | _=>.stuck
section
variable {X:Cx} {tg l:Expr} {f:SE}
theorem zbaf (hl:DE X l f):DI X tg l (iDict f):=zbcs (zxx hl) fun τ H R hq0=>by
 obtain ⟨ρ,σ,st,xs,st',a,rp,e,q⟩:=hq0;obtain ⟨x,st1,e1,e⟩:=zb e;refine ⟨ρ,σ,st,x,st1,a,rp,e1,fun ρ1 H1 u x1 rp1 a1=>?_⟩;split at e
 ·rename_i n;split at e
  ·rename_i kvs hn;cases e;obtain ⟨p,rfl,hp,vs,g1,g2⟩:=zdi rp1 a1 hn (by intro z;cases z);refine ⟨p,vs,kvs.map (·.1),rfl,g1,g2.keys,fun ob ps h1 h2=>?_⟩;have E:Ext ρ1 H1 ρ1 (upd H1 p (.frz ob (.dT vs))):=Ext.wr hp (zfv g1) _;have R:Rep X.K ρ1 (st1.set n (.fT kvs)) (upd H1 p (.frz ob (.dT vs))):=rp1.wr hp (zfv g1) ⟨vs,ob,zf,g2.ext E⟩;refine q _ _ _ (x1.trans E) R ⟨fun ρ2 H2 x2 i d e=>?_,fun ρ2 H2 x2 i h=>?_⟩
   ·have e2:(ps.map (·.2))[i]?=(kvs.map (·.1))[i]?:=by rw[h1]
    unfold rowsD at e;rw[xcp,← e2,xcp] at e;cases hi:ps[i]? with
    | none=>rw[hi] at e;cases e
    | some x =>
     rw[hi] at e;cases e;refine ⟨⟨(xbo.mp hi).1,x2.frz _ _ _ zf⟩,fun y H3 hy=>?_⟩;obtain ⟨rfl,x',hx',rfl⟩:=hy;rw[hi] at hx';cases hx';have ht:=h2 x (xch hi);have a3:At X.K ρ1 H1 (rowD x.2) (.ref x.1):=.tup ht (zjw rp1 ht) (zgq _);exact ⟨.refl _ _,fun _ r=>⟨r,(a3.ext E).extG x2⟩⟩
   ·have e2:=congrArg List.length h1;rw[xbf] at e2;unfold rowsD at h;rw[xbf,← e2] at h;exact ⟨h,x2.frz _ _ _ zf⟩
  ·cases e
 ·cases e
end
noncomputable def forF (bd:SG) (body:SS):List D->SS
 | [],σ,st=>.ok (.nx σ) st
 | x::xs,σ,st=>match bd x σ with
  | none=>.stuck
  | some σ1=>match body σ1 st with
   | .ok (.nx σ2) st2=>forF bd body xs σ2 st2
   | .ok (.ct σ2) st2=>forF bd body xs σ2 st2
   | .ok (.brk σ2) st2=>.ok (.nx σ2) st2
   | r=>r
noncomputable def sFor (it:SA) (bd:SG) (body:SS):SS:=fun σ st=>(it σ st).bind fun xs st1=>forF bd body xs σ st1
noncomputable def whileF (c:ST) (body:SS):Nat->SS
 | 0,_,_=>.stuck
 | n+1,σ,st=>(c σ st).bind fun b st1=>if b=true then (match body σ st1 with
  | .ok (.nx σ2) st2=>whileF c body n σ2 st2
  | .ok (.ct σ2) st2=>whileF c body n σ2 st2
  | .ok (.brk σ2) st2=>.ok (.nx σ2) st2
  | r=>r) else .ok (.nx σ) st1
noncomputable def wCap:Nat:=1000000
noncomputable def sWhile (c:ST) (body:SS):SS:=whileF c body wCap
theorem zgc {α:Type} {xs:List α} {i:Nat} (h:i < xs.length):∃x,xs[i]?=some x/\xs.drop i=x::xs.drop (i+1):=⟨xs[i],xbe h,xgl h⟩
section
variable {X:Cx} {tg iter c:Expr} {body:List Stmt} {it:SA} {bd:SG} {b:SS} {t:ST} {pos:Pos}
theorem zbex (hp:PassesOwn (model X.prog X.w) X.A X.env X.xe) (hc:X.calm=true) (hi:DI X tg iter it) (hg:DG X tg bd) (hb:DSs X body b) (hs:∀x,foldedSetIterable iter X.env x=pure x:=by intro _;rfl) :
  DSt X (.For tg iter body [] pos) (sFor it bd b):=zif (ztp hp hc hi hg hb hs) fun E τ H hq0=>by
 obtain ⟨ρ,σ,st,fl,st',a,rp,e,q⟩:=hq0;obtain ⟨xs,st1,e1,e⟩:=zb e;refine ⟨ρ,σ,st,xs,st1,a,rp,e1,fun ρ1 H1 J x1 rp1 ok=>?_⟩;have q1:=q.ext x1;refine ⟨fun i m τ' H'=>i+m=xs.length/\∃ρ2 σ2 st2,Ext ρ1 H1 ρ2 H'/\AtS X.K ρ2 H' σ2 τ'/\Rep X.K ρ2 st2 H'/\forF bd b (xs.drop i) σ2 st2=.ok fl st',⟨xs.length,by lia,ρ1,σ,st1,.refl _ _,a.ext x1,rp1,e⟩,?_⟩;rintro i m τ' H' ⟨him,ρ2,σ2,st2,x2,a2,rp2,e2⟩;rcases xex i xs.length with hlt | hge
 ·obtain ⟨x,hx,hd⟩:=zgc hlt;rw[hd] at e2;obtain ⟨go,yl⟩:=ok.item ρ2 H' x2.toG i x hx;refine .inr ⟨go,fun τ3 H3=>∃ρ3 σ3 st3,Ext ρ1 H1 ρ3 H3/\AtS X.K ρ3 H3 σ3 τ3/\Rep X.K ρ3 st3 H3/\forF bd b (xs.drop (i+1)) σ3 st3=.ok fl st',fun τ3 H3 ⟨ρ3,σ3,st3,n1,n2,n3,n4⟩=>⟨m - 1,by lia,by lia,ρ3,σ3,st3,n1,n2,n3,n4⟩,fun y H3 hy=>?_⟩;obtain ⟨y1,y4⟩:=yl y H3 hy;obtain ⟨y2,y3⟩:=y4 _ rp2;unfold forF at e2;cases hbd:bd x σ2 with
  | none=>rw[hbd] at e2;cases e2
  | some σ1 =>
   rw[hbd] at e2;dsimp only at e2;have X3:=x2.trans y1;refine ⟨ρ2,σ2,x,σ1,a2.ext y1,y3,hbd,fun τ4 a4=>?_⟩;cases hr:b σ1 st2 with
   | stuck=>rw[hr] at e2;cases e2
   | exc z w=>rw[hr] at e2;cases e2
   | ok fb st3 =>
    rw[hr] at e2;refine ⟨ρ2,σ1,st2,fb,st3,a4,y2,hr,?_⟩;cases fb with
    | nx σ3=>exact fun ρ' H'' τ5 x5 rp5 a5=>⟨ρ',σ3,st3,X3.trans x5,a5,rp5,e2⟩
    | ct σ3=>exact fun ρ' H'' τ5 x5 rp5 a5=>⟨ρ',σ3,st3,X3.trans x5,a5,rp5,e2⟩
    | brk σ3 =>
     dsimp only at e2;cases e2;exact fun ρ' H'' τ5 x5 rp5 a5=>q1 _ _ _ (X3.trans x5) rp5 a5
    | ret v =>
     dsimp only at e2;cases e2;exact fun ρ' H'' u x5 rp5 a5=>q1 _ _ _ (X3.trans x5) rp5 a5
 ·rw[xdu hge] at e2;unfold forF at e2;cases e2;exact .inl ⟨ok.done ρ2 H' x2.toG i hge,q1 _ _ _ x2 rp2 a2⟩
theorem zvc (hp:PassesOwn (model X.prog X.w) X.A X.env X.xe) (hc:DT X c t) (hb:DSs X body b):DSt X (.While c body [] pos) (sWhile t b):=zif (ztn hp hc hb) fun E τ H hq0=>by
 obtain ⟨ρ,σ,st,fl,st',a,rp,e,q⟩:=hq0;unfold sWhile at e;generalize wCap=n at e;refine ⟨fun m τ' H'=>∃ρ2 σ2 st2,Ext ρ H ρ2 H'/\AtS X.K ρ2 H' σ2 τ'/\Rep X.K ρ2 st2 H'/\whileF t b m σ2 st2=.ok fl st',⟨n,ρ,σ,st,.refl _ _,a,rp,e⟩,?_⟩;rintro m τ' H' ⟨ρ2,σ2,st2,x2,a2,rp2,e2⟩;cases m with
 | zero=>unfold whileF at e2;cases e2
 | succ m =>
  unfold whileF at e2;obtain ⟨x,st3,e3,e4⟩:=zb e2;refine ⟨ρ2,σ2,st2,x,st3,a2,rp2,e3,fun ρ3 H3 x3 rp3=>?_⟩;have X3:=x2.trans x3;cases x with
  | false =>
   rw[if_neg (by decide)] at e4;cases e4;exact iteF (q _ _ _ X3 rp3 (a2.ext x3))
  | true =>
   rw[if_pos rfl] at e4;refine iteT ⟨fun τ4 H4=>∃ρ4 σ4 st4,Ext ρ H ρ4 H4/\AtS X.K ρ4 H4 σ4 τ4/\Rep X.K ρ4 st4 H4/\whileF t b m σ4 st4=.ok fl st',fun τ4 H4 hh=>⟨m,xjb m,hh⟩,?_⟩;cases hr:b σ2 st3 with
   | stuck=>rw[hr] at e4;cases e4
   | exc z w=>rw[hr] at e4;cases e4
   | ok fb st5 =>
    rw[hr] at e4;refine ⟨ρ3,σ2,st3,fb,st5,a2.ext x3,rp3,hr,?_⟩;cases fb with
    | nx σ3=>exact fun ρ' H'' τ5 x5 rp5 a5=>⟨ρ',σ3,st5,X3.trans x5,a5,rp5,e4⟩
    | ct σ3=>exact fun ρ' H'' τ5 x5 rp5 a5=>⟨ρ',σ3,st5,X3.trans x5,a5,rp5,e4⟩
    | brk σ3 =>
     dsimp only at e4;cases e4;exact fun ρ' H'' τ5 x5 rp5 a5=>q _ _ _ (X3.trans x5) rp5 a5
    | ret v =>
     dsimp only at e4;cases e4;exact fun ρ' H'' u x5 rp5 a5=>q _ _ _ (X3.trans x5) rp5 a5
end
noncomputable def compF (bd:SG) (c:ST) (f:SE):List D->DS->Store->Res (List D)
 | [],_,st=>.ok [] st
 | x::xs,σ,st=>match bd x σ with
  | none=>.stuck
  | some σ1=>(c σ1 st).bind fun b st1=>if b=true then (f σ1 st1).bind fun y st2=>(compF bd c f xs σ1 st2).bind fun ys st3=>.ok (y::ys) st3 else compF bd c f xs σ1 st1
noncomputable def startD (k:Nat) (is:List Nat) (σ:DS):DS:=List.replicate k none++is.map fun i=>(σ[i]?).getD none
noncomputable def eComp (it:SA) (k:Nat) (is:List Nat) (bd:SG) (c:ST) (f:SE):SE:=fun σ st=>(it σ st).bind fun xs st1=>if xs.length<=sizeLine then (compF bd c f xs (startD k is σ) st1).bind fun ys st2=>.ok (.lst ys) st2 else .stuck
noncomputable def bYes:ST:=fun _ st=>.ok true st
theorem AtS.start {K:Fg} {ρ:Loc} {H:Hp} {σ:DS} {τ:St} (h:AtS K ρ H σ τ) (k:Nat) (is:List Nat):AtS K ρ H (startD k is σ) (startC k is τ):=by
 have app:∀{a c:DS} {b d:St},AtS K ρ H a b->AtS K ρ H c d->AtS K ρ H (a++c) (b++d):=fun h1 h2=>by
  induction h1 with
  | nil=>exact h2
  | cons r t ih=>exact .cons r ih
 refine app ?_ ?_
 ·induction k with
  | zero=>exact .nil
  | succ k ih=>exact .cons (fun d e=>nomatch e) ih
 ·induction is with
  | nil=>exact .nil
  | cons i is ih =>
   refine .cons (fun d e=>?_) ih;have e:(σ[i]?).getD none=some d:=e;have e':σ[i]?=some (some d):=by
    cases q:σ[i]? with
    | none=>rw[q] at e;cases e
    | some o=>rw[q] at e;exact congrArg some e
   obtain ⟨u,hu,a⟩:=h.get e';exact ⟨u,by show (τ[i]?).getD none=some u;rw[hu];rfl,a⟩
noncomputable def Loc.with (ρ:Loc) (p:Addr):Loc:=⟨ρ.m,p::ρ.g⟩
theorem zwu {ρ:Loc} {H:Hp} {p:Addr} {o:HO} (hp:H p=none):Mv ρ H (ρ.with p) (upd H p o):=⟨fun e n=>⟨by rw[zj (zh e hp)];exact e,n.1,fun z=>by
 rcases xbn.mp z with z | z
 ·exact zh e hp z
 ·exact n.2 z⟩,xbg _,fun _ _ _ e=>e⟩
theorem At.with {K:Fg} {ρ:Loc} {H:Hp} {p:Addr} {o:HO} (hp:H p=none) {d:D} {v:V} (h:At K ρ H d v):At K (ρ.with p) (upd H p o) d v:=h.mv (zwu hp)
theorem zsj {ρ ρ':Loc} {H:Hp} {p:Addr} {o:HO} (hm:ρ'.m=ρ.m) (hg:p∈ρ.g) (hs:∀a,a∈ρ'.g->a∈ρ.g):Mv ρ H ρ' (upd H p o):=⟨fun e n=>⟨by rw[zj (by rintro rfl;exact n.2 hg)];exact e,by rw[hm];exact n.1,fun z=>n.2 (hs _ z)⟩,by rw[hm];exact xbg _,fun _ _ _ e=>by rw[hm] at e;exact e⟩
theorem At.grow {K:Fg} {ρ ρ':Loc} {H:Hp} {p:Addr} {o:HO} (hm:ρ'.m=ρ.m) (hg:p∈ρ.g) (hs:∀a,a∈ρ'.g->a∈ρ.g) {d:D} {v:V} (h:At K ρ H d v):At K ρ' (upd H p o) d v:=h.mv (zsj hm hg hs)
theorem AtAll.grow {K:Fg} {ρ ρ':Loc} {H:Hp} {p:Addr} {o:HO} (hm:ρ'.m=ρ.m) (hg:p∈ρ.g) (hs:∀a,a∈ρ'.g->a∈ρ.g) {d:List D} {v:List V} (h:AtAll K ρ H d v):AtAll K ρ' (upd H p o) d v:=h.mv (zsj hm hg hs)
theorem OAt.map {K:Fg} {ρ ρ':Loc} {H H':Hp} {a:Addr} {x:O} (k:∀d v,At K ρ H d v->At K ρ' H' d v) (fz:∀b ob u,H b=some (.frz ob u)->H' b=some (.frz ob u)) (same:H' a=H a) (h:OAt K ρ H x a):OAt K ρ' H' x a:=by
 have ka:∀{d:List D} {v:List V},AtAll K ρ H d v->AtAll K ρ' H' d v:=fun {d v} h=>by
  induction d generalizing v with
  | nil=>cases h;exact .nil
  | cons x xs ih=>cases h with | cons a b=>exact .cons (k _ _ a) (ih b)
 cases x with
 | lst xs=>obtain ⟨vs,q,r⟩:=h;exact ⟨vs,by rw[same];exact q,ka r⟩
 | dT kvs=>obtain ⟨vs,q,r⟩:=h;exact ⟨vs,by rw[same];exact q,Paired.mapP r fun p q z=>⟨z.1,k _ _ z.2⟩⟩
 | fT kvs=>obtain ⟨vs,ob,q,r⟩:=h;exact ⟨vs,ob,by rw[same];exact q,Paired.mapP r fun p q z=>⟨z.1,k _ _ z.2⟩⟩
 | dead=>exact h.elim
 | tab=>obtain ⟨c,ps,q,r⟩:=h;exact ⟨c,ps,by rw[same];exact q,r.map fz⟩
theorem Rep.with {K:Fg} {ρ:Loc} {st:Store} {H:Hp} {p:Addr} (r:Rep K ρ st H) (hp:H p=none) (vs:List V):Rep K (ρ.with p) st (upd H p (.lst vs)) :=
 ⟨r.len,r.inj,fun m b y e1 e2=>by
  have q:=r.obj m b y e1 e2;obtain ⟨u,hu⟩:=q.has;exact q.map (fun d v h=>h.with hp) (fun b ob u e=>by rw[zj (zh e hp)];exact e) (zj (zh hu hp)),fun a ha=>by
  rcases xbn.mp ha with rfl | ha
  ·exact ⟨⟨vs,zf⟩,(zdj r hp).1⟩
  ·obtain ⟨⟨ws,h1⟩,h2⟩:=r.gh a ha
   exact ⟨⟨ws,by rw[zj (zh h1 hp)];exact h1⟩,h2⟩,r.live⟩
theorem Rep.grow {K:Fg} {ρ ρ':Loc} {st:Store} {H:Hp} {p:Addr} (r:Rep K ρ st H) (hm:ρ'.m=ρ.m) (hg:p∈ρ.g) (hs:∀a,a∈ρ'.g->a∈ρ.g) (vs:List V):Rep K ρ' st (upd H p (.lst vs)) :=
 ⟨by rw[hm];exact r.len,by rw[hm];exact r.inj,fun m b y e1 e2=>by
  rw[hm] at e1;refine (r.obj m b y e1 e2).map (fun d v h=>h.grow hm hg hs) (fun b ob u e=>by rw[zj (by rintro rfl;obtain ⟨⟨_,z⟩,_⟩:=r.gh _ hg;rw[e] at z;cases z)];exact e) (zj ?_);rintro rfl;exact (r.gh b hg).2 (xch e1),fun a ha=>by
  obtain ⟨⟨ws,h1⟩,h2⟩:=r.gh a (hs a ha);refine ⟨?_,by rw[hm];exact h2⟩;by_cases e:a=p
  ·subst e;exact ⟨vs,zf⟩
  ·exact ⟨ws,by rw[zj e];exact h1⟩,by rw[hm];exact r.live⟩
theorem AtS.map {K:Fg} {ρ ρ':Loc} {H H':Hp} {σ:DS} {τ:St} (k:∀d v,At K ρ H d v->At K ρ' H' d v) (h:AtS K ρ H σ τ):AtS K ρ' H' σ τ:=Paired.mapP h fun o v z d e=>by
 obtain ⟨u,e1,a⟩:=z d e;exact ⟨u,e1,k _ _ a⟩
section
variable {X:Cx} {tg iter elt:Expr} {ifs:List Expr} {it:SA} {bd:SG} {c:ST} {f:SE} {N:List Str} {k:Nat} {is:List Nat} {scope:Scope} {pos:Pos}
inductive CI (K:Fg) (bd:SG) (c:ST) (f:SE) (xs ys:List D) (st2:Store) (ρ1:Loc) (H1:Hp) (p:Addr) (i:Nat) (τ:St) (H':Hp):Prop where
 | mk {ρ2:Loc} {σ2:DS} {st3:Store} {acc:List D} {accV:List V} {zs:List D} (x2:ExtG ρ1 H1 ρ2 H') (hg:ρ2.g=p::ρ1.g) (hpp:H' p=some (.lst accV)) (hal:AtAll K ρ2 H' acc accV) (hli:acc.length<=i) (a2:AtS K ρ2 H' σ2 τ) (rp2:Rep K ρ2 st3 H') (e3:compF bd c f (xs.drop i) σ2 st3=.ok zs st2) (hac:acc++zs=ys):CI K bd c f xs ys st2 ρ1 H1 p i τ H'
theorem zbfl {K:Fg} {τ:St} {H:Hp} {Q:V->Hp->Prop} {ρ:Loc} {σ:DS} {st st1 st2:Store} {xs ys:List D} (a:AtS K ρ H σ τ) (rp:Rep K ρ st H) (e1:it σ st=.ok xs st1) (hlen:xs.length<=sizeLine) (e2:compF bd c f xs (startD k is σ) st1=.ok ys st2)
 (fin:∀ρ1 H1 p ρ2 H' accV,Ext ρ H ρ1 H1->Rep K ρ1 st1 H1->H1 p=none->ExtG ρ1 H1 ρ2 H'->ρ2.g=p::ρ1.g->H' p=some (.lst accV)->AtAll K ρ2 H' ys accV->Rep K ρ2 st2 H'->Q (.ref p) H'):tComp (iD K it) k is (gD K bd) (tDT K c) (tD K f) τ H Q:=by
 refine ⟨ρ,σ,st,xs,st1,a,rp,e1,fun ρ1 H1 J x1 rp1 ok p hp=>?_⟩
 refine ⟨fun i m τ' H'=>i+m=xs.length/\CI K bd c f xs ys st2 ρ1 H1 p i τ' H',
  ⟨xs.length,by lia,.mk ?_ rfl zf .nil (xcu _) (((a.ext x1).start k is).map fun d v h=>h.with hp) (rp1.with hp []) e2 rfl⟩,?_⟩
 ·have E:Ext ρ1 H1 ρ1 (upd H1 p (.lst [])):=Ext.new hp _
  exact ⟨E.len,E.old,E.keep,fun a h=>by
   rcases xbn.mp h with rfl | h
   ·exact .inr hp
   ·exact .inl h,E.frz⟩
 rintro i m τ' H' ⟨him,@⟨ρ2,σ2,st3,acc,accV,zs,x2,hg,hpp,hal,hli,a2,rp2,e3,hac⟩⟩;have hpg:p∈ρ2.g:=by rw[hg];exact xce
 rcases xex i xs.length with hlt | hge
 ·obtain ⟨x,hx,hd⟩:=zgc hlt;rw[hd] at e3;obtain ⟨go,yl⟩:=ok.item ρ2 H' x2 i x hx
  refine .inr ⟨go,CI K bd c f xs ys st2 ρ1 H1 p (i+1),
   fun τ4 H4 hh=>⟨m - 1,by lia,by lia,hh⟩,fun y H3 hy=>?_⟩
  obtain ⟨y1,y4⟩:=yl y H3 hy;obtain ⟨y2,y3⟩:=y4 _ rp2;unfold compF at e3;cases hbd:bd x σ2 with
  | none=>rw[hbd] at e3;cases e3
  | some σ1 =>
   rw[hbd] at e3;dsimp only at e3;obtain ⟨bb,st4,e4,e5⟩:=zb e3;refine ⟨ρ2,σ2,x,σ1,a2.ext y1,y3,hbd,fun τ4 a4=>?_⟩;have hpm:some p∉ρ2.m:=(rp2.gh p hpg).2;have hpp3:=(y1.keep p _ hpp hpm).1;refine ⟨ρ2,σ1,st3,bb,st4,a4,y2,e4,fun ρ5 H5 x5 rp5=>?_⟩;have hpp5:=(x5.keep p _ hpp3 hpm).1;have hal5:=(hal.ext y1).ext x5;have g5:ρ5.g=p::ρ1.g:=x5.gho.trans hg;cases bb with
   | false =>
    rw[if_neg (by decide)] at e5;exact iteF (.mk ((x2.then y1).then x5) g5 hpp5 hal5 (xfk hli) (a4.ext x5) rp5 e5 hac)
   | true =>
    rw[if_pos rfl] at e5;obtain ⟨w,st6,e6,e7⟩:=zb e5;obtain ⟨zs',st7,e8,e9⟩:=zb e7;cases e9;refine iteT ⟨ρ5,σ1,st4,w,st6,a4.ext x5,rp5,e6,fun ρ6 H6 u x6 rp6 a6=>?_⟩;have hpm5:some p∉ρ5.m:=(x5.keep p _ hpp3 hpm).2;have hpp6:=(x6.keep p _ hpp5 hpm5).1;have g6:ρ6.g=p::ρ1.g:=x6.gho.trans g5;have hp6:p∈ρ6.g:=by rw[g6];exact xce
    have hl6:accV.length<=i:=by rw[hal.length];exact hli
    refine ⟨accV,hpp6,xck hl6 (xbh hlt hlen),.mk (acc:=acc++[w]) (accV:=accV++[u]) ?_ g6 zf ?_ (by rw[xcb];exact xdt hli) ?_ (rp6.grow rfl hp6 (fun _ h=>h) _) e8 (by rw[← hac,xcg];rfl)⟩
    ·have G:=((x2.then y1).then x5).then x6;refine ⟨G.len,G.old,fun b o e n=>?_,G.gho,fun b ob uu e=>?_⟩
     ·rw[zj (zh e hp)];exact G.keep b o e n
     ·rw[zj (zh e hp)];exact G.frz b ob uu e
    ·exact ((hal5.ext x6).append (.cons a6 .nil)).grow rfl hp6 (fun _ h=>h)
    ·exact (a4.ext (x5.trans x6)).map fun d v h=>h.grow rfl hp6 (fun _ h=>h)
 ·rw[xdu hge] at e3;unfold compF at e3;cases e3;rw[xdm] at hac;subst hac;exact .inl ⟨ok.done _ _ x2 i hge,fin _ _ _ _ _ _ x1 rp1 hp x2 hg hpp hal rp2⟩
theorem zbax {K:Fg}:∀τ H Q,tD K (eComp it k is bd c f) τ H Q->tComp (iD K it) k is (gD K bd) (tDT K c) (tD K f) τ H Q:=fun τ H Q hq0=>by
 obtain ⟨ρ,σ,st,v,st',a,rp,e,q⟩:=hq0;obtain ⟨xs,st1,e1,e⟩:=zb e;split at e
 ·rename_i hlen;obtain ⟨ys,st2,e2,e⟩:=zb e;cases e;refine zbfl a rp e1 hlen e2 fun ρ1 H1 p ρ2 H' accV x1 rp1 hp x2 hg hpp hal rp2=>?_
  have hpg:p∈ρ2.g:=by rw[hg];exact xce
  have hpm:some p∉ρ2.m:=(rp2.gh p hpg).2;have self:upd H' p (.lst accV)=H':=zlv hpp;have sub:∀a,a∈(⟨ρ2.m,ρ1.g⟩:Loc).g->a∈ρ2.g:=fun b hb=>by rw[hg];exact xci _ hb
  have E:Ext ρ1 H1 ⟨ρ2.m,ρ1.g⟩ H':=⟨x2.len,x2.old,x2.keep,rfl,x2.frz⟩
  have R:=rp2.grow (ρ':=⟨ρ2.m,ρ1.g⟩) rfl hpg sub accV;have L:=AtAll.grow (ρ:=ρ2) (ρ':=⟨ρ2.m,ρ1.g⟩) (o:=.lst accV) rfl hpg sub hal;rw[self] at R L;refine q _ _ _ (x1.trans E) R (.lst hpp ⟨hpm,fun z=>?_⟩ L);obtain ⟨⟨ws,h1⟩,_⟩:=rp1.gh p z;rw[hp] at h1;cases h1
 ·cases e
theorem zbfj (hcalm:X.calm=true) (hi:DI X tg iter it) (hg:∀cl C fp s H,DG (cxC X N scope cl C fp s H) tg bd) (hc:∀cl C fp s H,PIf (cxC X N scope cl C fp s H) ifs (tDT X.K c)) (he:∀cl C fp s H,DE (cxC X N scope cl C fp s H) elt f)
 (S:CompScope X N k is scope) (hs:∀x,foldedSetIterable iter X.env x=pure x:=by intro _;rfl):DE X (.ListComp elt [⟨tg,iter,ifs,0⟩] scope pos) (eComp it k is bd c f):=zed (zyf hcalm hi hg hc he S hs) zbax
theorem zzx {i:Nat} {x:Str} {pos' spos:Pos} (hcalm:X.calm=true) (hN:X.N.Nodup) (hxi:X.N[i]?=some x) (hx:L2.Loc X.env.scope x) (hi:DI X tg iter it) (hg:∀cl C fp s H,DG (cxC X N scope cl C fp s H) tg bd)
  (hc:∀cl C fp s H,PIf (cxC X N scope cl C fp s H) ifs (tDT X.K c)) (he:∀cl C fp s H,DE (cxC X N scope cl C fp s H) elt f) (S:CompScope X N k is scope)
  (hsw:swapsWith (.ListComp elt [⟨tg,iter,ifs,0⟩] scope pos) (some (.Name x pos')) spos.line X.env=pure true:=by rfl)
  (hf:X.fn x=true\/X.env.scope.names.lookup x=some .local:=by first | exact .inl rfl | exact .inr rfl | assumption)
  (hs:∀x,foldedSetIterable iter X.env x=pure x:=by intro _;rfl):DSt X (.Assign [.Name x pos'] (.ListComp elt [⟨tg,iter,ifs,0⟩] scope pos) spos) (sSet i (eComp it k is bd c f)) :=
 zif (zxp hcalm hN hxi hx hi hg hc he S hsw hf hs) fun E τ H h=>by
  obtain ⟨ρ,σ,st,fl,st',a,rp,e,q⟩:=h;obtain ⟨v,st1,e1,e⟩:=zb e;cases e;exact zbax τ H _ ⟨ρ,σ,st,v,_,a,rp,e1,fun ρ' H' u x r t=>q _ _ _ x r ((a.ext x).set t i)⟩
theorem zbae {X:Cx}:PIf X [] (tDT X.K bYes):=fun pins s σ H Q I hq0=>by
 obtain ⟨ρ,σ',st,v,st',a,rp,e,q⟩:=hq0;cases e;exact zxv pins s σ H Q I (q _ _ (.refl _ _) rp)
theorem zbad {X:Cx} {c:Expr} {t:ST} (h:DT X c t):PIf X [c] (tDT X.K t):=zxu h
end
end Dd
namespace Dd
open PySem L2 PyProof.Rows
noncomputable def spD (K:Fg) (np:Nat) (F:DFn):Sp:=fun vs H Q _=>∃ρ ds st v st',AtAll K ρ H ds vs/\Rep K ρ st H/\F ds st=.ok v st'/\vs.length=np/\∀ρ' H' u,Ext ρ H ρ' H'->Rep K ρ' st' H'->At K ρ' H' v u->Q u H'
noncomputable def CalD (P:Program) (w:World) (K:Fg) (mg:Str->Option Value) (base:Heap) (x:Str) (k:Nat) (ps:List Str) (F:DFn):Prop:=Callee P w K mg base x k ps (spD K ps.length F)
noncomputable def fnD (n np:Nat) (body:SS):DFn:=fun ds st=>if ds.length=np then (match body (ds.map some++List.replicate (n - np) none) st with
 | .ok (.ret v) st'=>.ok v st'
 | .ok (.nx _) st'=>.ok .non st'
 | .exc x st'=>.exc x st'
 | _=>.stuck) else .stuck
section
variable {X:Cx} {x:Str} {k:Nat} {ps:List Str} {F:DFn} {p pos:Pos} {e:Expr} {es:List Expr} {g:SA}
theorem zbfm {K:Fg} {np:Nat} {f:SA} (hn:∀ds st v st',F ds st=.ok v st'->ds.length=np):∀τ H Q,tD K (eCall F f) τ H Q->tCall (spD K np F) [] E0 (tDA K f) τ H Q:=fun τ H Q hq0=>by
 obtain ⟨ρ,σ,st,v,st',a,rp,e,q⟩:=hq0;obtain ⟨x,st1,e1,e⟩:=zb e;refine ⟨ρ,σ,st,x,st1,a,rp,e1,fun ρ1 H1 u x1 rp1 a1=>?_⟩;show spD K np F (u++[]) H1 Q E0;rw[xdm];exact ⟨ρ1,x,st1,v,st',a1,rp1,e,by rw[a1.length];exact hn _ _ _ _ e,fun ρ' H' w x2=>q ρ' H' w (x1.trans x2)⟩
theorem zbfk (c : CalD X.prog X.w X.K X.mg X.base x k ps F) (hn : ∀ ds st v st', F ds st = .ok v st' -> ds.length = ps.length) (hr : Room k X.A) (hg : Gl X x) (ha : DA X (e :: es) g) (hdb : (x == ("__debug__" : Str)) = false := by decide)
 (he:starEach (e::es) X.env=(false,eval e X.env)::starEach es X.env:=by rfl) (hpl:(backTo pos (starEach es X.env)).any (·.1)=false:=by rfl) :
 DE X (.Call (.Name x p) (e::es) [] pos) (eCall F g):=zed (zua c hr hg ha hdb he hpl) (zbfm hn)
theorem zr {n np:Nat} {b:SS} {ds:List D} {st st':Store} {v:D} (h:fnD n np b ds st=.ok v st'):ds.length=np:=by
 unfold fnD at h;split at h
 ·assumption
 ·cases h
end
theorem AtAll.some {K:Fg} {ρ:Loc} {H:Hp}:∀{ds:List D} {vs:List V},AtAll K ρ H ds vs->AtS K ρ H (ds.map Option.some) (vs.map Option.some)
 | _,_,.nil=>.nil
 | _,_,.cons a b=>.cons (fun d e=>by cases e;exact ⟨_,rfl,a⟩) (AtAll.some b)
theorem AtS.append {K:Fg} {ρ:Loc} {H:Hp}:∀{a c:DS} {b d:L2.St},AtS K ρ H a b->AtS K ρ H c d->AtS K ρ H (a++c) (b++d)
 | _,_,_,_,.nil,h=>h
 | _,_,_,_,.cons r t,h=>.cons r (AtS.append t h)
theorem AtS.nones {K:Fg} {ρ:Loc} {H:Hp}:∀n,AtS K ρ H (List.replicate n none) (List.replicate n none)
 | 0=>.nil
 | n+1=>.cons (fun d e=>nomatch e) (AtS.nones n)
theorem zbbg {K:Fg} {N:List Str} {np:Nat} {b:SS} {vs:List V} {H:Hp} {Q:VK} {E:XK} (h:spD K np (fnD N.length np b) vs H Q E):tDS K b {nx:=fun _ H'=>Q .non H',rt:=Q} (L2.start N vs) H:=by
 obtain ⟨ρ,ds,st,v,st',a,rp,e,hl,q⟩:=h;have hd:ds.length=np:=by rw[← a.length];exact hl
 unfold fnD at e;rw[if_pos hd] at e;have as:AtS K ρ H (ds.map Option.some++List.replicate (N.length - np) none) (L2.start N vs):=by
  unfold L2.start;rw[hl];exact a.some.append (.nones _)
 refine ⟨ρ,ds.map Option.some++List.replicate (N.length - np) none,st,?_⟩;cases hr:b (ds.map Option.some++List.replicate (N.length - np) none) st with
 | stuck=>rw[hr] at e;cases e
 | exc z w=>rw[hr] at e;cases e
 | ok fl st1 =>
  rw[hr] at e;cases fl with
  | ret w =>
   dsimp only at e;cases e;exact ⟨.ret v,st',as,rp,rfl,fun ρ' H' u x r t=>q ρ' H' u x r t⟩
  | nx σ =>
   dsimp only at e;cases e;exact ⟨.nx σ,st',as,rp,rfl,fun ρ' H' τ x r t=>q ρ' H' .non x r .non⟩
  | brk σ=>cases e
  | ct σ=>cases e
theorem zbbd {P:Program} {w:World} {K:Fg} {mg:Str->Option Value} {base h:Heap} {x:Str} {st:Stmt} {N ps:List Str} {k:Nat} {b:SS} (T:TopF K x st) (X:K.In h) (G:h.Ns mainGlobals mg) (S:FnScope N ps (defScope st))
  (bd:∀(kV doc pm:Value) (an:Option Addr) (cdv ct:Value) (us:List Value),us.length=ps.length->bindArgs (PySem.W.fnOf x x (defArgs st) (defBody st) (defScope st) .none kV doc pm an cdv ct) ⟨us,[]⟩=pure (ps.zip us))
  (hbody:∀(f:Addr) (cdv:Value) (A:Around) (outer:List Env) (s:Shared) (H:Hp) (E:XK),Room k (A.deeper (envOfC x (defScope st) s.heap.objs.size f cdv)) ->
   DSs (cxOf CX0 P w K mg base N x (defScope st) f cdv A outer s H E).nox (defBody st) b):CalD P w K mg base x (k+1) ps (fnD N.length ps.length b) :=
 zrn T X G S bd (fun vs H Q E hh=>by obtain ⟨ρ,ds,st,v,st',a,rp,e,hl,q⟩:=hh;exact hl) fun f cdv A outer s H vs Q E hr hh=>⟨_,hbody f cdv A outer s H E hr,zbbg hh⟩
noncomputable def spLaw (K:Fg):Sp:=fun vs H Q _=>∃(a:Addr) (ns:List Int),vs=[.ref a]/\SqL K H a (ns.map V.int)/\ns.length<=63/\∀H',Q (.bl true) H'
theorem zbdq {P : Program} {w : World} {K : Fg} {mg : Str -> Option Value} {base : Heap} {st : Stmt} {N ps : List Str} {k : Nat} {b : SS} {f : Addr} {fd : FuncData} (F : Fun K "law" "law" st f fd) (S : FnScope N ps (defScope st)) (hp : ps.length = 1)
  (hbody : ∀ (cdv : Value) (A : Around) (outer : List Env) (s : Shared) (H : Hp) (E : XK), Room k (A.deeper (envOfC "law" (defScope st) s.heap.objs.size f cdv)) ->
   DSs (cxOf CX0 P w K mg base N "law" (defScope st) f cdv A outer s H E).nox (defBody st) b)
  (holds:∀ns:List Int,ns.length<=63->∃st',fnD N.length 1 b [.scr (ns.map .int)] []=.ok (.bl true) st'):FnOk P w K mg base CX0 (k+1) f fd ps (spLaw K):=by
 refine F.ok S (fun vs H Q E hh=>?_) (fun cdv A outer s H vs Q E hr hh=>⟨_,hbody cdv A outer s H E hr,?_⟩)
 ·obtain ⟨a,ns,rfl,_⟩:=hh;exact hp.symm
 ·obtain ⟨a,ns,rfl,hS,hl,q⟩:=hh;obtain ⟨st',e⟩:=holds ns hl;refine zbbg (np:=1) (E:=E) ⟨⟨[],[]⟩,[.scr (ns.map .int)],[],_,st',.cons (.scr ?_ (zgq ns)) .nil,⟨rfl,fun n m a e _=>by simp at e,fun n a o e _=>by simp at e,fun a h=>(by cases h),fun n o e _=>by simp at e⟩,e,rfl,fun ρ' H' u x r t=>?_⟩
  ·rcases hS with h | h
   ·exact .inl ⟨h,by simp[Out]⟩
   ·exact .inr fun H'=>.inr h
  ·cases t;exact q H'
end Dd
namespace Dd
open PySem L2
noncomputable def oNeg:D->Store->Res D:=fun x st=>match x with
 | .int i=>.ok (.int (-i)) st
 | _=>.stuck
noncomputable def tru (st:Store):D->Option Bool
 | .non=>some false
 | .bl b=>some b
 | .int i=>some (i != 0)
 | .tup xs=>some !xs.isEmpty
 | d=>(asL st d).map fun xs=>!xs.isEmpty
noncomputable def eTru (f:SE):ST:=fun σ st=>(f σ st).bind fun v st1=>match tru st1 v with
 | some b=>.ok b st1
 | none=>.stuck
theorem zhr {K:Fg} {ρ:Loc} {H:Hp} {ds:List D} {vs:List V} (h:AtAll K ρ H ds vs):ds.isEmpty=vs.isEmpty:=by
 cases h<;>rfl
theorem zbcb {K:Fg} {ρ:Loc} {st:Store} {H:Hp} (rp:Rep K ρ st H) {d:D} {u:V} {b:Bool} (a:At K ρ H d u) (e:tru st d=some b):TruV K u H b:=by
 unfold tru at e;split at e
 ·cases a;cases e;exact rfl
 ·cases a;cases e;exact rfl
 ·cases a;cases e;exact rfl
 ·cases e;cases a with
  | tup h1 h2 h3=>exact .inr (.inl ⟨_,SqT.of h1,by rw[zhr h3]⟩)
 ·obtain ⟨xs,h0,rfl⟩:=xcv.mp e;obtain ⟨p,vs,rfl,h1,h2⟩:=zfk rp a h0;exact .inl ⟨_,SqL.of h1,by rw[zhr h2]⟩
section
variable {X:Cx} {a b c e:Expr} {f f' f'':SE} {pos:Pos} {sm:Stmt}
theorem zbio (h:DE X a f):DE X (.UnaryOp .USub a pos) (eUn oNeg f):=zed (zbhj zbbz h) fun τ H Q hq0=>by
 obtain ⟨ρ,σ,st,v,st',at',rp,e,q⟩:=hq0;obtain ⟨x,st1,e1,e⟩:=zb e;refine ⟨ρ,σ,st,x,st1,at',rp,e1,fun ρ1 H1 u x1 rp1 a1=>?_⟩;cases x<;>try (cases e;done)
 cases e;cases a1;exact ⟨_,rfl,q _ _ _ x1 rp1 (.int _)⟩
theorem zben (h:DE X a f) (he:∀whole,isTrue a X.env whole=(do let v ← whole;standAt a.pos;holding [v] (truthy v)):=by intro _;rfl):DT X a (eTru f):=zbbp (ztm h he) fun τ H Q hq0=>by
 obtain ⟨ρ,σ,st,v,st',at',rp,e,q⟩:=hq0;obtain ⟨x,st1,e1,e⟩:=zb e;refine ⟨ρ,σ,st,x,st1,at',rp,e1,fun ρ1 H1 u x1 rp1 a1=>?_⟩;split at e
 ·rename_i bb hb;cases e;exact ⟨_,zbcb rp1 a1 hb,q _ _ x1 rp1⟩
 ·cases e
end
end Dd
namespace Dd
open PySem PySem.Spec PyProof.Rows L2
noncomputable def numF:Int->List D->List D
 | _,[]=>[]
 | n,x::xs=>.tup [.int n,x]::numF (n+1) xs
theorem zmz:∀{xs:List D} {n:Int} {i:Nat} {d:D},(numF n xs)[i]?=some d->∃x,xs[i]?=some x/\d=.tup [.int (n+i),x]
 | [],_,_,_,h=>by simp[numF] at h
 | x::xs,n,0,d,h=>by
  simp[numF] at h;exact ⟨x,rfl,by rw[← h];simp⟩
 | x::xs,n,i+1,d,h=>by
  simp only[numF,xip] at h;obtain ⟨y,h1,h2⟩:=zmz h;exact ⟨y,by simpa using h1,by rw[h2];congr 3;push_cast;lia⟩
theorem zdw:∀{xs:List D} {n:Int},(numF n xs).length=xs.length
 | [],_=>rfl
 | _::xs,n=>by simp[numF,zdw (xs:=xs)]
section
variable {X:Cx} {l:Expr} {f:SE} {elts:List Expr} {k j:Nat} {tpos p pos kpos cpos:Pos}
end
end Dd
namespace Dd
open PySem L2
noncomputable def bInt:List D->Store->Res D:=fun xs st=>match xs with
 | [.int i]=>.ok (.int i) st
 | [.bl k]=>.ok (.int (if k then 1 else 0)) st
 | _=>.stuck
theorem zbfv {K:Fg}:CaD K bInt (fun xs H Q=>(∃i,xs=[.int i]/\Q (.int i) H)\/∃k,xs=[.bl k]/\Q (.int (if k then 1 else 0)) H):=fun ρ H st xs us z st' Q rp aa e q=>by
 unfold bInt at e;split at e
 ·cases e;obtain ⟨u,rfl,a⟩:=aa.one;cases a;exact .inl ⟨_,rfl,q _ _ _ (.refl _ _) rp (.int _)⟩
 ·cases e;obtain ⟨u,rfl,a⟩:=aa.one;cases a;exact .inr ⟨_,rfl,q _ _ _ (.refl _ _) rp (.int _)⟩
 ·cases e
noncomputable def eCompM (it:SA) (k:Nat) (is:List Nat) (bd:SG) (c:ST) (f:SE):SE:=fun σ st=>(it σ st).bind fun xs st1=>if xs.length<=sizeLine then (compF bd c f xs (startD k is σ) st1).bind fun ys st2=>.ok (.ref st2.length) (st2++[.lst ys]) else .stuck
section
variable {X:Cx} {tg iter elt:Expr} {ifs:List Expr} {it:SA} {bd:SG} {c:ST} {f:SE} {N:List Str} {k:Nat} {is:List Nat} {scope:Scope} {pos:Pos}
end
noncomputable def plainE:Expr->Bool
 | .Starred _ _=>false
 | _=>true
theorem zmc {e:Expr} {es:List Expr} {env:Env} (h:plainE e=true):starEach (e::es) env=(false,eval e env)::starEach es env:=by
 cases e<;>first | rfl | cases h
theorem zvj {X:Cx} {e:Expr} {es:List Expr} {f:SE} {g:SA} (ha:DE X e f) (hr:DA X es g) (hp:plainE e=true:=by rfl):DA X (e::es) (aCons f g):=zbak ha hr (zmc hp)
noncomputable def bBest (gt:Bool):List D->Store->Res D:=fun xs st=>match xs with
 | [x]=>match (seqOf st x).bind asInts with
  | some (n::ns)=>.ok (.int (bestI gt n ns)) st
  | _=>.stuck
 | _=>.stuck
theorem zbbi {K:Fg} {gt:Bool}:CaD K (bBest gt) (rBest K gt):=fun ρ H st xs us z st' Q rp aa e q=>by
 unfold bBest at e;split at e
 ·split at e
  ·rename_i n ns h;cases e;obtain ⟨ys,h0,h⟩:=xec.mp h;obtain ⟨u,rfl,a⟩:=aa.one;obtain ⟨p,vs,rfl,h1,h2⟩:=zem rp a h0;have e:=zco h2 h;subst e;exact ⟨p,n,ns,rfl,h1,q _ _ _ (.refl _ _) rp (.int _)⟩
  ·cases e
 ·cases e
noncomputable def pairsF:List D->List D->List D
 | x::xs,y::ys=>.tup [x,y]::pairsF xs ys
 | _,_=>[]
noncomputable def iZipT (g:SA):SA:=fun σ st=>(g σ st).bind fun xs st1=>match xs with
 | [.tup a,.tup b]=>.ok (pairsF a b) st1
 | _=>.stuck
section
variable {X:Cx} {a b:Expr} {g:SA} {elts:List Expr} {k:Nat} {tpos p pos:Pos}
end
noncomputable def sSetG (bd:SG) (f:SE):SS:=fun σ st=>(f σ st).bind fun v st1=>match bd v σ with
 | some σ1=>.ok (.nx σ1) st1
 | none=>.stuck
end Dd
namespace Dd
open PySem L2 PyProof.Rows
structure JE (X:Cx) (e:Expr) (f:SE):Prop where out:DE X e f
structure JT (X:Cx) (e:Expr) (f:ST):Prop where out:DT X e f
structure JW (X:Cx) (e:Expr) (f:ST):Prop where out:DW X e f
structure JA (X:Cx) (e:List Expr) (f:SA):Prop where out:DA X e f
structure JS (X:Cx) (s:Stmt) (f:SS):Prop where out:DSt X s f
structure JB (X:Cx) (s:List Stmt) (f:SS):Prop where out:DSs X s f
structure JO (X:Cx) (e:Option Expr) (f:DS->Store->Res (Option Int)):Prop where out:DO X e f
structure JG (X:Cx) (e:Expr) (b:SG):Prop where out:DG X e b
structure JGs (X:Cx) (e:List Expr) (b:List D->DS->Option DS):Prop where out:DGs X e b
structure JI (X:Cx) (tg iter:Expr) (f:SA):Prop where out:DI X tg iter f
structure JIf (X:Cx) (ifs:List Expr) (c:ST):Prop where out:PIf X ifs (tDT X.K c)
structure JC (X:Cx) (op:CmpOp) (a b:Expr) (f:SE):Prop where out:PC X op a b (tD X.K f)
theorem JW.pt {X:Cx} {e:Expr} {t:ST} (h:JW X e t):JT X e t:=⟨PW.pt h.out⟩
section
variable {X:Cx}
theorem zd {e:Expr} {i:Nat} (h:PE X e (tVar i)):JE X e (eVar i):=⟨zbii h⟩
theorem zjf {e:Expr} {v:V} {d:D} (h:PE X e (tC v)) (k:∀ρ H,At X.K ρ H d v):JE X e (eC d):=⟨zbar h k⟩
theorem zg {i j pos}:JE X (.Constant (.int i) j pos) (eC (.int i)):=⟨zbiq⟩
theorem zvn {b j pos}:JE X (.Constant (.bool b) j pos) (eC (.bl b)):=⟨d_bl⟩
theorem zhw {j pos}:JE X (.Constant .none j pos) (eC .non):=⟨zbin⟩
theorem zbal {x j pos}:JE X (.Constant (.str x) j pos) (eC (.str x)):=⟨zbik⟩
end
section
variable {X:Cx} {a b c:Expr} {f f' f'':SE} {pos:Pos}
theorem zcr {op:Operator} {r:R2} {g:D->D->Store->Res D} (ho:OpR X (binaryOp op) r) (hr:OpD X.K g r) (ha:JE X a f) (hb:JE X b f'):JE X (.BinOp a op b pos) (eOp g f f'):=⟨d_op ho hr ha.out hb.out⟩
theorem zoc {op:CmpOp} {r:R2} {g:D->D->Store->Res D} (ho:OpR X (compareOp op) r) (hr:OpD X.K g r) (ha:JE X a f) (hb:JE X b f') (hm:behindInMarks op b=false):JE X (.Compare a [op] [b] pos) (eOp g f f'):=⟨zbir ho hr ha.out hb.out hm⟩
theorem zbp {op:CmpOp} {r:R2} {g:D->D->Store->Res D} (ho:OpR X (compareOp op) r) (hr:OpD X.K g r) (ha:JE X a f) (hb:JE X b f') (hm:behindInMarks op b=false):JT X (.Compare a [op] [b] pos) (eB (eOp g f f')):=⟨zbeq ho hr ha.out hb.out hm⟩
end
section
variable {X:Cx} {a b:Expr} {rest:List Expr} {f f':SE} {t t':ST} {pos:Pos}
theorem zrf {op} (h:JE X a f):JE X (.BoolOp op [a] pos) f:=⟨zbil h.out⟩
theorem zrj (ha:JE X a f) (hb:JE X (.BoolOp .And (b::rest) pos) f'):JE X (.BoolOp .And (a::b::rest) pos) (eAnd f f'):=⟨zbit ha.out hb.out⟩
theorem zbfd (ha:JE X a f):JE X (.UnaryOp .Not a pos) (eNot f):=⟨zbim ha.out⟩
theorem zga {op} (h:JT X a t) (hop:op=.And\/op=.Or):JW X (.BoolOp op [a] pos) t:=⟨zbel h.out hop⟩
theorem zso (ha:JT X a t) (hb:JW X (.BoolOp .And (b::rest) pos) t'):JW X (.BoolOp .And (a::b::rest) pos) (bAnd t t'):=⟨zbem ha.out hb.out⟩
theorem znq (ha:JT X a t) (hb:JW X (.BoolOp .Or (b::rest) pos) t'):JW X (.BoolOp .Or (a::b::rest) pos) (bOr t t'):=⟨zbie ha.out hb.out⟩
theorem zgb (ha:JT X a t):JT X (.UnaryOp .Not a pos) (bNot t):=⟨zbeo ha.out⟩
end
section
variable {X:Cx} {e:Expr} {es:List Expr} {f:SE} {g:SA} {pos:Pos}
theorem zc :JA X [] aNil:=⟨zbfb⟩
theorem zbt {x1} (h:JA X es g):JE X (.Tuple es x1 pos) (eTup g):=⟨zbij h.out⟩
theorem zlo (h:JA X es g):JE X (.List es pos) (eLst g):=⟨zbip h.out⟩
theorem zsr (h:JA X es g):JE X (.List es pos) (eLstM g):=⟨zbfe h.out⟩
end
section
variable {X:Cx} {a b e:Expr} {f f':SE} {pos:Pos} {lo hi:Option Expr} {l h:DS->Store->Res (Option Int)}
theorem zfd :JO X none pNone:=⟨zbac⟩
theorem zfc (he:JE X e f):JO X (some e) (pSome f):=⟨zbab he.out⟩
theorem zje (ha:JE X a f) (hb:JE X b f') (hs:PlainIx b):JE X (.Subscript a b pos) (eOp oIx f f'):=⟨d_ix ha.out hb.out hs⟩
theorem zbam {p2:Pos} (he:JE X e f) (hl:JO X lo l) (hu:JO X hi h):JE X (.Subscript e (.Slice lo hi none p2) pos) (eSl f l h):=⟨d_sl he.out hl.out hu.out⟩
end
section
variable {X:Cx} {x:Str} {p pos:Pos} {e:Expr} {es:List Expr} {f:SA} {id T:String} {r:List V->Hp->VK->Prop} {g:List D->Store->Res D}
theorem zp (hc : CallR X (.builtin id) r) (hr : CaD X.K g r) (hg : Gl X x) (hm : X.mg x = none) (hv : bootBuiltins x = some (.builtin id)) (ha : JA X (e :: es) f) (hn : x ≠ "__name__" := by decide) (hdb : (x == ("__debug__" : Str)) = false := by decide) (he : starEach (e :: es) X.env = (false, eval e X.env) :: starEach es X.env := by rfl) (hpl : (backTo pos (starEach es X.env)).any (·.1) = false := by rfl) : JE X (.Call (.Name x p) (e :: es) [] pos) (eCall g f) := ⟨zbat hc hr hg hm hv ha.out hn hdb he hpl⟩
theorem zej (hc : CallR X (.type T) r) (hr : CaD X.K g r) (hg : Gl X x) (hm : X.mg x = none) (hv : bootBuiltins x = some (.type T)) (ha : JA X (e :: es) f) (hn : x ≠ "__name__" := by decide) (hdb : (x == ("__debug__" : Str)) = false := by decide) (he : starEach (e :: es) X.env = (false, eval e X.env) :: starEach es X.env := by rfl) (hpl : (backTo pos (starEach es X.env)).any (·.1) = false := by rfl) : JE X (.Call (.Name x p) (e :: es) [] pos) (eCall g f) := ⟨zvm hc hr hg hm hv ha.out hn hdb he hpl⟩
end
section
variable {X:Cx} {a b c o i e value f':Expr} {f g h:SE} {pos pos' apos cpos:Pos}
theorem zss :JE X (.Dict [] [] pos) eDNew:=⟨zbfh⟩
theorem zbdc (hu:X.A.units+1 < cLine) (hi:JE X i g) (ho:JE X o f):JC X .In i o (eOp (oDIn false) g f):=⟨zbhp hu hi.out ho.out⟩
theorem zbep {op:CmpOp} {t:SE} (h:JC X op a b t) (h1:behindInMarks op b=false:=by first | exact nobehind _ (by decide) (by decide) | rfl):JT X (.Compare a [op] [b] pos) (eB t):=⟨zbif h.out h1⟩
theorem zbap (hu:X.A.units+1 < cLine) (ho:JE X o f) (hi:JE X i g) (hs:NoSl i):JE X (.Subscript o i pos) (eOp oDGet f g):=⟨zbfi hu ho.out hi.out hs⟩
theorem zvk (hu : X.A.units + 1 < cLine) (ho : JE X o f) (he : JE X e g) (hf : JE X f' h) (m : M2 X o "get" apos e f' cpos) : JE X (.Call (.Attribute o "get" apos) [e, f'] [] cpos) (eDGet2 f g h) := ⟨zbaq hu ho.out he.out hf.out m⟩
theorem zbao (hu : X.A.units + 1 < cLine) (ho : JE X o f) (he : JE X e g) (m : M1 X o "pop" apos e cpos) : JE X (.Call (.Attribute o "pop" apos) [e] [] cpos) (eDPop f g) := ⟨zbfg hu ho.out he.out m⟩
theorem znv (hu:X.A.units+1 < cLine) (ho:JE X o f) (hi:JE X i g) (hv:JE X value h) (hs:swapsWith value (some (.Subscript o i pos')) pos.line X.env=pure false):JS X (.Assign [.Subscript o i pos'] value pos) (sDPut f g h):=⟨zzz hu ho.out hi.out hv.out hs⟩
end
section
variable {X:Cx} {o e i value:Expr} {es:List Expr} {f g h:SE} {ga:SA} {pos apos cpos:Pos}
theorem zri (ho : JE X o f) (ha : JA X (e :: es) ga) (hbase : attributeBase o "append" X.env (eval o X.env) = eval o X.env := by rfl) (hfew : ((backTo cpos (starEach (e :: es) X.env)).all (fun x => !x.1) && (backToKw cpos (keywordEach [] X.env)).all (fun x => x.1.isSome)
 && decide ((e :: es).length + ([] : List Keyword).length + (if ([] : List Keyword).isEmpty then 0 else 1) < 30)) = true := by rfl) (hline : (apos.endLine == cpos.line) = true := by rfl) (hs : starEach (e :: es) X.env = (false, eval e X.env) :: starEach es X.env := by rfl) (hplain : (backTo cpos (starEach es X.env)).any (·.1) = false := by rfl) : JE X (.Call (.Attribute o "append" apos) (e :: es) [] cpos) (eAppend f ga) := ⟨zvo ho.out ha.out hbase hfew hline hs hplain⟩
theorem zvl (ho : JE X o f) (hbase : attributeBase o "clear" X.env (eval o X.env) = eval o X.env := by rfl) (hline : (apos.endLine == cpos.line) = true := by rfl) : JE X (.Call (.Attribute o "clear" apos) [] [] cpos) (eClear f) := ⟨zbas ho.out hbase hline⟩
end
section
variable {X:Cx} {e c o i value:Expr} {sm:Stmt} {rest:List Stmt} {f g h:SE} {s t:SS} {b:ST} {pos pos':Pos}
theorem zbx :JB X [] sNx:=⟨zbev⟩
theorem zy (he:JE X e f):JS X (.Return (some e) pos) (sRet f):=⟨zbet he.out⟩
theorem zgt (he:JE X e f) (hs:swapsWith e none pos.line X.env=pure false:=by rfl):JS X (.Expr e pos) (sDrop f):=⟨zzy he.out hs⟩
theorem zu {i:Nat} {x:Str} (hN:X.N.Nodup) (hi:X.N[i]?=some x) (hx:L2.Loc X.env.scope x) (he:JE X e f) (hs:swapsWith e (some (.Name x pos')) pos.line X.env=pure false:=by rfl) (hf:X.fn x=true\/X.env.scope.names.lookup x=some .local:=by first | exact .inl rfl | exact .inr rfl | assumption):JS X (.Assign [.Name x pos'] e pos) (sSet i f):=⟨zbes hN hi hx he.out hs hf⟩
theorem zo (h1:JS X sm s):JB X [sm] s:=⟨zbeu h1.out⟩
theorem ze (h1:JS X sm s) (h2:JB X rest t):JB X (sm::rest) (sSeq s t):=⟨zbaa h1.out h2.out⟩
theorem zdf {a' b':List Stmt} (hc:JT X c b) (ha:JB X a' s) (hb:JB X b' t):JS X (.If c a' b' pos) (sIf b s t):=⟨zbig hc.out ha.out hb.out⟩
theorem zkf (he:JE X value h) (ho:JE X o f) (hi:JE X i g) (ha:∀v,assign (.Subscript o i pos') X.env v=(do
 let ov ← holding [v] (eval o X.env)
 let iv ← holding [v,ov] (eval i X.env)
 standAt pos'
 holding [v,ov,iv] (setItem ov iv v)
 release [v,ov,iv] []):=by intro _;rfl) (hs:swapsWithSole [.Subscript o i pos'] value pos.line X.env=pure false:=by rfl) (hw:swappedStores [.Subscript o i pos'] value X.env=pure none:=by rfl) (h1:(assignEach [.Subscript o i pos'] X.env).map (·.2)=[assign (.Subscript o i pos') X.env]:=by rfl):JS X (.Assign [.Subscript o i pos'] value pos) (sSetIx f g h):=⟨zvd he.out ho.out hi.out ha hs hw h1⟩
end
section
variable {X:Cx} {pos:Pos} {e:Expr} {es:List Expr} {t:SG} {u:List D->DS->Option DS}
theorem zz {i:Nat} {x:Str} (hN:X.N.Nodup) (hi:X.N[i]?=some x) (hx:L2.Loc X.env.scope x) (hf:X.fn x=true\/X.env.scope.names.lookup x=some .local:=by first | exact .inl rfl | exact .inr rfl | assumption):JG X (.Name x pos) (gN i):=⟨zbah hN hi hx hf⟩
theorem znx :JGs X [] gsNil:=⟨zbag⟩
theorem zei (h1:JG X e t) (h2:JGs X es u) (hs:(assignEach (e::es) X.env).map (·.2)=assign e X.env::(assignEach es X.env).map (·.2):=by rfl):JGs X (e::es) (gsCons t u):=⟨zvi h1.out h2.out hs⟩
theorem zsp {k:Nat} {n:Nat} (hc:X.calm=true) (h:JGs X es u) (hn:(assignEach es X.env).length=n:=by rfl) (hst:(assignEach es X.env).findIdx? (·.1)=none:=by rfl):JG X (.Tuple es k pos) (gT n u):=⟨zbfa hc h.out hn hst⟩
end
section
variable {X:Cx} {tg l a b:Expr} {f:SE} {g:SA} {p pos:Pos}
theorem zhv (hl:JE X l f):JI X tg l (iSeq f):=⟨zbez hl.out⟩
theorem zby (hg : Gl X "range") (hm : X.mg "range" = none) (ha : JA X [a] g) (hs : starEach [a] X.env = [(false, eval a X.env)] := by rfl) : JI X tg (.Call (.Name "range" p) [a] [] pos) (iR1 g) := ⟨zrb hg hm ha.out hs⟩
end
section
variable {X:Cx} {tg l:Expr} {f:SE}
theorem zvh (hl:JE X l f):JI X tg l (iDict f):=⟨zbaf hl.out⟩
end
section
variable {X:Cx} {tg iter c:Expr} {body:List Stmt} {it:SA} {bd:SG} {b:SS} {t:ST} {pos:Pos}
theorem zea (hp:PassesOwn (model X.prog X.w) X.A X.env X.xe) (hc:X.calm=true) (hi:JI X tg iter it) (hg:JG X tg bd) (hb:JB X body b) (hs:∀x,foldedSetIterable iter X.env x=pure x:=by intro _;rfl):JS X (.For tg iter body [] pos) (sFor it bd b):=⟨zbex hp hc hi.out hg.out hb.out hs⟩
theorem zra (hp:PassesOwn (model X.prog X.w) X.A X.env X.xe) (hc:JT X c t) (hb:JB X body b):JS X (.While c body [] pos) (sWhile t b):=⟨zvc hp hc.out hb.out⟩
end
section
variable {X:Cx} {tg iter elt:Expr} {ifs:List Expr} {it:SA} {bd:SG} {c:ST} {f:SE} {N:List Str} {k:Nat} {is:List Nat} {scope:Scope} {pos:Pos}
theorem zob (hcalm:X.calm=true) (hi:JI X tg iter it) (hg:∀cl C fp s H,JG (cxC X N scope cl C fp s H) tg bd) (hc:∀cl C fp s H,JIf (cxC X N scope cl C fp s H) ifs c) (he:∀cl C fp s H,JE (cxC X N scope cl C fp s H) elt f) (S:CompScope X N k is scope) (hs:∀x,foldedSetIterable iter X.env x=pure x:=by intro _;rfl):JE X (.ListComp elt [⟨tg,iter,ifs,0⟩] scope pos) (eComp it k is bd c f):=⟨zbfj hcalm hi.out (fun cl C fp s H=>(hg cl C fp s H).out) (fun cl C fp s H=>(hc cl C fp s H).out) (fun cl C fp s H=>(he cl C fp s H).out) S hs⟩
theorem znu {i:Nat} {x:Str} {pos' spos:Pos} (hcalm:X.calm=true) (hN:X.N.Nodup) (hxi:X.N[i]?=some x) (hx:L2.Loc X.env.scope x) (hi:JI X tg iter it) (hg:∀cl C fp s H,JG (cxC X N scope cl C fp s H) tg bd) (hc:∀cl C fp s H,JIf (cxC X N scope cl C fp s H) ifs c) (he:∀cl C fp s H,JE (cxC X N scope cl C fp s H) elt f) (S:CompScope X N k is scope) (hsw:swapsWith (.ListComp elt [⟨tg,iter,ifs,0⟩] scope pos) (some (.Name x pos')) spos.line X.env=pure true:=by rfl) (hf:X.fn x=true\/X.env.scope.names.lookup x=some .local:=by first | exact .inl rfl | exact .inr rfl | assumption) (hs:∀x,foldedSetIterable iter X.env x=pure x:=by intro _;rfl):JS X (.Assign [.Name x pos'] (.ListComp elt [⟨tg,iter,ifs,0⟩] scope pos) spos) (sSet i (eComp it k is bd c f)):=⟨zzx hcalm hN hxi hx hi.out (fun cl C fp s H=>(hg cl C fp s H).out) (fun cl C fp s H=>(hc cl C fp s H).out) (fun cl C fp s H=>(he cl C fp s H).out) S hsw hf hs⟩
theorem zgu {X:Cx}:JIf X [] bYes:=⟨zbae⟩
theorem zvf {X:Cx} {c:Expr} {t:ST} (h:JT X c t):JIf X [c] t:=⟨zbad h.out⟩
end
section
variable {X:Cx} {x:Str} {k:Nat} {ps:List Str} {F:DFn} {p pos:Pos} {e:Expr} {es:List Expr} {g:SA}
theorem zt (c : CalD X.prog X.w X.K X.mg X.base x k ps F) (hn : ∀ ds st v st', F ds st = .ok v st' -> ds.length = ps.length) (hr : Room k X.A) (hg : Gl X x) (ha : JA X (e :: es) g) (hdb : (x == ("__debug__" : Str)) = false := by decide) (he : starEach (e :: es) X.env = (false, eval e X.env) :: starEach es X.env := by rfl) (hpl : (backTo pos (starEach es X.env)).any (·.1) = false := by rfl) : JE X (.Call (.Name x p) (e :: es) [] pos) (eCall F g) := ⟨zbfk c hn hr hg ha.out hdb he hpl⟩
end
section
theorem zbf {P:Program} {w:World} {K:Fg} {mg:Str->Option Value} {base h:Heap} {x:Str} {st:Stmt} {N ps:List Str} {k:Nat} {b:SS} (T:TopF K x st) (X:K.In h) (G:h.Ns mainGlobals mg) (S:FnScope N ps (defScope st)) (bd:∀(kV doc pm:Value) (an:Option Addr) (cdv ct:Value) (us:List Value),us.length=ps.length->bindArgs (PySem.W.fnOf x x (defArgs st) (defBody st) (defScope st) .none kV doc pm an cdv ct) ⟨us,[]⟩=pure (ps.zip us)) (hbody:∀(f:Addr) (cdv:Value) (A:Around) (outer:List Env) (s:Shared) (H:Hp) (E:XK),Room k (A.deeper (envOfC x (defScope st) s.heap.objs.size f cdv)) ->
 JB (cxOf CX0 P w K mg base N x (defScope st) f cdv A outer s H E).nox (defBody st) b):CalD P w K mg base x (k+1) ps (fnD N.length ps.length b):=zbbd T X G S bd (fun f cdv A outer s H E rr=>(hbody f cdv A outer s H E rr).out)
end
section
theorem zza {P : Program} {w : World} {K : Fg} {mg : Str -> Option Value} {base : Heap} {st : Stmt} {N ps : List Str} {k : Nat} {b : SS} {f : Addr} {fd : FuncData} (F : Fun K "law" "law" st f fd) (S : FnScope N ps (defScope st)) (hp : ps.length = 1) (hbody : ∀ (cdv : Value) (A : Around) (outer : List Env) (s : Shared) (H : Hp) (E : XK), Room k (A.deeper (envOfC "law" (defScope st) s.heap.objs.size f cdv)) ->
 JB (cxOf CX0 P w K mg base N "law" (defScope st) f cdv A outer s H E).nox (defBody st) b) (holds : ∀ ns : List Int, ns.length <= 63 -> ∃ st', fnD N.length 1 b [.scr (ns.map .int)] [] = .ok (.bl true) st') : FnOk P w K mg base CX0 (k + 1) f fd ps (spLaw K) := zbdq F S hp (fun cdv A outer s H E rr => (hbody cdv A outer s H E rr).out) holds
end
section
variable {X:Cx} {a b c e:Expr} {f f' f'':SE} {pos:Pos} {sm:Stmt}
theorem zrg (h:JE X a f):JE X (.UnaryOp .USub a pos) (eUn oNeg f):=⟨zbio h.out⟩
theorem zez (h:JE X a f) (he:∀whole,isTrue a X.env whole=(do let v ← whole;standAt a.pos;holding [v] (truthy v)):=by intro _;rfl):JT X a (eTru f):=⟨zben h.out he⟩
end
section
variable {X:Cx} {l:Expr} {f:SE} {elts:List Expr} {k j:Nat} {tpos p pos kpos cpos:Pos}
end
section
variable {X:Cx} {tg iter elt:Expr} {ifs:List Expr} {it:SA} {bd:SG} {c:ST} {f:SE} {N:List Str} {k:Nat} {is:List Nat} {scope:Scope} {pos:Pos}
end
section
theorem za {X:Cx} {e:Expr} {es:List Expr} {f:SE} {g:SA} (ha:JE X e f) (hr:JA X es g) (hp:plainE e=true:=by rfl):JA X (e::es) (aCons f g):=⟨zvj ha.out hr.out hp⟩
end
section
variable {X:Cx} {a b:Expr} {g:SA} {elts:List Expr} {k:Nat} {tpos p pos:Pos}
end
section
end
end Dd
namespace L2
open PySem PySem.Spec PyProof.Rows
section
variable {prog:Program} {w:World} {A:Around} {R:Result->Shared->Prop} {I:Addr} {fp wr:List Addr} {n:Nat} {P:Nat->Value->Prop} {St:Nat->Heap->Prop}
end
section
variable {prog:Program} {w:World} {A:Around} {E:Value->Shared->Prop} {s:Shared}
end
section
variable {X:Cx} {p pos cpos kpos:Pos} {l:Expr} {t:TA} {d:Int} {j:Nat}
end
section
open PySem.AutoSeq1
end
end L2
namespace Dd
open PySem L2
section
variable {X:Cx} {p pos cpos kpos:Pos} {l:Expr} {f:SA} {d:Int} {j:Nat}
end
section
variable {X:Cx} {o e:Expr} {es:List Expr} {f:SE} {ga:SA} {apos cpos:Pos}
end
end Dd
namespace L2
open PySem PySem.Spec PyProof.Rows
section
variable {X:Cx} {p pos cpos kpos upos:Pos} {l:Expr} {t:TA} {d:Int} {j:Nat}
end
end L2
namespace Dd
open PySem L2 PyProof.Rows
section
variable {X:Cx} {p pos cpos kpos upos:Pos} {l:Expr} {f:SA} {d:Int} {j:Nat}
end
end Dd
namespace L2
open PySem PySem.Spec PyProof.Rows
section
variable {X:Cx}
end
theorem zhl : fillsNumberSlot (.type "tuple") "mul" = pure false :=
 PySem.fillsNumberSlot_seq (id := "tuple.__mul__") (r := some (.builtin "tuple.__rmul__")) xhq.lookup (by decide +kernel) F.slot_tuple_rmul.lookup (by decide +kernel)
theorem zxl : seqRepeat? (.type "tuple") = pure (some (.builtin "tuple.__mul__")) := by
 unfold seqRepeat?;rw [PySem.seqSlot_of (T := "tuple") (name := "__mul__") (id := "tuple.__mul__") xhq.lookup (by decide +kernel), PySem.seqSlot_of (T := "tuple") (name := "__rmul__") (id := "tuple.__rmul__") F.slot_tuple_rmul.lookup (by decide +kernel)]
 rfl
theorem zth (a:Int) (t:Tok) (l:Addr) (items:Array Value) (n:Nat) (dd:Option Addr) (sl:Array (Option Value)) :
  Meets (Builtin.«int.__rmul__» ⟨[.int a t, .ref l], []⟩) (fun _ R s => s.heap.get? l = some { cls := .type "tuple", dict := dd, data := .seq items n, slots := sl } /\ R (.ok (.ret Value.notImplemented)) s) :=
 .of_wp fun prog w A R s h=>by
  obtain ⟨hp,g,d,tk,os⟩:=s;obtain ⟨hl,h⟩:=h
  wp_walk
  exact ⟨_,rfl,h⟩
theorem nb {b:Bool} (h:b=false):decide (b=true)=false:=by rw[h];rfl
section
open PySem.AutoSeq1
variable (l:Addr) (items:Array Value) (n:Nat) (dd:Option Addr) (sl:Array (Option Value)) (x:Int) (u:Tok)
theorem zqi (lo:-1000000<=x) (hx:x<=0) (ne:items.isEmpty=false) :
  Meets (Builtin.«tuple.__mul__» ⟨[.ref l, .int x u], []⟩) (fun _ R s => s.heap.get? l = some { cls := .type "tuple", dict := dd, data := .seq items n, slots := sl } /\ R (.ok (.ret (.ref s.heap.objs.size))) { s with heap := s.heap.push { cls := .type "tuple", data := .seq #[] } }) :=
 .of_wp fun prog w A R s h=>by
  obtain ⟨hp,g,d,tk,os⟩:=s;obtain ⟨hl,h⟩:=h
  wp_walk
  try
   refine xew ?c1 ?_
   case c1=>exact nb (by rw[xfj];exact ⟨xbu (by lia),xbu (by lia)⟩)
   wp_walk
  try
   refine xew ?c1 ?_
   case c1=>exact nb (by rw[xfj];exact ⟨ne,beq_false_of_ne (by lia)⟩)
   wp_walk
  try
   refine wpAny_ite_true ?c1 ?_
   case c1=>exact yb (by rw[Bool.or_eq_true];exact .inl (xcj hx))
   wp_walk
  exact ⟨_,rfl,h⟩
theorem zuj (hx:x=1) :
  Meets (Builtin.«tuple.__mul__» ⟨[.ref l, .int x u], []⟩) (fun _ R s => s.heap.get? l = some { cls := .type "tuple", dict := dd, data := .seq items n, slots := sl } /\ R (.ok (.ret (.ref l))) s) :=
 .of_wp fun prog w A R s h=>by
  obtain ⟨hp,g,d,tk,os⟩:=s;obtain ⟨hl,h⟩:=h
  wp_walk
  try
   refine xew ?c1 ?_
   case c1=>exact nb (by rw[xfj];exact ⟨xbu (by lia),xbu (by lia)⟩)
   wp_walk
  try
   refine wpAny_ite_true ?c1 ?_
   case c1=>exact yb (by rw[Bool.or_eq_true];exact .inr (by rw[hx];rfl))
   wp_walk
  exact ⟨_,rfl,h⟩
theorem zqj (hx:2<=x) (hi:x<=1000000) (ne:items.isEmpty=false) (hz:((items.size:Nat):Int) * x<=1000000) (c4:Builtin.Tuple.tupleTooMany (((items.size:Nat):Int) * x)=false)
  (hsz:(List.foldl (fun x1 x2=>x1++x2) #[] (List.replicate x.toNat items)).size<=sizeLine) :
  Meets (Builtin.«tuple.__mul__» ⟨[.ref l, .int x u], []⟩) (fun _ R s => s.heap.get? l = some { cls := .type "tuple", dict := dd, data := .seq items n, slots := sl } /\ R (.ok (.ret (.ref s.heap.objs.size))) { s with heap := s.heap.push { cls := .type "tuple", data := .seq (List.foldl (fun x1 x2 => x1 ++ x2) #[] (List.replicate x.toNat items)) } }) :=
 .of_wp fun prog w A R s h=>by
  obtain ⟨hp,g,d,tk,os⟩:=s;obtain ⟨hl,h⟩:=h
  wp_walk
  try
   refine xew ?c1 ?_
   case c1=>exact nb (by rw[xfj];exact ⟨xbu (by lia),xbu (by lia)⟩)
   wp_walk
  try
   refine xew ?c1 ?_
   case c1=>exact nb (by rw[xfj];exact ⟨ne,beq_false_of_ne (by lia)⟩)
   wp_walk
  try
   refine xew ?c1 ?_
   case c1=>exact nb (by rw[xfj];exact ⟨xbu (by lia),ne⟩)
   wp_walk
  try
   refine xew ?c1 ?_
   case c1=>exact xbu (by lia)
   wp_walk
  try
   refine xew ?c1 ?_
   case c1=>exact nb c4
   wp_walk
  try (refine xew (xbu (Nat.not_lt.mpr hsz)) ?_;wp_walk)
  exact ⟨_,rfl,h⟩
end
noncomputable def timesL {α:Type} (xs:List α) (n:Int):List α:=(List.replicate n.toNat xs).flatten
theorem zht {α:Type} (xs:List α):∀(n:Nat) (acc:List α),(List.foldl (fun (x1 x2:Array α)=>x1++x2) acc.toArray (List.replicate n xs.toArray))=(acc++(List.replicate n xs).flatten).toArray
 | 0,acc=>by simp
 | n+1,acc=>by
  rw[xdw,xjm,xdw,xfl,← xcg,← zht xs n (acc++xs)]
  congr 1
  simp
theorem Vals.times {xs:List V} {us:List Value} (r:Vals xs us):∀n:Nat,Vals (List.replicate n xs).flatten (List.replicate n us).flatten
 | 0=>.nil
 | n+1=>by
  rw[xdw,xfl,xdw,xfl];exact r.append (Vals.times r n)
noncomputable def rMulT (K:Fg):R2:=fun x y H Q=>∃t xs n,x=.ref t/\y=.int n/\SqT K H t xs/\xs≠[]/\-1000000<=n/\n<=1000000/\(xs.length:Int) * n<=1000000/\(n=1->Q (.ref t) H)/\(n≠1->∀p,H p=none->Q (.ref p) (upd H p (.tup (timesL xs n))))
theorem zgh {α:Type} (xs:List α):∀n:Nat,(List.replicate n xs).flatten.length=n * xs.length
 | 0=>by simp
 | n+1=>by rw[xdw,xfl,xcb,zgh xs n,Nat.succ_mul];lia
theorem zyj {X:Cx}:OpR X (binaryOp .Mult) (rMulT X.K):=by
 intro pins s σ H x y v u Q I r1 r2 h;obtain ⟨t,xs,n,rfl,rfl,ht,ne,lo,hi,hz,q1,q2⟩:=h;cases r1;obtain ⟨tk,rfl⟩:=r2;obtain ⟨its,r,⟨o,e,ty,m,dt⟩,z⟩:=I.tuple ht;obtain ⟨cls,dd,data,sl⟩:=o;dsimp only at ty dt;subst ty dt;have len:=r.length;have ne':its.toArray.isEmpty=false:=by
  cases its with
  | nil=>cases r;exact absurd rfl ne
  | cons a l=>rfl
 have road : ∀ {Q' : Value -> Shared -> Prop}, wpAny (model X.prog X.w) X.A (call (.builtin "tuple.__mul__") [.ref t, .int n tk]) Q' X.xe s -> wpAny (model X.prog X.w) X.A (binaryOp .Mult (.ref t) (.int n tk)) Q' X.xe s := fun {Q'} hq =>
  wpAny_binaryOp_repeat_ref (T := "tuple") (U := "int") (by decide) ⟨_, e, rfl⟩ (fun s' => typeIs_int s' n tk) zhl F.fills_int_mul F.slot_int_rmul zxl F.slot_int_index.lookup
   (xik F.slot_int_rmul (typeIs_int s n tk) F.entry_int_rmul (F.args_int_rmul_2 _ _) (zth n tk t its.toArray m dd sl) ⟨e,rfl,⟨_,e,rfl⟩,hq⟩)
 refine road ?_;by_cases c:n=1
 ·exact xik xhq ⟨_,e,rfl⟩ xkh (xjx _ _) (zuj t its.toArray m dd sl n tk c) ⟨e,.ref t,H,I,rfl,q1 c⟩
 have done : ∀ ts : List Value, Vals (timesL xs n) ts -> (timesL xs n).length <= sizeLine -> EP X pins σ Q (.ref s.heap.objs.size) { s with heap := s.heap.push { cls := .type "tuple", data := .seq ts.toArray } } := fun ts rt hl =>
  ⟨.ref s.heap.objs.size,_,I.laid (t':=s.toks) (o:=.tup (timesL xs n)) (fun b ob hb=>xbc _ hb) (xbg _) ⟨hl,ts,rt,IsTup.new s.heap _⟩,rfl,q2 c _ (I.hok.fresh (xbg _))⟩
 have lenT:(timesL xs n).length=n.toNat * xs.length:=zgh xs n.toNat;by_cases c2:n<=0
 ·refine xik xhq ⟨_,e,rfl⟩ xkh (xjx _ _) (zqi t its.toArray m dd sl n tk lo c2 ne') ⟨e,?_⟩;have e0:timesL xs n=[]:=by unfold timesL;rw[show n.toNat=0 by lia];rfl
  exact done [] (by rw[e0];exact .nil) (by rw[e0];exact xcu _)
 ·have hz2:n.toNat * xs.length<=1000000:=by
   have:((n.toNat * xs.length:Nat):Int)=(xs.length:Int) * n:=by rw[Int.natCast_mul,Int.toNat_of_nonneg (by lia),Int.mul_comm]
   lia
  have hsl:n.toNat * xs.length<=sizeLine:=by rw[xef];lia
  have ef:List.foldl (fun (x1 x2:Array Value)=>x1++x2) #[] (List.replicate n.toNat its.toArray)=((List.replicate n.toNat its).flatten).toArray:=by
   have:=zht its n.toNat []
   simpa using this
  have zi:((its.toArray.size:Nat):Int) * n<=1000000:=by rw[xbm,← len];exact hz
  refine xik xhq ⟨_,e,rfl⟩ xkh (xjx _ _) (zqj t its.toArray m dd sl n tk (by lia) hi ne' zi (xbu (by rw[xef];lia)) (by rw[ef,xbm,zgh,← len];exact hsl)) ⟨e,?_⟩;rw[ef];exact done _ (r.times n.toNat) (by rw[lenT];exact hsl)
end L2
namespace Dd
open PySem L2 PyProof.Rows
noncomputable def oMulT (x y:D) (st:Store):Res D:=match x,y with
 | .tup xs,.int n=>if xs≠[]/\-1000000<=n/\n<=1000000/\(xs.length:Int) * n<=1000000 then .ok (.tup (timesL xs n)) st else .stuck
 | _,_=>.stuck
theorem AtAll.times {K:Fg} {ρ:Loc} {H:Hp} {ds:List D} {vs:List V} (h:AtAll K ρ H ds vs):∀n:Nat,AtAll K ρ H (List.replicate n ds).flatten (List.replicate n vs).flatten
 | 0=>.nil
 | n+1=>by
  rw[xdw,xfl,xdw,xfl];exact h.append (AtAll.times h n)
theorem zyr {K:Fg}:OpD K oMulT (rMulT K):=fun ρ H st x y u v z st' Q rp a b e q=>by
 unfold oMulT at e;split at e
 ·rename_i xs n;split at e
  ·rename_i hs;cases e;cases b;cases a with
   | tup h1 h2 h3 =>
    have hl:=h3.length;refine ⟨_,_,n,rfl,rfl,SqT.of h1,fun z=>?_,hs.2.1,hs.2.2.1,by rw[hl];exact hs.2.2.2,fun z=>?_,fun z p hp=>?_⟩
    ·subst z;cases h3;exact hs.1 rfl
    ·subst z;refine q _ _ _ (.refl _ _) rp ?_;have e1:timesL xs 1=xs:=by simp[timesL]
     rw[e1];exact .tup h1 h2 h3
    ·exact q _ _ _ (Ext.new hp _) (rp.new hp _) (.newT rp hp (h3.times n.toNat))
  ·cases e
 ·cases e
end Dd
namespace L2
open PySem PySem.Spec PyProof.Rows PySem.W
section
variable {P:Program} {w:World} {B:Around} {sg:Shared}
end
end L2
namespace Dd
open PySem L2 PyProof.Rows
noncomputable def sFz (i:Nat) (t:SS):SS:=fun σ st=>match σ[i]? with
 | some (some (.ref n))=>match st[n]? with
  | some (.lst xs)=>t (σ.set i (some (.lst xs))) (st.set n .dead)
  | _=>.stuck
 | _=>.stuck
theorem zmd {α:Type}:∀{l:List α} {i:Nat} {x:α},l[i]?=some x->l.set i x=l
 | [],_,_,_=>rfl
 | a::l,0,x,h=>by simp at h;subst h;rfl
 | a::l,i+1,x,h=>by rw[List.set_cons_succ,zmd (by simpa using h)]
theorem zbew {X:Cx} {s:Stmt} {t:SS} {i:Nat} (h:JS X s t):JS X s (sFz i t):=⟨zif h.out fun E τ H hq0=>by
 obtain ⟨ρ,σ,st,fl,st',a,rp,e,q⟩:=hq0;unfold sFz at e;split at e
 ·rename_i n hi;split at e
  ·rename_i xs hn;obtain ⟨u,hu,au⟩:=a.get hi;obtain ⟨p,rfl,hp,vs2,k1,k2⟩:=zdi rp au hn (by intro z;cases z);have hlen:=(xbo.mp hp).1;obtain ⟨EE,R⟩:=rp.kill hlen;have at':At X.K {ρ with m:=ρ.m.set n none} H (.lst xs) (.ref p):=by
    refine .lst k1 ⟨fun z=>?_,fun z=>(rp.gh p z).2 (xch hp)⟩ (k2.ext EE);obtain ⟨j,hj,e2⟩:=xdv z;have e3:(ρ.m.set n none)[j]?=some (some p):=by rw[xbe hj,e2]
    by_cases hin:j=n
    ·subst hin;rw[xdl hlen] at e3;simp at e3
    ·rw[xcm (xeb hin)] at e3;exact hin (rp.inj j n p e3 hp)
   have as':=AtS.set at' i (a.ext EE);rw[zmd hu] at as';exact ⟨_,_,_,fl,st',as',R,e,q.ext EE⟩
  ·cases e
 ·cases e⟩
end Dd
namespace L2
open PySem PySem.Spec PyProof.Rows
end L2
namespace Dd
open PySem L2 PyProof.Rows
section
variable {X:Cx} {o e:Expr} {es:List Expr} {f:SE} {ga:SA} {apos cpos:Pos}
end
end Dd
namespace Dd
variable {α:Type} {motive:List α->Prop}
@[elab_as_elim] theorem len0 (us:List α) (hl:us.length=0) (h:motive []):motive us:=by rw[List.eq_nil_of_length_eq_zero hl];exact h
@[elab_as_elim] theorem lenS {n:Nat} (us:List α) (hl:us.length=n+1) (h:∀a us,us.length=n->motive (a::us)):motive us:=by
 cases us with
 | nil=>cases hl
 | cons a us=>exact h a us (Nat.succ.inj hl)
@[elab_as_elim] theorem len1 (us:List α) (hl:us.length=1) (h:∀a,motive [a]):motive us:=lenS us hl fun a us hl=>len0 us hl (h a)
@[elab_as_elim] theorem len2 (us:List α) (hl:us.length=2) (h:∀a b,motive [a,b]):motive us:=lenS us hl fun a us hl=>len1 us hl (h a)
@[elab_as_elim] theorem len3 (us:List α) (hl:us.length=3) (h:∀a b c,motive [a,b,c]):motive us:=lenS us hl fun a us hl=>len2 us hl (h a)
end Dd
namespace Dd
open PySem L2
end Dd
namespace L2
open PySem PySem.Spec PyProof.Rows
end L2
namespace Dd
open PySem L2 PyProof.Rows
end Dd
namespace L2
open PySem PySem.Spec PyProof.Rows
section
variable {X:Cx} {tg:Expr}
end
end L2
namespace Dd
open PySem L2
section
variable {X:Cx} {tg a b c:Expr} {g:SA} {p pos:Pos}
end
end Dd
namespace Dd
open PySem L2 PyProof.Rows
section
variable {X:Cx} {o e:Expr} {es:List Expr} {f:SE} {ga:SA} {apos cpos:Pos}
end
end Dd
namespace L2
open PySem PySem.Spec PyProof.Rows
variable {X:Cx} {e es:Expr} {te ts:TE} {pos p2:Pos}
end L2
namespace Dd
open PySem L2
section
variable {X:Cx} {e es:Expr} {f g:SE} {pos p2:Pos}
end
end Dd
namespace L2
open PySem PySem.Spec PyProof.Rows
section
variable {prog:Program} {w:World} {A:Around} {E:Value->Shared->Prop} {s:Shared}
end
variable {X:Cx} {e es:Expr} {te ts:TE} {pos p2:Pos}
end L2
namespace Dd
open PySem L2
section
variable {X:Cx} {e es:Expr} {f g:SE} {pos p2:Pos}
end
end Dd
namespace L2
open PySem PySem.Spec PyProof.Rows
end L2
namespace Dd
open PySem L2
end Dd
namespace L2
open PySem PySem.Spec PyProof.Rows
section
variable {X:Cx} {x:Str} {C:Addr} {bmB bmN:List Value} {newId nid initId inN B Bn:String} {e:Expr} {es:List Expr} {ta:TA} {np cpos pos:Pos}
end
noncomputable def Rec (h:Heap) (e:Addr) (cls:Value) (dx:Option Addr) (tb:Value):Prop:=∃oe vs,h.get? e=some oe/\oe.cls=cls/\oe.dict=dx/\oe.data=.fields vs/\vs[1]?=some tb/\vs[2]?=some .none
noncomputable def RecT (h:Heap) (T:Addr) (x:Value):Prop:=∃o ts,h.get? T=some o/\o.data=.fields ts/\ts[3]?=some x
structure Mv (ch fs:List Addr) (h h':Heap):Prop where
 keep:∀b o,b∉ch->b∉fs->h.get? b=some o->h'.get? b=some o
 slot:∀b o,b∉ch->b∈fs->h.get? b=some o->∃sl,h'.get? b=some {o with slots:=sl}
theorem Mv.trans {ch fs:List Addr} {h h1 h2:Heap} (a:Mv ch fs h h1) (b:Mv ch fs h1 h2):Mv ch fs h h2 :=
 ⟨fun c o x y e=>b.keep c o x y (a.keep c o x y e),fun c o x y e=>let ⟨_,e1⟩:=a.slot c o x y e;let ⟨sl,e2⟩:=b.slot c _ x y e1;⟨sl,e2⟩⟩
theorem Mv.mono {ch ch' fs:List Addr} {h h':Heap} (a:Mv ch fs h h') (k:∀b∈ch,b∈ch'):Mv ch' fs h h' :=
 ⟨fun b o x y e=>a.keep b o (fun z=>x (k b z)) y e,fun b o x y e=>a.slot b o (fun z=>x (k b z)) y e⟩
theorem Mv.set {fs:List Addr} {h:Heap} {a:Addr} {f:Obj->Obj}:Mv [a] fs h (h.update a f) :=
 ⟨fun b o x _ e=>by rw[xdc _ _ (by rintro rfl;exact x (xbl.mpr rfl))];exact e,
  fun b o x _ e=>⟨o.slots,by rw[xdc _ _ (by rintro rfl;exact x (xbl.mpr rfl))];exact e⟩⟩
theorem zmh {h:Heap} {e:Addr} {o:Obj} {vs:Array Value} {i:Nat} {x:Value} (he:h.get? e=some o) (hd:o.data=.fields vs) :
 (h.update e (Obj.mapFields (·.setIfInBounds i x))).get? e=some (o.mapFields (·.setIfInBounds i x)):=xfd _ he (Obj.isFreed_of_fields (xgy hd _))
theorem znf (o:Obj) (f:Array Value->Array Value):(o.mapFields f).cls=o.cls/\(o.mapFields f).dict=o.dict:=by
 obtain ⟨a,b,c,d⟩:=o;cases c<;>exact ⟨rfl,rfl⟩
section
variable {M:Model} {A:Around} {E:Value->Shared->Prop} {s:Shared}
theorem zex {e T:Addr} {cls x:Value} {dx:Option Addr} {fs:List Addr} {Q:Unit->Shared->Prop} (r:Rec s.heap e cls dx (.ref T)) (t:RecT s.heap T x) (hne:T≠e)
  (h:∀h',Mv [T] fs s.heap h'->Rec h' e cls dx (.ref T)->RecT h' T .none->Q () {s with heap:=h'}):wpAny M A (setFlight (.ref e) none) Q E s:=by
 obtain ⟨oe,vs,e1,e2,e3,e4,e5,e6⟩:=r;obtain ⟨o,ts,t1,t2,t3⟩:=t;have sz:=(xey.mp t3).1;unfold setFlight;refine xba (xhv e1 e4 e5 ?_);rw[if_pos (by simp)];refine xil t1 t2 sz (h _ .set ⟨oe,vs,?_,e2,e3,e4,e5,e6⟩ ⟨_,_,zmh t1 t2,xgy t2 _,?_⟩)
 ·rw[xdc _ _ hne];exact e1
 ·simp[sz]
theorem zna {base:Heap} {env:Env} {outer:List Env} {L e:Addr} {oe:Obj} {vs:Array Value} {head:Value} {nx:Bool} {Q:Unit->Shared->Prop} (hfr:A.frames=some (env::outer)) (hl:s.heap.FunFrames base (env::outer)) (hf:env.frame=some L)
  (he:s.heap.get? e=some oe) (hd:oe.data=.fields vs) (hz:1 < vs.size) (h2:vs[2]?=some .none)
  (h:∀h',Mv [e] (frs (env::outer)) s.heap h'->Rec h' e oe.cls oe.dict (.ref s.heap.objs.size)->RecT h' s.heap.objs.size (rawInt L)->Q () {s with heap:=h'}) :
  wpAny M A (do setField (.ref e) 1 (← EntryCells.newEntry head (← frameOf env) .none (rawInt L) .none (← entryPlaceOf L nx))) Q E s:=by
 have ne:e∉frs (env::outer):=fun hm=>by
  obtain ⟨_,o,ho,hn⟩:=hl.mem hm;rw[he] at ho;cases ho;exact hn vs hd
 refine xba (wpAny_frameOf_fun hfr hl hf fun h1 q1=>xba (wpAny_entryPlaceOf fun pl hp=>?_));unfold EntryCells.newEntry newFields;refine xba (xeh ?_ (by exact hp.sizeOk5 _ _ _ _ _));have e1:h1.get? e=some oe:=(q1.2.1 e ne).trans he;have sz:h1.objs.size=s.heap.objs.size:=q1.1;have e2:=fun ob:Obj=>xbc (h:=h1) ob e1
 refine xil (e2 _) hd hz (h _ ⟨fun b o x y q=>?_,fun b o x y q=>?_⟩ ⟨_,_,zmh (e2 _) hd,(znf _ _).1,(znf _ _).2,xgy hd _,by rw[sz];simp[hz],by rw[xjh (by decide)];exact h2⟩ ?_)
 ·rw[xdc _ _ (by rintro rfl;exact x (xbl.mpr rfl))];exact xbc _ ((q1.2.1 b y).trans q)
 ·obtain ⟨sl,z⟩:=q1.2.2 b o q;refine ⟨sl,?_⟩;rw[xdc _ _ (by rintro rfl;exact x (xbl.mpr rfl))];exact xbc _ z
 ·have ne2:e≠h1.objs.size:=xbt (xbk e1);rw[← sz];refine ⟨_,_,(xdc _ _ ne2).trans (xbz h1 rfl),rfl,?_⟩
  ·first
    | (simp;done)
    | (rcases hp with rfl | ⟨_,_,_,_,_,_,_,rfl⟩<;>simp)
theorem znb {base:Heap} {env:Env} {outer:List Env} {L e:Addr} {cls:Value} {dx:Option Addr} {Q:Unit->Shared->Prop} (hfr:A.frames=some (env::outer)) (hl:s.heap.FunFrames base (env::outer)) (hf:env.frame=some L)
  (r:Rec s.heap e cls dx .none) (h:∀h',Mv [e] (frs (env::outer)) s.heap h'->Rec h' e cls dx (.ref s.heap.objs.size)->RecT h' s.heap.objs.size (rawInt L)->Q () {s with heap:=h'}) :
  wpAny M A (noteFrame (.ref e) env) Q E s:=by
 obtain ⟨oe,vs,e1,e2,e3,e4,e5,e6⟩:=r;subst e2 e3;unfold noteFrame;simp only[hf];refine xba (xhv e1 e4 e5 ?_);rw[if_neg (by decide)];exact zna hfr hl hf e1 e4 (xey.mp e5).1 e6 h
theorem zqg {base:Heap} {env:Env} {outer:List Env} {L e T:Addr} {cls:Value} {dx:Option Addr} {Q:Unit->Shared->Prop} (hfr:A.frames=some (env::outer)) (hl:s.heap.FunFrames base (env::outer)) (hf:env.frame=some L)
  (r:Rec s.heap e cls dx (.ref T)) (t:RecT s.heap T .none) (hne:T≠e)
  (h:∀h' T',s.heap.get? T'=none->(∃o,h'.get? T=some o)->Mv [e,T] (frs (env::outer)) s.heap h'->Rec h' e cls dx (.ref T')->RecT h' T' (rawInt L)->Q () {s with heap:=h'}) :
  wpAny M A (noteFrame (.ref e) env) Q E s:=by
 obtain ⟨oe,vs,e1,e2,e3,e4,e5,e6⟩:=r;obtain ⟨o,ts,t1,t2,t3⟩:=t;subst e2 e3;unfold noteFrame;simp only[hf];refine xba (xhv e1 e4 e5 ?_);rw[if_pos (by simp)];refine xba (xhv t1 t2 t3 ?_);rw[if_neg (by simp[rawInt])];refine xba (xil t1 t2 (xey.mp t3).1 ?_);have mv:Mv [e,T] (frs (env::outer)) s.heap (s.heap.update T (Obj.mapFields (·.setIfInBounds 3 .none))):=Mv.set.mono fun b z=>by
  rw[xbl] at z;subst z;exact xci _ xce
 have e1':(s.heap.update T (Obj.mapFields (·.setIfInBounds 3 .none))).get? e=some oe:=by rw[xdc _ _ hne];exact e1
 have nf:T∉frs (env::outer):=fun hm=>by
  obtain ⟨_,ob,hb,hn⟩:=hl.mem hm;rw[t1] at hb;cases hb;exact hn ts t2
 have sz:(s.heap.update T (Obj.mapFields (·.setIfInBounds 3 Value.none))).objs.size=s.heap.objs.size:=by simp[Heap.update]
 refine zna (s:={s with heap:=_}) (base:=base) hfr (hl.of_keeps fun b ob hb hn=>?_) hf e1' e4 (xey.mp e5).1 e6 fun h' m1 r1 t1'=>h h' s.heap.objs.size (xfg (xbg _)) ⟨_,m1.keep T _ (fun z=>hne (xbl.mp z)) nf (zmh t1 t2)⟩ (mv.trans (m1.mono fun b z=>?_)) (by rw[← sz];exact r1) (by rw[← sz];exact t1')
 ·refine ⟨ob,?_,rfl⟩;rw[xdc _ _ (by rintro rfl;rw[t1] at hb;cases hb;exact hn _ t2)];exact hb
 ·rw[xbl] at z;subst z;exact xce
end
noncomputable def HX:HO:=.ext fun _=>True
noncomputable def trk2 (H:Hp) (ea T:Addr):Hp:=upd (upd H T HX) ea HX
structure Flies (H:Hp) (h:Heap) (ea T:Addr) (cls:Value) (dx:Option Addr):Prop where
 r:Rec h ea cls dx (.ref T)
 t:RecT h T .none
 ne:T≠ea
 fe:H ea=none
 ft:H T=none
theorem zbv {H:Hp} {ea T b:Addr}:trk2 H ea T b=some HX/\(b=ea\/b=T)\/(b≠ea/\b≠T/\trk2 H ea T b=H b):=by
 unfold trk2;by_cases h1:b=ea
 ·exact .inl ⟨by rw[h1,zf],.inl h1⟩
 ·by_cases h2:b=T
  ·exact .inl ⟨by rw[zj h1,h2,zf],.inr h2⟩
  ·exact .inr ⟨h1,h2,by rw[zj h1,zj h2]⟩
theorem zzk {P:Program} {w:World} {H:Hp} {h:Heap} {a:Addr} (e:∃o,h.get? a=some o):ObjOk P w H h a HX:=⟨trivial,e,fun _ _ _ _=>trivial⟩
theorem ObjOk.here {P:Program} {w:World} {H:Hp} {h:Heap} {a:Addr} {o:HO} (x:ObjOk P w H h a o):∃ob,h.get? a=some ob:=by
 cases o with
 | lst xs=>obtain ⟨_,_,_,_,e⟩:=x;exact ⟨_,e⟩
 | tup xs=>obtain ⟨_,_,_,p⟩:=x;obtain ⟨_,e,_⟩:=p;exact ⟨_,e⟩
 | dK kvs=>obtain ⟨_,_,_,_,_,_,_,e,_⟩:=x;exact ⟨_,e⟩
 | dT kvs=>obtain ⟨_,_,_,_,_,_,_,e,_⟩:=x;exact ⟨_,e⟩
 | set S n=>obtain ⟨_,_,_,_,e,_⟩:=x;exact ⟨_,e⟩
 | ins C dx fs=>exact ⟨_,x.2.2.2.1⟩
 | own y=>exact x
 | xd fs=>obtain ⟨_,⟨_,_,_,e,_⟩,_⟩:=x;exact ⟨_,e⟩
 | rng lo hi=>obtain ⟨_,_,_,e⟩:=x;exact ⟨_,e⟩
 | frz ob u=>exact ⟨_,x.1⟩
 | tbl ps=>exact ⟨_,x⟩
 | met f y=>exact ⟨_,x⟩
 | ext φ=>exact x.2.1
theorem Inv.flew {X:Cx} {pins:List (Addr × Obj)} {τ:St} {H H0:Hp} {s:Shared} {h':Heap} {ea T:Addr} (I:Inv X pins τ H0 s) (sub:∀b,H0 b=H b\/(H0 b=some HX/\H b=none))
  (new:∀b,b=ea\/b=T->s.heap.get? b=none\/H0 b=some HX) (keep:∀b o,H0 b≠some HX->b∉frs X.stack->s.heap.get? b=some o->h'.get? b=some o)
  (slot:∀b o,H0 b≠some HX->b∈frs X.stack->s.heap.get? b=some o->∃sl,h'.get? b=some {o with slots:=sl}) (there:∀b o,s.heap.get? b=some o->∃o',h'.get? b=some o')
  (xe:∃o,h'.get? ea=some o) (xt:∃o,h'.get? T=some o):Inv X pins τ (trk2 H ea T) {s with heap:=h'}:=by
 have same:∀b o,H0 b=some o->o≠HX->trk2 H ea T b=some o:=fun b o e n=>by
  obtain ⟨ob,hb⟩:∃ob,s.heap.get? b=some ob:=by
   have:=I.hok.lt e;exact (I.hok b o e).here
  rcases zbv (H:=H) (ea:=ea) (T:=T) (b:=b) with ⟨_,z⟩ | ⟨_,_,z⟩
  ·rcases new b z with y | y
   ·rw[hb] at y;cases y
   ·rw[e] at y;exact absurd (xbw y) n
  ·rw[z];rcases sub b with y | ⟨y,_⟩
   ·rw[← y];exact e
   ·rw[e] at y;exact absurd (xbw y) n
 refine I.call (g':=s.gens) (t':=s.toks) (d':=s.drawn) (ch:=[]) ⟨fun b o e n hb _=>keep b o (by rw[n];intro z;cases z) hb e,fun b o e n hb _=>slot b o (by rw[n];intro z;cases z) hb e,fun b o e n _=>?_,fun b o e _=>there b o e,fun b xs e=>same b _ e (by intro z;cases z),fun b o u e=>same b _ e (by intro z;cases z),fun b ps e=>⟨#[],by rw[xif];exact same b _ e (by intro z;cases z)⟩⟩ (fun b o e=>?_) I.bare (fun _ z=>nomatch z)
 ·rcases zbv (H:=H) (ea:=ea) (T:=T) (b:=b) with ⟨_,z⟩ | ⟨_,_,z⟩
  ·rcases new b z with y | y
   ·rw[e] at y;cases y
   ·rw[n] at y;cases y
  ·rw[z];rcases sub b with y | ⟨y,_⟩
   ·rw[← y];exact n
   ·rw[n] at y;cases y
 ·rcases zbv (H:=H) (ea:=ea) (T:=T) (b:=b) with ⟨z,y⟩ | ⟨_,_,z⟩
  ·rw[z] at e;cases e
   rcases y with rfl | rfl
   ·exact zzk xe
   ·exact zzk xt
  ·rw[z] at e;have e0:H0 b=some o:=by
    rcases sub b with y | ⟨_,y⟩
    ·rw[y];exact e
    ·rw[e] at y;cases y
   by_cases hn:o=HX
   ·subst hn;obtain ⟨ob,hb⟩:=(I.hok b _ e0).here;exact zzk (there b ob hb)
   ·have nx:∀c,c=b\/H0 c=some (.own b)->H0 c≠some HX/\c∉frs X.stack:=fun c hc=>by
     rcases hc with rfl | hc
     ·exact ⟨by rw[e0];exact fun z=>hn (xbw z),fun z=>by rw[I.stkFree c z] at e0;cases e0⟩
     ·exact ⟨by rw[hc];exact fun z=>(nomatch z),fun z=>by rw[I.stkFree c z] at hc;cases hc⟩
    exact (I.hok b o e0).stay (fun c u hc q=>keep c u (nx c hc).1 (nx c hc).2 q) (fun c hc=>same c _ hc (by intro z;cases z)) (fun c xs hc=>same c _ hc (by intro z;cases z))
theorem zuv {X:Cx} {pins:List (Addr × Obj)} {τ:St} {H:Hp} {ea T:Addr} {cls:Value} {dx:Option Addr} {s:Shared} {M:Model} {E':Value->Shared->Prop} (st:X.stack=X.env::X.outer) (fr:X.env.frame=some X.env.locals) (F:Flies H s.heap ea T cls dx) (I:Inv X pins τ (trk2 H ea T) s) :
  wpAny M X.A (noteFrame (.ref ea) X.env) (fun _ s2=>∀(A':Around) (E:Value->Shared->Prop),wpAny M A' (setFlight (.ref ea) none) (fun _ s3=>∃T1,Flies H s3.heap ea T1 cls dx/\Inv X pins τ (trk2 H ea T1) s3) E s2) E' s:=by
 have hs:=I.stack;rw[st] at hs;have nx:∀b,trk2 H ea T b≠some HX->b∉[ea,T]:=fun b h z=>by
  simp only[xbn,xee,xhs] at z;rcases zbv (H:=H) (ea:=ea) (T:=T) (b:=b) with ⟨y,_⟩ | ⟨y1,y2,_⟩
  ·exact h y
  ·rcases z with z | z
   ·exact y1 z
   ·exact y2 z
 refine zqg (base:=X.base) (I.ok.frames.trans (by rw[st])) hs fr F.r F.t F.ne fun h1 T1 nT oT m1 r1 t1 A' E=>?_
 rw[← st] at m1;have ne1:T1≠ea:=by
  rintro rfl;obtain ⟨_,_,q,_⟩:=F.r;rw[nT] at q;cases q
 refine zex (fs:=frs X.stack) r1 t1 ne1 fun h2 m2 r2 t2=>?_
 have nT1:∀b o,s.heap.get? b=some o->b∉[T1]:=fun b o q z=>by
  rw[xbl] at z;subst z;rw[nT] at q;cases q
 have I2:=I.flew (h':=h2) (H:=H) (ea:=ea) (T:=T1) (fun b=>by
   rcases zbv (H:=H) (ea:=ea) (T:=T) (b:=b) with ⟨y,z⟩ | ⟨_,_,y⟩
   ·exact .inr ⟨y,by rcases z with rfl | rfl<;>first | exact F.fe | exact F.ft⟩
   ·exact .inl y) (fun b hb=>by
   rcases hb with rfl | rfl
   ·exact .inr (by unfold trk2;rw[zf])
   ·exact .inl nT) (fun b o hb hf q=>m2.keep b o (nT1 b o q) hf (m1.keep b o (nx b hb) hf q)) (fun b o hb hf q=>by
   obtain ⟨sl,q1⟩:=m1.slot b o (nx b hb) hf q;obtain ⟨sl2,q2⟩:=m2.slot b _ (nT1 b o q) hf q1;exact ⟨sl2,q2⟩) (fun b o q=>by
   have q1:∃o',h1.get? b=some o':=by
    by_cases hb:b∈[ea,T]
    ·simp only[xbn,xee,xhs] at hb;rcases hb with rfl | rfl
     ·obtain ⟨_,_,y,_⟩:=r1;exact ⟨_,y⟩
     ·exact oT
    ·by_cases hf:b∈frs X.stack
     ·obtain ⟨sl,q1⟩:=m1.slot b o hb hf q;exact ⟨_,q1⟩
     ·exact ⟨_,m1.keep b o hb hf q⟩
   obtain ⟨o1,q1⟩:=q1;by_cases hf:b∈frs X.stack
   ·obtain ⟨sl,q2⟩:=m2.slot b _ (nT1 b o q) hf q1;exact ⟨_,q2⟩
   ·exact ⟨_,m2.keep b _ (nT1 b o q) hf q1⟩) (by obtain ⟨_,_,y,_⟩:=r2;exact ⟨_,y⟩) (by obtain ⟨_,_,y,_⟩:=t2;exact ⟨_,y⟩)
 have fT1:H T1=none:=by
  cases q:H T1 with
  | none=>rfl
  | some o =>
   have q':trk2 H ea T T1=some o:=by
    rcases zbv (H:=H) (ea:=ea) (T:=T) (b:=T1) with ⟨_,z⟩ | ⟨_,_,y⟩
    ·rcases z with z | z
     ·exact absurd z ne1
     ·rw[z,F.ft] at q;cases q
    ·rw[y];exact q
   obtain ⟨ob,hb⟩:=(I.hok T1 o q').here;rw[nT] at hb;cases hb
 exact ⟨T1,⟨r2,t2,ne1,F.fe,fT1⟩,I2⟩
theorem zzn {X:Cx} {pins:List (Addr × Obj)} {τ:St} {H:Hp} {ea T:Addr} {cls:Value} {dx:Option Addr} {s:Shared} {M:Model} {A:Around} {E':Value->Shared->Prop} {Q:Unit->Shared->Prop} (F:Flies H s.heap ea T cls dx) (I:Inv X pins τ (trk2 H ea T) s)
  (h:∀s3,Flies H s3.heap ea T cls dx->Inv X pins τ (trk2 H ea T) s3->Q () s3):wpAny M A (setFlight (.ref ea) none) Q E' s:=by
 refine zex (fs:=frs X.stack) F.r F.t F.ne fun h2 m2 r2 t2=>?_
 have hT:trk2 H ea T T=some HX:=by unfold trk2;rw[zj F.ne,zf]
 have nT:∀b,trk2 H ea T b≠some HX->b∉[T]:=fun b h z=>by
  rw[xbl] at z;subst z;exact h hT
 refine h _ ⟨r2,t2,F.ne,F.fe,F.ft⟩ (I.flew (h':=h2) (H:=H) (ea:=ea) (T:=T) (fun b=>?_) (fun b hb=>.inr ?_) (fun b o hb hf q=>m2.keep b o (nT b hb) hf q) (fun b o hb hf q=>m2.slot b o (nT b hb) hf q) (fun b o q=>?_) (by obtain ⟨_,_,y,_⟩:=r2;exact ⟨_,y⟩) (by obtain ⟨_,_,y,_⟩:=t2;exact ⟨_,y⟩))
 ·rcases zbv (H:=H) (ea:=ea) (T:=T) (b:=b) with ⟨y,z⟩ | ⟨_,_,y⟩
  ·exact .inr ⟨y,by rcases z with rfl | rfl<;>first | exact F.fe | exact F.ft⟩
  ·exact .inl y
 ·rcases hb with rfl | rfl
  ·unfold trk2;rw[zf]
  ·exact hT
 ·by_cases hb:b∈[T]
  ·rw[xbl] at hb;subst hb
   obtain ⟨_,_,y,_⟩:=t2;exact ⟨_,y⟩
  ·by_cases hf:b∈frs X.stack
   ·obtain ⟨sl,q2⟩:=m2.slot b _ hb hf q;exact ⟨_,q2⟩
   ·exact ⟨_,m2.keep b _ hb hf q⟩
noncomputable def CX1 (P:Program) (w:World):CXT:=fun outer H s E e s'=>∃ea T C dx H',e=.ref ea/\s'.os=s.os/\AllBare s'.gens/\Un (frs outer) [] H (trk2 H' ea T) s.heap s'.heap/\HOk P w (trk2 H' ea T) s'.heap/\Flies H' s'.heap ea T (.ref C) dx/\E (.ref C) dx H'
noncomputable def Wish (X:Cx) (R:St->Value->Option Addr->Hp->Prop):Prop:=∀(pins:List (Addr × Obj)) (τ:St) (H:Hp) (ea T C:Addr) (dx:Option Addr) (s:Shared),Flies H s.heap ea T (.ref C) dx->Inv X pins τ (trk2 H ea T) s->R τ (.ref C) dx H->X.xe (.ref ea) s
section
variable {P:Program} {w:World} {K:Fg} {mg:Str->Option Value} {base:Heap} {N:List Str} {qual:Str} {scope:Scope} {f:Addr} {cd:Value} {A:Around} {outer:List Env} {s₀:Shared} {H₀:Hp} {E:XK}
end
noncomputable def bmV : List Value := [.type "ValueError", .type "Exception", .type "BaseException", .type "object"]
section
variable {X:Cx}
theorem zze {prog:Program} {w:World} {A:Around} {E:Value->Shared->Prop} {s:Shared} {Q:Value->Shared->Prop} {K:Fg} {a C:Addr} {o:Obj} {c:Value} (k:K.In s.heap) (ho:s.heap.get? a=some o) (hc:o.cls=.ref C) (e:PySem.W.kitOne K (.ref C) c=some true) (h:Q (.bool true) s) :
  wpAny (model prog w) A (call (.builtin "isinstance") [.ref a, c]) Q E s := by
 refine call_isinstance (S:=fun _ R s'=>s'=s/\R (.ok (.ret (.bool true))) s) (fun prog w A R s' hs=>isinstance_outer ?_ (by intro z;cases z)) ⟨rfl,h⟩;obtain ⟨rfl,hq⟩:=hs;obtain ⟨h0,g,d,tt,os⟩:=s';have LT:PySem.W.Looks (model prog w) h0 (typeOf (.ref a)) (.ref C):=hc ▸ (PySem.W.Looks.ld ho).andThen .now
 unfold PySem.W.kitOne at e;unfold Builtin.«isinstance.nested»;refine xba (LT.at ?_);split at e
 ·next q =>
  rw[if_pos q]
  first
   | exact xba (xgm hq)
   | exact xba (xgm (xbd hq))
 ·next q =>
  rw[if_neg q];obtain ⟨l1,l2,l3⟩:=PySem.W.kit_cls (M:=model prog w) k e;refine xba (l1.at ?_);rw[if_pos (by decide)]
  k_delta "plainIsInstance"
  refine xba (xba (l2.at ?_));simp only[Bool.not_true,xcr,xem];refine xba ((show PySem.W.Looks (model prog w) h0 (isInstance (.ref a) c) true from LT.andThen l3).at ?_)
  first
   | exact xbd (xbd hq)
   | (simp only[xfn];first | exact xbd (xbd hq) | exact xbd hq)
noncomputable def rIsx (K:Fg) (xs:List V) (H:Hp) (Q:VK):Prop:=∃a o C c cv,xs=[.ref a,c]/\RelV c cv/\(∀u,RelV c u->u=cv)/\H a=some (.frz o HX)/\o.cls=.ref C/\PySem.W.kitOne K (.ref C) cv=some true/\Q (.bl true) H
theorem zvt : CallR X (.builtin "isinstance") (rIsx X.K) := by
 intro pins s σ H xs us Q I r h;obtain ⟨a,o,C,c,cv,rfl,_,un,h1,h2,e,q⟩:=h;obtain ⟨u,w',rfl,ru,rw'⟩:=vals2 r;obtain rfl:=un _ rw';cases (show u=Value.ref a from ru);exact zze I.kIn (I.hok a _ h1).1 h2 e ⟨.bl true,H,I,rfl,q⟩
end
noncomputable abbrev Cx.tryc (X:Cx) (E:Value->Shared->Prop) (pn:List (Addr × Obj)):Cx:={X with xe:=E,pn:=X.pn++pn}
noncomputable abbrev Cx.caught (X:Cx) (e:Value):Cx:={X with A:=X.A.mark (some e),calm:=false,xe:=fun _ _=>False}
section
variable {X:Cx} {pins pins':List (Addr × Obj)} {σ:St} {H:Hp} {s:Shared} {E:Value->Shared->Prop} {e:Value}
theorem Cx.Ok.tryc (ok:X.Ok):(X.tryc E pins).Ok:=⟨ok.mod,ok.kind,ok.glob,ok.blt,ok.above,ok.inj,ok.has,ok.cab,ok.hd,ok.frames,ok.stk,ok.exf,ok.bs,ok.bsz,ok.noex,ok.exfs,ok.funs,ok.frf⟩
theorem Cx.Ok.untryc (ok:(X.tryc E pins).Ok):X.Ok:=⟨ok.mod,ok.kind,ok.glob,ok.blt,ok.above,ok.inj,ok.has,ok.cab,ok.hd,ok.frames,ok.stk,ok.exf,ok.bs,ok.bsz,ok.noex,ok.exfs,ok.funs,ok.frf⟩
theorem Cx.Ok.caught (ok:X.Ok):(X.caught e).Ok:=⟨ok.mod,ok.kind,ok.glob,ok.blt,ok.above,ok.inj,ok.has,ok.cab,(fun z=>Bool.noConfusion (show false=true from z)),ok.frames,ok.stk,ok.exf,ok.bs,ok.bsz,ok.noex,ok.exfs,ok.funs,ok.frf⟩
theorem Inv.tryc (I:Inv X pins σ H s):Inv (X.tryc E pins) [] σ H s:=⟨I.ok.tryc,I.os,I.bare,I.base,I.loc,I.cell,I.free,I.freeC,fun p hp=>I.pin p (by rw[xdm] at hp;exact hp),I.hok,I.len,I.hnd⟩
theorem Inv.untryc (I:Inv (X.tryc E pins) pins' σ H s):Inv X pins σ H s:=⟨I.ok.untryc,I.os,I.bare,I.base,I.loc,I.cell,I.free,I.freeC,fun p hp=>I.pin p (xgk _ hp),I.hok,I.len,I.hnd⟩
theorem Inv.caught (I:Inv X pins σ H s) (he:Hnd (X.A.mark (some e)) H):Inv (X.caught e) pins σ H s:=⟨I.ok.caught,I.os,I.bare,I.base,I.loc,I.cell,I.free,I.freeC,I.pin,I.hok,I.len,he⟩
theorem Inv.uncaught (ok:X.Ok) (hc:X.calm=true) (I:Inv (X.caught e) pins σ H s):Inv X pins σ H s:=⟨ok,I.os,I.bare,I.base,I.loc,I.cell,I.free,I.freeC,I.pin,I.hok,I.len,Hnd.none (ok.hd hc)⟩
theorem SP.untryc {D:Ends} {f:Flow} (h:SP (X.tryc E pins) pins' D f s):SP X pins D f s:=by
 cases f with
 | next=>obtain ⟨σ',H',I,q⟩:=h;exact ⟨σ',H',I.untryc,q⟩
 | brk=>obtain ⟨σ',H',I,q⟩:=h;exact ⟨σ',H',I.untryc,q⟩
 | cont=>obtain ⟨σ',H',I,q⟩:=h;exact ⟨σ',H',I.untryc,q⟩
 | ret u=>obtain ⟨v,σ',H',I,r,q⟩:=h;exact ⟨v,σ',H',I.untryc,r,q⟩
theorem Inv.forget {h':Heap} {m:Str->Option Value} {t':Nat} (I:Inv X pins σ H s) (hn:h'.Ns X.env.locals m) (hs:Heap.SameBut X.env.locals s.heap h'):Inv X pins (σ.map fun _=>none) H {s with heap:=h',toks:=t'}:=by
 have kp:∀b o,b≠X.env.locals->s.heap.get? b=some o->h'.get? b=some o:=fun b o n q=>by rw[hs.2 b n];exact q
 have nL:∀b o,X.s₀.heap.get? b=some o->b≠X.env.locals:=fun b o q=>xbt (xbh (xbk q) I.ok.above)
 have nH:∀b u,H b=some u->b≠X.env.locals:=fun b u q z=>by rw[z,I.free] at q;cases q
 refine ⟨I.ok,I.os,I.bare,⟨fun b o q n f x=>kp b o (nL b o q) (I.base.keep b o q n f x),fun b o q n f x=>?_,I.base.free,fun b o q x=>?_,I.base.tups,I.base.frzs,I.base.tbls⟩,⟨m,hn,fun i x v _ q _=>?_⟩,fun x c q=>?_,I.free,I.freeC,fun p hp=>?_,fun b u q=>?_,by rw[xbf];exact I.len,I.hnd⟩
 ·obtain ⟨sl,z⟩:=I.base.slot b o q n f x;exact ⟨sl,kp b _ (nL b o q) z⟩
 ·obtain ⟨o',z⟩:=I.base.there b o q x;exact ⟨o',kp b _ (nL b o q) z⟩
 ·rw[xcp] at q;cases z:σ[i]?<;>rw[z] at q<;>cases q
 ·obtain ⟨v,o,ho,hd⟩:=I.cell x c q;exact ⟨v,o,kp c o (I.cne x c q) ho,hd⟩
 ·obtain ⟨a,b,c,d⟩:=I.pin p hp;exact ⟨kp _ _ c a,b,c,d⟩
 ·exact (I.hok b u q).stay (fun c v hc z=>kp c v (by rcases hc with rfl | hc;exact nH _ _ q;exact nH _ _ hc) z) (fun _ z=>z) fun _ _ z=>z
end
noncomputable def RH (K:Fg) (B:Addr) (i:Nat) (ts:TS) (rt:VK):St->Value->Option Addr->Hp->Prop:=fun τ cls dx H=>PySem.W.exmOne K cls (.ref B)=some true /\
 ∀ea T o,H ea=none->H T=none->T≠ea->o.cls=cls->o.dict=dx->(∃vs,o.data=.fields vs/\vs[2]?=some .none)->ts {nx:=fun _ _=>False,rt:=rt} (τ.set i (some (.ref ea))) (upd (upd H T HX) ea (.frz o HX))
section
variable {X:Cx} {body:List Stmt} {x n:Str} {B:Addr} {i:Nat} {b0:Stmt} {suite:List Stmt} {xp hp pos:Pos} {tb:(St->Value->Option Addr->Hp->Prop)->TS} {ts:TS}
theorem zbcp (hc:X.calm=true) (st:X.stack=X.env::X.outer) (fr:X.env.frame=some X.env.locals) (hN:X.N.Nodup) (hi:X.N[i]?=some n) (hn:X.env.kindOf n=some .local) (hg:Gl X x) (hB:PySem.W.nsIn X.K mainGlobals x=some (some (.ref B)))
  (hb : ∀ (R : St -> Value -> Option Addr -> Hp -> Prop) (E : Value -> Shared -> Prop) (pn : List (Addr × Obj)), Wish (X.tryc E pn) R -> PSs (X.tryc E pn) body (tb R)) (hs : ∀ e, PSs (X.caught e) (b0 :: suite) ts) (hd : (x == ("__debug__" : Str)) = false := by decide) :
  PS X (.Try body [.ExceptHandler (some (.Name x xp)) (some n) (b0::suite) hp] [] [] pos) (fun D σ H=>tb (RH X.K B i ts D.rt) D σ H):=by
 intro pins s σ H D I h;have ok:=I.ok;refine wpAny_Try_except ?_;refine xdj (hb _ (fun e s1=>wpAny (model X.prog X.w) X.A (noteFrame e X.env) (fun _ s2=>wpAny (model X.prog X.w) X.A (setFlight e none) (fun _ s3=>wpAny (model X.prog X.w) X.A (handleBy e X.env [.ExceptHandler (some (.Name x xp)) (some n) (b0::suite) hp]) (SP X pins D) X.xe s3) X.xe s2) X.xe s1) pins ?_ [] s σ H D I.tryc h) (fun f s1 q=>?_) fun _ _ q=>q
 rotate_left
 ·cases f with
  | next=>obtain ⟨σ',H',I',q'⟩:=q;exact xic ⟨σ',H',I'.untryc,q'⟩
  | brk=>exact SP.untryc q
  | cont=>exact SP.untryc q
  | ret u=>exact SP.untryc q
 intro pins' τ H' ea T C dx s' F I' hR;obtain ⟨hm,hR⟩:=hR;refine thn (zuv st fr F I'.untryc) fun _ s2 h2=>thn (h2 X.A X.xe) fun _ s3 hq0=>?_
 obtain ⟨T1,F1,I3⟩:=hq0;refine wpAny_handleBy_cons (codeAny_handlers_test ?_) (by intro z;cases z);refine xhu I3.ok.kind hg (Calls.loadGlobal_global (by rw[I3.ok.glob];exact I3.mod.glob.keeps I3.bk) (xfq I3.mod.kin I3.mod.glob hB) ?_) hd;obtain ⟨h3,g3,d3,t3,os3⟩:=s3;obtain ⟨oe,vs,r1,r2,r3,r4,r5,r6⟩:=id F1.r;refine (PySem.W.exm_one (M:=model X.prog X.w) I3.kIn (r2 ▸ (PySem.W.Looks.ld r1).andThen .now) hm).at ?_;rw[if_pos rfl];refine codeAny_handlers_suite_as ?_;refine zzn F1 I3 fun s4 F4 I4=>?_
 obtain ⟨o,ws,q1,q2,q3,q4,q5,q6⟩:=id F4.r;have I5:Inv X pins τ (upd (upd H' T1 HX) ea (.frz o HX)) s4:=by
  have z:=I4.write (h':=s4.heap) (t':=s4.toks) (x:=ea) (e:=ea) (o:=.frz o HX) (by unfold trk2;rw[zf];trivial) (.inl rfl) (fun _ _ _ q=>q) ⟨_,q1⟩ ⟨q1,zzk ⟨_,q1⟩⟩;unfold trk2 at z;rw[zrt] at z;exact z
 refine zii (v:=.ref ea) I5 hN hi (.inl hn) rfl (fun s5 I6=>?_) (.inr hn);refine xdj (hs (.ref ea) pins s5 _ _ _ (I6.caught fun v z=>⟨ea,o,(xbw z).symm,zf,ws,q4,q6⟩) (hR ea T1 o F4.fe F4.ft F4.ne q2 q3 ⟨_,q4,q6⟩)) (fun f s6 q=>?_) fun _ _ z=>z.elim
 cases f with
 | next=>obtain ⟨_,_,_,z⟩:=q;exact z.elim
 | brk=>obtain ⟨_,_,_,z⟩:=q;exact z.elim
 | cont=>obtain ⟨_,_,_,z⟩:=q;exact z.elim
 | ret u =>
  obtain ⟨v,σ',H6,I7,rv,q⟩:=q;obtain ⟨m,hm6,_⟩:=id I7.loc;refine wpAny_nameGoes hn hm6 (by rw[ok.kind];rfl) fun h7 m7 n7 s7=>?_
  exact ⟨v,_,H6,(I7.uncaught ok hc).forget n7 s7,rv,q⟩
end
section
variable {prog:Program} {w:World} {A:Around} {E:Value->Shared->Prop}
end
section
variable {X:Cx} {pos:Pos}
end
section
variable {P:Program} {w:World} {K:Fg} {mg:Str->Option Value} {base:Heap} {N:List Str} {name qual:Str} {params:Arguments} {body:Expr} {scope:Scope} {f:Addr} {cd pm ct:Value} {cl:List (Str × Addr)} {A:Around} {outer:List Env} {s:Shared} {H:Hp} {E:XK} {τ:St}
end
section
variable {X:Cx} {pins:List (Addr × Obj)} {τ:St} {H:Hp} {s:Shared} {c T:Addr} {ps:Array Value} {params:Arguments} {body:Expr} {scope:Scope} {cl:List (Str × Addr)} {pos:Pos} {Q:Value->Shared->Prop}
end
structure ErrLook (K:Fg) (C:Addr):Prop where
 ga : PySem.W.findIn K (.ref C) "__getattribute__" = some (some (.builtin "BaseException.__getattribute__"))
 gt : PySem.W.findIn K (.ref C) "__getattr__" = some none
 mb : PySem.W.mroIn K C (.type "BaseException") = some true
 cls:(PySem.W.clsIn K C).isSome=true
 fi : PySem.W.findIn K (.ref C) "__class__" = some (some (.builtin "object.__class__"))
 sp : PySem.W.specialIn K (.builtin "object.__class__") "__get__" = some (some (.builtin "getset_descriptor.__get__"))
 tk : PySem.W.takesIn K (.builtin "object.__class__") = some true
 mr : PySem.W.mroIn K C (.type "object") = some true
theorem zvs {K : Fg} {M : Model} {A : Around} {E : Value -> Shared -> Prop} {s : Shared} {x D : Addr} {ox : Obj} {odo : Option Obj} {nameV : Value} {Q : Unit -> Shared -> Prop} (X : K.In s.heap) (I : PySem.W.InstAt s.heap x ox D odo) (hmb : PySem.W.mroIn K D (.type "BaseException") = some true)
  (h : Q () s) : wpAny M A (checkBuiltinCall "BaseException.__getattribute__" ⟨[.ref x, nameV], []⟩) Q E s := by
 have hk : builtinKind "BaseException.__getattribute__" = some .slot := by decide +kernel
 have hsplit : splitId "BaseException.__getattribute__" = some ("BaseException", "__getattribute__") := by decide +kernel
 have L0:=I.type (M:=M);have L4:=PySem.W.looks_mroIn (M:=M) X hmb;have ha:=PySem.F.args_bexc_ga (.ref x) nameV;simp only[checkBuiltinCall,hk,hsplit];refine xba ?_;unfold isInstance;refine xba (L0.at (L4.at ?_))
 repeat (first | assumption | wp_step)
section
variable {X:Cx}
end
section
variable {X:Cx}
end
end L2
namespace L2
open PySem
namespace St
end St
namespace St
/- the leaps meet all places -/
end St
namespace St
/- laid anew -/
end St
namespace St
end St
end L2
namespace L2
open PySem PySem.W PyProof.Rows PySem.Spec
namespace St
section
variable {P:Program} {w:World} {B:Around} {E:Value->Shared->Prop} {s:Shared} {a:Addr}
end
end St
namespace St
section
variable {P:Program} {w:World} {B:Around} {R:Result->Shared->Prop} {it:Addr} {fp wr:List Addr} {G:Array GenState->Array GenState->Prop} {N:Nat} {It:Nat->Value->Prop} {St:Nat->Shared->Prop}
end
section
variable {P:Program} {w:World} {B:Around} {E:Value->Shared->Prop} {s:Shared}
end
end St
namespace St
section
variable {P:Program} {w:World} {B:Around} {E:Value->Shared->Prop} {s:Shared} {a it:Addr} {es:Array (Int × Value)} {ep:Nat} {t:SetTable} {ks:List Nat}
end
end St
end L2
namespace L2
open PySem PySem.Spec PyProof.Rows PySem.W
end L2
namespace Dd
open PySem L2 PyProof.Rows
section
variable {X:Cx} {x y:Str} {p p2 pos pos2:Pos} {e:Expr} {f:SA} {g:List D->Store->Res D}
end
end Dd
namespace L2
open PySem PySem.Spec PyProof.Rows PySem.W
end L2
namespace Dd
open PySem L2 PyProof.Rows
section
variable {X:Cx} {p p2 pos pos2 cpos apos:Pos} {e o:Expr} {f:SA} {g:SE}
end
noncomputable abbrev RXT:=L2.St->Value->Option Addr->Hp->Prop
noncomputable def XIs (K:Fg) (ρ:Loc) (H:Hp) (x:Exc) (C:Addr) (dx:Option Addr):Prop:=PySem.W.nsIn K mainGlobals x.cls=some (some (.ref C)) /\
 ((x.at_ = [] /\ dx = none) \/ ∃ i d od, x.at_ = [i] /\ dx = some d /\ H d = some (.frz od (.xd [("at", .int i)])) /\ Out ρ d)
noncomputable def XOk (K:Fg) (ρ:Loc) (H:Hp) (st':Store) (x:Exc) (R:XK):Prop:=∀ρ' H' C dx,Ext ρ H ρ' H'->Rep K ρ' st' H'->XIs K ρ' H' x C dx->R (.ref C) dx H'
theorem XOk.ext {K:Fg} {ρ ρ1:Loc} {H H1:Hp} {st':Store} {x:Exc} {R:XK} (e:Ext ρ H ρ1 H1) (h:XOk K ρ H st' x R):XOk K ρ1 H1 st' x R:=fun ρ' H' C dx a=>h ρ' H' C dx (e.trans a)
noncomputable def tX (K:Fg) (R:RXT) (f:SE):TE:=fun τ H Q=>∃ρ σ st,AtS K ρ H σ τ/\Rep K ρ st H/\((∃v st',f σ st=.ok v st'/\∀ρ' H' u,Ext ρ H ρ' H'->Rep K ρ' st' H'->At K ρ' H' v u->Q u H')\/∃x st',f σ st=.exc x st'/\XOk K ρ H st' x (R τ))
noncomputable def tXS (K:Fg) (R:RXT) (f:SS):TS:=fun E τ H=>∃ρ σ st,AtS K ρ H σ τ/\Rep K ρ st H/\((∃fl st',f σ st=.ok fl st'/\FlOk K ρ H st' E fl)\/∃x st',f σ st=.exc x st'/\XOk K ρ H st' x (R τ))
structure JX (X:Cx) (R:RXT) (e:Expr) (f:SE):Prop where out:PE X e (tX X.K R f)
structure JXS (X:Cx) (R:RXT) (s:Stmt) (f:SS):Prop where out:PS X s (tXS X.K R f)
structure JXB (X:Cx) (R:RXT) (s:List Stmt) (f:SS):Prop where out:PSs X s (tXS X.K R f)
noncomputable def noX {α:Type} (f:DS->Store->Res α):DS->Store->Res α:=fun σ st=>match f σ st with
 | .exc _ _=>.stuck
 | r=>r
theorem zja {α:Type} {f:DS->Store->Res α} {σ:DS} {st st':Store} {v:α} (h:noX f σ st=.ok v st'):f σ st=.ok v st':=by
 unfold noX at h;split at h
 ·cases h
 ·exact h
theorem znd {α:Type} {f:DS->Store->Res α} {σ:DS} {st st':Store} {x:Exc} (h:noX f σ st=.exc x st'):False:=by
 unfold noX at h;split at h
 ·cases h
 ·rename_i hn;exact hn x st' h
theorem zcy {α β:Type} {f:DS->Store->Res α} {g:α->Store->Res β} {σ:DS} {st st':Store} {x:Exc} (h:(noX f σ st).bind g=.exc x st'):∃v st1,f σ st=.ok v st1/\g v st1=.exc x st':=by
 cases e:noX f σ st with
 | ok v st1=>rw[e] at h;exact ⟨v,st1,zja e,h⟩
 | exc y w=>exact (znd e).elim
 | stuck=>rw[e] at h;cases h
noncomputable def CalX (P:Program) (w:World) (K:Fg) (mg:Str->Option Value) (base:Heap) (x:Str) (k:Nat) (ps:List Str) (F:DFn):Prop :=
 ∃f fd,FnOk P w K mg base (CX1 P w) k f fd ps (fun vs H Q E=>∃ρ ds st,AtAll K ρ H ds vs/\Rep K ρ st H/\vs.length=ps.length/\((∃v st',F ds st=.ok v st'/\∀ρ' H' u,Ext ρ H ρ' H'->Rep K ρ' st' H'->At K ρ' H' v u->Q u H')\/∃x st',F ds st=.exc x st'/\XOk K ρ H st' x E))/\Binds K fd ps []/\PySem.W.keepIn K (.ref f)=true/\mg x=some (.ref f)
section
variable {X:Cx} {R:RXT} {e:Expr} {es:List Expr} {f:SE} {g:SA} {sm:Stmt} {rest body:List Stmt} {s t:SS} {pos p:Pos} {x:Str} {k:Nat} {ps:List Str} {F:DFn}
theorem znr (h:JB X body s):JXB X R body (noX s):=⟨zps h.out fun E τ H hq0=>by
 obtain ⟨ρ,σ,st,a,rp,q⟩:=hq0;rcases q with ⟨v,st',e1,q⟩ | ⟨x,st',e1,_⟩
 ·exact ⟨ρ,σ,st,v,st',a,rp,zja e1,q⟩
 ·exact (znd e1).elim⟩
theorem zzu (c : CalX X.prog X.w X.K X.mg X.base x k ps F) (hw : Wish X R) (hn : ∀ ds st, ds.length ≠ ps.length -> F ds st = .stuck) (hr : Room k X.A) (hg : Gl X x) (ha : JA X (e :: es) g) (hdb : (x == ("__debug__" : Str)) = false := by decide)
  (he:starEach (e::es) X.env=(false,eval e X.env)::starEach es X.env:=by rfl) (hpl:(backTo pos (starEach es X.env)).any (·.1)=false:=by rfl):JX X R (.Call (.Name x p) (e::es) [] pos) (eCall F (noX g)):=by
 obtain ⟨fa,fd,G,b,kp,m⟩:=c;refine ⟨fun pins s τ H Q I ⟨ρ,σ,st,a,rp,h⟩=>?_⟩;obtain ⟨ds,st1,e1,h1⟩:∃ds st1,g σ st=.ok ds st1/\((∃v st',F ds st1=.ok v st'/\∀ρ' H' u,Ext ρ H ρ' H'->Rep X.K ρ' st' H'->At X.K ρ' H' v u->Q u H')\/∃x st',F ds st1=.exc x st'/\XOk X.K ρ H st' x (R τ)):=by
  rcases h with ⟨v,st',e1,q⟩ | ⟨x,st',e1,q⟩
  ·obtain ⟨ds,st1,e2,e3⟩:=zb e1;exact ⟨ds,st1,zja e2,.inl ⟨v,st',e3,q⟩⟩
  ·obtain ⟨ds,st1,e2,e3⟩:=zcy e1;exact ⟨ds,st1,e2,.inr ⟨x,st',e3,q⟩⟩
 refine xgc (zhp I hg m ?_ hdb);refine xju (h₀:=X.base) I.ok.mod.kin kp (thn (ha.out pos pins s τ H (fun vs H1=>∃ρ1,Ext ρ H ρ1 H1/\Rep X.K ρ1 st1 H1/\AtAll X.K ρ1 H1 ds vs) I ⟨ρ,σ,st,ds,st1,a,rp,e1,fun ρ1 H1 u x1 rp1 a1=>⟨ρ1,x1,rp1,a1⟩⟩) fun us s1 ⟨vs,H1,I1,r,ρ1,x1,rp1,a1⟩=>⟨I1.kIn,?_⟩) he hpl;have hlen:vs.length=ps.length:=by
  rw[a1.length];by_cases hl:ds.length=ps.length
  ·exact hl
  ·rcases h1 with ⟨v,st',e3,_⟩ | ⟨x,st',e3,_⟩<;>(rw[hn ds st1 hl] at e3;cases e3)
 have r2:Vals vs (us++[]):=by rw[xdm];exact r
 refine xjn (xjo (G.run X.A X.stack s1 H1 ⟨us,[]⟩ (us++[]) vs Q (R τ) hr I1.env0 (b s1 us I1.kIn (by rw[xdm,← r.length];exact hlen)) r2 ⟨ρ1,ds,st1,a1,rp1,hlen,?_⟩) fun r s' hq=>?_)
 ·rcases h1 with ⟨v,st',e3,q⟩ | ⟨x,st',e3,q⟩
  ·exact .inl ⟨v,st',e3,fun ρ' H' u x2=>q ρ' H' u (x1.trans x2)⟩
  ·exact .inr ⟨x,st',e3,q.ext x1⟩
 ·cases r with
  | error er =>
   obtain ⟨ea,T,C,dx,H',rfl,os,bare,un,hok,Fl,hR⟩:=hq;exact hw pins τ H' ea T C dx s' Fl (I1.call' (ch:=[]) os un hok bare (fun _ z=>nomatch z)) hR
  | ok fl =>
   cases fl with
   | ret u=>exact I1.after hq
   | next=>exact False.elim hq
   | brk=>exact False.elim hq
   | cont=>exact False.elim hq
theorem zzv (he:JX X R e f):JXS X R (.Return (some e) pos) (sRet f):=⟨zif (zxq he.out) fun E τ H hq0=>by
 obtain ⟨ρ,σ,st,a,rp,q⟩:=hq0;refine ⟨ρ,σ,st,a,rp,?_⟩;rcases q with ⟨fl,st',e1,q⟩ | ⟨x,st',e1,q⟩
 ·obtain ⟨v,st1,e2,e3⟩:=zb e1;cases e3;exact .inl ⟨v,_,e2,q⟩
 ·cases e2:f σ st with
  | ok v st1=>unfold sRet at e1;rw[e2] at e1;cases e1
  | exc y w=>unfold sRet at e1;rw[e2] at e1;cases e1;exact .inr ⟨_,_,rfl,q⟩
  | stuck=>unfold sRet at e1;rw[e2] at e1;cases e1⟩
theorem znt (h1:JXS X R sm s):JXB X R [sm] s:=⟨zmm h1.out⟩
noncomputable def Cst (R:RXT):Prop:=∀τ τ',R τ=R τ'
theorem zvb (hR:Cst R) (h1:JXS X R sm s) (h2:JXB X R rest t):JXB X R (sm::rest) (sSeq s t):=⟨zps (zis h1.out h2.out) fun E τ H hq0=>by
 obtain ⟨ρ,σ,st,a,rp,q⟩:=hq0;refine ⟨ρ,σ,st,a,rp,?_⟩;cases e0:s σ st with
 | stuck=>rcases q with ⟨fl,st',e1,q⟩ | ⟨x,st',e1,q⟩<;>(unfold sSeq at e1;rw[e0] at e1;cases e1)
 | exc y w =>
  rcases q with ⟨fl,st',e1,q⟩ | ⟨x,st',e1,q⟩
  ·unfold sSeq at e1;rw[e0] at e1;cases e1
  ·unfold sSeq at e1;rw[e0] at e1;cases e1;exact .inr ⟨_,_,rfl,q⟩
 | ok fl st1 =>
  refine .inl ⟨fl,st1,rfl,?_⟩;cases fl with
  | nx σ1 =>
   refine fun ρ1 H1 τ1 x1 rp1 a1=>⟨ρ1,σ1,st1,a1,rp1,?_⟩
   rcases q with ⟨fl,st',e1,q⟩ | ⟨x,st',e1,q⟩
   ·unfold sSeq at e1;rw[e0] at e1;exact .inl ⟨fl,st',e1,q.ext x1⟩
   ·unfold sSeq at e1;rw[e0] at e1;exact .inr ⟨x,st',e1,by rw[hR τ1 τ];exact q.ext x1⟩
  | brk σ1=>rcases q with ⟨fl,st',e1,q⟩ | ⟨x,st',e1,q⟩<;>(unfold sSeq at e1;rw[e0] at e1;cases e1);exact q
  | ct σ1=>rcases q with ⟨fl,st',e1,q⟩ | ⟨x,st',e1,q⟩<;>(unfold sSeq at e1;rw[e0] at e1;cases e1);exact q
  | ret v=>rcases q with ⟨fl,st',e1,q⟩ | ⟨x,st',e1,q⟩<;>(unfold sSeq at e1;rw[e0] at e1;cases e1);exact q⟩
theorem zber {c:Expr} {b:ST} {a' b':List Stmt} (hc:JT X c b) (ha:JXB X R a' s) (hb:JXB X R b' t):JXS X R (.If c a' b' pos) (sIf (noX b) s t):=⟨zif (zbgi hc.out ha.out hb.out) fun E τ H hq0=>by
 obtain ⟨ρ,σ,st,a,rp,q⟩:=hq0;obtain ⟨v,st1,e1,q⟩:∃v st1,b σ st=.ok v st1/\((∃fl st',(if v=true then s σ st1 else t σ st1)=.ok fl st'/\FlOk X.K ρ H st' E fl)\/∃x st',(if v=true then s σ st1 else t σ st1)=.exc x st'/\XOk X.K ρ H st' x (R τ)):=by
  rcases q with ⟨fl,st',e1,q⟩ | ⟨x,st',e1,q⟩
  ·obtain ⟨v,st1,e2,e3⟩:=zb e1;exact ⟨v,st1,zja e2,.inl ⟨fl,st',e3,q⟩⟩
  ·obtain ⟨v,st1,e2,e3⟩:=zcy e1;exact ⟨v,st1,e2,.inr ⟨x,st',e3,q⟩⟩
 refine ⟨ρ,σ,st,v,st1,a,rp,e1,fun ρ1 H1 x1 rp1=>?_⟩;have q2:((∃fl st',(if v=true then s σ st1 else t σ st1)=.ok fl st'/\FlOk X.K ρ1 H1 st' E fl)\/∃x st',(if v=true then s σ st1 else t σ st1)=.exc x st'/\XOk X.K ρ1 H1 st' x (R τ)):=by
  rcases q with ⟨fl,st',e2,q⟩ | ⟨x,st',e2,q⟩
  ·exact .inl ⟨fl,st',e2,q.ext x1⟩
  ·exact .inr ⟨x,st',e2,q.ext x1⟩
 cases v with
 | true=>exact iteT ⟨ρ1,σ,st1,a.ext x1,rp1,q2⟩
 | false=>exact iteF ⟨ρ1,σ,st1,a.ext x1,rp1,q2⟩⟩
noncomputable def EndX (K:Fg) (ρ:Loc) (H:Hp) (E:Ends) (R:XK) (r:Res Fl):Prop:=(∃fl st',r=.ok fl st'/\FlOk K ρ H st' E fl)\/∃x st',r=.exc x st'/\XOk K ρ H st' x R
theorem EndX.ext {K:Fg} {ρ ρ1:Loc} {H H1:Hp} {E:Ends} {R:XK} {r:Res Fl} (e:Ext ρ H ρ1 H1) (h:EndX K ρ H E R r):EndX K ρ1 H1 E R r:=by
 rcases h with ⟨fl,st',h,q⟩ | ⟨x,st',h,q⟩
 ·exact .inl ⟨fl,st',h,q.ext e⟩
 ·exact .inr ⟨x,st',h,q.ext e⟩
theorem EndX.stuck {K:Fg} {ρ:Loc} {H:Hp} {E:Ends} {R:XK} (h:EndX K ρ H E R .stuck):False:=by
 rcases h with ⟨_,_,h,_⟩ | ⟨_,_,h,_⟩<;>cases h
theorem EndX.okE {K:Fg} {ρ:Loc} {H:Hp} {E:Ends} {R:XK} {fl:Fl} {st:Store} (h:EndX K ρ H E R (.ok fl st)):FlOk K ρ H st E fl:=by
 rcases h with ⟨_,_,h,q⟩ | ⟨_,_,h,_⟩
 ·cases h;exact q
 ·cases h
theorem EndX.excE {K:Fg} {ρ:Loc} {H:Hp} {E:Ends} {R:XK} {x:Exc} {st:Store} (h:EndX K ρ H E R (.exc x st)):XOk K ρ H st x R:=by
 rcases h with ⟨_,_,h,_⟩ | ⟨_,_,h,q⟩
 ·cases h
 ·cases h;exact q
noncomputable def sRaise (c:Str) (g:SA):SS:=fun σ st=>(g σ st).bind fun xs st1=>if xs.length<=sizeLine then .exc ⟨c,[]⟩ st1 else .stuck
noncomputable def sTry (i:Nat) (cs:List Str) (b u:SS):SS:=fun σ st=>match b σ st with
 | .exc x st1=>if x.cls∈cs then (match u (σ.set i (some (.exn x.cls x.at_))) st1 with
  | .ok (.ret v) st2=>.ok (.ret v) st2
  | _=>.stuck) else .stuck
 | r=>r
theorem zxc {K:Fg} {B:Addr} {i:Nat} {cs:List Str} {u:SS} {E:Ends} {ρ:Loc} {σ:DS} {τ:L2.St} {H:Hp} {st1 st':Store} {y:Exc} {fl:Fl} (hcs:∀c∈cs,∀C,PySem.W.nsIn K mainGlobals c=some (some (.ref C))->PySem.W.exmOne K (.ref C) (.ref B)=some true) (a:AtS K ρ H σ τ)
  (e:(if y.cls∈cs then (match u (σ.set i (some (.exn y.cls y.at_))) st1 with
  | .ok (.ret v) st2=>Res.ok (Fl.ret v) st2
  | _=>.stuck) else .stuck)=.ok fl st') (q:FlOk K ρ H st' E fl):XOk K ρ H st1 y (RH K B i (tDS K u) E.rt τ):=by
 split at e
 ·next hmem =>
  refine fun ρ1 H1 C dx x1 rp1 xi=>⟨hcs _ hmem C xi.1,fun ea T o h1 h2 h3 h4 h5 h6=>?_⟩
  have hT:upd H1 T HX ea=none:=by rw[zj h3.symm];exact h1
  have x2:=x1.trans ((Ext.new h2 HX).trans (Ext.new hT (.frz o HX)));have rp2:=(rp1.new h2 HX).new hT (.frz o HX);have oe:Out ρ1 ea:=zdj (rp1.new h2 HX) hT;refine ⟨ρ1,σ.set i (some (.exn y.cls y.at_)),st1,?_⟩;cases e3:u (σ.set i (some (.exn y.cls y.at_))) st1 with
  | stuck=>rw[e3] at e;cases e
  | exc _ _=>rw[e3] at e;cases e
  | ok fl2 st2 =>
   rw[e3] at e;cases fl2 with
   | ret v =>
    cases e;refine ⟨.ret v,_,(a.ext x2).set (.exn ⟨C,o,xi.1,⟨zf,oe⟩,h4,h6,?_⟩) i,rp2,rfl,fun ρ' H' w x3=>q ρ' H' w (x2.trans x3)⟩;rcases xi.2 with ⟨z1,z2⟩ | ⟨j,d,od,z1,z2,z3,z4⟩
    ·exact .inl ⟨z1,by rw[h5,z2]⟩
    ·refine .inr ⟨j,d,od,z1,by rw[h5,z2],?_,z4⟩;rw[zj (zh (by rw[zj (zh z3 h2)];exact z3) hT),zj (zh z3 h2)];exact z3
   | nx _=>cases e
   | brk _=>cases e
   | ct _=>cases e
 ·cases e
theorem zzw {i:Nat} {n:Str} {B:Addr} {cs:List Str} {b0:Stmt} {suite:List Stmt} {xp hp:Pos} {b u:SS} (hc:X.calm=true) (st0:X.stack=X.env::X.outer) (fr:X.env.frame=some X.env.locals) (hN:X.N.Nodup) (hi:X.N[i]?=some n) (hn:X.env.kindOf n=some .local) (hg:Gl X x) (hB:PySem.W.nsIn X.K mainGlobals x=some (some (.ref B)))
  (hcs:∀c∈cs,∀C,PySem.W.nsIn X.K mainGlobals c=some (some (.ref C))->PySem.W.exmOne X.K (.ref C) (.ref B)=some true)
  (hb : ∀ (R : RXT) (E : Value -> Shared -> Prop) (pn : List (Addr × Obj)), Wish (X.tryc E pn) R -> JXB (X.tryc E pn) R body b) (hs : ∀ e, JB (X.caught e) (b0 :: suite) u) (hd : (x == ("__debug__" : Str)) = false := by decide) :
  JS X (.Try body [.ExceptHandler (some (.Name x xp)) (some n) (b0::suite) hp] [] [] pos) (sTry i cs b u):=⟨zif (zbcp hc st0 fr hN hi hn hg hB (tb:=fun R=>tXS X.K R b) (ts:=tDS X.K u) (fun R E pn hw=>(hb R E pn hw).out) (fun e=>(hs e).out) hd) fun E τ H hq0=>by
 obtain ⟨ρ,σ,st,fl,st',a,rp,e,q⟩:=hq0;refine ⟨ρ,σ,st,a,rp,?_⟩;unfold sTry at e;cases e0:b σ st with
 | stuck=>rw[e0] at e;cases e
 | ok fl1 st1=>rw[e0] at e;cases e;exact .inl ⟨_,_,rfl,q⟩
 | exc y st1 =>
  rw[e0] at e
  exact .inr ⟨y,st1,rfl,zxc hcs a e q⟩⟩
end
section
variable {P:Program} {w:World} {K:Fg} {mg:Str->Option Value} {base h:Heap} {x:Str} {st:Stmt} {N ps:List Str} {k:Nat} {b:SS}
theorem zbbc (T:TopF K x st) (X:K.In h) (G:h.Ns mainGlobals mg) (S:FnScope N ps (defScope st))
  (bd:∀(kV doc pm:Value) (an:Option Addr) (cdv ct:Value) (us:List Value),us.length=ps.length->bindArgs (PySem.W.fnOf x x (defArgs st) (defBody st) (defScope st) .none kV doc pm an cdv ct) ⟨us,[]⟩=pure (ps.zip us))
  (hbody:∀(f:Addr) (cdv:Value) (A:Around) (outer:List Env) (s:Shared) (H:Hp) (E:XK),Room k (A.deeper (envOfC x (defScope st) s.heap.objs.size f cdv)) ->
   JXB (cxOf (CX1 P w) P w K mg base N x (defScope st) f cdv A outer s H E) (fun _ c dx H=>E c dx H) (defBody st) b):CalX P w K mg base x (k+1) ps (fnD N.length ps.length b):=by
 obtain ⟨f,fd,a,F⟩:=T;refine ⟨f,fd,?_,F.binds bd,F.kp,xfq X G a⟩;obtain ⟨oc,od,kV,doc,pm,an,cdv,ct,osl,rfl,lk,hcd⟩:=F.ex;refine zbgr lk hcd S (fun vs H Q E h=>by obtain ⟨_,_,_,_,_,hl,_⟩:=h;exact hl) fun A outer s H vs Q E hr hsp=>⟨_,(hbody f cdv A outer s H E hr).out,?_⟩
 obtain ⟨ρ,ds,st1,al,rp,hl,q⟩:=hsp;have hd:ds.length=ps.length:=by rw[← al.length];exact hl
 have as:AtS K ρ H (ds.map Option.some++List.replicate (N.length - ps.length) none) (L2.start N vs):=by
  unfold L2.start;rw[hl];exact al.some.append (.nones _)
 unfold fnD at q;rw[if_pos hd] at q;refine ⟨ρ,_,st1,as,rp,?_⟩;cases hr:b (ds.map Option.some++List.replicate (N.length - ps.length) none) st1 with
 | stuck=>rw[hr] at q;rcases q with ⟨_,_,z,_⟩ | ⟨_,_,z,_⟩<;>cases z
 | exc y w1 =>
  rw[hr] at q;rcases q with ⟨_,_,z,_⟩ | ⟨_,_,z,q⟩
  ·cases z
  ·cases z;exact .inr ⟨_,_,rfl,q⟩
 | ok fl st2 =>
  rw[hr] at q;refine .inl ⟨fl,st2,rfl,?_⟩;cases fl with
  | ret w1=>rcases q with ⟨_,_,z,q⟩ | ⟨_,_,z,_⟩<;>cases z;exact fun ρ' H' u x r t=>q ρ' H' u x r t
  | nx σ=>rcases q with ⟨_,_,z,q⟩ | ⟨_,_,z,_⟩<;>cases z;exact fun ρ' H' τ x r t=>q ρ' H' .non x r .non
  | brk σ=>rcases q with ⟨_,_,z,_⟩ | ⟨_,_,z,_⟩<;>cases z
  | ct σ=>rcases q with ⟨_,_,z,_⟩ | ⟨_,_,z,_⟩<;>cases z
theorem zqw {n np:Nat} {b:SS} (ds:List D) (st:Store) (h:ds.length≠np):fnD n np b ds st=.stuck:=by unfold fnD;rw[if_neg h]
end
noncomputable def eIsX (i:Nat) (cs:List Str):SE:=fun σ st=>match σ[i]? with
 | some (some (.exn c _))=>if c∈cs then .ok (.bl true) st else .stuck
 | _=>.stuck
theorem zban {X : Cx} {n d : Str} {i : Nat} {cs : List Str} {dv : V} {cv : Value} {p p1 p2 pos : Pos} (hg : Gl X "isinstance") (hm : X.mg "isinstance" = none) (hv : PE X (.Name n p1) (tVar i)) (hd : PE X (.Name d p2) (tC dv)) (r : RelV dv cv) (un : ∀ u, RelV dv u -> u = cv)
  (hk : ∀ c ∈ cs, ∀ C, PySem.W.nsIn X.K mainGlobals c = some (some (.ref C)) -> PySem.W.kitOne X.K (.ref C) cv = some true) : JE X (.Call (.Name "isinstance" p) [.Name n p1, .Name d p2] [] pos) (eIsX i cs) :=
 ⟨zed (zmr zvt hg hm zbg (zft hv (zft hd zud))) fun τ H Q hq0=>by
  obtain ⟨ρ,σ,st,v,st',a,rp,e,q⟩:=hq0;unfold eIsX at e;split at e
  ·next c l hi =>
   split at e
   ·next hc =>
    cases e;obtain ⟨u,h1,h2⟩:=a.get hi;cases h2 with
    | exn h2 =>
     obtain ⟨C,o,h3,h4,h5,_⟩:=h2;exact ⟨_,h1,_,o,C,dv,cv,rfl,r,un,h4.1,h5,hk c hc C h3,q _ _ _ (.refl _ _) rp (.bl true)⟩
   ·cases e
  ·cases e⟩
theorem zrl {K:Fg} {P:Addr->Prop}:∀c∈([]:List Str),∀C,PySem.W.nsIn K mainGlobals c=some (some (.ref C))->P C:=fun _ h=>nomatch h
theorem zkj {K:Fg} {P:Addr->Prop} {c:Str} {cs:List Str} {C0:Addr} (h:PySem.W.nsIn K mainGlobals c=some (some (.ref C0))) (p:P C0) (r:∀c∈cs,∀C,PySem.W.nsIn K mainGlobals c=some (some (.ref C))->P C) :
  ∀c'∈c::cs,∀C,PySem.W.nsIn K mainGlobals c'=some (some (.ref C))->P C:=fun c' hc C e=>by
 rcases xbn.mp hc with rfl | hc
 ·rw[h] at e;cases e;exact p
 ·exact r c' hc C e
section
variable {X:Cx} {R:RXT} {f:Addr} {σL:DS} {τL:L2.St} {g:SE} {x n y:Str} {p pos pos2 xp hp:Pos} {B:Addr} {i:Nat} {cs:List Str} {b0:Stmt} {suite rest:List Stmt} {u t:SS}
end
section
variable {X:Cx} {y:Str} {p pos lp:Pos} {params:Arguments} {body:Expr} {scope stS:Scope} {N NL:List Str} {is:List Nat} {c T fr:Addr} {fdR:FuncData} {stR:Stmt} {x:Str} {k:Nat} {lam:SE} {b:(Store->Res D)->SS}
end
end Dd
namespace L2
open PySem PySem.Spec PyProof.Rows
end L2
namespace Dd
open PySem L2 PyProof.Rows
section
variable {X:Cx} {o e:Expr} {es:List Expr} {f:SE} {ga:SA} {apos cpos:Pos}
end
end Dd
namespace L2
open PySem PySem.Spec PyProof.Rows
end L2
namespace Dd
open PySem L2 PyProof.Rows
section
variable {X:Cx} {R:RXT} {f:Addr} {σL:DS} {τL:L2.St} {g:SE} {x n y:Str} {p pos pos2 xp hp:Pos} {B:Addr} {i:Nat} {cs:List Str} {b0:Stmt} {suite rest:List Stmt} {u t:SS}
end
section
variable {K:Fg} {cv:Value}
end
section
variable {X:Cx} {pos:Pos} {es:List Expr} {u:List D->DS->Option DS}
end
end Dd
namespace L2
open PySem PySem.Spec PyProof.Rows
section
variable {prog:Program} {w:World} {A:Around} {R:Result->Shared->Prop} {I:Addr} {fp wr:List Addr} {n:Nat} {P:Nat->Value->Prop} {St:Nat->Heap->Prop}
end
section
variable {prog:Program} {w:World} {A:Around} {E:Value->Shared->Prop} {s:Shared}
end
section
variable {X:Cx} {p pos cpos kpos:Pos} {l:Expr} {t:TA} {d:Int} {j:Nat}
end
section
variable {X:Cx}
end
end L2
namespace Dd
open PySem L2 PyProof.Rows
section
variable {X:Cx} {p pos cpos kpos:Pos} {l:Expr} {f:SA} {j:Nat}
end
end Dd
namespace L2
open PySem PySem.Spec PyProof.Rows
structure InitCls (K:Fg) (C fI:Addr):Prop where
 obj : ∃ nm q N bs tl sn sub ab col dd k0 k1 k2 k3 k5, K.lookup C = some (excClassObj nm q C N bs tl true sn sub ab col dd k0 k1 k2 k3 k5 "ValueError.__new__") /\ PySem.W.tailIn K bmV tl = true
 init : PySem.W.findIn K (.ref C) "__init__" = some (some (.ref fI))
 fn : PySem.W.typeIn K (.ref fI) = some (.type "function")
section
variable {P:Program} {w:World} {A:Around} {E:Value->Shared->Prop} {s:Shared} {K:Fg} {C fI:Addr} {us:List Value}
theorem zlz (X:K.In s.heap) (k:InitCls K C fI) (few:us.length<=sizeLine) {W:Fin->Shared->Prop}
  (fin:∀g ea,Heap.MadeExcOf s.heap g ea (.ref C) us->wpAny (model P w) A (call (.ref fI) (.ref ea::us)) (fun r s'=>r=.none/\W (.done (.ret (.ref ea))) s') E {s with heap:=g}) :
  wpAny (model P w) A (Builtin.«type.__call__» ⟨.ref C::us,[]⟩) W E s:=by
 obtain ⟨hp,gs,dr,tk,os⟩:=s;obtain ⟨nm,q,N,bs,tl,sn,sub,ab,col,dd,k0,k1,k2,k3,k5,lC,tC⟩:=k.obj;have hC:=X _ _ lC;have own:=xig X tC
 repeat (first | with_reducible refine xfp hC ?_ | with_reducible refine wpAny_madeBy_exc hC ?_ | wp_step)
 refine codeAny_call_builtin_code (Code.quiet_builtin _ xeq.quiet) (wpAny_check_new_subU xeq (by decide) own hC ?_);refine codeAny_exc_new_subU xeq (by decide) xeq own hC ?_ few;show wpAny _ _ _ _ _ _;have up : ∀ b o, hp.get? b = some o -> ((hp.push { cls := .type "tuple", data := .seq us.toArray }).push { cls := .ref C, data := .fields #[.ref hp.objs.size, .none, .none, .none, .bool false, .none] }).get? b = some o := fun b o e => xbc _ (xbc _ e)
 have X1:=X.keeps up;have at1 : ((hp.push { cls := .type "tuple", data := .seq us.toArray }).push { cls := .ref C, data := .fields #[.ref hp.objs.size, .none, .none, .none, .bool false, .none] }).get? (hp.objs.size + 1) = some { cls := .ref C, data := .fields #[.ref hp.objs.size, .none, .none, .none, .bool false, .none] } := xki (by rw [Heap.size_push]) rfl
 have mine:(Value.ref C::tl).contains (.ref C)=true:=by rw[xjy,xfb,Bool.true_or]
 unfold isInstance
 repeat (first | with_reducible refine xfp at1 ?_ | (with_reducible refine xjr (up _ _ hC) ?_;rw[mine]) | wp_step)
 show wpAny _ _ (typeLookup (.ref C) _) _ _ _;refine (xhr X1 k.init).at ?_;refine xdx (xba ?_);unfold bindSpecial;refine xba ((PySem.W.looks_typeIn X1 k.fn).at ?_);rw[if_pos (by decide)];refine xbd (xba (xdj (fin _ (hp.objs.size+1) ⟨up,xfg (xjs _),hp.objs.size,at1,xfg (xbg _),?_⟩) (fun r s' hr=>?_) fun _ _ z=>z))
 ·exact xbc _ (xki rfl rfl)
 ·obtain ⟨rfl,q'⟩:=hr
  wp_walk
  exact q'
theorem zrq (X:K.In s.heap) (k:InitCls K C fI) (few:us.length<=sizeLine) {W:Value->Shared->Prop}
  (fin : ∀ g ea, Heap.MadeExcOf s.heap g ea (.ref C) us -> wpAny (model P w) (A.under (.builtin "type.__call__" ⟨.ref C :: us, []⟩)) (call (.ref fI) (.ref ea :: us)) (fun r s' => r = .none /\ W (.ref ea) s') E { s with heap := g }) :
  wpAny (model P w) A (call (.ref C) us) W E s:=by
 obtain ⟨hp,gs,dr,tk,os⟩:=s;obtain ⟨nm,q,N,bs,tl,sn,sub,ab,col,dd,k0,k1,k2,k3,k5,lC,tC⟩:=k.obj;have hC:=X _ _ lC;have g1:=tc_lookup;have g2:=tc_bind (.ref C);have ty : (⟨hp, gs, dr, tk, os⟩ : Shared).TypeIs (.ref C) "type" := ⟨_, hC, rfl⟩
 refine xjn (codeAny_of_tree ?_);show wpAny _ _ (callAny (.ref C) _) _ _ _
 repeat (any_goals (first | assumption | with_reducible refine xfp hC ?_ | wp_step))
 refine ⟨rfl,codeAny_call_builtin_at (Code.quiet_builtin _ (by decide +kernel)) entry_typeCall (wpAny_check_type_call_sub hC (zlz (s:=⟨hp,gs,dr,tk,os⟩) X k few fun g ea hm=>?_))⟩;exact fin g ea hm
end
noncomputable def Fresh (ea C:Addr) (dx:Option Addr):Heap->Prop:=fun h=>∃oe v0,h.get? ea=some oe/\oe.cls=.ref C/\oe.dict=dx/\oe.data=.fields #[.ref v0,.none,.none,.none,.bool false,.none]
theorem zjc {P:Program} {w:World} {H:Hp} {h:Heap} {ea C:Addr} {dx:Option Addr} (f:Fresh ea C dx h):ObjOk P w H h ea (.ext (Fresh ea C dx)):=by
 obtain ⟨oe,v0,e1,e2,e3,e4⟩:=f;exact ⟨⟨oe,v0,e1,e2,e3,e4⟩,⟨oe,e1⟩,fun h1 h2 ⟨o,v,a1,a2⟩ k=>⟨o,v,k o a1,a2⟩⟩
section
variable {X:Cx} {C f:Addr} {fd:FuncData} {ps:List Str} {sp:Sp} {k:Nat} {x:Str} {p pos:Pos} {e:Expr} {es:List Expr} {t:TA}
theorem zpo {pins:List (Addr × Obj)} {σ:St} {H:Hp} {s:Shared} {Q:VK} {us:List Value} {vs:List V} (M:InitCls X.K C f) (G:FnOk X.prog X.w X.K X.mg X.base CX0 k f fd ps sp) (hr:Room (k+1) X.A) (hb:Binds X.K fd ps [])
  (I:Inv X pins σ H s) (r:Vals vs us) (few:vs.length<=sizeLine)
  (h:∀ea,H ea=none->sp (.ref ea::vs) (upd H ea (.ext (Fresh ea C none))) (fun v H2=>v=.non/\Q (.ref ea) H2) E0) :
  wpAny (model X.prog X.w) X.A (call (.ref C) us) (EP X pins σ Q) X.xe s:=by
 refine zrq I.kIn M (by rw[← r.length];exact few) fun g ea hm=>?_
 obtain ⟨ti,h1,h2,h3⟩:=hm.there;have away:∀b ob,s.heap.get? b=some ob->b≠ea:=fun b ob e z=>by rw[z,hm.new] at e;cases e
 have I2:=I.laidN (q:=ea) (o:=.ext (Fresh ea C none)) (g:=g) (t':=s.toks) hm.keeps away (zjc ⟨_,_,h1,rfl,rfl,rfl⟩);have hq:=h ea (I.away away);have r2:Vals (V.ref ea::vs) (Value.ref ea::us++[]):=by rw[xdm];exact .cons rfl r
 have hl:(Value.ref ea::us++[]).length=ps.length:=by
  have e:=r2.length;rw[G.len _ _ _ _ hq] at e;exact e.symm
 refine xjn (xjo (G.run _ X.stack _ _ ⟨Value.ref ea::us,[]⟩ (Value.ref ea::us++[]) _ _ E0 (hr.make C us []) (I2.env0.make C us []) (hb _ (Value.ref ea::us) I2.kIn hl) r2 hq) fun r s' hq'=>?_);cases r with
 | error e=>exact pass0 (X:=X) pins σ _ _ e s' I2 hq'
 | ok fl =>
  cases fl with
  | ret u =>
   obtain ⟨v,H',I3,rv,ev,q3⟩:=I2.after hq';subst ev;exact ⟨rv,V.ref ea,H',I3,rfl,q3⟩
  | next=>exact False.elim hq'
  | brk=>exact False.elim hq'
  | cont=>exact False.elim hq'
noncomputable def tMakeX (C:Addr) (sp:Sp) (t:TA):TE:=fun σ H Q=>t σ H fun vs H1=>vs.length<=sizeLine/\∀ea,H1 ea=none->sp (.ref ea::vs) (upd H1 ea (.ext (Fresh ea C none))) (fun v H2=>v=.non/\Q (.ref ea) H2) E0
theorem ztw (M:InitCls X.K C f) (kp:PySem.W.keepIn X.K (.ref C)=true) (G:FnOk X.prog X.w X.K X.mg X.base CX0 k f fd ps sp) (hr:Room (k+1) X.A) (hg:Gl X x) (hm:X.mg x=some (.ref C)) (hb:Binds X.K fd ps [])
  (ha : PA X (e :: es) t) (hdb : (x == ("__debug__" : Str)) = false := by decide) (he : starEach (e :: es) X.env = (false, eval e X.env) :: starEach es X.env := by rfl) (hpl : (backTo pos (starEach es X.env)).any (·.1) = false := by rfl) :
  PE X (.Call (.Name x p) (e::es) [] pos) (tMakeX C sp t):=by
 intro pins s σ H Q I h;refine xgc (zhp I hg hm ?_ hdb);exact xju (h₀:=X.base) I.ok.mod.kin kp (thn (ha pos pins s σ H _ I h) fun us s1 ⟨vs,H1,I1,r,few,q⟩=>⟨I1.kIn,zpo M G hr hb I1 r few q⟩) he hpl
theorem ztk {M:Model} {A:Around} {E:Value->Shared->Prop} {s:Shared} {env:Env} {m:Sem Value} {W:Flow->Shared->Prop} {K:Fg} {f:Addr} (c:InitCls K C f) (hh:A.handled=none)
  (h:wpAny M A m (fun v s1=>∃ea dx,v=.ref ea/\K.In s1.heap/\Fresh ea C dx s1.heap/\E (.ref ea) s1) E s):wpAny M A (raiseStmt env (some m) none) W E s:=by
 unfold raiseStmt;refine xba (thn h fun v s1 hq0=>?_);obtain ⟨ea,dx,ev,X1,fr,q⟩:=hq0;subst ev;obtain ⟨nm,qn,N,bs,tl,sn,sub,ab,col,dd,k0,k1,k2,k3,k5,lC,tC⟩:=c.obj;have hC:=X1 _ _ lC;have own:=xig X1 tC;obtain ⟨⟨oc,od,odt,osl⟩,v0,e1,e2,e3,e4⟩:=fr;dsimp only at e2 e3 e4;subst e2 e3 e4;have above : (Value.ref C :: tl).contains (.type "BaseException") = true := by rw [xjy, own.hasType (b := true) (by decide), Bool.or_true]
 obtain ⟨hp,g,d,tk,os⟩:=s1
 repeat (first | with_reducible refine xfp e1 ?_ | with_reducible refine xfp hC ?_ | (with_reducible refine xjr hC ?_;rw[above]) | wp_step)
 exact wpAny_raiseNew_none hh q
theorem zpt {te:TE} (c:InitCls X.K C f) (hc:X.calm=true) (he:PE X e te) {pins:List (Addr × Obj)} {s:Shared} {σ:St} {H:Hp} {D:Ends} (I:Inv X pins σ H s)
  (h:te σ H fun v H1=>∃ea dx,v=.ref ea/\H1 ea=some (.ext (Fresh ea C dx))/\∀s1,Inv X pins σ H1 s1->X.xe (.ref ea) s1) :
  wpAny (model X.prog X.w) X.A (exec (.Raise (some e) none pos) X.env) (SP X pins D) X.xe s:=by
 rw[arm_exec_Raise];refine xba (xiz ?_);refine ztk c (I.ok.hd hc) (xba (xdj (he pins s σ H _ I h) (fun v s1 ⟨u,H1,I1,ru,ea,dx,eu,e1,q⟩=>xba (xiz (xbd ?_))) fun _ _ z=>z));subst eu;exact ⟨ea,dx,ru,I1.kIn,(I1.hok ea _ e1).1,q s1 I1⟩
end
section
variable {X:Cx} {pins:List (Addr × Obj)} {σ:St} {H:Hp} {s:Shared}
theorem Inv.poke {ea:Addr} {φ ψ:Heap->Prop} {g:Heap} {t':Nat} (I:Inv X pins σ H s) (e:H ea=some (.ext φ)) (k:∀b o,b≠ea->s.heap.get? b=some o->g.get? b=some o) (new:ObjOk X.prog X.w (upd H ea (.ext ψ)) g ea (.ext ψ)) :
  Inv X pins σ (upd H ea (.ext ψ)) {s with heap:=g,toks:=t'}:=by
 have off:∀{b:Addr} {u:HO},H b=some u->(∀χ,u≠.ext χ)->upd H ea (.ext ψ) b=some u:=fun {b u} q n=>by
  rw[zj (by rintro rfl;rw[e] at q;exact n φ (xbw q).symm)];exact q
 have ne:∀{b:Addr},H b=none->b≠ea:=fun {b} q z=>by rw[z,e] at q;cases q
 refine I.un ⟨fun b u q n _ _=>k b u (ne n) q,fun b u q n _ _=>⟨u.slots,k b u (ne n) q⟩,fun b u _ n _=>by rw[zj (ne n)];exact n,fun b u q _=>?_,fun b xs q=>off q (by intro χ z;cases z),fun b ob u q=>off q (by intro χ z;cases z),fun b ps q=>⟨#[],by rw[off q (by intro χ z;cases z)];simp⟩⟩ fun b u q=>?_
 ·by_cases hb:b=ea
  ·subst hb;exact new.here
  ·exact ⟨u,k b u hb q⟩
 ·by_cases hb:b=ea
  ·subst hb;rw[zf] at q;cases q;exact new
  ·rw[zj hb] at q;refine (I.hok b u q).stay (fun c v hc z=>k c v ?_ z) (fun c z=>off z (by intro χ z;cases z)) fun c xs z=>off z (by intro χ z;cases z)
   rcases hc with hc | hc
   ·rw[hc];exact hb
   ·rintro rfl;rw[e] at hc;cases hc
theorem zoi {C f : Addr} (c : InitCls X.K C f) : CallR X (.builtin "ValueError.__init__") (fun xs H Q => ∃ ea t dx, xs = [.ref ea, .str t] /\ H ea = some (.ext (Fresh ea C dx)) /\ Q .non H) := by
 intro pins s σ H xs us Q I r h;obtain ⟨ea,t,dx,rfl,e1,q⟩:=h;obtain ⟨u,w',rfl,ru,rw'⟩:=vals2 r;obtain rfl:u=Value.ref ea:=ru;obtain ⟨tk,rfl⟩:∃tk,w'=Value.str t tk:=rw'
 obtain ⟨nm,qn,N,bs,tl,sn,sub,ab,col,dd,k0,k1,k2,k3,k5,lC,tC⟩:=c.obj;have hC:=I.kIn _ _ lC;have own:=xig I.kIn tC;obtain ⟨⟨oc,od,odt,osl⟩,v0,f1,f2,f3,f4⟩:=(I.hok ea _ e1).1;dsimp only at f2 f3 f4;subst f2 f3 f4;have fin:∀g tk',(∀b o,b≠ea->s.heap.get? b=some o->g.get? b=some o)->(∃v,g.get? ea=some ⟨.ref C,od,.fields #[.ref v,.none,.none,.none,.bool false,.none],osl⟩)->EP X pins σ Q .none {s with heap:=g,toks:=tk'}:=fun g tk' k hq0=>by
  obtain ⟨v,hv⟩:=hq0;have:=I.poke (ψ:=Fresh ea C od) (g:=g) (t':=tk') e1 k (zjc ⟨_,v,hv,rfl,rfl,rfl⟩);have self:upd H ea (.ext (Fresh ea C od))=H:=zlv e1;rw[self] at this;exact ⟨.non,H,this,rfl,q⟩
 obtain ⟨hp,gs,dr,tk0,os⟩:=s;refine xjn (xjp xeq.init.plain xeq.initEntry (wpAny_check_init_subU xeq own hC f1 rfl ?_))
 wp_walk
 refine fin _ _ (fun b o hb q=>?_) ⟨hp.objs.size,?_⟩
 ·rw[xdc _ _ hb.symm];exact xbc _ q
 ·rw[xfd _ (xbc _ f1) rfl]
  rfl
structure BaseInit (K:Fg) (R:Addr):Prop where
 sp : PySem.W.specialIn K (.ref R) "__getattribute__" = some (some (.builtin "type.__getattribute__"))
 rd : PySem.W.readsIn K R (.type "type") = true
 fd : PySem.W.findCls K (.ref R) (.type "type") "__init__" = some (.val (.builtin "ValueError.__init__"))
noncomputable def rVi (C:Addr):List V->Hp->VK->Prop:=fun xs H Q=>∃ea t dx,xs=[.ref ea,.str t]/\H ea=some (.ext (Fresh ea C dx))/\Q .non H
theorem zub {C f R : Addr} {xR : Str} {p1 p2 pos : Pos} {e : Expr} {es : List Expr} {t : TA} {pl : Sem Bool} (c : InitCls X.K C f) (B : BaseInit X.K R) (hg : Gl X xR) (hm : X.mg xR = some (.ref R)) (ha : PA X (e :: es) t) (hdb : (xR == ("__debug__" : Str)) = false := by decide)
  (he:starEach (e::es) X.env=(false,eval e X.env)::starEach es X.env:=by rfl) (hpl:(backTo pos (starEach es X.env)).any (·.1)=false:=by rfl)
  (ht : eval (.Call (.Attribute (.Name xR p1) "__init__" p2) (e :: es) [] pos) X.env = (do
   let ov ← eval (.Name xR p1) X.env
   standAt p2.atName
   let (f, first) ← holding [ov] (getMethod ov "__init__" pl)
   callWith pos f first (backTo pos (starEach (e::es) X.env)) (backToKw pos (keywordEach [] X.env))):=by rfl) :
  PE X (.Call (.Attribute (.Name xR p1) "__init__" p2) (e :: es) [] pos) (tCB (rVi C) t) := by
 intro pins s σ H Q I h;refine PySem.W.methodCall_KW (pl:=pl) (zhp I hg hm ?_ hdb) ht;refine PySem.W.method_cls I.kIn B.sp (PySem.W.cls_value I.kIn B.rd B.fd rfl ?_);exact xji (thn (ha pos pins _ σ H _ (I.tok _) h) fun us s1 ⟨vs,H1,I1,r1,q1⟩=>zoi c pins s1 σ H1 vs us Q I1 r1 q1) he hpl
theorem zyd {a b:Str} {j1 j2:Nat} {q1 q2 q3 pos:Pos} {v:Expr} {te:TE} (he:PE X v te) (la:a.length<=1000) (lb:b.length<=1000) :
  PE X (.JoinedStr [.Constant (.str a) j1 q1,.FormattedValue v (-1) none q2,.Constant (.str b) j2 q3] pos) (fun σ H Q=>te σ H fun x H1=>∃i:Int,x=.int i/\0<=i/\i<=1000/\∀t,Q (.str t) H1):=by
 intro pins s σ H Q I h;have ap:∀x y:Str,(x++y).length=x.length+y.length:=strLen_append
 have z:(Str.empty).length=0:=rfl;refine JoinedStr_many (joinParts_cons (xjt ⟨by rw[ap,z,xef];lia,joinParts_cons (FormattedValue_plain (thn (he pins _ σ H _ (I.tok _) h) fun u s1 ⟨x,H1,I1,rx,i,ex,h0,h1,q⟩=>?_))⟩));subst ex;obtain ⟨tk,rfl⟩:∃tk,u=Value.int i tk:=rx
 have len:=len_str_of_int i;have hi:i.natAbs<=1000:=by lia
 refine formatField_int_small (xck (Nat.log2_le_self _) (by lia)) ⟨?_,joinParts_cons (xjt ⟨?_,joinParts_nil ⟨.str (Str.empty++a++toString i++b),H1,((I1.tok _).tok _).tok _,⟨_,rfl⟩,q _⟩ ?_⟩)⟩
 ·rw[ap,ap,z,xef];have e:(toString i:Str).length=(Str.ofString (toString i)).length:=rfl;rw[e];lia
 ·rw[ap,ap,ap,z,xef];have e:(toString i:Str).length=(Str.ofString (toString i)).length:=rfl;rw[e];lia
 ·rw[ap,ap,ap,z,xef];have e:(toString i:Str).length=(Str.ofString (toString i)).length:=rfl;rw[e];lia
end
end L2
namespace L2
open PySem PySem.Spec PyProof.Rows Builtin Builtin.ObjectAttr
theorem zkx {h : Heap} (self : Value) : ∀ {l : List Value}, OwnTail h bmV l -> refuseLoop self "__setattr__" l = pure () := fun {l} T => by
 induction T with
 | base=>exact PySem.F.store_ValueError.passes self
 | own _ _ _ _ ih=>rw[refuseLoop_ref];exact ih
structure AtCls (K:Fg) (C:Addr):Prop where
 sa : PySem.W.findIn K (.ref C) "__setattr__" = some (some (.builtin "object.__setattr__"))
 at_ : PySem.W.findIn K (.ref C) "at" = some none
section
variable {P:Program} {w:World} {A:Around} {E:Value->Shared->Prop} {s:Shared} {K:Fg} {C fI ea:Addr} {v:Value}
theorem zvg {M:Model} {nm q:Str} {N:Addr} {bs bm:List Value} {sn:List Str} {sub:List Value} {ab:Bool} {col:Option Bool} {dd:Option Addr} {k0 k1 k2 k3 k5:Option Value} {newId:String} {vs:Array Value} {sl:Array (Option Value)} {W:Option Addr->Shared->Prop}
  (hC:s.heap.get? C=some (excClassObj nm q C N bs bm true sn sub ab col dd k0 k1 k2 k3 k5 newId)) (e:s.heap.get? ea=some ⟨.ref C,none,.fields vs,sl⟩)
  (fin : W (some s.heap.objs.size) { s with heap := (s.heap.push { cls := .type "dict", data := .dict #[] }).update ea fun o => { o with dict := some s.heap.objs.size } }) : wpAny M A (instanceDict ea true) W E s := by
 obtain ⟨hp0,gs,dr,tk,os⟩:=s;unfold instanceDict;have e' : (hp0.push { cls := .type "dict", data := .dict #[] }).get? ea = some ⟨.ref C, none, .fields vs, sl⟩ := xbc _ e
 repeat (first | with_reducible refine xfp e ?_ | with_reducible refine xfp hC ?_ | wp_step)
 exact fin
theorem zpm {t0:Addr} {sl:Array (Option Value)} {W:Unit->Shared->Prop} (X:K.In s.heap) (c:InitCls K C fI) (a:AtCls K C) (e:s.heap.get? ea=some ⟨.ref C,none,.fields #[.ref t0,.none,.none,.none,.bool false,.none],sl⟩)
  (fin : ∀ g d tk, (∀ b o, b ≠ ea -> s.heap.get? b = some o -> g.get? b = some o) -> s.heap.get? d = none -> g.get? ea = some ⟨.ref C, some d, .fields #[.ref t0, .none, .none, .none, .bool false, .none], sl⟩ -> g.Ns1 d (fun y => if y = "at" then some v else none) -> W () { s with heap := g, toks := tk }) :
  wpAny (model P w) A (setAttr (.ref ea) "at" v) W E s := by
 obtain ⟨nm,qn,N,bs,tl,sn,sub,ab,col,dd,k0,k1,k2,k3,k5,lC,tC⟩:=c.obj;have hC:=X _ _ lC;have own:=xig X tC;have I:PySem.W.InstAt s.heap ea ⟨.ref C,none,.fields #[.ref t0,.none,.none,.none,.bool false,.none],sl⟩ C none:=⟨e,rfl,rfl,trivial⟩
 refine PySem.W.set_plain X I a.sa ?_;have SF:=PySem.F.store_ValueError;have hp:∀(M:Model),PySem.W.Looks M s.heap (mroOf (.ref C)) (.ref C::tl):=fun M A' Q' E' s' k q=>wpAny_mroOf_exc (h:=s'.heap) (k _ _ hC) q
 have isObj : PySem.W.Looks (model P w) s.heap (isInstance (.ref ea) (.type "object")) true := I.type.andThen fun A' Q' E' s' k q => xjr (h := s'.heap) (k _ _ hC) (by
  rw [show (Value.ref C :: tl).contains (.type "object") = true from by rw [xjy, own.hasType (b := true) (by decide), Bool.or_true]]; exact q)
 refine xjp SF.slot.plain SF.entry (@PySem.W.check_slot (model P w) _ _ { s with toks := s.toks + 1 } "object.__setattr__" "object" "__setattr__" (.ref ea) [.str "at" s.toks, v] [] _ SF.kind SF.split isObj (SF.args _ _ _) ?_)
 rw[PySem.W.osa_eq,refuse_eq];refine xba (xba (I.type.here (s:={s with toks:=s.toks+1}) (xba ((hp _).here (s:={s with toks:=s.toks+1}) ?_))));rw[refuseLoop_ref,zkx _ own];refine xbd (xba (I.type.here (s:={s with toks:=s.toks+1}) (xba ((xhr X a.at_).here (s:={s with toks:=s.toks+1}) (xba (PySem.W.Looks.now.here (s:={s with toks:=s.toks+1}) ?_))))));show wpAny _ _ (storeInOwnDict (.ref ea) (.ref C) (.str "at" s.toks) "at" v false) _ _ _
 unfold storeInOwnDict ownDictForStores;have nx:ea≠s.heap.objs.size:=xbt (xbk e);refine xba (xbd (xba (zvg (s:={s with toks:=s.toks+1}) hC e ?_)));dsimp only;have at1 : ((s.heap.push { cls := .type "dict", data := .dict #[] }).update ea fun o => { o with dict := some s.heap.objs.size }).get? s.heap.objs.size = some { cls := .type "dict", data := .dict #[] } :=
  (xhw _ _ _ _ nx.symm).trans (xki rfl rfl)
 have at2 : ((s.heap.push { cls := .type "dict", data := .dict #[] }).update ea fun o => { o with dict := some s.heap.objs.size }).get? ea = some ⟨.ref C, some s.heap.objs.size, .fields #[.ref t0, .none, .none, .none, .bool false, .none], sl⟩ :=
  xfd _ (xbc _ e) rfl
 have nsn : ((s.heap.push { cls := .type "dict", data := .dict #[] }).update ea fun o => { o with dict := some s.heap.objs.size }).Ns s.heap.objs.size (fun _ => none) := ⟨_, #[], _, at1, rfl, fun _ z => absurd z (by simp), fun _ => rfl⟩
 unfold storeInDict newKeyGuard;refine xba (xbd (xba (wpAny_nsSet1 (Heap.Ns1.of_empty nsn) fun g ng sb=>?_)));obtain ⟨oD, esD, epD, hoD, hdD, hcD⟩ := ng.count (Within.cons "at" v Within.nil)
 refine xba (wpAny_lookBehind hoD (by rw[hdD];exact pastItsLine_dict (xbb hcD (by rw[xby,xgx,xef];lia))) (xbd ?_));refine fin g s.heap.objs.size _ (fun b o nb q=>?_) (xfg (xbg _)) ((sb.2 ea nx).trans at2) ng;exact (sb.2 b (xbt (xbk q))).trans ((xhw _ _ _ _ nb).trans (xbc _ q))
end
end L2
namespace L2
open PySem PySem.Spec PyProof.Rows
section
variable {X:Cx} {pins:List (Addr × Obj)} {σ:St} {H:Hp} {s:Shared}
theorem Inv.poke2 {ea d:Addr} {φ ψ:Heap->Prop} {o:HO} {g:Heap} {t':Nat} (I:Inv X pins σ H s) (e:H ea=some (.ext φ)) (nd:s.heap.get? d=none) (k:∀b o,b≠ea->s.heap.get? b=some o->g.get? b=some o)
  (newd:ObjOk X.prog X.w (upd (upd H d o) ea (.ext ψ)) g d o) (new:ObjOk X.prog X.w (upd (upd H d o) ea (.ext ψ)) g ea (.ext ψ)):Inv X pins σ (upd (upd H d o) ea (.ext ψ)) {s with heap:=g,toks:=t'}:=by
 have hd:H d=none:=I.away fun b ob q z=>by rw[z,nd] at q;cases q
 have off:∀{b:Addr} {u:HO},H b=some u->(∀χ,u≠.ext χ)->upd (upd H d o) ea (.ext ψ) b=some u:=fun {b u} q n=>by
  rw[zj (by rintro rfl;rw[e] at q;exact n φ (xbw q).symm),zj (zh q hd)];exact q
 have ne:∀{b:Addr},H b=none->b≠ea:=fun {b} q z=>by rw[z,e] at q;cases q
 have nb:∀{b:Addr} {u:Obj},s.heap.get? b=some u->b≠d:=fun {b u} q z=>by rw[z,nd] at q;cases q
 refine I.un ⟨fun b u q n _ _=>k b u (ne n) q,fun b u q n _ _=>⟨u.slots,k b u (ne n) q⟩,fun b u q n _=>by rw[zj (ne n),zj (nb q)];exact n,fun b u q _=>?_,fun b xs q=>off q (by intro χ z;cases z),fun b ob u q=>off q (by intro χ z;cases z),fun b ps q=>⟨#[],by rw[off q (by intro χ z;cases z)];simp⟩⟩ fun b u q=>?_
 ·by_cases hb:b=ea
  ·subst hb;exact new.here
  ·exact ⟨u,k b u hb q⟩
 ·by_cases hb:b=ea
  ·subst hb;rw[zf] at q;cases q;exact new
  ·rw[zj hb] at q;by_cases hb2:b=d
   ·subst hb2;rw[zf] at q;cases q;exact newd
   ·rw[zj hb2] at q;refine (I.hok b u q).stay (fun c v hc z=>k c v ?_ z) (fun c z=>off z (by intro χ z;cases z)) fun c xs z=>off z (by intro χ z;cases z)
    rcases hc with hc | hc
    ·rw[hc];exact hb
    ·rintro rfl;rw[e] at hc;cases hc
noncomputable def tSetAt (C:Addr) (ta tv:TE):TS:=fun D σ H=>tv σ H fun y H1=>ta σ H1 fun x H2=>∃ea i,x=.ref ea/\y=.int i/\H2 ea=some (.ext (Fresh ea C none)) /\
 ∀ d od, H2 d = none -> d ≠ ea -> D.nx σ (upd (upd H2 d (.frz od (.xd [("at", .int i)]))) ea (.ext (Fresh ea C (some d))))
theorem zto {C f : Addr} {o value : Expr} {ta tv : TE} {pos pos' : Pos} (c : InitCls X.K C f) (a : AtCls X.K C) (ha : PE X o ta) (hv : PE X value tv) (hs : swapsWith value (some (.Attribute o "at" pos')) pos.line X.env = pure false := by rfl) :
  PS X (.Assign [.Attribute o "at" pos'] value pos) (tSetAt C ta tv) := by
 intro pins s σ H D I h;refine plainObj_wpAny_Assign_Attribute (thn (hv pins s σ H _ I h) fun u s1 ⟨y,H1,I1,ry,q⟩=>thn (ha pins s1 σ H1 _ I1 q) fun ov s2 hq0=>?_) hs;obtain ⟨x,H2,I2,rx,ea,i,ex,ey,e2,q2⟩:=hq0;subst ex ey;obtain rfl:ov=Value.ref ea:=rx;obtain ⟨tk,rfl⟩:∃tk,u=Value.int i tk:=ry
 obtain ⟨⟨oc,od,odt,osl⟩,v0,f1,f2,f3,f4⟩:=(I2.hok ea _ e2).1;dsimp only at f2 f3 f4;subst f2 f3 f4;refine zpm I2.kIn c a f1 fun g d tk k nd g1 g2=>?_
 obtain ⟨oD,es,ep,hD,rest⟩:=id g2;have hd:H2 d=none:=I2.away fun b ob q z=>by rw[z,nd] at q;cases q
 have ne:d≠ea:=(zh e2 hd).symm;refine ⟨σ, _, I2.poke2 (d := d) (ψ := Fresh ea C (some d)) (o := .frz oD (.xd [("at", .int i)])) (t' := tk) e2 nd k ⟨hD, _, g2, fun y => ?_⟩ (zjc ⟨_, v0, g1, rfl, rfl, rfl⟩), q2 d oD hd ne⟩
 by_cases hy : y = "at"
 ·subst hy;rw[if_pos rfl];exact ⟨_,rfl⟩
 ·rw[if_neg hy];have : List.lookup y [(("at" : Str), V.int i)] = none := by
   rw[xdr,xft.mpr hy];rfl
  rw[this]
  trivial
end
noncomputable def spInit (C:Addr):Sp:=fun vs H Q _=>∃ea i,vs=[.ref ea,.int i]/\0<=i/\i<=1000/\H ea=some (.ext (Fresh ea C none)) /\
 ∀ d od, H d = none -> d ≠ ea -> Q .non (upd (upd H d (.frz od (.xd [("at", .int i)]))) ea (.ext (Fresh ea C (some d))))
structure InitBody (st:Stmt) (xR:Str):Prop where
 body : ∃ (p1 p2 p3 p4 p5 p6 q1 q2 q3 q4 r1 r2 r3 r4 : Pos) (a b : Str) (j1 j2 : Nat) (pl : Env -> Sem Bool), a.length <= 1000 /\ b.length <= 1000 /\ defBody st = [.Expr (.Call (.Attribute (.Name xR p1) "__init__" p2) [.Name "self" p3, .JoinedStr [.Constant (.str a) j1 q1, .FormattedValue (.Name "at" q2) (-1) none q3, .Constant (.str b) j2 q4] p4] [] p5) p6,
  .Assign [.Attribute (.Name "self" r1) "at" r2] (.Name "at" r3) r4] /\
  ∀ env : Env, eval (.Call (.Attribute (.Name xR p1) "__init__" p2) [.Name "self" p3, .JoinedStr [.Constant (.str a) j1 q1, .FormattedValue (.Name "at" q2) (-1) none q3, .Constant (.str b) j2 q4] p4] [] p5) env = (do
   let ov ← eval (.Name xR p1) env
   standAt p2.atName
   let (f, first) ← holding [ov] (getMethod ov "__init__" (pl env))
   callWith p5 f first (backTo p5 (starEach [.Name "self" p3, .JoinedStr [.Constant (.str a) j1 q1, .FormattedValue (.Name "at" q2) (-1) none q3, .Constant (.str b) j2 q4] p4] env)) (backToKw p5 (keywordEach [] env)))
 sc : FnScope ["self", "at"] ["self", "at"] (defScope st)
 gl:(defScope st).names.lookup xR=some .globalImplicit
 nb : (xR == ("__debug__" : Str)) = false
 bd : ∀ (qual : Str) (kV doc pm : Value) (an : Option Addr) (cdv ct : Value) (us : List Value), us.length = 2 -> bindArgs (PySem.W.fnOf "__init__" qual (defArgs st) (defBody st) (defScope st) .none kV doc pm an cdv ct) ⟨us, []⟩ = pure ((["self", "at"] : List Str).zip us)
section
variable {P:Program} {w:World} {K:Fg} {mg:Str->Option Value} {base h:Heap} {C fI R:Addr} {xR qual:Str} {st:Stmt} {fd:FuncData}
theorem zzj (F : Fun K "__init__" qual st fI fd) (B : InitBody st xR) (c : InitCls K C fI) (a : AtCls K C) (b : BaseInit K R) (hm : mg xR = some (.ref R)) : FnOk P w K mg base CX0 1 fI fd ["self", "at"] (spInit C) := by
 refine F.ok (k:=0) B.sc (fun vs H Q E ⟨ea,i,e,_⟩=>by rw[e];rfl) fun cdv A outer s H vs Q E hr hs=>?_
 obtain ⟨p1,p2,p3,p4,p5,p6,q1,q2,q3,q4,r1,r2,r3,r4,ta,tb,j1,j2,pl,la,lb,eb,ht⟩:=B.body;rw[eb];have v0 : Vis (defScope st) "self" := by
  rcases B.sc.par "self" (by simp) with z | z
  ·exact .inl z
  ·exact .inr (.inl z)
 have v1 : Vis (defScope st) "at" := by
  rcases B.sc.par "at" (by simp) with z | z
  ·exact .inl z
  ·exact .inr (.inl z)
 refine ⟨_,zis (zsb (zub (R:=R) c b B.gl hm (zft (zmp (i:=0) rfl v0) (zft (zyd (zmp (i:=1) rfl v1) la lb) zud)) B.nb rfl rfl (ht _))) (zmm (zto c a (zmp (i:=0) rfl v0) (zmp (i:=1) rfl v1))),?_⟩;obtain ⟨ea,i,rfl,h0,h1,e1,q⟩:=hs;refine ⟨_,rfl,_,rfl,i,rfl,h0,h1,fun t=>⟨ea,t,none,rfl,e1,?_⟩⟩;exact ⟨_,rfl,_,rfl,ea,i,rfl,rfl,e1,fun d od hd ne=>q d od hd ne⟩
end
noncomputable def ItE0 (K:Fg) (a:Addr):It :=
 ⟨fun i H=>∃xs x,SqL K H a xs/\xs[i]?=some x,fun i H y H'=>∃p,H p=none/\y=.ref p/\∀xs x,SqL K H a xs->xs[i]?=some x->H'=upd H p (.tup [.int (i:Int),x]),fun i H=>∃xs,SqL K H a xs/\xs.length<=i⟩
theorem zly {P:Program} {w:World} {K:Fg} {elts:List Expr} {k:Nat} {tpos:Pos} (e it a:Addr) (hei:e≠it) :
  Turn P w K (.Tuple elts k tpos) (ItE0 K a) [e,it] e (fun i h=>(∃old,IsEnum h e it (i:Int) old)/\h.IsListIter it a i) where
 mem:=by simp
 obj:=fun i h st b hb=>by
  obtain ⟨⟨old,he⟩,o,e',c,d⟩:=st;rcases xbn.mp hb with rfl | hb
  ·exact ⟨_,he,fun v z=>nomatch (show Data.fields _=Data.cell v from z)⟩
  ·obtain rfl:b=it:=by simpa using hb
   exact ⟨o,e',fun v z=>by rw[d] at z;cases z⟩
 keep:=fun i h h' st k=>⟨let ⟨old,he⟩:=st.1;⟨old,k e (by simp) _ he⟩,let ⟨o,z,r⟩:=st.2;⟨o,k it (by simp) o z,r⟩⟩
 item:=by
  intro X hP hw hK hc i pins s σ H E I hf st hg;subst hP hw hK;obtain ⟨xs,x,hq,hx⟩:=hg;obtain ⟨⟨old,he⟩,hit⟩:=st;obtain ⟨its,rv,p,hz⟩:=I.list hq;obtain ⟨u,hu,ru⟩:=rv.get hx;refine wpAny_pyNext_enum_item he hit p.isList (x:=u) (by rw[List.getElem?_toArray];exact hu) hei fun h1 ho hit' hT hsz hk=>?_
  refine ⟨_,rfl,wpAny_letOwnedTupleGo_enum ho fun h2 he2 hs2=>?_⟩;obtain ⟨f0,f1,f2,f3,f4,f5⟩:=hf e (by simp);obtain ⟨g0,g1,g2,g3,g4,g5⟩:=hf it (by simp);have hel:e < s.heap.objs.size:=xbk he;have hil:it < s.heap.objs.size:=by obtain ⟨o',ho',_⟩:=hit;exact xbk ho'
  have I1 : Inv X pins σ (upd H s.heap.objs.size (.tup [.int (i : Int), x])) { s with heap := s.heap.push { cls := .type "tuple", data := .seq #[.int (i : Int) s.toks, u] }, toks := s.toks } :=
   I.laid (fun _ _ q=>xbc _ q) (xbg _) ⟨by simp;decide,[.int (i:Int) s.toks,u],.cons ⟨_,rfl⟩ (.cons ru .nil),⟨_,xbz _ rfl,rfl,_,rfl⟩⟩
  have I2:Inv X pins σ (upd H s.heap.objs.size (.tup [.int (i:Int),x])) {s with heap:=h2,toks:=s.toks+1}:=by
   refine Inv.turned2 (s := { s with heap := s.heap.push { cls := .type "tuple", data := .seq #[.int (i : Int) s.toks, u] }, toks := s.toks }) (h' := h2) (t' := s.toks + 1) (e := e) (it := it) I1 (fun b o hbe hbi q => ?_) (by rw [zj (xbt hil)]; exact g0) g1 g3 g4 g5 (by rw [zj (xbt hel)]; exact f0) f1 f3 f4 f5
   rcases Heap.get?_push_cases (show (s.heap.push _).get? b=some o from q) with ⟨z,z2⟩ | z
   ·rw[z,z2];exact (hs2.2 _ (xkj hel)).trans hT
   ·exact (hs2.2 _ hbe).trans (hk b o hbe hbi z)
  refine ⟨.ref s.heap.objs.size,_,I2,rfl,⟨s.heap.objs.size,I.fresh,rfl,fun ys y hy e'=>?_⟩,⟨⟨u,by push_cast;exact he2⟩,?_⟩,fun b hb=>?_⟩
  ·rw[I.list_inj hy hq,hx] at e';cases e'
   rfl
  ·obtain ⟨o,z,r⟩:=hit';exact ⟨o,(hs2.2 it (xeb hei)).trans z,r⟩
  ·rcases xbn.mp hb with rfl | hb
   ·rw[zj (xbt hel)];exact f0
   ·obtain rfl:b=it:=by simpa using hb
    rw[zj (xbt hil)];exact g0
 done:=by
  intro X hP hw hK hc i pins s σ H E I hf st hg;subst hP hw hK;obtain ⟨xs,hq,hx⟩:=hg;obtain ⟨⟨old,he⟩,hit⟩:=st;obtain ⟨its,rv,p,hz⟩:=I.list hq;have hl:=rv.length;obtain ⟨g0,g1,g2,g3,g4,g5⟩:=hf it (by simp);exact wpAny_pyNext_enum_end (I.ok.hd hc) he hit p.isList (by simp;lia) fun h' he'=>⟨rfl,I.turned (t':=s.toks) (fun b o hb e=>he' b o hb e) g0 g1 g3 g4 g5⟩
 self:=fun A i s Q E st h=>let ⟨old,he⟩:=st.1;wpAny_pyIter_enum he h
section
variable {X:Cx}
noncomputable def iEnum0 (K:Fg) (tl:TE):TI:=fun σ H R=>tl σ H fun x H1=>∃a,x=.ref a/\(∃xs,SqL K H1 a xs)/\R (ItE0 K a) H1
theorem ztt {elts : List Expr} {k : Nat} {tpos p pos : Pos} {l : Expr} {tl : TE} (hg : Gl X "enumerate") (hm : X.mg "enumerate" = none) (hl : PE X l tl)
  (he : starEach [l] X.env = [(false, eval l X.env)] := by rfl) : PI X (.Tuple elts k tpos) (.Call (.Name "enumerate" p) [l] [] pos) (iEnum0 X.K tl) := by
 intro pins s σ H R I h;refine xgc (znl I hg hm PyProof.Rows.boot_enumerate ?_);refine xhl (e:=l) (rest:=[]) ?_ he rfl;rw[he];refine xgv (thn (hl pins s σ H _ I h) fun v s1 hq0=>?_);obtain ⟨x,H1,I1,r1,q1⟩:=hq0;refine xir ?_;obtain ⟨a,rfl,⟨xs,hq⟩,q⟩:=q1;cases r1;obtain ⟨its,rv,pp,hz⟩:=I1.list hq;refine call_enumerate_list pp.isList fun h' he' hit hsz hk=>?_
 refine wpAny_pyIter_enum he' ?_;have I3:=I1.kept (h':=h') (t':=s1.toks) hk;refine ⟨s1.heap.objs.size+1,[s1.heap.objs.size+1,s1.heap.objs.size],_,_,H1,rfl,I3,zly _ s1.heap.objs.size a (Nat.succ_ne_self _),⟨⟨_,he'⟩,hit⟩,fun b hb=>?_,q⟩;have hb':s1.heap.objs.size<=b:=by
  have hb2:b=s1.heap.objs.size+1\/b=s1.heap.objs.size:=by simpa using hb
  cases hb2 with
  | inl z=>exact z ▸ xjs _
  | inr z=>exact z ▸ xbg _
 exact I1.fpOk hb' (I1.hok.fresh hb')
end
theorem zzq {K : Fg} {C : Addr} {od : Obj} {v : Value} {cd : ClassData} (hc : PySem.W.clsIn K C = some cd) (hd : cd.hasDict = true) (n : PySem.W.findIn K (.ref C) "at" = some none) (e : PySem.W.lookIn "at" od = some (some v)) : PySem.W.findObj K C (some od) "at" = some (.value v) := by
 unfold PySem.W.findObj PySem.W.ownOf;rw[hc,Option.bind_some,n,Option.bind_some];simp[hd,e]
theorem zbed {K:Fg} {prog:Program} {w:World} {A:Around} {E:Value->Shared->Prop} {s:Shared} {x D:Addr} {ox od:Obj} {cd:ClassData} {v:Value} {ex:Bool} {Q:Value->Shared->Prop} (X:K.In s.heap) (I:PySem.W.InstAt s.heap x ox D (some od))
  (L : ErrLook K D) (hc : PySem.W.clsIn K D = some cd) (hd : cd.hasDict = true) (n : PySem.W.findIn K (.ref D) "at" = some none) (e : PySem.W.lookIn "at" od = some (some v)) (hv : PySem.W.handedIn v = true) (h : Q v { s with toks := s.toks + 1 }) : wpAny (model prog w) A (getAttr (.ref x) "at" ex) Q E s := by
 obtain ⟨hh,g,d,t,os⟩:=s;have L0:=I.type (M:=model prog w);have L1:=xhr (M:=model prog w) X L.ga;have L2:=xhr (M:=model prog w) X L.gt;have L3:=PySem.W.looks_find (M:=model prog w) X I (zzq hc hd n e);have hx2 : (Value.builtin "BaseException.__getattribute__" == Value.builtin "object.__getattribute__") = false := by decide +kernel
 unfold getAttr getAttrBy;refine xba (wpAny_mkText (xdx (xba (L0.at (xba (L1.at ?_))))));dsimp only;rw[hx2,Bool.and_false,if_neg (by decide)];unfold getAttrByItsOwn;refine xba (show wpAny _ _ (typeLookup (.ref D) "__getattr__") _ _ _ from L2.at ?_)
 refine xba (xkc (xdx ?_));unfold callGetattribute;rw [show (ex && onTheHeap (Value.builtin "BaseException.__getattribute__")) = false from Bool.and_false _, if_neg (by decide)]
 unfold boundAndCalled;rw[xkb.ga.bind];refine xba (xbd ?_);refine xjn (xjp xkb.ga.plain PySem.F.entry_bexc_ga (zvs (s:=⟨hh,g,d,t+1,os⟩) X I L.mb ?_));unfold Builtin.«object.__getattribute__»;refine xba (xbd (xba (xbd (xba (L0.at (xba (L3.at ?_)))))));refine xbd ?_;exact PySem.W.handed_on hv h
section
variable {X:Cx} {e:Expr} {pos:Pos} {te:TE}
noncomputable def tAt (X : Cx) (te : TE) : TE := fun σ H Q => te σ H fun x H1 => ∃ a o C i dx od, x = .ref a /\ H1 a = some (.frz o (.ext fun _ => True)) /\ o.cls = .ref C /\ (∃ vs, o.data = .fields vs) /\ o.dict = some dx /\ H1 dx = some (.frz od (.xd [("at", .int i)])) /\ (∃ f, InitCls X.K C f) /\ AtCls X.K C /\ ErrLook X.K C /\ Q (.int i) H1
theorem zbho (he : PE X e te) (hb : attributeBase e "at" X.env (eval e X.env) = eval e X.env := by rfl) : PE X (.Attribute e "at" pos) (tAt X te) := by
 intro pins s σ H Q I h;refine zbbk hb (thn (he pins s σ H _ I h) fun u s1 hq0=>?_);obtain ⟨x,H1,I1,rx,a,o,C,i,dx,od,ex,e1,e2,e3,e4,e5,e6,e7,e8,q⟩:=hq0;subst ex;obtain rfl:u=Value.ref a:=rx;obtain ⟨f,ic⟩:=e6;obtain ⟨nm,qn,N,bs,tl,sn,sub,ab,col,dd,k0,k1,k2,k3,k5,lC,tC⟩:=ic.obj;obtain ⟨g1,mA,⟨oD,es,ep,g2,g3,g4,g5,g6⟩,g7⟩:=I1.hok dx _ e5;have ho:od=oD:=by rw[g1] at g2;exact xbw g2
 subst ho;have ra := g7 "at"
 have lk : List.lookup ("at" : Str) [(("at" : Str), V.int i)] = some (.int i) := by rw [xdr, xfb]
 rw[lk] at ra;obtain ⟨v, hv, tk, rfl⟩ : ∃ v, mA "at" = some v /\ ∃ tk, v = Value.int i tk := by
  cases hm : mA "at" with
  | none=>rw[hm] at ra;exact ra.elim
  | some v=>rw[hm] at ra;exact ⟨v,rfl,ra⟩
 have lo : PySem.W.lookIn "at" od = some (some (.int i tk)) := by
  have z := g6 "at"
  rw[hv] at z;unfold nsFind findBy at z;obtain ⟨en,z1,z2⟩:=xcv.mp z;rw[← Array.find?_toList] at z1;unfold PySem.W.lookIn;rw[g3];dsimp only;rw[z1];dsimp only;rw[z2]
 obtain ⟨cd,cl,hdc⟩:∃cd,PySem.W.clsIn X.K C=some cd/\cd.hasDict=true:=by
  unfold PySem.W.clsIn;rw[lC];exact ⟨_,rfl,rfl⟩
 obtain ⟨vs,e3⟩:=e3;exact zbed I1.kIn ⟨(I1.hok a _ e1).1,e2,by unfold PySem.W.notCls;rw[e3],by rw[e4];exact g1⟩ e8 cl hdc e7.at_ lo rfl ⟨.int i,H1,I1.tok _,⟨_,rfl⟩,q⟩
end
noncomputable def WishM (X:Cx) (R:St->Value->Option Addr->Hp->Prop):Prop:=∀(pins:List (Addr × Obj)) (τ:St) (H:Hp) (ea C:Addr) (dx:Option Addr) (s:Shared),Inv X pins τ (upd H ea HX) s->H ea=none->Rec s.heap ea (.ref C) dx .none->R τ (.ref C) dx H->X.xe (.ref ea) s
section
variable {P:Program} {w:World} {K:Fg} {mg:Str->Option Value} {base:Heap} {N:List Str} {qual:Str} {scope:Scope} {f:Addr} {cd:Value} {A:Around} {outer:List Env} {s₀:Shared} {H₀:Hp} {E:XK}
theorem zta:WishM (cxOf (CX1 P w) P w K mg base N qual scope f cd A outer s₀ H₀ E) (fun _ c dx H=>E c dx H):=by
 intro pins τ H ea C dx s I ne r hE;show wpAny _ _ (leaving _ _) _ _ s;unfold leaving;refine xba (znb (base:=base) I.ok.frames I.stack rfl r fun h1 m1 r1 t1=>?_);have oe:∃o,s.heap.get? ea=some o:=by obtain ⟨_,_,q,_⟩:=r;exact ⟨_,q⟩
 have ne1:s.heap.objs.size≠ea:=by
  obtain ⟨_,q⟩:=oe;exact xeb (xbt (xbk q))
 have nT:s.heap.get? s.heap.objs.size=none:=xfg (xbg _);refine zex (fs:=frs (cxOf (CX1 P w) P w K mg base N qual scope f cd A outer s₀ H₀ E).stack) r1 t1 ne1 fun h2 m2 r2 t2=>?_
 have nt:∀b o,s.heap.get? b=some o->b∉[s.heap.objs.size]:=fun b o q z=>by
  rw[xbl] at z;subst z;rw[nT] at q;cases q
 have off:∀b,upd H ea HX b≠some HX->b∉[ea]:=fun b h z=>by
  rw[xbl] at z;subst z;exact h zf
 have I2:=I.flew (h':=h2) (H:=H) (ea:=ea) (T:=s.heap.objs.size) (fun b=>by
   by_cases hb:b=ea
   ·subst hb;exact .inr ⟨zf,ne⟩
   ·exact .inl (zj hb)) (fun b hb=>by
   rcases hb with rfl | rfl
   ·exact .inr zf
   ·exact .inl nT) (fun b o hb hf q=>m2.keep b o (nt b o q) hf (m1.keep b o (off b hb) hf q)) (fun b o hb hf q=>by
   obtain ⟨sl,q1⟩:=m1.slot b o (off b hb) hf q;obtain ⟨sl2,q2⟩:=m2.slot b _ (nt b o q) hf q1;exact ⟨sl2,q2⟩) (fun b o q=>by
   have q1:∃o',h1.get? b=some o':=by
    by_cases hb:b∈[ea]
    ·rw[xbl] at hb;subst hb
     obtain ⟨_,_,y,_⟩:=r1;exact ⟨_,y⟩
    ·by_cases hf:b∈frs (cxOf (CX1 P w) P w K mg base N qual scope f cd A outer s₀ H₀ E).stack
     ·obtain ⟨sl,q1⟩:=m1.slot b o hb hf q;exact ⟨_,q1⟩
     ·exact ⟨_,m1.keep b o hb hf q⟩
   obtain ⟨o1,q1⟩:=q1;by_cases hf:b∈frs (cxOf (CX1 P w) P w K mg base N qual scope f cd A outer s₀ H₀ E).stack
   ·obtain ⟨sl,q2⟩:=m2.slot b _ (nt b o q) hf q1;exact ⟨_,q2⟩
   ·exact ⟨_,m2.keep b _ (nt b o q) hf q1⟩) (by obtain ⟨_,_,y,_⟩:=r2;exact ⟨_,y⟩) (by obtain ⟨_,_,y,_⟩:=t2;exact ⟨_,y⟩)
 have fT:H s.heap.objs.size=none:=by
  have:upd H ea HX s.heap.objs.size=none:=I.fresh;rw[zj ne1] at this;exact this
 exact ⟨ea,s.heap.objs.size,C,dx,H,rfl,I2.os,I2.bare,I2.base,I2.hok,⟨r2,t2,ne1,ne,fT⟩,hE⟩
end
end L2
namespace Dd
open PySem L2 PyProof.Rows
structure ErrInit (K:Fg) (x:Str) (C:Addr):Prop where
 ns:PySem.W.nsIn K mainGlobals x=some (some (.ref C))
 kp:PySem.W.keepIn K (.ref C)=true
 at_:AtCls K C
 fn : ∃ fI fd qual st xR R, InitCls K C fI /\ Fun K "__init__" qual st fI fd /\ InitBody st xR /\ PySem.W.nsIn K mainGlobals xR = some (some (.ref R)) /\ BaseInit K R
noncomputable def sRaiseI (x:Str) (g:SA):SS:=fun σ st=>(g σ st).bind fun xs st1=>match xs with
 | [.int i]=>if 0<=i/\i<=1000 then .exc ⟨x,[i]⟩ st1 else .stuck
 | _=>.stuck
section
variable {X:Cx} {R:RXT} {e:Expr} {es:List Expr} {f:SE} {g:SA} {sm:Stmt} {rest body:List Stmt} {s t:SS} {pos p:Pos} {x:Str}
theorem zns {C : Addr} {np cpos : Pos} (hw : WishM X R) (hx : ErrInit X.K x C) (hr : Room 2 X.A) (hc : X.calm = true) (hg : Gl X x) (ha : JA X (e :: es) g) (hd : (x == ("__debug__" : Str)) = false := by decide) (he : starEach (e :: es) X.env = (false, eval e X.env) :: starEach es X.env := by rfl)
  (hpl:(backTo cpos (starEach es X.env)).any (·.1)=false:=by rfl):JXS X R (.Raise (some (.Call (.Name x np) (e::es) [] cpos)) none pos) (sRaiseI x (noX g)):=by
 refine ⟨fun pins s τ H E I ⟨ρ,σ,st,a,rp,q⟩=>?_⟩;obtain ⟨i,st1,e1,h0,h1,q⟩:∃i st1,g σ st=.ok [.int i] st1/\0<=i/\i<=1000/\XOk X.K ρ H st1 ⟨x,[i]⟩ (R τ):=by
  rcases q with ⟨fl,st',e1,q⟩ | ⟨y,st',e1,q⟩
  ·obtain ⟨v,st1,e2,e3⟩:=zb e1;split at e3
   ·split at e3<;>cases e3
   ·cases e3
  ·obtain ⟨v,st1,e2,e3⟩:=zcy e1;split at e3
   ·split at e3
    ·rename_i hi;cases e3;exact ⟨_,_,e2,hi.1,hi.2,q⟩
    ·cases e3
   ·cases e3
 obtain ⟨fI,fd,qual,st0,xR,Rb,ic,fn,ib,nR,bi⟩:=hx.fn;have mR:X.mg xR=some (.ref Rb):=xfq I.mod.kin I.mod.glob nR;have mC:X.mg x=some (.ref C):=xfq I.mod.kin I.mod.glob hx.ns;refine zpt ic hc (ztw ic hx.kp (zzj (P:=X.prog) (w:=X.w) (mg:=X.mg) (base:=X.base) fn ib ic hx.at_ bi mR) hr hg mC (fn.binds (ib.bd qual)) ha.out hd he hpl) I
  ⟨ρ,σ,st,[.int i],st1,a,rp,e1,fun ρ1 H1 u x1 rp1 a1=>?_⟩
 obtain ⟨v,rfl,a2⟩:=a1.one;cases a2;refine ⟨by simp[xef],fun ea hea=>⟨ea,i,rfl,h0,h1,zf,fun d od hdn hde=>⟨rfl,ea,some d,rfl,zf,fun s1 I1=>?_⟩⟩⟩;have hd1:H1 d=none:=by rw[zj hde] at hdn;exact hdn
 have hH : upd (upd (upd H1 ea (.ext (Fresh ea C none))) d (.frz od (.xd [("at", .int i)]))) ea (.ext (Fresh ea C (some d))) = upd (upd H1 d (.frz od (.xd [("at", .int i)]))) ea (.ext (Fresh ea C (some d))) := by
  funext b
  by_cases hb:b=ea
  ·rw[hb,zf,zf]
  ·rw[zj hb,zj hb];by_cases hb2:b=d
   ·rw[hb2,zf,zf]
   ·rw[zj hb2,zj hb2,zj hb]
 rw[hH] at I1;have n3 : upd H1 d (.frz od (.xd [("at", .int i)])) ea = none := by rw [zj hde.symm]; exact hea
 have fr:Fresh ea C (some d) s1.heap:=(I1.hok ea _ zf).1;have I2:=I1.poke (ea:=ea) (ψ:=fun _=>True) (g:=s1.heap) (t':=s1.toks) zf (fun _ _ _ z=>z) (zzk (by obtain ⟨oe,_,z,_⟩:=fr;exact ⟨oe,z⟩));rw[zrt] at I2;obtain ⟨oe,v0,f1,f2,f3,f4⟩:=fr;refine hw pins τ _ ea C (some d) s1 I2 n3 ⟨oe,_,f1,f2,f3,f4,rfl,rfl⟩ (q ρ1 _ C (some d) (x1.trans (Ext.new hd1 _)) (rp1.new hd1 _) ⟨hx.ns,.inr ⟨i,d,od,rfl,rfl,zf,zdj rp1 hd1⟩⟩)
end
noncomputable def forG (G:Store->Prop) (bd:SG) (body:SS):List D->SS
 | [],σ,st=>@ite (Res Fl) (G st) (Classical.propDecidable _) (.ok (.nx σ) st) .stuck
 | x::xs,σ,st=>@ite (Res Fl) (G st) (Classical.propDecidable _) (match bd x σ with
  | none=>.stuck
  | some σ1=>match body σ1 st with
   | .ok (.nx σ2) st2=>forG G bd body xs σ2 st2
   | .ok (.ct σ2) st2=>forG G bd body xs σ2 st2
   | .ok (.brk σ2) st2=>.ok (.nx σ2) st2
   | r=>r) .stuck
noncomputable def LsIs (n:Nat) (xs:List D) (st:Store):Prop:=st[n]?=some (.lst xs)
noncomputable def sForA (en:Bool) (f:SE) (bd:SG) (body:SS):SS:=fun σ st=>(f σ st).bind fun x st1=>match x with
 | .ref n=>(match st1[n]? with
  | some (.lst xs)=>forG (LsIs n xs) bd body (if en then numF 0 xs else xs) σ st1
  | _=>.stuck)
 | .lst xs=>forG (fun _=>True) bd body (if en then numF 0 xs else xs) σ st1
 | .tup xs=>if en then .stuck else forG (fun _=>True) bd body xs σ st1
 | _=>.stuck
structure TurnG (K:Fg) (ρ:Loc) (H:Hp) (G:Store->Prop) (J:It) (xs:List D):Prop where
 item:∀ρ2 H2 st2,Ext ρ H ρ2 H2->Rep K ρ2 st2 H2->G st2->∀(i:Nat) (x:D),xs[i]?=some x->J.go i H2/\∀y H3,J.yld i H2 y H3->Ext ρ2 H2 ρ2 H3/\Rep K ρ2 st2 H3/\At K ρ2 H3 x y
 done:∀ρ2 H2 st2,Ext ρ H ρ2 H2->Rep K ρ2 st2 H2->G st2->∀i:Nat,xs.length<=i->J.stop i H2
section
variable {X:Cx} {R:RXT} {e:Expr} {es:List Expr} {f:SE} {g:SA} {sm:Stmt} {rest body:List Stmt} {s t:SS} {pos p:Pos} {x:Str}
theorem loopG {K:Fg} {ρ1:Loc} {H1:Hp} {E:Ends} {τ:L2.St} {G:Store->Prop} {J:It} {xs:List D} {bd:SG} {b:SS} {σ:DS} {st1:Store} (hR:Cst R) (T:TurnG K ρ1 H1 G J xs) (a:AtS K ρ1 H1 σ τ) (rp:Rep K ρ1 st1 H1) (q:EndX K ρ1 H1 E (R τ) (forG G bd b xs σ st1)) :
  ∃W:Nat->Nat->L2.St->Hp->Prop,(∃m,W 0 m τ H1)/\∀i m σ H,W i m σ H->(J.stop i H/\E.nx σ H)\/(J.go i H/\∃N:L2.St->Hp->Prop,(∀σ' H',N σ' H'->∃m',m' < m/\W (i+1) m' σ' H')/\∀x H',J.yld i H x H'->gD K bd x σ H' fun σ2 H2=>tXS K R b {E with nx:=N,ct:=N,bk:=E.nx} σ2 H2):=by
 refine ⟨fun i m τ' H'=>i+m=xs.length/\∃ρ2 σ2 st2,Ext ρ1 H1 ρ2 H'/\AtS K ρ2 H' σ2 τ'/\Rep K ρ2 st2 H'/\EndX K ρ1 H1 E (R τ) (forG G bd b (xs.drop i) σ2 st2),⟨xs.length,by lia,ρ1,σ,st1,.refl _ _,a,rp,q⟩,?_⟩;rintro i m τ' H' ⟨him,ρ2,σ2,st2,x2,a2,rp2,e2⟩;have hG:G st2:=by
  by_cases h:G st2
  ·exact h
  ·generalize xs.drop i=ys at e2;cases ys<;>(unfold forG at e2;rw[if_neg h] at e2;exact e2.stuck.elim)
 rcases xex i xs.length with hlt | hge
 ·obtain ⟨x,hx,hd⟩:=zgc hlt;rw[hd] at e2;obtain ⟨go,yl⟩:=T.item ρ2 H' st2 x2 rp2 hG i x hx;refine .inr ⟨go,fun τ3 H3=>∃ρ3 σ3 st3,Ext ρ1 H1 ρ3 H3/\AtS K ρ3 H3 σ3 τ3/\Rep K ρ3 st3 H3/\EndX K ρ1 H1 E (R τ) (forG G bd b (xs.drop (i+1)) σ3 st3),fun τ3 H3 ⟨ρ3,σ3,st3,n1,n2,n3,n4⟩=>⟨m - 1,by lia,by lia,ρ3,σ3,st3,n1,n2,n3,n4⟩,fun y H3 hy=>?_⟩;obtain ⟨y1,y2,y3⟩:=yl y H3 hy;unfold forG at e2;rw[if_pos hG] at e2;cases hbd:bd x σ2 with
  | none=>rw[hbd] at e2;exact e2.stuck.elim
  | some σ1 =>
   rw[hbd] at e2;dsimp only at e2;have X3:=x2.trans y1;refine ⟨ρ2,σ2,x,σ1,a2.ext y1,y3,hbd,fun τ4 a4=>⟨ρ2,σ1,st2,a4,y2,?_⟩⟩;cases hr:b σ1 st2 with
   | stuck=>rw[hr] at e2;exact e2.stuck.elim
   | exc z w =>
    rw[hr] at e2;exact .inr ⟨z,w,rfl,by rw[hR τ4 τ];exact e2.excE.ext X3⟩
   | ok fb st3 =>
    rw[hr] at e2;refine .inl ⟨fb,st3,rfl,?_⟩;cases fb with
    | nx σ3=>exact fun ρ' H'' τ5 x5 rp5 a5=>⟨ρ',σ3,st3,X3.trans x5,a5,rp5,e2⟩
    | ct σ3=>exact fun ρ' H'' τ5 x5 rp5 a5=>⟨ρ',σ3,st3,X3.trans x5,a5,rp5,e2⟩
    | brk σ3=>exact fun ρ' H'' τ5 x5 rp5 a5=>e2.okE _ _ _ (X3.trans x5) rp5 a5
    | ret v=>exact fun ρ' H'' u x5 rp5 a5=>e2.okE _ _ _ (X3.trans x5) rp5 a5
 ·rw[xdu hge] at e2;unfold forG at e2;rw[if_pos hG] at e2;exact .inl ⟨T.done ρ2 H' st2 x2 rp2 hG i hge,e2.okE _ _ _ x2 rp2 a2⟩
theorem zbgp {K:Fg} {ρ ρ2:Loc} {H H2:Hp} {n:Nat} {p:Addr} {xs:List D} {st2:Store} (hp:ρ.m[n]?=some (some p)) (x:Ext ρ H ρ2 H2) (rp:Rep K ρ2 st2 H2) (h:LsIs n xs st2):∃vs,H2 p=some (.lst vs)/\AtAll K ρ2 H2 xs vs:=by
 obtain ⟨p',hp'⟩:=rp.live n _ h (by intro z;cases z);have:=x.old n p' (xbo.mp hp).1 hp';rw[hp] at this;cases this;exact rp.obj n p _ hp' h
theorem zru {K:Fg} {ρ:Loc} {H:Hp} {G:Store->Prop} {p:Addr} {xs:List D} (h:∀ρ2 H2 st2,Ext ρ H ρ2 H2->Rep K ρ2 st2 H2->G st2->∃vs,SqL K H2 p vs/\AtAll K ρ2 H2 xs vs):TurnG K ρ H G (Itl K p) xs where
 item:=fun ρ2 H2 st2 x rp hg i d e=>by
  obtain ⟨vs,h1,h2⟩:=h ρ2 H2 st2 x rp hg;obtain ⟨v,hv,a⟩:=h2.get e;refine ⟨⟨vs,v,h1,hv⟩,fun y H3 hy=>?_⟩;obtain ⟨rfl,hy⟩:=hy;have:=hy vs h1;rw[hv] at this;cases this;exact ⟨.refl _ _,rp,a⟩
 done:=fun ρ2 H2 st2 x rp hg i hi=>by
  obtain ⟨vs,h1,h2⟩:=h ρ2 H2 st2 x rp hg;exact ⟨vs,h1,by rw[h2.length];exact hi⟩
theorem zrv {K:Fg} {ρ:Loc} {H:Hp} {G:Store->Prop} {p:Addr} {xs:List D} (h:∀ρ2 H2 st2,Ext ρ H ρ2 H2->Rep K ρ2 st2 H2->G st2->∃vs,SqL K H2 p vs/\AtAll K ρ2 H2 xs vs):TurnG K ρ H G (ItE0 K p) (numF 0 xs) where
 item:=fun ρ2 H2 st2 x rp hg i d e=>by
  obtain ⟨vs,h1,h2⟩:=h ρ2 H2 st2 x rp hg;obtain ⟨z,hz,rfl⟩:=zmz e;obtain ⟨v,hv,a⟩:=h2.get hz;refine ⟨⟨vs,v,h1,hv⟩,fun y H3 hy=>?_⟩;obtain ⟨q,hq,rfl,hy⟩:=hy;obtain rfl:=hy vs v h1 hv;refine ⟨Ext.new hq _,rp.new hq _,?_⟩;rw[xkm];exact .newT rp hq (.cons (.int _) (.cons a .nil))
 done:=fun ρ2 H2 st2 x rp hg i hi=>by
  obtain ⟨vs,h1,h2⟩:=h ρ2 H2 st2 x rp hg;rw[zdw] at hi;exact ⟨vs,h1,by rw[h2.length];exact hi⟩
theorem zxb {K:Fg} {ρ:Loc} {H:Hp} {p:Addr} {xs:List D} {vs:List V} (h1:H p=some (.tup vs)) (h2:Out ρ p) (h3:AtAll K ρ H xs vs):TurnG K ρ H (fun _=>True) (Itt K p) xs where
 item:=fun ρ2 H2 st2 x rp hg i d e=>by
  obtain ⟨v,hv,a⟩:=(h3.ext x).get e;have sq:SqT K H2 p vs:=SqT.of (x.out h1 h2).1;refine ⟨⟨vs,v,sq,hv⟩,fun y H3 hy=>?_⟩;obtain ⟨rfl,hy⟩:=hy;have:=hy vs sq;rw[hv] at this;cases this;exact ⟨.refl _ _,rp,a⟩
 done:=fun ρ2 H2 st2 x rp hg i hi=>⟨vs,SqT.of (x.out h1 h2).1,by rw[h3.length];exact hi⟩
theorem zva {tg iter:Expr} {bd:SG} {b:SS} (hR:Cst R) (hp:PassesOwn (model X.prog X.w) X.A X.env X.xe) (hc:X.calm=true) (hl:JE X iter f) (hg:JG X tg bd) (hb:JXB X R body b) (hs:∀x,foldedSetIterable iter X.env x=pure x:=by intro _;rfl) :
  JXS X R (.For tg iter body [] pos) (sForA false (noX f) bd b):=⟨zif (ztp hp hc (zbgk (zsc hl.out) (zxw hl.out)) hg.out hb.out hs) fun E τ H hq0=>by
 obtain ⟨ρ,σ,st,a,rp,q⟩:=hq0
 obtain ⟨x,st1,e1,q⟩:∃x st1,f σ st=.ok x st1/\EndX X.K ρ H E (R τ) (match x with
  | .ref n=>(match st1[n]? with
   | some (.lst xs)=>forG (LsIs n xs) bd b xs σ st1
   | _=>.stuck)
  | .lst xs=>forG (fun _=>True) bd b xs σ st1
  | .tup xs=>forG (fun _=>True) bd b xs σ st1
  | _=>.stuck):=by
  rcases q with ⟨fl,st',e1,q⟩ | ⟨y,st',e1,q⟩
  ·obtain ⟨v,st1,e2,e3⟩:=zb e1;exact ⟨v,st1,zja e2,.inl ⟨fl,st',e3,q⟩⟩
  ·obtain ⟨v,st1,e2,e3⟩:=zcy e1;exact ⟨v,st1,e2,.inr ⟨y,st',e3,q⟩⟩
 cases x with
 | ref n =>
  refine .inl ⟨ρ,σ,st,_,_,a,rp,e1,fun ρ1 H1 u x1 rp1 a1=>?_⟩;dsimp only at q;split at q
  ·rename_i xs hn;obtain ⟨p,rfl,hpn,vs,k1,k2⟩:=zdi rp1 a1 hn (by intro z;cases z);exact ⟨p,rfl,⟨vs,SqL.of k1⟩,loopG hR (zru fun ρ2 H2 st2 x2 rp2 hg=>let ⟨ws,w1,w2⟩:=zbgp hpn x2 rp2 hg;⟨ws,SqL.of w1,w2⟩) (a.ext x1) rp1 (q.ext x1)⟩
  ·exact q.stuck.elim
 | lst xs =>
  refine .inl ⟨ρ,σ,st,_,_,a,rp,e1,fun ρ1 H1 u x1 rp1 a1=>?_⟩;cases a1 with
  | lst h1 h2 h3=>exact ⟨_,rfl,⟨_,SqL.of h1⟩,loopG hR (zru fun ρ2 H2 st2 x2 rp2 _=>⟨_,SqL.of (x2.out h1 h2).1,h3.ext x2⟩) (a.ext x1) rp1 (q.ext x1)⟩
 | tup xs =>
  refine .inr ⟨ρ,σ,st,_,_,a,rp,e1,fun ρ1 H1 u x1 rp1 a1=>?_⟩;cases a1 with
  | tup h1 h2 h3=>exact ⟨_,rfl,⟨_,SqT.of h1⟩,loopG hR (zxb h1 h2 h3) (a.ext x1) rp1 (q.ext x1)⟩
 | _=>exact q.stuck.elim⟩
theorem zuz {elts : List Expr} {k : Nat} {tpos p2 pos2 : Pos} {l : Expr} {bd : SG} {b : SS} (hR : Cst R) (hp : PassesOwn (model X.prog X.w) X.A X.env X.xe) (hc : X.calm = true) (hge : Gl X "enumerate") (hme : X.mg "enumerate" = none) (hl : JE X l f) (hg : JG X (.Tuple elts k tpos) bd) (hb : JXB X R body b)
  (he : starEach [l] X.env = [(false, eval l X.env)] := by rfl) (hs : ∀ x, foldedSetIterable (.Call (.Name "enumerate" p2) [l] [] pos2) X.env x = pure x := by intro _; rfl) :
  JXS X R (.For (.Tuple elts k tpos) (.Call (.Name "enumerate" p2) [l] [] pos2) body [] pos) (sForA true (noX f) bd b) := ⟨zif (ztp hp hc (ztt hge hme hl.out he) hg.out hb.out hs) fun E τ H hq0 => by
 obtain ⟨ρ,σ,st,a,rp,q⟩:=hq0
 obtain ⟨x,st1,e1,q⟩:∃x st1,f σ st=.ok x st1/\EndX X.K ρ H E (R τ) (match x with
  | .ref n=>(match st1[n]? with
   | some (.lst xs)=>forG (LsIs n xs) bd b (numF 0 xs) σ st1
   | _=>.stuck)
  | .lst xs=>forG (fun _=>True) bd b (numF 0 xs) σ st1
  | .tup xs=>.stuck
  | _=>.stuck):=by
  rcases q with ⟨fl,st',e1,q⟩ | ⟨y,st',e1,q⟩
  ·obtain ⟨v,st1,e2,e3⟩:=zb e1;exact ⟨v,st1,zja e2,.inl ⟨fl,st',e3,q⟩⟩
  ·obtain ⟨v,st1,e2,e3⟩:=zcy e1;exact ⟨v,st1,e2,.inr ⟨y,st',e3,q⟩⟩
 refine ⟨ρ,σ,st,_,_,a,rp,e1,fun ρ1 H1 u x1 rp1 a1=>?_⟩;cases x with
 | ref n =>
  dsimp only at q;split at q
  ·rename_i xs hn;obtain ⟨p,rfl,hpn,vs,k1,k2⟩:=zdi rp1 a1 hn (by intro z;cases z);exact ⟨p,rfl,⟨vs,SqL.of k1⟩,loopG hR (zrv fun ρ2 H2 st2 x2 rp2 hg=>let ⟨ws,w1,w2⟩:=zbgp hpn x2 rp2 hg;⟨ws,SqL.of w1,w2⟩) (a.ext x1) rp1 (q.ext x1)⟩
  ·exact q.stuck.elim
 | lst xs =>
  cases a1 with
  | lst h1 h2 h3=>exact ⟨_,rfl,⟨_,SqL.of h1⟩,loopG hR (zrv fun ρ2 H2 st2 x2 rp2 _=>⟨_,SqL.of (x2.out h1 h2).1,h3.ext x2⟩) (a.ext x1) rp1 (q.ext x1)⟩
 | _=>exact q.stuck.elim⟩
theorem zbhx (h:JXS X R sm s):JS X sm s:=⟨zif h.out fun E τ H ⟨ρ,σ,st,fl,st',a,rp,e,q⟩=>⟨ρ,σ,st,a,rp,.inl ⟨fl,st',e,q⟩⟩⟩
theorem zve {tg iter:Expr} {bd:SG} {b:SS} (hp:PassesOwn (model X.prog X.w) X.A X.env X.xe) (hc:X.calm=true) (hl:JE X iter f) (hg:JG X tg bd) (hb:JB X body b) (hs:∀x,foldedSetIterable iter X.env x=pure x:=by intro _;rfl) :
 JS X (.For tg iter body [] pos) (sForA false (noX f) bd (noX b)):=zbhx (R:=fun _ _ _ _=>False) (zva (fun _ _=>rfl) hp hc hl hg (znr hb) hs)
theorem zzt {x1} (he:JX X R e f) (ha:JA X es g) (hst:starEach (e::es) X.env=(false,eval e X.env)::starEach es X.env:=by rfl):JX X R (.Tuple (e::es) x1 pos) (eTup (aCons f (noX g))):=⟨zed (zyb (zft he.out ha.out hst)) fun τ H Q hq0=>by
 obtain ⟨ρ,σ,st,a,rp,q⟩:=hq0;refine ⟨ρ,σ,st,a,rp,?_⟩;cases ef:f σ st with
 | stuck=>rcases q with ⟨v,st',e1,_⟩ | ⟨y,st',e1,_⟩<;>(unfold eTup aCons at e1;rw[ef] at e1;cases e1)
 | exc y w =>
  rcases q with ⟨v,st',e1,_⟩ | ⟨y',st',e1,q⟩
  ·unfold eTup aCons at e1;rw[ef] at e1;cases e1
  ·unfold eTup aCons at e1;rw[ef] at e1;cases e1;exact .inr ⟨_,_,rfl,q⟩
 | ok v1 st1 =>
  obtain ⟨vs,st2,e2,hl,q⟩:∃vs st2,g σ st1=.ok vs st2/\(v1::vs).length<=sizeLine/\∀ρ' H' u,Ext ρ H ρ' H'->Rep X.K ρ' st2 H'->At X.K ρ' H' (.tup (v1::vs)) u->Q u H':=by
   rcases q with ⟨v,st',e1,q⟩ | ⟨y,st',e1,_⟩
   ·unfold eTup aCons at e1;rw[ef] at e1;obtain ⟨ws,st3,e3,e4⟩:=zb e1;obtain ⟨us,st4,e5,e6⟩:=zb (show (noX g σ st1).bind _=_ from e3);cases e6;split at e4
    ·rename_i hz;cases e4;exact ⟨us,_,zja e5,hz,q⟩
    ·cases e4
   ·unfold eTup aCons at e1;rw[ef] at e1;cases en:noX g σ st1 with
    | stuck=>simp only[zdc,en,zoj] at e1;cases e1
    | exc y' w'=>exact (znd en).elim
    | ok us st4 =>
     simp only[zdc,en] at e1;split at e1<;>cases e1
  refine .inl ⟨v1,st1,rfl,fun ρ1 H1 u x1 rp1 a1=>⟨ρ1,σ,st1,vs,st2,a.ext x1,rp1,e2,fun ρ2 H2 us x2 rp2 a2=>⟨?_,fun p hp=>?_⟩⟩⟩
  ·rw[xby,a2.length];exact hl
  ·exact q ρ2 _ _ ((x1.trans x2).trans (Ext.new hp _)) (rp2.new hp _) (.newT rp2 hp (.cons (a1.ext x2) a2))⟩
noncomputable def eAt (i:Nat) (cs:List Str):SE:=fun σ st=>match σ[i]? with
 | some (some (.exn c [n]))=>if c∈cs then .ok (.int n) st else .stuck
 | _=>.stuck
noncomputable def AtHas (K:Fg) (C:Addr):Prop:=(∃f,InitCls K C f)/\AtCls K C/\ErrLook K C
theorem zbis {n : Str} {i : Nat} {cs : List Str} {p1 : Pos} (hv : PE X (.Name n p1) (tVar i)) (hk : ∀ c ∈ cs, ∀ C, PySem.W.nsIn X.K mainGlobals c = some (some (.ref C)) -> AtHas X.K C) (hb : attributeBase (.Name n p1) "at" X.env (eval (.Name n p1) X.env) = eval (.Name n p1) X.env := by rfl) :
  JE X (.Attribute (.Name n p1) "at" pos) (eAt i cs) := ⟨zed (zbho hv hb) fun τ H Q hq0 => by
 obtain ⟨ρ,σ,st,v,st',a,rp,e,q⟩:=hq0;unfold eAt at e;split at e
 ·next c m hi =>
  split at e
  ·next hc =>
   cases e;obtain ⟨u,h1,h2⟩:=a.get hi;cases h2 with
   | exn h2 =>
    obtain ⟨C,o,h3,h4,h5,⟨vs,h6,_⟩,h7⟩:=h2;rcases h7 with ⟨z,_⟩ | ⟨j,dx,od,z,z2,z3,z4⟩
    ·cases z
    ·cases z;obtain ⟨k1,k2,k3⟩:=hk c hc C h3;exact ⟨_,h1,_,o,C,m,dx,od,rfl,h4.1,h5,⟨vs,h6⟩,z2,z3,k1,k2,k3,q _ _ _ (.refl _ _) rp (.int m)⟩
  ·cases e
 ·cases e⟩
end
noncomputable def initOf (s:Stmt):Stmt:=match s with
 | .ClassDef _ _ _ body _ _ _ _ _ _ _=>body.getD 0 (.Pass ⟨0,0,0,0⟩)
 | _=>.Pass ⟨0,0,0,0⟩
theorem zno {K:Fg} {x xR:Str} {C R fI N:Addr} {st:Stmt} {nm q qual:Str} {bs tl:List Value} {sn:List Str} {sub:List Value} {ab:Bool} {col:Option Bool} {dd od an:Option Addr} {k0 k1 k2 k3 k5:Option Value} {sl:Array (Option Value)} {oc kV dc pm cd ct:Value}
  (ib : InitBody st xR) (ns : PySem.W.nsIn K mainGlobals x = some (some (.ref C))) (kp : PySem.W.keepIn K (.ref C) = true) (lC : K.lookup C = some (excClassObj nm q C N bs tl true sn sub ab col dd k0 k1 k2 k3 k5 "ValueError.__new__")) (tC : PySem.W.tailIn K bmV tl = true)
  (nI : PySem.W.nsIn K N "__init__" = some (some (.ref fI))) (fi : PySem.W.findIn K (.ref C) "__init__" = some (some (.ref fI))) (ft : PySem.W.typeIn K (.ref fI) = some (.type "function"))
  (lf : K.lookup fI = some ⟨oc, od, .func (PySem.W.fnOf "__init__" qual (defArgs st) (defBody st) (defScope st) .none kV dc pm an cd ct), sl⟩) (cf : PySem.W.codeIn K cd qual = true) (kf : PySem.W.keepIn K (.ref fI) = true)
  (sa : PySem.W.findIn K (.ref C) "__setattr__" = some (some (.builtin "object.__setattr__"))) (at0 : PySem.W.findIn K (.ref C) "at" = some none) (nR : PySem.W.nsIn K mainGlobals xR = some (some (.ref R)))
  (b1 : PySem.W.specialIn K (.ref R) "__getattribute__" = some (some (.builtin "type.__getattribute__"))) (b2 : PySem.W.readsIn K R (.type "type") = true) (b3 : PySem.W.findCls K (.ref R) (.type "type") "__init__" = some (.val (.builtin "ValueError.__init__"))) : ErrInit K x C :=
 ⟨ns,kp,⟨sa,at0⟩,fI,_,qual,st,xR,R,⟨⟨nm,q,N,bs,tl,sn,sub,ab,col,dd,k0,k1,k2,k3,k5,lC,tC⟩,fi,ft⟩,zzl lf cf kf,ib,nR,⟨b1,b2,b3⟩⟩
theorem athas {K:Fg} {x:Str} {C:Addr} (e:ErrInit K x C) (l:ErrLook K C):AtHas K C:=let ⟨fI,_,_,_,_,_,ic,_⟩:=e.fn;⟨⟨fI,ic⟩,e.at_,l⟩
end Dd
namespace Dd
open PySem L2
noncomputable def zdb:DFn:=fnD 5 2 (sSeq (sSet 2 (eC (.int 0)))
 (sSeq (sIf (eB (eOp oLtT (eVar 1) (eCall bLen (aCons (eVar 0) aNil)))) (sSet 2 (eCall bAbs (aCons (eOp oIx (eVar 0) (eVar 1)) aNil))) sNx)
 (sSeq (sSet 3 (eOp oAdd (eOp oMulI (eC (.int 7919)) (eVar 1)) (eC (.int 17))))
 (sSeq (sFor (iR1 (aCons (eCall bMin2 (aCons (eCall bLen (aCons (eVar 0) aNil)) (aCons (eC (.int 60)) aNil))) aNil)) (gN 4) (sSet 3 (eOp oMod (eOp oAdd (eOp oAdd (eOp oMulI (eVar 3) (eC (.int 48271))) (eOp oMod (eOp oIx (eVar 0) (eVar 4)) (eC (.int 2147483647)))) (eVar 4)) (eC (.int 2147483629)))))
 (sSeq (sIf (eB (eOp oLtT (eVar 2) (eOp oPow (eC (.int 10)) (eC (.int 18))))) (sSet 2 (eC (.int 0))) sNx)
 (sRet (eLstM (aCons (eVar 2) (aCons (eVar 3) aNil)))))))))
noncomputable def zbj:DFn:=fnD 3 1 (sSeq (sSet 1 eDNew)
 (sSeq (sFor (iSeq (eVar 0)) (gN 2) (sDPut (eVar 1) (eVar 2) (eOp oAdd (eDGet2 (eVar 1) (eVar 2) (eC (.int 0))) (eC (.int 1)))))
 (sRet (eCall bTuple (aCons (eCall bSorted (aCons (eComp (iDict (eVar 1)) 1 [1] (gN 0) (eB (eOp oEq (eOp oMod (eOp oDGet (eVar 1) (eVar 0)) (eC (.int 2))) (eC (.int 1)))) (eVar 0)) aNil)) aNil)))))
noncomputable def zm:DFn:=fnD 5 2 (sSeq (sIf (eB (eOp oGt (eOp oIx (eVar 0) (eC (.int 0))) (eC (.int 0)))) (sSeq (sSet 2 (eOp oMod (eOp oIx (eVar 0) (eC (.int 0))) (eVar 1)))
 (sSeq (sSetIx (eVar 0) (eC (.int 0)) (eOp oFdiv (eOp oIx (eVar 0) (eC (.int 0))) (eVar 1)))
 (sRet (eVar 2)))) sNx)
 (sSeq (sSet 3 (eC (.int 0)))
 (sSeq (sSet 4 (eC (.int 1)))
 (sSeq (sWhile (eB (eOp oLtT (eVar 4) (eVar 1))) (sSeq (sSetIx (eVar 0) (eC (.int 1)) (eOp oMod (eOp oAdd (eOp oMulI (eOp oIx (eVar 0) (eC (.int 1))) (eC (.int 48271))) (eC (.int 7919))) (eC (.int 2147483647))))
 (sSeq (sSet 3 (eOp oAdd (eOp oMulI (eVar 3) (eC (.int 1073741789))) (eOp oMod (eOp oMulI (eOp oFdiv (eOp oIx (eVar 0) (eC (.int 1))) (eC (.int 8))) (eC (.int 69621))) (eC (.int 1073741789)))))
 (sSet 4 (eOp oMulI (eVar 4) (eC (.int 1073741789)))))))
 (sRet (eOp oMod (eVar 3) (eVar 1)))))))
noncomputable def zv:DFn:=fnD 6 2 (sSeq (sSet 2 (eTup aNil))
 (sSeq (sSet 3 (eVar 1))
 (sSeq (sFor (iR1 (aCons (eCall zm (aCons (eVar 0) (aCons (eC (.int 7)) aNil))) aNil)) (gN 4) (sIf (eB (eOp oGt (eVar 3) (eC (.int 0)))) (sSeq (sSet 5 (eOp oAdd (eC (.int 1)) (eCall zm (aCons (eVar 0) (aCons (eOp oIx (eLst (aCons (eVar 3) (aCons (eCall bMin2 (aCons (eVar 3) (aCons (eC (.int 4)) aNil))) aNil))) (eCall zm (aCons (eVar 0) (aCons (eC (.int 2)) aNil)))) aNil)))))
 (sSeq (sSet 2 (eOp oAdd (eVar 2) (eTup (aCons (eVar 5) aNil))))
 (sSet 3 (eOp oSub (eVar 3) (eVar 5))))) sNx))
 (sRet (eVar 2)))))
noncomputable def zlp:DFn:=fnD 2 2 (sIf (eB (eOp (oDIn false) (eVar 1) (eVar 0))) (sDrop (eDPop (eVar 0) (eVar 1))) (sDPut (eVar 0) (eVar 1) (eC (.bl true))))
noncomputable def zov:DFn:=fnD 1 1 (sRet (eAnd (eOp oLe (eCall bLen (aCons (eVar 0) aNil)) (eC (.int 6))) (eOp oLe (eCall bSum (aCons (eVar 0) aNil)) (eC (.int 16)))))
noncomputable def zda : DFn := fnD 1 1 (sRet (eAnd (eCall bIsinst (aCons (eVar 0) (aCons (eC (.ty "int")) aNil))) (eNot (eCall bIsinst (aCons (eVar 0) (aCons (eC (.ty "bool")) aNil))))))
noncomputable def zcb:DFn:=fnD 2 2 (sSeq (sIf (eB (eOp oEq (eVar 1) (eC (.int 0)))) (sRet (eVar 0)) sNx)
 (sSeq (sIf (eB (eOp oLtT (eCall bLen (aCons (eVar 0) aNil)) (eC (.int 6)))) (sRet (eOp oAdd (eVar 0) (eTup (aCons (eVar 1) aNil)))) sNx)
 (sRet (eOp oAdd (eSl (eVar 0) pNone (pSome (eUn oNeg (eC (.int 1))))) (eTup (aCons (eOp oAdd (eOp oIx (eVar 0) (eUn oNeg (eC (.int 1)))) (eVar 1)) aNil))))))
noncomputable def zw:DFn:=fnD 5 3 (sSeq (sSet 3 (eComp (iR1 (aCons (eVar 1) aNil)) 1 [0,2] (gN 0) bYes (eCall zv (aCons (eVar 1) (aCons (eVar 2) aNil)))))
 (sSeq (sIf (bAnd (eB (eOp oEq (eCall zm (aCons (eVar 0) (aCons (eC (.int 2)) aNil))) (eC (.int 1)))) (eB (eOp oGt (eVar 1) (eC (.int 0))))) (sSeq (sSet 4 (eCall (bBest true) (aCons (eComp (iSeq (eVar 3)) 1 [] (gN 0) bYes (eCall bSum (aCons (eVar 0) aNil))) aNil)))
 (sSet 3 (eComp (iSeq (eVar 3)) 1 [4] (gN 0) bYes (eCall zcb (aCons (eVar 0) (aCons (eOp oSub (eVar 1) (eCall bSum (aCons (eVar 0) aNil))) aNil)))))) sNx)
 (sRet (eCall zbj (aCons (eVar 3) aNil)))))
noncomputable def zfi : DFn := fnD 1 1 (sSeq (sIf (bNot (eTru (eCall bIsinst (aCons (eVar 0) (aCons (eC (.ty "tuple")) aNil))))) (sRet (eC (.bl false))) sNx)
 (sRet (eAnd (eCall (bAny true) (aCons (eComp (iSeq (eVar 0)) 1 [] (gN 0) bYes (eAnd (eCall zda (aCons (eVar 0) aNil)) (eOp oGe (eVar 0) (eC (.int 1))))) aNil)) (eCall zov (aCons (eVar 0) aNil)))))
noncomputable def zcd:SS:=(noX (sDrop (eCall zlp (aCons (eVar 1) (aCons (eVar 2) aNil)))))
noncomputable def zbh:DFn:=fnD 3 1 (sSeq (sSet 1 eDNew)
 (sSeq (sForA false (noX (eVar 0)) (gN 2) zcd)
 (sRet (eCall bTuple (aCons (eCall bSorted (aCons (eVar 1) aNil)) aNil)))))
noncomputable def zfh : SS := (sIf (noX (bNot (eTru (eCall zfi (aCons (eVar 2) aNil))))) (sRaiseI "NoRow" (noX (aCons (eVar 1) aNil))) (noX sNx))
noncomputable def zdp:DFn:=fnD 3 1 (sSeq (sForA true (noX (eVar 0)) (gT 2 (gsCons (gN 1) (gsCons (gN 2) gsNil))) zfh)
 (noX (sRet (eCall zbh (aCons (eVar 0) aNil)))))
noncomputable def zbu : DFn := fnD 2 1 (sTry 1 ["NoRow"] (sRet (eTup (aCons (eCall zdp (noX (aCons (eVar 0) aNil))) (noX (aCons (eC .non) aNil))))) (sSeq (sIf (bOr (bNot (eTru (eIsX 1 ["NoRow"]))) (bNot (eTru (eIsX 1 ["NoRow"])))) (sRet (eTup (aCons (eC .non) (aCons (eUn oNeg (eC (.int 1))) aNil)))) sNx)
 (sRet (eTup (aCons (eC .non) (aCons (eAt 1 ["NoRow"]) aNil))))))
noncomputable def zca : DFn := fnD 2 1 (sSeq (sSet 1 (eLst (aCons (eC (.int 0)) (aCons (eC .non) (aCons (eC (.str "1")) (aCons (eLst (aCons (eC (.int 1)) aNil)) (aCons (eTup (aCons (eC (.int 0)) aNil)) (aCons (eTup (aCons (eUn oNeg (eC (.int 1))) aNil)) (aCons (eTup (aCons (eC (.bl true)) aNil)) (aCons (eTup (aCons (eC (.str "1")) aNil)) (aCons (eTup (aCons (eC (.int 17)) aNil)) (aCons (eTup (aCons (eC (.int 9)) (aCons (eC (.int 8)) aNil))) (aCons (eOp oMulT (eTup (aCons (eC (.int 1)) aNil)) (eC (.int 7))) (aCons (eTup (aCons (eTup (aCons (eC (.int 1)) aNil)) aNil)) (aCons (eTup (aCons (eC .non) aNil)) (aCons (eTup (aCons (eC (.int 2)) (aCons (eC (.int 0)) aNil))) aNil))))))))))))))))
 (sRet (eOp oIx (eVar 1) (eCall zm (aCons (eVar 0) (aCons (eC (.int 14)) aNil))))))
noncomputable def zbm:SS:=(sSeq (sSet 3 (eCall zv (aCons (eVar 0) (aCons (eC (.int 16)) aNil))))
 (sSeq (sIf (bAnd (eB (eOp oGt (eCall bLen (aCons (eVar 1) aNil)) (eC (.int 0)))) (eB (eOp oEq (eCall zm (aCons (eVar 0) (aCons (eC (.int 3)) aNil))) (eC (.int 0))))) (sSet 3 (eOp oIx (eVar 1) (eCall zm (aCons (eVar 0) (aCons (eCall bLen (aCons (eVar 1) aNil)) aNil))))) sNx)
 (sDrop (eAppend (eVar 1) (aCons (eVar 3) aNil)))))
noncomputable def zbl:SS:=(sSeq (sSet 5 (eCall zm (aCons (eVar 0) (aCons (eOp oAdd (eCall bLen (aCons (eVar 1) aNil)) (eC (.int 1))) aNil))))
 (sSeq (sSet 1 (eOp oAdd (eOp oAdd (eSl (eVar 1) pNone (pSome (eVar 5))) (eLst (aCons (eCall zca (aCons (eVar 0) aNil)) aNil))) (eSl (eVar 1) (pSome (eVar 5)) pNone)))
 (sIf (bOr (eB (eOp (oIsN false) (eOp oIx (eVar 4) (eC (.int 1))) (eC .non))) (eB (eOp oLe (eVar 5) (eOp oIx (eVar 4) (eC (.int 1)))))) (sSet 4 (eTup (aCons (eC .non) (aCons (eVar 5) aNil)))) sNx)))
noncomputable def zbk:SS:=(sSeq (sSet 8 (eCall zbu (aCons (eVar 6) aNil)))
 (sIf (bOr (eB (eOp oNe (eVar 8) (eVar 4))) (bOr (eTru (eCall bIsinst (aCons (eOp oIx (eVar 8) (eC (.int 1))) (aCons (eC (.ty "bool")) aNil)))) (eB (eOp oNe (eVar 6) (eVar 1))))) (sRet (eC (.bl false))) sNx))
noncomputable def zbb:DFn:=fnD 9 1 (sSeq (sSet 1 (eLstM aNil))
 (sSeq (sFor (iR1 (aCons (eCall zm (aCons (eVar 0) (aCons (eC (.int 9)) aNil))) aNil)) (gN 2) zbm)
 (sSeq (sFz 1 (sSet 4 (eTup (aCons (eCall zbj (aCons (eVar 1) aNil)) (aCons (eC .non) aNil)))))
 (sSeq (sFor (iR1 (aCons (eCall bMax2 (aCons (eC (.int 0)) (aCons (eOp oSub (eCall zm (aCons (eVar 0) (aCons (eC (.int 4)) aNil))) (eC (.int 1))) aNil))) aNil)) (gN 2) zbl)
 (sSeq (sSet 6 (eCall bListM (aCons (eVar 1) aNil)))
 (sSeq (sFor (iR1 (aCons (eC (.int 2)) aNil)) (gN 7) zbk)
 (sSeq (sDrop (eClear (eVar 6)))
 (sRet (eOp oEq (eVar 8) (eVar 4))))))))))
noncomputable def zbz:DFn:=fnD 2 2 (sRet (eCall zbh (aCons (eOp oAdd (eVar 0) (eVar 1)) aNil)))
noncomputable def zou:SS:=(sSeq (sSet 8 (eCall zbz (aCons (eVar 6) (aCons (eVar 7) aNil))))
 (sIf (bOr (bNot (eTru (eCall bIsinst (aCons (eVar 8) (aCons (eC (.ty "tuple")) aNil))))) (eB (eOp oNe (eVar 8) (eCall zbj (aCons (eOp oAdd (eVar 6) (eVar 7)) aNil))))) (sRet (eC (.bl false))) sNx))
noncomputable def zot:SS:=(sSeq (sSet 2 (eCall zdb (aCons (eVar 0) (aCons (eVar 1) aNil))))
 (sSeq (sIf (bNot (eTru (eCall zbb (aCons (eVar 2) aNil)))) (sRet (eC (.bl false))) sNx)
 (sSeq (sSet 3 (eCall zm (aCons (eVar 2) (aCons (eOp oIx (eLst (aCons (eC (.int 7)) (aCons (eC (.int 13)) aNil))) (eCall bInt (aCons (eOp oEq (eCall zm (aCons (eVar 2) (aCons (eC (.int 8)) aNil))) (eC (.int 3))) aNil))) aNil))))
 (sSeq (sSet 4 (eCall zw (aCons (eVar 2) (aCons (eVar 3) (aCons (eC (.int 16)) aNil)))))
 (sSeq (sSet 5 (eCall zbj (aCons (eOp oAdd (eSl (eCall zw (aCons (eVar 2) (aCons (eCall zm (aCons (eVar 2) (aCons (eC (.int 7)) aNil))) (aCons (eC (.int 16)) aNil)))) pNone (pSome (eC (.int 6)))) (eSl (eVar 4) pNone (pSome (eCall zm (aCons (eVar 2) (aCons (eC (.int 7)) aNil)))))) aNil)))
 (sFor (iSeq (eLst (aCons (eTup (aCons (eVar 4) (aCons (eVar 5) aNil))) (aCons (eTup (aCons (eVar 5) (aCons (eVar 4) aNil))) (aCons (eTup (aCons (eVar 4) (aCons (eVar 4) aNil))) (aCons (eTup (aCons (eVar 4) (aCons (eTup aNil) aNil))) aNil)))))) (gT 2 (gsCons (gN 6) (gsCons (gN 7) gsNil))) zou))))))
noncomputable def zbgb:DFn:=fnD 9 1 (sSeq (sFor (iR1 (aCons (eCall bMax2 (aCons (eC (.int 1)) (aCons (eCall bMin2 (aCons (eC (.int 8)) (aCons (eCall bLen (aCons (eVar 0) aNil)) aNil))) aNil))) aNil)) (gN 1) zot)
 (sRet (eC (.bl true))))
noncomputable def RngOk (j:Int):Prop:=-(2 ^ 62)<=j/\j < 2 ^ 62
noncomputable instance (j:Int):Decidable (RngOk j):=by unfold RngOk;infer_instance
theorem rngOk {j:Int} (h1:-1000000000000<=j) (h2:j<=1000000000000):RngOk j:=⟨by lia,by lia⟩
section
variable {σ:DS} {st:Store}
@[simp] theorem eC_v {d:D}:eC d σ st=.ok d st:=rfl
@[simp] theorem zbee {i:Nat}:eVar i σ st=(match σ[i]? with
 | some (some d)=>.ok d st
 | _=>.stuck):=rfl
@[simp] theorem zbgu {g:D->D->Store->Res D} {f f':SE}:eOp g f f' σ st=(f σ st).bind fun x st1=>(f' σ st1).bind fun y st2=>g x y st2:=rfl
@[simp] theorem zbiz {g:D->Store->Res D} {f:SE}:eUn g f σ st=(f σ st).bind fun x st1=>g x st1:=rfl
@[simp] theorem zsn {g:List D->Store->Res D} {f:SA}:eCall g f σ st=(f σ st).bind fun xs st1=>g xs st1:=rfl
@[simp] theorem zbfz:aNil σ st=.ok [] st:=rfl
@[simp] theorem zos {f:SE} {g:SA}:aCons f g σ st=(f σ st).bind fun x st1=>(g σ st1).bind fun xs st2=>.ok (x::xs) st2:=rfl
@[simp] theorem eB_v {f:SE}:eB f σ st=(f σ st).bind fun v st1=>(match v with
 | .bl b=>.ok b st1
 | _=>.stuck):=rfl
@[simp] theorem zbeg {f:SE}:eTru f σ st=(f σ st).bind fun v st1=>(match tru st1 v with
 | some b=>.ok b st1
 | none=>.stuck):=rfl
@[simp] theorem zbek {f f':SE}:eAnd f f' σ st=(f σ st).bind fun v st1=>(match v with
 | .bl true=>f' σ st1
 | .bl false=>.ok (.bl false) st1
 | _=>.stuck):=rfl
@[simp] theorem zbib {f f':SE}:eOr f f' σ st=(f σ st).bind fun v st1=>(match v with
 | .bl true=>.ok (.bl true) st1
 | .bl false=>f' σ st1
 | _=>.stuck):=rfl
@[simp] theorem zbeh {f:SE}:eNot f σ st=(f σ st).bind fun v st1=>(match v with
 | .bl b=>.ok (.bl (!b)) st1
 | _=>.stuck):=rfl
@[simp] theorem zbfx {f f':ST}:bAnd f f' σ st=(f σ st).bind fun b st1=>if b=true then f' σ st1 else .ok false st1:=rfl
@[simp] theorem zbiv {f f':ST}:bOr f f' σ st=(f σ st).bind fun b st1=>if b=true then .ok true st1 else f' σ st1:=rfl
@[simp] theorem zbiw {f:ST}:bNot f σ st=(f σ st).bind fun b st1=>.ok (!b) st1:=rfl
@[simp] theorem zbiu:bYes σ st=.ok true st:=rfl
@[simp] theorem zbic {c:ST} {f f':SE}:eIf c f f' σ st=(c σ st).bind fun b st1=>if b=true then f σ st1 else f' σ st1:=rfl
@[simp] theorem zbef {g:SA}:eTup g σ st=(g σ st).bind fun xs st1=>if xs.length<=sizeLine then .ok (.tup xs) st1 else .stuck:=rfl
@[simp] theorem zbei {g:SA}:eLst g σ st=(g σ st).bind fun xs st1=>if xs.length<=sizeLine then .ok (.lst xs) st1 else .stuck:=rfl
@[simp] theorem zzs {g:SA}:eLstM g σ st=(g σ st).bind fun xs st1=>if xs.length<=sizeLine then .ok (.ref st1.length) (st1++[.lst xs]) else .stuck:=rfl
@[simp] theorem zbej {g g':D->D->Store->Res D} {f f' f'':SE}:eChain g g' f f' f'' σ st=(f σ st).bind fun x st1=>(f' σ st1).bind fun y st2=>(g x y st2).bind fun z st3=>(match z with
 | .bl true=>(f'' σ st3).bind fun w st4=>g' y w st4
 | .bl false=>.ok (.bl false) st3
 | _=>.stuck):=rfl
@[simp] theorem zbgw:eDNew σ st=.ok (.ref st.length) (st++[.dT []]):=rfl
@[simp] theorem zbiy:sNx σ st=.ok (.nx σ) st:=rfl
@[simp] theorem zbhi:sBrk σ st=.ok (.brk σ) st:=rfl
@[simp] theorem zbci {f:SE}:sRet f σ st=(f σ st).bind fun v st1=>.ok (.ret v) st1:=rfl
@[simp] theorem zbgf:sRetN σ st=.ok (.ret .non) st:=rfl
@[simp] theorem zbgg {f:SE}:sDrop f σ st=(f σ st).bind fun _ st1=>.ok (.nx σ) st1:=rfl
@[simp] theorem zbhf {i:Nat} {f:SE}:sSet i f σ st=(f σ st).bind fun v st1=>.ok (.nx (σ.set i (some v))) st1:=rfl
@[simp] theorem zbch {s t:SS}:sSeq s t σ st=(match s σ st with
 | .ok (.nx σ1) st1=>t σ1 st1
 | r=>r):=rfl
@[simp] theorem zbhg {c:ST} {s t:SS}:sIf c s t σ st=(c σ st).bind fun b st1=>if b=true then s σ st1 else t σ st1:=rfl
@[simp] theorem zbck {i:Nat} {g:D->D->Store->Res D} {f:SE}:sAug i g f σ st=(match σ[i]? with
 | some (some x)=>(f σ st).bind fun y st1=>(g x y st1).bind fun z st2=>.ok (.nx (σ.set i (some z))) st2
 | _=>.stuck):=rfl
@[simp] theorem zbhh {it:SA} {bd:SG} {body:SS}:sFor it bd body σ st=(it σ st).bind fun xs st1=>forF bd body xs σ st1:=rfl
@[simp] theorem zbea {f:SE}:iSeq f σ st=(f σ st).bind fun x st1=>(match seqV x with
 | some xs=>.ok xs st1
 | none=>.stuck):=rfl
@[simp] theorem zbhz {g:SA}:iR1 g σ st=(g σ st).bind fun xs st1=>(match xs with
 | [.int j]=>if RngOk j then .ok (rng 0 j.toNat) st1 else .stuck
 | _=>.stuck):=rfl
@[simp] theorem zbhy {g : SA} : iR2 g σ st = (g σ st).bind fun xs st1 => (match xs with
  | [.int i, .int j] => if RngOk i /\ RngOk j then .ok (rng i (j - i).toNat) st1 else .stuck
  | _ => .stuck) := by
  show (g σ st).bind _ = _
  congr 1
  funext xs st1
  split
  · unfold RngOk
    simp only [and_assoc]
  · rename_i h
    first
      | rfl
      | (split
         · rename_i i j
           exact absurd rfl (h i j)
         · rfl)
@[simp] theorem zbgq {f:SE}:iDict f σ st=(f σ st).bind fun x st1=>(match x with
 | .ref n=>(match st1[n]? with
  | some (.dT kvs)=>.ok (rowsD (kvs.map (·.1))) (st1.set n (.fT kvs))
  | _=>.stuck)
 | _=>.stuck):=rfl
@[simp] theorem zsm {it:SA} {k:Nat} {is:List Nat} {bd:SG} {c:ST} {f:SE}:eComp it k is bd c f σ st=(it σ st).bind fun xs st1=>if xs.length<=sizeLine then (compF bd c f xs (startD k is σ) st1).bind fun ys st2=>.ok (.lst ys) st2 else .stuck:=rfl
@[simp] theorem zbid {f:SE}:eFz f σ st=(f σ st).bind fun x st1=>(match x with
 | .ref n=>(match st1[n]? with
  | some (.lst xs)=>.ok (.lst xs) (st1.set n .dead)
  | _=>.stuck)
 | _=>.stuck):=rfl
@[simp] theorem zbgn:pNone σ st=.ok none st:=rfl
@[simp] theorem zyi {f:SE}:pSome f σ st=(f σ st).bind fun v st1=>(match v with
 | .int i=>.ok (some i) st1
 | _=>.stuck):=rfl
@[simp] theorem zbia {f:SE} {lo hi:DS->Store->Res (Option Int)}:eSl f lo hi σ st=(f σ st).bind fun x st1=>(lo σ st1).bind fun l st2=>(hi σ st2).bind fun h st3=>(match x with
 | .tup xs=>.ok (.tup (cutD xs l h)) st3
 | x=>match asL st3 x with
  | some xs=>.ok (.lst (cutD xs l h)) st3
  | none=>.stuck):=rfl
@[simp] theorem zqz {f:SE} {g:SA}:eAppend f g σ st=(f σ st).bind fun x st1=>(match x,asL st1 x with
 | .ref n,some _=>(g σ st1).bind fun ys st2=>(match ys,st2[n]? with
  | [y],some (.lst xs)=>if xs.length < sizeLine then .ok .non (st2.set n (.lst (xs++[y]))) else .stuck
  | _,_=>.stuck)
 | _,_=>.stuck):=rfl
@[simp] theorem zbbv {f:SE} {g:SA}:eExtend f g σ st=(f σ st).bind fun x st1=>(match x,asL st1 x with
 | .ref n,some _=>(g σ st1).bind fun ys st2=>(match ys,st2[n]? with
  | [y],some (.lst xs)=>(match asL st2 y with
   | some zs=>if xs.length+zs.length<=sizeLine then .ok .non (st2.set n (.lst (xs++zs))) else .stuck
   | none=>.stuck)
  | _,_=>.stuck)
 | _,_=>.stuck):=rfl
@[simp] theorem ztg {f g h:SE}:sSetIx f g h σ st=(h σ st).bind fun v st1=>(f σ st1).bind fun x st2=>(g σ st2).bind fun y st3=>(match x,y with
 | .ref n,.int k=>(match st3[n]? with
  | some (.lst xs)=>(match ixN xs.length k with
   | some j=>.ok (.nx σ) (st3.set n (.lst (xs.set j v)))
   | none=>.stuck)
  | _=>.stuck)
 | _,_=>.stuck):=rfl
@[simp] theorem zux {f g h:SE}:eDGet2 f g h σ st=(f σ st).bind fun x st1=>(match pairsOf st1 x with
 | some _=>(g σ st1).bind fun y st2=>(h σ st2).bind fun z st3=>(match pairsOf st3 x,keyOf y with
  | some kvs,some k=>.ok ((valD kvs k).getD z) st3
  | _,_=>.stuck)
 | none=>.stuck):=rfl
@[simp] theorem zbgv {f g:SE}:eDPop f g σ st=(f σ st).bind fun x st1=>(match pairsOf st1 x with
 | some _=>(g σ st1).bind fun y st2=>(match x,keyOf y with
  | .ref n,some k=>(match st2[n]? with
   | some (.dT kvs)=>(match valD kvs k with
    | some v=>.ok v (st2.set n (.dT (dropD kvs k)))
    | none=>.stuck)
   | _=>.stuck)
  | _,_=>.stuck)
 | none=>.stuck):=rfl
@[simp] theorem zxj {f g h:SE}:sDPut f g h σ st=(h σ st).bind fun v st1=>(f σ st1).bind fun x st2=>(g σ st2).bind fun y st3=>(match x,keyOf y with
 | .ref n,some k=>(match st3[n]? with
  | some (.dT kvs)=>if kvs.length < sizeLine then .ok (.nx σ) (st3.set n (.dT (putD kvs k v))) else .stuck
  | _=>.stuck)
 | _,_=>.stuck):=rfl
theorem zbgt {n np:Nat} {b:SS} {ds:List D}:fnD n np b ds st=if ds.length=np then (match b (ds.map some++List.replicate (n - np) none) st with
 | .ok (.ret v) st'=>.ok v st'
 | .ok (.nx _) st'=>.ok .non st'
 | .exc x st'=>.exc x st'
 | _=>.stuck) else .stuck:=rfl
end
section
variable {st:Store} {i j:Int}
@[simp] theorem oI_v {C:Int->Int->Prop} [DecidableRel C] {h:Int->Int->D}:oI C h (.int i) (.int j) st=if C i j then .ok (h i j) st else .stuck:=rfl
@[simp] theorem zbdn:oAdd (.int i) (.int j) st=.ok (.int (i+j)) st:=rfl
@[simp] theorem zbdm {a b:List D}:oAdd (.tup a) (.tup b) st=if a.length+b.length<=sizeLine then .ok (.tup (a++b)) st else .stuck:=rfl
@[simp] theorem zbhu:oLtT (.int i) (.int j) st=.ok (.bl (decide (i < j))) st:=rfl
@[simp] theorem zbhs:oNeg (.int i) st=.ok (.int (-i)) st:=rfl
@[simp] theorem zcz (ns:List Int):asInts (ns.map .int)=some ns:=by
 induction ns with
 | nil=>rfl
 | cons n ns ih=>rw[xbq,asInts,ih];rfl
@[simp] theorem zbbl (l:List (List Int)):asRows (rowsD l)=some l:=by
 induction l with
 | nil=>rfl
 | cons n ns ih =>
  unfold rowsD at ih ⊢;rw[xbq,asRows,zcz,ih];rfl
@[simp] theorem zdm (ns:List Int):keyOf (rowD ns)=some ns:=zcz ns
theorem zgw:dataOf st (.int i)=some (.int i):=rfl
@[simp] theorem zbhw:oEq (.int i) (.int j) st=.ok (.bl (decide (i=j))) st:=by
 show oEqG false (.int i) (.int j) st=_;unfold oEqG;rw[zgw,zgw];dsimp only;rw[if_pos ⟨rfl,rfl⟩];show Res.ok (D.bl (i == j)) st=_;rw[show (i == j)=decide (i=j) from by rw[xge];simp]
@[simp] theorem zbht:oNe (.int i) (.int j) st=.ok (.bl (!decide (i=j))) st:=by
 show oEqG true (.int i) (.int j) st=_;unfold oEqG;rw[zgw,zgw];dsimp only;rw[if_pos ⟨rfl,rfl⟩];show Res.ok (D.bl (!(i == j))) st=_;rw[show (i == j)=decide (i=j) from by rw[xge];simp]
theorem zrd (ns:List Int):toDatas (ns.map .int)=some (dI ns):=by
 induction ns with
 | nil=>rfl
 | cons n ns ih=>rw[xbq,toDatas,ih];rfl
theorem zrc (l:List (List Int)):toDatas (rowsD l)=some (l.map dRow):=by
 induction l with
 | nil=>rfl
 | cons n ns ih =>
  unfold rowsD at ih ⊢;rw[xbq,toDatas,ih,toData,zrd];rfl
noncomputable abbrev sumD (l:List (List Int)):D:=.tup (rowsD l)
theorem znz (l:List (List Int)):dataOf st (sumD l)=some (.tuple (l.map dRow)):=by
 show (toDatas (rowsD l)).map PyData.tuple=_;rw[zrc];rfl
theorem zys {neg:Bool} (a b:List (List Int)):oEqG neg (sumD a) (sumD b) st=.ok (.bl (if neg then !decide (a=b) else decide (a=b))) st:=by
 unfold oEqG;rw[znz,znz];dsimp only;rw[if_pos ⟨zfe a,zfe b⟩];have e:PyData.eqv (.tuple (a.map dRow)) (.tuple (b.map dRow))=decide (a=b):=zki a b;rw[e]
theorem small (n:Nat) (h:n<=1000000):n<=sizeLine:=by rw[xef];lia
theorem smallT (n:Nat) (h:n<=1000000):n < sizeLine:=by rw[xef];lia
end
theorem zsk {bd:SG} {body:SS} (I:Nat->DS->Store->Prop):∀(xs:List D) (k:Nat) (σ:DS) (st:Store),I k σ st ->
  (∀i x σ st,xs[i]?=some x->I (k+i) σ st->∃σ1 σ2 st2,bd x σ=some σ1/\body σ1 st=.ok (.nx σ2) st2/\I (k+i+1) σ2 st2)->∃σ' st',forF bd body xs σ st=.ok (.nx σ') st'/\I (k+xs.length) σ' st'
 | [],k,σ,st,h,_=>⟨σ,st,rfl,h⟩
 | x::xs,k,σ,st,h,s=>by
  obtain ⟨σ1,σ2,st2,e1,e2,h2⟩:=s 0 x σ st rfl h;obtain ⟨σ',st',e3,h3⟩:=zsk I xs (k+1) σ2 st2 h2 fun i y σ st hy hi=>by
   have:=s (i+1) y σ st (by simpa using hy) (by rw[show k+(i+1)=k+1+i by lia];exact hi);rw[show k+(i+1)+1=k+1+i+1 by lia] at this;exact this
  refine ⟨σ',st',?_,by rw[xby,show k+(xs.length+1)=k+1+xs.length by lia];exact h3⟩;unfold forF;rw[e1];dsimp only;rw[e2];exact e3
theorem zzm {bd:SG} {body:SS} (I:Nat->DS->Store->Prop) {xs:List D} {σ:DS} {st:Store} (h0:I 0 σ st)
  (s:∀i x σ st,xs[i]?=some x->I i σ st->∃σ1 σ2 st2,bd x σ=some σ1/\body σ1 st=.ok (.nx σ2) st2/\I (i+1) σ2 st2):∃σ' st',forF bd body xs σ st=.ok (.nx σ') st'/\I xs.length σ' st':=by
 have:=zsk I xs 0 σ st h0 fun i x σ st hx hi=>by
  rw[xdq] at hi ⊢;exact s i x σ st hx hi
 rw[xdq] at this;exact this
theorem zbcm {lo:Int} {n i:Nat} {x:D} (h:(rng lo n)[i]?=some x):i < n/\x=.int (lo+i):=zet h
theorem zch (lo:Int) (n:Nat):(rng lo n).length=n:=by simp[rng]
theorem zjg {bd:SG} {c:ST} {f:SE} (I:Nat->List D->DS->Store->Prop):∀(xs:List D) (k:Nat) (acc:List D) (σ:DS) (st:Store),I k acc σ st ->
  (∀i x acc σ st,xs[i]?=some x->I (k+i) acc σ st->∃σ1 b st1,bd x σ=some σ1/\c σ1 st=.ok b st1/\((b=false/\I (k+i+1) acc σ1 st1)\/(b=true/\∃y st2,f σ1 st1=.ok y st2/\I (k+i+1) (acc++[y]) σ1 st2))) ->
  ∃ys σ' st',compF bd c f xs σ st=.ok ys st'/\I (k+xs.length) (acc++ys) σ' st'
 | [],k,acc,σ,st,h,_=>⟨[],σ,st,rfl,by rw[xdm];exact h⟩
 | x::xs,k,acc,σ,st,h,s=>by
  have s':∀i y acc σ st,xs[i]?=some y->I (k+1+i) acc σ st->∃σ1 b st1,bd y σ=some σ1/\c σ1 st=.ok b st1/\((b=false/\I (k+1+i+1) acc σ1 st1)\/(b=true/\∃z st2,f σ1 st1=.ok z st2/\I (k+1+i+1) (acc++[z]) σ1 st2)):=fun i y acc σ st hy hi=>by
   have:=s (i+1) y acc σ st (by simpa using hy) (by rw[show k+(i+1)=k+1+i by lia];exact hi);rw[show k+(i+1)+1=k+1+i+1 by lia] at this;exact this
  obtain ⟨σ1,b,st1,e1,e2,h2⟩:=s 0 x acc σ st rfl h;rcases h2 with ⟨rfl,h2⟩ | ⟨rfl,y,st2,e3,h2⟩
  ·obtain ⟨ys,σ',st',e4,h3⟩:=zjg I xs (k+1) acc σ1 st1 h2 s';refine ⟨ys,σ',st',?_,by rw[xby,show k+(xs.length+1)=k+1+xs.length by lia];exact h3⟩;unfold compF;rw[e1];dsimp only;rw[e2];exact e4
  ·obtain ⟨ys,σ',st',e4,h3⟩:=zjg I xs (k+1) (acc++[y]) σ1 st2 h2 s';refine ⟨y::ys,σ',st',?_,by rw[xby,show k+(xs.length+1)=k+1+xs.length by lia];rw[xcg] at h3;exact h3⟩;unfold compF;rw[e1];dsimp only;rw[e2];dsimp only [zdc];rw[if_pos rfl,e3];dsimp only [zdc];rw[e4]
   rfl
theorem zbay {bd:SG} {c:ST} {f:SE} (I:Nat->List D->DS->Store->Prop) {xs:List D} {σ:DS} {st:Store} (h0:I 0 [] σ st)
  (s:∀i x acc σ st,xs[i]?=some x->I i acc σ st->∃σ1 b st1,bd x σ=some σ1/\c σ1 st=.ok b st1/\((b=false/\I (i+1) acc σ1 st1)\/(b=true/\∃y st2,f σ1 st1=.ok y st2/\I (i+1) (acc++[y]) σ1 st2))) :
  ∃ys σ' st',compF bd c f xs σ st=.ok ys st'/\I xs.length ys σ' st':=by
 have:=zjg I xs 0 [] σ st h0 fun i x acc σ st hx hi=>by
  rw[xdq] at hi ⊢;exact s i x acc σ st hx hi
 rw[xdq] at this
 simpa using this
theorem zoz {c:ST} {body:SS} (I:Nat->DS->Store->Prop) (post:DS->Store->Prop) {σ:DS} {st:Store} {k:Nat} (h0:I k σ st) (hm:k < wCap)
  (s:∀j σ st,I j σ st->∃b st1,c σ st=.ok b st1/\((b=false/\post σ st1)\/(b=true/\∃i σ2 st2,body σ st1=.ok (.nx σ2) st2/\I i σ2 st2/\i < j))):∃σ' st',sWhile c body σ st=.ok (.nx σ') st'/\post σ' st':=by
 have main:∀n j σ st,I j σ st->j < n->∃σ' st',whileF c body n σ st=.ok (.nx σ') st'/\post σ' st':=by
  intro n
  induction n with
  | zero=>intro j σ st _ h;lia
  | succ n ih =>
   intro j σ st hI hlt;obtain ⟨b,st1,e1,h⟩:=s j σ st hI;unfold whileF;rw[e1];dsimp only [zdc];rcases h with ⟨rfl,h⟩ | ⟨rfl,i,σ2,st2,e2,h2,h3⟩
   ·exact ⟨σ,st1,by rw[if_neg (by decide)],h⟩
   ·obtain ⟨σ',st',e3,h4⟩:=ih i σ2 st2 h2 (by lia);refine ⟨σ',st',?_,h4⟩;rw[if_pos rfl,e2];exact e3
 exact main wCap k σ st h0 hm
section
variable {st:Store} {n:Nat} {xs:List D} {i:Int}
@[simp] theorem zbbm:seqOf st (.tup xs)=some xs:=rfl
@[simp] theorem zbbn:seqOf st (.scr xs)=some xs:=rfl
@[simp] theorem zbbo:seqOf st (.lst xs)=some xs:=rfl
@[simp] theorem zbce:seqV (.tup xs)=some xs:=rfl
@[simp] theorem zbcg:seqV (.lst xs)=some xs:=rfl
@[simp] theorem zbcf:seqV (.scr xs)=some xs:=rfl
@[simp] theorem zbgz:asL st (.lst xs)=some xs:=rfl
theorem zsw (h:st[n]?=some (.lst xs)):asL st (.ref n)=some xs:=by
 unfold asL;dsimp only;rw[h]
theorem zjs (h:st[n]?=some (.lst xs)):seqOf st (.ref n)=some xs:=zsw h
theorem zlg {x:D} {d:D} (h:seqOf st x=some xs) (h2:L2.atI xs i=some d):oIx x (.int i) st=.ok d st:=by
 unfold oIx;rw[h];dsimp only;rw[h2]
@[simp] theorem zbfs:bLen [.tup xs] st=.ok (.int xs.length) st:=rfl
@[simp] theorem zbfu:bLen [.lst xs] st=.ok (.int xs.length) st:=rfl
@[simp] theorem zbft:bLen [.scr xs] st=.ok (.int xs.length) st:=rfl
@[simp] theorem zbix:bAbs [.int i] st=.ok (.int (if i < 0 then -i else i)) st:=rfl
@[simp] theorem zbja {g:Int->Int->Int} {j:Int}:b2I g [.int i,.int j] st=.ok (.int (g i j)) st:=rfl
@[simp] theorem zvz {ns:List Int}:bSum [rowD ns] st=.ok (.int ns.sum) st:=by
 unfold bSum;simp
@[simp] theorem zbbh:bTuple [.tup xs] st=.ok (.tup xs) st:=rfl
@[simp] theorem zom:bTuple [.lst xs] st=.ok (.tup xs) st:=rfl
theorem zjj {l:List (List Int)} (h:l.length<=1000000):bSorted [.lst (rowsD l)] st=.ok (.lst (rowsD (sortR l))) st:=by
 unfold bSorted;simp[h]
theorem zjk {kvs:List (List Int × D)} (h:st[n]?=some (.dT kvs)) (hl:kvs.length<=1000000):bSorted [.ref n] st=.ok (.lst (rowsD (sortR (kvs.map (·.1))))) st:=by
 unfold bSorted asL pairsOf;simp[h,hl]
theorem zoo {j:Nat} {d:D} (h:xs[j]?=some d):L2.atI xs (j:Int)=some d:=zsv h
theorem zme {o:O} (h:n < st.length):(st.set n o)[n]?=some o:=xdl h
theorem zx {o:O} (h:st[n]?=some o):n < st.length:=(xbo.mp h).1
theorem zbcd {o:O} (h:st[n]?=some o):st.set n o=st:=by
 apply xkf;intro i;by_cases e:i=n
 ·subst e;rw[xdl (zx h),h]
 ·rw[xcm (xeb e)]
end
theorem zll {n np:Nat} {b:SS} {ds:List D} {st st':Store} {v:D} (h:ds.length=np) (e:b (ds.map some++List.replicate (n - np) none) st=.ok (.ret v) st'):fnD n np b ds st=.ok v st':=by
 rw[zbgt,if_pos h,e]
theorem zbgs {n np:Nat} {b:SS} {ds:List D} {st st':Store} {σ:DS} (h:ds.length=np) (e:b (ds.map some++List.replicate (n - np) none) st=.ok (.nx σ) st'):fnD n np b ds st=.ok .non st':=by
 rw[zbgt,if_pos h,e]
noncomputable abbrev bagO (c x:Int):O:=.lst [.int c,.int x]
noncomputable def BagAt (st:Store) (n:Nat):Prop:=∃c x:Int,st[n]?=some (bagO c x)/\0<=c/\0<=x
structure Drew (st st':Store) (n:Nat):Prop where
 len:st.length<=st'.length
 keep : ∀ i, i < st.length -> i ≠ n -> st'[i]? = st[i]?
 bag:BagAt st' n
theorem Drew.refl {st:Store} {n:Nat} (h:BagAt st n):Drew st st n:=⟨xbg _,fun _ _ _=>rfl,h⟩
theorem Drew.trans {st st1 st2:Store} {n:Nat} (a:Drew st st1 n) (b:Drew st1 st2 n):Drew st st2 n :=
 ⟨xbb a.len b.len,fun i h1 h2=>(b.keep i (xbh h1 a.len) h2).trans (a.keep i h1 h2),b.bag⟩
theorem Drew.set {st:Store} {n:Nat} {c x:Int} (h:BagAt st n) (hc:0<=c) (hx:0<=x):Drew st (st.set n (bagO c x)) n:=by
 obtain ⟨_,_,e,_⟩:=h;exact ⟨by rw[xfh];exact xbg _,fun i _ h2=>xcm (xeb h2),c,x,zme (zx e),hc,hx⟩
theorem Drew.more {st:Store} {n:Nat} (h:BagAt st n) (g:Store):Drew st (st++g) n:=by
 obtain ⟨c,x,e,h1,h2⟩:=h;exact ⟨by rw[xcb];lia,fun i h _=>xbx h,c,x,by rw[xbx (zx e)];exact e,h1,h2⟩
theorem zxd {st:Store} {n:Nat} {m:Int} (hb:BagAt st n) (h1:1<=m) (h2:m < 2 ^ 1000) :
  ∃r st',zm [.ref n,.int m] st=.ok (.int r) st'/\0<=r/\r < m/\Drew st st' n/\st'.length=st.length:=by
 obtain ⟨c,x,hn,hc,hx⟩:=id hb;have s0:∀{c x:Int} {st:Store},st[n]?=some (bagO c x)->oIx (.ref n) (.int 0) st=.ok (.int c) st:=fun h=>zlg (zjs h) rfl
 have s1:∀{c x:Int} {st:Store},st[n]?=some (bagO c x)->oIx (.ref n) (.int 1) st=.ok (.int x) st:=fun h=>zlg (zjs h) rfl
 by_cases h0:0 < c
 ·have d1:CDivP c m:=⟨by lia,h2⟩
  have e0:ixN 2 0=some 0:=rfl;refine ⟨c % m,st.set n (bagO (c / m) x),zll rfl ?_,xib _ (by lia),Int.emod_lt_of_pos _ (by lia),Drew.set hb (Int.ediv_nonneg hc (by lia)) hx,xfh⟩;simp[s0 hn,h0,hn,e0,show (0:Int) < m by lia,d1]
 ·have hlen:=zx hn
  have W:=zoz (c:=eB (eOp oLtT (eVar 4) (eVar 1))) (body:=sSeq (sSetIx (eVar 0) (eC (.int 1)) (eOp oMod (eOp oAdd (eOp oMulI (eOp oIx (eVar 0) (eC (.int 1))) (eC (.int 48271))) (eC (.int 7919))) (eC (.int 2147483647))))
   (sSeq (sSet 3 (eOp oAdd (eOp oMulI (eVar 3) (eC (.int 1073741789))) (eOp oMod (eOp oMulI (eOp oFdiv (eOp oIx (eVar 0) (eC (.int 1))) (eC (.int 8))) (eC (.int 69621))) (eC (.int 1073741789)))))
   (sSet 4 (eOp oMulI (eVar 4) (eC (.int 1073741789)))))) (k:=1000) (σ:=[some (.ref n),some (.int m),none,some (.int 0),some (.int 1)]) (st:=st)
   (fun j σ s=>∃c' x' nn rr:Int,σ=[some (.ref n),some (.int m),none,some (.int nn),some (.int rr)]/\s=st.set n (bagO c' x')/\0<=c'/\0<=x'/\0<=nn/\j<=1000/\2 ^ (1000 - j)<=rr)
   (fun σ s=>∃c' x' nn:Int,(∃rr,σ=[some (.ref n),some (.int m),none,some (.int nn),some (.int rr)])/\s=st.set n (bagO c' x')/\0<=c'/\0<=x'/\0<=nn)
   ⟨c,x,0,1,rfl,(zbcd hn).symm,hc,hx,by lia,by lia,by decide⟩ (by decide) (by
    rintro j σ s ⟨c',x',nn,rr,rfl,rfl,a1,a2,a3,a4,a5⟩;have g1:(st.set n (bagO c' x'))[n]?=some (bagO c' x'):=zme hlen;by_cases hlt:rr < m
    ·have hj:1<=j:=by
      rcases xjz j with z | z
      ·subst z;have a5':(2:Int) ^ 1000<=rr:=a5;lia
      ·exact z
     have e1:ixN 2 1=some 1:=rfl;have m1:CMul x' 48271:=.inr ⟨by decide,by decide⟩;have m2:CMul nn 1073741789:=.inr ⟨by decide,by decide⟩;have m3:CMul rr 1073741789:=.inr ⟨by decide,by decide⟩;have g2:∀y:Int,(st.set n (bagO c' y))[n]?=some (bagO c' y):=fun y=>zme hlen
     have m4:∀y:Int,CMul y 69621:=fun y=>.inr ⟨by decide,by decide⟩
     have d8:∀y:Int,CDivP y 8:=fun y=>⟨by decide,by decide +kernel⟩
     refine ⟨true,st.set n (bagO c' x'),by simp[hlt],.inr ⟨rfl,j - 1,_,st.set n (bagO c' ((x' * 48271+7919) % 2147483647)),?_,⟨c',(x' * 48271+7919) % 2147483647,nn * 1073741789+(x' * 48271+7919) % 2147483647 / 8 * 69621 % 1073741789,rr * 1073741789,rfl,rfl,a1,?_,?_,by lia,?_⟩,by lia⟩⟩
     ·simp[s1 g1,g1,e1,m1,m2,m3,m4,d8,s1 (g2 _)]
     ·exact xib _ (by lia)
     ·have a1:0<=nn * 1073741789:=Int.mul_nonneg a3 (by lia);have a2:=xib ((x' * 48271+7919) % 2147483647 / 8 * 69621) (show (1073741789:Int)≠0 by lia);lia
     ·have e:(2:Int) ^ (1000 - (j - 1))=2 ^ (1000 - j) * 2:=by
       rw[← Int.pow_succ];congr 1;lia
      rw[e];have hp:(0:Int)<=2 ^ (1000 - j):=Int.pow_nonneg (by decide);lia
    ·exact ⟨false,_,by simp[hlt],.inl ⟨rfl,c',x',nn,⟨rr,rfl⟩,rfl,a1,a2,a3⟩⟩)
  obtain ⟨σ',st',e,c',x',nn,hσ,hst,k1,k2,k3⟩:=W;obtain ⟨rr,rfl⟩:=hσ;subst hst;refine ⟨nn % m,st.set n (bagO c' x'),zll rfl ?_,xib _ (by lia),Int.emod_lt_of_pos _ (by lia),Drew.set hb k1 k2,xfh⟩;simp[s0 hn,h0,e,show (0:Int) < m by lia]
theorem zid {ns:List Int} {j:Nat} (h:j < ns.length):L2.atI (ns.map D.int) (j:Int)=some (.int ns[j]):=zsv (by rw[xcp,xbe h];rfl)
theorem zbfr {st:Store} {ns:List Int} {i:Nat} (hl:ns.length<=63) (hi:i<=100000):∃c x:Int,0<=c/\0<=x/\zdb [.scr (ns.map .int),.int i] st=.ok (.ref st.length) (st++[bagO c x]):=by
 have cell:∃c:Int,0<=c/\sIf (eB (eOp oLtT (eVar 1) (eCall bLen (aCons (eVar 0) aNil)))) (sSet 2 (eCall bAbs (aCons (eOp oIx (eVar 0) (eVar 1)) aNil))) sNx [some (.scr (ns.map .int)),some (.int i),some (.int 0),none,none] st
   = .ok (.nx [some (.scr (ns.map .int)),some (.int i),some (.int c),none,none]) st:=by
  by_cases h:i < ns.length
  ·have e:oIx (.scr (ns.map .int)) (.int i) st=.ok (.int ns[i]) st:=zlg rfl (zid h);refine ⟨if ns[i] < 0 then -ns[i] else ns[i],by split<;>lia,?_⟩;simp[h,e]
  ·exact ⟨0,by lia,by simp[h]⟩
 obtain ⟨c,hc,ec⟩:=cell;have hmin:(if (60:Int) < (ns.length:Int) then (60:Int) else ns.length).toNat<=ns.length:=by split<;>lia
 have W:=zzm (bd:=gN 4) (body:=sSet 3 (eOp oMod (eOp oAdd (eOp oAdd (eOp oMulI (eVar 3) (eC (.int 48271))) (eOp oMod (eOp oIx (eVar 0) (eVar 4)) (eC (.int 2147483647)))) (eVar 4)) (eC (.int 2147483629))))
  (xs:=rng 0 (if (60:Int) < (ns.length:Int) then (60:Int) else ns.length).toNat) (σ:=[some (.scr (ns.map .int)),some (.int i),some (.int c),some (.int (7919 * i+17)),none]) (st:=st)
  (fun j σ s=>s=st/\∃(mix:Int) (v:Option D),σ=[some (.scr (ns.map .int)),some (.int i),some (.int c),some (.int mix),v]/\0<=mix) ⟨rfl,_,none,rfl,by lia⟩ (by
   rintro j x σ s hx ⟨rfl,mix,v,rfl,hm⟩;obtain ⟨hj,rfl⟩:=zbcm hx;have hj2:j < ns.length:=by lia
   have e:oIx (.scr (ns.map .int)) (.int (0+j)) s=.ok (.int ns[j]) s:=zlg rfl (by rw[xkm];exact zid hj2);rw[xkm] at e;have m1:CMul mix 48271:=.inr ⟨by decide,by decide⟩;refine ⟨_,[some (.scr (ns.map .int)),some (.int i),some (.int c),some (.int ((mix * 48271+ns[j] % 2147483647+j) % 2147483629)),some (.int (0+j))],s,rfl,?_,rfl,_,_,rfl,xib _ (by lia)⟩
   simp[e,m1])
 obtain ⟨σ',st',e,rfl,mix,v,rfl,hm⟩:=W;have m0:CMul 7919 (i:Int):=.inl ⟨by decide,by decide⟩;have p0:CPow 10 18:=⟨by decide,by decide,by decide⟩
 have hr:RngOk (if (60:Int) < (ns.length:Int) then (60:Int) else ns.length):=by
  split<;>exact rngOk (by lia) (by lia)
 by_cases hlt:c < 1000000000000000000
 ·refine ⟨0,mix,by lia,hm,zll rfl ?_⟩;have hs:=small 2 (by lia);simp at ec;simp[ec,m0,hr,e,p0,hlt,hs]
 ·refine ⟨c,mix,hc,hm,zll rfl ?_⟩;have hs:=small 2 (by lia);simp at ec;simp[ec,m0,hr,e,p0,hlt,hs]
theorem seqN {s t:SS} {σ σ1:DS} {st st1:Store} {r:Res Fl} (h:s σ st=.ok (.nx σ1) st1) (k:t σ1 st1=r):sSeq s t σ st=r:=by
 rw[zbch,h];exact k
noncomputable def flipL (ks:List (List Int)) (k:List Int):List (List Int):=if k∈ks then ks.filter (fun x=>decide (x≠k)) else ks++[k]
noncomputable def oddL (l:List (List Int)):List (List Int):=l.foldl flipL []
theorem zeh {ks:List (List Int)} {k x:List Int}:x∈flipL ks k↔(x∈ks/\x≠k)\/(x=k/\k∉ks):=by
 unfold flipL;split
 ·rename_i h;simp[xhy,h]
 ·rename_i h;simp only[xcc,xbl];constructor
  ·rintro (z | rfl)
   ·exact .inl ⟨z,fun e=>h (e ▸ z)⟩
   ·exact .inr ⟨rfl,h⟩
  ·rintro (⟨z,_⟩ | ⟨z,_⟩)
   ·exact .inl z
   ·exact .inr z
theorem zlm {ks:List (List Int)} {k:List Int} (h:ks.Nodup):(flipL ks k).Nodup:=by
 unfold flipL;split
 ·exact h.filter _
 ·rename_i hk;rw[List.nodup_append];exact ⟨h,by simp,fun a ha b hb=>by simp at hb;subst hb;exact fun e=>hk (e ▸ ha)⟩
theorem zjd (ks:List (List Int)) (k:List Int):(flipL ks k).length<=ks.length+1:=by
 unfold flipL;split
 ·exact xfk (xjg _ _)
 ·simp
theorem zjv:∀(l ks:List (List Int)),ks.Nodup->(l.foldl flipL ks).Nodup/\(l.foldl flipL ks).length<=ks.length+l.length/\∀x,x∈l.foldl flipL ks↔(l.count x+if x∈ks then 1 else 0) % 2=1
 | [],ks,h=>⟨h,by simp,fun x=>by by_cases e:x∈ks<;>simp[e]⟩
 | a::l,ks,h=>by
  obtain ⟨h1,h2,h3⟩:=zjv l (flipL ks a) (zlm h);refine ⟨h1,?_,fun x=>?_⟩
  ·have:=zjd ks a;rw[xjm,xby];lia
  ·rw[xjm,h3 x,List.count_cons];by_cases e:x=a
   ·subst e;by_cases k:x∈ks
    ·have q:x∉flipL ks x:=by rw[zeh];simp[k]
     simp only[q,k,xfn,xem,xfb]<;>lia
    ·have q:x∈flipL ks x:=by rw[zeh];simp[k]
     simp only[q,k,xfn,xem,xfb]<;>lia
   ·have e':(a == x)=false:=by simpa using fun z:a=x=>e z.symm
    by_cases k:x∈ks
    ·have q:x∈flipL ks a:=by rw[zeh];simp[k,e]
     simp[q,k,e']
    ·have q:x∉flipL ks a:=by rw[zeh];simp[k,e]
     simp[q,k,e']
theorem zhk (l:List (List Int)):(oddL l).Nodup:=(zjv l [] xij).1
theorem zci (l:List (List Int)):(oddL l).length<=l.length:=by have:=(zjv l [] xij).2.1;simpa [oddL] using this
theorem zmx {l:List (List Int)} {x:List Int}:x∈oddL l↔l.count x % 2=1:=by have:=(zjv l [] xij).2.2 x;simpa [oddL] using this
theorem zky {a b:List (List Int)} (h1:a.Nodup) (h2:b.Nodup) (h:∀x,x∈a↔x∈b):a.Perm b:=(List.perm_ext_iff_of_nodup h1 h2).mpr h
theorem zkw {a b:List (List Int)} (h:a.Perm b):sortR a=sortR b:=zik ((zce a).trans h) (zgi a)
noncomputable def oddS (l:List (List Int)):List (List Int):=sortR (oddL l)
theorem zyq {l m:List (List Int)} (h1:m.Nodup) (h:∀x,x∈m↔l.count x % 2=1):sortR m=oddS l:=zkw (zky h1 (zhk l) fun x=>by rw[h,zmx])
theorem zuh {l:List (List Int)} {x:List Int}:x∈oddS l↔l.count x % 2=1:=by unfold oddS;rw[(zce _).mem_iff,zmx]
theorem zug {l:List (List Int)} {x:List Int} (h:x∈oddS l):x∈l:=by
 rw[zuh] at h;rcases xjz (l.count x) with z | z
 ·rw[z] at h;cases h
 ·exact List.count_pos_iff.mp z
theorem zfu (l:List (List Int)):(oddS l).length<=l.length:=by unfold oddS;rw[zil];exact zci l
theorem zmw (l:List (List Int)):(oddS l).Nodup:=(zce _).nodup_iff.mpr (zhk l)
noncomputable abbrev trueD (ks:List (List Int)):List (List Int × D):=ks.map fun k=>(k,.bl true)
theorem zjo {ks:List (List Int)} {k:List Int}:valD (trueD ks) k=if k∈ks then some (.bl true) else none:=by
 induction ks with
 | nil=>rfl
 | cons a ks ih =>
  unfold valD trueD at ih ⊢;rw[xbq,xei];by_cases e:a=k
  ·simp[e]
  ·simp only[xbu e];rw[ih];simp[xbn,show ¬ k=a from fun z=>e z.symm]
theorem znw {ks:List (List Int)} {k:List Int}:dropD (trueD ks) k=trueD (ks.filter fun x=>decide (x≠k)):=by
 unfold dropD trueD;rw[List.filter_map]
 rfl
theorem zpr {ks:List (List Int)} {k:List Int} (h:k∉ks):putD (trueD ks) k (.bl true)=trueD (ks++[k]):=by
 unfold putD;rw[if_neg]
 ·simp[trueD]
 ·simp only[List.any_map,List.any_eq_true,not_exists,not_and];intro x hx e;have:x=k:=by simpa using e
  exact h (this ▸ hx)
theorem zit {st:Store} {n:Nat} {kvs:List (List Int × D)} (h:st[n]?=some (.dT kvs)):pairsOf st (.ref n)=some kvs:=by
 unfold pairsOf;dsimp only;rw[h]
theorem zuc {st:Store} {n:Nat} {kvs:List (List Int × D)} (h:st[n]?=some (.fT kvs)):pairsOf st (.ref n)=some kvs:=by
 unfold pairsOf;dsimp only;rw[h]
theorem zyt {st:Store} {n:Nat} {kvs:List (List Int × D)} {k:List Int} (h:pairsOf st (.ref n)=some kvs):oDIn false (rowD k) (.ref n) st=.ok (.bl (valD kvs k).isSome) st:=by
 unfold oDIn;rw[zdm,h]
 rfl
theorem zui {st:Store} {n:Nat} {kvs:List (List Int × D)} {k:List Int} {v:D} (h:pairsOf st (.ref n)=some kvs) (hv:valD kvs k=some v):oDGet (.ref n) (rowD k) st=.ok v st:=by
 unfold oDGet;rw[zdm,h];dsimp only;rw[hv]
theorem zzo {st:Store} {n:Nat} {ks:List (List Int)} {k:List Int} (h:st[n]?=some (.dT (trueD ks))) (hl:ks.length<=1000000):zlp [.ref n,rowD k] st=.ok .non (st.set n (.dT (trueD (flipL ks k)))):=by
 have e1:=zyt (k:=k) (zit h);rw[zjo] at e1;by_cases hk:k∈ks
 ·refine zbgs (σ:=[some (.ref n),some (rowD k)]) rfl ?_;rw[if_pos hk] at e1;have e2:valD (trueD ks) k=some (.bl true):=by rw[zjo,if_pos hk]
  have e3:flipL ks k=ks.filter fun x=>decide (x≠k):=by unfold flipL;rw[if_pos hk]
  rw[e3,← znw];have e4:=zit h;have e5:=zdm k;simp only[rowD,trueD] at *
  simp[e1,e4,e5,h,e2]
 ·refine zbgs (σ:=[some (.ref n),some (rowD k)]) rfl ?_;rw[if_neg hk] at e1;have e3:flipL ks k=ks++[k]:=by unfold flipL;rw[if_neg hk]
  rw[e3,← zpr hk];have e5:=zdm k;have e6:(trueD ks).length < sizeLine:=by rw[xbf];exact smallT _ hl
  simp only[rowD,trueD] at *
  simp[e1,e5,h,e6];rw[xbf] at e6;exact e6
noncomputable abbrev cntD (cs:List (List Int × Int)):List (List Int × D):=cs.map fun p=>(p.1,.int p.2)
structure Cnt (cs:List (List Int × Int)) (l:List (List Int)):Prop where
 nd:(cs.map (·.1)).Nodup
 mem:∀k,k∈cs.map (·.1)↔k∈l
 val:∀p∈cs,p.2=(l.count p.1:Nat)
 len:cs.length<=l.length
theorem zbba {cs:List (List Int × Int)} {l:List (List Int)} (h:Cnt cs l) (k:List Int):valD (cntD cs) k=if k∈l then some (.int (l.count k:Nat)) else none:=by
 have gen:∀cs:List (List Int × Int),(∀p∈cs,p.2=(l.count p.1:Nat))->valD (cntD cs) k=if k∈cs.map (·.1) then some (.int (l.count k:Nat)) else none:=by
  intro cs
  induction cs with
  | nil=>intro _;rfl
  | cons a cs ih =>
   intro hv;have ih:=ih fun p hp=>hv p (xci _ hp)
   unfold valD cntD at ih ⊢;rw[xbq,xei];by_cases e:a.1=k
   ·have:=hv a xce;simp only[e,xhg,Option.map_some,xbq,xbn,true_or,xfn];rw[this,e]
   ·simp only[xbu e];rw[ih];simp only[xbq,xbn,show ¬ k=a.1 from fun z=>e z.symm,false_or]
 rw[gen cs h.val];simp only[h.mem]
theorem zbaz {cs:List (List Int × Int)} {l:List (List Int)} (h:Cnt cs l) (k:List Int):∃cs',putD (cntD cs) k (.int ((l.count k:Nat)+1))=cntD cs'/\Cnt cs' (l++[k]):=by
 have any:((cntD cs).any fun kv=>decide (kv.1=k))=decide (k∈l):=by
  rw[xge,decide_eq_true_eq,← h.mem,List.any_eq_true,xdg];constructor
  ·rintro ⟨x,hx,e⟩;obtain ⟨p,hp,rfl⟩:=xdg.mp hx;exact ⟨p,hp,by simpa using e⟩
  ·rintro ⟨p,hp,e⟩;exact ⟨_,xdg.mpr ⟨p,hp,rfl⟩,by simpa using e⟩
 unfold putD;rw[any];by_cases hk:k∈l
 ·rw[if_pos (by simpa using hk)];refine ⟨cs.map fun p=>if p.1=k then (p.1,p.2+1) else p,?_,?_,fun x=>?_,fun p hp=>?_,?_⟩
  ·unfold cntD;rw[xdy,xdy];apply List.map_congr_left;intro p hp;have:=h.val p hp;dsimp only [Function.comp];by_cases e:p.1=k
   ·rw[if_pos e,if_pos e];dsimp only;rw[this,e]
   ·rw[if_neg e,if_neg e]
  ·rw[xdy];have:(((fun x:List Int × Int=>x.1) ∘ fun p:List Int × Int=>if p.1=k then (p.1,p.2+1) else p))=fun p=>p.1:=by
    funext p
    dsimp only [Function.comp];split<;>rfl
   rw[this];exact h.nd
  ·rw[xdy];have:(((fun x:List Int × Int=>x.1) ∘ fun p:List Int × Int=>if p.1=k then (p.1,p.2+1) else p))=fun p=>p.1:=by
    funext p
    dsimp only [Function.comp];split<;>rfl
   rw[this,h.mem,xcc,xbl];constructor
   ·exact .inl
   ·rintro (z | rfl)
    ·exact z
    ·exact hk
  ·obtain ⟨q,hq,rfl⟩:=xdg.mp hp;have:=h.val q hq;by_cases e:q.1=k
   ·rw[if_pos e];dsimp only;rw[this,e,xiu];simp
   ·rw[if_neg e,this,xiu];have:List.count q.1 [k]=0:=by rw[xhc];simpa using e
    rw[this];rfl
  ·rw[xbf,xcb];have:=h.len;lia
 ·rw[if_neg (by simpa using hk)];refine ⟨cs++[(k,1)],?_,?_,fun x=>?_,fun p hp=>?_,?_⟩
  ·rw[xhc.mpr hk];simp[cntD]
  ·rw[xev,List.nodup_append];refine ⟨h.nd,by simp,fun a ha b hb=>?_⟩;simp at hb;subst hb;exact fun e=>hk ((h.mem _).mp (e ▸ ha))
  ·rw[xev,xcc,h.mem,xcc];simp
  ·rcases xcc.mp hp with hp | hp
   ·have e1:=h.val p hp;have e2:p.1≠k:=fun e=>hk ((h.mem _).mp (e ▸ xdg.mpr ⟨p,hp,rfl⟩))
    rw[e1,xiu];have:List.count p.1 [k]=0:=by rw[xhc];simpa using e2
    rw[this];rfl
   ·simp at hp;subst hp;rw[xiu,xhc.mpr hk];simp
  ·rw[xcb,xcb];have:=h.len;simp;exact this
theorem zgk {l:List (List Int)} {i:Nat} {x:D} (h:(rowsD l)[i]?=some x):∃k,l[i]?=some k/\x=rowD k:=by
 unfold rowsD at h;rw[xcp] at h;cases e:l[i]? with
 | none=>rw[e] at h;cases h
 | some k=>rw[e] at h;exact ⟨k,rfl,(xbw h).symm⟩
theorem zk (l:List (List Int)):(rowsD l).length=l.length:=xbf _
theorem zcl {α:Type} {l:List α} {i:Nat} {k:α} (h:l[i]?=some k):l.take (i+1)=l.take i++[k]:=by
 obtain ⟨hi,e⟩:=xbo.mp h;rw[xgo hi,e]
theorem zvq (xs:List D) (k:Nat):cutD xs none (some (k:Int))=xs.take k:=by
 unfold cutD;rw[HT.zmf,HT.zrz,List.drop_zero,Nat.sub_zero];rcases Nat.le_total k xs.length with h | h
 ·rw[xdn h]
 ·rw[xhm h,xfv,xfy h]
theorem zvr (xs:List D) (k:Nat):cutD xs (some (k:Int)) none=xs.drop k:=by
 unfold cutD;rw[HT.zmf,HT.zrz];rcases Nat.le_total k xs.length with h | h
 ·rw[xdn h,xfy (by rw[xek];exact xbg _)]
 ·rw[xhm h,List.drop_length,List.drop_of_length_le h];simp
theorem zzp {st:Store} {r:List Int}:zov [rowD r] st=.ok (.bl (decide (r.length<=6) && decide (r.sum<=16))) st:=by
 refine zll rfl ?_;have e:=zvz (st:=st) (ns:=r);simp only[rowD] at *
 by_cases h:r.length<=6
 ·have h':(r.length:Int)<=6:=by lia
  simp[e,h,h']
 ·have h':¬ (r.length:Int)<=6:=by lia
  simp[e,h,h']
theorem zku {st:Store} {n:Nat} {ks:List (List Int)} (h:st[n]?=some (.dT (trueD ks))) (hl:ks.length<=1000000):bSorted [.ref n] st=.ok (.lst (rowsD (sortR ks))) st:=by
 rw[zjk h (by rw[xbf];exact hl),xdy]
 congr 2
 exact congrArg (fun l=>rowsD (sortR l)) (List.map_id ks)
end Dd
namespace K07
open PySem L2
end K07
namespace K23
open PySem L2 K07
end K23
namespace Dd
open PySem L2 K07 K23
noncomputable def slowAt (r:List Int) (p:Nat):Prop:=∃a b:Int,r[p]?=some a/\r[p+1]?=some b/\a < 2 * b
noncomputable instance (r:List Int) (p:Nat):Decidable (slowAt r p) :=
 match h1:r[p]?,h2:r[p+1]? with
 | some a,some b=>if h:a < 2 * b then .isTrue ⟨a,b,h1,h2,h⟩ else .isFalse fun ⟨x,y,e1,e2,e3⟩=>by rw[h1] at e1;rw[h2] at e2;cases e1;cases e2;exact h e3
 | none,_=>.isFalse fun ⟨x,y,e1,_⟩=>by rw[h1] at e1;cases e1
 | some _,none=>.isFalse fun ⟨x,y,_,e2,_⟩=>by rw[h2] at e2;cases e2
theorem rngN {j:Int} (h1:-10000<=j) (h2:j<=10000):RngOk j:=rngOk (by lia) (by lia)
theorem zma {r:List Int} (h:∀p∈r,1<=p):0<=r.sum:=by
 induction r with
 | nil=>simp
 | cons a r ih =>
  rw[List.sum_cons];have:=h a xce;have:=ih fun p hp=>h p (xci _ hp)
  lia
theorem zwc (xs:List D) (y:D):L2.atI (xs++[y]) (-1)=some y:=by
 unfold L2.atI ixN;rw[xcb];have e:((-1:Int)+((xs.length+[y].length:Nat):Int)).toNat=xs.length:=by simp;lia
 rw[if_neg (by lia),if_pos (by simp;lia),e];simp
end Dd
namespace Dd
open PySem L2
noncomputable def WP {α:Type} (r:Res α) (Q:α->Store->Prop):Prop:=match r with
 | .ok a st=>Q a st
 | _=>False
theorem WP.get {α:Type} {r:Res α} {Q:α->Store->Prop} (h:WP r Q):∃a st,r=.ok a st/\Q a st:=by
 cases r with
 | ok a st=>exact ⟨a,st,rfl,h⟩
 | exc x st=>exact h.elim
 | stuck=>exact h.elim
theorem WP.of {α:Type} {r:Res α} {Q:α->Store->Prop} {a:α} {st:Store} (e:r=.ok a st) (h:Q a st):WP r Q:=by rw[e];exact h
theorem WP.mono {α:Type} {r:Res α} {Q Q':α->Store->Prop} (h:WP r Q) (k:∀a st,Q a st->Q' a st):WP r Q':=by
 obtain ⟨a,st,rfl,q⟩:=h.get;exact k a st q
theorem zl {α β:Type} {r:Res α} {f:α->Store->Res β} {Q:β->Store->Prop}:WP (r.bind f) Q=WP r (fun a st=>WP (f a st) Q):=by
 cases r<;>rfl
noncomputable def seqK (t:SS) (Q:Fl->Store->Prop):Fl->Store->Prop:=fun fl st=>match fl with
 | .nx σ=>WP (t σ st) Q
 | fl=>Q fl st
theorem zwq {s t:SS} {σ:DS} {st:Store} {Q:Fl->Store->Prop}:WP (sSeq s t σ st) Q=WP (s σ st) (seqK t Q):=by
 unfold sSeq;cases s σ st with
 | ok fl st1=>cases fl<;>rfl
 | exc x st=>rfl
 | stuck=>rfl
theorem zoy {α:Type} {c:Prop} [Decidable c] {a b:Res α} {Q:α->Store->Prop}:WP (if c then a else b) Q=if c then WP a Q else WP b Q:=by
 split<;>rfl
theorem zig {α:Type} {c:Prop} [Decidable c] {a:Res α} {Q:α->Store->Prop}:WP (if c then a else .stuck) Q=(c/\WP a Q):=by
 by_cases h:c
 ·rw[if_pos h];simp[h]
 ·rw[if_neg h];simp[h,WP]
noncomputable def retK (Q:D->Store->Prop):Fl->Store->Prop:=fun fl st=>match fl with
 | .ret v=>Q v st
 | .nx _=>Q .non st
 | _=>False
theorem zls {n np:Nat} {b:SS} {ds:List D} {st:Store} {Q:D->Store->Prop} (h:ds.length=np) (k:WP (b (ds.map some++List.replicate (n - np) none) st) (retK Q)):WP (fnD n np b ds st) Q:=by
 obtain ⟨fl,st',e,q⟩:=k.get;unfold fnD;rw[if_pos h,e];cases fl<;>first | exact q | exact q.elim
noncomputable def bK (Q:Bool->Store->Prop):D->Store->Prop:=fun v st=>match v with
 | .bl b=>Q b st
 | _=>False
noncomputable def gK (bd:SG) (Q:Fl->Store->Prop) (σ:DS):D->Store->Prop:=fun v st=>match bd v σ with
 | some σ1=>Q (.nx σ1) st
 | none=>False
theorem W:(∀{α:Type} {a:α} {st:Store} {Q:α->Store->Prop},WP (.ok a st) Q=Q a st)
 /\ (∀{s t:SS} {σ:DS} {st:Store} {Q:Fl->Store->Prop},WP (sSeq s t σ st) Q=WP (s σ st) (seqK t Q))
 /\ (∀{t:SS} {σ:DS} {st:Store} {Q:Fl->Store->Prop},seqK t Q (.nx σ) st=WP (t σ st) Q)
 /\ (∀{t:SS} {v:D} {st:Store} {Q:Fl->Store->Prop},seqK t Q (.ret v) st=Q (.ret v) st)
 /\ (∀{t:SS} {σ:DS} {st:Store} {Q:Fl->Store->Prop},seqK t Q (.brk σ) st=Q (.brk σ) st)
 /\ (∀{t:SS} {σ:DS} {st:Store} {Q:Fl->Store->Prop},seqK t Q (.ct σ) st=Q (.ct σ) st)
 /\ (∀{v:D} {st:Store} {Q:D->Store->Prop},retK Q (.ret v) st=Q v st)
 /\ (∀{σ:DS} {st:Store} {Q:D->Store->Prop},retK Q (.nx σ) st=Q .non st)
 /\ (∀{b:Bool} {st:Store} {Q:Bool->Store->Prop},bK Q (.bl b) st=Q b st)
 /\ (∀{d:D} {σ:DS} {st:Store} {Q:D->Store->Prop},WP (eC d σ st) Q=Q d st)
 /\ (∀{g:D->D->Store->Res D} {f f':SE} {σ:DS} {st:Store} {Q:D->Store->Prop},WP (eOp g f f' σ st) Q=WP (f σ st) (fun x st1=>WP (f' σ st1) (fun y st2=>WP (g x y st2) Q)))
 /\ (∀{g:D->Store->Res D} {f:SE} {σ:DS} {st:Store} {Q:D->Store->Prop},WP (eUn g f σ st) Q=WP (f σ st) (fun x st1=>WP (g x st1) Q))
 /\ (∀{g:List D->Store->Res D} {f:SA} {σ:DS} {st:Store} {Q:D->Store->Prop},WP (eCall g f σ st) Q=WP (f σ st) (fun x st1=>WP (g x st1) Q))
 /\ (∀{σ:DS} {st:Store} {Q:List D->Store->Prop},WP (aNil σ st) Q=Q [] st)
 /\ (∀{f:SE} {g:SA} {σ:DS} {st:Store} {Q:List D->Store->Prop},WP (aCons f g σ st) Q=WP (f σ st) (fun x st1=>WP (g σ st1) (fun xs st2=>Q (x::xs) st2)))
 /\ (∀{f:SE} {σ:DS} {st:Store} {Q:Bool->Store->Prop},WP (eB f σ st) Q=WP (f σ st) (bK Q))
 /\ (∀{f f':ST} {σ:DS} {st:Store} {Q:Bool->Store->Prop},WP (bAnd f f' σ st) Q=WP (f σ st) (fun b st1=>if b=true then WP (f' σ st1) Q else Q false st1))
 /\ (∀{f f':ST} {σ:DS} {st:Store} {Q:Bool->Store->Prop},WP (bOr f f' σ st) Q=WP (f σ st) (fun b st1=>if b=true then Q true st1 else WP (f' σ st1) Q))
 /\ (∀{f:ST} {σ:DS} {st:Store} {Q:Bool->Store->Prop},WP (bNot f σ st) Q=WP (f σ st) (fun b st1=>Q (!b) st1))
 /\ (∀{σ:DS} {st:Store} {Q:Bool->Store->Prop},WP (bYes σ st) Q=Q true st)
 /\ (∀{f f':SE} {σ:DS} {st:Store} {Q:D->Store->Prop},WP (eAnd f f' σ st) Q=WP (f σ st) (bK fun b st1=>if b=true then WP (f' σ st1) Q else Q (.bl false) st1))
 /\ (∀{f f':SE} {σ:DS} {st:Store} {Q:D->Store->Prop},WP (eOr f f' σ st) Q=WP (f σ st) (bK fun b st1=>if b=true then Q (.bl true) st1 else WP (f' σ st1) Q))
 /\ (∀{f:SE} {σ:DS} {st:Store} {Q:D->Store->Prop},WP (eNot f σ st) Q=WP (f σ st) (bK fun b st1=>Q (.bl (!b)) st1))
 /\ (∀{c:ST} {f f':SE} {σ:DS} {st:Store} {Q:D->Store->Prop},WP (eIf c f f' σ st) Q=WP (c σ st) (fun b st1=>if b=true then WP (f σ st1) Q else WP (f' σ st1) Q))
 /\ (∀{g:SA} {σ:DS} {st:Store} {Q:D->Store->Prop},WP (eTup g σ st) Q=WP (g σ st) (fun xs st1=>xs.length<=sizeLine/\Q (.tup xs) st1))
 /\ (∀{g:SA} {σ:DS} {st:Store} {Q:D->Store->Prop},WP (eLst g σ st) Q=WP (g σ st) (fun xs st1=>xs.length<=sizeLine/\Q (.lst xs) st1))
 /\ (∀{g:SA} {σ:DS} {st:Store} {Q:D->Store->Prop},WP (eLstM g σ st) Q=WP (g σ st) (fun xs st1=>xs.length<=sizeLine/\Q (.ref st1.length) (st1++[.lst xs])))
 /\ (∀{σ:DS} {st:Store} {Q:D->Store->Prop},WP (eDNew σ st) Q=Q (.ref st.length) (st++[.dT []]))
 /\ (∀{σ:DS} {st:Store} {Q:Fl->Store->Prop},WP (sNx σ st) Q=Q (.nx σ) st)
 /\ (∀{σ:DS} {st:Store} {Q:Fl->Store->Prop},WP (sBrk σ st) Q=Q (.brk σ) st)
 /\ (∀{σ:DS} {st:Store} {Q:Fl->Store->Prop},WP (sCt σ st) Q=Q (.ct σ) st)
 /\ (∀{σ:DS} {st:Store} {Q:Fl->Store->Prop},WP (sRetN σ st) Q=Q (.ret .non) st)
 /\ (∀{f:SE} {σ:DS} {st:Store} {Q:Fl->Store->Prop},WP (sRet f σ st) Q=WP (f σ st) (fun v st1=>Q (.ret v) st1))
 /\ (∀{f:SE} {σ:DS} {st:Store} {Q:Fl->Store->Prop},WP (sDrop f σ st) Q=WP (f σ st) (fun _ st1=>Q (.nx σ) st1))
 /\ (∀{i:Nat} {f:SE} {σ:DS} {st:Store} {Q:Fl->Store->Prop},WP (sSet i f σ st) Q=WP (f σ st) (fun v st1=>Q (.nx (σ.set i (some v))) st1))
 /\ (∀{bd:SG} {f:SE} {σ:DS} {st:Store} {Q:Fl->Store->Prop},WP (sSetG bd f σ st) Q=WP (f σ st) (gK bd Q σ))
 /\ (∀{c:ST} {s t:SS} {σ:DS} {st:Store} {Q:Fl->Store->Prop},WP (sIf c s t σ st) Q=WP (c σ st) (fun b st1=>if b=true then WP (s σ st1) Q else WP (t σ st1) Q))
 /\ (∀{it:SA} {bd:SG} {body:SS} {σ:DS} {st:Store} {Q:Fl->Store->Prop},WP (sFor it bd body σ st) Q=WP (it σ st) (fun xs st1=>WP (forF bd body xs σ st1) Q))
 /\ (∀{it:SA} {k:Nat} {is:List Nat} {bd:SG} {c:ST} {f:SE} {σ:DS} {st:Store} {Q:D->Store->Prop},WP (eComp it k is bd c f σ st) Q=WP (it σ st) (fun xs st1=>xs.length<=sizeLine/\WP (compF bd c f xs (startD k is σ) st1) (fun ys st2=>Q (.lst ys) st2)))
 /\ (∀{it:SA} {k:Nat} {is:List Nat} {bd:SG} {c:ST} {f:SE} {σ:DS} {st:Store} {Q:D->Store->Prop},WP (eCompM it k is bd c f σ st) Q=WP (it σ st) (fun xs st1=>xs.length<=sizeLine/\WP (compF bd c f xs (startD k is σ) st1) (fun ys st2=>Q (.ref st2.length) (st2++[.lst ys]))))
 /\ (∀{C:Int->Int->Prop} [DecidableRel C] {h:Int->Int->D} {i j:Int} {st:Store} {Q:D->Store->Prop},WP (oI C h (.int i) (.int j) st) Q=(C i j/\Q (h i j) st))
 /\ (∀{i j:Int} {st:Store} {Q:D->Store->Prop},WP (oAdd (.int i) (.int j) st) Q=Q (.int (i+j)) st)
 /\ (∀{a b:List D} {st:Store} {Q:D->Store->Prop},WP (oAdd (.tup a) (.tup b) st) Q=(a.length+b.length<=sizeLine/\Q (.tup (a++b)) st))
 /\ (∀{i j:Int} {st:Store} {Q:D->Store->Prop},WP (oLtT (.int i) (.int j) st) Q=Q (.bl (decide (i < j))) st)
 /\ (∀{i j:Int} {st:Store} {Q:D->Store->Prop},WP (oEqG false (.int i) (.int j) st) Q=Q (.bl (decide (i=j))) st)
 /\ (∀{i j:Int} {st:Store} {Q:D->Store->Prop},WP (oEqG true (.int i) (.int j) st) Q=Q (.bl (!decide (i=j))) st)
 /\ (∀{i:Int} {st:Store} {Q:D->Store->Prop},WP (oNeg (.int i) st) Q=Q (.int (-i)) st)
 /\ (∀{i j:Int} {g:Int->Int->Int} {st:Store} {Q:D->Store->Prop},WP (b2I g [.int i,.int j] st) Q=Q (.int (g i j)) st)
 /\ (∀{i:Int} {st:Store} {Q:D->Store->Prop},WP (bAbs [.int i] st) Q=Q (.int (if i < 0 then -i else i)) st)
 /\ (∀{b:Bool} {st:Store} {Q:D->Store->Prop},WP (bInt [.bl b] st) Q=Q (.int (if b=true then 1 else 0)) st)
 /\ (∀{xs:List D} {st:Store} {Q:D->Store->Prop},WP (bLen [.tup xs] st) Q=Q (.int xs.length) st)
 /\ (∀{xs:List D} {st:Store} {Q:D->Store->Prop},WP (bLen [.lst xs] st) Q=Q (.int xs.length) st)
 /\ (∀{xs:List D} {st:Store} {Q:D->Store->Prop},WP (bLen [.scr xs] st) Q=Q (.int xs.length) st)
 /\ (∀{xs:List D} {st:Store} {Q:D->Store->Prop},WP (bTuple [.tup xs] st) Q=Q (.tup xs) st)
 /\ (∀{xs:List D} {st:Store} {Q:D->Store->Prop},WP (bTuple [.lst xs] st) Q=Q (.tup xs) st)
 /\ (∀{xs:List D} {st:Store} {Q:D->Store->Prop},WP (bList [.tup xs] st) Q=Q (.lst xs) st)
 /\ (∀{xs:List D} {st:Store} {Q:D->Store->Prop},WP (bList [.lst xs] st) Q=Q (.lst xs) st)
 /\ (∀{d:D} {σ:DS} {st:Store} {Q:D->Store->Prop},WP (eVar 0 (some d::σ) st) Q=Q d st)
 /\ (∀{i:Nat} {σ:DS} {st:Store} {Q:D->Store->Prop} {o:Option D},WP (eVar (i+1) (o::σ) st) Q=WP (eVar i σ st) Q)
 /\ (∀{f:SE} {σ:DS} {st:Store} {Q:List D->Store->Prop},WP (iSeq f σ st) Q=WP (f σ st) (fun x st1=>∃xs,seqV x=some xs/\Q xs st1))
 /\ (∀{f:SE} {σ:DS} {st:Store} {Q:Bool->Store->Prop},WP (eTru f σ st) Q=WP (f σ st) (fun x st1=>∃b,tru st1 x=some b/\Q b st1))
 /\ (∀{g:SA} {σ:DS} {st:Store} {Q:List D->Store->Prop},WP (iR1 g σ st) Q=WP (g σ st) (fun xs st1=>∃j,xs=[.int j]/\RngOk j/\Q (rng 0 j.toNat) st1))
 /\ (∀{g:SA} {σ:DS} {st:Store} {Q:List D->Store->Prop},WP (iR2 g σ st) Q=WP (g σ st) (fun xs st1=>∃i j,xs=[.int i,.int j]/\RngOk i/\RngOk j/\Q (rng i (j - i).toNat) st1)):=by
 have g2:∀{α:Type} {c:Prop} [Decidable c] {a:α} {st:Store} {Q:α->Store->Prop},WP (if c then .ok a st else .stuck) Q=(c/\Q a st):=fun {α c _ a st Q}=>zig
 refine ⟨rfl,zwq,rfl,rfl,rfl,rfl,rfl,rfl,rfl,rfl,?_⟩;refine ⟨?_,?_⟩
 ·intros;rw[zbgu,zl];congr;funext x st1;rw[zl]
 refine ⟨zl,zl,rfl,?_⟩;refine ⟨?_,?_⟩
 ·intros;rw[zos,zl];congr;funext x st1;rw[zl];rfl
 refine ⟨?_,?_⟩
 ·intros;rw[eB_v,zl];congr;funext x st1;cases x<;>rfl
 refine ⟨?_,?_⟩
 ·intros;rw[zbfx,zl];congr;funext x st1;rw[zoy];rfl
 refine ⟨?_,?_⟩
 ·intros;rw[zbiv,zl];congr;funext x st1;rw[zoy];rfl
 refine ⟨zl,rfl,?_⟩;refine ⟨?_,?_⟩
 ·intros;rw[zbek,zl];congr;funext x st1;cases x<;>try rfl
  rename_i b;cases b<;>rfl
 refine ⟨?_,?_⟩
 ·intros;rw[zbib,zl];congr;funext x st1;cases x<;>try rfl
  rename_i b;cases b<;>rfl
 refine ⟨?_,?_⟩
 ·intros;rw[zbeh,zl];congr;funext x st1;cases x<;>rfl
 refine ⟨?_,?_⟩
 ·intros;rw[zbic,zl];congr;funext x st1;rw[zoy]
 refine ⟨?_,?_⟩
 ·intros;rw[zbef,zl];congr;funext x st1;rw[g2]
 refine ⟨?_,?_⟩
 ·intros;rw[zbei,zl];congr;funext x st1;rw[g2]
 refine ⟨?_,?_⟩
 ·intros;rw[zzs,zl];congr;funext x st1;rw[g2]
 refine ⟨rfl,rfl,rfl,rfl,rfl,zl,zl,zl,?_⟩;refine ⟨?_,?_⟩
 ·intro bd f σ st Q;unfold sSetG;rw[zl];congr;funext x st1;unfold gK;cases bd x σ<;>rfl
 refine ⟨?_,?_⟩
 ·intros;rw[zbhg,zl];congr;funext x st1;rw[zoy]
 refine ⟨zl,?_⟩;refine ⟨?_,?_⟩
 ·intros;rw[zsm,zl];congr;funext x st1;rw[zig,zl];rfl
 refine ⟨?_,?_⟩
 ·intros;unfold eCompM;rw[zl];congr;funext x st1;rw[zig,zl];rfl
 refine ⟨?_,?_⟩
 ·intros;rw[oI_v,g2]
 refine ⟨rfl,?_⟩;refine ⟨?_,?_⟩
 ·intros;rw[zbdm,g2]
 refine ⟨rfl,?_⟩;refine ⟨?_,?_⟩
 ·intros;rw[show ∀i j st,oEqG false (.int i) (.int j) st=_ from fun i j st=>zbhw];rfl
 refine ⟨?_,?_⟩
 ·intros;rw[show ∀i j st,oEqG true (.int i) (.int j) st=_ from fun i j st=>zbht];rfl
 refine ⟨rfl,rfl,rfl,rfl,rfl,rfl,rfl,rfl,rfl,rfl,rfl,fun {d σ st Q}=>rfl,fun {i σ st Q o}=>rfl,?_⟩;refine ⟨?_,?_⟩
 ·intros;rw[zbea,zl];congr;funext x st1
  cases h:seqV x with
  | none=>simp[WP]
  | some xs=>simp[WP]
 refine ⟨?_,?_⟩
 ·intros;rw[zbeg,zl];congr;funext x st1
  cases h:tru st1 x with
  | none=>simp[WP]
  | some xs=>simp[WP]
 refine ⟨?_,?_⟩
 ·intros;rw[zbhz,zl];congr;funext x st1
  split
  ·rw[g2];simp[RngOk]
  ·rename_i hne;have:∀j,x≠[D.int j]:=fun j h=>hne j h
   simp[WP,this]
 ·intros;rw[zbhy,zl];congr;funext x st1
  split
  ·rw[g2];simp only[RngOk,List.cons.injEq,D.int.injEq,and_true];apply propext;constructor
   ·rintro ⟨h,q⟩;exact ⟨_,_,⟨rfl,rfl⟩,h.1,h.2,q⟩
   ·rintro ⟨i',j',⟨rfl,rfl⟩,h1,h2,q⟩;exact ⟨⟨h1,h2⟩,q⟩
  ·rename_i hne;have:∀i j,x≠[D.int i,D.int j]:=fun i j h=>hne i j h
   simp[WP,this]
noncomputable def loopK (I:DS->Store->Prop) (Q:Fl->Store->Prop):Fl->Store->Prop:=fun fl st=>match fl with
 | .nx σ=>I σ st
 | .ct σ=>I σ st
 | .brk σ=>Q (.nx σ) st
 | .ret v=>Q (.ret v) st
theorem zfl {bd:SG} {body:SS} {Q:Fl->Store->Prop} (I:Nat->DS->Store->Prop):∀(xs:List D) (k:Nat) (σ:DS) (st:Store),I k σ st ->
  (∀i x σ st,xs[i]?=some x->I (k+i) σ st->∃σ1,bd x σ=some σ1/\WP (body σ1 st) (loopK (I (k+i+1)) Q))->(∀σ st,I (k+xs.length) σ st->Q (.nx σ) st)->WP (forF bd body xs σ st) Q
 | [],k,σ,st,h,_,q=>q σ st h
 | x::xs,k,σ,st,h,s,q=>by
  obtain ⟨σ1,e1,w⟩:=s 0 x σ st rfl h;obtain ⟨fl,st2,e2,w⟩:=w.get;unfold forF;rw[e1];dsimp only;rw[e2]
  have go:∀σ2,I (k+0+1) σ2 st2->WP (forF bd body xs σ2 st2) Q:=fun σ2 h2=>zfl I xs (k+1) σ2 st2 h2 (fun i y σ st hy hi=>by
   have:=s (i+1) y σ st (by simpa using hy) (by rw[show k+(i+1)=k+1+i by lia];exact hi);rw[show k+(i+1)+1=k+1+i+1 by lia] at this
   exact this) (fun σ st h=>q σ st (by rw[xby,show k+(xs.length+1)=k+1+xs.length by lia];exact h))
  cases fl with
  | nx σ2=>exact go σ2 w
  | ct σ2=>exact go σ2 w
  | brk σ2=>exact w
  | ret v=>exact w
theorem zks {bd:SG} {body:SS} {Q:Fl->Store->Prop} (I:Nat->DS->Store->Prop) {xs:List D} {σ:DS} {st:Store} (h0:I 0 σ st)
  (s:∀i x σ st,xs[i]?=some x->I i σ st->∃σ1,bd x σ=some σ1/\WP (body σ1 st) (loopK (I (i+1)) Q)) (q:∀σ st,I xs.length σ st->Q (.nx σ) st):WP (forF bd body xs σ st) Q :=
 zfl I xs 0 σ st h0 (fun i x σ st hx hi=>by rw[xdq] at hi ⊢;exact s i x σ st hx hi) fun σ st h=>q σ st (by rw[xdq] at h;exact h)
theorem L:(∀{I:DS->Store->Prop} {Q:Fl->Store->Prop} {σ:DS} {st:Store},loopK I Q (.nx σ) st=I σ st)
 /\ (∀{I:DS->Store->Prop} {Q:Fl->Store->Prop} {σ:DS} {st:Store},loopK I Q (.ct σ) st=I σ st)
 /\ (∀{I:DS->Store->Prop} {Q:Fl->Store->Prop} {σ:DS} {st:Store},loopK I Q (.brk σ) st=Q (.nx σ) st)
 /\ (∀{I:DS->Store->Prop} {Q:Fl->Store->Prop} {v:D} {st:Store},loopK I Q (.ret v) st=Q (.ret v) st):=⟨rfl,rfl,rfl,rfl⟩
theorem zdd {bd:SG} {c:ST} {f:SE} (I:Nat->List D->DS->Store->Prop):∀(xs:List D) (k:Nat) (acc:List D) (σ:DS) (st:Store) (Q:List D->Store->Prop),I k acc σ st ->
  (∀i x acc σ st,xs[i]?=some x->I (k+i) acc σ st->∃σ1,bd x σ=some σ1/\WP (c σ1 st) (fun b st1=>if b=true then WP (f σ1 st1) (fun y st2=>I (k+i+1) (acc++[y]) σ1 st2) else I (k+i+1) acc σ1 st1)) ->
  (∀ys σ st,I (k+xs.length) (acc++ys) σ st->Q ys st)->WP (compF bd c f xs σ st) Q
 | [],k,acc,σ,st,Q,h,_,q=>q [] σ st (by rw[xdm];exact h)
 | x::xs,k,acc,σ,st,Q,h,s,q=>by
  obtain ⟨σ1,e1,w⟩:=s 0 x acc σ st rfl h;obtain ⟨b,st1,e2,w⟩:=w.get;have s':∀i y acc σ st,xs[i]?=some y->I (k+1+i) acc σ st->∃σ1,bd y σ=some σ1/\WP (c σ1 st) (fun b st1=>if b=true then WP (f σ1 st1) (fun y st2=>I (k+1+i+1) (acc++[y]) σ1 st2) else I (k+1+i+1) acc σ1 st1):=fun i y acc σ st hy hi=>by
   have:=s (i+1) y acc σ st (by simpa using hy) (by rw[show k+(i+1)=k+1+i by lia];exact hi);rw[show k+(i+1)+1=k+1+i+1 by lia] at this;exact this
  have ln:∀(zs:List D) σ st,I (k+1+xs.length) zs σ st->I (k+(x::xs).length) zs σ st:=fun zs σ st h=>by rw[xby,show k+(xs.length+1)=k+1+xs.length by lia];exact h
  unfold compF;rw[e1];dsimp only;rw[e2];dsimp only [zdc];cases b with
  | false =>
   rw[if_neg (by decide)] at w ⊢;exact zdd I xs (k+1) acc σ1 st1 Q w s' fun ys σ st h=>q ys σ st (ln _ _ _ h)
  | true =>
   rw[if_pos rfl] at w ⊢;obtain ⟨y,st2,e3,w⟩:=w.get;rw[e3];dsimp only [zdc];rw[zl];exact zdd I xs (k+1) (acc++[y]) σ1 st2 _ w s' fun ys σ st h=>q (y::ys) σ st (ln _ _ _ (by rw[xcg] at h;exact h))
theorem zlt {bd:SG} {c:ST} {f:SE} {Q:List D->Store->Prop} (I:Nat->List D->DS->Store->Prop) {xs:List D} {σ:DS} {st:Store} (h0:I 0 [] σ st)
  (s:∀i x acc σ st,xs[i]?=some x->I i acc σ st->∃σ1,bd x σ=some σ1/\WP (c σ1 st) (fun b st1=>if b=true then WP (f σ1 st1) (fun y st2=>I (i+1) (acc++[y]) σ1 st2) else I (i+1) acc σ1 st1))
  (q:∀ys σ st,I xs.length ys σ st->Q ys st):WP (compF bd c f xs σ st) Q :=
 zdd I xs 0 [] σ st Q h0 (fun i x acc σ st hx hi=>by rw[xdq] at hi ⊢;exact s i x acc σ st hx hi) fun ys σ st h=>q ys σ st (by rw[xdq] at h;simpa using h)
theorem zws {bd:SG} {c:ST} {f:SE} {α:Type} (S:DS->Prop) (P:α->Bool) (G:α->D) (E:α->D) {as:List α} {σ:DS} {st:Store} {Q:List D->Store->Prop} (h0:S σ)
  (s:∀x∈as,∀σ,S σ->∃σ1,bd (E x) σ=some σ1/\S σ1/\WP (c σ1 st) (fun b st1=>st1=st/\b=P x)/\(P x=true->WP (f σ1 st) (fun y st1=>st1=st/\y=G x)))
  (q:Q ((as.filter P).map G) st):WP (compF bd c f (as.map E) σ st) Q:=by
 refine zlt (fun i acc σ s'=>S σ/\s'=st/\acc=((as.take i).filter P).map G) ⟨h0,rfl,rfl⟩ (fun i x acc σ s' hx hI=>?_) fun ys σ s' hI=>?_
 ·obtain ⟨hS,rfl,rfl⟩:=hI;rw[xcp] at hx;obtain ⟨z,hz,rfl⟩:=xcv.mp hx;obtain ⟨σ1,e1,hS1,w1,w2⟩:=s z (xch hz) σ hS;refine ⟨σ1,e1,w1.mono fun b st1 hb=>?_⟩;obtain ⟨rfl,rfl⟩:=hb;cases hP:P z with
  | false =>
   rw[if_neg (by decide)];refine ⟨hS1,rfl,?_⟩;rw[zcl hz,xih,xer (by rw[hP];decide)];simp
  | true =>
   rw[if_pos rfl];refine (w2 hP).mono fun y st2 hy=>?_
   obtain ⟨rfl,rfl⟩:=hy;refine ⟨hS1,rfl,?_⟩;rw[zcl hz,xih,xes hP,xev];simp
 ·obtain ⟨_,rfl,rfl⟩:=hI;rw[xbf,xfv];exact q
theorem V:(∀{α:Type} {a b:α} {l:List α},(a::l).set 0 b=b::l)
 /\ (∀{α:Type} {a b:α} {l:List α} {i:Nat},(a::l).set (i+1) b=a::l.set i b)
 /\ (∀{σ:DS} {k:Nat} {is:List Nat},startD k is σ=List.replicate k none++is.map fun i=>(σ[i]?).getD none)
 /\ (∀{α:Type} {a:α} {k:Nat},List.replicate (k+1) a=a::List.replicate k a)
 /\ (∀{α:Type} {a:α},List.replicate 0 a=[])
 /\ (∀{α β:Type} {f:α->β} {a:α} {l:List α},(a::l).map f=f a::l.map f)
 /\ (∀{α β:Type} {f:α->β},([]:List α).map f=[])
 /\ (∀{α:Type} {a:α} {l m:List α},(a::l)++m=a::(l++m))
 /\ (∀{α:Type} {l:List α},[]++l=l)
 /\ (∀{α:Type} {a:α} {l:List α},(a::l)[0]?=some a)
 /\ (∀{α:Type} {a:α} {l:List α} {i:Nat},(a::l)[i+1]?=l[i]?)
 /\ (∀{α:Type} {a:α} {d:α},(some a).getD d=a)
 /\ (∀{i:Nat} {d:D} {σ:DS},gN i d σ=some (σ.set i (some d)))
 /\ (∀{p:Prop} [Decidable p],(decide p=true)=p)
 /\ (∀{p:Prop} [Decidable p],((!decide p)=true)=¬ p)
 /\ (∀{b:Bool},((!b)=true)=(b=false))
 /\ (∀{a b:Prop},(if True then a else b)=a)
 /\ (∀{a b:Prop},(if False then a else b)=b)
 /\ (∀{a b:Prop},(if true=true then a else b)=a)
 /\ (∀{a b:Prop},(if false=true then a else b)=b)
 /\ (∀{α:Type} {a b:α},(if True then a else b)=a)
 /\ (∀{α:Type} {a b:α},(if False then a else b)=b)
 /\ ((true=false)=False)/\((false=true)=False)/\((true=true)=True)/\((false=false)=True)/\((¬ True)=False)/\((¬ False)=True):=by
 refine ⟨rfl,rfl,rfl,rfl,rfl,rfl,rfl,rfl,rfl,rfl,?_,rfl,rfl,?_,?_,?_,rfl,rfl,rfl,rfl,rfl,rfl,by simp,by simp,by simp,by simp,by simp,by simp⟩
 ·intros;rfl
 ·intro p _;simp
 ·intro p _;simp
 ·intro b;simp
theorem M:(∀{f:SE} {σ:DS} {st:Store} {Q:Option Int->Store->Prop},WP (pSome f σ st) Q=WP (f σ st) (fun v st1=>∃i,v=.int i/\Q (some i) st1))
 /\ (∀{σ:DS} {st:Store} {Q:Option Int->Store->Prop},WP (pNone σ st) Q=Q none st)
 /\ (∀{f:SE} {lo hi:DS->Store->Res (Option Int)} {σ:DS} {st:Store} {Q:D->Store->Prop},WP (eSl f lo hi σ st) Q=WP (f σ st) (fun x st1=>WP (lo σ st1) (fun l st2=>WP (hi σ st2) (fun h st3=>(∃xs,x=.tup xs/\Q (.tup (cutD xs l h)) st3)\/(∃xs,asL st3 x=some xs/\Q (.lst (cutD xs l h)) st3)))))
 /\ (∀{f:SE} {σ:DS} {st:Store} {Q:D->Store->Prop},WP (eFz f σ st) Q=WP (f σ st) (fun x st1=>∃n xs,x=.ref n/\st1[n]?=some (.lst xs)/\Q (.lst xs) (st1.set n .dead)))
 /\ (∀{f g h:SE} {σ:DS} {st:Store} {Q:Fl->Store->Prop},WP (sSetIx f g h σ st) Q=WP (h σ st) (fun v st1=>WP (f σ st1) (fun x st2=>WP (g σ st2) (fun y st3=>∃n k xs j,x=.ref n/\y=.int k/\st3[n]?=some (.lst xs)/\ixN xs.length k=some j/\Q (.nx σ) (st3.set n (.lst (xs.set j v)))))))
 /\ (∀{f:SE} {g:SA} {σ:DS} {st:Store} {Q:D->Store->Prop},WP (eAppend f g σ st) Q=WP (f σ st) (fun x st1=>∃n xs0,x=.ref n/\st1[n]?=some (.lst xs0)/\WP (g σ st1) (fun ys st2=>∃y xs,ys=[y]/\st2[n]?=some (.lst xs)/\xs.length < sizeLine/\Q .non (st2.set n (.lst (xs++[y]))))))
 /\ (∀{x:D} {st:Store} {Q:D->Store->Prop},WP (bSum [x] st) Q=∃ns,(seqOf st x).bind asInts=some ns/\Q (.int ns.sum) st)
 /\ (∀{x:D} {al:Bool} {st:Store} {Q:D->Store->Prop},WP (bAny al [x] st) Q=∃bs,(asL st x).bind asBools=some bs/\Q (.bl (if al then bs.all id else bs.any id)) st)
 /\ (∀{x:D} {gt:Bool} {st:Store} {Q:D->Store->Prop},WP (bBest gt [x] st) Q=∃n ns,(seqOf st x).bind asInts=some (n::ns)/\Q (.int (bestI gt n ns)) st)
 /\ (∀{g:SA} {σ:DS} {st:Store} {Q:List D->Store->Prop},WP (iZipT g σ st) Q=WP (g σ st) (fun xs st1=>∃a b,xs=[.tup a,.tup b]/\Q (pairsF a b) st1))
 /\ (∀{i:Nat} {g:D->D->Store->Res D} {f:SE} {σ:DS} {st:Store} {Q:Fl->Store->Prop},WP (sAug i g f σ st) Q=∃x,σ[i]?=some (some x)/\WP (f σ st) (fun y st1=>WP (g x y st1) (fun z st2=>Q (.nx (σ.set i (some z))) st2))):=by
 refine ⟨?_,rfl,?_,?_,?_,?_,?_,?_,?_,?_,?_⟩
 ·intros;rw[zyi,zl];congr;funext x st1
  cases x<;>simp[WP]
 ·intros;rw[zbia,zl];congr;funext x st1;rw[zl];congr;funext l st2;rw[zl];congr;funext h st3
  apply propext;split
  ·constructor
   ·intro q;exact .inl ⟨_,rfl,q⟩
   ·rintro (⟨xs,e,q⟩ | ⟨xs,e,q⟩)
    ·cases e;exact q
    ·cases e
  ·rename_i hne;constructor
   ·intro q;split at q
    ·rename_i xs e;exact .inr ⟨xs,e,q⟩
    ·exact q.elim
   ·rintro (⟨xs,e,q⟩ | ⟨xs,e,q⟩)
    ·exact absurd e (hne xs)
    ·rw[e];exact q
 ·intros;rw[zbid,zl];congr;funext x st1
  apply propext;constructor
  ·intro q;split at q
   ·split at q
    ·rename_i xs e;exact ⟨_,xs,rfl,e,q⟩
    ·exact q.elim
   ·exact q.elim
  ·rintro ⟨n,xs,rfl,e,q⟩;dsimp only;rw[e];exact q
 ·intros;rw[ztg,zl];congr;funext v st1;rw[zl];congr;funext x st2;rw[zl];congr;funext y st3
  apply propext;constructor
  ·intro q;split at q
   ·split at q
    ·split at q
     ·exact ⟨_,_,_,_,rfl,rfl,by assumption,by assumption,q⟩
     ·exact q.elim
    ·exact q.elim
   ·exact q.elim
  ·rintro ⟨n,k,xs,j,rfl,rfl,e1,e2,q⟩;dsimp only;rw[e1];dsimp only;rw[e2];exact q
 ·intros;rw[zqz,zl];congr;funext x st1
  apply propext;constructor
  ·intro q;split at q
   ·rename_i n xs0 e;rw[zl] at q;have e':st1[n]?=some (.lst xs0):=by
     unfold asL at e;dsimp only at e;split at e
     ·cases e;assumption
     ·cases e
    refine ⟨n,xs0,rfl,e',q.mono fun ys st2 h=>?_⟩;split at h
    ·split at h
     ·exact ⟨_,_,rfl,by assumption,by assumption,h⟩
     ·exact h.elim
    ·exact h.elim
   ·exact q.elim
  ·rintro ⟨n,xs0,rfl,e,q⟩;rw[zsw e];dsimp only;rw[zl];refine q.mono fun ys st2 h=>?_
   obtain ⟨y,xs,rfl,e2,hl,h⟩:=h;rw[e2];dsimp only;rw[if_pos hl];exact h
 ·intro x st Q;unfold bSum;dsimp only;cases h:(seqOf st x).bind asInts with
  | none=>simp[WP]
  | some ns=>simp[WP]
 ·intro x al st Q;unfold bAny;dsimp only;cases h:(asL st x).bind asBools with
  | none=>simp[WP]
  | some ns=>simp[WP]
 ·intro x gt st Q;unfold bBest;dsimp only;cases h:(seqOf st x).bind asInts with
  | none=>simp[WP]
  | some ns =>
   cases ns with
   | nil=>simp[WP]
   | cons n ns =>
    apply propext;constructor
    ·intro q;exact ⟨_,_,rfl,q⟩
    ·rintro ⟨a,b,e,q⟩;cases e;exact q
 ·intro g σ st Q;unfold iZipT;rw[zl];congr;funext x st1
  apply propext;constructor
  ·intro q;split at q
   ·exact ⟨_,_,rfl,q⟩
   ·exact q.elim
  ·rintro ⟨a,b,rfl,q⟩;exact q
 ·intro i g f σ st Q;rw[zbck];apply propext;constructor
  ·intro q;split at q
   ·rename_i x e;rw[zl] at q;exact ⟨x,e,q.mono fun y st1 h=>by rw[zl] at h;exact h⟩
   ·exact q.elim
  ·rintro ⟨x,e,q⟩;rw[e];dsimp only;rw[zl];exact q.mono fun y st1 h=>by rw[zl];exact h
theorem N:(∀{xs:List D} {P:List D->Prop},(∃ys,D.tup xs=D.tup ys/\P ys)=P xs)
 /\ (∀{i:Int} {P:Int->Prop},(∃j,D.int i=D.int j/\P j)=P i)
 /\ (∀{xs:List D} {st:Store} {P:List D->Prop},(∃ys,asL st (.tup xs)=some ys/\P ys)=False)
 /\ (∀{xs:List D} {st:Store} {P:List D->Prop},(∃ys,asL st (.lst xs)=some ys/\P ys)=P xs)
 /\ (∀{xs:List D} {P:List D->Prop},(∃ys,seqV (.tup xs)=some ys/\P ys)=P xs)
 /\ (∀{xs:List D} {P:List D->Prop},(∃ys,seqV (.lst xs)=some ys/\P ys)=P xs)
 /\ (∀{b:Bool} {st:Store} {P:Bool->Prop},(∃c,tru st (.bl b)=some c/\P c)=P b)
 /\ (∀{i:Int} {P:Int->Prop},(∃j,[D.int i]=[D.int j]/\P j)=P i)
 /\ (∀{i j:Int} {P:Int->Int->Prop},(∃k l,[D.int i,D.int j]=[D.int k,D.int l]/\P k l)=P i j)
 /\ (∀{x:D} {P:D->Prop},(∃y,[x]=[y]/\P y)=P x)
 /\ (∀{a b:List D} {P:List D->List D->Prop},(∃c d,[D.tup a,D.tup b]=[.tup c,.tup d]/\P c d)=P a b)
 /\ (∀{p:Prop},(p\/False)=p)/\(∀{p:Prop},(True/\p)=p):=by
 refine ⟨?_,?_,?_,?_,?_,?_,?_,?_,?_,?_,?_,by simp,by simp⟩
 ·intros;apply propext;exact ⟨fun ⟨_,e,p⟩=>by cases e;exact p,fun p=>⟨_,rfl,p⟩⟩
 ·intros;apply propext;exact ⟨fun ⟨_,e,p⟩=>by cases e;exact p,fun p=>⟨_,rfl,p⟩⟩
 ·intros;apply propext;exact ⟨fun ⟨_,e,p⟩=>(by cases e),fun p=>p.elim⟩
 ·intros;apply propext;exact ⟨fun ⟨_,e,p⟩=>by cases e;exact p,fun p=>⟨_,rfl,p⟩⟩
 ·intros;apply propext;exact ⟨fun ⟨_,e,p⟩=>by cases e;exact p,fun p=>⟨_,rfl,p⟩⟩
 ·intros;apply propext;exact ⟨fun ⟨_,e,p⟩=>by cases e;exact p,fun p=>⟨_,rfl,p⟩⟩
 ·intros;apply propext;exact ⟨fun ⟨_,e,p⟩=>by cases e;exact p,fun p=>⟨_,rfl,p⟩⟩
 ·intros;apply propext;exact ⟨fun ⟨_,e,p⟩=>by cases e;exact p,fun p=>⟨_,rfl,p⟩⟩
 ·intros;apply propext;exact ⟨fun ⟨_,_,e,p⟩=>by cases e;exact p,fun p=>⟨_,_,rfl,p⟩⟩
 ·intros;apply propext;exact ⟨fun ⟨_,e,p⟩=>by cases e;exact p,fun p=>⟨_,rfl,p⟩⟩
 ·intros;apply propext;exact ⟨fun ⟨_,_,e,p⟩=>by cases e;exact p,fun p=>⟨_,_,rfl,p⟩⟩
section
variable {st:Store} {n:Nat} {Q:D->Store->Prop}
theorem zcc {m:Int} (hb:BagAt st n) (h1:1<=m) (h2:m<=1000000) (k:∀r st',0<=r->r < m->Drew st st' n->Q (.int r) st'):WP (zm [.ref n,.int m] st) Q:=by
 obtain ⟨r,st',e,a1,a2,a3,_⟩:=zxd hb h1 (Int.lt_of_le_of_lt h2 (by decide +kernel));exact WP.of e (k r st' a1 a2 a3)
theorem zzc {x:D} {xs:List D} {i:Int} {d:D} (h:seqOf st x=some xs) (h2:L2.atI xs i=some d) (q:Q d st):WP (oIx x (.int i) st) Q:=WP.of (zlg h h2) q
theorem zmo {xs:List D} {i:Int} (h0:0<=i) (h1:i < xs.length) (q:∀d∈xs,Q d st):WP (oIx (.lst xs) (.int i) st) Q:=by
 obtain ⟨j,rfl⟩:=xgt h0;have hj:j < xs.length:=by lia
 exact zzc (xs:=xs) (d:=xs[j]) rfl (zoo (xbe hj)) (q _ (xdk hj))
theorem zbfq {ns:List Int} {i:Nat} (hl:ns.length<=63) (hi:i<=100000) (k:∀g,BagAt (st++g) st.length->Q (.ref st.length) (st++g)):WP (zdb [.scr (ns.map .int),.int i] st) Q:=by
 obtain ⟨c,x,hc,hx,e⟩:=zbfr (st:=st) hl hi;exact WP.of e (k _ ⟨c,x,by simp,hc,hx⟩)
end
noncomputable abbrev Rise (l:List (List Int)):Prop:=l.Pairwise fun a b=>HT.lexLt a b=true
theorem zxk {l:List (List Int)} (h:UpR l) (nd:l.Nodup):Rise l:=List.Pairwise.imp (fun {a b} q=>by
 obtain ⟨q1,q2⟩:=q;rcases Srt.zho a b with z | z | z
 ·exact z
 ·exact absurd z q2
 ·rw[q1] at z;cases z) (h.and nd)
theorem zqc (l:List (List Int)):Rise (oddS l):=zxk (zgi _) (zmw l)
noncomputable def WX {α:Type} (r:Res α) (Q:α->Store->Prop) (E:Exc->Store->Prop):Prop:=match r with
 | .ok a st=>Q a st
 | .exc x st=>E x st
 | .stuck=>False
theorem WX.wp {α:Type} {r:Res α} {Q:α->Store->Prop} (h:WX r Q fun _ _=>False):WP r Q:=by
 cases r<;>exact h
theorem zbbw {α:Type} {f:DS->Store->Res α} {σ:DS} {st:Store} {Q:α->Store->Prop}:WP (noX f σ st) Q=WP (f σ st) Q:=by
 unfold noX;cases f σ st<;>rfl
theorem zox {α:Type} {f:DS->Store->Res α} {σ:DS} {st:Store} {Q:α->Store->Prop} {E:Exc->Store->Prop}:WX (noX f σ st) Q E=WP (f σ st) Q:=by
 unfold noX;cases f σ st<;>rfl
theorem zjl {α β:Type} {f:DS->Store->Res α} {σ:DS} {st:Store} {g:α->Store->Res β} {Q:β->Store->Prop} {E:Exc->Store->Prop}:WX ((noX f σ st).bind g) Q E=WP (f σ st) (fun a st1=>WX (g a st1) Q E):=by
 unfold noX;cases f σ st<;>rfl
noncomputable def seqX (t:SS) (Q:Fl->Store->Prop) (E:Exc->Store->Prop):Fl->Store->Prop:=fun fl st=>match fl with
 | .nx σ=>WX (t σ st) Q E
 | fl=>Q fl st
theorem VX:(∀{α:Type} {f:DS->Store->Res α} {σ:DS} {st:Store} {Q:α->Store->Prop},WP (noX f σ st) Q=WP (f σ st) Q)
 /\ (∀{f:SE} {σ:DS} {st:Store} {Q:D->Store->Prop} {E:Exc->Store->Prop},WX (noX f σ st) Q E=WP (f σ st) Q)
 /\ (∀{f:SS} {σ:DS} {st:Store} {Q:Fl->Store->Prop} {E:Exc->Store->Prop},WX (noX f σ st) Q E=WP (f σ st) Q)
 /\ (∀{s t:SS} {σ:DS} {st:Store} {Q:Fl->Store->Prop} {E:Exc->Store->Prop},WX (sSeq s t σ st) Q E=WX (s σ st) (seqX t Q E) E)
 /\ (∀{t:SS} {σ:DS} {st:Store} {Q:Fl->Store->Prop} {E:Exc->Store->Prop},seqX t Q E (.nx σ) st=WX (t σ st) Q E)
 /\ (∀{t:SS} {v:D} {st:Store} {Q:Fl->Store->Prop} {E:Exc->Store->Prop},seqX t Q E (.ret v) st=Q (.ret v) st)
 /\ (∀{c:ST} {s t:SS} {σ:DS} {st:Store} {Q:Fl->Store->Prop} {E:Exc->Store->Prop},WX (sIf (noX c) s t σ st) Q E=WP (c σ st) (fun b st1=>if b=true then WX (s σ st1) Q E else WX (t σ st1) Q E))
 /\ (∀{c:Str} {g:SA} {σ:DS} {st:Store} {Q:Fl->Store->Prop} {E:Exc->Store->Prop},WX (sRaise c (noX g) σ st) Q E=WP (g σ st) (fun xs st1=>xs.length<=sizeLine/\E ⟨c,[]⟩ st1))
 /\ (∀{F:DFn} {g:SA} {σ:DS} {st:Store} {Q:D->Store->Prop} {E:Exc->Store->Prop},WX (eCall F (noX g) σ st) Q E=WP (g σ st) (fun xs st1=>WX (F xs st1) Q E))
 /\ (∀{f:SE} {σ:DS} {st:Store} {Q:Fl->Store->Prop} {E:Exc->Store->Prop},WX (sRet f σ st) Q E=WX (f σ st) (fun v st1=>Q (.ret v) st1) E)
 /\ (∀{f:SE} {σ:DS} {st:Store} {Q:Fl->Store->Prop} {E:Exc->Store->Prop},WX (sDrop f σ st) Q E=WX (f σ st) (fun v st1=>Q (.nx σ) st1) E)
 /\ (∀{i:Nat} {f:SE} {σ:DS} {st:Store} {Q:Fl->Store->Prop} {E:Exc->Store->Prop},WX (sSet i f σ st) Q E=WX (f σ st) (fun v st1=>Q (.nx (σ.set i (some v))) st1) E)
 /\ (∀{it:SA} {bd:SG} {b:SS} {σ:DS} {st:Store} {Q:Fl->Store->Prop} {E:Exc->Store->Prop},WX (sFor (noX it) bd b σ st) Q E=WP (it σ st) (fun xs st1=>WX (forF bd b xs σ st1) Q E))
 /\ (∀{i:Nat} {cs:List Str} {b u:SS} {σ:DS} {st:Store} {Q:Fl->Store->Prop},WP (sTry i cs b u σ st) Q=WX (b σ st) Q (fun x st1=>x.cls∈cs/\WP (u (σ.set i (some (.exn x.cls x.at_))) st1) (fun fl st2=>match fl with | .ret v=>Q (.ret v) st2 | _=>False))):=by
 refine ⟨zbbw,zox,zox,?_,rfl,rfl,?_,?_,?_,?_,?_,?_,?_,?_⟩
 ·intro s t σ st Q E;unfold sSeq;cases s σ st with
  | ok fl st1=>cases fl<;>rfl
  | exc x st=>rfl
  | stuck=>rfl
 ·intro c s t σ st Q E;show WX ((noX c σ st).bind _) Q E=_;rw[zjl]
  congr;funext b st1
  split<;>rfl
 ·intro c g σ st Q E;show WX ((noX g σ st).bind _) Q E=_;rw[zjl]
  congr;funext xs st1
  by_cases h:xs.length<=sizeLine
  ·rw[if_pos h];simp[WX,h]
  ·rw[if_neg h];simp[WX,h]
 ·intro F g σ st Q E;exact zjl
 ·intro f σ st Q E;unfold sRet;cases f σ st<;>rfl
 ·intro f σ st Q E;unfold sDrop;cases f σ st<;>rfl
 ·intro i f σ st Q E;unfold sSet;cases f σ st<;>rfl
 ·intro it bd b σ st Q E;exact zjl
 ·intro i cs b u σ st Q;unfold sTry;cases b σ st with
  | ok fl st1=>rfl
  | stuck=>rfl
  | exc x st1 =>
   show WP (if x.cls∈cs then _ else _) Q=(x.cls∈cs/\_)
   by_cases h:x.cls∈cs
   ·rw[if_pos h];simp only[h,true_and];cases u (σ.set i (some (.exn x.cls x.at_))) st1 with
    | ok fl st2=>cases fl<;>rfl
    | exc _ _=>rfl
    | stuck=>rfl
   ·rw[if_neg h];simp[WP,h]
theorem zbha {n np:Nat} {b:SS} {ds:List D} {st:Store} {Q:D->Store->Prop} {E:Exc->Store->Prop} (h:ds.length=np) (k:WX (b (ds.map some++List.replicate (n - np) none) st) (retK Q) E):WX (fnD n np b ds st) Q E:=by
 unfold fnD;rw[if_pos h];revert k;cases b (ds.map some++List.replicate (n - np) none) st with
 | ok fl st'=>cases fl<;>first | exact fun q=>q | exact fun q=>q.elim
 | exc x st'=>exact fun q=>q
 | stuck=>exact fun q=>q
theorem zwt {i:Nat} {cs:List Str} {c:Str} {l:List Int} {σ:DS} {st:Store} {Q:D->Store->Prop} (h:σ[i]?=some (some (.exn c l))) (hc:c∈cs) (q:Q (.bl true) st):WP (eIsX i cs σ st) Q:=by
 unfold eIsX;rw[h];dsimp only;rw[if_pos hc];exact q
theorem zum {r:List Int} {P:Int->Prop} (h:∀x∈r,P x) {y:Int} (hy:P y):∀x∈r++[y],P x:=fun x hx=>by
 rcases xcc.mp hx with hx | hx
 ·exact h x hx
 ·simp at hx;subst hx;exact hy
theorem zkc {α:Type} (l:List α):(l.filter fun _=>true)=l:=List.filter_eq_self.mpr (by simp)
theorem zge {α:Type} (P:α->Bool):∀as:List α,asBools (as.map fun x=>.bl (P x))=some (as.map P)
 | []=>rfl
 | x::as=>by rw[xbq,asBools,zge P as];rfl
section
variable {st:Store} {n:Nat} {Q:D->Store->Prop}
end
section
variable {st:Store} {n:Nat} {Q:D->Store->Prop}
end
section
variable {S:D} {v1 v2 v5 v6 v7 v8:Option D} {N:Int} {l:List (List Int)} {st:Store} {I:DS->Store->Prop} {Q:Fl->Store->Prop}
end
end Dd
namespace K61
end K61
namespace Dd
open PySem L2
inductive Pl (k:Nat):D->Prop
 | non:Pl k .non
 | bl (b:Bool):Pl k (.bl b)
 | int (i:Int):Pl k (.int i)
 | str (x:Str):Pl k (.str x)
 | tup {ds:List D} (h:∀d∈ds,Pl k d) (hl:ds.length<=k):Pl k (.tup ds)
 | lst {ds:List D} (h:∀d∈ds,Pl k d) (hl:ds.length<=k):Pl k (.lst ds)
theorem Pl.row {k:Nat} {r:List Int} (h:r.length<=k):Pl k (rowD r):=.tup (fun d hd=>by obtain ⟨x,_,rfl⟩:=xdg.mp hd;exact .int x) (by rw[xbf];exact h)
noncomputable def isTupB:D->Bool
 | .tup _=>true
 | _=>false
noncomputable def wholeB:D->Bool
 | .int _=>true
 | _=>false
section
variable {k:Nat} {d:D} {st:Store}
theorem zzf (h : Pl k d) : bIsinst [d, .ty "tuple"] st = .ok (.bl (isTupB d)) st := by
 cases h<;>rfl
theorem zlk (h:Pl k d):zda [d] st=.ok (.bl (wholeB d)) st:=by
 cases h<;>rfl
end
noncomputable def partB:D->Bool
 | .int i=>decide (1<=i)
 | _=>false
noncomputable def sumI:List D->Int
 | []=>0
 | .int i::r=>i+sumI r
 | _::r=>sumI r
noncomputable def rowB:D->Bool
 | .tup ds=>ds.all partB && (decide (ds.length<=6) && decide (sumI ds<=16))
 | _=>false
theorem ziq (ds:List D):rowB (.tup ds)=(ds.all partB && (decide (ds.length<=6) && decide (sumI ds<=16))):=rfl
theorem zgl:∀{ds:List D},ds.all partB=true->∃r:List Int,ds=r.map .int/\∀x∈r,1<=x
 | [],_=>⟨[],rfl,by simp⟩
 | d::ds,h=>by
  rw[List.all_cons,xel] at h;obtain ⟨r,rfl,h2⟩:=zgl h.2;cases d with
  | int i =>
   have:1<=i:=xfo h.1;exact ⟨i::r,rfl,by simpa using ⟨this,h2⟩⟩
  | _=>cases h.1
theorem zmb (r:List Int):sumI (r.map .int)=r.sum:=by
 induction r with
 | nil=>rfl
 | cons x r ih=>simp[sumI,ih]
section
variable {k:Nat} {d:D} {st:Store} {Q:D->Store->Prop}
theorem zqt (h:Pl k d) (hk:k<=1000) (q:Q (.bl (rowB d)) st):WP (zfi [d] st) Q:=by
 refine zls rfl ?_;simp only[W,V];refine WP.of (zzf h) ?_;cases h with
 | tup hd hl =>
  rename_i ds;refine ⟨true,rfl,?_⟩;simp only[W,V];refine ⟨_,rfl,small _ (by lia),?_⟩;refine (by rw[List.map_id];exact id:WP (compF _ _ _ (ds.map id) _ _) _->WP (compF _ _ _ ds _ _) _) ?_;refine zws (as:=ds) (fun σ=>∃v,σ=[v]) (fun _=>true) (fun x=>.bl (partB x)) id ⟨_,rfl⟩ ?_ ?_
  ·rintro x hx σ ⟨v,rfl⟩;refine ⟨_,rfl,⟨_,rfl⟩,by simp only[W,and_self],fun _=>?_⟩;simp only[W,V];refine WP.of (zlk (hd x hx)) ?_;simp only[W];cases hd x hx<;>simp only[wholeB,partB,id,W,V,and_self]
  ·rw[zkc];simp only[M,W,V];refine ⟨_,zge _ _,?_⟩;rw[List.all_map];show if (ds.all partB)=true then _ else _
   cases hc:ds.all partB with
   | false =>
    rw[if_neg (by decide)];have e:rowB (.tup ds)=false:=by simp[rowB,hc]
    rw[e] at q;exact q
   | true =>
    rw[if_pos rfl];obtain ⟨r,rfl,h2⟩:=zgl hc;refine WP.of zzp ?_;have e:rowB (.tup (r.map .int))=(decide (r.length<=6) && decide (r.sum<=16)):=by
     rw[ziq,hc,zmb,xbf,Bool.true_and]
    rw[← e];exact q
 | _=>exact ⟨false,rfl,q⟩
end
theorem zfq:∀{ds:List D},ds.all rowB=true->∃l:List (List Int),ds=rowsD l
 | [],_=>⟨[],rfl⟩
 | d::ds,h=>by
  rw[List.all_cons,xel] at h;obtain ⟨l,rfl⟩:=zfq h.2;cases d with
  | tup es =>
   have h1:=h.1;rw[ziq,xel] at h1;obtain ⟨r,rfl,_⟩:=zgl h1.1;exact ⟨r::l,rfl⟩
  | _=>cases h.1
section
variable {k:Nat} {d:D} {st:Store} {Q:D->Store->Prop}
end
theorem zrs {s t:SS} {σ:DS} {st:Store} {Q R:Fl->Store->Prop} (h:WP (s σ st) R) (k:∀fl s',R fl s'->seqK t Q fl s'):WP (sSeq s t σ st) Q:=by
 rw[zwq];exact h.mono k
noncomputable def FewU (l:List (List Int)):Prop:=∀ks:List (List Int),ks.Nodup->(∀x∈ks,x∈l)->ks.length<=1000000
theorem FewU.of {l U:List (List Int)} (h:∀x∈l,x∈U) (hU:U.length<=1000000):FewU l:=fun ks nd hk=>xbb (List.Nodup.length_le_of_subset nd fun x hx=>h x (hk x hx)) hU
theorem zqy {l:List (List Int)} (h:l.length<=1000000):FewU l:=FewU.of (fun x hx=>hx) h
section
variable {st:Store} {n:Nat} {Q:D->Store->Prop}
theorem zyp {x:D} {l:List (List Int)} (hx:seqV x=some (rowsD l)) (hl:FewU l) (k:∀g,Q (sumD (oddS l)) (st++g)):WP (zbj [x] st) Q:=by
 have cf:∀{cs:List (List Int × Int)} {i:Nat},Cnt cs (l.take i)->cs.length<=1000000:=fun {cs i} hc=>by
  have:=hl (cs.map (·.1)) hc.nd fun z hz=>xhp ((hc.mem z).mp hz)
  rwa [xbf] at this
 have W:=zzm (bd:=gN 2) (body:=sDPut (eVar 1) (eVar 2) (eOp oAdd (eDGet2 (eVar 1) (eVar 2) (eC (.int 0))) (eC (.int 1)))) (xs:=rowsD l) (σ:=[some x,some (.ref st.length),none]) (st:=st++[.dT []])
  (fun i σ s=>∃(v:Option D) (cs:List (List Int × Int)),σ=[some x,some (.ref st.length),v]/\s=st++[.dT (cntD cs)]/\Cnt cs (l.take i)) ⟨none,[],rfl,rfl,⟨xij,fun k=>by simp,fun p h=>(by cases h),by simp⟩⟩ (by
   rintro i y σ s hy ⟨v,cs,rfl,rfl,hc⟩;obtain ⟨k,hk,rfl⟩:=zgk hy;obtain ⟨cs',e1,hc'⟩:=zbaz hc k;have hn:(st++[O.dT (cntD cs)])[st.length]?=some (.dT (cntD cs)):=by simp
   have e2:(valD (cntD cs) k).getD (.int 0)=.int ((l.take i).count k:Nat):=by
    rw[zbba hc];split
    ·rfl
    ·rename_i z;rw[xhc.mpr z];rfl
   have e3:=zdm k;have e4:=zit hn;have e5:(cntD cs).length < sizeLine:=by
    rw[xbf];exact smallT _ (cf hc)
   refine ⟨_,[some x,some (.ref st.length),some (rowD k)],st++[.dT (cntD cs')],rfl,?_,some (rowD k),cs',rfl,rfl,by rw[zcl hk];exact hc'⟩;simp only[rowD] at *
   simp only[zxj,zbgu,zux,zbee,eC_v,gN,List.set_cons_succ,List.set_cons_zero,xip,List.getElem?_cons_zero,zdc,e4,e3,e2,zbdn,hn,e5,xfn,e1]
   simp)
 obtain ⟨σ',st',e,v,cs,rfl,rfl,hc⟩:=W;rw[zk] at hc;have hcl:=cf hc;rw[xfv] at hc;have V:=zbay (bd:=gN 0) (c:=eB (eOp oEq (eOp oMod (eOp oDGet (eVar 1) (eVar 0)) (eC (.int 2))) (eC (.int 1)))) (f:=eVar 0) (xs:=rowsD (cs.map (·.1))) (σ:=[none,some (.ref st.length)]) (st:=st++[.fT (cntD cs)])
  (fun i acc σ s=>s=st++[.fT (cntD cs)]/\(∃w:Option D,σ=[w,some (.ref st.length)])/\acc=rowsD (((cs.map (·.1)).take i).filter fun k=>decide (l.count k % 2=1))) ⟨rfl,⟨none,rfl⟩,rfl⟩ (by
   rintro i y acc σ s hy ⟨rfl,⟨w,rfl⟩,rfl⟩;obtain ⟨k,hk,rfl⟩:=zgk hy;have hn:(st++[O.fT (cntD cs)])[st.length]?=some (.fT (cntD cs)):=by simp
   have hkl:k∈l:=(hc.mem k).mp (xch hk);have e2:valD (cntD cs) k=some (.int (l.count k:Nat)):=by rw[zbba hc,if_pos hkl]
   have e3:oDGet (.ref st.length) (rowD k) (st++[O.fT (cntD cs)])=.ok (.int (l.count k:Nat)) _:=zui (zuc hn) e2;have e4:(((l.count k:Nat):Int) % 2=1)↔(l.count k % 2=1):=⟨fun h=>by lia,fun h=>by lia⟩
   refine ⟨[some (rowD k),some (.ref st.length)],decide (l.count k % 2=1),st++[.fT (cntD cs)],rfl,?_,?_⟩
   ·simp only[rowD] at *
    simp[e3,e4]
   ·by_cases ho:l.count k % 2=1
    ·refine .inr ⟨xcj ho,rowD k,_,rfl,rfl,⟨_,rfl⟩,?_⟩;rw[zcl hk,xih];simp[ho,rowsD]
    ·refine .inl ⟨xbu ho,rfl,⟨_,rfl⟩,?_⟩;rw[zcl hk,xih]
     simp[ho,rowsD])
 obtain ⟨ys,σ2,st2,e2,rfl,⟨w,rfl⟩,rfl⟩:=V;rw[zk,xfv] at e2;refine WP.of (zll rfl ?_) (k [.fT (cntD cs)]);have nd:((cs.map (·.1)).filter fun k=>decide (l.count k % 2=1)).Nodup:=hc.nd.filter _;have mm:∀k,k∈((cs.map (·.1)).filter fun k=>decide (l.count k % 2=1))↔l.count k % 2=1:=fun k=>by
  rw[xhy,hc.mem,decide_eq_true_eq];constructor
  ·exact fun h=>h.2
  ·intro h;refine ⟨?_,h⟩;rcases xjz (l.count k) with z | z
   ·rw[z] at h;cases h
   ·exact List.count_pos_iff.mp z
 have e5:sortR ((cs.map (·.1)).filter fun k=>decide (l.count k % 2=1))=oddS l:=zyq nd mm;have few:((cs.map (·.1)).filter fun k=>decide (l.count k % 2=1)).length<=1000000:=by
  have:=xjg (fun k=>decide (l.count k % 2=1)) (cs.map (·.1));rw[xbf] at this;lia
 have e6:=zjj (st:=st++[.fT (cntD cs)]) few;rw[e5] at e6;have hlen:(rowsD (cs.map (·.1))).length<=sizeLine:=by
  rw[zk,xbf];exact small _ hcl
 refine seqN (σ1:=[some x,some (.ref st.length),none]) (st1:=st++[.dT []]) (by simp) ?_;refine seqN (σ1:=[some x,some (.ref st.length),v]) (st1:=st++[.dT (cntD cs)]) (by simp[hx,e]) ?_;have e7:eComp (iDict (eVar 1)) 1 [1] (gN 0) (eB (eOp oEq (eOp oMod (eOp oDGet (eVar 1) (eVar 0)) (eC (.int 2))) (eC (.int 1)))) (eVar 0) [some x,some (.ref st.length),v] (st++[.dT (cntD cs)])
   = .ok (.lst (rowsD ((cs.map (·.1)).filter fun k=>decide (l.count k % 2=1)))) (st++[.fT (cntD cs)]):=by
  rw[zsm];have e8:iDict (eVar 1) [some x,some (.ref st.length),v] (st++[.dT (cntD cs)])=.ok (rowsD (cs.map (·.1))) (st++[.fT (cntD cs)]):=by
   simp
  rw[e8,zdc,if_pos hlen];show (compF _ _ _ _ [none,some (.ref st.length)] _).bind _=_;rw[e2]
  rfl
 rw[zbci,zsn,zos,zsn,zos,e7];simp only[zdc,zbfz,e6,zom]
theorem zqb {x:D} {l:List (List Int)} (hx:seqV x=some (rowsD l)) (hl:l.length<=1000000) (k:∀g,Q (sumD (oddS l)) (st++g)):WP (zbj [x] st) Q:=zyp hx (zqy hl) k
theorem zfb {m:Int} (hb:BagAt st n) (h0:0<=m) (h1:m<=1000) (k:∀r st',r.length<=6->(∀x∈r,1<=x)->r.sum<=m->Drew st st' n->Q (rowD r) st'):WP (zv [.ref n,.int m] st) Q:=by
 refine zls rfl ?_;simp only[W,V];refine ⟨small _ (by simp),?_⟩;refine zcc hb (by lia) (by lia) fun c st1 a1 a2 d1=>?_
 refine ⟨c,rfl,rngN (by lia) (by lia),?_⟩;refine zks (fun i σ s=>∃(r:List Int) (left:Int) (v w:Option D),σ=[some (.ref n),some (.int m),some (rowD r),some (.int left),v,w]/\Drew st s n/\r.length<=i/\(∀x∈r,1<=x)/\0<=left/\r.sum+left=m) ⟨[],m,none,none,rfl,d1,by simp,by simp,h0,by simp⟩ ?_ ?_
 ·rintro i x σ s hx ⟨r,left,v,w,rfl,b1,b2,b3,b4,b5⟩;obtain ⟨hi,rfl⟩:=zet hx;refine ⟨_,rfl,?_⟩;simp only[W,V,L];have hs:0<=r.sum:=zma b3;refine ⟨trivial,?_⟩;split
  ·rename_i hpos;refine ⟨small _ (by simp),?_⟩;refine zcc b1.bag (by lia) (by lia) fun t s2 c1 c2 d2=>?_
   refine zmo c1 (by simp;lia) fun lim hlim=>?_
   obtain ⟨L,rfl,hL1,hL2⟩:∃L:Int,lim=.int L/\1<=L/\L<=left:=by
    simp only[xbn,xee,xhs] at hlim;rcases hlim with rfl | rfl
    ·exact ⟨_,rfl,by lia,by lia⟩
    ·exact ⟨_,rfl,by split<;>lia,by split<;>lia⟩
   refine zcc d2.bag hL1 (by lia) fun p s3 c3 c4 d3=>?_
   try simp only[W,V]
   refine ⟨small _ (by simp),by rw[xbf];exact small _ (by simp;lia),trivial,r++[1+p],left - (1+p),some (.int (0+i)),some (.int (1+p)),by simp,(b1.trans d2).trans d3,by simp;lia,zum b3 (by lia),by lia,by simp;lia⟩
  ·exact ⟨r,left,_,_,rfl,b1,by lia,b3,b4,b5⟩
 ·rintro σ s ⟨r,left,v,w,rfl,b1,b2,b3,b4,b5⟩;rw[zch] at b2
  try simp only[W,V]
  exact k r s (by lia) b3 (by lia) b1
theorem zqx {r:List Int} {m:Int} (hr:r.length<=6) (k:∀r',r'.length<=6->Q (rowD r') st):WP (zcb [rowD r,.int m] st) Q:=by
 refine zls rfl ?_;simp only[W,V,M];split
 ·exact k r hr
 ·split
  ·rename_i h6;rw[xbf] at h6;refine ⟨small _ (by simp),by rw[xbf];exact small _ (by simp;lia),?_⟩;have:=k (r++[m]) (by simp;lia);rw[rowD,xev] at this;exact this
  ·rename_i h6;rw[xbf] at h6;have hne:r≠[]:=by rintro rfl;simp at h6
   obtain ⟨a,b,rfl⟩:∃a b,r=a++[b]:=⟨r.dropLast,r.getLast hne,(List.dropLast_concat_getLast hne).symm⟩
   refine ⟨-1,rfl,.inl ⟨_,rfl,?_⟩⟩;have e1:cutD ((a++[b]).map D.int) none (some (-1))=a.map D.int:=by
    unfold cutD;have l1:((a++[b]).map D.int).length=a.length+1:=by simp
    have e1:HT.sIx (a.length+1) 0 none=0:=rfl;have e2:HT.sIx (a.length+1) (a.length+1) (some (-1))=a.length:=by
     show (if (-1:Int) < 0 then ((-1:Int)+((a.length+1:Nat):Int)).toNat else min (-1:Int).toNat (a.length+1))=_;rw[if_pos (by decide)];lia
    rw[l1,e1,e2];simp
   rw[e1];have e2:oIx (rowD (a++[b])) (.int (-1)) st=.ok (.int b) st:=zlg rfl (by rw[xev];exact zwc _ _);refine WP.of e2 ?_
   try simp only[W,V]
   refine ⟨small _ (by simp),by rw[xbf];exact small _ (by simp at hr ⊢;lia),?_⟩;have:=k (a++[b+m]) (by simp at hr ⊢;lia);rw[rowD,xev] at this;exact this
theorem zeb {c m:Int} (hb:BagAt st n) (hc:0<=c) (hc2:c < 64) (h0:0<=m) (h1:m<=1000) (k:∀l st',(∀r∈l,r.length<=6)->l.length<=c->Rise l->Drew st st' n->Q (sumD l) st'):WP (zw [.ref n,.int c,.int m] st) Q:=by
 refine zls rfl ?_;refine zrs (R:=fun fl s=>∃l:List (List Int),fl=.nx [some (.ref n),some (.int c),some (.int m),some (.lst (rowsD l)),none]/\(∀r∈l,r.length<=6)/\(l.length:Int)=c/\Drew st s n) ?_ ?_
 ·simp only[W,V];refine ⟨c,rfl,rngN (by lia) (by lia),by rw[zch];exact small _ (by lia),?_⟩;refine zlt (fun i acc σ s=>∃(l:List (List Int)) (v:Option D),acc=rowsD l/\l.length=i/\(∀r∈l,r.length<=6)/\σ=[v,some (.ref n),some (.int m)]/\Drew st s n) ⟨[],none,rfl,rfl,by simp,rfl,.refl hb⟩ ?_ ?_
  ·rintro i x acc σ s hx ⟨l,v,rfl,a1,a2,rfl,a3⟩;refine ⟨_,rfl,?_⟩;simp only[W,V];refine zfb a3.bag h0 h1 fun r s2 b1 _ _ b3=>⟨l++[r],_,by simp[rowsD],by simp[a1],fun z hz=>?_,rfl,a3.trans b3⟩
   rcases xcc.mp hz with hz | hz
   ·exact a2 z hz
   ·simp at hz;subst hz;exact b1
  ·rintro ys σ s ⟨l,v,rfl,a1,a2,rfl,a3⟩;rw[zch] at a1;exact ⟨l,rfl,a2,by lia,a3⟩
 rintro fl s ⟨l,rfl,a1,a2,a3⟩;refine zrs (R:=fun fl s=>∃(l:List (List Int)) (v:Option D),fl=.nx [some (.ref n),some (.int c),some (.int m),some (.lst (rowsD l)),v]/\(∀r∈l,r.length<=6)/\(l.length:Int)=c/\Drew st s n) ?_ ?_
 ·simp only[W,V];refine zcc a3.bag (by lia) (by lia) fun t s2 c1 c2 d2=>?_
  have D2:=a3.trans d2;simp only[W,V];split
  ·refine ⟨trivial,?_⟩;split
   ·rename_i hpos;refine ⟨_,rfl,by rw[zk];exact small _ (by lia),?_⟩;refine zws (as:=l) (fun σ=>∃v,σ=[v]) (fun _=>true) (fun r=>.int r.sum) rowD ⟨_,rfl⟩ ?_ ?_
    ·rintro r hr σ ⟨v,rfl⟩;refine ⟨_,rfl,⟨_,rfl⟩,by simp only[W,and_self],fun _=>?_⟩;simp only[W,V,M];exact ⟨r,zcz r,trivial,rfl⟩
    ·rw[zkc];simp only[W,V,M];cases l with
     | nil=>simp at a2;lia
     | cons r0 l =>
      refine ⟨r0.sum,l.map List.sum,?_,?_⟩
      ·have:=zcz ((r0::l).map List.sum);rw[xdy] at this;exact this
      ·refine ⟨_,rfl,by rw[zk];exact small _ (by lia),?_⟩;generalize bestI true r0.sum (l.map List.sum)=top;refine zlt (fun i acc σ s=>∃(l':List (List Int)) (v:Option D),acc=rowsD l'/\l'.length=i/\(∀r∈l',r.length<=6)/\σ=[v,some (.int top)]/\s=s2) ⟨[],none,rfl,rfl,by simp,rfl,rfl⟩ ?_ ?_
       ·rintro i x acc σ s hx ⟨l',v,rfl,b1,b2,rfl,rfl⟩;obtain ⟨r,hr,rfl⟩:=zgk hx;refine ⟨_,rfl,?_⟩;simp only[W,V,M];refine ⟨r,zcz r,trivial,?_⟩;refine zqx (a1 r (xch hr)) fun r' hr'=>⟨l'++[r'],_,by simp[rowsD],by simp[b1],fun z hz=>?_,rfl,rfl⟩
        rcases xcc.mp hz with hz | hz
        ·exact b2 z hz
        ·simp at hz;subst hz;exact hr'
       ·rintro ys σ s ⟨l',v,rfl,b1,b2,rfl,rfl⟩;rw[zk] at b1;exact ⟨l',_,rfl,b2,by rw[b1];exact a2,D2⟩
   ·exact ⟨l,_,rfl,a1,a2,D2⟩
  ·exact ⟨l,_,rfl,a1,a2,D2⟩
 rintro fl s ⟨l,v,rfl,a1,a2,a3⟩;show WP _ _;simp only[W,V];refine zqb (l:=l) rfl (by lia) fun g=>k _ _ (fun r hr=>a1 r (zug hr)) ?_ (zqc l) (a3.trans (.more a3.bag g))
 have:=zfu l;lia
end
section
variable {st:Store} {n:Nat} {Q:D->Store->Prop}
theorem zsl {ks:List (List Int)} {k:List Int} (h:st[n]?=some (.dT (trueD ks))) (hl:ks.length<=1000000) (q:Q .non (st.set n (.dT (trueD (flipL ks k))))):WP (zlp [.ref n,rowD k] st) Q:=WP.of (zzo h hl) q
theorem zjr {ks:List (List Int)} (h:st[n]?=some (.dT (trueD ks))) (hl:ks.length<=1000000) (q:Q (.lst (rowsD (sortR ks))) st):WP (bSorted [.ref n] st) Q:=WP.of (zku h hl) q
end
section
variable {st:Store} {n:Nat} {Q:D->Store->Prop}
theorem zul {l:List (List Int)} {r:List Int} {P:List Int->Prop} (h:∀x∈l,P x) (hr:P r):∀x∈l++[r],P x:=fun x hx=>by
 rcases xcc.mp hx with hx | hx
 ·exact h x hx
 ·simp at hx;subst hx;exact hr
end
end Dd
namespace K03
end K03
namespace Dd
open PySem L2
section
variable {k:Nat} {d:D} {st:Store}
end
section
variable {st:Store} {Q:D->Store->Prop}
end
section
variable {st:Store} {k:Nat} {d:D} {m:Int} {Q:D->Store->Prop}
end
theorem zlr {G:Store->Prop} {bd:SG} {b:SS} {E:Exc->Store->Prop} {Q:Fl->Store->Prop} (I:List D->DS->Store->Prop) (g:∀xs σ st,I xs σ st->G st) (turn:∀x xs σ st,I (x::xs) σ st->∃σ1,bd x σ=some σ1/\WX (b σ1 st) (fun fl st1=>match fl with | .nx σ2=>I xs σ2 st1 | .ct σ2=>I xs σ2 st1 | .brk σ2=>Q (.nx σ2) st1 | .ret v=>Q (.ret v) st1) E)
  (done:∀σ st,I [] σ st->Q (.nx σ) st):∀xs σ st,I xs σ st->WX (forG G bd b xs σ st) Q E:=by
 intro xs
 induction xs with
 | nil=>exact fun σ st h=>by unfold forG;rw[if_pos (g _ _ _ h)];exact done σ st h
 | cons x xs ih =>
  intro σ st h;obtain ⟨σ1,e,w⟩:=turn x xs σ st h;unfold forG;rw[if_pos (g _ _ _ h),e];dsimp only;revert w;cases b σ1 st with
  | stuck=>exact fun w=>w
  | exc y st1=>exact fun w=>w
  | ok fl st1 =>
   cases fl with
   | nx σ2=>exact fun w=>ih σ2 st1 w
   | ct σ2=>exact fun w=>ih σ2 st1 w
   | brk σ2=>exact fun w=>w
   | ret v=>exact fun w=>w
theorem zrr {en:Bool} {f:SE} {bd:SG} {b:SS} {σ:DS} {st:Store} {Q:Fl->Store->Prop} {E:Exc->Store->Prop} {n:Nat} {xs:List D} (hf:f σ st=.ok (.ref n) st) (hn:st[n]?=some (.lst xs)) (h:WX (forG (LsIs n xs) bd b (if en then numF 0 xs else xs) σ st) Q E):WX (sForA en (noX f) bd b σ st) Q E:=by
 unfold sForA noX;rw[hf]
 show WX (match st[n]? with
  | some (.lst xs)=>forG (LsIs n xs) bd b (if en then numF 0 xs else xs) σ st
  | _=>.stuck) Q E
 rw[hn];exact h
theorem zow {c:Str} {g:SA} {σ:DS} {st st1:Store} {Q:Fl->Store->Prop} {E:Exc->Store->Prop} {i:Int} (hg:g σ st=.ok [.int i] st1) (h0:0<=i) (h1:i<=1000) (q:E ⟨c,[i]⟩ st1):WX (sRaiseI c (noX g) σ st) Q E:=by
 unfold sRaiseI noX;rw[hg];show WX (if 0<=i/\i<=1000 then Res.exc ⟨c,[i]⟩ st1 else Res.stuck) Q E;rw[if_pos ⟨h0,h1⟩];exact q
theorem zwo {f:SE} {g:SA} {σ:DS} {st:Store} {Q:D->Store->Prop} {E:Exc->Store->Prop} (h:WX (f σ st) (fun v st1=>WP (g σ st1) fun vs st2=>(v::vs).length<=sizeLine/\Q (.tup (v::vs)) st2) E):WX (eTup (aCons f (noX g)) σ st) Q E:=by
 unfold eTup aCons;revert h;cases f σ st with
 | stuck=>exact fun h=>h
 | exc y st1=>exact fun h=>h
 | ok v st1 =>
  intro h;obtain ⟨vs,st2,e,hl,q⟩:=WP.get h;show WX (((noX g σ st1).bind _).bind _) Q E;unfold noX;rw[e];show WX (if (v::vs).length<=sizeLine then Res.ok (D.tup (v::vs)) st2 else Res.stuck) Q E;rw[if_pos hl];exact q
theorem zbhb {i:Nat} {cs:List Str} {c:Str} {m:Int} {σ:DS} {st:Store} {Q:D->Store->Prop} (h:σ[i]?=some (some (.exn c [m]))) (hc:c∈cs) (q:Q (.int m) st):WP (eAt i cs σ st) Q:=by
 unfold eAt;rw[h];dsimp only;rw[if_pos hc];exact q
theorem zsz {f:SE} {σ:DS} {st:Store} {n:Nat} {xs:List D} {Q:D->Store->Prop} (hf:f σ st=.ok (.ref n) st) (hn:st[n]?=some (.lst xs)) (q:Q .non (st.set n (.lst []))):WP (eClear f σ st) Q:=by
 unfold eClear;rw[hf]
 show WP (match st[n]? with
  | some (.lst _)=>Res.ok D.non (st.set n (.lst []))
  | _=>.stuck) Q
 rw[hn];exact q
noncomputable def Sh (n:Nat) (d:D):Prop:=∃p,toData d=some p/\p.canLay0=true/\p.depth<=n
theorem Sh.int {n:Nat} {i:Int}:Sh n (.int i):=⟨_,rfl,rfl,xcu _⟩
theorem Sh.bl {n:Nat} {b:Bool}:Sh n (.bl b):=⟨_,rfl,rfl,xcu _⟩
theorem Sh.non {n:Nat}:Sh n .non:=⟨_,rfl,rfl,xcu _⟩
theorem Sh.str {n:Nat} {x:Str} (h:(PyData.str x).canLay0=true):Sh n (.str x):=⟨_,rfl,h,xcu _⟩
theorem Sh.all {n:Nat}:∀{ds:List D},(∀d∈ds,Sh n d)->∃ps,toDatas ds=some ps/\PyData.canLayAll0 ps=true/\PyData.depthAll ps<=n
 | [],_=>⟨[],rfl,rfl,xcu _⟩
 | d::ds,h=>by
  obtain ⟨p,e,h1,h2⟩:=h d (by simp);obtain ⟨ps,es,h3,h4⟩:=Sh.all (ds:=ds) fun x hx=>h x (by simp[hx])
  refine ⟨p::ps,by rw[toDatas,e,es];rfl,?_,?_⟩
  ·show (p.canLay0 && PyData.canLayAll0 ps)=true;rw[h1,h3];rfl
  ·show max p.depth (PyData.depthAll ps)<=n;lia
theorem Sh.tup {n:Nat} {ds:List D} (h:∀d∈ds,Sh n d):Sh (n+1) (.tup ds):=by
 obtain ⟨ps,e,h1,h2⟩:=Sh.all h;exact ⟨.tuple ps,by rw[toData,e];rfl,h1,xdt h2⟩
theorem Sh.lst {n:Nat} {ds:List D} (h:∀d∈ds,Sh n d):Sh (n+1) (.lst ds):=by
 obtain ⟨ps,e,h1,h2⟩:=Sh.all h;exact ⟨.list ps,by rw[toData,e];rfl,h1,xdt h2⟩
theorem Sh.mono {n m:Nat} (h:n<=m) {d:D} (s:Sh n d):Sh m d:=by
 obtain ⟨p,e,h1,h2⟩:=s;exact ⟨p,e,h1,xbb h2 h⟩
theorem Sh.row {n:Nat} {r:List Int}:Sh (n+1) (rowD r):=Sh.tup fun d hd=>by
 obtain ⟨x,_,rfl⟩:=xdg.mp hd;exact .int
theorem Sh.sum {n:Nat} {l:List (List Int)}:Sh (n+2) (sumD l):=Sh.tup fun d hd=>by
 obtain ⟨x,_,rfl⟩:=xdg.mp (show d∈rowsD l from hd);exact .row
theorem Sh.ok {d:D} {p:PyData} (e:toData d=some p) (h1:p.canLay0=true) (h2:p.depth<=64):PySem.SeqAt.shaped p=true/\PyData.eqv p p=true:=by
 refine ⟨?_,PySem.SeqAt.eqv_refl p h1⟩;show (p.canLay0 && decide (p.depth<=64))=true;rw[h1,xcj h2];rfl
theorem znp {neg:Bool} {x y d:D} {st:Store} (hx:now st x=d) (hy:now st y=d) (h:Sh 64 d):oEqG neg x y st=.ok (.bl (!neg)) st:=by
 obtain ⟨p,e,h1,h2⟩:=h;obtain ⟨s1,s2⟩:=Sh.ok e h1 h2;unfold oEqG dataOf;rw[hx,hy,e];dsimp only;rw[if_pos ⟨s1,s1⟩,s2];cases neg<;>rfl
theorem zyu {st:Store} {n:Nat} {xs:List D} (h:st[n]?=some (.lst xs)):now st (.ref n)=.lst xs:=by
 unfold now;rw[show asL st (.ref n)=some xs from by unfold asL;dsimp only;rw[h]]
section
variable {st:Store} {n m:Nat} {Q:D->Store->Prop}
theorem ziz {l:List (List Int)} (h:st[m]?=some (.lst (rowsD l))) (hl:l.length<=1000000) (k:∀g,Q (sumD (oddS l)) (st++g)):WP (zbh [.ref m] st) Q:=by
 refine zls rfl ?_;simp only[W,V];have hm:=zx h;have h0:∀o,(st++[o])[m]?=some (.lst (rowsD l)):=fun o=>by rw[xbx hm];exact h
 refine WX.wp (zrr (n:=m) rfl (h0 _) ?_);refine zlr (fun xs σ s=>∃i v,i<=l.length/\xs=rowsD (l.drop i)/\σ=[some (.ref m),some (.ref st.length),v]/\s=st++[.dT (trueD (oddL (l.take i)))]) ?_ ?_ ?_ _ _ _ ⟨0,_,xcu _,rfl,rfl,rfl⟩
 ·rintro xs σ s ⟨i,v,_,_,_,rfl⟩;exact h0 _
 ·rintro x xs σ s ⟨i,v,hi,hx,rfl,rfl⟩;have hlt:i < l.length:=by
   rcases xex i l.length with z | z
   ·exact z
   ·rw[xdu z] at hx;cases hx
  obtain ⟨r,hr,hd⟩:=zgc hlt;rw[hd] at hx;obtain ⟨rfl,rfl⟩:=xiy (show x::xs=rowD r::rowsD (l.drop (i+1)) from hx);refine ⟨_,rfl,?_⟩;unfold zcd;rw[zox];simp only[W,V];have h1:=zci (l.take i);have h2:(l.take i).length<=l.length:=by rw[xco];exact xfu _ _
  refine zsl (ks:=oddL (l.take i)) (by simp) (by lia) ⟨i+1,_,hlt,rfl,rfl,?_⟩;rw[zcl hr];unfold oddL;rw[List.foldl_append];simp
 ·rintro σ s ⟨i,v,hi,hx,rfl,rfl⟩;have hi':i=l.length:=by
   have:=congrArg List.length hx;rw[zk,xek] at this;simp at this;lia
  subst hi';rw[xfv];simp only[W,V];have h1:=zci l;refine zjr (ks:=oddL l) (by simp) (by lia) ?_;simp only[W,V];exact k _
theorem zqf {i:Int} {d x:D} {ds xs:List D} (h:x::xs=numF i (d::ds)):x=.tup [.int i,d]/\xs=numF (i+1) ds:=by
 unfold numF at h;exact xiy h
end
theorem zwr {i n:Nat} {t:SS} {σ:DS} {st:Store} {xs:List D} {Q:Fl->Store->Prop} (h:σ[i]?=some (some (.ref n))) (h2:st[n]?=some (.lst xs)) (q:WP (t (σ.set i (some (.lst xs))) (st.set n .dead)) Q):WP (sFz i t σ st) Q:=by
 unfold sFz;rw[h];dsimp only;rw[h2];exact q
theorem zyz {st:Store} (o:O) (g:Store):(st++o::g)[st.length]?=some o:=by simp
section
variable {st:Store} {n m:Nat} {Q:D->Store->Prop}
theorem zpy {m:Int} {s:Store} (h1:0<=m) (h2:m<=1000):oMulT (.tup [.int 1]) (.int m) s=.ok (.tup (List.replicate m.toNat (.int 1))) s:=by
 unfold oMulT;dsimp only;rw[if_pos ⟨by simp,by lia,by lia,by simp;lia⟩];unfold timesL
 congr 2
 generalize m.toNat=k
 induction k with
 | zero=>rfl
 | succ k ih=>rw[xdw,xfl,ih,xdw];rfl
theorem addLL {xs ys:List D} (h:xs.length+ys.length<=sizeLine):oAdd (.lst xs) (.lst ys) st=.ok (.lst (xs++ys)) st:=by
 show (if xs.length+ys.length<=sizeLine then Res.ok (D.lst (xs++ys)) st else Res.stuck)=_;rw[if_pos h]
theorem zrw {xs:List D} (h:st[m]?=some (.lst xs)):seqOf st (.ref m)=some xs:=by
 show asL st (.ref m)=_;unfold asL;dsimp only;rw[h]
theorem znk {xs:List D} (h:st[m]?=some (.lst xs)):bLen [.ref m] st=.ok (.int xs.length) st:=by
 unfold bLen;dsimp only;rw[zrw h]
end
section
variable {st:Store} {n m:Nat} {S v1 v5 v6 v7 v8 v9 v10 v11:Option D} {N:Int}
theorem zju:∀{a b:List (List Int)},rowsD a=rowsD b->a=b
 | [],[],_=>rfl
 | [],_::_,h=>by cases h
 | _::_,[],h=>by cases h
 | x::a,y::b,h=>by
  obtain ⟨h1,h2⟩:=xiy (show rowD x::rowsD a=rowD y::rowsD b from h);have:x=y:=by
   have:=D.tup.inj h1;exact List.map_inj_right (fun _ _ e=>D.int.inj e) |>.mp this
  rw[this,zju h2]
end
end Dd
namespace K02
end K02
namespace Dd
open PySem L2
theorem zwp {f:SE} {bd:SG} {b:SS} {σ:DS} {st:Store} {Q:Fl->Store->Prop} {E:Exc->Store->Prop} {xs:List D} (hf:f σ st=.ok (.tup xs) st) (h:WX (forG (fun _=>True) bd b xs σ st) Q E):WX (sForA false (noX f) bd b σ st) Q E:=by
 unfold sForA noX;rw[hf];exact h
section
variable {st:Store} {n m:Nat} {Q:D->Store->Prop}
theorem zmg {ds:List D} {E:Exc->Store->Prop} (h:st[m]?=some (.lst ds)) (hl:ds.length<=1000) (pl:∀d∈ds,Pl 1000 d)
  (good : ds.all (rowB) = true -> ∀ l, ds = rowsD l -> ∀ g, Q (sumD (oddS l)) (st ++ g)) (bad : ∀ i : Nat, i < ds.length -> (∀ d, ds[i]? = some d -> rowB d = false) -> (∀ j, j < i -> ∀ d, ds[j]? = some d -> rowB d = true) -> E ⟨"NoRow", [(i : Int)]⟩ st) : WX (zdp [.ref m] st) Q E := by
 refine zbha rfl ?_;simp only[VX];refine zrr (n:=m) rfl h ?_;refine zlr (fun xs σ s=>∃(i:Nat) (v2 v3:Option D),i<=ds.length/\xs=numF (i:Int) (ds.drop i)/\σ=[some (.ref m),v2,v3]/\s=st/\∀j,j < i->∀d,ds[j]?=some d->rowB d=true) ?_ ?_ ?_ _ _ _ ⟨0,_,_,xcu _,rfl,rfl,rfl,fun j hj=>absurd hj (by lia)⟩
 ·rintro xs σ s ⟨i,v2,v3,_,_,_,rfl,_⟩;exact h
 ·rintro x xs σ s ⟨i,v2,v3,hi,hx,rfl,rfl,ok⟩;have hlt:i < ds.length:=by
   rcases xex i ds.length with z | z
   ·exact z
   ·rw[xdu z] at hx;cases hx
  obtain ⟨d,hr,hd⟩:=zgc hlt;rw[hd] at hx;obtain ⟨rfl,rfl⟩:=zqf hx;refine ⟨_,rfl,?_⟩;unfold zfh;simp only[VX,W,V];refine zqt (k:=1000) (pl d (xch hr)) (by lia) ⟨_,rfl,?_⟩;cases hb:rowB d with
  | true =>
   rw[if_neg (by decide)];refine ⟨i+1,_,_,hlt,by push_cast;rfl,rfl,rfl,fun j hj d' hd'=>?_⟩;rcases xex j i with z | z
   ·exact ok j z d' hd'
   ·obtain rfl:j=i:=by lia
    rw[hr] at hd';cases hd';exact hb
  | false =>
   rw[if_pos (by decide)];refine zow (i:=(i:Int)) (st1:=_) rfl (by lia) (by lia) (bad i hlt (fun d' hd'=>?_) ok);rw[hr] at hd';cases hd';exact hb
 ·rintro σ s ⟨i,v2,v3,hi,hx,rfl,rfl,ok⟩;have hi':i=ds.length:=by
   have:=congrArg List.length hx;rw[zdw,xek] at this;simp at this;lia
  subst hi';simp only[VX,W,V];have all:ds.all (rowB)=true:=by
   rw[xed];intro d hd;obtain ⟨j,hj,e⟩:=List.mem_iff_getElem.mp hd;exact ok j hj d (by rw[xbe hj,e])
  obtain ⟨l,rfl⟩:=zfq all;exact ziz (l:=l) h (by rw[zk] at hl;lia) fun g=>good all l rfl g
theorem ztb {ds:List D} (h:st[m]?=some (.lst ds)) (hl:ds.length<=1000) (pl:∀d∈ds,Pl 1000 d)
  (good:ds.all (rowB)=true->∀l,ds=rowsD l->∀g,Q (.tup [sumD (oddS l),.non]) (st++g)) (bad:∀i:Nat,i < ds.length->(∀d,ds[i]?=some d->rowB d=false)->(∀j,j < i->∀d,ds[j]?=some d->rowB d=true)->Q (.tup [.non,.int i]) st):WP (zbu [.ref m] st) Q:=by
 refine zls rfl ?_;simp only[VX];refine zwo ?_;simp only[VX,W,V];refine zmg h hl pl (fun a l e g=>?_) fun i h1 h2 h3=>?_
 ·exact ⟨small _ (by simp),good a l e g⟩
 ·refine ⟨by simp,?_⟩;simp only[W,V];refine zwt (c := "NoRow") (l := [(i : Int)]) rfl (by simp) ⟨_, rfl, ?_⟩
  rw[if_neg (by decide)];refine zwt (c := "NoRow") (l := [(i : Int)]) rfl (by simp) ⟨_, rfl, ?_⟩
  rw[if_neg (by decide)];refine zbhb (c := "NoRow") (m := (i : Int)) rfl (by simp) ⟨small _ (by simp), ?_⟩
  exact bad i h1 h2 h3
end
noncomputable def RowG (r:List Int):Prop:=r.length<=6/\(∀x∈r,1<=x)/\r.sum<=16
theorem RowG.ok {r:List Int} (h:RowG r):rowB (rowD r)=true:=by
 show rowB (.tup (r.map .int))=true;rw[ziq,xbf,zmb,xcj h.1,xcj h.2.2,Bool.and_true,Bool.and_true,xed];intro x hx;obtain ⟨y,hy,rfl⟩:=xdg.mp hx;exact xcj (h.2.1 y hy)
section
variable {st:Store} {n m:Nat} {Q:D->Store->Prop}
theorem zqh (hb:BagAt st n) (k:∀d st',Pl 1000 d->Sh 5 d->rowB d=false->Drew st st' n->Q d st'):WP (zca [.ref n] st) Q:=by
 refine zls rfl ?_;simp only[W,V];have sm:∀q:Nat,q<=1000->q<=sizeLine:=fun q h=>small _ (by lia)
 refine ⟨sm _ (by simp),sm _ (by simp),sm _ (by simp),sm _ (by simp),sm _ (by simp),sm _ (by simp),sm _ (by simp),sm _ (by simp),WP.of (zpy (by lia) (by lia)) ⟨sm _ (by simp),sm _ (by simp),sm _ (by simp),sm _ (by simp),sm _ (by simp),?_⟩⟩;refine zcc hb (by lia) (by lia) fun t s1 t1 t2 d1=>?_
 have tp:∀ds:List D,ds.length<=1000->(∀d∈ds,Pl 1000 d/\Sh 3 d)->Pl 1000 (.tup ds)/\Sh 4 (.tup ds):=fun ds h1 h2=>⟨.tup (fun d hd=>(h2 d hd).1) h1,.tup fun d hd=>(h2 d hd).2⟩
 have fin:∀d,Pl 1000 d/\Sh 4 d->rowB d=false->Q d s1:=fun d h1 h2=>k d s1 h1.1 (h1.2.mono (by lia)) h2 d1
 have one:∀x:D,Pl 1000 x/\Sh 3 x->Pl 1000 (.tup [x])/\Sh 4 (.tup [x]):=fun x hx=>tp _ (by simp) fun d hd=>by rw[xbl.mp hd];exact hx
 have two:∀x y:Int,Pl 1000 (.tup [.int x,.int y])/\Sh 4 (.tup [.int x,.int y]):=fun x y=>tp _ (by simp) fun d hd=>by
  simp only[xbn,xee,xhs] at hd;rcases hd with rfl | rfl<;>exact ⟨.int _,.int⟩
 have s1' : ∀ n, Sh n (.str "1") := fun n => Sh.str (by decide +kernel)
 refine zmo t1 (by simp;lia) fun d hd=>?_
 simp only[xbn,xee,xhs] at hd;rcases hd with rfl | rfl | rfl | rfl | rfl | rfl | rfl | rfl | rfl | rfl | rfl | rfl | rfl | rfl
 ·exact fin _ ⟨.int _,.int⟩ rfl
 ·exact fin _ ⟨.non,.non⟩ rfl
 ·exact fin _ ⟨.str _,s1' _⟩ rfl
 ·refine fin _ ⟨.lst (fun d hd=>by rw[xbl.mp hd];exact .int _) (by simp),Sh.lst (n:=3) fun d hd=>by rw[xbl.mp hd];exact .int⟩ rfl
 ·exact fin _ (one _ ⟨.int _,.int⟩) (by decide)
 ·exact fin _ (one _ ⟨.int _,.int⟩) (by decide)
 ·exact fin _ (one _ ⟨.bl _,.bl⟩) (by decide)
 ·exact fin _ (one _ ⟨.str _,s1' _⟩) rfl
 ·exact fin _ (one _ ⟨.int _,.int⟩) (by decide)
 ·exact fin _ (two _ _) (by decide)
 ·exact fin _ (tp _ (by decide) fun d hd=>by rw[(List.mem_replicate.mp hd).2];exact ⟨.int _,.int⟩) (by decide)
 ·exact fin _ (one _ ⟨.tup (fun d hd=>by rw[xbl.mp hd];exact .int _) (by simp),Sh.tup (n:=2) fun d hd=>by rw[xbl.mp hd];exact .int⟩) rfl
 ·exact fin _ (one _ ⟨.non,.non⟩) rfl
 ·exact fin _ (two _ _) (by decide)
end
section
variable {st:Store} {n m:Nat} {v5 v6 v7 v8 v9 v10 v11:Option D}
theorem zqr {c:Nat} {Q:Fl->Store->Prop} (hc:c<=8) (hb:BagAt st n) (hm:st[m]?=some (.lst [])) (hne:m≠n) 
  (k:∀(l:List (List Int)) s w5 w6,l.length<=8->(∀r∈l,RowG r)->s[m]?=some (.lst (rowsD l))->BagAt s n->Q (.nx [some (.ref n),some (.ref m),w5,w6,v7,v8,v9,v10,v11]) s) :
  WP (forF (gN 2) zbm (rng 0 c) [some (.ref n),some (.ref m),v5,v6,v7,v8,v9,v10,v11] st) Q:=by
 refine zks (fun i σ s=>∃(l:List (List Int)) (w5 w6:Option D),σ=[some (.ref n),some (.ref m),w5,w6,v7,v8,v9,v10,v11]/\l.length=i/\(∀r∈l,RowG r)/\s[m]?=some (.lst (rowsD l))/\BagAt s n) ⟨[],_,_,rfl,rfl,by simp,hm,hb⟩ ?_ ?_
 ·rintro i x σ s hx ⟨l,w5,w6,rfl,hl,ok,hs,hbs⟩;obtain ⟨hi,rfl⟩:=zet hx;refine ⟨_,rfl,?_⟩;unfold zbm;simp only[W,V];refine zfb hbs (by lia) (by lia) fun r s1 r1 r2 r3 d1=>?_
  have hs1:s1[m]?=some (.lst (rowsD l)):=(d1.keep m (zx hs) hne).trans hs;refine WP.of (znk hs1) ?_;simp only[W,V];have put:∀(r:List Int) (s2:Store),RowG r->s2[m]?=some (.lst (rowsD l))->BagAt s2 n->WP (eAppend (eVar 1) (aCons (eVar 3) aNil) [some (.ref n),some (.ref m),some (.int (0+i)),some (rowD r),v7,v8,v9,v10,v11] s2) fun _ st1=>loopK (fun σ s=>∃(l:List (List Int)) (w5 w6:Option D),σ=[some (.ref n),some (.ref m),w5,w6,v7,v8,v9,v10,v11]/\l.length=i+1/\(∀r∈l,RowG r)/\s[m]?=some (.lst (rowsD l))/\BagAt s n) Q (.nx [some (.ref n),some (.ref m),some (.int (0+i)),some (rowD r),v7,v8,v9,v10,v11]) st1:=fun r s2 (hr:RowG r) h2 b2=>by
   simp only[W,V,M,L];refine ⟨m,_,rfl,h2,_,_,rfl,h2,by rw[zk,xef];lia,l++[r],_,_,rfl,by simp[hl],zul ok hr,?_,?_⟩
   ·rw[xdl (zx h2)];simp[rowsD]
   ·obtain ⟨cc,xx,e1,e2⟩:=b2;exact ⟨cc,xx,by rw[xcm hne];exact e1,e2⟩
  have go1:=put r s1 ⟨r1,r2,r3⟩ hs1 d1.bag;refine ⟨trivial,?_⟩;split
  ·rename_i h0;rw[zk] at h0;refine zcc d1.bag (by lia) (by lia) fun t s2 t1 t2 d2=>?_
   have hs2:s2[m]?=some (.lst (rowsD l)):=(d2.keep m (zx hs1) hne).trans hs1;simp only[W,V];split
   ·refine WP.of (znk hs2) ?_;rw[zk];refine zcc d2.bag (by lia) (by lia) fun u s3 u1 u2 d3=>?_
    have hs3:s3[m]?=some (.lst (rowsD l)):=(d3.keep m (zx hs2) hne).trans hs2;obtain ⟨j,rfl⟩:=xgt u1;have hj:j < l.length:=by lia
    refine zzc (xs:=rowsD l) (d:=rowD l[j]) (zrw hs3) (zoo (by rw[rowsD,xcp,xbe hj];rfl)) ?_;exact put l[j] s3 (ok _ (xdk hj)) hs3 d3.bag
   ·exact put r s2 ⟨r1,r2,r3⟩ hs2 d2.bag
  ·exact go1
 ·rintro σ s ⟨l,w5,w6,rfl,hl,ok,hs,hbs⟩;rw[zch] at hl;exact k l s _ _ (by lia) ok hs hbs
structure Due2 (ds:List D) (due:D):Prop where
 pl:∀d∈ds,Pl 1000 d/\Sh 5 d
 so:(∃l,ds=rowsD l/\ds.all (rowB)=true/\due=.tup [sumD (oddS l),.non])\/∃p:Nat,p < ds.length/\(∀d,ds[p]?=some d->rowB d=false)/\(∀j,j < p->∀d,ds[j]?=some d->rowB d=true)/\due=.tup [.non,.int p]
theorem zur {c:Nat} {ds:List D} {due:D} {Q:Fl->Store->Prop} (hc:c<=3) (hl:ds.length<=12) (hb:BagAt st n) (hd:Due2 ds due) 
  (k:∀(ds:List D) due s w5 w8,ds.length<=15->Due2 ds due->BagAt s n->Q (.nx [some (.ref n),some (.lst ds),w5,v6,some due,w8,v9,v10,v11]) s) :
  WP (forF (gN 2) zbl (rng 0 c) [some (.ref n),some (.lst ds),v5,v6,some due,v8,v9,v10,v11] st) Q:=by
 refine zks (fun i σ s=>∃(ds:List D) (due:D) (w5 w8:Option D),σ=[some (.ref n),some (.lst ds),w5,v6,some due,w8,v9,v10,v11]/\ds.length<=12+i/\Due2 ds due/\BagAt s n) ⟨_,_,_,_,rfl,hl,hd,hb⟩ ?_ ?_
 ·rintro i x σ s hx ⟨ds,due,w5,w8,rfl,hl,hd,hbs⟩;obtain ⟨hi,rfl⟩:=zet hx;refine ⟨_,rfl,?_⟩;unfold zbl;simp only[W,V];refine zcc hbs (by lia) (by lia) fun q s1 q1 q2 d1=>?_
  simp only[W,V,M,Dd.N];obtain ⟨q,rfl⟩:=xgt q1;have hq:q<=ds.length:=by lia
  refine .inr (zqh d1.bag fun o s2 o1 o2 o3 d2=>⟨small _ (by simp),?_⟩);rw[zvq];have t1:(ds.take q).length<=ds.length:=by rw[xco];exact xfu _ _
  refine WP.of (addLL (small _ (by simp;lia))) (.inr ?_);rw[zvr];refine WP.of (addLL (small _ (by simp;lia))) ?_;have hlen:(ds.take q++[o]++ds.drop q).length<=12+(i+1):=by simp;lia
  have hpl:∀d∈ds.take q++[o]++ds.drop q,Pl 1000 d/\Sh 5 d:=fun d h=>by
   rcases xcc.mp h with h | h
   ·rcases xcc.mp h with h | h
    ·exact hd.pl d (xhp h)
    ·rw[xbl.mp h];exact ⟨o1,o2⟩
   ·exact hd.pl d (xjk h)
  have lo:∀j,j < q->(ds.take q++[o]++ds.drop q)[j]?=ds[j]?:=fun j hj=>by
   rw[xcg,xbx (by rw[xco];lia),xjw,if_pos hj]
  have mid:(ds.take q++[o]++ds.drop q)[q]?=some o:=by
   rw[xcg,xcw (by rw[xco];lia),xco,xdn hq,xie];rfl
  have here:(∀j,j < q->∀d,ds[j]?=some d->rowB d=true)->Due2 (ds.take q++[o]++ds.drop q) (.tup [.non,.int q]):=fun ok=>⟨hpl,.inr ⟨q,by simp;lia,fun d h=>by rw[mid] at h;cases h;exact o3,fun j hj d h=>by rw[lo j hj] at h;exact ok j hj d h,rfl⟩⟩
  rcases hd.so with ⟨l,e,a,rfl⟩ | ⟨p,hp,hb1,hb2,rfl⟩
  ·refine zzc (d:=.non) rfl rfl (WP.of (show oIsN false D.non D.non s2=.ok (.bl true) s2 from rfl) ?_);dsimp only [bK];rw[if_pos rfl];refine ⟨small _ (by simp),_,_,_,_,rfl,hlen,here fun j hj d h=>?_,d2.bag⟩;rw[xed] at a;exact a d (xch h)
  ·refine zzc (d:=.int p) rfl rfl (WP.of (show oIsN false (D.int p) D.non s2=.ok (.bl false) s2 from rfl) ?_);dsimp only [bK];rw[if_neg (by decide)];refine zzc (d:=.int p) rfl rfl ?_;simp only[W,V];refine ⟨trivial,?_⟩;split
   ·rename_i h;have h:q<=p:=by lia
    exact ⟨small _ (by simp),_,_,_,_,rfl,hlen,here fun j hj d hd'=>hb2 j (by lia) d hd',d2.bag⟩
   ·rename_i h;have h:p < q:=by lia
    exact ⟨_,_,_,_,rfl,hlen,⟨hpl,.inr ⟨p,by simp;lia,fun d h'=>by rw[lo p h] at h';exact hb1 d h',fun j hj d h'=>by rw[lo j (by lia)] at h';exact hb2 j hj d h',rfl⟩⟩,d2.bag⟩
 ·rintro σ s ⟨ds,due,w5,w8,rfl,hl,hd,hbs⟩;rw[zch] at hl;exact k ds due s _ _ (by lia) hd hbs
theorem zpj {ds:List D} {due:D} {h:Nat} {Q:D->Store->Prop} (hh:st[h]?=some (.lst ds)) (hl:ds.length<=15) (hd:Due2 ds due) (k:∀g,Q due (st++g)):WP (zbu [.ref h] st) Q:=by
 refine ztb hh (by lia) (fun d hd'=>(hd.pl d hd').1) (fun a l e g=>?_) fun i hi h1 h2=>?_
 ·rcases hd.so with ⟨l',e',_,rfl⟩ | ⟨p,hp,hb1,_,_⟩
  ·obtain rfl:l=l':=zju (e.symm.trans e');exact k g
  ·rw[xed] at a;have:=hb1 _ (xbe hp);rw[a _ (xdk hp)] at this;cases this
 ·rcases hd.so with ⟨l',e',a,rfl⟩ | ⟨p,hp,hb1,hb2,rfl⟩
  ·rw[xed] at a;have:=h1 _ (xbe hi);rw[a _ (xdk hi)] at this;cases this
  ·have:i=p:=by
    rcases Nat.lt_trichotomy i p with z | z | z
    ·have:=hb2 i z _ (xbe hi);rw[h1 _ (xbe hi)] at this;cases this
    ·exact z
    ·have:=h2 p z _ (xbe hp);rw[hb1 _ (xbe hp)] at this;cases this
   subst this;have:=k [];rw[xdm] at this;exact this
theorem Due2.sh {ds : List D} {due : D} (hd : Due2 ds due) : Sh 64 due /\ (∀ s, now s due = due) /\ ∃ a b, due = .tup [a, b] /\ (∀ s : Store, bIsinst [b, .ty "bool"] s = .ok (.bl false) s) /\ (a = .non \/ ∃ l, a = sumD l) := by
 rcases hd.so with ⟨l,e,_,rfl⟩ | ⟨p,_,_,_,rfl⟩
 ·refine ⟨(Sh.tup (n:=5) fun d h=>?_).mono (by lia),fun _=>rfl,_,_,rfl,fun _=>rfl,.inr ⟨_,rfl⟩⟩;simp only[xbn,xee,xhs] at h;rcases h with rfl | rfl
  ·exact Sh.sum
  ·exact .non
 ·refine ⟨(Sh.tup (n:=5) fun d h=>?_).mono (by lia),fun _=>rfl,_,_,rfl,fun _=>rfl,.inl rfl⟩;simp only[xbn,xee,xhs] at h;rcases h with rfl | rfl
  ·exact .non
  ·exact .int
theorem zqp {ds:List D} {due:D} {h:Nat} {Q:Fl->Store->Prop} (hh:st[h]?=some (.lst ds)) (hl:ds.length<=15) (hd:Due2 ds due) (hb:BagAt st n)
  (k:∀s w10,s[h]?=some (.lst ds)->BagAt s n->Q (.nx [some (.ref n),some (.lst ds),v5,v6,some due,v8,some (.ref h),w10,some due]) s) :
  WP (forF (gN 7) zbk (rng 0 2) [some (.ref n),some (.lst ds),v5,v6,some due,v8,some (.ref h),v10,v11] st) Q:=by
 obtain ⟨d1,d2,a,b,d3,d4,d5⟩:=hd.sh;refine zks (fun i σ s=>∃(w10 w11:Option D),σ=[some (.ref n),some (.lst ds),v5,v6,some due,v8,some (.ref h),w10,w11]/\s[h]?=some (.lst ds)/\(0 < i->w11=some due)/\BagAt s n) ⟨_,_,rfl,hh,fun z=>absurd z (by lia),hb⟩ ?_ ?_
 ·rintro i x σ s hx ⟨w10,w11,rfl,hs,_,hbs⟩;obtain ⟨hi,rfl⟩:=zet hx;refine ⟨_,rfl,?_⟩;unfold zbk;simp only[W,V];refine zpj hs hl hd fun g=>?_
  have hs2:(s++g)[h]?=some (.lst ds):=by rw[xbx (zx hs)];exact hs
  refine WP.of (znp (d2 _) (d2 _) d1) ?_;dsimp only [bK];rw[if_neg (by decide)];have e1:∀s:Store,oIx due (.int 1) s=.ok b s:=fun s=>by rw[d3];rfl
  have e0:∀s:Store,oIx due (.int 0) s=.ok a s:=fun s=>by rw[d3];rfl
  refine WP.of (e1 _) (WP.of (d4 _) ⟨false,rfl,?_⟩);rw[if_neg (by decide)];refine WP.of (znp (zyu hs2) rfl ((Sh.lst (n:=5) fun d hd'=>(hd.pl d hd').2).mono (by lia))) ?_;dsimp only [bK];rw[if_neg (by decide)];simp only[L,W,V];exact ⟨_,_,rfl,hs2,fun _=>rfl,let ⟨c,x,e,r⟩:=hbs;⟨c,x,by rw[xbx (zx e)];exact e,r⟩⟩
 ·rintro σ s ⟨w10,w11,rfl,hs,z,hbs⟩;rw[z (by rw[zch];lia)];exact k s _ hs hbs
theorem zhn {Q:D->Store->Prop} (hb:BagAt st n) (k:∀s,BagAt s n->Q (.bl true) s):WP (zbb [.ref n] st) Q:=by
 refine zls rfl ?_;simp only[W,V];refine ⟨small _ (by simp),?_⟩;have more:∀(s g:Store),BagAt s n->BagAt (s++g) n:=fun s g ⟨a,b,e,h⟩=>⟨a,b,by rw[xbx (zx e)];exact e,h⟩
 have lt0:n < st.length:=let ⟨_,_,e,_⟩:=hb;zx e
 refine zcc (more _ _ hb) (by lia) (by lia) fun c s2 c1 c2 d2=>⟨c,rfl,rngN (by lia) (by lia),?_⟩
 have hm:s2[st.length]?=some (.lst []):=(d2.keep st.length (by simp) (by lia)).trans (by simp);refine zqr (by lia) d2.bag hm (by lia) fun l s3 w5 w6 l1 l2 l3 b3=>?_
 simp only[W,V];refine zwr rfl l3 ?_;simp only[W,V];refine zqb (l:=l) rfl (by lia) fun g2=>⟨small _ (by simp),?_⟩
 have b4:BagAt (s3.set st.length .dead++g2) n:=by
  refine more _ _ ?_;obtain ⟨a,b,e,h⟩:=b3;exact ⟨a,b,by rw[xcm (by lia)];exact e,h⟩
 refine zcc b4 (by lia) (by lia) fun t s5 t1 t2 d5=>?_
 simp only[W,V];refine ⟨trivial,_,rfl,rngN (by split<;>lia) (by split<;>lia),?_⟩;have good:Due2 (rowsD l) (.tup [sumD (oddS l),.non]):=by
  refine ⟨fun d hd=>?_,.inl ⟨l,rfl,?_,rfl⟩⟩
  ·obtain ⟨r,hr,rfl⟩:=xdg.mp (show d∈l.map rowD from hd);exact ⟨Pl.row (by have:=(l2 r hr).1;lia),Sh.row⟩
  ·rw[xed];intro d hd;obtain ⟨r,hr,rfl⟩:=xdg.mp (show d∈l.map rowD from hd);exact (l2 r hr).ok
 refine zur (by split<;>lia) (by rw[zk];lia) d5.bag good fun ds due s6 w5 w8 e1 e2 e3=>?_
 simp only[W,V];refine WP.of (show bListM [.lst ds] s6=.ok (.ref s6.length) (s6++[.lst ds]) from rfl) ⟨_,rfl,rngN (by lia) (by lia),?_⟩;refine zqp (h:=s6.length) (zyz _ _) (by lia) e2 (more _ _ e3) fun s7 w10 h7 b7=>?_
 simp only[W,V];refine zsz (n:=s6.length) rfl h7 ?_;obtain ⟨q1,q2,_⟩:=e2.sh;refine WP.of (znp (q2 _) (q2 _) q1) ?_;have lt6:n < s6.length:=let ⟨_,_,e,_⟩:=e3;zx e
 obtain ⟨a,b,e,hh⟩:=b7;exact k _ ⟨a,b,by rw[xcm (by lia)];exact e,hh⟩
theorem ziy {l:List (List Int)} {Q:D->Store->Prop} (hl:l.length<=1000000) (k:∀g,Q (sumD (oddS l)) (st++g)):WP (zbh [sumD l] st) Q:=by
 refine zls rfl ?_;simp only[W,V];refine WX.wp (zwp rfl ?_);refine zlr (fun xs σ s=>∃i v,i<=l.length/\xs=rowsD (l.drop i)/\σ=[some (sumD l),some (.ref st.length),v]/\s=st++[.dT (trueD (oddL (l.take i)))]) (fun _ _ _ _=>trivial) ?_ ?_ _ _ _ ⟨0,_,xcu _,rfl,rfl,rfl⟩
 ·rintro x xs σ s ⟨i,v,hi,hx,rfl,rfl⟩;have hlt:i < l.length:=by
   rcases xex i l.length with z | z
   ·exact z
   ·rw[xdu z] at hx;cases hx
  obtain ⟨r,hr,hd⟩:=zgc hlt;rw[hd] at hx;obtain ⟨rfl,rfl⟩:=xiy (show x::xs=rowD r::rowsD (l.drop (i+1)) from hx);refine ⟨_,rfl,?_⟩;unfold zcd;rw[zox];simp only[W,V];have h1:=zci (l.take i);have h2:(l.take i).length<=l.length:=by rw[xco];exact xfu _ _
  refine zsl (ks:=oddL (l.take i)) (by simp) (by lia) ⟨i+1,_,hlt,rfl,rfl,?_⟩;rw[zcl hr];unfold oddL;rw[List.foldl_append];simp
 ·rintro σ s ⟨i,v,hi,hx,rfl,rfl⟩;have hi':i=l.length:=by
   have:=congrArg List.length hx;rw[zk,xek] at this;simp at this;lia
  subst hi';rw[xfv];simp only[W,V];have h1:=zci l;refine zjr (ks:=oddL l) (by simp) (by lia) ?_;simp only[W,V];exact k _
theorem zhi {a b:List (List Int)} {Q:D->Store->Prop} (hl:a.length+b.length<=1000000) (k:∀g,Q (sumD (oddS (a++b))) (st++g)):WP (zbz [sumD a,sumD b] st) Q:=by
 refine zls rfl ?_;simp only[W,V];refine ⟨by rw[zk,zk];exact small _ (by lia),?_⟩;have e:D.tup (rowsD a++rowsD b)=sumD (a++b):=by unfold sumD rowsD;rw[xev]
 rw[e];exact ziy (by simp;lia) k
theorem zqq (ns:List Int) (hl:ns.length<=63):∃st',zbgb [.scr (ns.map .int)] []=.ok (.bl true) st':=by
 have key:WP (zbgb [.scr (ns.map .int)] []) (fun v _=>v=.bl true):=by
  refine zls rfl ?_;simp only[W,V];have hle:((ns.map D.int).length:Int)<=63:=by rw[xbf];lia
  have hge:(0:Int)<=((ns.map D.int).length:Int):=by lia
  generalize ((ns.map D.int).length:Int)=len at hle hge;refine ⟨_,rfl,rngN (by split<;>lia) (by split<;>lia),?_⟩;refine zks (fun i σ s=>∃v1 v2 v3 v4 v5 v6 v7 v8:Option D,σ=[some (.scr (ns.map .int)),v1,v2,v3,v4,v5,v6,v7,v8]) ⟨_,_,_,_,_,_,_,_,rfl⟩ ?_ ?_
  ·rintro i x σ s0 hx ⟨v1,v2,v3,v4,v5,v6,v7,v8,rfl⟩;obtain ⟨hi,rfl⟩:=zet hx;have hi2:i<=10:=by split at hi<;>lia
   refine ⟨_,rfl,?_⟩;unfold zot;simp only[W,V];rw[xkm];refine zbfq hl (by lia) fun g hb=>?_
   try simp only[W,V]
   refine zhn hb fun s1 b1=>⟨true,rfl,?_⟩
   simp only[W,V];refine ⟨small _ (by simp),?_⟩;refine zcc b1 (by lia) (by lia) fun t s2 t1 t2 d2=>?_
   simp only[W,V];refine zmo ?p0 ?p1 fun d hd=>?_
   case p0=>split<;>lia
   case p1=>simp only[xby,xgx];split<;>lia
   obtain ⟨e,rfl,he⟩:∃e:Int,d=.int e/\1<=e/\e<=13:=by
    simp only[xbn,xee,xhs] at hd;rcases hd with rfl | rfl
    ·exact ⟨7,rfl,by lia,by lia⟩
    ·exact ⟨13,rfl,by lia,by lia⟩
   refine zcc d2.bag (by lia) (by lia) fun c s3 c1 c2 d3=>?_
   refine zeb d3.bag (by lia) (by lia) (by lia) (by lia) fun one s4 _ o2 _ d4=>?_
   simp only[W,V,M,Dd.N];refine zcc d4.bag (by lia) (by lia) fun c' s5 c3 c4 d5=>?_
   refine zeb d5.bag (by lia) (by lia) (by lia) (by lia) fun oth s6 _ p2 _ d6=>?_
   simp only[W,V,M,Dd.N];refine zcc d6.bag (by lia) (by lia) fun u s7 u1 u2 d7=>?_
   simp only[W,V,M,Dd.N];obtain ⟨u,rfl⟩:=xgt u1;have z6:=zvq (rowsD oth) 6;rw[show ((6:Nat):Int)=6 from rfl] at z6;rw[z6,zvq];have e1:(rowsD oth).take 6++(rowsD one).take u=rowsD (oth.take 6++one.take u):=by unfold rowsD;rw[xev,List.map_take,List.map_take]
   have l1:(oth.take 6++one.take u).length<=40:=by rw[xcb,xco,xco];lia
   refine ⟨by rw[← xcb,e1,zk];exact small _ (by lia),?_⟩;rw[e1];refine zqb (l:=oth.take 6++one.take u) rfl (by lia) fun g2=>?_
   have l2:=zfu (oth.take 6++one.take u);generalize oddS (oth.take 6++one.take u)=ot at l2;refine ⟨small _ (by simp),small _ (by simp),small _ (by simp),small _ (by simp),small _ (by simp),small _ (by simp),?_⟩;have each:∀p∈[(one,ot),(ot,one),(one,one),(one,[])],p.1.length<=60/\p.2.length<=60:=fun p hp=>by
    simp only[xbn,xee,xhs] at hp;rcases hp with rfl | rfl | rfl | rfl
    ·exact ⟨by show one.length<=60;lia,by show ot.length<=60;lia⟩
    ·exact ⟨by show ot.length<=60;lia,by show one.length<=60;lia⟩
    ·exact ⟨by show one.length<=60;lia,by show one.length<=60;lia⟩
    ·exact ⟨by show one.length<=60;lia,by show 0<=60;lia⟩
   refine zks (xs:=[(one,ot),(ot,one),(one,one),(one,[])].map fun p:List (List Int) × List (List Int)=>D.tup [sumD p.1,sumD p.2]) (fun i' σ s=>∃w6 w7 w8:Option D,σ=[some (.scr (ns.map .int)),some (.int i),some (.ref s0.length),some (.int c),some (sumD one),some (sumD ot),w6,w7,w8]) ⟨_,_,_,rfl⟩ ?_ ?_
   ·rintro j y σ s8 hy ⟨w6,w7,w8,rfl⟩;rw[xcp] at hy;obtain ⟨q,hq,rfl⟩:=xcv.mp hy;obtain ⟨q1,q2⟩:=each q (xch hq);refine ⟨_,rfl,?_⟩;unfold zou;simp only[W,V];refine zhi (by lia) fun g3=>?_
    refine WP.of (show bIsinst [sumD (oddS (q.1 ++ q.2)), .ty "tuple"] (s8 ++ g3) = .ok (.bl true) (s8 ++ g3) from rfl) ⟨true, rfl, ?_⟩
    simp only[W,V];refine ⟨by rw[zk,zk];exact small _ (by lia),?_⟩;have e2:D.tup (rowsD q.1++rowsD q.2)=sumD (q.1++q.2):=by unfold sumD rowsD;rw[xev]
    rw[e2];refine zqb (l:=q.1++q.2) rfl (by simp;lia) fun g4=>?_
    refine WP.of (zys _ _) ?_;dsimp only [bK];rw[xcj rfl,if_neg (by decide)];simp only[W,V,L];exact ⟨_,_,_,rfl⟩
   ·rintro σ s8 ⟨w6,w7,w8,rfl⟩;simp only[L];exact ⟨_,_,_,_,_,_,_,_,rfl⟩
  ·rintro σ s ⟨v1,v2,v3,v4,v5,v6,v7,v8,rfl⟩;simp only[W,V]
 obtain ⟨a,st',e,rfl⟩:=key.get;exact ⟨st',e⟩
end
end Dd
namespace K15
theorem holds:∀ns:List Int,ns.length<=63->∃st',Dd.zbgb [.scr (ns.map .int)] []=.ok (.bl true) st':=fun ns hl=>Dd.zqq ns hl
end K15
namespace K15
open PySem L2 Dd
noncomputable def top (i:Nat):Stmt:=PySem.Challenge.pw_raisedsums_k15_rows_put_together.main.body.getD i (.Pass ⟨0,0,0,0⟩)
noncomputable abbrev zes:Stmt:=top 15
noncomputable abbrev zds:Stmt:=top 16
noncomputable abbrev zer:Stmt:=top 17
noncomputable abbrev zbw:Stmt:=top 18
noncomputable abbrev zcv:Stmt:=top 20
noncomputable abbrev zbr:Stmt:=top 19
noncomputable abbrev zte:Stmt:=top 5
noncomputable abbrev zep:Stmt:=top 6
noncomputable abbrev ztf:Stmt:=top 10
noncomputable abbrev zeq:Stmt:=top 4
noncomputable abbrev zin:Stmt:=top 11
noncomputable abbrev zgj:Stmt:=top 12
noncomputable abbrev zdr:Stmt:=top 22
noncomputable abbrev zcu:Stmt:=top 21
noncomputable abbrev zbq:Stmt:=top 23
noncomputable abbrev zde:Stmt:=top 13
noncomputable abbrev zwh:Stmt:=top 24
noncomputable abbrev ztc:Stmt:=initOf (top 2)
theorem ib_NoRow : InitBody ztc "RaisedError" := ⟨⟨_, _, _, _, _, _, _, _, _, _, _, _, _, _, _, _, _, _, _, by decide, by decide, rfl, fun _ => rfl⟩, ⟨rfl, rfl, rfl, by decide +kernel, rfl, by decide +kernel, by decide +kernel⟩, rfl, by decide, fun _ _ _ _ _ _ _ us hl => len2 us hl fun _ _ => rfl⟩
section
variable {P:Program} {w:World} {K:Fg} {mg:Str->Option Value} {base h:Heap}
theorem zfp : FnScope ["_law_script", "_law_at", "_law_cell", "_law_mix", "_law_k"] ["_law_script", "_law_at"] (defScope zes) := ⟨rfl, rfl, rfl, by decide +kernel, rfl, by decide +kernel, by decide +kernel⟩
theorem zlf (T : TopF K "_law_bag" zes) (XX : K.In h) (G : h.Ns mainGlobals mg) (z_len : mg "len" = none) (z_abs : mg "abs" = none) (z_min : mg "min" = none) (z_range : mg "range" = none) : CalD P w K mg base "_law_bag" 1 ["_law_script", "_law_at"] zdb :=
 have nd:=zfp.nd
 zbf (k:=0) T XX G zfp (fun _ _ _ _ _ _ us hl=>len2 us hl fun _ _=>rfl) fun f cdv A outer s H E hr=>(ze (zu (i:=2) nd rfl (Or.inl rfl) zg)
 (ze (zdf (zbp (zpx hr.units0) zqd (zd (pv 1)) (zp zba zic rfl z_len zib (za (zd (pv 0)) zc)) (nomark _)) (zo (zu (i:=2) nd rfl (Or.inl rfl) (zp zvv zbfy rfl z_abs zbfo (za (zje (zd (pv 0)) (zd (pv 1)) (fun _ _=>rfl)) zc)))) zbx)
 (ze (zu (i:=3) nd rfl (Or.inl rfl) (zcr zbo zcw (zcr zla (oI_D fun _ _ _ _=>.int _) zg (zd (pv 1))) zg))
 (ze (zea xej rfl (zby rfl z_range (za (zp (zgz rfl) zbbj rfl z_min zvx (za (zp zba zic rfl z_len zib (za (zd (pv 0)) zc)) (za zg zc))) zc)) (zz (i:=4) nd rfl (Or.inl rfl))
 (zo (zu (i:=3) nd rfl (Or.inl rfl) (zcr ziv (oI_D fun _ _ _ _=>.int _) (zcr zbo zcw (zcr zbo zcw (zcr zla (oI_D fun _ _ _ _=>.int _) (zd (pv 3)) zg) (zcr ziv (oI_D fun _ _ _ _=>.int _) (zje (zd (pv 0)) (zd (pv 4)) (fun _ _=>rfl)) zg)) (zd (pv 4))) zg))))
 (ze (zdf (zbp (zpx hr.units0) zqd (zd (pv 2)) (zcr zbde (oI_D fun _ _ _ _=>.int _) zg zg) (nomark _)) (zo (zu (i:=2) nd rfl (Or.inl rfl) zg)) zbx)
 (zo (zy (zsr (za (zd (pv 2)) (za (zd (pv 3)) zc))))))))))
theorem zeo : FnScope ["_law_bag_here", "_law_many", "_law_digit", "_law_number", "_law_room"] ["_law_bag_here", "_law_many"] (defScope zds) := ⟨rfl, rfl, rfl, by decide +kernel, rfl, by decide +kernel, by decide +kernel⟩
theorem zix (T : TopF K "_law_take" zds) (XX : K.In h) (G : h.Ns mainGlobals mg)  : CalD P w K mg base "_law_take" 1 ["_law_bag_here", "_law_many"] zm :=
 have nd:=zeo.nd
 zbf (k:=0) T XX G zeo (fun _ _ _ _ _ _ us hl=>len2 us hl fun _ _=>rfl) fun f cdv A outer s H E hr=>(ze (zdf (zbp zbbr (zmy fun _ _ _ _=>.bl _) (zje (zd (pv 0)) zg (fun _ _=>rfl)) zg (nomark _)) (ze (zu (i:=2) nd rfl (Or.inl rfl) (zcr ziv (oI_D fun _ _ _ _=>.int _) (zje (zd (pv 0)) zg (fun _ _=>rfl)) (zd (pv 1))))
 (ze (zkf (zcr zmt (oI_D fun _ _ _ _=>.int _) (zje (zd (pv 0)) zg (fun _ _=>rfl)) (zd (pv 1))) (zd (pv 0)) zg)
 (zo (zy (zd (pv 2)))))) zbx)
 (ze (zu (i:=3) nd rfl (Or.inl rfl) zg)
 (ze (zu (i:=4) nd rfl (Or.inl rfl) zg)
 (ze (zra xej (zbp (zpx hr.units0) zqd (zd (pv 4)) (zd (pv 1)) (nomark _)) (ze (zkf (zcr ziv (oI_D fun _ _ _ _=>.int _) (zcr zbo zcw (zcr zla (oI_D fun _ _ _ _=>.int _) (zje (zd (pv 0)) zg (fun _ _=>rfl)) zg) zg) zg) (zd (pv 0)) zg)
 (ze (zu (i:=3) nd rfl (Or.inl rfl) (zcr zbo zcw (zcr zla (oI_D fun _ _ _ _=>.int _) (zd (pv 3)) zg) (zcr ziv (oI_D fun _ _ _ _=>.int _) (zcr zla (oI_D fun _ _ _ _=>.int _) (zcr zmt (oI_D fun _ _ _ _=>.int _) (zje (zd (pv 0)) zg (fun _ _=>rfl)) zg) zg) zg)))
 (zo (zu (i:=4) nd rfl (Or.inl rfl) (zcr zla (oI_D fun _ _ _ _=>.int _) (zd (pv 4)) zg))))))
 (zo (zy (zcr ziv (oI_D fun _ _ _ _=>.int _) (zd (pv 3)) (zd (pv 1)))))))))
theorem zfo : FnScope ["_law_products", "_law_often", "_law_product"] ["_law_products"] (defScope zer) := ⟨rfl, rfl, rfl, by decide +kernel, rfl, by decide +kernel, by decide +kernel⟩
theorem zle (T : TopF K "_law_odd" zer) (XX : K.In h) (G : h.Ns mainGlobals mg) (z_sorted : mg "sorted" = none) (z_tuple : mg "tuple" = none) : CalD P w K mg base "_law_odd" 1 ["_law_products"] zbj :=
 have nd:=zfo.nd
 zbf (k:=0) T XX G zfo (fun _ _ _ _ _ _ us hl=>len1 us hl fun _=>rfl) fun f cdv A outer s H E hr=>(ze (zu (i:=1) nd rfl (Or.inr rfl) zss)
 (ze (zea xej rfl (zhv (zd (pv 0))) (zz (i:=2) nd rfl (Or.inl rfl))
 (zo (znv (zwj hr) (zd (pv 1)) (zd (pv 2)) (zcr zbo zcw (zvk (zwj hr) (zd (pv 1)) (zd (pv 2)) zg ⟨rfl,rfl,rfl,rfl⟩) zg) rfl)))
 (zo (zy (zej zec zon rfl z_tuple zha (za (zp (zfg rfl hr.units) zkq rfl z_sorted zkl (za (zob rfl (zvh (zd (pv 1))) (fun _ _ _ _ _ => (zz (i := 0) (show (["_law_product", "_law_often"] : List Str).Nodup from by decide +kernel) rfl (Or.inl rfl))) (fun _ _ _ _ _ => (zvf (zbp (zlb hr.units) zqe (zcr ziv (oI_D fun _ _ _ _ => .int _) (zbap (zwj hr) (zd (pv 1)) (zd (pv 0)) (fun _ _ => rfl)) zg) zg (nomark _)))) (fun _ _ _ _ _ => (zd (pv 0))) (N := ["_law_product", "_law_often"]) (k := 1) (is := [1]) (zhy (by rfl))) zc)) zc))))))
theorem zcp : FnScope ["_law_bag_here", "_law_most", "_law_row", "_law_left", "_law_k", "_law_part"] ["_law_bag_here", "_law_most"] (defScope zbw) := ⟨rfl, rfl, rfl, by decide +kernel, rfl, by decide +kernel, by decide +kernel⟩
theorem zee (T : TopF K "_law_drawn_row" zbw) (XX : K.In h) (G : h.Ns mainGlobals mg) (z_range : mg "range" = none) (z_min : mg "min" = none) (c__law_take : CalD P w K mg base "_law_take" 1 ["_law_bag_here", "_law_many"] zm) : CalD P w K mg base "_law_drawn_row" 2 ["_law_bag_here", "_law_most"] zv :=
 have nd:=zcp.nd
 zbf (k:=1) T XX G zcp (fun _ _ _ _ _ _ us hl=>len2 us hl fun _ _=>rfl) fun f cdv A outer s H E hr=>(ze (zu (i:=2) nd rfl (Or.inl rfl) (zbt zc))
 (ze (zu (i:=3) nd rfl (Or.inl rfl) (zd (pv 1)))
 (ze (zea xej rfl (zby rfl z_range (za (zt c__law_take (fun _ _ _ _ h=>zr h) (hr.mono (by decide)) rfl (za (zd (pv 0)) (za zg zc))) zc)) (zz (i:=4) nd rfl (Or.inl rfl))
 (zo (zdf (zbp zbbr (zmy fun _ _ _ _=>.bl _) (zd (pv 3)) zg (nomark _)) (ze (zu (i:=5) nd rfl (Or.inl rfl) (zcr zbo zcw zg (zt c__law_take (fun _ _ _ _ h=>zr h) (hr.mono (by decide)) rfl (za (zd (pv 0)) (za (zje (zlo (za (zd (pv 3)) (za (zp (zgz rfl) zbbj rfl z_min zvx (za (zd (pv 3)) (za zg zc))) zc))) (zt c__law_take (fun _ _ _ _ h=>zr h) (hr.mono (by decide)) rfl (za (zd (pv 0)) (za zg zc))) (fun _ _=>rfl)) zc)))))
 (ze (zu (i:=2) nd rfl (Or.inl rfl) (zcr zbo zcw (zd (pv 2)) (zbt (za (zd (pv 5)) zc))))
 (zo (zu (i:=3) nd rfl (Or.inl rfl) (zcr zue (zmy fun _ _ _ _=>.int _) (zd (pv 3)) (zd (pv 5))))))) zbx)))
 (zo (zy (zd (pv 2)))))))
theorem zdh : FnScope ["_law_row", "_law_more"] ["_law_row", "_law_more"] (defScope zcv) := ⟨rfl, rfl, rfl, by decide +kernel, rfl, by decide +kernel, by decide +kernel⟩
theorem zgn (T : TopF K "_law_filled" zcv) (XX : K.In h) (G : h.Ns mainGlobals mg) (z_len : mg "len" = none) : CalD P w K mg base "_law_filled" 1 ["_law_row", "_law_more"] zcb :=
 have nd:=zdh.nd
 zbf (k:=0) T XX G zdh (fun _ _ _ _ _ _ us hl=>len2 us hl fun _ _=>rfl) fun f cdv A outer s H E hr=>(ze (zdf (zbp (zlb hr.units) zqe (zd (pv 1)) zg (nomark _)) (zo (zy (zd (pv 0)))) zbx)
 (ze (zdf (zbp (zpx hr.units0) zqd (zp zba zic rfl z_len zib (za (zd (pv 0)) zc)) zg (nomark _)) (zo (zy (zcr zbo zcw (zd (pv 0)) (zbt (za (zd (pv 1)) zc))))) zbx)
 (zo (zy (zcr zbo zcw (zbam (zd (pv 0)) zfd (zfc (zrg zg))) (zbt (za (zcr zbo zcw (zje (zd (pv 0)) (zrg zg) (fun _ _=>rfl)) (zd (pv 1))) zc)))))))
theorem zcg : FnScope ["_law_bag_here", "_law_many", "_law_most", "_law_rows", "_law_top"] ["_law_bag_here", "_law_many", "_law_most"] (defScope zbr) := ⟨rfl, rfl, rfl, by decide +kernel, rfl, by decide +kernel, by decide +kernel⟩
theorem zdv (T : TopF K "_law_drawn_rows" zbr) (XX : K.In h) (G : h.Ns mainGlobals mg) (z_range : mg "range" = none) (z_sum : mg "sum" = none) (z_max : mg "max" = none) (c__law_drawn_row : CalD P w K mg base "_law_drawn_row" 2 ["_law_bag_here", "_law_most"] zv) (c__law_take : CalD P w K mg base "_law_take" 1 ["_law_bag_here", "_law_many"] zm) (c__law_filled : CalD P w K mg base "_law_filled" 1 ["_law_row", "_law_more"] zcb) (c__law_odd : CalD P w K mg base "_law_odd" 1 ["_law_products"] zbj) : CalD P w K mg base "_law_drawn_rows" 3 ["_law_bag_here", "_law_many", "_law_most"] zw :=
  have nd := zcg.nd
  zbf (k := 2) T XX G zcg (fun _ _ _ _ _ _ us hl => len3 us hl fun _ _ _ => rfl) fun f cdv A outer s H E hr => (ze (znu (i := 3) rfl nd rfl (Or.inl rfl) (zby rfl z_range (za (zd (pv 1)) zc)) (fun _ _ _ _ _ => (zz (i := 0) (show (["_law_k", "_law_bag_here", "_law_most"] : List Str).Nodup from by decide +kernel) rfl (Or.inl rfl))) (fun _ _ _ _ _ => zgu) (fun _ _ _ _ _ => (zt c__law_drawn_row (fun _ _ _ _ h => zr h) (hr.mono (by decide)) rfl (za (zd (pv 1)) (za (zd (pv 2)) zc)))) (N := ["_law_k", "_law_bag_here", "_law_most"]) (k := 1) (is := [0, 2]) (zhy (by rfl)))
  (ze (zdf (JW.pt (zso (zbp (zlb hr.units) zqe (zt c__law_take (fun _ _ _ _ h => zr h) (hr.mono (by decide)) rfl (za (zd (pv 0)) (za zg zc))) zg (nomark _)) (zga (zbp zbbr (zmy fun _ _ _ _ => .bl _) (zd (pv 1)) zg (nomark _)) (by first | exact Or.inl rfl | exact Or.inr rfl)))) (ze (zu (i := 4) nd rfl (Or.inr rfl) (zp (zro rfl) zbbi rfl z_max zvy (za (zob rfl (zhv (zd (pv 3))) (fun _ _ _ _ _ => (zz (i := 0) (show (["_law_row"] : List Str).Nodup from by decide +kernel) rfl (Or.inl rfl))) (fun _ _ _ _ _ => zgu) (fun _ _ _ _ _ => (zp (zgx rfl) zwa rfl z_sum zvw (za (zd (pv 0)) zc))) (N := ["_law_row"]) (k := 1) (is := []) (zhy (by rfl))) zc)))
  (zo (znu (i := 3) rfl nd rfl (Or.inl rfl) (zhv (zd (pv 3))) (fun _ _ _ _ _ => (zz (i := 0) (show (["_law_row", "_law_top"] : List Str).Nodup from by decide +kernel) rfl (Or.inl rfl))) (fun _ _ _ _ _ => zgu) (fun _ _ _ _ _ => (zt c__law_filled (fun _ _ _ _ h => zr h) (hr.mono (by decide)) rfl (za (zd (pv 0)) (za (zcr zue (zmy fun _ _ _ _ => .int _) (zd (pv 1)) (zp (zgx rfl) zwa rfl z_sum zvw (za (zd (pv 0)) zc))) zc)))) (N := ["_law_row", "_law_top"]) (k := 1) (is := [4]) (zhy (by rfl))))) zbx)
  (zo (zy (zt c__law_odd (fun _ _ _ _ h => zr h) (hr.mono (by decide)) rfl (za (zd (pv 3)) zc))))))
theorem zrx : FnScope ["kept", "thing"] ["kept", "thing"] (defScope zte) := ⟨rfl, rfl, rfl, by decide +kernel, rfl, by decide +kernel, by decide +kernel⟩
theorem zym (T : TopF K "flip" zte) (XX : K.In h) (G : h.Ns mainGlobals mg)  : CalD P w K mg base "flip" 1 ["kept", "thing"] zlp :=
 have nd:=zrx.nd
 zbf (k:=0) T XX G zrx (fun _ _ _ _ _ _ us hl=>len2 us hl fun _ _=>rfl) fun f cdv A outer s H E hr=>(zo (zdf (zbep (zbdc (zwj hr) (zd (pv 1)) (zd (pv 0)))) (zo (zgt (zbao (zwj hr) (zd (pv 0)) (zd (pv 1)) ⟨rfl,rfl,rfl,rfl⟩))) (zo (znv (zwj hr) (zd (pv 0)) (zd (pv 1)) zvn rfl))))
theorem zfm : FnScope ["things", "kept", "thing"] ["things"] (defScope zep) := ⟨rfl, rfl, rfl, by decide +kernel, rfl, by decide +kernel, by decide +kernel⟩
theorem zlc (T : TopF K "odd_ones" zep) (XX : K.In h) (G : h.Ns mainGlobals mg) (z_sorted : mg "sorted" = none) (z_tuple : mg "tuple" = none) (c_flip : CalD P w K mg base "flip" 1 ["kept", "thing"] zlp) : CalD P w K mg base "odd_ones" 2 ["things"] zbh :=
 have nd:=zfm.nd
 zbf (k:=1) T XX G zfm (fun _ _ _ _ _ _ us hl=>len1 us hl fun _=>rfl) fun f cdv A outer s H E hr=>(ze (zu (i:=1) nd rfl (Or.inl rfl) zss)
 (ze (zve xej rfl (zd (pv 0)) (zz (i:=2) nd rfl (Or.inl rfl))
 (zo (zgt (zt c_flip (fun _ _ _ _ h=>zr h) (hr.mono (by decide)) rfl (za (zd (pv 1)) (za (zd (pv 2)) zc))))))
 (zo (zy (zej zec zon rfl z_tuple zha (za (zp (zfg rfl hr.units) zkq rfl z_sorted zkl (za (zd (pv 1)) zc)) zc))))))
theorem zry : FnScope ["row"] ["row"] (defScope ztf) := ⟨rfl, rfl, rfl, by decide +kernel, rfl, by decide +kernel, by decide +kernel⟩
theorem zyn (T : TopF K "fits" ztf) (XX : K.In h) (G : h.Ns mainGlobals mg) (z_sum : mg "sum" = none) (z_len : mg "len" = none) {k_MOST_RAISED : Tok} (m_MOST_RAISED : mg "MOST_RAISED" = some (.int 16 k_MOST_RAISED)) {k_MOST_PARTS : Tok} (m_MOST_PARTS : mg "MOST_PARTS" = some (.int 6 k_MOST_PARTS)) : CalD P w K mg base "fits" 1 ["row"] zov :=
 have nd:=zry.nd
 zbf (k:=0) T XX G zry (fun _ _ _ _ _ _ us hl=>len1 us hl fun _=>rfl) fun f cdv A outer s H E hr=>(zo (zy (zrj (zoc zbdg (zmy fun _ _ _ _=>.bl _) (zp zba zic rfl z_len zib (za (zd (pv 0)) zc)) (zjf (zmq (v:=.int 6) rfl m_MOST_PARTS ⟨_,rfl⟩) (fun _ _=>.int _)) (nomark _)) (zrf (zoc zbdg (zmy fun _ _ _ _=>.bl _) (zp (zgx rfl) zwa rfl z_sum zvw (za (zd (pv 0)) zc)) (zjf (zmq (v:=.int 16) rfl m_MOST_RAISED ⟨_,rfl⟩) (fun _ _=>.int _)) (nomark _))))))
theorem zfn : FnScope ["thing"] ["thing"] (defScope zeq) := ⟨rfl, rfl, rfl, by decide +kernel, rfl, by decide +kernel, by decide +kernel⟩
theorem zld (T : TopF K "is_whole" zeq) (XX : K.In h) (G : h.Ns mainGlobals mg) (z_bool : mg "bool" = none) (z_isinstance : mg "isinstance" = none) (z_int : mg "int" = none) : CalD P w K mg base "is_whole" 1 ["thing"] zda :=
 have nd:=zfn.nd
 zbf (k := 0) T XX G zfn (fun _ _ _ _ _ _ us hl => len1 us hl fun _ => rfl) fun f cdv A outer s H E hr => (zo (zy (zrj (zp zck zdo rfl z_isinstance zbg (za (zd (pv 0)) (za (zjf (zfs (v := .ty "int") rfl z_int zbbf rfl) (fun _ _ => .ty _)) zc))) (zrf (zbfd (zp zck zdo rfl z_isinstance zbg (za (zd (pv 0)) (za (zjf (zfs (v := .ty "bool") rfl z_bool zsu rfl) (fun _ _ => .ty _)) zc))))))))
theorem zjt : FnScope ["thing"] ["thing"] (defScope zin) := ⟨rfl, rfl, rfl, by decide +kernel, rfl, by decide +kernel, by decide +kernel⟩
theorem zpz (T : TopF K "is_row" zin) (XX : K.In h) (G : h.Ns mainGlobals mg) (z_tuple : mg "tuple" = none) (z_isinstance : mg "isinstance" = none) (z_all : mg "all" = none) (c_fits : CalD P w K mg base "fits" 1 ["row"] zov) (c_is_whole : CalD P w K mg base "is_whole" 1 ["thing"] zda) : CalD P w K mg base "is_row" 2 ["thing"] zfi :=
 have nd:=zjt.nd
 zbf (k := 1) T XX G zjt (fun _ _ _ _ _ _ us hl => len1 us hl fun _ => rfl) fun f cdv A outer s H E hr => (ze (zdf (zgb (zez (zp zck zdo rfl z_isinstance zbg (za (zd (pv 0)) (za (zjf (zfs (v := .ty "tuple") rfl z_tuple zha rfl) (fun _ _ => .ty _)) zc))))) (zo (zy zvn)) zbx)
 (zo (zy (zrj (zp (zvu rfl) zbfw rfl z_all zbfn (za (zob rfl (zhv (zd (pv 0))) (fun _ _ _ _ _ => (zz (i := 0) (show (["part"] : List Str).Nodup from by decide +kernel) rfl (Or.inl rfl))) (fun _ _ _ _ _ => zgu) (fun _ _ _ _ _ => (zrj (zt c_is_whole (fun _ _ _ _ h => zr h) (hr.mono (by decide)) rfl (za (zd (pv 0)) zc)) (zrf (zoc zbhr (zmy fun _ _ _ _ => .bl _) (zd (pv 0)) zg (nomark _))))) (N := ["part"]) (k := 1) (is := []) (zhy (by rfl))) zc)) (zrf (zt c_fits (fun _ _ _ _ h => zr h) (hr.mono (by decide)) rfl (za (zd (pv 0)) zc)))))))
theorem zhh : FnScope ["things", "at", "thing"] ["things"] (defScope zgj) := ⟨rfl, rfl, rfl, by decide +kernel, rfl, by decide +kernel, by decide +kernel⟩
theorem zmv (T : TopF K "rows_of" zgj) (XX : K.In h) (G : h.Ns mainGlobals mg) (z_enumerate : mg "enumerate" = none) {C_NoRow : Addr} (n_NoRow : PySem.W.nsIn K mainGlobals "NoRow" = some (some (.ref C_NoRow))) (E_NoRow : ErrInit K "NoRow" C_NoRow) (c_is_row : CalD P w K mg base "is_row" 2 ["thing"] zfi) (c_odd_ones : CalD P w K mg base "odd_ones" 2 ["things"] zbh) : CalX P w K mg base "rows_of" 3 ["things"] zdp :=
 have nd:=zhh.nd
 zbbc (k:=2) T XX G zhh (fun _ _ _ _ _ _ us hl=>len1 us hl fun _=>rfl) fun f cdv A outer s H E hr=>(zvb (fun _ _=>rfl) (zuz (fun _ _=>rfl) PassesOwn.leaving rfl rfl z_enumerate (zd (pv 0)) (zsp rfl (zei (zz (i:=1) nd rfl (Or.inl rfl)) (zei (zz (i:=2) nd rfl (Or.inl rfl)) znx)))
 (znt (zber (zgb (zez (zt c_is_row (fun _ _ _ _ h=>zr h) (hr.mono (by decide)) rfl (za (zd (pv 2)) zc)))) (znt (zns zta E_NoRow (hr.mono (by decide)) rfl rfl (za (zd (pv 1)) zc))) (znr zbx))))
 (znr (zo (zy (zt c_odd_ones (fun _ _ _ _ h=>zr h) (hr.mono (by decide)) rfl (za (zd (pv 0)) zc))))))
theorem zen : FnScope ["_law_things", "e"] ["_law_things"] (defScope zdr) := ⟨rfl, rfl, rfl, by decide +kernel, rfl, by decide +kernel, by decide +kernel⟩
theorem ziw (T : TopF K "_law_told" zdr) (XX : K.In h) (G : h.Ns mainGlobals mg) (z_ValueError : mg "ValueError" = none) (z_isinstance : mg "isinstance" = none) {C_NoRow : Addr} {C_RaisedError : Addr} (n_NoRow : PySem.W.nsIn K mainGlobals "NoRow" = some (some (.ref C_NoRow))) (i_NoRow_ValueError : PySem.W.kitOne K (.ref C_NoRow) (.type "ValueError") = some true) (i_NoRow_NoRow : PySem.W.kitOne K (.ref C_NoRow) (.ref C_NoRow) = some true) (E_NoRow : ErrInit K "NoRow" C_NoRow) (l_NoRow : ErrLook K C_NoRow) (n_RaisedError : PySem.W.nsIn K mainGlobals "RaisedError" = some (some (.ref C_RaisedError))) (e_NoRow_RaisedError : PySem.W.exmOne K (.ref C_NoRow) (.ref C_RaisedError) = some true) (c_rows_of : CalX P w K mg base "rows_of" 3 ["things"] zdp) : CalD P w K mg base "_law_told" 4 ["_law_things"] zbu :=
 have nd:=zen.nd
 zbf (k := 3) T XX G zen (fun _ _ _ _ _ _ us hl => len1 us hl fun _ => rfl) fun f cdv A outer s H E hr => (zo (zzw (i := 1) (cs := ["NoRow"]) rfl rfl rfl nd rfl rfl rfl n_RaisedError (zkj n_NoRow e_NoRow_RaisedError zrl) (fun R E pn hw => znt (zzv (zzt (zzu c_rows_of hw (fun _ _ h => zqw _ _ h) (hr.mono (by decide)) rfl (za (zd (pv 0)) zc)) (za zhw zc)))) (fun e => (ze (zdf (JW.pt (znq (zgb (zez (zban (cs := ["NoRow"]) rfl z_isinstance (pv 1) (zmq (v := .ref _) rfl (xfq XX G n_NoRow) rfl) rfl (fun _ h => h) (zkj n_NoRow i_NoRow_NoRow zrl)))) (zga (zgb (zez (zban (cs := ["NoRow"]) rfl z_isinstance (pv 1) (zfs (v := .ty "ValueError") rfl z_ValueError PyProof.Rows.Boot.«ValueError» rfl) rfl (fun _ h => h) (zkj n_NoRow i_NoRow_ValueError zrl)))) (by first | exact Or.inl rfl | exact Or.inr rfl)))) (zo (zy (zbt (za zhw (za (zrg zg) zc))))) zbx)
 (zo (zy (zbt (za zhw (za (zbis (cs := ["NoRow"]) (pv 1) (zkj n_NoRow (athas E_NoRow l_NoRow) zrl)) zc)))))))))
theorem zdg : FnScope ["_law_bag_here", "_law_some"] ["_law_bag_here"] (defScope zcu) := ⟨rfl, rfl, rfl, by decide +kernel, rfl, by decide +kernel, by decide +kernel⟩
theorem zgm (T : TopF K "_law_no_row" zcu) (XX : K.In h) (G : h.Ns mainGlobals mg) (c__law_take : CalD P w K mg base "_law_take" 1 ["_law_bag_here", "_law_many"] zm) : CalD P w K mg base "_law_no_row" 2 ["_law_bag_here"] zca :=
 have nd:=zdg.nd
 zbf (k:=1) T XX G zdg (fun _ _ _ _ _ _ us hl=>len1 us hl fun _=>rfl) fun f cdv A outer s H E hr=>(ze (zu (i:=1) nd rfl (Or.inl rfl) (zlo (za zg (za zhw (za zbal (za (zlo (za zg zc)) (za (zbt (za zg zc)) (za (zbt (za (zrg zg) zc)) (za (zbt (za zvn zc)) (za (zbt (za zbal zc)) (za (zbt (za zg zc)) (za (zbt (za zg (za zg zc))) (za (zcr zyj zyr (zbt (za zg zc)) zg) (za (zbt (za (zbt (za zg zc)) zc)) (za (zbt (za zhw zc)) (za (zbt (za zg (za zg zc))) zc))))))))))))))))
 (zo (zy (zje (zd (pv 1)) (zt c__law_take (fun _ _ _ _ h=>zr h) (hr.mono (by decide)) rfl (za (zd (pv 0)) (za zg zc))) (fun _ _=>rfl)))))
theorem zcf : FnScope ["_law_bag_here", "_law_things", "_law_k", "_law_row", "_law_due", "_law_place", "_law_handed", "_law_turn", "_law_found"] ["_law_bag_here"] (defScope zbq) := ⟨rfl, rfl, rfl, by decide +kernel, rfl, by decide +kernel, by decide +kernel⟩
theorem zdu (T : TopF K "_law_list_right" zbq) (XX : K.In h) (G : h.Ns mainGlobals mg) (z_range : mg "range" = none) (z_len : mg "len" = none) (z_max : mg "max" = none) (z_list : mg "list" = none) (z_bool : mg "bool" = none) (z_isinstance : mg "isinstance" = none) (c__law_take : CalD P w K mg base "_law_take" 1 ["_law_bag_here", "_law_many"] zm) (c__law_drawn_row : CalD P w K mg base "_law_drawn_row" 2 ["_law_bag_here", "_law_most"] zv) (c__law_odd : CalD P w K mg base "_law_odd" 1 ["_law_products"] zbj) (c__law_no_row : CalD P w K mg base "_law_no_row" 2 ["_law_bag_here"] zca) (c__law_told : CalD P w K mg base "_law_told" 4 ["_law_things"] zbu) : CalD P w K mg base "_law_list_right" 5 ["_law_bag_here"] zbb :=
 have nd:=zcf.nd
 zbf (k:=4) T XX G zcf (fun _ _ _ _ _ _ us hl=>len1 us hl fun _=>rfl) fun f cdv A outer s H E hr=>(ze (zu (i:=1) nd rfl (Or.inl rfl) (zsr zc))
 (ze (zea xej rfl (zby rfl z_range (za (zt c__law_take (fun _ _ _ _ h=>zr h) (hr.mono (by decide)) rfl (za (zd (pv 0)) (za zg zc))) zc)) (zz (i:=2) nd rfl (Or.inl rfl))
 (ze (zu (i:=3) nd rfl (Or.inl rfl) (zt c__law_drawn_row (fun _ _ _ _ h=>zr h) (hr.mono (by decide)) rfl (za (zd (pv 0)) (za zg zc))))
 (ze (zdf (JW.pt (zso (zbp zbbr (zmy fun _ _ _ _=>.bl _) (zp zba zic rfl z_len zib (za (zd (pv 1)) zc)) zg (nomark _)) (zga (zbp (zlb hr.units) zqe (zt c__law_take (fun _ _ _ _ h=>zr h) (hr.mono (by decide)) rfl (za (zd (pv 0)) (za zg zc))) zg (nomark _)) (by first | exact Or.inl rfl | exact Or.inr rfl)))) (zo (zu (i:=3) nd rfl (Or.inl rfl) (zje (zd (pv 1)) (zt c__law_take (fun _ _ _ _ h=>zr h) (hr.mono (by decide)) rfl (za (zd (pv 0)) (za (zp zba zic rfl z_len zib (za (zd (pv 1)) zc)) zc))) (fun _ _=>rfl)))) zbx)
 (zo (zgt (zri (zd (pv 1)) (za (zd (pv 3)) zc)))))))
 (ze (zbew (i:=1) (zu (i:=4) nd rfl (Or.inl rfl) (zbt (za (zt c__law_odd (fun _ _ _ _ h=>zr h) (hr.mono (by decide)) rfl (za (zd (pv 1)) zc)) (za zhw zc)))))
 (ze (zea xej rfl (zby rfl z_range (za (zp (zkk rfl) zbbj rfl z_max zvy (za zg (za (zcr zue (zmy fun _ _ _ _=>.int _) (zt c__law_take (fun _ _ _ _ h=>zr h) (hr.mono (by decide)) rfl (za (zd (pv 0)) (za zg zc))) zg) zc))) zc)) (zz (i:=2) nd rfl (Or.inl rfl))
 (ze (zu (i:=5) nd rfl (Or.inl rfl) (zt c__law_take (fun _ _ _ _ h=>zr h) (hr.mono (by decide)) rfl (za (zd (pv 0)) (za (zcr zbo zcw (zp zba zic rfl z_len zib (za (zd (pv 1)) zc)) zg) zc))))
 (ze (zu (i:=1) nd rfl (Or.inl rfl) (zcr zbo zcw (zcr zbo zcw (zbam (zd (pv 1)) zfd (zfc (zd (pv 5)))) (zlo (za (zt c__law_no_row (fun _ _ _ _ h=>zr h) (hr.mono (by decide)) rfl (za (zd (pv 0)) zc)) zc))) (zbam (zd (pv 1)) (zfc (zd (pv 5))) zfd)))
 (zo (zdf (JW.pt (znq (zbp zbdh zbdl (zje (zd (pv 4)) zg (fun _ _=>rfl)) zhw (nomark _)) (zga (zbp zbdg (zmy fun _ _ _ _=>.bl _) (zd (pv 5)) (zje (zd (pv 4)) zg (fun _ _=>rfl)) (nomark _)) (by first | exact Or.inl rfl | exact Or.inr rfl)))) (zo (zu (i:=4) nd rfl (Or.inl rfl) (zbt (za zhw (za (zd (pv 5)) zc))))) zbx)))))
 (ze (zu (i:=6) nd rfl (Or.inl rfl) (zej zji zwb rfl z_list zbbe (za (zd (pv 1)) zc)))
 (ze (zea xej rfl (zby rfl z_range (za zg zc)) (zz (i:=7) nd rfl (Or.inl rfl))
 (ze (zu (i:=8) nd rfl (Or.inl rfl) (zt c__law_told (fun _ _ _ _ h=>zr h) (hr.mono (by decide)) rfl (za (zd (pv 6)) zc)))
 (zo (zdf (JW.pt (znq (zbp (zuf hr.units) zqe (zd (pv 8)) (zd (pv 4)) (nomark _)) (znq (zez (zp zck zdo rfl z_isinstance zbg (za (zje (zd (pv 8)) zg (fun _ _ => rfl)) (za (zjf (zfs (v := .ty "bool") rfl z_bool zsu rfl) (fun _ _ => .ty _)) zc)))) (zga (zbp (zuf hr.units) zqe (zd (pv 6)) (zd (pv 1)) (nomark _)) (by first | exact Or.inl rfl | exact Or.inr rfl))))) (zo (zy zvn)) zbx))))
 (ze (zgt (zvl (zd (pv 6))))
 (zo (zy (zoc (zlb hr.units) zqe (zd (pv 8)) (zd (pv 4)) (nomark _)))))))))))
theorem zdz : FnScope ["one", "other"] ["one", "other"] (defScope zde) := ⟨rfl, rfl, rfl, by decide +kernel, rfl, by decide +kernel, by decide +kernel⟩
theorem zhj (T : TopF K "rows_added" zde) (XX : K.In h) (G : h.Ns mainGlobals mg) (c_odd_ones : CalD P w K mg base "odd_ones" 2 ["things"] zbh) : CalD P w K mg base "rows_added" 3 ["one", "other"] zbz :=
 have nd:=zdz.nd
 zbf (k:=2) T XX G zdz (fun _ _ _ _ _ _ us hl=>len2 us hl fun _ _=>rfl) fun f cdv A outer s H E hr=>(zo (zy (zt c_odd_ones (fun _ _ _ _ h=>zr h) (hr.mono (by decide)) rfl (za (zcr zbo zcw (zd (pv 0)) (zd (pv 1))) zc))))
theorem zxi : FnScope ["_law_script", "_law_at", "_law_bag_here", "_law_many", "_law_one", "_law_other", "_law_first", "_law_second", "_law_found"] ["_law_script"] (defScope zwh) := ⟨rfl, rfl, rfl, by decide +kernel, rfl, by decide +kernel, by decide +kernel⟩
theorem zbdk {f : Addr} {fd : FuncData} (F : Fun K "law" "law" zwh f fd) (z_len : mg "len" = none) (z_min : mg "min" = none) (z_max : mg "max" = none) (z_range : mg "range" = none) (z_int : mg "int" = none) (z_tuple : mg "tuple" = none) (z_isinstance : mg "isinstance" = none) (c__law_bag : CalD P w K mg base "_law_bag" 1 ["_law_script", "_law_at"] zdb) (c__law_list_right : CalD P w K mg base "_law_list_right" 5 ["_law_bag_here"] zbb) (c__law_take : CalD P w K mg base "_law_take" 1 ["_law_bag_here", "_law_many"] zm) (c__law_drawn_rows : CalD P w K mg base "_law_drawn_rows" 3 ["_law_bag_here", "_law_many", "_law_most"] zw) (c__law_odd : CalD P w K mg base "_law_odd" 1 ["_law_products"] zbj) (c_rows_added : CalD P w K mg base "rows_added" 3 ["one", "other"] zbz) : FnOk P w K mg base CX0 6 f fd ["_law_script"] (spLaw K) :=
 have nd:=zxi.nd
 zza (k:=5) F zxi rfl (fun cdv A outer s H E hr=>(ze (zea xej rfl (zby rfl z_range (za (zp (zkk rfl) zbbj rfl z_max zvy (za zg (za (zp (zgz rfl) zbbj rfl z_min zvx (za zg (za (zp zba zic rfl z_len zib (za (zd (pv 0)) zc)) zc))) zc))) zc)) (zz (i:=1) nd rfl (Or.inl rfl))
 (ze (zu (i:=2) nd rfl (Or.inl rfl) (zt c__law_bag (fun _ _ _ _ h=>zr h) (hr.mono (by decide)) rfl (za (zd (pv 0)) (za (zd (pv 1)) zc))))
 (ze (zdf (zgb (zez (zt c__law_list_right (fun _ _ _ _ h=>zr h) (hr.mono (by decide)) rfl (za (zd (pv 2)) zc)))) (zo (zy zvn)) zbx)
 (ze (zu (i:=3) nd rfl (Or.inl rfl) (zt c__law_take (fun _ _ _ _ h=>zr h) (hr.mono (by decide)) rfl (za (zd (pv 2)) (za (zje (zlo (za zg (za zg zc))) (zej zrp zbfv rfl z_int zbbf (za (zoc (zlb hr.units) zqe (zt c__law_take (fun _ _ _ _ h=>zr h) (hr.mono (by decide)) rfl (za (zd (pv 2)) (za zg zc))) zg (nomark _)) zc)) (fun _ _=>rfl)) zc))))
 (ze (zu (i:=4) nd rfl (Or.inl rfl) (zt c__law_drawn_rows (fun _ _ _ _ h=>zr h) (hr.mono (by decide)) rfl (za (zd (pv 2)) (za (zd (pv 3)) (za zg zc)))))
 (ze (zu (i:=5) nd rfl (Or.inl rfl) (zt c__law_odd (fun _ _ _ _ h=>zr h) (hr.mono (by decide)) rfl (za (zcr zbo zcw (zbam (zt c__law_drawn_rows (fun _ _ _ _ h=>zr h) (hr.mono (by decide)) rfl (za (zd (pv 2)) (za (zt c__law_take (fun _ _ _ _ h=>zr h) (hr.mono (by decide)) rfl (za (zd (pv 2)) (za zg zc))) (za zg zc)))) zfd (zfc zg)) (zbam (zd (pv 4)) zfd (zfc (zt c__law_take (fun _ _ _ _ h=>zr h) (hr.mono (by decide)) rfl (za (zd (pv 2)) (za zg zc)))))) zc)))
 (zo (zea xej rfl (zhv (zlo (za (zbt (za (zd (pv 4)) (za (zd (pv 5)) zc))) (za (zbt (za (zd (pv 5)) (za (zd (pv 4)) zc))) (za (zbt (za (zd (pv 4)) (za (zd (pv 4)) zc))) (za (zbt (za (zd (pv 4)) (za (zbt zc) zc))) zc)))))) (zsp rfl (zei (zz (i:=6) nd rfl (Or.inl rfl)) (zei (zz (i:=7) nd rfl (Or.inl rfl)) znx)))
 (ze (zu (i:=8) nd rfl (Or.inl rfl) (zt c_rows_added (fun _ _ _ _ h=>zr h) (hr.mono (by decide)) rfl (za (zd (pv 6)) (za (zd (pv 7)) zc))))
 (zo (zdf (JW.pt (znq (zgb (zez (zp zck zdo rfl z_isinstance zbg (za (zd (pv 8)) (za (zjf (zfs (v := .ty "tuple") rfl z_tuple zha rfl) (fun _ _ => .ty _)) zc))))) (zga (zbp (zuf hr.units) zqe (zd (pv 8)) (zt c__law_odd (fun _ _ _ _ h => zr h) (hr.mono (by decide)) rfl (za (zcr zbo zcw (zd (pv 6)) (zd (pv 7))) zc)) (nomark _)) (by first | exact Or.inl rfl | exact Or.inr rfl)))) (zo (zy zvn)) zbx)))))))))))
 (zo (zy zvn)))) K15.holds
end
theorem all_mk {l : PySem.W.OpenLaw} {w : World} {K : Fg} {h : Heap} {mg : Str -> Option Value} {fa : Addr} {u0 : Tok} {u1 : Tok} {C_NoRow : Addr} {C_RaisedError : Addr} (X : K.In h) (G : h.Ns mainGlobals mg) (hfa : mg "law" = some (.ref fa))
  (t1 : TopF K "_law_bag" zes) (t2 : TopF K "_law_take" zds) (t3 : TopF K "_law_odd" zer) (t4 : TopF K "_law_drawn_row" zbw) (t5 : TopF K "_law_filled" zcv) (t6 : TopF K "_law_drawn_rows" zbr) (t7 : TopF K "flip" zte) (t8 : TopF K "odd_ones" zep) (t9 : TopF K "fits" ztf) (t10 : TopF K "is_whole" zeq) (t11 : TopF K "is_row" zin) (t12 : TopF K "rows_of" zgj) (t13 : TopF K "_law_told" zdr) (t14 : TopF K "_law_no_row" zcu) (t15 : TopF K "_law_list_right" zbq) (t16 : TopF K "rows_added" zde) (t17 : TopF K "law" zwh) (z0 : PySem.W.nsIn K mainGlobals "len" = some none) (z1 : PySem.W.nsIn K mainGlobals "abs" = some none) (z2 : PySem.W.nsIn K mainGlobals "min" = some none) (z3 : PySem.W.nsIn K mainGlobals "range" = some none) (z4 : PySem.W.nsIn K mainGlobals "sorted" = some none) (z5 : PySem.W.nsIn K mainGlobals "tuple" = some none) (z6 : PySem.W.nsIn K mainGlobals "sum" = some none) (z7 : PySem.W.nsIn K mainGlobals "max" = some none) (z8 : PySem.W.nsIn K mainGlobals "bool" = some none) (z9 : PySem.W.nsIn K mainGlobals "isinstance" = some none) (z10 : PySem.W.nsIn K mainGlobals "int" = some none) (z11 : PySem.W.nsIn K mainGlobals "all" = some none) (z12 : PySem.W.nsIn K mainGlobals "enumerate" = some none) (z13 : PySem.W.nsIn K mainGlobals "ValueError" = some none) (z14 : PySem.W.nsIn K mainGlobals "list" = some none) (y0 : PySem.W.nsIn K mainGlobals "MOST_RAISED" = some (some (.int 16 u0))) (y1 : PySem.W.nsIn K mainGlobals "MOST_PARTS" = some (some (.int 6 u1))) (n_NoRow : PySem.W.nsIn K mainGlobals "NoRow" = some (some (.ref C_NoRow))) (n_RaisedError : PySem.W.nsIn K mainGlobals "RaisedError" = some (some (.ref C_RaisedError))) (l_NoRow : ErrLook K C_NoRow) (E_NoRow : ErrInit K "NoRow" C_NoRow) (e_NoRow_RaisedError : PySem.W.exmOne K (.ref C_NoRow) (.ref C_RaisedError) = some true) (i_NoRow_NoRow : PySem.W.kitOne K (.ref C_NoRow) (.ref C_NoRow) = some true) (i_NoRow_ValueError : PySem.W.kitOne K (.ref C_NoRow) (.type "ValueError") = some true) :
  ∃ fd : FuncData, (∀ (s : Shared) (v : Value), BindsTo s fd ⟨[v], []⟩ [("_law_script", v)]) /\ ∀ base : Heap, K.In base -> base.Ns mainGlobals mg -> FnOk l.prog w K mg base CX0 6 fa fd ["_law_script"] (spLaw K) := by
 have x0:=xct X G z0;have x1:=xct X G z1;have x2:=xct X G z2;have x3:=xct X G z3;have x4:=xct X G z4;have x5:=xct X G z5;have x6:=xct X G z6;have x7:=xct X G z7;have x8:=xct X G z8;have x9:=xct X G z9;have x10:=xct X G z10;have x11:=xct X G z11;have x12:=xct X G z12;have x13:=xct X G z13;have x14:=xct X G z14;have v0:=xfq X G y0;have v1:=xfq X G y1;obtain ⟨f,fd,a,F⟩:=t17;have e:=hfa.symm.trans (xfq X G a);cases e;obtain ⟨oc,od,kV,doc,pm,an,cdv,ct,osl,rfl,lk,hcd⟩:=id F.ex;refine ⟨PySem.W.fnOf "law" "law" (defArgs zwh) (defBody zwh) (defScope zwh) .none kV doc pm an cdv ct, fun s v => .of_eq rfl, fun base _ _ => ?_⟩
 have k__law_bag:CalD l.prog w K mg base _ _ _ _:=zlf t1 X G x0 x1 x2 x3
 have k__law_take:CalD l.prog w K mg base _ _ _ _:=zix t2 X G 
 have k__law_odd:CalD l.prog w K mg base _ _ _ _:=zle t3 X G x4 x5
 have k__law_drawn_row:CalD l.prog w K mg base _ _ _ _:=zee t4 X G x3 x2 k__law_take
 have k__law_filled:CalD l.prog w K mg base _ _ _ _:=zgn t5 X G x0
 have k__law_drawn_rows:CalD l.prog w K mg base _ _ _ _:=zdv t6 X G x3 x6 x7 k__law_drawn_row k__law_take k__law_filled k__law_odd
 have k_flip:CalD l.prog w K mg base _ _ _ _:=zym t7 X G 
 have k_odd_ones:CalD l.prog w K mg base _ _ _ _:=zlc t8 X G x4 x5 k_flip
 have k_fits:CalD l.prog w K mg base _ _ _ _:=zyn t9 X G x6 x0 v0 v1
 have k_is_whole:CalD l.prog w K mg base _ _ _ _:=zld t10 X G x8 x9 x10
 have k_is_row:CalD l.prog w K mg base _ _ _ _:=zpz t11 X G x5 x9 x11 k_fits k_is_whole
 have k_rows_of : CalX l.prog w K mg base "rows_of" 3 ["things"] zdp := zmv t12 X G x12 n_NoRow E_NoRow k_is_row k_odd_ones
 have k__law_told:CalD l.prog w K mg base _ _ _ _:=ziw t13 X G x13 x9 n_NoRow i_NoRow_ValueError i_NoRow_NoRow E_NoRow l_NoRow n_RaisedError e_NoRow_RaisedError k_rows_of
 have k__law_no_row:CalD l.prog w K mg base _ _ _ _:=zgm t14 X G k__law_take
 have k__law_list_right:CalD l.prog w K mg base _ _ _ _:=zdu t15 X G x3 x0 x7 x14 x8 x9 k__law_take k__law_drawn_row k__law_odd k__law_no_row k__law_told
 have k_rows_added:CalD l.prog w K mg base _ _ _ _:=zhj t16 X G k_odd_ones
 exact zbdk F x0 x2 x7 x3 x10 x5 x9 k__law_bag k__law_list_right k__law_take k__law_drawn_rows k__law_odd k_rows_added
end K15
open PySem PySem.W PyProof.Rows
set_option maxRecDepth 100000 in
set_option maxHeartbeats 0 in
theorem PySem.Challenge.cw_raisedsums_k15_rows_put_together_holds : PySem.Challenge.rw_raisedsums_k15_rows_put_together.Holds := by
  w_on; o_law; k_head; (case hw => w_witness2)
  k_fill
  refine L2.zwv (l := PySem.Challenge.rw_raisedsums_k15_rows_put_together) (n := 63) (k := 6) (x := "_law_script") (CX := fun _ => L2.CX0) (sp := fun w => Dd.spLaw _) rfl (by decide) rfl ⟨rfl, by decide, by decide⟩ (fun w h Y => PySem.W.kIn_of Y) ?F (fun _ _ a ns hl _ hS => ⟨a, ns, rfl, hS, hl, fun _ => rfl⟩) (fun _ _ _ _ _ z => z)
  case F =>
    intro w mg fa h KX G hmg
    refine' K15.all_mk KX G hmg ?t1 ?t2 ?t3 ?t4 ?t5 ?t6 ?t7 ?t8 ?t9 ?t10 ?t11 ?t12 ?t13 ?t14 ?t15 ?t16 ?t17 ?z0 ?z1 ?z2 ?z3 ?z4 ?z5 ?z6 ?z7 ?z8 ?z9 ?z10 ?z11 ?z12 ?z13 ?z14 ?y0 ?y1 ?n_NoRow ?n_RaisedError ?l_NoRow ?E_NoRow ?e_NoRow_RaisedError ?i_NoRow_NoRow ?i_NoRow_ValueError
    all_goals first|k_is|kernel_rfl|(refine' L2.zcs ?a ?l ?c ?k;(case a=>k_is);(case l=>k_is);(case c=>k_is);(case k=>k_is))|(apply L2.ErrLook.mk<;>first|k_is|kernel_rfl)|skip
    (case E_NoRow => refine' Dd.zno K15.ib_NoRow ?ea ?eb ?ec ?ed ?ef ?eg ?eh ?ei ?ej ?ek ?el ?em ?en ?eo ?ep ?eq; (case ea => k_is); (case eb => k_is); (case ec => k_is); (case ed => kernel_rfl); (case ef => k_is); (case eg => kernel_rfl); (case eh => kernel_rfl); (case ei => k_is); (case ej => k_is); (case ek => k_is); (case el => kernel_rfl); (case em => kernel_rfl); (case en => k_is); (case eo => kernel_rfl); (case ep => kernel_rfl); (case eq => kernel_rfl))
#print axioms PySem.Challenge.cw_raisedsums_k15_rows_put_together_holds
