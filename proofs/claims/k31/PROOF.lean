import PyProof.Rows.All
import Wide.All
import OpenK.AllK
import Wide.FinOn
import PyProof.EqAt
import PyProof.EqKinds
import PyProof.TupleCall
import PySem.Challenge.RW_raisedsums_k31_all_steep_rows
set_option Elab.async false
set_option linter.all false
set_option maxRecDepth 100000
namespace PySem.W.Fast
theorem tw1086489286323107603:True:=⟨⟩
theorem tw11209134715467221378:True:=⟨⟩
theorem tw1810161327523860525:True:=⟨⟩
theorem tw12958811724783212026:True:=⟨⟩
theorem tw17478639449495295410:True:=⟨⟩
theorem tw1710741040301649986:True:=⟨⟩
theorem tw9831527048166783376:True:=⟨⟩
theorem tw13907291231774563769:True:=⟨⟩
theorem tw11222992158278232592:True:=⟨⟩
theorem tw18356466766999729467:True:=⟨⟩
theorem tw11636276462459087426:True:=⟨⟩
theorem tw15720497994590295477:True:=⟨⟩
theorem tw338613357871506678:True:=⟨⟩
theorem tw15787232255255878033:True:=⟨⟩
theorem tw5390433243692059623:True:=⟨⟩
theorem tw10433774081474282847:True:=⟨⟩
theorem tw10596763272019097997:True:=⟨⟩
theorem tw10864283534581817682:True:=⟨⟩
theorem tw4861335119039717616:True:=⟨⟩
theorem tw2151953676740916409:True:=⟨⟩
theorem tw14928143776960152800:True:=⟨⟩
theorem tw4139645910266499275:True:=⟨⟩
theorem tw3753245217661999099:True:=⟨⟩
theorem tw11269205120733820074:True:=⟨⟩
theorem tw15486928559782854993:True:=⟨⟩
theorem tw6441050038145651198:True:=⟨⟩
theorem tw2454782895126048797:True:=⟨⟩
theorem tw3932428236358975982:True:=⟨⟩
theorem tw1509356534598416603:True:=⟨⟩
theorem tw9143502608170398619:True:=⟨⟩
theorem tw2752429938804639901:True:=⟨⟩
theorem tw302308237220056565:True:=⟨⟩
theorem tw3192816135951700077:True:=⟨⟩
theorem tw8819108198913356069:True:=⟨⟩
theorem tw3857111405804252294:True:=⟨⟩
theorem tw3876899642768364044:True:=⟨⟩
theorem tw7565388470034875833:True:=⟨⟩
theorem tw9559539047256224660:True:=⟨⟩
theorem tw17009807101559108048:True:=⟨⟩
theorem tw5925193554445116291:True:=⟨⟩
theorem tw7984456585995461280:True:=⟨⟩
theorem tw6430925346304820400:True:=⟨⟩
theorem tw9593509311991644121:True:=⟨⟩
theorem tw5878078831084405882:True:=⟨⟩
theorem tw5806671054879723215:True:=⟨⟩
theorem tw6436146756732278576:True:=⟨⟩
theorem tw6340007861465617756:True:=⟨⟩
theorem tw9365573018952617612:True:=⟨⟩
theorem tw17794962797925666468:True:=⟨⟩
theorem tw5538905467382784377:True:=⟨⟩
theorem tw7798304188930528324:True:=⟨⟩
theorem tw2052381307474559564:True:=⟨⟩
theorem tw7422999985490719098:True:=⟨⟩
theorem tw6064508512152647190:True:=⟨⟩
theorem tw17505113940705988068:True:=⟨⟩
theorem tw10513688217041067390:True:=⟨⟩
theorem tw16639909914581764183:True:=⟨⟩
theorem tw8963574046424883621:True:=⟨⟩
theorem tw13056843184258736925:True:=⟨⟩
theorem tw17398503212885384611:True:=⟨⟩
end PySem.W.Fast
set_option genSizeOfSpec false
set_option genInjectivity false
abbrev Fg:=PySem.W.Frag
abbrev xba:=@PySem.wpAny_bind
abbrev xbb:=@Nat.le_trans
abbrev xbc:=@Nat.lt_of_lt_of_le
abbrev xbd:=@PyProof.Rows.wpS_bind
abbrev xbe:=@PySem.Heap.get?_push_of_some
abbrev xbf:=@PyProof.Rows.wpS_pure
abbrev xbg:=@Nat.le_refl
abbrev xbh:=@PySem.Heap.lt_size
abbrev xbi:=@List.getElem?_eq_getElem
abbrev xbj:=@Nat.le_add_right
abbrev xbk:=@List.length_map
abbrev xbl:=@PySem.wpAny_pure
abbrev xbm:=@Nat.le_of_lt
abbrev xbn:=@List.getElem?_eq_some_iff
abbrev xbo:=@Nat.add_sub_cancel_left
abbrev xbp:=@Nat.le_of_not_lt
abbrev xbq:=@List.getElem?_append_right
abbrev xbr:=@PySem.Heap.get?_push_size
abbrev xbs:=@List.mem_singleton
abbrev xbt:=@List.size_toArray
abbrev xbu:=@Nat.ne_of_lt
abbrev xbv:=@Nat.add_le_add_left
abbrev xbw:=@Nat.add_sub_cancel'
abbrev xbx:=@List.length_append
abbrev xby:=@List.getElem?_append_left
abbrev xbz:=@Array.length_toList
abbrev xca:=@Option.some.inj
abbrev xcb:=@List.append_assoc
abbrev xcc:=@List.mem_cons
abbrev xcd:=@List.map_cons
abbrev xce:=@Array.getElem?_toList
abbrev xcf:=@List.mem_cons_self
abbrev xcg:=@List.getElem?_map
abbrev xch:=@Nat.le_of_lt_succ
abbrev xci:=@Nat.lt_of_le_of_ne
abbrev xcj:=@Array.toList_append
abbrev xck:=@PySem.Heap.get?_update_other
abbrev xcl:=@PySem.W.mg_of
abbrev xcm:=@Nat.le_sub_one_of_lt
abbrev xcn:=@List.length_cons
abbrev xco:=@List.mem_append
abbrev xcp:=@Nat.le_of_succ_le
abbrev xcq:=@List.mem_append_right
abbrev xcr:=@Nat.lt_of_le_of_lt
abbrev xcs:=@Nat.le_of_eq
abbrev xct:=@Nat.le_of_add_left_le
abbrev xcu:=@PySem.W.mg_none_of
abbrev xcv:=@List.mem_cons_of_mem
abbrev xcw:=@List.getElem?_set_ne
abbrev xcx:=@List.mem_of_getElem?
abbrev xcy:=@List.getD_eq_getElem?_getD
abbrev xcz:=@PyProof.Rows.wpS_forRange
abbrev xda:=@Nat.sub_lt_left_of_lt_add
abbrev xdb:=@decide_eq_false
abbrev xdc:=@decide_eq_true
abbrev xdd:=@Bool.false_eq_true
abbrev xde:=@List.mem_range
abbrev xdf:=@Nat.le_antisymm
abbrev xdg:=@Nat.add_lt_of_lt_sub'
abbrev xdh:=@Nat.zero_le
abbrev xdi:=@PySem.wpAny_mono
abbrev xdj:=@List.getElem?_set_self
abbrev xdk:=@Option.map_eq_some_iff
abbrev xdl:=@Nat.succ_le_succ
abbrev xdm:=@Nat.add_lt_add_left
abbrev xdn:=@PySem.W.kia_one
abbrev xdo:=@List.append_nil
abbrev xdp:=@Nat.sub_lt_sub_right
abbrev xdq:=@Nat.min_eq_left
abbrev xdr:=@Nat.zero_add
abbrev xds:=@Nat.not_lt_of_le
abbrev xdt:=@PySem.mem_of_lookup
abbrev xdu:=@Nat.le_sub_of_add_le'
abbrev xdv:=@Nat.lt_of_succ_lt
abbrev xdw:=@PySem.wpAny_truthy_bool
abbrev xdx:=@List.getElem_of_mem
abbrev xdy:=@PySem.PassesOwn.never
abbrev xdz:=@Bool.false_ne_true
abbrev xea:=@List.length_take
abbrev xeb:=@List.lookup_cons
abbrev xec:=@Nat.lt_or_ge
abbrev xed:=@List.getElem_mem
abbrev xee:=@PyProof.Rows.wpS_mono
abbrev xef:=@PySem.wpAny_holding
abbrev xeg:=@Ne.symm
abbrev xeh:=@PySem.F.slot_dict_keyiterator_next
abbrev xei:=@Nat.sub_le_sub_right
abbrev xej:=@Option.bind_eq_some_iff
abbrev xek:=@Nat.sub_pos_of_lt
abbrev xel:=@Array.toList_push
abbrev xem:=@List.drop_eq_nil_of_le
abbrev xen:=@Nat.lt_irrefl
abbrev xeo:=@Array.getElem?_eq_some_iff
abbrev xep:=@Array.perm_iff_toList_perm
abbrev xeq:=@beq_iff_eq
abbrev xer:=@Nat.lt_of_not_le
abbrev xes:=@List.take_append_drop
abbrev xet:=@List.getElem?_drop
abbrev xeu:=@Nat.lt_of_lt_of_eq
abbrev xev:=@List.set_append_right
abbrev xew:=@PySem.wpAny_Call_Name_kw
abbrev xex:=@List.length_set
abbrev xey:=@List.pairwise_append
abbrev xez:=@PySem.wpAny_newObj_type
abbrev xfa:=@PySem.wpAny_typeNameOfWhole_keyiter
abbrev xfb:=@PySem.F.plainAttrs_list
abbrev xfc:=@Int.eq_ofNat_of_zero_le
abbrev xfd:=@Bool.and_eq_true
abbrev xfe:=@Nat.sub_le
abbrev xff:=@PyProof.Rows.wpS_modify
abbrev xfg:=@List.mem_map
abbrev xfh:=@Nat.sub_add_cancel
abbrev xfi:=@List.length_replicate
abbrev xfj:=@List.Perm.append_left
abbrev xfk:=@List.perm_append_comm
abbrev xfl:=@List.getElem?_eq_none
abbrev xfm:=@PySem.wpAny_passesOwn
abbrev xfn:=@Nat.le_succ_of_le
abbrev xfo:=@of_decide_eq_true
abbrev xfp:=@List.mem_append_left
abbrev xfq:=@List.drop_eq_getElem_cons
abbrev xfr:=@List.map_map
abbrev xfs:=@List.take_succ_eq_append_getElem
abbrev xft:=@List.not_mem_nil
abbrev xfu:=@PySem.wpAny_call_entry
abbrev xfv:=@Nat.sub_le_sub_left
abbrev xfw:=@List.getElem?_range
abbrev xfx:=@List.countP_cons_of_pos
abbrev xfy:=@Nat.lt_add_of_pos_right
abbrev xfz:=@PyProof.Rows.wpS_get
abbrev xga:=@PySem.Obj.data_mapFields
abbrev xgb:=@Nat.sub_lt
abbrev xgc:=@Nat.min_le_left
abbrev xgd:=@Array.append_empty
abbrev xge:=@List.pairwise_cons
abbrev xgf:=@List.take_of_length_le
abbrev xgg:=@List.Perm.append_right
abbrev xgh:=@Nat.lt_succ_of_lt
abbrev xgi:=@PySem.Heap.get?_update_self
abbrev xgj:=@Array.extract_eq_empty_of_le
abbrev xgk:=@PySem.wpAny_setField
abbrev xgl:=@decide_false
abbrev xgm:=@PyProof.Rows.callWith_type1
abbrev xgn:=@Nat.min_le_right
abbrev xgo:=@Array.toList_reverse
abbrev xgp:=@List.reverse_reverse
abbrev xgq:=@if_false
abbrev xgr:=@PySem.wpAny_rule
abbrev xgs:=@PySem.Calls.Name_function_global
abbrev xgt:=@PySem.wpAny_attempt
abbrev xgu:=@PySem.sizeLine_eq
abbrev xgv:=@decide_true
abbrev xgw:=@PySem.wpAny_field
abbrev xgx:=@List.flatMap_append
abbrev xgy:=@beq_eq_false_iff_ne
abbrev xgz:=@Bool.eq_iff_iff
abbrev xha:=@List.pairwise_iff_getElem
abbrev xhb:=@Int.emod_nonneg
abbrev xhc:=@PySem.wpAny_execs_nil
abbrev xhd:=@Option.isSome_iff_exists
abbrev xhe:=@PySem.F.args_tuple_add_2
abbrev xhf:=@Nat.sub_self
abbrev xhg:=@Nat.lt_trans
abbrev xhh:=@List.filter_append
abbrev xhi:=@PySem.codeAny_mono
abbrev xhj:=@PySem.F.entry_tuple_add
abbrev xhk:=@List.countP_cons_of_neg
abbrev xhl:=@List.pairwise_singleton
abbrev xhm:=@Nat.zero_lt_of_lt
abbrev xhn:=@List.ext_getElem?
abbrev xho:=@List.length_range
abbrev xhp:=@PySem.wpAny_pyIter_list
abbrev xhq:=@PySem.W.cellsFrom_some
abbrev xhr:=@PySem.F.slot_tuple_add
abbrev xhs:=@List.all_eq_true
abbrev xht:=@List.mem_reverse
abbrev xhu:=@List.take_length
abbrev xhv:=@beq_self_eq_true
abbrev xhw:=@PyProof.Rows.wpS_lift
abbrev xhx:=@PySem.F.slot_tuple_lt
abbrev xhy:=@Array.getElem?_setIfInBounds_ne
abbrev xhz:=@Nat.ne_of_gt
abbrev xia:=@List.nodup_cons
abbrev xib:=@List.of_mem_zip
abbrev xic:=@Nat.add_zero
abbrev xid:=@PySem.wpAny_call
abbrev xie:=@PySem.call_meets
abbrev xif:=@List.eq_nil_of_length_eq_zero
abbrev xig:=@List.filterMap_cons
abbrev xih:=@PySem.W.callWith_K
abbrev xii:=@Nat.pos_of_ne_zero
abbrev xij:=@Nat.add_sub_cancel
abbrev xik:=@PySem.F.excAttr_ValueError
abbrev xil:=@Int.toNat_natCast
abbrev xim:=@List.mapM_toArray
abbrev xin:=@PySem.wpAny_dictEntries
abbrev xio:=@decide_eq_true_eq
abbrev xip:=@Array.getElem?_eq_getElem
abbrev xiq:=@if_true
abbrev xir:=@Nat.max_eq_right
abbrev xis:=@Nat.min_eq_right
abbrev xit:=@List.length_drop
abbrev xiu:=@Nat.lt_succ_self
abbrev xiv:=@Int.zero_add
abbrev xiw:=@map_eq_pure_bind
abbrev xix:=@List.length_nil
abbrev xiy:=@List.range_succ
abbrev xiz:=@Nat.le_add_left
abbrev xja:=@List.nil_append
abbrev xjb:=@List.map_append
abbrev xjc:=@Nat.two_pos
abbrev xjd:=@List.drop_drop
set_option maxHeartbeats 0
namespace L2
open PySem PySem.Spec PyProof.Rows
noncomputable abbrev Key:=Sum Int Str
noncomputable def keyIs:Key->Value->Bool
 | .inl k,v=>Value.isInt k v
 | .inr x,v=>Value.isStrOf x v
noncomputable def keyH (w:World):Key->Int
 | .inl k=>hashInt k
 | .inr x=>hashStr w x
theorem zw:∀{k:Key} {v:Value},keyIs k v=true->(∃i t,k=Sum.inl i/\v=Value.int i t)\/(∃x t,k=Sum.inr x/\v=Value.str x t)
 | .inl i,v,h=>by
  obtain ⟨t,e⟩:=Value.isInt_shape (k:=i) (v:=v) h;exact .inl ⟨i,t,rfl,e⟩
 | .inr x,v,h=>by
  obtain ⟨t,e⟩:=Value.isStrOf_shape (x:=x) (v:=v) h;exact .inr ⟨x,t,rfl,e⟩
theorem zxd (a b:Int):decide ((Sum.inl a:Key)=Sum.inl b)=(a == b):=by
 by_cases e:a=b
 ·subst e;simp
 ·have h:¬ (Sum.inl a:Key)=Sum.inl b:=fun q=>e (Sum.inl.inj q)
  rw[xdb h];exact (xgy.mpr e).symm
theorem zxa (a b:Str):decide ((Sum.inr a:Key)=Sum.inr b)=decide (a=b):=by
 by_cases e:a=b
 ·subst e;simp
 ·have h:¬ (Sum.inr a:Key)=Sum.inr b:=fun q=>e (Sum.inr.inj q)
  rw[xdb h,xdb e]
theorem zxc (a:Int) (b:Str):decide ((Sum.inl a:Key)=Sum.inr b)=false:=xdb (fun q=>nomatch q)
theorem zxb (a:Str) (b:Int):decide ((Sum.inr a:Key)=Sum.inl b)=false:=xdb (fun q=>nomatch q)
noncomputable def mixKind (prog:Program) (w:World):PySem.KeyKind prog w Key where
 is:=keyIs
 hash:=keyH w
 inj:=fun v a b ha hb=>by
  rcases zw ha with ⟨i,t,rfl,rfl⟩ | ⟨x,t,rfl,rfl⟩
  ·rcases zw hb with ⟨j,u,rfl,e⟩ | ⟨y,u,rfl,e⟩
   ·injection e with e1 _;rw[e1]
   ·exact nomatch e
  ·rcases zw hb with ⟨j,u,rfl,e⟩ | ⟨y,u,rfl,e⟩
   ·exact nomatch e
   ·injection e with e1 _;rw[e1]
 byValue:=fun k v h=>by
  rcases zw h with ⟨i,t,rfl,rfl⟩ | ⟨x,t,rfl,rfl⟩<;>rfl
 pyHash:=fun hv h=>by
  rcases zw hv with ⟨i,t,rfl,rfl⟩ | ⟨x,t,rfl,rfl⟩
  ·exact wpAny_pyHash_int h
  ·exact wpAny_pyHash_str h
 eqBool:=fun hu hv h=>by
  rcases zw hu with ⟨i,t,rfl,rfl⟩ | ⟨x,t,rfl,rfl⟩
  ·rcases zw hv with ⟨j,u,rfl,rfl⟩ | ⟨y,u,rfl,rfl⟩
   ·rw[zxd] at h;exact wpAny_eqBool_int h
   ·rw[zxc] at h;exact SeqAt.EqAt.int_str i t y u _ _ _ _ h
  ·rcases zw hv with ⟨j,u,rfl,rfl⟩ | ⟨y,u,rfl,rfl⟩
   ·rw[zxb] at h;exact SeqAt.EqAt.str_int x t j u _ _ _ _ h
   ·rw[zxa] at h;exact wpAny_eqBool_str h
 «strs»:=fun k x t v h=>by
  rcases zw h with ⟨i,u,rfl,e⟩ | ⟨y,u,rfl,e⟩
  ·exact nomatch e
  ·injection e with e1 _
   subst e1;cases v<;>rfl
set_option genInjectivity true in
inductive V where
 | non | bl (b:Bool) | int (i:Int) | str (x:Str) | byt (b:Array UInt8) | flt (b:UInt64) | ref (a:Addr) | ty (n:String)
 deriving DecidableEq
noncomputable def RelV:V->Value->Prop
 | .non,u=>u=Value.none
 | .bl b,u=>u=Value.bool b
 | .int i,u=>∃t,u=Value.int i t
 | .str x,u=>∃t,u=Value.str x t
 | .byt b,u=>∃t,u=Value.bytes b t
 | .flt b,u=>∃t,u=Value.float b t
 | .ref a,u=>u=Value.ref a
 | .ty n,u=>u=Value.type n
noncomputable abbrev Vals:List V->List Value->Prop:=Paired RelV
theorem Vals.length {xs:List V} {us:List Value} (r:Vals xs us):xs.length=us.length:=Paired.length r
theorem Vals.get:∀{xs:List V} {us:List Value} {i:Nat} {x:V},Vals xs us->xs[i]?=some x->∃u,us[i]?=some u/\RelV x u
 | _,_,_,_,.nil,e=>by simp at e
 | _,_,0,_,.cons r _,e=>by simp at e;subst e;exact ⟨_,rfl,r⟩
 | _,_,i+1,x,.cons _ t,e=>by
  obtain ⟨u,h1,h2⟩:=Vals.get (i:=i) (x:=x) t (by simpa using e);exact ⟨u,by simpa using h1,h2⟩
theorem Vals.set {x:V} {u:Value} (r:RelV x u):∀{xs:List V} {us:List Value} (i:Nat),Vals xs us->Vals (xs.set i x) (us.set i u)
 | _,_,_,.nil=>.nil
 | _,_,0,.cons _ t=>.cons r t
 | _,_,i+1,.cons q t=>.cons q (Vals.set r i t)
theorem Vals.append:∀{xs ys:List V} {us ws:List Value},Vals xs us->Vals ys ws->Vals (xs++ys) (us++ws)
 | _,_,_,_,.nil,s=>s
 | _,_,_,_,.cons r t,s=>.cons r (Vals.append t s)
noncomputable def RelO:Option V->Option Value->Prop
 | some v,some u=>RelV v u
 | none,none=>True
 | _,_=>False
noncomputable def KV {κ:Type}:List (κ × V)->List (κ × Value)->Prop:=Paired fun (p:κ × V) (q:κ × Value)=>p.1=q.1/\RelV p.2 q.2
noncomputable def kV:Key->V
 | .inl i=>.int i
 | .inr x=>.str x
set_option genInjectivity true in
inductive HO where
 /-- a list -/
 | lst (xs:List V)
 /-- a tuple (never changes) -/
 | tup (xs:List V)
 /-- a dict whose keys are ints and texts;one whose keys are tuples of ints and texts (the empty one is both) -/
 | dK (kvs:List (Key × V)) | dT (kvs:List (List Key × V))
 /-- a set of ints: its members,its size -/
 | set (S:Int->Bool) (n:Nat)
 /-- an instance of the class at C,its dict at dx,its attributes -/
 | ins (C dx:Addr) (fs:List (Str × V))
 /-- the dict of the instance at x -/
 | own (x:Addr)
 /-- the dict of an exception -/
 | xd (fs:List (Str × V))
 /-- a bound method,f of x -/
 | met (f x:Addr)
 /-- a range object lo,lo+1,.. below hi -/
 | rng (lo hi:Int)
 /-- a thing that is known to the object (the script;a dict while a loop walks it): read,never written while it is so -/
 | frz (o:Obj) (u:HO)
 /-- a code object's table -/
 | tbl (ps:Array Value)
 /-- any other thing,by what is true of its one object (a def of one's own: SetO a S n:=HO.ext fun h=>..) -/
 | ext (φ:Heap->Prop)
noncomputable abbrev Hp:=Addr->Option HO
noncomputable def upd (H:Hp) (a:Addr) (o:HO):Hp:=fun b=>if b=a then some o else H b
theorem zk {H:Hp} {a:Addr} {o:HO}:upd H a o a=some o:=by unfold upd;rw[if_pos rfl]
theorem zi {H:Hp} {a b:Addr} {o:HO} (h:b≠a):upd H a o b=H b:=by unfold upd;rw[if_neg h]
theorem zrm {H:Hp} {a:Addr} {o u:HO}:upd (upd H a o) a u=upd H a u:=by
 funext b;unfold upd;split<;>rfl
theorem ze {H:Hp} {a b:Addr} {o:HO} (h:H a=some o) (h':H b=none):a≠b:=by
 intro e;subst e;rw[h] at h';cases h'
section
variable (P:Program) (w:World)
noncomputable def ObjOk (H:Hp) (h:Heap) (a:Addr):HO->Prop
 | .lst xs => xs.length <= sizeLine /\ ∃ (its : List Value) (n : Nat), Vals xs its /\ h.get? a = some { cls := .type "list", data := .seq its.toArray n }
 | .tup xs=>xs.length<=sizeLine/\∃its:List Value,Vals xs its/\IsTup h a its.toArray
 | .dK kvs=>kvs.length<=sizeLine/\(a == sysModules)=false/\∃vs,KV kvs vs/\h.DictOf (mixKind P w) a vs
 | .dT kvs=>kvs.length<=sizeLine/\(a == sysModules)=false/\∃xs:List (List Key × Addr × Value),
  Paired (fun (p:List Key × V) (q:List Key × Addr × Value)=>p.1=q.1/\H q.2.1=some (.tup (p.1.map kV))/\RelV p.2 q.2.2) kvs xs /\
  ∃o es ep,h.get? a=some o/\o.ExactDict/\o.data=.dict es ep/\es.toList=xs.map (entryOfKey (tupleKind (mixKind P w)))/\(xs.map (·.1)).Nodup
 | .set S n=>h.SetOf (intKind P w) a S n
 | .ins C dx fs=>H dx=some (.own a)/\fs.length<=1000/\dx≠a/\h.get? a=some (PySem.W.instObj C dx) /\
  ∃mA,h.Ns1 dx mA/\(∀f,RelO (fs.lookup f) (mA f))/\PySem.Within mA (fs.map (·.1))
 | .own _=>∃o,h.get? a=some o
 | .xd fs=>∃mA,h.Ns1 a mA/\∀f,RelO (fs.lookup f) (mA f)
 | .rng lo hi => ∃ t u v, h.get? a = some { cls := .type "range", data := .fields #[.int lo t, .int hi u, .int 1 v] }
 | .frz o u=>h.get? a=some o/\ObjOk H h a u
 | .tbl ps=>h.get? a=some {cls:=.none,data:=.fields ps}
 | .met f x=>h.get? a=some (PySem.W.methodObj (.ref f) (.ref x))
 | .ext φ=>φ h/\(∃o,h.get? a=some o)/\∀h1 h2:Heap,φ h1->(∀o,h1.get? a=some o->h2.get? a=some o)->φ h2
noncomputable def HOk (H:Hp) (h:Heap):Prop:=∀a o,H a=some o->ObjOk P w H h a o
end
section
variable {P:Program} {w:World} {H H':Hp} {h h':Heap} {a:Addr} {o:HO}
theorem ObjOk.lt (x:ObjOk P w H h a o):a < h.objs.size:=by
 cases o with
 | lst xs=>obtain ⟨_,_,_,_,e⟩:=x;exact xbh e
 | tup xs=>obtain ⟨_,_,_,p⟩:=x;exact p.lt
 | dK kvs=>obtain ⟨_,_,_,_,o,_,_,e,_⟩:=x;exact xbh e
 | dT kvs=>obtain ⟨_,_,_,_,o,_,_,e,_⟩:=x;exact xbh e
 | set S n=>obtain ⟨o,_,_,_,e,_⟩:=x;exact xbh e
 | ins C dx fs=>obtain ⟨_,_,_,e,_⟩:=x;exact xbh e
 | own y=>obtain ⟨_,e⟩:=x;exact xbh e
 | xd fs=>obtain ⟨_,⟨_,_,_,e,_⟩,_⟩:=x;exact xbh e
 | rng lo hi=>obtain ⟨_,_,_,e⟩:=x;exact xbh e
 | frz ob u=>obtain ⟨e,_⟩:=x;exact xbh e
 | tbl ps=>exact xbh (show h.get? a=some _ from x)
 | met f y=>exact xbh (show h.get? a=some _ from x)
 | ext φ=>obtain ⟨_,⟨_,e⟩,_⟩:=x;exact xbh e
theorem Paired.mapP {α β:Type} {F G:α->β->Prop}:∀{l₁:List α} {l₂:List β},Paired F l₁ l₂->(∀a b,F a b->G a b)->Paired G l₁ l₂
 | _,_,.nil,_=>.nil
 | _,_,.cons r t,f=>.cons (f _ _ r) (Paired.mapP t f)
theorem ObjOk.stay (x:ObjOk P w H h a o) (k:∀b u,(b=a\/H b=some (.own a))->h.get? b=some u->h'.get? b=some u)
  (ho:∀b,H b=some (.own a)->H' b=some (.own a)) (ht:∀b xs,H b=some (.tup xs)->H' b=some (.tup xs)):ObjOk P w H' h' a o:=by
 induction o with
 | lst xs=>obtain ⟨z,its,n,r,e⟩:=x;exact ⟨z,its,n,r,k _ _ (.inl rfl) e⟩
 | tup xs=>obtain ⟨z,its,r,ob,e,c⟩:=x;exact ⟨z,its,r,ob,k _ _ (.inl rfl) e,c⟩
 | dK kvs=>obtain ⟨z,y,vs,r,ob,es,ep,e,c⟩:=x;exact ⟨z,y,vs,r,ob,es,ep,k _ _ (.inl rfl) e,c⟩
 | dT kvs =>
  obtain ⟨z,y,xs,r,ob,es,ep,e,c⟩:=x;exact ⟨z,y,xs,Paired.mapP r fun p q z=>⟨z.1,ht _ _ z.2.1,z.2.2⟩,ob,es,ep,k _ _ (.inl rfl) e,c⟩
 | set S n=>obtain ⟨ob,es,ep,t,e,c⟩:=x;exact ⟨ob,es,ep,t,k _ _ (.inl rfl) e,c⟩
 | ins C dx fs =>
  obtain ⟨d,z,ne,e,mA,⟨od,es,ep,e2,c⟩,r⟩:=x;exact ⟨ho _ d,z,ne,k _ _ (.inl rfl) e,mA,⟨od,es,ep,k _ _ (.inr d) e2,c⟩,r⟩
 | own y=>obtain ⟨ob,e⟩:=x;exact ⟨ob,k _ _ (.inl rfl) e⟩
 | xd fs=>obtain ⟨mA,⟨od,es,ep,e,c⟩,r⟩:=x;exact ⟨mA,⟨od,es,ep,k _ _ (.inl rfl) e,c⟩,r⟩
 | rng lo hi=>obtain ⟨t,u,v,e⟩:=x;exact ⟨t,u,v,k _ _ (.inl rfl) e⟩
 | frz ob u ih=>obtain ⟨e,q⟩:=x;exact ⟨k _ _ (.inl rfl) e,ih q⟩
 | tbl ps =>
  have e:h.get? a=some {cls:=.none,data:=.fields ps}:=x;show h'.get? a=some {cls:=.none,data:=.fields ps};exact k a _ (.inl rfl) e
 | met f y =>
  have e:h.get? a=some (PySem.W.methodObj (.ref f) (.ref y)):=x;show h'.get? a=some (PySem.W.methodObj (.ref f) (.ref y));exact k a _ (.inl rfl) e
 | ext φ=>obtain ⟨p,⟨o,e⟩,st⟩:=x;exact ⟨st _ _ p fun o q=>k _ _ (.inl rfl) q,⟨o,k _ _ (.inl rfl) e⟩,st⟩
theorem HOk.lt (x:HOk P w H h) (e:H a=some o):a < h.objs.size:=(x a o e).lt
theorem HOk.fresh (x:HOk P w H h) (e:h.objs.size<=a):H a=none:=by
 cases q:H a with
 | none=>rfl
 | some u=>exact absurd (xbc (x.lt q) e) (xen _)
theorem HOk.kept (x:HOk P w H h) (k:∀b u,h.get? b=some u->h'.get? b=some u):HOk P w H h':=fun a o e =>
 (x a o e).stay (fun b u _ q=>k b u q) (fun _ q=>q) fun _ _ q=>q
theorem HOk.laid (x:HOk P w H h) (k:∀b u,h.get? b=some u->h'.get? b=some u) (hp:h.objs.size<=a) (new:ObjOk P w (upd H a o) h' a o):HOk P w (upd H a o) h':=fun b u e=>by
 have hn:=x.fresh hp;by_cases hb:b=a
 ·subst hb;rw[zk] at e;cases e;exact new
 ·rw[zi hb] at e;exact (x b u e).stay (fun c v _ q=>k c v q) (fun c q=>by rw[zi (ze q hn)];exact q) fun c xs q=>by rw[zi (ze q hn)];exact q
end
noncomputable def Rd (H:Hp) (a:Addr) (u:HO):Prop:=H a=some u\/∃o,H a=some (.frz o u)
theorem Rd.ok {P:Program} {w:World} {H:Hp} {h:Heap} {a:Addr} {u:HO} (r:Rd H a u) (x:HOk P w H h):ObjOk P w H h a u:=by
 rcases r with r | ⟨o,r⟩
 ·exact x a u r
 ·obtain ⟨_,q⟩:=x a _ r;exact q
noncomputable def Mut:Option HO->Prop
 | some (.lst _)=>True
 | some (.dK _)=>True
 | some (.dT _)=>True
 | some (.set _ _)=>True
 | some (.ins _ _ _)=>True
 | some (.ext _)=>True
 | _=>False
section
variable {P:Program} {w:World} {H:Hp} {h h':Heap} {x e:Addr} {o':HO}
theorem HOk.write (ok:HOk P w H h) (mu:Mut (H x)) (he:e=x\/H e=some (.own x)) (k:∀b u,b≠e->h.get? b=some u->h'.get? b=some u) (heo:∃u,h'.get? e=some u)
  (new:ObjOk P w (upd H x o') h' x o'):HOk P w (upd H x o') h':=fun b u q=>by
 have nown:∀c y,H c=some (.own y)->c≠x:=fun c y r z=>by subst z;rw[r] at mu;exact mu
 have ntup:∀c xs,H c=some (.tup xs)->c≠x:=fun c xs r z=>by subst z;rw[r] at mu;exact mu
 by_cases hb:b=x
 ·subst hb;rw[zk] at q;cases q;exact new
 ·rw[zi hb] at q;by_cases hbe:b=e
  ·have q':H b=some (.own x):=by
    rcases he with z | z
    ·exact absurd (hbe.trans z) hb
    ·rw[hbe];exact z
   rw[q] at q';cases q'
   obtain ⟨v,hv⟩:=heo;exact ⟨v,by rw[hbe];exact hv⟩
  ·refine (ok b u q).stay (fun c v hc r=>k c v ?_ r) (fun c r=>by rw[zi (nown c b r)];exact r) fun c xs r=>by rw[zi (ntup c xs r)];exact r
   rcases hc with rfl | hc
   ·exact hbe
   ·rintro rfl;rcases he with z | z
    ·exact nown c b hc z
    ·rw[hc] at z;cases z;exact hb rfl
end
structure Un (fs ex:List Addr) (H H':Hp) (h h':Heap):Prop where
 keep:∀b o,h.get? b=some o->H b=none->b∉fs->b∉ex->h'.get? b=some o
 slot:∀b o,h.get? b=some o->H b=none->b∈fs->b∉ex->∃sl,h'.get? b=some {o with slots:=sl}
 free:∀b o,h.get? b=some o->H b=none->b∉ex->H' b=none
 there:∀b o,h.get? b=some o->b∉ex->∃o',h'.get? b=some o'
 tups:∀b xs,H b=some (.tup xs)->H' b=some (.tup xs)
 frzs:∀b o u,H b=some (.frz o u)->H' b=some (.frz o u)
 tbls:∀b ps,H b=some (.tbl ps)->∃more,H' b=some (.tbl (ps++more))
section
variable {fs fs' ex ex':List Addr} {H H1 H2:Hp} {h h1 h2 h':Heap} {a x e:Addr} {o:HO}
theorem Un.any (u:Un fs ex H H1 h h1) {b:Addr} {ob:Obj} (q:h.get? b=some ob) (n:H b=none) (hx:b∉ex):∃sl,h1.get? b=some {ob with slots:=sl}:=by
 by_cases hb:b∈fs
 ·exact u.slot b ob q n hb hx
 ·exact ⟨ob.slots,u.keep b ob q n hb hx⟩
theorem Un.kept (k:∀b u,h.get? b=some u->h'.get? b=some u):Un fs ex H H h h' :=
 ⟨fun b ob q _ _ _=>k b ob q,fun b ob q _ _ _=>⟨ob.slots,k b ob q⟩,fun _ _ _ n _=>n,fun b ob q _=>⟨ob,k b ob q⟩,fun _ _ q=>q,fun _ _ _ q=>q,fun _ ps q=>⟨#[],by rw[q];simp⟩⟩
theorem Un.refl:Un fs ex H H h h:=Un.kept fun _ _ q=>q
theorem Un.laid (k:∀b u,h.get? b=some u->h'.get? b=some u) (hp:h.objs.size<=a) (hn:H a=none):Un fs ex H (upd H a o) h h' where
 keep:=fun b u q _ _ _=>k b u q
 slot:=fun b u q _ _ _=>⟨u.slots,k b u q⟩
 free:=fun b u q n _=>by rw[zi (xbu (xbc (xbh q) hp))];exact n
 there:=fun b u q _=>⟨u,k b u q⟩
 tups:=fun b xs q=>by rw[zi (ze q hn)];exact q
 frzs:=fun b u xs q=>by rw[zi (ze q hn)];exact q
 tbls:=fun b ps q=>⟨#[],by rw[zi (ze q hn),q];simp⟩
theorem Un.write (mu:Mut (H x)) (he:e=x\/H e=some (.own x)) (k:∀b u,b≠e->h.get? b=some u->h'.get? b=some u) (heo:∃u,h'.get? e=some u):Un fs ex H (upd H x o) h h':=by
 have hx:∀b,H b=none->b≠x:=fun b n z=>by subst z;rw[n] at mu;exact mu
 have hb:∀b,H b=none->b≠e:=fun b n z=>by
  subst z;rcases he with r | r
  ·exact hx b n r
  ·rw[n] at r;cases r
 have hm:∀b u,H b=some u->¬ Mut (some u)->b≠x:=fun b u q nm z=>by subst z;rw[q] at mu;exact nm mu
 refine ⟨fun b u q n _ _=>k b u (hb b n) q,fun b u q n _ _=>⟨u.slots,k b u (hb b n) q⟩,fun b u q n _=>by rw[zi (hx b n)];exact n,fun b u q _=>?_,
  fun b xs q=>by rw[zi (hm b _ q fun z=>z)];exact q,fun b u xs q=>by rw[zi (hm b _ q fun z=>z)];exact q,fun b ps q=>⟨#[],by rw[zi (hm b _ q fun z=>z),q];simp⟩⟩
 by_cases hbe:b=e
 ·subst hbe;exact heo
 ·exact ⟨u,k b u hbe q⟩
end
noncomputable def trk (h:Heap) (H:Hp):List Addr:=(List.range h.objs.size).filter fun a=>(H a).isSome
noncomputable def hidT (h:Heap) (H:Hp):Heap:=PySem.W.hideAll h (trk h H)
theorem zmk (h:Heap) (H:Hp):(hidT h H).objs.size=h.objs.size:=PySem.W.hideAll_size _ _
theorem zps {h:Heap} {H:Hp} {b:Addr} {o:Obj} (e:h.get? b=some o) (n:H b=none):(hidT h H).get? b=some o :=
 PySem.W.hideAll_get _ e fun hm=>by
  have q:(H b).isSome=true:=(List.mem_filter.mp hm).2;rw[n] at q;simp at q
theorem zsp {h:Heap} {H:Hp} {b:Addr} {o:Obj} (e:(hidT h H).get? b=some o):h.get? b=some o/\H b=none:=by
 have e':h.get? b=some o:=PySem.W.of_hideAll (trk h H) e;refine ⟨e',?_⟩;cases q:H b with
 | none=>rfl
 | some x =>
  have hm:b∈trk h H:=List.mem_filter.mpr ⟨xde.mpr (xbh e'),by simp[q]⟩;have z:(hidT h H).get? b=none:=PySem.W.hideAll_none (trk h H) hm;rw[z] at e;cases e
structure Mod (K:Fg) (mg:Str->Option Value) (base:Heap):Prop where
 kin:K.In base
 glob:base.Ns mainGlobals mg
 blt : ∃ mb, base.Ns builtinsNs mb /\ ∀ x : Str, x ≠ "__name__" -> mb x = bootBuiltins x
 nolimit:base.NoLimit
structure Cx where
 prog:Program
 w:World
 K:Fg
 mg:Str->Option Value
 base:Heap
 A:Around
 N:List Str
 s₀:Shared
 H₀:Hp
 env:Env
 outer:List Env
 stack:List Env
 ex:List Addr
 fn:Str->Bool
 calm:Bool
 pn:List (Addr × Obj)
 xe:Value->Shared->Prop
noncomputable def frs (l:List Env):List Addr:=l.filterMap (·.frame)
noncomputable abbrev Cx.fs (X:Cx):List Addr:=frs X.outer
noncomputable def Vis (sc:Scope) (x:Str):Prop:=sc.names.lookup x=some .local\/sc.names.lookup x=some .cell\/sc.names.lookup x=some .free
noncomputable def Loc (sc:Scope) (x:Str):Prop:=sc.names.lookup x=some .local\/sc.names.lookup x=some .cell
noncomputable def Look (env:Env) (h:Heap) (m:Str->Option Value) (x:Str) (u:Value):Prop :=
 (env.kindOf x=some .local/\m x=some u)\/((env.kindOf x=some .cell\/env.kindOf x=some .free)/\∃c,env.cells.lookup x=some c/\h.IsCell c (some u))
structure Cx.Ok (X:Cx):Prop where
 mod:Mod X.K X.mg X.base
 kind:X.env.scope.kind=.function
 glob:X.env.globals=mainGlobals
 blt:X.env.builtins=builtinsNs
 above:X.s₀.heap.objs.size<=X.env.locals
 inj:∀x y c,X.env.cells.lookup x=some c->X.env.cells.lookup y=some c->x=y
 has:∀x,(X.env.kindOf x=some .cell\/X.env.kindOf x=some .free)->∃c,X.env.cells.lookup x=some c
 cab:∀x c,X.fn x=true->X.env.cells.lookup x=some c->X.s₀.heap.objs.size<=c
 hd:X.calm=true->X.A.handled=none
 frames:X.A.frames=some X.stack
 stk:X.stack=X.outer\/(X.stack=X.env::X.outer/\X.env.frame=some X.env.locals)
 exf:∀b∈X.ex,b≠X.env.locals/\∀x c,X.env.cells.lookup x=some c->c≠b
 bs:∀b o,X.base.get? b=some o->X.s₀.heap.get? b=some o/\X.H₀ b=none
 bsz:X.base.objs.size<=X.s₀.heap.objs.size
 noex:∀b o,X.base.get? b=some o->b∉X.ex
 exfs:∀b∈X.ex,b∉X.fs
 funs:X.s₀.heap.FunFrames X.base X.outer
 frf:∀b∈X.fs,X.H₀ b=none
noncomputable def Hnd (A:Around) (H:Hp):Prop:=∀v,A.handled=some v->∃a o,v=.ref a/\H a=some (.frz o (.ext fun _=>True))/\∃vs,o.data=.fields vs/\vs[2]?=some .none
theorem Hnd.map {A:Around} {H H':Hp} (h:Hnd A H) (f:∀b o u,H b=some (.frz o u)->H' b=some (.frz o u)):Hnd A H':=fun v e=>let ⟨a,o,h1,h2,h3⟩:=h v e;⟨a,o,h1,f _ _ _ h2,h3⟩
theorem Hnd.none {A:Around} {H:Hp} (h:A.handled=.none):Hnd A H:=fun v e=>by rw[h] at e;cases e
structure Inv (X:Cx) (pins:List (Addr × Obj)) (σ:List (Option V)) (H:Hp) (s:Shared):Prop where
 ok:X.Ok
 os:s.os=X.s₀.os
 bare:AllBare s.gens
 base:Un X.fs X.ex X.H₀ H X.s₀.heap s.heap
 loc:∃m,s.heap.Ns X.env.locals m/\∀(i:Nat) (x:Str) (v:V),X.N[i]?=some x->σ[i]?=some (some v)->Vis X.env.scope x->∃u,RelV v u/\Look X.env s.heap m x u
 cell:∀x c,X.env.cells.lookup x=some c->∃v,s.heap.IsCell c v
 free:H X.env.locals=none
 freeC:∀x c,X.env.cells.lookup x=some c->H c=none
 pin:∀p∈X.pn++pins,s.heap.get? p.1=some p.2/\H p.1=none/\p.1≠X.env.locals/\p.1∉X.fs/\∀v,p.2.data≠.cell v
 hok:HOk X.prog X.w H s.heap
 len:σ.length=X.N.length
 hnd:Hnd X.A H
section
variable {X:Cx} {pins:List (Addr × Obj)} {σ:List (Option V)} {H H':Hp} {s:Shared} {h':Heap}
theorem Cx.Ok.nofr (ok:X.Ok) {b:Addr} {o:Obj} (e:X.base.get? b=some o):b∉X.fs:=fun hb=>by
 have:=(ok.funs.mem hb).1;rw[e] at this;cases this
theorem Inv.bs (I:Inv X pins σ H s):∀b o,X.base.get? b=some o->s.heap.get? b=some o/\H b=none:=fun b o e =>
 ⟨I.base.keep b o (I.ok.bs b o e).1 (I.ok.bs b o e).2 (I.ok.nofr e) (I.ok.noex b o e),I.base.free b o (I.ok.bs b o e).1 (I.ok.bs b o e).2 (I.ok.noex b o e)⟩
theorem Inv.bk (I:Inv X pins σ H s):∀b o,X.base.get? b=some o->s.heap.get? b=some o:=fun b o e=>(I.bs b o e).1
theorem Inv.mod (I:Inv X pins σ H s):Mod X.K X.mg X.base:=I.ok.mod
theorem Inv.kIn (I:Inv X pins σ H s):X.K.In s.heap:=I.ok.mod.kin.keeps I.bk
theorem Inv.lt (I:Inv X pins σ H s):X.env.locals < s.heap.objs.size:=let ⟨_,hn,_⟩:=I.loc;hn.lt
theorem Inv.sz (I:Inv X pins σ H s):X.s₀.heap.objs.size<=s.heap.objs.size:=xbb I.ok.above (xbm I.lt)
theorem Inv.nofs (I:Inv X pins σ H s) {a:Addr} (h:s.heap.objs.size<=a):a∉X.fs:=fun hb=>by
 obtain ⟨_,o,ho,_⟩:=I.ok.funs.mem hb;exact absurd (xbc (xbh ho) (xbb I.sz h)) (xen _)
theorem Inv.cne (I:Inv X pins σ H s):∀x c,X.env.cells.lookup x=some c->c≠X.env.locals:=fun x c e z=>by
 obtain ⟨v,o,ho,hd⟩:=I.cell x c e;obtain ⟨m,⟨o',es,ep,ho',hd',_⟩,_⟩:=I.loc;rw[z,ho'] at ho;cases ho;rw[hd'] at hd;cases hd
theorem Inv.funs (I:Inv X pins σ H s):s.heap.FunFrames X.base X.outer:=by
 have all:∀(l:List Env),(∀b∈frs l,b∈X.fs)->X.s₀.heap.FunFrames X.base l->s.heap.FunFrames X.base l:=by
  intro l
  induction l with
  | nil=>intro _ _;trivial
  | cons env r ih =>
   intro hs hl;obtain ⟨hk,⟨L,o,hf,hn,ho,hd⟩,hr⟩:=hl;have hL:L∈X.fs:=hs L (by unfold frs;rw[xig,hf];exact xcf);obtain ⟨sl,e⟩:=I.base.slot L o ho (I.ok.frf L hL) hL fun z=>I.ok.exfs L z hL
   exact ⟨hk,⟨L,_,hf,hn,e,hd⟩,ih (fun b hb=>hs b (by unfold frs;rw[xig,hf];exact xcv _ hb)) hr⟩
 exact all X.outer (fun _ hb=>hb) I.ok.funs
theorem Inv.stack (I:Inv X pins σ H s):s.heap.FunFrames X.base X.stack:=by
 rcases I.ok.stk with e | ⟨e,hf⟩
 ·rw[e];exact I.funs
 ·rw[e];obtain ⟨m,hn,_⟩:=I.loc;refine .cons (by rw[I.ok.kind];decide) hf hn ?_ I.funs;exact Heap.get?_none_of_le (xbb I.ok.bsz I.ok.above)
theorem Inv.stkSub (I:Inv X pins σ H s):∀b∈frs X.stack,b∈X.env.locals::X.fs:=fun b hb=>by
 rcases I.ok.stk with e | ⟨e,hf⟩
 ·rw[e] at hb;exact xcv _ hb
 ·rw[e] at hb;unfold frs at hb;rw[xig,hf] at hb;exact hb
theorem Inv.stkFree (I:Inv X pins σ H s):∀b∈frs X.stack,H b=none:=fun b hb=>by
 rcases xcc.mp (I.stkSub b hb) with e | hb
 ·rw[e];exact I.free
 ·obtain ⟨_,o,ho,_⟩:=I.ok.funs.mem hb;exact I.base.free b o ho (I.ok.frf b hb) fun z=>I.ok.exfs b z hb
theorem Inv.step {g':Array GenState} {t':Nat} {d':Drawn} {ch:List Addr} (I:Inv X pins σ H s)
  (hch:∀b∈ch,(b∈X.ex\/X.s₀.heap.objs.size<=b)/\b≠X.env.locals/\(∀x c,X.env.cells.lookup x=some c->c≠b)/\∀p∈X.pn++pins,p.1≠b)
  (keep:∀b o,b≠X.env.locals->b∉X.fs->b∉ch->s.heap.get? b=some o->H b=none->h'.get? b=some o)
  (slot:∀b o,b≠X.env.locals->b∈X.fs->b∉ch->s.heap.get? b=some o->H b=none->∃sl,h'.get? b=some {o with slots:=sl}) (free:∀b o,b∉ch->s.heap.get? b=some o->H b=none->H' b=none)
  (there:∀b o,b∉ch->s.heap.get? b=some o->∃o',h'.get? b=some o')
  (tups:∀b xs,H b=some (.tup xs)->H' b=some (.tup xs)) (frzs:∀b o u,H b=some (.frz o u)->H' b=some (.frz o u)) (tbls:∀b ps,H b=some (.tbl ps)->∃more,H' b=some (.tbl (ps++more)))
  (ns:∀m,s.heap.Ns X.env.locals m->h'.Ns X.env.locals m) (hok:HOk X.prog X.w H' h') (hg:AllBare g') :
  Inv X pins σ H' {s with heap:=h',gens:=g',drawn:=d',toks:=t'}:=by
 have neL:∀b o,X.s₀.heap.get? b=some o->b≠X.env.locals:=fun b o e=>xbu (xbc (xbh e) I.ok.above)
 have neC:∀b o,X.s₀.heap.get? b=some o->b∉X.ex->b∉ch:=fun b o e hx hb=>by
  rcases (hch b hb).1 with z | z
  ·exact hx z
  ·exact absurd (xbc (xbh e) z) (xen _)
 have cellK:∀x c,X.env.cells.lookup x=some c->∀v,s.heap.IsCell c v->h'.IsCell c v:=fun x c e v hq0=>by
  obtain ⟨o,ho,hd⟩:=hq0;have nch:c∉ch:=fun z=>(hch c z).2.2.1 x c e rfl
  by_cases hc:c∈X.fs
  ·obtain ⟨sl,q⟩:=slot c o (I.cne x c e) hc nch ho (I.freeC x c e);exact ⟨_,q,hd⟩
  ·exact ⟨o,keep c o (I.cne x c e) hc nch ho (I.freeC x c e),hd⟩
 refine ⟨I.ok,I.os,hg,⟨fun b o e n hb hx=>?_,fun b o e n hb hx=>?_,fun b o e n hx=>?_,fun b o e hx=>?_,fun b xs e=>tups b xs (I.base.tups b xs e),fun b o xs e=>frzs b o xs (I.base.frzs b o xs e),fun b ps e=>?_⟩,?_,fun x c e=>?_,?_,fun x c e=>?_,fun p hp=>?_,hok,I.len,I.hnd.map frzs⟩
 ·exact keep b o (neL b o e) hb (neC b o e hx) (I.base.keep b o e n hb hx) (I.base.free b o e n hx)
 ·obtain ⟨sl,e1⟩:=I.base.slot b o e n hb hx;obtain ⟨sl',e2⟩:=slot b _ (neL b o e) hb (neC b o e hx) e1 (I.base.free b o e n hx);exact ⟨sl',e2⟩
 ·obtain ⟨o',e1⟩:=I.base.there b o e hx;exact free b o' (neC b o e hx) e1 (I.base.free b o e n hx)
 ·obtain ⟨o',e1⟩:=I.base.there b o e hx;exact there b o' (neC b o e hx) e1
 ·obtain ⟨m1,e1⟩:=I.base.tbls b ps e;obtain ⟨m2,e2⟩:=tbls b _ e1;exact ⟨m1++m2,by rw[e2,Array.append_assoc]⟩
 ·obtain ⟨m,hn,hl⟩:=I.loc;refine ⟨m,ns m hn,fun i x v e1 e2 e3=>?_⟩;obtain ⟨u,r,l⟩:=hl i x v e1 e2 e3;refine ⟨u,r,?_⟩;rcases l with l | ⟨k,c,e,z⟩
  ·exact .inl l
  ·exact .inr ⟨k,c,e,cellK x c e _ z⟩
 ·obtain ⟨v,z⟩:=I.cell x c e;exact ⟨v,cellK x c e v z⟩
 ·obtain ⟨m,⟨o,_,_,ho,_⟩,_⟩:=I.loc;exact free _ o (fun z=>(hch _ z).2.1 rfl) ho I.free
 ·obtain ⟨v,o,ho,hd⟩:=I.cell x c e;exact free c o (fun z=>(hch c z).2.2.1 x c e rfl) ho (I.freeC x c e)
 ·obtain ⟨e,n,ne,nf,d⟩:=I.pin p hp;have nch:p.1∉ch:=fun z=>(hch p.1 z).2.2.2 p hp rfl
  exact ⟨keep p.1 p.2 ne nf nch e n,free p.1 p.2 nch e n,ne,nf,d⟩
theorem Inv.un {t':Nat} (I:Inv X pins σ H s) (u:Un X.fs [] H H' s.heap h') (hok:HOk X.prog X.w H' h'):Inv X pins σ H' {s with heap:=h',toks:=t'}:=by
 obtain ⟨m,⟨o,es,ep,ho,r⟩,_⟩:=id I.loc;obtain ⟨sl,hL⟩:=u.any ho I.free (by simp)
 exact I.step (g':=s.gens) (d':=s.drawn) (ch:=[]) (fun _ z=>nomatch z) (fun b o _ hb _ e n=>u.keep b o e n hb (by simp)) (fun b o _ hb _ e n=>u.slot b o e n hb (by simp)) (fun b o _ e n=>u.free b o e n (by simp)) (fun b o _ e=>u.there b o e (by simp)) u.tups u.frzs u.tbls (fun m' hm=>by
  obtain ⟨o',es',ep',ho',r'⟩:=hm;rw[ho] at ho';cases ho'
  exact ⟨_,es',ep',hL,r'⟩) hok I.bare
theorem Inv.call {g':Array GenState} {t':Nat} {d':Drawn} {ch:List Addr} (I:Inv X pins σ H s) (u:Un (frs X.stack) ch H H' s.heap h') (hok:HOk X.prog X.w H' h') (hg:AllBare g')
  (hch:∀b∈ch,(b∈X.ex\/X.s₀.heap.objs.size<=b)/\b≠X.env.locals/\(∀x c,X.env.cells.lookup x=some c->c≠b)/\∀p∈X.pn++pins,p.1≠b) :
  Inv X pins σ H' {s with heap:=h',gens:=g',drawn:=d',toks:=t'}:=by
 obtain ⟨m,⟨o,es,ep,ho,r⟩,_⟩:=id I.loc;obtain ⟨sl,hL⟩:=u.any ho I.free fun z=>(hch _ z).2.1 rfl
 exact I.step (ch:=ch) hch (fun b o hL hb hc e n=>u.keep b o e n (fun z=>(xcc.mp (I.stkSub b z)).elim hL hb) hc) (fun b o _ _ hc e n=>u.any e n hc) (fun b o hc e n=>u.free b o e n hc) (fun b o hc e=>u.there b o e hc) u.tups u.frzs u.tbls (fun m' hm=>by
  obtain ⟨o',es',ep',ho',r'⟩:=hm;rw[ho] at ho';cases ho'
  exact ⟨_,es',ep',hL,r'⟩) hok hg
theorem Inv.turned {t':Nat} {it:Addr} (I:Inv X pins σ H s) (k:∀b o,b≠it->s.heap.get? b=some o->h'.get? b=some o) (hn:H it=none) (hL:it≠X.env.locals)
  (h1:it∈X.ex\/X.s₀.heap.objs.size<=it) (h2:∀x c,X.env.cells.lookup x=some c->c≠it) (h3:∀p∈X.pn++pins,p.1≠it):Inv X pins σ H {s with heap:=h',toks:=t'}:=by
 have nit:∀b u,H b=some u->b≠it:=fun b u e z=>by rw[z,hn] at e;cases e
 refine I.step (g':=s.gens) (d':=s.drawn) (ch:=[it]) (fun b hb=>?_) (fun b o _ _ hc e _=>k b o (fun z=>hc (by simp[z])) e) (fun b o _ _ hc e _=>⟨o.slots,k b o (fun z=>hc (by simp[z])) e⟩) (fun _ _ _ _ n=>n)
  (fun b o hc e=>⟨o,k b o (fun z=>hc (by simp[z])) e⟩) (fun _ _ e=>e) (fun _ _ _ e=>e) (fun b ps e=>⟨#[],by rw[e];simp⟩) (fun m hm=>?_) (fun b u e=>?_) I.bare
 ·have e:b=it:=by simpa using hb
  subst e;exact ⟨h1,hL,h2,h3⟩
 ·obtain ⟨o,es,ep,ho,r⟩:=hm;exact ⟨o,es,ep,k _ o (xeg hL) ho,r⟩
 ·refine (I.hok b u e).stay (fun c v hc q=>k c v ?_ q) (fun _ q=>q) fun _ _ q=>q
  rcases hc with z | z
  ·rw[z];exact nit b u e
  ·exact nit c _ z
theorem Inv.tok (I:Inv X pins σ H s) (t:Nat):Inv X pins σ H {s with toks:=t}:=I.un (h':=s.heap) (t':=t) Un.refl I.hok
theorem Inv.kept {t':Nat} (I:Inv X pins σ H s) (k:∀b u,s.heap.get? b=some u->h'.get? b=some u):Inv X pins σ H {s with heap:=h',toks:=t'}:=I.un (Un.kept k) (I.hok.kept k)
theorem Inv.laid {a:Addr} {o:HO} {t':Nat} (I:Inv X pins σ H s) (k:∀b u,s.heap.get? b=some u->h'.get? b=some u) (hp:s.heap.objs.size<=a) (new:ObjOk X.prog X.w (upd H a o) h' a o) :
 Inv X pins σ (upd H a o) {s with heap:=h',toks:=t'}:=I.un (Un.laid k hp (I.hok.fresh hp)) (I.hok.laid k hp new)
theorem Inv.write {x e:Addr} {o:HO} {t':Nat} (I:Inv X pins σ H s) (mu:Mut (H x)) (he:e=x\/H e=some (.own x)) (k:∀b u,b≠e->s.heap.get? b=some u->h'.get? b=some u) (heo:∃u,h'.get? e=some u)
 (new:ObjOk X.prog X.w (upd H x o) h' x o):Inv X pins σ (upd H x o) {s with heap:=h',toks:=t'}:=I.un (Un.write mu he k heo) (I.hok.write mu he k heo new)
theorem Inv.pins_of {pins':List (Addr × Obj)} (I:Inv X pins σ H s) (h:∀p∈pins',s.heap.get? p.1=some p.2/\H p.1=none/\p.1≠X.env.locals/\p.1∉X.fs/\∀v,p.2.data≠.cell v):Inv X pins' σ H s :=
 ⟨I.ok,I.os,I.bare,I.base,I.loc,I.cell,I.free,I.freeC,fun p hp=>(xco.mp hp).elim (fun z=>I.pin p (xfp _ z)) (h p),I.hok,I.len,I.hnd⟩
theorem zjy {N:List Str} (hN:N.Nodup) {i j:Nat} {x:Str} (a:N[i]?=some x) (b:N[j]?=some x):i=j:=by
 obtain ⟨h1,e1⟩:=xbn.mp a;obtain ⟨h2,e2⟩:=xbn.mp b;exact (List.getElem_inj hN).mp (e1.trans e2.symm)
theorem zhr {M:Model} {A:Around} {E:Value->Shared->Prop} {i:Nat} {x:Str} {v:V} {u:Value} {Q:Unit->Shared->Prop} (I:Inv X pins σ H s) (hN:X.N.Nodup) (hi:X.N[i]?=some x) (hx:Loc X.env.scope x) (r:RelV v u)
  (h:∀s',Inv X pins (σ.set i (some v)) H s'->(∃a,Heap.SameBut a s.heap s'.heap/\(a=X.env.locals\/X.env.cells.lookup x=some a))->Q () s') (hf:X.fn x=true\/X.env.scope.names.lookup x=some .local:=by first | exact .inl rfl | exact .inr rfl | assumption):wpAny M A (storeName X.env x u) Q E s:=by
 obtain ⟨m,hn,hl⟩:=id I.loc;have hcls:(X.env.scope.kind == .class || (X.env.scope.kind == .module && X.env.locals != X.env.globals))=false:=by rw[I.ok.kind];rfl
 have hiσ:i < σ.length:=by rw[I.len];exact (xbn.mp hi).1
 have cne:=I.cne;have tracked:∀{a:Addr} {h':Heap},(∃o,s.heap.get? a=some o/\H a=none)->Heap.SameBut a s.heap h'->HOk X.prog X.w H h':=fun {a h'} ha hs b ob e=>by
  obtain ⟨_,_,hfree⟩:=ha;refine (I.hok b ob e).stay (fun c w' hc q=>(hs.2 c ?_).trans q) (fun _ q=>q) fun _ _ q=>q
  rintro rfl;rcases hc with rfl | hc
  ·rw[hfree] at e;cases e
  ·rw[hfree] at hc;cases hc
 rcases hx with hk | hk
 ·refine wpAny_storeName_local hk hn (fun h' hn' hs=>?_) hcls;obtain ⟨oL,_,_,hoL,_⟩:=id hn;refine h _ ⟨I.ok,I.os,I.bare,⟨fun b o e n hb hx=>?_,fun b o e n hb hx=>?_,I.base.free,fun b o e hx=>?_,I.base.tups,I.base.frzs,I.base.tbls⟩,⟨_,hn',fun j y v' e1 e2 e3=>?_⟩,fun y c e=>?_,I.free,I.freeC,fun p hp=>?_,tracked ⟨oL,hoL,I.free⟩ hs,by simpa using I.len,I.hnd⟩ ⟨_,hs,.inl rfl⟩
  ·exact (hs.2 b (xbu (xbc (xbh e) I.ok.above))).trans (I.base.keep b o e n hb hx)
  ·obtain ⟨sl,e1⟩:=I.base.slot b o e n hb hx;exact ⟨sl,(hs.2 b (xbu (xbc (xbh e) I.ok.above))).trans e1⟩
  ·obtain ⟨o',e1⟩:=I.base.there b o e hx;exact ⟨o',(hs.2 b (xbu (xbc (xbh e) I.ok.above))).trans e1⟩
  ·by_cases hj:j=i
   ·subst hj;rw[hi] at e1;cases e1
    rw[xdj hiσ] at e2;cases e2;exact ⟨u,r,.inl ⟨hk,by simp⟩⟩
   ·rw[xcw (xeg hj)] at e2;obtain ⟨u',r',q⟩:=hl j y v' e1 e2 e3;refine ⟨u',r',?_⟩;rcases q with ⟨k,e⟩ | ⟨k,c,e,z⟩
    ·refine .inl ⟨k,?_⟩;have:y≠x:=fun e=>hj (zjy hN e1 (e ▸ hi))
     simp[this,e]
    ·exact .inr ⟨k,c,e,z.sameBut hs (cne y c e)⟩
  ·obtain ⟨w',z⟩:=I.cell y c e;exact ⟨w',z.sameBut hs (cne y c e)⟩
  ·obtain ⟨e,n,ne,nf,d⟩:=I.pin p hp;exact ⟨(hs.2 p.1 ne).trans e,n,ne,nf,d⟩
 ·have hfn:X.fn x=true:=by
   rcases hf with z | z
   ·exact z
   ·rw[z] at hk;cases hk
  obtain ⟨c,hc⟩:=I.ok.has x (.inl hk);obtain ⟨w',z⟩:=I.cell x c hc;refine wpAny_storeName_cell I.ok.kind hk hc z (fun h' hc' hs=>?_);obtain ⟨oc,hoc,hocd⟩:=id z;refine h {s with heap:=h'} ⟨I.ok,I.os,I.bare,⟨fun b o e n hb hx=>?_,fun b o e n hb hx=>?_,I.base.free,fun b o e hx=>?_,I.base.tups,I.base.frzs,I.base.tbls⟩,⟨m,hn.sameBut hs (xeg (cne x c hc)),fun j y v' e1 e2 e3=>?_⟩,fun y c' e=>?_,I.free,I.freeC,fun p hp=>?_,tracked ⟨oc,hoc,I.freeC x c hc⟩ hs,by simpa using I.len,I.hnd⟩ ⟨c,hs,.inr hc⟩
  ·exact (hs.2 b (xbu (xbc (xbh e) (I.ok.cab x c hfn hc)))).trans (I.base.keep b o e n hb hx)
  ·obtain ⟨sl,e1⟩:=I.base.slot b o e n hb hx;exact ⟨sl,(hs.2 b (xbu (xbc (xbh e) (I.ok.cab x c hfn hc)))).trans e1⟩
  ·obtain ⟨o',e1⟩:=I.base.there b o e hx;exact ⟨o',(hs.2 b (xbu (xbc (xbh e) (I.ok.cab x c hfn hc)))).trans e1⟩
  ·by_cases hj:j=i
   ·subst hj;rw[hi] at e1;cases e1
    rw[xdj hiσ] at e2;cases e2;exact ⟨u,r,.inr ⟨.inl hk,c,hc,hc'⟩⟩
   ·rw[xcw (xeg hj)] at e2;obtain ⟨u',r',q⟩:=hl j y v' e1 e2 e3;refine ⟨u',r',?_⟩;rcases q with q | ⟨k,c',e,z'⟩
    ·exact .inl q
    ·refine .inr ⟨k,c',e,z'.sameBut hs ?_⟩;rintro rfl;exact hj (zjy hN e1 (I.ok.inj _ _ _ e hc ▸ hi))
  ·by_cases hcc:c'=c
   ·subst hcc;exact ⟨_,hc'⟩
   ·obtain ⟨w2,z2⟩:=I.cell y c' e;exact ⟨w2,z2.sameBut hs hcc⟩
  ·obtain ⟨e,n,ne,nf,d⟩:=I.pin p hp;refine ⟨(hs.2 p.1 ?_).trans e,n,ne,nf,d⟩;intro q;rw[q,hoc] at e;have q':oc=p.2:=xca e;exact d w' (by rw[← q'];exact hocd)
theorem zgw {M:Model} {A:Around} {E:Value->Shared->Prop} {i:Nat} {x:Str} {v:V} {u:Value} {Q:Unit->Shared->Prop} (I:Inv X pins σ H s) (hN:X.N.Nodup) (hi:X.N[i]?=some x) (hx:Loc X.env.scope x) (r:RelV v u)
  (h:∀s',Inv X pins (σ.set i (some v)) H s'->Q () s') (hf:X.fn x=true\/X.env.scope.names.lookup x=some .local:=by first | exact .inl rfl | exact .inr rfl | assumption):wpAny M A (storeName X.env x u) Q E s :=
 zhr I hN hi hx r (fun s' I' _=>h s' I') hf
theorem Inv.call' {s':Shared} {ch:List Addr} (I:Inv X pins σ H s) (ho:s'.os=s.os) (u:Un (frs X.stack) ch H H' s.heap s'.heap) (hok:HOk X.prog X.w H' s'.heap) (hg:AllBare s'.gens)
  (hch:∀b∈ch,(b∈X.ex\/X.s₀.heap.objs.size<=b)/\b≠X.env.locals/\(∀x c,X.env.cells.lookup x=some c->c≠b)/\∀p∈X.pn++pins,p.1≠b):Inv X pins σ H' s':=by
 obtain ⟨h',g',d',t',o'⟩:=s';have e:o'=s.os:=ho;subst e;exact I.call (g':=g') (t':=t') (d':=d') u hok hg hch
end
noncomputable abbrev XK:=Value->Option Addr->Hp->Prop
noncomputable abbrev St:=List (Option V)
noncomputable abbrev VK:=V->Hp->Prop
noncomputable abbrev TE:=St->Hp->VK->Prop
noncomputable abbrev TT:=St->Hp->(Bool->Hp->Prop)->Prop
noncomputable abbrev TA:=St->Hp->(List V->Hp->Prop)->Prop
structure Ends where
 nx:St->Hp->Prop
 rt:VK
 bk:St->Hp->Prop:=fun _ _=>False
 ct:St->Hp->Prop:=fun _ _=>False
noncomputable abbrev TS:=Ends->St->Hp->Prop
noncomputable def EP (X:Cx) (pins:List (Addr × Obj)) (σ:St) (Q:VK) (u:Value) (s':Shared):Prop:=∃v H',Inv X pins σ H' s'/\RelV v u/\Q v H'
noncomputable def TP (X:Cx) (pins:List (Addr × Obj)) (σ:St) (Q:Bool->Hp->Prop) (b:Bool) (s':Shared):Prop:=∃H',Inv X pins σ H' s'/\Q b H'
noncomputable def AP (X:Cx) (pins:List (Addr × Obj)) (σ:St) (Q:List V->Hp->Prop) (us:List Value) (s':Shared):Prop:=∃vs H',Inv X pins σ H' s'/\Vals vs us/\Q vs H'
noncomputable def SP (X:Cx) (pins:List (Addr × Obj)) (D:Ends) (f:Flow) (s':Shared):Prop :=
 match f with
 | .next=>∃σ' H',Inv X pins σ' H' s'/\D.nx σ' H'
 | .brk=>∃σ' H',Inv X pins σ' H' s'/\D.bk σ' H'
 | .cont=>∃σ' H',Inv X pins σ' H' s'/\D.ct σ' H'
 | .ret u=>∃v σ' H',Inv X pins σ' H' s'/\RelV v u/\D.rt v H'
noncomputable def PE (X:Cx) (e:Expr) (t:TE):Prop :=
 ∀(pins:List (Addr × Obj)) (s:Shared) (σ:St) (H:Hp) (Q:VK),Inv X pins σ H s->t σ H Q->wpAny (model X.prog X.w) X.A (eval e X.env) (EP X pins σ Q) X.xe s
noncomputable def PT (X:Cx) (e:Expr) (t:TT):Prop :=
 ∀(pins:List (Addr × Obj)) (s:Shared) (σ:St) (H:Hp) (Q:Bool->Hp->Prop),Inv X pins σ H s->t σ H Q->wpAny (model X.prog X.w) X.A (isTrue e X.env (eval e X.env)) (TP X pins σ Q) X.xe s
noncomputable def PW (X:Cx) (e:Expr) (t:TT):Prop :=
 ∀(whole:Sem Value) (pins:List (Addr × Obj)) (s:Shared) (σ:St) (H:Hp) (Q:Bool->Hp->Prop),Inv X pins σ H s->t σ H Q->wpAny (model X.prog X.w) X.A (isTrue e X.env whole) (TP X pins σ Q) X.xe s
theorem PW.pt {X:Cx} {e:Expr} {t:TT} (h:PW X e t):PT X e t:=h _
noncomputable def PA (X:Cx) (es:List Expr) (t:TA):Prop :=
 ∀(pos:Pos) (pins:List (Addr × Obj)) (s:Shared) (σ:St) (H:Hp) (Q:List V->Hp->Prop),Inv X pins σ H s->t σ H Q->wpAny (model X.prog X.w) X.A (spliced (backTo pos (starEach es X.env))) (AP X pins σ Q) X.xe s
noncomputable def PS (X:Cx) (st:Stmt) (t:TS):Prop :=
 ∀(pins:List (Addr × Obj)) (s:Shared) (σ:St) (H:Hp) (D:Ends),Inv X pins σ H s->t D σ H->wpAny (model X.prog X.w) X.A (exec st X.env) (SP X pins D) X.xe s
noncomputable def PSs (X:Cx) (st:List Stmt) (t:TS):Prop :=
 ∀(pins:List (Addr × Obj)) (s:Shared) (σ:St) (H:Hp) (D:Ends),Inv X pins σ H s->t D σ H->wpAny (model X.prog X.w) X.A (execs st X.env) (SP X pins D) X.xe s
theorem thn {α:Type} {t:Sem α} {Q Q':α->Shared->Prop} {M:Model} {A:Around} {E:Value->Shared->Prop} {s:Shared} (h:wpAny M A t Q E s) (hQ:∀a s,Q a s->Q' a s):wpAny M A t Q' E s:=xdi h hQ fun _ _ x=>x
section
variable {X:Cx}
noncomputable def tVar (i:Nat):TE:=fun σ H Q=>∃v,σ[i]?=some (some v)/\Q v H
noncomputable def tC (v:V):TE:=fun _ H Q=>Q v H
theorem zwi {i : Nat} {x : Str} {pos : Pos} (hN : X.N[i]? = some x) (hv : Vis X.env.scope x) (hd : (x == ("__debug__" : Str)) = false := by decide) (hcd : (x == ("__classdict__" : Str)) = false := by decide) : PE X (.Name x pos) (tVar i) := by
 intro pins s σ H Q I h;obtain ⟨v,e,h⟩:=h;obtain ⟨m,hn,hl⟩:=I.loc;obtain ⟨u,r,l⟩:=hl i x v hN e hv;have fin:EP X pins σ Q u s:=⟨v,H,I,r,h⟩
 rcases l with ⟨hk,hm⟩ | ⟨hk,c,hc,hcell⟩
 ·exact wpAny_Name (wpAny_loadName_local I.ok.kind hk hn hm fin) hd
 ·rcases hk with hk | hk
  ·exact wpAny_Name (wpAny_loadName_cell I.ok.kind hk hc hcell fin) hd
  ·exact wpAny_Name (wpAny_loadName_free I.ok.kind hk hc hcell fin hcd) hd
theorem zwp {i j pos}:PE X (.Constant (.int i) j pos) (tC (.int i)):=fun _ _ _ H _ I h=>wpAny_Constant_int ⟨.int i,H,I.tok _,⟨_,rfl⟩,h⟩
theorem zbaq {b j pos}:PE X (.Constant (.bool b) j pos) (tC (.bl b)):=fun _ _ _ H _ I h=>Constant_bool ⟨.bl b,H,I,rfl,h⟩
theorem zwn {j pos}:PE X (.Constant .none j pos) (tC .non):=fun _ _ _ H _ I h=>Constant_none ⟨.non,H,I,rfl,h⟩
theorem zwk {x j pos}:PE X (.Constant (.str x) j pos) (tC (.str x)):=fun _ _ _ H _ I h=>Calls.Constant_str ⟨.str x,H,I.tok _,⟨_,rfl⟩,h⟩
noncomputable def Gl (X:Cx) (x:Str):Prop:=X.env.kindOf x=some .globalImplicit
theorem zff {E:Value->Shared->Prop} {pins:List (Addr × Obj)} {s:Shared} {σ:St} {H:Hp} {x:Str} {u:Value} {pos:Pos} {Q:Value->Shared->Prop} (I:Inv X pins σ H s) (hg:Gl X x) (hm:X.mg x=some u) (h:Q u s)
  (hd : (x == ("__debug__" : Str)) = false := by decide) : wpAny (model X.prog X.w) X.A (eval (.Name x pos) X.env) Q E s :=
 xgs I.ok.kind hg (Calls.loadGlobal_global (by rw[I.ok.glob];exact I.mod.glob.keeps I.bk) hm h) hd
theorem zke {E:Value->Shared->Prop} {pins:List (Addr × Obj)} {s:Shared} {σ:St} {H:Hp} {x:Str} {u:Value} {pos:Pos} {Q:Value->Shared->Prop} (I:Inv X pins σ H s) (hg:Gl X x) (hm:X.mg x=none) (hv:bootBuiltins x=some u) (h:Q u s)
  (hn : x ≠ "__name__" := by decide) (hd : (x == ("__debug__" : Str)) = false := by decide) : wpAny (model X.prog X.w) X.A (eval (.Name x pos) X.env) Q E s := by
 obtain ⟨mb,h1,h2⟩:=I.mod.blt;exact xgs I.ok.kind hg (Calls.loadGlobal_builtin (by rw[I.ok.glob];exact I.mod.glob.keeps I.bk) hm (by rw[I.ok.blt];exact h1.keeps I.bk) ((h2 x hn).trans hv) h) hd
theorem zbm {x : Str} {v : V} {u : Value} {pos : Pos} (hg : Gl X x) (hm : X.mg x = some u) (r : RelV v u) (hd : (x == ("__debug__" : Str)) = false := by decide) : PE X (.Name x pos) (tC v) :=
 fun _ _ _ H _ I h=>zff I hg hm ⟨v,H,I,r,h⟩ hd
theorem zeh {x : Str} {v : V} {u : Value} {pos : Pos} (hg : Gl X x) (hm : X.mg x = none) (hv : bootBuiltins x = some u) (r : RelV v u) (hn : x ≠ "__name__" := by decide) (hd : (x == ("__debug__" : Str)) = false := by decide) : PE X (.Name x pos) (tC v) :=
 fun _ _ _ H _ I h=>zke I hg hm hv ⟨v,H,I,r,h⟩ hn hd
variable {a b:Expr} {ta tb:TE} {pos:Pos}
variable {tA tB':TT} {rest:List Expr}
noncomputable def tOr (t u:TT):TT:=fun σ H Q=>t σ H fun c H1=>if c=true then Q true H1 else u σ H1 Q
noncomputable def tNot (t:TT):TT:=fun σ H Q=>t σ H fun c H1=>Q (!c) H1
theorem pw_and1 (ha:PT X a tA):PW X (.BoolOp .And [a] pos) tA:=by
 intro wh pins s σ H Q I h;refine isTrue_and (thn (ha pins s σ H Q I h) fun c s1 e=>?_);cases c with
 | true=>exact isTrue_and_nil e
 | false=>exact e
theorem pw_or1 (ha:PT X a tA):PW X (.BoolOp .Or [a] pos) tA:=by
 intro wh pins s σ H Q I h;refine isTrue_or (thn (ha pins s σ H Q I h) fun c s1 e=>?_);cases c with
 | false=>exact isTrue_or_nil e
 | true=>exact e
theorem pw_or (ha:PT X a tA) (hb:PW X (.BoolOp .Or (b::rest) pos) tB'):PW X (.BoolOp .Or (a::b::rest) pos) (tOr tA tB'):=by
 intro wh pins s σ H Q I h;refine isTrue_or (thn (ha pins s σ H _ I h) fun c s1 hq0=>?_);obtain ⟨H1,I1,q1⟩:=hq0;cases c with
 | true=>exact ⟨H1,I1,q1⟩
 | false=>exact hb wh pins s1 σ H1 Q I1 q1
theorem zwb (ha:PT X a tA):PT X (.UnaryOp .Not a pos) (tNot tA):=by
 intro pins s σ H Q I h;exact isTrue_not (ha pins s σ H (fun c H1=>Q (!c) H1) I h)
noncomputable def tAndV (ta tb:TE):TE:=fun σ H Q=>ta σ H fun x H1=>∃c,x=.bl c/\if c=true then tb σ H1 Q else Q (.bl false) H1
noncomputable def tNotV (ta:TE):TE:=fun σ H Q=>ta σ H fun x H1=>∃c,x=.bl c/\Q (.bl (!c)) H1
theorem zwl {op} {t:TE} (h:PE X a t):PE X (.BoolOp op [a] pos) t:=fun pins s σ H Q I hw=>BoolOp_one (h pins s σ H Q I hw)
theorem zwr (ha:PE X a ta) (hb:PE X (.BoolOp .And (b::rest) pos) tb):PE X (.BoolOp .And (a::b::rest) pos) (tAndV ta tb):=by
 intro pins s σ H Q I h;refine BoolOp_and (thn (ha pins s σ H _ I h) fun v s1 hq0=>?_);obtain ⟨x,H1,I1,r1,q1⟩:=hq0;obtain ⟨c,rfl,q1⟩:=q1;cases r1;refine xdw ?_;cases c with
 | true=>exact hb pins s1 σ H1 Q I1 q1
 | false=>exact ⟨.bl false,H1,I1,rfl,q1⟩
theorem zwm (ha:PE X a ta):PE X (.UnaryOp .Not a pos) (tNotV ta):=by
 intro pins s σ H Q I h;refine UnaryOp_ (thn (ha pins s σ H _ I h) fun v s1 hq0=>?_);obtain ⟨x,H1,I1,r1,q1⟩:=hq0;obtain ⟨c,rfl,q1⟩:=q1;cases r1;exact not_of (xdw ⟨.bl (!c),H1,I1,rfl,q1⟩)
end
noncomputable def SqL (K:Fg) (H:Hp) (a:Addr) (xs:List V):Prop :=
 Rd H a (.lst xs) \/
  ∃ (o : Obj) (its : Array Value) (n : Nat), K.lookup a = some o /\ o.cls = .type "list" /\ o.dict = none /\ o.data = .seq its n /\ its.size <= sizeLine /\ Vals xs its.toList
noncomputable def SqT (K:Fg) (H:Hp) (a:Addr) (xs:List V):Prop :=
 Rd H a (.tup xs) \/
  ∃ (o : Obj) (its : Array Value) (n : Nat), K.lookup a = some o /\ o.cls = .type "tuple" /\ o.data = .seq its n /\ its.size <= sizeLine /\ Vals xs its.toList
noncomputable def absV:Value->Option V
 | .none=>some .non
 | .bool b=>some (.bl b)
 | .int i _=>some (.int i)
 | .str x _=>some (.str x)
 | .bytes b _=>some (.byt b)
 | .float b _=>some (.flt b)
 | .ref a=>some (.ref a)
 | .type n=>some (.ty n)
 | _=>none
theorem RelV.abs {x:V} {u:Value} (r:RelV x u):absV u=some x:=by
 cases x with
 | non=>cases r;rfl
 | bl _=>cases r;rfl
 | int _=>obtain ⟨t,rfl⟩:=r;rfl
 | str _=>obtain ⟨t,rfl⟩:=r;rfl
 | byt _=>obtain ⟨t,rfl⟩:=r;rfl
 | flt _=>obtain ⟨t,rfl⟩:=r;rfl
 | ref _=>cases r;rfl
 | ty _=>cases r;rfl
theorem RelV.inj {x y:V} {u:Value} (r:RelV x u) (q:RelV y u):x=y:=xca (r.abs.symm.trans q.abs)
theorem Vals.inj:∀{xs ys:List V} {us:List Value},Vals xs us->Vals ys us->xs=ys
 | _,_,_,.nil,.nil=>rfl
 | _,_,_,.cons r t,.cons r' t'=>by rw[r.inj r',Vals.inj t t']
section
variable {X:Cx} {pins:List (Addr × Obj)} {σ:St} {H:Hp} {s:Shared} {a:Addr} {xs ys:List V}
theorem SqL.of {K:Fg} (h:H a=some (.lst xs)):SqL K H a xs:=.inl (.inl h)
theorem SqT.of {K:Fg} (h:H a=some (.tup xs)):SqT K H a xs:=.inl (.inl h)
theorem Inv.list (I:Inv X pins σ H s) (h:SqL X.K H a xs):∃its:List Value,Vals xs its/\PlainL s.heap a its.toArray/\xs.length<=sizeLine:=by
 rcases h with h | ⟨o,its,n,hk,hc,hd,hs,hz,r⟩
 ·obtain ⟨z,its,n,r,e⟩:=h.ok I.hok;exact ⟨its,r,⟨_,n,e,rfl,rfl,rfl⟩,z⟩
 ·refine ⟨its.toList,r,⟨o,n,I.kIn a o hk,hc,hd,by simpa using hs⟩,?_⟩;have e:=r.length;simp only[xbz] at e;lia
theorem Inv.tuple (I:Inv X pins σ H s) (h:SqT X.K H a xs):∃its:List Value,Vals xs its/\IsTup s.heap a its.toArray/\xs.length<=sizeLine:=by
 rcases h with h | ⟨o,its,n,hk,hc,hs,hz,r⟩
 ·obtain ⟨z,its,r,p⟩:=h.ok I.hok;exact ⟨its,r,p,z⟩
 ·refine ⟨its.toList,r,⟨o,I.kIn a o hk,hc,n,by simpa using hs⟩,?_⟩;have e:=r.length;simp only[xbz] at e;lia
theorem Inv.list_inj (I:Inv X pins σ H s) (h:SqL X.K H a xs) (h':SqL X.K H a ys):xs=ys:=by
 obtain ⟨its,r,⟨o,n,e,_,_,d⟩,_⟩:=I.list h;obtain ⟨its',r',⟨o',n',e',_,_,d'⟩,_⟩:=I.list h';rw[e] at e';cases e'
 rw[d] at d';injection d' with d1 _
 have:its=its':=by simpa using congrArg Array.toList d1
 subst this;exact r.inj r'
theorem Inv.tuple_inj (I:Inv X pins σ H s) (h:SqT X.K H a xs) (h':SqT X.K H a ys):xs=ys:=by
 obtain ⟨its,r,⟨o,e,_,n,d⟩,_⟩:=I.tuple h;obtain ⟨its',r',⟨o',e',_,n',d'⟩,_⟩:=I.tuple h';rw[e] at e';cases e'
 rw[d] at d';injection d' with d1 _
 have:its=its':=by simpa using congrArg Array.toList d1
 subst this;exact r.inj r'
end
noncomputable abbrev Cx.wish (X:Cx) (E:Value->Shared->Prop):Cx:={X with xe:=E}
noncomputable abbrev Cx.nox (X:Cx):Cx:=X.wish fun _ _=>False
theorem Cx.Ok.wish {X:Cx} (ok:X.Ok) (E:Value->Shared->Prop):(X.wish E).Ok :=
 ⟨ok.mod,ok.kind,ok.glob,ok.blt,ok.above,ok.inj,ok.has,ok.cab,ok.hd,ok.frames,ok.stk,ok.exf,ok.bs,ok.bsz,ok.noex,ok.exfs,ok.funs,ok.frf⟩
theorem Cx.Ok.unwish {X:Cx} {E:Value->Shared->Prop} (ok:(X.wish E).Ok):X.Ok :=
 ⟨ok.mod,ok.kind,ok.glob,ok.blt,ok.above,ok.inj,ok.has,ok.cab,ok.hd,ok.frames,ok.stk,ok.exf,ok.bs,ok.bsz,ok.noex,ok.exfs,ok.funs,ok.frf⟩
section
variable {X:Cx} {pins:List (Addr × Obj)} {σ:St} {H:Hp} {s:Shared} {E:Value->Shared->Prop}
theorem Inv.wish (I:Inv X pins σ H s) (E:Value->Shared->Prop):Inv (X.wish E) pins σ H s:=⟨I.ok.wish E,I.os,I.bare,I.base,I.loc,I.cell,I.free,I.freeC,I.pin,I.hok,I.len,I.hnd⟩
theorem Inv.unwish (I:Inv (X.wish E) pins σ H s):Inv X pins σ H s:=⟨I.ok.unwish,I.os,I.bare,I.base,I.loc,I.cell,I.free,I.freeC,I.pin,I.hok,I.len,I.hnd⟩
theorem SP.unwish {D:Ends} {f:Flow} {s':Shared} (h:SP (X.wish E) pins D f s'):SP X pins D f s':=by
 cases f with
 | next=>obtain ⟨σ',H',I,q⟩:=h;exact ⟨σ',H',I.unwish,q⟩
 | brk=>obtain ⟨σ',H',I,q⟩:=h;exact ⟨σ',H',I.unwish,q⟩
 | cont=>obtain ⟨σ',H',I,q⟩:=h;exact ⟨σ',H',I.unwish,q⟩
 | ret u=>obtain ⟨v,σ',H',I,r,q⟩:=h;exact ⟨v,σ',H',I.unwish,r,q⟩
theorem PSs.nox {st:List Stmt} {t:TS} (h:PSs X.nox st t):PSs X st t:=fun pins s σ H D I hw =>
 xdi (h pins s σ H D (I.wish _) hw) (fun _ _ q=>q.unwish) fun _ _ z=>False.elim z
end
section
variable {X:Cx} {st:Stmt} {rest:List Stmt} {t u:TS} {e:Expr} {te:TE} {pos:Pos}
noncomputable def tNext:TS:=fun D σ H=>D.nx σ H
noncomputable def tSeq (t u:TS):TS:=fun D σ H=>t {D with nx:=u D} σ H
theorem zsa:PSs X [] tNext:=fun _ _ σ H _ I h=>xhc ⟨σ,H,I,h⟩
theorem zhc (h1:PS X st t) (h2:PSs X rest u):PSs X (st::rest) (tSeq t u):=by
 intro pins s σ H D I h;refine wpAny_execs_cons (thn (h1 pins s σ H {D with nx:=u D} I h) fun f s1 q=>?_);cases f with
 | next =>
  obtain ⟨σ',H',I',q⟩:=q;exact h2 pins s1 σ' H' D I' q
 | ret v=>exact q
 | brk=>exact q
 | cont=>exact q
theorem zjs (h1:PS X st t):PSs X [st] t:=by
 intro pins s σ H D I h;refine wpAny_execs_cons (thn (h1 pins s σ H D I h) fun f s1 q=>?_);cases f with
 | next=>exact xhc q
 | ret v=>exact q
 | brk=>exact q
 | cont=>exact q
theorem Inv.quiet {pins:List (Addr × Obj)} {σ:St} {H:Hp} {s:Shared} (I:Inv X pins σ H s):interactive X.env=false:=by simp[interactive,I.ok.kind]
noncomputable def tDrop (te:TE):TS:=fun D σ H=>te σ H fun _ H1=>D.nx σ H1
theorem znm (he:PE X e te) (hs:swapsWith e none pos.line X.env=pure false:=by rfl):PS X (.Expr e pos) (tDrop te):=by
 intro pins s σ H D I h;exact wpAny_Expr_any (thn (he pins s σ H _ I h) fun v s1 ⟨x,H1,I1,r1,q1⟩=>⟨σ,H1,I1,q1⟩) I.quiet hs
noncomputable def tRet (te:TE):TS:=fun D σ H=>te σ H D.rt
theorem zwe (he:PE X e te):PS X (.Return (some e) pos) (tRet te):=by
 intro pins s σ H D I h;exact wpAny_Return_some (thn (he pins s σ H _ I h) fun v s1 ⟨x,H1,I1,r1,q1⟩=>⟨x,σ,H1,I1,r1,q1⟩)
noncomputable def tIfS (c:TT) (t u:TS):TS:=fun D σ H=>c σ H fun b H1=>if b=true then t D σ H1 else u D σ H1
theorem zzq {c:Expr} {a b:List Stmt} {tc:TT} (hc:PT X c tc) (ha:PSs X a t) (hb:PSs X b u):PS X (.If c a b pos) (tIfS tc t u):=by
 intro pins s σ H D I h;refine wpAny_If (thn (hc pins s σ H _ I h) fun d s1 hq0=>?_);obtain ⟨H1,I1,q1⟩:=hq0;cases d with
 | true=>exact ha pins s1 σ H1 D I1 q1
 | false=>exact hb pins s1 σ H1 D I1 q1
end
noncomputable abbrev TG:=V->St->Hp->(St->Hp->Prop)->Prop
noncomputable def PG (X:Cx) (target:Expr) (t:TG):Prop :=
 ∀(pins:List (Addr × Obj)) (s:Shared) (σ:St) (H:Hp) (v:V) (u:Value) (Q:St->Hp->Prop),Inv X pins σ H s->RelV v u->t v σ H Q ->
  wpAny (model X.prog X.w) X.A (assign target X.env u) (fun _ s'=>∃σ' H',Inv X pins σ' H' s'/\Q σ' H') X.xe s
noncomputable abbrev TSet:=V->V->V->Hp->(Hp->Prop)->Prop
noncomputable def PSet (X:Cx) (t:TSet):Prop :=
 ∀(pins:List (Addr × Obj)) (s:Shared) (σ:St) (H:Hp) (o i v:V) (ov iv u:Value) (Q:Hp->Prop),Inv X pins σ H s->RelV o ov->RelV i iv->RelV v u->t o i v H Q ->
  wpAny (model X.prog X.w) X.A (setItem ov iv u) (fun _ s'=>∃H',Inv X pins σ H' s'/\Q H') X.xe s
section
variable {X:Cx} {pos:Pos}
noncomputable def gName (i:Nat):TG:=fun v σ H Q=>Q (σ.set i (some v)) H
theorem zsh {i:Nat} {x:Str} (hN:X.N.Nodup) (hi:X.N[i]?=some x) (hx:Loc X.env.scope x) (hf:X.fn x=true\/X.env.scope.names.lookup x=some .local:=by first | exact .inl rfl | exact .inr rfl | assumption):PG X (.Name x pos) (gName i):=by
 intro pins s σ H v u Q I r h;exact wpAny_assign_Name (zgw I hN hi hx r (fun s' I'=>⟨_,H,I',h⟩) hf)
noncomputable def gSub (to ti:TE) (t:TSet):TG:=fun v σ H Q=>to σ H fun o H1=>ti σ H1 fun i H2=>t o i v H2 fun H3=>Q σ H3
theorem zwh {o i:Expr} {to ti:TE} {t:TSet} (ho:PE X o to) (hi:PE X i ti) (hs:PSet X t)
  (ha:∀v,assign (.Subscript o i pos) X.env v=(do
   let ov ← holding [v] (eval o X.env)
   let iv ← holding [v,ov] (eval i X.env)
   standAt pos
   holding [v,ov,iv] (setItem ov iv v)
   release [v,ov,iv] []):=by intro _;rfl):PG X (.Subscript o i pos) (gSub to ti t):=by
 intro pins s σ H v u Q I r h;rw[ha];refine xba (xef (thn (ho pins s σ H _ I h) fun ov s1 hq0=>?_));obtain ⟨x,H1,I1,r1,q1⟩:=hq0;refine xba (xef (thn (hi pins s1 σ H1 _ I1 q1) fun iv s2 hq0=>?_));obtain ⟨y,H2,I2,r2,q2⟩:=hq0;refine xba (wpAny_standAt (xba (xef (thn (hs pins s2 σ H2 x y v ov iv u _ I2 r1 r2 r q2) fun _ s3 hq0=>?_))));obtain ⟨H3,I3,q3⟩:=hq0;exact wpAny_release ⟨σ,H3,I3,q3⟩
noncomputable def tAsg (te:TE) (g:TG):TS:=fun D σ H=>te σ H fun x H1=>g x σ H1 D.nx
theorem zwf {tg e:Expr} {te:TE} {g:TG} (he:PE X e te) (hg:PG X tg g) (hs:swapsWithSole [tg] e pos.line X.env=pure false:=by rfl) (hw:swappedStores [tg] e X.env=pure none:=by rfl)
  (h1:(assignEach [tg] X.env).map (·.2)=[assign tg X.env]:=by rfl):PS X (.Assign [tg] e pos) (tAsg te g):=by
 intro pins s σ H D I h;refine wpAny_Assign_stores (thn (he pins s σ H _ I h) fun v s1 hq0=>?_) hs hw;obtain ⟨x,H1,I1,r1,q1⟩:=hq0;rw[h1];exact thn (hg pins s1 σ H1 x v _ I1 r1 q1) fun _ s2 q=>q
theorem zwd {i:Nat} {x:Str} {e:Expr} {te:TE} {pos':Pos} (hN:X.N.Nodup) (hi:X.N[i]?=some x) (hx:Loc X.env.scope x) (he:PE X e te) (hs:swapsWith e (some (.Name x pos')) pos.line X.env=pure false:=by rfl) (hf:X.fn x=true\/X.env.scope.names.lookup x=some .local:=by first | exact .inl rfl | exact .inr rfl | assumption) :
  PS X (.Assign [.Name x pos'] e pos) (tAsg te (gName i)):=by
 intro pins s σ H D I h;refine wpAny_Assign_Name (thn (he pins s σ H _ I h) fun v s1 hq0=>?_) hs;obtain ⟨y,H1,I1,r1,q1⟩:=hq0;exact zgw I1 hN hi hx r1 (fun s2 I2=>⟨_,H1,I2,q1⟩) hf
noncomputable def tWhile (c:TT) (tb:TS):TS:=fun D σ H=>∃W:Nat->St->Hp->Prop,(∃m,W m σ H)/\∀m σ H,W m σ H ->
 c σ H fun b H1=>if b=true then ∃N:St->Hp->Prop,(∀σ' H',N σ' H'->∃m',m' < m/\W m' σ' H')/\tb {D with nx:=N,ct:=N,bk:=D.nx} σ H1 else D.nx σ H1
theorem zov {c:Expr} {body:List Stmt} {tc:TT} {tb:TS} (hp:PassesOwn (model X.prog X.w) X.A X.env X.xe) (hc:PT X c tc) (hb:PSs X body tb):PS X (.While c body [] pos) (tWhile tc tb):=by
 intro pins s σ H D I h;obtain ⟨W,⟨m0,w0⟩,turn⟩:=h;refine wpAny_While (codeAny_whileLoop (fun n s'=>∃σ' H',Inv X pins σ' H' s'/\W n σ' H') ?_ m0 ⟨σ,H,I,w0⟩);rintro n s1 ⟨σ1,H1,I1,w1⟩;refine xfm hp (thn (hc pins s1 σ1 H1 _ I1 (turn n σ1 H1 w1)) fun b s2 hq0=>?_);obtain ⟨H2,I2,q2⟩:=hq0;cases b with
 | true =>
  obtain ⟨N,hN,q2⟩:=q2;rw[if_pos rfl];refine xfm hp (thn (hb pins s2 σ1 H2 _ I2 q2) fun f s3 q3=>?_);cases f with
  | next =>
   obtain ⟨σ3,H3,I3,n3⟩:=q3;obtain ⟨m',hm,w3⟩:=hN σ3 H3 n3;exact ⟨m',hm,σ3,H3,I3,w3⟩
  | cont =>
   obtain ⟨σ3,H3,I3,n3⟩:=q3;obtain ⟨m',hm,w3⟩:=hN σ3 H3 n3;exact ⟨m',hm,σ3,H3,I3,w3⟩
  | brk=>exact q3
  | ret v=>exact q3
 | false =>
  rw[if_neg xdz];exact xhc ⟨σ1,H2,I2,q2⟩
end
structure It where
 go:Nat->Hp->Prop
 yld:Nat->Hp->V->Hp->Prop
 stop:Nat->Hp->Prop
noncomputable def FpOk (X:Cx) (pins:List (Addr × Obj)) (H:Hp) (b:Addr):Prop :=
 H b=none/\b≠X.env.locals/\b∉X.fs/\(b∈X.ex\/X.s₀.heap.objs.size<=b)/\(∀x c,X.env.cells.lookup x=some c->c≠b)/\∀p∈X.pn++pins,p.1≠b
theorem Inv.fpOk {X:Cx} {pins:List (Addr × Obj)} {σ:St} {H H':Hp} {s:Shared} {b:Addr} (I:Inv X pins σ H s) (hb:s.heap.objs.size<=b) (hn:H' b=none):FpOk X pins H' b:=by
 refine ⟨hn,xhz (xbc I.lt hb),I.nofs hb,.inr (xbb I.sz hb),fun x c e z=>?_,fun p hp z=>?_⟩
 ·obtain ⟨v,q⟩:=I.cell x c e;exact absurd (xbc q.lt (by rw[z];exact hb)) (xen _)
 ·exact absurd (xbc (xbh (I.pin p hp).1) (by rw[z];exact hb)) (xen _)
structure Turn (P:Program) (w:World) (K:Fg) (tg:Expr) (J:It) (fp:List Addr) (it:Addr) (tn:Nat->Heap->Prop):Prop where
 mem:it∈fp
 obj:∀i h,tn i h->∀b∈fp,∃o,h.get? b=some o/\∀v,o.data≠.cell v
 keep:∀i h h',tn i h->(∀b∈fp,∀o,h.get? b=some o->h'.get? b=some o)->tn i h'
 item:∀(X:Cx),X.prog=P->X.w=w->X.K=K->X.calm=true->∀(i:Nat) (pins:List (Addr × Obj)) (s:Shared) (σ:St) (H:Hp) (E:Value->Shared->Prop),Inv X pins σ H s->(∀b∈fp,FpOk X pins H b)->tn i s.heap->J.go i H ->
  wpAny (model P w) X.A (pyNext (.ref it)) (fun r s1=>∃u,r=some u /\
   wpAny (model P w) X.A (letOwnedTupleGo tg (.ref it) u) (fun _ s2=>∃x H',Inv X pins σ H' s2/\RelV x u/\J.yld i H x H'/\tn (i+1) s2.heap/\∀b∈fp,H' b=none) E s1) E s
 done:∀(X:Cx),X.prog=P->X.w=w->X.K=K->X.calm=true->∀(i:Nat) (pins:List (Addr × Obj)) (s:Shared) (σ:St) (H:Hp) (E:Value->Shared->Prop),Inv X pins σ H s->(∀b∈fp,FpOk X pins H b)->tn i s.heap->J.stop i H ->
  wpAny (model P w) X.A (pyNext (.ref it)) (fun r s1=>r=none/\Inv X pins σ H s1) E s
 self:∀(A:Around) (i:Nat) (s:Shared) (Q:Value->Shared->Prop) (E:Value->Shared->Prop),tn i s.heap->Q (.ref it) s->wpAny (model P w) A (pyIter (.ref it)) Q E s
noncomputable abbrev TI:=St->Hp->(It->Hp->Prop)->Prop
noncomputable def PIE (X:Cx) (pins:List (Addr × Obj)) (σ:St) (tg:Expr) (R:It->Hp->Prop) (itv:Value) (s2:Shared):Prop :=
 ∃(it:Addr) (fp:List Addr) (tn:Nat->Heap->Prop) (J:It) (H':Hp),itv=.ref it/\Inv X pins σ H' s2/\Turn X.prog X.w X.K tg J fp it tn/\tn 0 s2.heap/\(∀b∈fp,FpOk X pins H' b)/\R J H'
noncomputable def PI (X:Cx) (tg iter:Expr) (wi:TI):Prop :=
 ∀(pins:List (Addr × Obj)) (s:Shared) (σ:St) (H:Hp) (R:It->Hp->Prop),Inv X pins σ H s->wi σ H R ->
  wpAny (model X.prog X.w) X.A (eval iter X.env) (fun v s1=>wpAny (model X.prog X.w) X.A (pyIter v) (PIE X pins σ tg R) X.xe s1) X.xe s
theorem zxl {M : Model} {A : Around} {E : Value -> Shared -> Prop} {s : Shared} {tg : Expr} {it : Addr} {u : Value} {o : Obj} {n : String} {vs : Array Value} {Q : Unit -> Shared -> Prop} (ho : s.heap.get? it = some o) (hc : o.cls = .type n) (hd : o.data = .fields vs)
    (hn : ["enumerate", "zip", "dict_itemiterator", "dict_reverseitemiterator", "odict_iterator", "itertools.zip_longest", "itertools.pairwise"].contains n = false) (hQ : Q () s) : wpAny M A (letOwnedTupleGo tg (.ref it) u) Q E s := by
  unfold letOwnedTupleGo;cases tg <;> first
    | exact xbl hQ
    | (cases u <;> first
        | exact xbl hQ
        | (refine xba (wpAny_load ho ?_)
           rw [hc, hd];show wpAny M A (if (["enumerate", "zip", "dict_itemiterator", "dict_reverseitemiterator", "odict_iterator", "itertools.zip_longest", "itertools.pairwise"].contains n && vs[0]? == some (rawInt _)) = true then _ else _) Q E s
           rw [if_neg (by intro h; rw [hn, Bool.false_and] at h; cases h)]
           exact xbl hQ))
noncomputable def Itl (K:Fg) (a:Addr):It :=
 ⟨fun i H=>∃xs x,SqL K H a xs/\xs[i]?=some x,fun i H x H'=>H'=H/\∀xs,SqL K H a xs->xs[i]?=some x,fun i H=>∃xs,SqL K H a xs/\xs.length<=i⟩
noncomputable def Itt (K:Fg) (a:Addr):It :=
 ⟨fun i H=>∃xs x,SqT K H a xs/\xs[i]?=some x,fun i H x H'=>H'=H/\∀xs,SqT K H a xs->xs[i]?=some x,fun i H=>∃xs,SqT K H a xs/\xs.length<=i⟩
noncomputable def Itr (lo:Int) (n:Nat):It:=⟨fun i _=>i < n,fun i H x H'=>H'=H/\x=.int (lo+i),fun i _=>n<=i⟩
theorem zlk {P:Program} {w:World} {K:Fg} {tg:Expr} (a it:Addr):Turn P w K tg (Itl K a) [it] it (fun i h=>h.IsListIter it a i) where
 mem:=by simp
 obj:=fun i h st b hb=>by
  have e:b=it:=by simpa using hb
  subst e;obtain ⟨o,e,c,d⟩:=st;exact ⟨o,e,fun v z=>by rw[d] at z;cases z⟩
 keep:=fun i h h' st k=>st.at fun o e=>k it (by simp) o e
 item:=by
  intro X hP hw hK hc i pins s σ H E I hf st hg;subst hP hw hK;obtain ⟨xs,x,hq,hx⟩:=hg;obtain ⟨its,rv,p,hz⟩:=I.list hq;obtain ⟨u,hu,ru⟩:=rv.get hx;obtain ⟨f0,f1,f2,f3,f4,f5⟩:=hf it (by simp);refine wpAny_pyNext_list_item st p.isList (x:=u) (by simpa using hu) fun h' st' sb=>?_
  have I1:Inv X pins σ H {s with heap:=h'}:=I.turned (t':=s.toks) (fun b o hb e=>(sb.2 b hb).trans e) f0 f1 f3 f4 f5;obtain ⟨o,e,c,d⟩:=id st';exact ⟨u,rfl,zxl (s:={s with heap:=h'}) e c d (by decide) ⟨x,H,I1,ru,⟨rfl,fun ys hy=>by rw[I.list_inj hy hq];exact hx⟩,st',fun b hb=>(hf b hb).1⟩⟩
 done:=by
  intro X hP hw hK hc i pins s σ H E I hf st hg;subst hP hw hK;obtain ⟨xs,hq,hx⟩:=hg;obtain ⟨its,rv,p,hz⟩:=I.list hq;obtain ⟨f0,f1,f2,f3,f4,f5⟩:=hf it (by simp);have hl:=rv.length;exact wpAny_pyNext_list_end (I.ok.hd hc) st p.isList (by simp;lia) fun h' eb=>⟨rfl,I.turned (t':=s.toks) (fun b o hb e=>eb b o hb e) f0 f1 f3 f4 f5⟩
 self:=fun _ _ _ _ _ st h=>wpAny_pyIter_listiter st h
theorem zjf {P:Program} {w:World} {K:Fg} {tg:Expr} (a it:Addr):Turn P w K tg (Itt K a) [it] it (fun i h=>h.IsTupleIter it a i) where
 mem:=by simp
 obj:=fun i h st b hb=>by
  have e:b=it:=by simpa using hb
  subst e;obtain ⟨o,e,c,d⟩:=st;exact ⟨o,e,fun v z=>by rw[d] at z;cases z⟩
 keep:=fun i h h' st k=>st.at fun o e=>k it (by simp) o e
 item:=by
  intro X hP hw hK hc i pins s σ H E I hf st hg;subst hP hw hK;obtain ⟨xs,x,hq,hx⟩:=hg;obtain ⟨its,rv,p,hz⟩:=I.tuple hq;obtain ⟨u,hu,ru⟩:=rv.get hx;obtain ⟨f0,f1,f2,f3,f4,f5⟩:=hf it (by simp);refine wpAny_pyNext_tuple_item st (show s.heap.IsTuple a its.toArray from p) (x:=u) (by simpa using hu) fun h' st' sb=>?_
  have I1:Inv X pins σ H {s with heap:=h'}:=I.turned (t':=s.toks) (fun b o hb e=>(sb.2 b hb).trans e) f0 f1 f3 f4 f5;obtain ⟨o,e,c,d⟩:=id st';exact ⟨u,rfl,zxl (s:={s with heap:=h'}) e c d (by decide) ⟨x,H,I1,ru,⟨rfl,fun ys hy=>by rw[I.tuple_inj hy hq];exact hx⟩,st',fun b hb=>(hf b hb).1⟩⟩
 done:=by
  intro X hP hw hK hc i pins s σ H E I hf st hg;subst hP hw hK;obtain ⟨xs,hq,hx⟩:=hg;obtain ⟨its,rv,p,hz⟩:=I.tuple hq;obtain ⟨f0,f1,f2,f3,f4,f5⟩:=hf it (by simp);have hl:=rv.length;exact wpAny_pyNext_tuple_end (I.ok.hd hc) st (show s.heap.IsTuple a its.toArray from p) (by simp;lia) fun h' eb=>⟨rfl,I.turned (t':=s.toks) (fun b o hb e=>eb b o hb e) f0 f1 f3 f4 f5⟩
 self:=fun _ _ _ _ _ st h=>wpAny_pyIter_tupleiter st h
theorem zjg {P:Program} {w:World} {K:Fg} {tg:Expr} (it:Addr) (lo:Int) (n:Nat):Turn P w K tg (Itr lo n) [it] it (fun i h=>IsRangeIter h it (lo+(i:Nat) * 1) ((n:Int) - (i:Nat)) 1) where
 mem:=by simp
 obj:=fun i h st b hb=>by
  have e:b=it:=by simpa using hb
  subst e
  exact ⟨_,st,fun v z=>by
   have z':Data.fields _=Data.cell v:=z
   cases z'⟩
 keep:=fun i h h' st k=>k it (by simp) _ st
 item:=by
  intro X hP hw hK hc i pins s σ H E I hf st hg;subst hP hw hK;obtain ⟨f0,f1,f2,f3,f4,f5⟩:=hf it (by simp);have W:=Walks.range (prog:=X.prog) (w:=X.w) (I.ok.hd hc) it lo 1 n;refine W.item i s _ _ hg st fun v h' tk hv st' kk=>?_
  obtain ⟨t,rfl⟩:=hv;have I1:Inv X pins σ H {s with heap:=h',toks:=tk}:=I.turned (fun b o hb e=>kk b o (by simpa using hb) e) f0 f1 f3 f4 f5;refine ⟨_, rfl, zxl (s := { s with heap := h', toks := tk }) (n := "range_iterator") st' rfl rfl (by decide) ⟨.int (lo + i), H, I1, ⟨t, ?_⟩, ⟨rfl, rfl⟩, st', fun b hb => (hf b hb).1⟩⟩
  rw[Int.mul_one]
 done:=by
  intro X hP hw hK hc i pins s σ H E I hf st hg;subst hP hw hK;obtain ⟨f0,f1,f2,f3,f4,f5⟩:=hf it (by simp);exact wpAny_pyNext_range_end (I.ok.hd hc) st (by have:n<=i:=hg;lia) fun h' eb=>⟨rfl,I.turned (t':=s.toks) (fun b o hb e=>eb b o hb e) f0 f1 f3 f4 f5⟩
 self:=fun _ _ _ _ _ st h=>wpAny_pyIter_rangeiter st h
section
variable {X:Cx} {tg:Expr}
noncomputable def iList (K:Fg) (tl:TE):TI:=fun σ H R=>tl σ H fun x H1=>∃a,x=.ref a/\(∃xs,SqL K H1 a xs)/\R (Itl K a) H1
noncomputable def iTup (K:Fg) (tl:TE):TI:=fun σ H R=>tl σ H fun x H1=>∃a,x=.ref a/\(∃xs,SqT K H1 a xs)/\R (Itt K a) H1
theorem znn {l:Expr} {tl:TE} (hl:PE X l tl):PI X tg l (iList X.K tl):=by
 intro pins s σ H R I h;refine thn (hl pins s σ H _ I h) fun v s1 hq0=>?_
 obtain ⟨x,H1,I1,r1,q1⟩:=hq0;obtain ⟨a,e,⟨xs,hq⟩,q⟩:=q1;subst e;cases r1;obtain ⟨its,rv,p,hz⟩:=I1.list hq;refine xhp p.isList ?_;refine ⟨s1.heap.objs.size,[s1.heap.objs.size],_,_,H1,rfl,I1.kept (t':=s1.toks) fun b o e=>xbe _ e,zlk a _,⟨_,xbr _ rfl,rfl,rfl⟩,fun b hb=>?_,q⟩;have e:b=s1.heap.objs.size:=by simpa using hb
 subst e;exact I1.fpOk (xbg _) (I1.hok.fresh (xbg _))
theorem zsg {l:Expr} {tl:TE} (hl:PE X l tl):PI X tg l (iTup X.K tl):=by
 intro pins s σ H R I h;refine thn (hl pins s σ H _ I h) fun v s1 hq0=>?_
 obtain ⟨x,H1,I1,r1,q1⟩:=hq0;obtain ⟨a,e,⟨xs,hq⟩,q⟩:=q1;subst e;cases r1;obtain ⟨its,rv,p,hz⟩:=I1.tuple hq;refine wpAny_pyIter_tuple (show s1.heap.IsTuple a its.toArray from p) ?_;refine ⟨s1.heap.objs.size,[s1.heap.objs.size],_,_,H1,rfl,I1.kept (t':=s1.toks) fun b o e=>xbe _ e,zjf a _,⟨_,xbr _ rfl,rfl,rfl⟩,fun b hb=>?_,q⟩;have e:b=s1.heap.objs.size:=by simpa using hb
 subst e;exact I1.fpOk (xbg _) (I1.hok.fresh (xbg _))
theorem zjp {pins:List (Addr × Obj)} {σ:St} {H:Hp} {s:Shared} {R:It->Hp->Prop} {E:Value->Shared->Prop} {lo hi:Int} {t u v:Tok} {tk:Nat} (I:Inv X pins σ H s) (h1:-(2 ^ 62)<=lo) (h2:lo < 2 ^ 62) (h3:-(2 ^ 62)<=hi) (h4:hi < 2 ^ 62)
  (q : R (Itr lo (hi - lo).toNat) H) : wpAny (model X.prog X.w) X.A (pyIter (.ref s.heap.objs.size)) (PIE X pins σ tg R) E { s with heap := s.heap.push { cls := .type "range", data := .fields #[.int lo t, .int hi u, .int 1 v] }, toks := tk } := by
 refine wpAny_pyIter_range (IsRange.new ..) (small_one h1 h2 h3 h4) ?_;have I1 : Inv X pins σ H { s with heap := s.heap.push { cls := .type "range", data := .fields #[.int lo t, .int hi u, .int 1 v] }, toks := tk } := I.kept fun b o e => xbe _ e
 refine ⟨(s.heap.push { cls := .type "range", data := .fields #[.int lo t, .int hi u, .int 1 v] }).objs.size, [(s.heap.push { cls := .type "range", data := .fields #[.int lo t, .int hi u, .int 1 v] }).objs.size], _, _, H, rfl,
  I1.kept (t':=tk) fun b o e=>xbe _ e,zjg _ lo (hi - lo).toNat,?_,fun b hb=>?_,q⟩
 ·have e1:lo+((0:Nat):Int) * 1=lo:=by simp
  have e2:(((hi - lo).toNat:Nat):Int) - ((0:Nat):Int)=Builtin.Range.rangeSize lo hi 1:=by rw[rangeSize_one];split<;>lia
  show IsRangeIter _ _ (lo+((0:Nat):Int) * 1) ((((hi - lo).toNat:Nat):Int) - ((0:Nat):Int)) 1;rw[e1,e2];exact xbr _ rfl
 ·have e : b = (s.heap.push { cls := .type "range", data := .fields #[.int lo t, .int hi u, .int 1 v] }).objs.size := by simpa using hb
  subst e;exact I1.fpOk (xbg _) (I1.hok.fresh (xbg _))
noncomputable def iRng1 (ta:TA):TI:=fun σ H R=>ta σ H fun vs H1=>∃j:Int,vs=[.int j]/\-(2 ^ 62)<=j/\j < 2 ^ 62/\R (Itr 0 j.toNat) H1
noncomputable def iRng2 (ta:TA):TI:=fun σ H R=>ta σ H fun vs H1=>∃i j:Int,vs=[.int i,.int j]/\(-(2 ^ 62)<=i/\i < 2 ^ 62/\-(2 ^ 62)<=j/\j < 2 ^ 62)/\R (Itr i (j - i).toNat) H1
theorem zlr {a : Expr} {ta : TA} {p pos : Pos} (hg : Gl X "range") (hm : X.mg "range" = none) (ha : PA X [a] ta) (hs : starEach [a] X.env = [(false, eval a X.env)] := by rfl) : PI X tg (.Call (.Name "range" p) [a] [] pos) (iRng1 ta) := by
 intro pins s σ H R I h;refine Call_ (zke I hg hm boot_range (xgm (thn (ha pos pins s σ H _ I h) fun us s1 hq0=>?_) hs rfl));obtain ⟨vs,H1,I1,r1,q1⟩:=hq0;obtain ⟨j,e,q1,q2,q⟩:=q1;subst e;cases r1 with
 | cons r rr =>
  cases rr;obtain ⟨t,rfl⟩:=r;exact call_range_1 (zjp I1 (by lia) (by lia) q1 q2 (by simpa using q))
theorem zlq {a b : Expr} {ta : TA} {p pos : Pos} (hg : Gl X "range") (hm : X.mg "range" = none) (ha : PA X [a, b] ta) (hs : starEach [a, b] X.env = [(false, eval a X.env), (false, eval b X.env)] := by rfl) (hs2 : starEach [b] X.env = [(false, eval b X.env)] := by rfl) :
  PI X tg (.Call (.Name "range" p) [a, b] [] pos) (iRng2 ta) := by
 intro pins s σ H R I h;refine Call_ (zke I hg hm boot_range (xgm (thn (ha pos pins s σ H _ I h) fun us s1 ⟨vs,H1,I1,r1,q1⟩=>?_) (by rw[hs,hs2]) (by rw[hs2];rfl)));obtain ⟨i,j,e,⟨q1,q2,q3,q4⟩,q⟩:=q1;subst e;cases r1 with
 | cons r rr =>
  cases rr with
  | cons r' rr =>
   cases rr;obtain ⟨t,rfl⟩:=r;obtain ⟨t',rfl⟩:=r';exact call_range_2 (zjp I1 q1 q2 q3 q4 q)
noncomputable def tFor (wi:TI) (g:TG) (tb:TS):TS:=fun D σ H=>wi σ H fun J H1=>∃W:Nat->Nat->St->Hp->Prop,(∃m,W 0 m σ H1)/\∀i m σ H,W i m σ H ->
 (J.stop i H/\D.nx σ H)\/(J.go i H/\∃N:St->Hp->Prop,(∀σ' H',N σ' H'->∃m',m' < m/\W (i+1) m' σ' H')/\∀x H',J.yld i H x H'->g x σ H' fun σ2 H2=>tb {D with nx:=N,ct:=N,bk:=D.nx} σ2 H2)
noncomputable def pinsAt (fp:List Addr) (h:Heap):List (Addr × Obj):=fp.filterMap fun b=>(h.get? b).map fun o=>(b,o)
theorem zcw {fp:List Addr} {h:Heap} {b:Addr} {o:Obj} (hb:b∈fp) (e:h.get? b=some o):(b,o)∈pinsAt fp h:=List.mem_filterMap.mpr ⟨b,hb,by rw[e];rfl⟩
theorem zlu {fp:List Addr} {h:Heap} {p:Addr × Obj} (hp:p∈pinsAt fp h):p.1∈fp/\h.get? p.1=some p.2:=by
 obtain ⟨b,hb,e⟩:=List.mem_filterMap.mp hp;cases q:h.get? b with
 | none=>rw[q] at e;cases e
 | some o =>
  rw[q] at e;have e':(b,o)=p:=xca e;subst e';exact ⟨hb,q⟩
theorem Inv.pinned {pins:List (Addr × Obj)} {σ:St} {H:Hp} {s:Shared} {fp:List Addr} (I:Inv X pins σ H s) (hf:∀b∈fp,FpOk X pins H b) (ho:∀b∈fp,∃o,s.heap.get? b=some o/\∀v,o.data≠.cell v):Inv X (pins++pinsAt fp s.heap) σ H s :=
 I.pins_of fun p hp=>(xco.mp hp).elim (fun z=>I.pin p (xcq _ z)) fun z=>by
  obtain ⟨hb,e⟩:=zlu z;obtain ⟨f0,f1,f2,_⟩:=hf p.1 hb;obtain ⟨o,e',d⟩:=ho p.1 hb;rw[e] at e';cases e'
  exact ⟨e,f0,f1,f2,d⟩
theorem Inv.unpinned {pins pl:List (Addr × Obj)} {σ:St} {H:Hp} {s:Shared} (I:Inv X (pins++pl) σ H s):Inv X pins σ H s:=I.pins_of fun p hp=>I.pin p (xcq _ (xfp _ hp))
theorem zsd {iter:Expr} {body:List Stmt} {wi:TI} {g:TG} {tb:TS} {pos:Pos} (hp:PassesOwn (model X.prog X.w) X.A X.env X.xe) (hc:X.calm=true) (hi:PI X tg iter wi) (hg:PG X tg g) (hb:PSs X body tb)
  (hs:∀x,foldedSetIterable iter X.env x=pure x:=by intro _;rfl):PS X (.For tg iter body [] pos) (tFor wi g tb):=by
 intro pins s σ H D I h;refine wpAny_For (thn (hi pins s σ H _ I h) fun v s1 h1=>thn h1 fun itv s2 h2=>?_) hs;obtain ⟨it,fp,tn,J,H2,e,I2,T,st2,f2,W,⟨m0,w0⟩,turn⟩:=h2;subst e;have stat:∀{H':Hp},(∀b∈fp,H' b=none)->∀b∈fp,FpOk X pins H' b:=fun hn b hb=>⟨hn b hb,(f2 b hb).2⟩
 refine codeAny_forLoop_any (fun n s'=>∃i σ' H',Inv X pins σ' H' s'/\tn i s'.heap/\(∀b∈fp,H' b=none)/\W i n σ' H') ?_ m0 ⟨0,σ,H2,I2,st2,fun b hb=>(f2 b hb).1,w0⟩;rintro n s3 ⟨i,σ3,H3,I3,st3,fr3,w3⟩;rcases turn i n σ3 H3 w3 with ⟨stop,qn⟩ | ⟨go,N,hN,step⟩
 ·refine xfm hp (thn (T.done X rfl rfl rfl hc i pins s3 σ3 H3 X.xe I3 (stat fr3) st3 stop) fun r s4 hq0=>?_);obtain ⟨hr,I4⟩:=hq0;subst hr;exact xhc ⟨σ3,H3,I4,qn⟩
 ·refine xfm hp (thn (T.item X rfl rfl rfl hc i pins s3 σ3 H3 X.xe I3 (stat fr3) st3 go) fun r s4 hq0=>?_);obtain ⟨u,hr,h4⟩:=hq0;subst hr;refine xfm hp (thn h4 fun _ s5 hq0=>?_);obtain ⟨x,H5,I5,r5,y5,st5,fr5⟩:=hq0;have I5':=I5.pinned (stat fr5) (T.obj _ _ st5);refine xfm hp (thn (hg _ s5 σ3 H5 x u _ I5' r5 (step x H5 y5)) fun _ s6 hq0=>?_);obtain ⟨σ6,H6,I6,q6⟩:=hq0;refine xfm hp (thn (hb _ s6 σ6 H6 _ I6 q6) fun f s7 q7=>?_);have again:∀{σ7:St} {H7:Hp},Inv X (pins++pinsAt fp s5.heap) σ7 H7 s7->N σ7 H7->∃m,m < n/\∃i σ' H',Inv X pins σ' H' s7/\tn i s7.heap/\(∀b∈fp,H' b=none)/\W i m σ' H':=fun {σ7 H7} I7 n7=>by
   obtain ⟨m',hm,w7⟩:=hN σ7 H7 n7;refine ⟨m',hm,i+1,σ7,H7,I7.unpinned,T.keep _ _ _ st5 fun b hb o e=>(I7.pin (b,o) (xcq _ (xcq _ (zcw hb e)))).1,fun b hb=>?_,w7⟩;obtain ⟨o,e,d⟩:=T.obj _ _ st5 b hb;exact (I7.pin (b,o) (xcq _ (xcq _ (zcw hb e)))).2.1
  cases f with
  | next=>obtain ⟨σ7,H7,I7,n7⟩:=q7;exact again I7 n7
  | cont=>obtain ⟨σ7,H7,I7,n7⟩:=q7;exact again I7 n7
  | brk=>obtain ⟨σ7,H7,I7,q7⟩:=q7;exact ⟨σ7,H7,I7.unpinned,q7⟩
  | ret v=>obtain ⟨x7,σ7,H7,I7,r7,q7⟩:=q7;exact ⟨x7,σ7,H7,I7.unpinned,r7,q7⟩
end
noncomputable abbrev R2:=V->V->Hp->VK->Prop
noncomputable def OpR (X:Cx) (f:Value->Value->Sem Value) (r:R2):Prop :=
 ∀(pins:List (Addr × Obj)) (s:Shared) (σ:St) (H:Hp) (x y:V) (v u:Value) (Q:VK),Inv X pins σ H s->RelV x v->RelV y u->r x y H Q ->
  wpAny (model X.prog X.w) X.A (f v u) (EP X pins σ Q) X.xe s
noncomputable def UnR (X:Cx) (f:Value->Sem Value) (r:V->Hp->VK->Prop):Prop :=
 ∀(pins:List (Addr × Obj)) (s:Shared) (σ:St) (H:Hp) (x:V) (v:Value) (Q:VK),Inv X pins σ H s->RelV x v->r x H Q ->
  wpAny (model X.prog X.w) X.A (f v) (EP X pins σ Q) X.xe s
noncomputable def CallR (X:Cx) (f:Value) (r:List V->Hp->VK->Prop):Prop :=
 ∀(pins:List (Addr × Obj)) (s:Shared) (σ:St) (H:Hp) (xs:List V) (us:List Value) (Q:VK),Inv X pins σ H s->Vals xs us->r xs H Q ->
  wpAny (model X.prog X.w) X.A (call f us) (EP X pins σ Q) X.xe s
noncomputable def TruR (X:Cx) (r:V->Hp->(Bool->Hp->Prop)->Prop):Prop :=
 ∀(pins:List (Addr × Obj)) (s:Shared) (σ:St) (H:Hp) (x:V) (v:Value) (Q:Bool->Hp->Prop),Inv X pins σ H s->RelV x v->r x H Q ->
  wpAny (model X.prog X.w) X.A (truthy v) (TP X pins σ Q) X.xe s
noncomputable def tOp (r:R2) (ta tb:TE):TE:=fun σ H Q=>ta σ H fun x H1=>tb σ H1 fun y H2=>r x y H2 Q
noncomputable def tUn (r:V->Hp->VK->Prop) (ta:TE):TE:=fun σ H Q=>ta σ H fun x H1=>r x H1 Q
noncomputable def rI (C:Int->Int->Prop) (g:Int->Int->V):R2:=fun x y H Q=>∃i j,x=.int i/\y=.int j/\C i j/\Q (g i j) H
noncomputable def rI0 (g:Int->Int->V):R2:=fun x y H Q=>∃i j,x=.int i/\y=.int j/\Q (g i j) H
noncomputable def rU (g:Int->V):V->Hp->VK->Prop:=fun x H Q=>∃i,x=.int i/\Q (g i) H
section
variable {X:Cx} {a b c:Expr} {ta tb tc:TE} {pos:Pos}
theorem binT (ha:PE X a ta) (hb:PE X b tb) {pins:List (Addr × Obj)} {s:Shared} {σ:St} {H:Hp} {R:V->V->Hp->Prop} (I:Inv X pins σ H s)
  (h:ta σ H fun x H1=>tb σ H1 fun y H2=>R x y H2) {Q:Value->Shared->Prop} {f:Value->Value->Sem Value}
  (hf:∀v u s2 x y H2,Inv X pins σ H2 s2->RelV x v->RelV y u->R x y H2->wpAny (model X.prog X.w) X.A (f v u) Q X.xe s2) :
  wpAny (model X.prog X.w) X.A (eval a X.env) (fun v s₁=>wpAny (model X.prog X.w) X.A (eval b X.env) (fun u s₂=>wpAny (model X.prog X.w) X.A (f v u) Q X.xe s₂) X.xe s₁) X.xe s:=by
 refine thn (ha pins s σ H _ I h) fun v s1 hq0=>?_
 obtain ⟨x,H1,I1,r1,q1⟩:=hq0;refine thn (hb pins s1 σ H1 _ I1 q1) fun u s2 hq0=>?_
 obtain ⟨y,H2,I2,r2,q2⟩:=hq0;exact hf v u s2 x y H2 I2 r1 r2 q2
theorem zbao {op:Operator} {r:R2} (ho:OpR X (binaryOp op) r) (ha:PE X a ta) (hb:PE X b tb):PE X (.BinOp a op b pos) (tOp r ta tb):=by
 intro pins s σ H Q I h;exact wpAny_BinOp (binT ha hb I h fun v u s2 x y H2 I2 rx ry q=>ho pins s2 σ H2 x y v u Q I2 rx ry q)
theorem zban {op:UnaryOp} {r:V->Hp->VK->Prop} (ho:UnR X (unaryOp op) r) (ha:PE X a ta):PE X (.UnaryOp op a pos) (tUn r ta):=by
 intro pins s σ H Q I h;exact UnaryOp_ (thn (ha pins s σ H _ I h) fun v s1 ⟨x,H1,I1,r1,q1⟩=>ho pins s1 σ H1 x v Q I1 r1 q1)
theorem opI {f:Value->Value->Sem Value} {C:Int->Int->Prop} {g:Int->Int->Int}
  (rule:∀(i j:Int) (t u:Tok) (s:Shared) (Q:Value->Shared->Prop) (E:Value->Shared->Prop),C i j->Q (.int (g i j) s.toks) {s with toks:=s.toks+1}->wpAny (model X.prog X.w) X.A (f (.int i t) (.int j u)) Q E s) :
  OpR X f (rI C fun i j=>.int (g i j)):=by
 intro pins s σ H x y v u Q I rx ry h;obtain ⟨i,j,rfl,rfl,hc,q⟩:=h;obtain ⟨t,rfl⟩:=rx;obtain ⟨t',rfl⟩:=ry;exact rule i j t t' s _ _ hc ⟨.int (g i j),H,I.tok _,⟨_,rfl⟩,q⟩
theorem opI0 {f:Value->Value->Sem Value} {g:Int->Int->Int}
  (rule:∀(i j:Int) (t u:Tok) (s:Shared) (Q:Value->Shared->Prop) (E:Value->Shared->Prop),Q (.int (g i j) s.toks) {s with toks:=s.toks+1}->wpAny (model X.prog X.w) X.A (f (.int i t) (.int j u)) Q E s) :
  OpR X f (rI0 fun i j=>.int (g i j)):=by
 intro pins s σ H x y v u Q I rx ry h;obtain ⟨i,j,rfl,rfl,q⟩:=h;obtain ⟨t,rfl⟩:=rx;obtain ⟨t',rfl⟩:=ry;exact rule i j t t' s _ _ ⟨.int (g i j),H,I.tok _,⟨_,rfl⟩,q⟩
theorem opB0 {f:Value->Value->Sem Value} {g:Int->Int->Bool}
  (rule:∀(i j:Int) (t u:Tok) (s:Shared) (Q:Value->Shared->Prop) (E:Value->Shared->Prop),Q (.bool (g i j)) s->wpAny (model X.prog X.w) X.A (f (.int i t) (.int j u)) Q E s) :
  OpR X f (rI0 fun i j=>.bl (g i j)):=by
 intro pins s σ H x y v u Q I rx ry h;obtain ⟨i,j,rfl,rfl,q⟩:=h;obtain ⟨t,rfl⟩:=rx;obtain ⟨t',rfl⟩:=ry;exact rule i j t t' s _ _ ⟨.bl (g i j),H,I,rfl,q⟩
noncomputable def CPow (i j:Int):Prop:=0<=j/\j<=1000000/\i.natAbs < 2 ^ 64
noncomputable def CMul (i j:Int):Prop:=(-(2 ^ 64) < i/\i < 2 ^ 64)\/(-(2 ^ 64) < j/\j < 2 ^ 64)
theorem CMul.ok {i j:Int} (h:CMul i j):IntMulOk i j:=by
 rcases h with ⟨h1,h2⟩ | ⟨h1,h2⟩
 ·exact .of_left (intBits_le_64 h1 h2)
 ·exact .of_right (intBits_le_64 h1 h2)
theorem zwu:OpR X (binaryOp .Add) (rI0 fun i j=>.int (i+j)):=opI0 fun _ _ _ _ _ _ _ q=>add_int q
theorem zpd:OpR X (binaryOp .Sub) (rI0 fun i j=>.int (i - j)):=opI0 fun _ _ _ _ _ _ _ q=>sub_int q
theorem zhd:OpR X (binaryOp .Mult) (rI CMul fun i j=>.int (i * j)):=opI fun _ _ _ _ _ _ _ hc q=>mul_int q hc.ok
theorem ziv:OpR X (binaryOp .Mod) (rI (fun _ j=>0 < j) fun i j=>.int (i % j)):=opI fun i j _ _ _ _ _ hc q=>by
 have h1:(0:Int) < j:=hc;exact mod_int' (by lia) (by rw[Int.fmod_eq_emod_of_nonneg i (by lia)];exact q)
theorem zpe:OpR X (binaryOp .Pow) (rI CPow fun i j=>.int (i ^ j.toNat)):=opI fun _ _ _ _ _ _ _ hc q=>pow_int_small hc.1 hc.2.1 hc.2.2 q
theorem unI {f:Value->Sem Value} {g:Int->Int}
  (rule:∀(i:Int) (t:Tok) (s:Shared) (Q:Value->Shared->Prop) (E:Value->Shared->Prop),Q (.int (g i) s.toks) {s with toks:=s.toks+1}->wpAny (model X.prog X.w) X.A (f (.int i t)) Q E s) :
  UnR X f (rU fun i=>.int (g i)):=by
 intro pins s σ H x v Q I rx h;obtain ⟨i,rfl,q⟩:=h;obtain ⟨t,rfl⟩:=rx;exact rule i t s _ _ ⟨.int (g i),H,I.tok _,⟨_,rfl⟩,q⟩
theorem zvp:UnR X (unaryOp .USub) (rU fun i=>.int (-i)):=unI fun _ _ _ _ _ q=>neg_int q
theorem zbar:OpR X (compareOp .Lt) (rI0 fun i j=>.bl (decide (i < j))):=opB0 fun _ _ _ _ _ _ _ q=>lt_int q
theorem zvh:OpR X (compareOp .LtE) (rI0 fun i j=>.bl (decide (i<=j))):=opB0 fun _ _ _ _ _ _ _ q=>le_int q
theorem zzu:OpR X (compareOp .Gt) (rI0 fun i j=>.bl (decide (j < i))):=opB0 fun _ _ _ _ _ _ _ q=>gt_int q
theorem OpR.or {f:Value->Value->Sem Value} {r r':R2} (h:OpR X f r) (h':OpR X f r'):OpR X f (fun x y H Q=>r x y H Q\/r' x y H Q):=by
 intro pins s σ H x y v u Q I rx ry q;rcases q with q | q
 ·exact h pins s σ H x y v u Q I rx ry q
 ·exact h' pins s σ H x y v u Q I rx ry q
theorem nomark (b:Expr) {op:CmpOp} (h:op≠.In:=by decide) (h2:op≠.NotIn:=by decide):behindInMarks op b=false:=by
 have e1:(op == CmpOp.In)=false:=by cases op<;>first | rfl | exact absurd rfl h
 have e2:(op == CmpOp.NotIn)=false:=by cases op<;>first | rfl | exact absurd rfl h2
 cases b<;>simp[behindInMarks,e1,e2]
theorem zsk {op:CmpOp} {r:R2} (ho:OpR X (compareOp op) r) (ha:PE X a ta) (hb:PE X b tb) (hm:behindInMarks op b=false):PE X (.Compare a [op] [b] pos) (tOp r ta tb):=by
 intro pins s σ H Q I h;exact wpAny_Compare1 (binT ha hb I h fun v u s2 x y H2 I2 rx ry q=>ho pins s2 σ H2 x y v u Q I2 rx ry q) hm
noncomputable def tTest (t:TE):TT:=fun σ H Q=>t σ H fun x H'=>∃k,x=.bl k/\Q k H'
theorem zry {op:CmpOp} {r:R2} (ho:OpR X (compareOp op) r) (ha:PE X a ta) (hb:PE X b tb) (hm:behindInMarks op b=false):PT X (.Compare a [op] [b] pos) (tTest (tOp r ta tb)):=by
 intro pins s σ H Q I h
 refine wpAny_isTrue_Compare1 (thn (ha pins s σ H _ I h) fun v s1 ⟨x,H1,I1,r1,q1⟩=>thn (hb pins s1 σ H1 _ I1 q1) fun u s2 ⟨y,H2,I2,r2,q2⟩ =>
  thn (ho pins s2 σ H2 x y v u _ I2 r1 r2 q2) fun c s3 ⟨z,H3,I3,r3,k,e,q3⟩=>?_) hm
 subst e;cases r3;exact xdw ⟨H3,I3,q3⟩
noncomputable def tChain (r r':R2) (ta tb tc:TE):TE:=fun σ H Q=>ta σ H fun x H1=>tb σ H1 fun y H2=>r x y H2 fun z H3=>∃k,z=.bl k /\
 (if k=true then tc σ H3 fun w' H4=>r' y w' H4 Q else Q (.bl false) H3)
theorem zoy {op op':CmpOp} {r r':R2} (ho:OpR X (compareOp op) r) (ho':OpR X (compareOp op') r') (ha:PE X a ta) (hb:PE X b tb) (hc:PE X c tc)
  (hm:lastMarks [op,op'] [b,c]=false:=by with_unfolding_all rfl):PE X (.Compare a [op,op'] [b,c] pos) (tChain r r' ta tb tc):=by
 intro pins s σ H Q I h
 refine Compare_chain (thn (ha pins s σ H _ I h) fun v s1 ⟨x,H1,I1,r1,q1⟩=>chain_link (thn (hb pins s1 σ H1 _ I1 q1) fun u s2 ⟨y,H2,I2,r2,q2⟩ =>
  thn (ho pins s2 σ H2 x y v u _ I2 r1 r2 q2) fun d s3 ⟨z,H3,I3,r3,k,e,q3⟩=>?_)) hm
 subst e;cases r3;refine xdw ?_;cases k with
 | false=>exact ite_ff ⟨.bl false,H3,I3,rfl,q3⟩
 | true=>exact ite_tt (chain_last (thn (hc pins s3 σ H3 _ I3 q3) fun w' s4 ⟨z',H4,I4,r4,q4⟩=>ho' pins s4 σ H4 y z' u w' Q I4 r2 r4 q4))
theorem zou {op op':CmpOp} {r r':R2} (ho:OpR X (compareOp op) r) (ho':OpR X (compareOp op') r') (ha:PE X a ta) (hb:PE X b tb) (hc:PE X c tc)
  (hm:lastMarks [op,op'] [b,c]=false:=by with_unfolding_all rfl):PT X (.Compare a [op,op'] [b,c] pos) (tTest (tChain r r' ta tb tc)):=by
 intro pins s σ H Q I h
 refine isTrue_chain (thn (ha pins s σ H _ I h) fun v s1 ⟨x,H1,I1,r1,q1⟩=>test_link (thn (hb pins s1 σ H1 _ I1 q1) fun u s2 ⟨y,H2,I2,r2,q2⟩ =>
  thn (ho pins s2 σ H2 x y v u _ I2 r1 r2 q2) fun d s3 ⟨z,H3,I3,r3,k,e,q3⟩=>?_)) hm
 subst e;cases r3;refine xdw ?_;cases k with
 | false =>
  obtain ⟨k',e',q'⟩:=q3;cases e';exact ite_ff ⟨H3,I3,q'⟩
 | true =>
  refine ite_tt (test_last (thn (hc pins s3 σ H3 _ I3 q3) fun w' s4 ⟨z',H4,I4,r4,q4⟩=>thn (ho' pins s4 σ H4 y z' u w' _ I4 r2 r4 q4) fun d' s5 hq0=>?_));obtain ⟨z2,H5,I5,r5,k2,e2,q5⟩:=hq0;subst e2;cases r5;exact xdw ⟨H5,I5,q5⟩
noncomputable def TruV (K:Fg) (x:V) (H:Hp) (k:Bool):Prop :=
 match x with
 | .non=>k=false
 | .bl b=>k=b
 | .int i=>k=(i != 0)
 | .str y=>y.length<=sizeLine/\k=((y.length:Int) != 0)
 | .byt y=>y.size<=sizeLine/\k=((y.size:Int) != 0)
 | .ref p=>(∃xs,SqL K H p xs/\k=!xs.isEmpty)\/(∃xs,SqT K H p xs/\k=!xs.isEmpty)\/∃kvs,H p=some (.dK kvs)/\k=!kvs.isEmpty
 | _=>False
theorem zkh {κ:Type} {kvs:List (κ × V)} {vs:List (κ × Value)} (r:KV kvs vs):(!vs.isEmpty)=!kvs.isEmpty:=by
 cases r<;>rfl
theorem zgj {xs:List V} {its:List Value} (r:Vals xs its):(!its.toArray.isEmpty)=!xs.isEmpty:=by
 cases r<;>simp
theorem line63:(sizeLine:Nat) < 2 ^ 63:=by rw[xgu];decide
theorem zvq:TruR X (fun x H Q=>∃k,TruV X.K x H k/\Q k H):=by
 intro pins s σ H x v Q I rx h;obtain ⟨k,e,q⟩:=h;have hl:=line63;have hs:sizeLine=16777216:=xgu;cases x with
 | non =>
  cases rx;have e':k=false:=e;subst e';exact truthy_none ⟨H,I,q⟩
 | bl b =>
  cases rx;have e':k=b:=e;subst e';exact xdw ⟨H,I,q⟩
 | int i =>
  obtain ⟨t,rfl⟩:=rx;have e':k=(i != 0):=e;subst e';exact PySem.P.truthy_int ⟨H,I,q⟩
 | str y =>
  obtain ⟨t,rfl⟩:=rx;obtain ⟨hy,e'⟩:y.length<=sizeLine/\k=((y.length:Int) != 0):=e;subst e';exact PySem.P.truthy_str (by lia) ⟨H,I.tok _,q⟩
 | byt y =>
  obtain ⟨t,rfl⟩:=rx;obtain ⟨hy,e'⟩:y.size<=sizeLine/\k=((y.size:Int) != 0):=e;subst e';exact PySem.W.truthy_bytes (by lia) ⟨H,I.tok _,q⟩
 | ref p =>
  cases rx;have e':(∃xs,SqL X.K H p xs/\k=!xs.isEmpty)\/(∃xs,SqT X.K H p xs/\k=!xs.isEmpty)\/∃kvs,H p=some (.dK kvs)/\k=!kvs.isEmpty:=e
  rcases e' with ⟨xs,hx,e'⟩ | ⟨xs,hx,e'⟩ | ⟨kvs,hx,e'⟩
  ·subst e';obtain ⟨its,r,pl,hz⟩:=I.list hx;have hlen:=r.length;exact wpAny_truthy_list pl.isList (by simp only[xbt];lia) ⟨H,I.tok _,by rw[zgj r];exact q⟩
  ·subst e';obtain ⟨its,r,pl,hz⟩:=I.tuple hx;have hlen:=r.length;exact truthy_tuple pl (by simp only[xbt];lia) ⟨H,I.tok _,by rw[zgj r];exact q⟩
  ·subst e';obtain ⟨hz,hS,vs,r,m⟩:kvs.length<=sizeLine/\(p == sysModules)=false/\∃vs,KV kvs vs/\s.heap.DictOf (mixKind X.prog X.w) p vs:=I.hok p _ hx
   have hlen:kvs.length=vs.length:=Paired.length r;exact wpAny_truthy_dict hS m (by lia) ⟨H,I.tok _,by rw[zkh r];exact q⟩
 | _=>exact (show False from e).elim
theorem zot (ha:PE X a ta) (he:∀whole,isTrue a X.env whole=(do let v ← whole;standAt a.pos;holding [v] (truthy v))) :
  PT X a (fun σ H Q=>ta σ H fun x H'=>∃k,TruV X.K x H' k/\Q k H'):=by
 intro pins s σ H Q I h;exact isTrue_plain (thn (ha pins s σ H _ I h) fun v s1 ⟨x,H1,I1,r1,q1⟩=>zvq pins s1 σ H1 x v Q I1 r1 q1) (he _)
theorem zjv:OpR X (binaryOp .Add) (fun x y H Q=>∃i j,x=.str i/\y=.str j/\i.length+j.length<=sizeLine/\Q (.str (i++j)) H):=by
 intro pins s σ H x y v u Q I rx ry h;obtain ⟨i,j,rfl,rfl,hz,q⟩:=h;obtain ⟨t,rfl⟩:=rx;obtain ⟨t',rfl⟩:=ry;exact add_str (fun t' tk=>⟨.str (i++j),H,I.tok _,⟨_,rfl⟩,q⟩) hz
theorem vals1 {x:V} {us:List Value} (r:Vals [x] us):∃u,us=[u]/\RelV x u:=by
 cases r with
 | cons r1 r2=>cases r2;exact ⟨_,rfl,r1⟩
theorem vals2 {x y:V} {us:List Value} (r:Vals [x,y] us):∃u w',us=[u,w']/\RelV x u/\RelV y w':=by
 cases r with
 | cons r1 r2 =>
  cases r2 with
  | cons r3 r4=>cases r4;exact ⟨_,_,rfl,r1,r3⟩
theorem zqs : CallR X (.builtin "abs") (fun xs H Q => ∃ i, xs = [.int i] /\ Q (.int (if i < 0 then -i else i)) H) := by
 intro pins s σ H xs us Q I r h;obtain ⟨i,rfl,q⟩:=h;obtain ⟨u,rfl,t,rfl⟩:=vals1 r;exact call_abs_int fun u tk=>⟨.int (if i < 0 then -i else i),H,I.tok _,⟨_,rfl⟩,q⟩
theorem zfz (hc : X.calm = true) : CallR X (.builtin "min") (fun xs H Q => ∃ i j, xs = [.int i, .int j] /\ Q (.int (if j < i then j else i)) H) := by
 intro pins s σ H xs us Q I r h;obtain ⟨i,j,rfl,q⟩:=h;obtain ⟨u,w',rfl,⟨t,rfl⟩,⟨t',rfl⟩⟩:=vals2 r;refine min_two_ints (I.ok.hd hc) fun h' tk k=>⟨_,H,I.kept k,?_,q⟩
 by_cases hj:j < i
 ·rw[if_pos hj,if_pos hj];exact ⟨_,rfl⟩
 ·rw[if_neg hj,if_neg hj];exact ⟨_,rfl⟩
theorem zil : CallR X (.type "int") (fun xs H Q => (∃ i, xs = [.int i] /\ Q (.int i) H) \/ ∃ k, xs = [.bl k] /\ Q (.int (if k then 1 else 0)) H) := by
 intro pins s σ H xs us Q I r h;rcases h with ⟨i,rfl,q⟩ | ⟨k,rfl,q⟩
 ·obtain ⟨u,rfl,t,rfl⟩:=vals1 r;exact call_int_int ⟨.int i,H,I,⟨_,rfl⟩,q⟩
 ·obtain ⟨u,rfl,r1⟩:=vals1 r;cases r1;exact call_int_bool ⟨.int (if k then 1 else 0),H,I.tok _,⟨_,rfl⟩,q⟩
end
structure ObjM (h:Heap) (x dx C:Addr) (mA:Str->Option Value):Prop where
 obj:h.get? x=some (PySem.W.instObj C dx)
 ns:h.Ns1 dx mA
 ne:dx≠x
theorem zmd {h:Heap} {dx:Addr} {mA:Str->Option Value} (n:h.Ns1 dx mA):∃od,h.get? dx=some od/\∀name,PySem.W.lookIn name od=some (mA name):=by
 obtain ⟨o,es,ep,ho,hd,hk,_,hm⟩:=n;refine ⟨o,ho,fun name=>?_⟩;have e:=hm name;unfold nsFind findBy at e;rw[← Array.find?_toList] at e;unfold PySem.W.lookIn;rw[hd];dsimp only;split
 ·rename_i y q;rw[q] at e;exact congrArg some e
 ·rename_i q;rw[q] at e;have a:es.toList.any (·.refKey)=false:=by
   rw[List.any_eq_false];intro y hy;obtain ⟨z,t,hkey⟩:=hk y (Array.mem_toList_iff.mp hy);simp[DictEntry.refKey,hkey]
  have a':¬ es.toList.any (·.refKey)=true:=by rw[a];exact xdz
  rw[if_neg a'];exact congrArg some e
theorem ObjM.look {h:Heap} {x dx C:Addr} {mA:Str->Option Value} (I:ObjM h x dx C mA):∃od,PySem.W.InstAt h x (PySem.W.instObj C dx) C (some od)/\∀name,PySem.W.lookIn name od=some (mA name) :=
 let ⟨od,ho,hl⟩:=zmd I.ns
 ⟨od,⟨I.obj,rfl,rfl,ho⟩,hl⟩
section
variable {prog:Program} {w:World} {A:Around} {E:Value->Shared->Prop} {s:Shared} {K:Fg} {x dx C f:Addr} {mA:Str->Option Value} {name:Str} {v:Value}
end
section
variable {P:Program} {w:World} {H H':Hp} {h h':Heap} {a C dx:Addr} {fs fs':List (Str × V)}
theorem ztf (hok:HOk P w H h) (e:H a=some (.ins C dx fs)):∃mA,ObjM h a dx C mA/\(∀f,RelO (fs.lookup f) (mA f))/\PySem.Within mA (fs.map (·.1))/\fs.length<=1000/\H dx=some (.own a):=by
 obtain ⟨d,z,ne,ob,mA,n,r,q⟩:=(show ObjOk P w H h a (.ins C dx fs) from hok a _ e)
 exact ⟨mA,⟨ob,n,ne⟩,r,q,z,d⟩
end
structure Cls (K:Fg) (C:Addr):Prop where
 pg:PySem.W.plainGet K C Str.empty=true
 hd:PySem.W.hasDictIn K C=true
 po:PySem.W.plainOver K C=true
 sa : PySem.W.findIn K (.ref C) "__setattr__" = some (some (.builtin "object.__setattr__"))
theorem Cls.get {K:Fg} {C:Addr} (c:Cls K C) (f:Str):PySem.W.plainGet K C f=true:=c.pg
section
variable {X:Cx} {pins:List (Addr × Obj)} {σ:St} {H:Hp} {s:Shared} {a C dx:Addr} {fs:List (Str × V)} {f:Str} {v:V} {A:Around} {E:Value->Shared->Prop}
end
section
variable {X:Cx} {o e value:Expr} {f:Str} {pos pos' tpos:Pos} {ta tv:TE}
end
section
variable {X:Cx} {pins:List (Addr × Obj)} {σ:St} {H:Hp} {s:Shared} {A:Around} {E:Value->Shared->Prop} {Q:Value->Shared->Prop} {c:Value} {b:Bool}
inductive TyOf (K:Fg) (H:Hp):V->Value->Prop where
 | non : TyOf K H .non (.type "NoneType")
 | bl (x : Bool) : TyOf K H (.bl x) (.type "bool")
 | int (i : Int) : TyOf K H (.int i) (.type "int")
 | str (x : Str) : TyOf K H (.str x) (.type "str")
 | flt (x : UInt64) : TyOf K H (.flt x) (.type "float")
 | lst {a : Addr} {xs : List V} (e : H a = some (.lst xs)) : TyOf K H (.ref a) (.type "list")
 | frz {a : Addr} {o : Obj} {xs : List V} (e : H a = some (.frz o (.lst xs))) : TyOf K H (.ref a) (.type "list")
 | tup {a : Addr} {xs : List V} (e : H a = some (.tup xs)) : TyOf K H (.ref a) (.type "tuple")
 | dK {a : Addr} {kvs : List (Key × V)} (e : H a = some (.dK kvs)) : TyOf K H (.ref a) (.type "dict")
 | dT {a : Addr} {kvs : List (List Key × V)} (e : H a = some (.dT kvs)) : TyOf K H (.ref a) (.type "dict")
 | ins {a C dx : Addr} {fs : List (Str × V)} (e : H a = some (.ins C dx fs)) (cl : Cls K C) (ha : PySem.W.findIn K (.ref C) "__class__" = some (some (.builtin "object.__class__")))
  (hn : PySem.W.specialIn K (.builtin "object.__class__") "__get__" = some (some (.builtin "getset_descriptor.__get__"))) (htk : PySem.W.takesIn K (.builtin "object.__class__") = some true)
  (hm : PySem.W.mroIn K C (.type "object") = some true) : TyOf K H (.ref a) (.ref C)
theorem zmj {x:V} {u t:Value} (I:Inv X pins σ H s) (rx:RelV x u) (ty:TyOf X.K H x t) (e:PySem.W.kitOne X.K t c=some b) (h:∀tk,Q (.bool b) {s with toks:=tk}) :
  wpAny (model X.prog X.w) A (call (.builtin "isinstance") [u, c]) Q E s := by
 cases ty with
 | non=>cases (show u=Value.none from rx);exact xdn PySem.W.kitx_none I.kIn True.intro e (fun z=>nomatch z) h
 | bl y=>cases (show u=Value.bool y from rx);exact xdn PySem.W.kitx_bool I.kIn True.intro e (fun z=>nomatch z) h
 | int i=>obtain ⟨t,q⟩:=(show ∃t,u=Value.int i t from rx);cases q;exact xdn PySem.W.kitx_int I.kIn True.intro e (fun z=>nomatch z) h
 | str y=>obtain ⟨t,q⟩:=(show ∃t,u=Value.str y t from rx);cases q;exact xdn PySem.W.kitx_str I.kIn True.intro e (fun z=>nomatch z) h
 | flt y=>obtain ⟨t,q⟩:=(show ∃t,u=Value.float y t from rx);cases q;exact xdn PySem.W.kitx_float I.kIn True.intro e (fun z=>nomatch z) h
 | @lst a xs ea =>
  cases (show u=Value.ref a from rx);obtain ⟨_,_,n,_,h1⟩:=(show ObjOk X.prog X.w H s.heap a (.lst xs) from I.hok a _ ea)
  exact xdn PySem.W.kitx_list I.kIn ⟨_,h1,rfl⟩ e (fun z=>nomatch z) h
 | @frz a ob xs ea =>
  cases (show u=Value.ref a from rx);obtain ⟨_,_,_,n,_,h1⟩:=(show ObjOk X.prog X.w H s.heap a (.frz ob (.lst xs)) from I.hok a _ ea)
  exact xdn PySem.W.kitx_list I.kIn ⟨_,h1,rfl⟩ e (fun z=>nomatch z) h
 | @tup a xs ea =>
  cases (show u=Value.ref a from rx);obtain ⟨_,_,_,p⟩:=(show ObjOk X.prog X.w H s.heap a (.tup xs) from I.hok a _ ea)
  obtain ⟨o,h1,h2,_⟩:=p;exact xdn PySem.W.kitx_tuple I.kIn ⟨o,h1,h2⟩ e (fun z=>nomatch z) h
 | @dK a kvs ea =>
  cases (show u=Value.ref a from rx);obtain ⟨_,_,vs,_,p⟩:=(show ObjOk X.prog X.w H s.heap a (.dK kvs) from I.hok a _ ea)
  obtain ⟨o,es,ep,h1,h2,_⟩:=p;exact xdn PySem.W.kitx_dict I.kIn ⟨o,h1,h2.1⟩ e (fun z=>nomatch z) h
 | @dT a kvs ea =>
  cases (show u=Value.ref a from rx);obtain ⟨_,_,xs,_,o,es,ep,h1,h2,_⟩:=(show ObjOk X.prog X.w H s.heap a (.dT kvs) from I.hok a _ ea)
  exact xdn PySem.W.kitx_dict I.kIn ⟨o,h1,h2.1⟩ e (fun z=>nomatch z) h
 | @ins a C dx fs ea cl ha hn htk hm =>
  cases (show u=Value.ref a from rx);obtain ⟨mA,O,_⟩:=ztf I.hok ea;obtain ⟨od,J,_⟩:=O.look;exact xdn (PySem.W.kitx_own (cl.get _) cl.hd ha hn htk hm) I.kIn J e (fun z=>nomatch z) h
end
structure Room (k:Nat) (A:Around):Prop where
 hd:A.handled=none
 dp:A.depth+3 * k+5 < recursionLimit
 un:A.units+16 * k+200 < cLine
theorem Room.mono {j k:Nat} {A:Around} (r:Room k A) (h:j<=k):Room j A:=⟨r.hd,by have:=r.dp;lia,by have:=r.un;lia⟩
theorem Room.deeper {k:Nat} {A:Around} (r:Room (k+1) A) (env:Env):Room k (A.deeper env) :=
 ⟨r.hd,by have:=r.dp;show A.depth+1+3 * k+5 < _;lia,by have:=r.un;show A.units+3+16 * k+200 < _;lia⟩
theorem Room.depth {k:Nat} {A:Around} (r:Room k A):A.depth < recursionLimit:=by have:=r.dp;lia
theorem Room.units {k:Nat} {A:Around} (r:Room k A):A.units+64 < cLine:=by have:=r.un;lia
theorem Room.units0 {k:Nat} {A:Around} (r:Room k A):A.units < cLine:=by have:=r.un;lia
noncomputable def tNil:TA:=fun _ H Q=>Q [] H
noncomputable def tCons (ta:TE) (tr:TA):TA:=fun σ H Q=>ta σ H fun x H1=>tr σ H1 fun xs H2=>Q (x::xs) H2
section
variable {X:Cx} {e:Expr} {es:List Expr} {te:TE} {t:TA} {pos:Pos}
theorem zpc:PA X [] tNil:=fun _ _ _ _ H Q I h=>Calls.spliced_nil ⟨[],H,I,.nil,h⟩
theorem zhu (ha:PE X e te) (hr:PA X es t) (hs:starEach (e::es) X.env=(false,eval e X.env)::starEach es X.env:=by rfl):PA X (e::es) (tCons te t):=by
 intro pos pins s σ H Q I h;rw[hs];show wpAny _ _ (spliced ((false,eval e X.env)::backTo pos (starEach es X.env))) _ _ s;refine Calls.spliced_cons (thn (ha pins s σ H _ I h) fun u s1 hq0=>?_);obtain ⟨x,H1,I1,r1,q1⟩:=hq0;exact thn (hr pos pins s1 σ H1 _ I1 q1) fun us s2 ⟨xs,H2,I2,r2,q2⟩=>⟨x::xs,H2,I2,.cons r1 r2,q2⟩
noncomputable def tTup (t:TA):TE:=fun σ H Q=>t σ H fun xs H1=>xs.length<=sizeLine/\∀p,H1 p=none->Q (.ref p) (upd H1 p (.tup xs))
noncomputable def tLst (t:TA):TE:=fun σ H Q=>t σ H fun xs H1=>xs.length<=sizeLine/\∀p,H1 p=none->Q (.ref p) (upd H1 p (.lst xs))
theorem zwj {x1} (h:PA X es t):PE X (.Tuple es x1 pos) (tTup t):=by
 intro pins s σ H Q I hq;refine wpAny_Tuple_spliced (thn (h pos pins s σ H _ I hq) fun us s1 ⟨xs,H1,I1,r,z,q⟩=>⟨by rw[← r.length];exact z,?_⟩);have hf:H1 s1.heap.objs.size=none:=I1.hok.fresh (xbg _);refine ⟨.ref s1.heap.objs.size,upd H1 s1.heap.objs.size (.tup xs),I1.laid (t':=s1.toks) (fun b u e=>xbe _ e) (xbg _) ?_,rfl,q _ hf⟩;exact ⟨z,us,r,⟨_,xbr _ rfl,rfl,_,rfl⟩⟩
theorem zsi (h:PA X es t):PE X (.List es pos) (tLst t):=by
 intro pins s σ H Q I hq;refine wpAny_List_spliced (thn (h pos pins s σ H _ I hq) fun us s1 ⟨xs,H1,I1,r,z,q⟩=>⟨by rw[← r.length];exact z,?_⟩);have hf:H1 s1.heap.objs.size=none:=I1.hok.fresh (xbg _);refine ⟨.ref s1.heap.objs.size,upd H1 s1.heap.objs.size (.lst xs),I1.laid (t':=s1.toks) (fun b u e=>xbe _ e) (xbg _) ?_,rfl,q _ hf⟩;exact ⟨z,us,0,r,xbr _ rfl⟩
end
noncomputable abbrev Sp:=List V->Hp->VK->XK->Prop
noncomputable abbrev CXT:=List Env->Hp->Shared->XK->Value->Shared->Prop
structure Env0 (P:Program) (w:World) (K:Fg) (mg:Str->Option Value) (base:Heap) (A:Around) (outer:List Env) (s:Shared) (H:Hp):Prop where
 frames:A.frames=some outer
 mod:Mod K mg base
 bs:∀b o,base.get? b=some o->s.heap.get? b=some o/\H b=none
 bsz:base.objs.size<=s.heap.objs.size
 funs:s.heap.FunFrames base outer
 frf:∀b∈frs outer,H b=none
 hok:HOk P w H s.heap
 bare:AllBare s.gens
noncomputable def CE (outer:List Env) (P:Program) (w:World) (H:Hp) (s:Shared) (Q:VK) (u:Value) (s':Shared):Prop :=
 ∃v H',s'.os=s.os/\AllBare s'.gens/\Un (frs outer) [] H H' s.heap s'.heap/\HOk P w H' s'.heap/\RelV v u/\Q v H'
noncomputable def CR (CX:CXT) (outer:List Env) (P:Program) (w:World) (H:Hp) (s:Shared) (Q:VK) (E:XK) (r:Result) (s':Shared):Prop :=
 match r with
 | .ok (.ret u)=>CE outer P w H s Q u s'
 | .ok _=>False
 | .error e=>CX outer H s E e s'
structure FnOk (P:Program) (w:World) (K:Fg) (mg:Str->Option Value) (base:Heap) (CX:CXT) (k:Nat) (f:Addr) (fd:FuncData) (ps:List Str) (sp:Sp):Prop where
 len:∀vs H Q E,sp vs H Q E->vs.length=ps.length
 run:∀(A:Around) (outer:List Env) (s:Shared) (H:Hp) (args:Args) (us:List Value) (vs:List V) (Q:VK) (E:XK),Room k A->Env0 P w K mg base A outer s H->BindsTo s fd args (ps.zip us)->Vals vs us->sp vs H Q E ->
  codeAny (model P w) A (.call (.ref f) args) (CR CX outer P w H s Q E) s
section
variable {X:Cx} {pins:List (Addr × Obj)} {σ:St} {H:Hp} {s s':Shared}
theorem Inv.env0 (I:Inv X pins σ H s):Env0 X.prog X.w X.K X.mg X.base X.A X.stack s H :=
 ⟨I.ok.frames,I.ok.mod,I.bs,xbb I.ok.bsz I.sz,I.stack,I.stkFree,I.hok,I.bare⟩
theorem Inv.after {Q:VK} {u:Value} (I:Inv X pins σ H s) (h:CE X.stack X.prog X.w H s Q u s'):EP X pins σ Q u s':=by
 obtain ⟨v,H',os,bare,un,hok,r,q⟩:=h;obtain ⟨hh,g,d,t,os'⟩:=s';obtain rfl:os'=s.os:=os;exact ⟨v,H',I.call (h':=hh) (g':=g) (d':=d) (t':=t) (ch:=[]) un hok bare (fun b z=>absurd z (by simp)),r,q⟩
end
noncomputable def tCall (sp:Sp) (dvs:List V) (E:XK) (t:TA):TE:=fun σ H Q=>t σ H fun vs H1=>sp (vs++dvs) H1 Q E
noncomputable def Binds (K:Fg) (fd:FuncData) (ps:List Str) (ds:List Value):Prop :=
 ∀(s:Shared) (us:List Value),K.In s.heap->(us++ds).length=ps.length->BindsTo s fd ⟨us,[]⟩ (ps.zip (us++ds))
theorem Binds.all {K:Fg} {fd:FuncData} {ps:List Str} (h:∀us:List Value,us.length=ps.length->bindArgs fd ⟨us,[]⟩=pure (ps.zip us)):Binds K fd ps []:=fun s us _ hl=>by
 rw[xdo] at hl ⊢;exact .of_eq (h us hl)
noncomputable def Passes (CX:CXT) (X:Cx) (E:XK):Prop:=∀(pins:List (Addr × Obj)) (σ:St) (H:Hp) (s:Shared) (e:Value) (s':Shared),Inv X pins σ H s->CX X.stack H s E e s'->X.xe e s'
section
variable {X:Cx} {CX:CXT} {k:Nat} {f C:Addr} {fd:FuncData} {ps:List Str} {sp:Sp} {dvs:List V} {ds:List Value} {E:XK} {x m:Str} {p pos apos:Pos} {e o:Expr} {es:List Expr} {ta:TE} {t:TA}
theorem zrv {pins:List (Addr × Obj)} {σ:St} {H:Hp} {s:Shared} {Q:VK} {us:List Value} {vs:List V} (F:FnOk X.prog X.w X.K X.mg X.base CX k f fd ps sp) (hr:Room k X.A) (hb:Binds X.K fd ps ds) (hd:Vals dvs ds) (hx:Passes CX X E)
  (I:Inv X pins σ H s) (r:Vals vs us) (h:sp (vs++dvs) H Q E):wpAny (model X.prog X.w) X.A (call (.ref f) us) (EP X pins σ Q) X.xe s:=by
 have r2:Vals (vs++dvs) (us++ds):=r.append hd;have hl:(us++ds).length=ps.length:=by rw[← r2.length];exact F.len _ _ _ _ h
 refine xid (xhi (F.run X.A X.stack s H ⟨us,[]⟩ (us++ds) (vs++dvs) Q E hr I.env0 (hb s us I.kIn hl) r2 h) fun r s' hq=>?_);cases r with
 | error e=>exact hx pins σ H s e s' I hq
 | ok fl =>
  cases fl with
  | ret u=>exact I.after hq
  | next=>exact False.elim hq
  | brk=>exact False.elim hq
  | cont=>exact False.elim hq
theorem zno (F:FnOk X.prog X.w X.K X.mg X.base CX k f fd ps sp) (hr:Room k X.A) (hg:Gl X x) (hm:X.mg x=some (.ref f)) (hk:PySem.W.keepIn X.K (.ref f)=true) (hb:Binds X.K fd ps ds) (hd:Vals dvs ds) (hx:Passes CX X E)
  (ha : PA X (e :: es) t) (hdb : (x == ("__debug__" : Str)) = false := by decide) (he : starEach (e :: es) X.env = (false, eval e X.env) :: starEach es X.env := by rfl) (hpl : (backTo pos (starEach es X.env)).any (·.1) = false := by rfl) :
  PE X (.Call (.Name x p) (e::es) [] pos) (tCall sp dvs E t):=by
 intro pins s σ H Q I h;refine xew (zff I hg hm ?_ hdb);refine xih (h₀:=X.base) I.ok.mod.kin hk (thn (ha pos pins s σ H _ I h) fun us s1 ⟨vs,H1,I1,r,q⟩=>⟨I1.kIn,?_⟩) he hpl;exact zrv F hr hb hd hx I1 r q
theorem zpa (F:FnOk X.prog X.w X.K X.mg X.base CX k f fd ps sp) (hr:Room k X.A) (hg:Gl X x) (hm:X.mg x=some (.ref f)) (hk:PySem.W.keepIn X.K (.ref f)=true) (hb:Binds X.K fd ps ds) (hd:Vals dvs ds) (hx:Passes CX X E)
  (hdb : (x == ("__debug__" : Str)) = false := by decide) : PE X (.Call (.Name x p) [] [] pos) (tCall sp dvs E tNil) := by
 intro pins s σ H Q I h;refine xew (zff I hg hm ?_ hdb);exact PySem.W.callWith_K0 I.kIn hk (zrv (us:=[]) F hr hb hd hx I .nil h)
end
section
variable {X:Cx} {CX:CXT} {k:Nat} {f C:Addr} {fd:FuncData} {ps ks:List Str} {sp:Sp} {E:XK} {x m:Str} {p pos apos kpos:Pos} {e o:Expr} {es:List Expr} {kws:List Keyword} {te ta:TE} {t tk:TA} {nm:Option Str}
variable {g:List Value->List Value->List Value} {gV:List V->List V->List V}
end
structure FnScope (N P:List Str) (sc:Scope):Prop where
 kind:sc.kind=.function
 co:sc.isCoroutine=false
 gen:sc.isGenerator=false
 nd:N.Nodup
 pre:N.take P.length=P
 par:∀x∈P,sc.names.lookup x=some .local\/sc.names.lookup x=some .cell
 nofree:∀y∈sc.names,y.2≠.free
theorem zim {kindOf:Str->Option NameKind} {x:Str}:∀{binds:List (Str × Value)} {m:Str->Option Value},(∀v,(x,v)∉binds)->bindL kindOf binds m x=m x
 | [],_,_=>rfl
 | (n,v)::r,m,h=>by
  unfold bindL;rw[zim fun w hw=>h w (xcv _ hw)];split
  ·have:x≠n:=by rintro rfl;exact h v xcf
   simp[this]
  ·rfl
theorem zio {kindOf:Str->Option NameKind} {x:Str}:∀{binds:List (Str × Value)} {m:Str->Option Value},(∀v,(x,v)∉binds)->bindC kindOf binds m x=m x
 | [],_,_=>rfl
 | (n,v)::r,m,h=>by
  unfold bindC;rw[zio fun w hw=>h w (xcv _ hw)];split
  ·rfl
  ·have:x≠n:=by rintro rfl;exact h v xcf
   simp[this]
theorem zin {kindOf:Str->Option NameKind} {x:Str} {v:Value}:∀{P:List Str} {vs:List Value} {i:Nat} {m:Str->Option Value},P.Nodup->P[i]?=some x->vs[i]?=some v->kindOf x=some .local ->
  bindL kindOf (P.zip vs) m x=some v
 | [],_,_,_,_,h,_,_=>by simp at h
 | _::_,[],_,_,_,_,h,_=>by simp at h
 | p::P,w::vs,0,m,nd,h1,h2,hk=>by
  simp at h1 h2;subst h1;subst h2
  show bindL kindOf ((p,w)::P.zip vs) m p=_;unfold bindL;rw[zim fun v hv=>(xia.mp nd).1 (xib hv).1,if_pos hk];simp
 | p::P,w::vs,i+1,m,nd,h1,h2,hk=>by
  show bindL kindOf ((p,w)::P.zip vs) m x=_;unfold bindL;exact zin (i:=i) (xia.mp nd).2 (by simpa using h1) (by simpa using h2) hk
theorem ziq {kindOf:Str->Option NameKind} {x:Str} {v:Value}:∀{P:List Str} {vs:List Value} {i:Nat} {m:Str->Option Value},P.Nodup->P[i]?=some x->vs[i]?=some v->kindOf x≠some .local ->
  bindC kindOf (P.zip vs) m x=some v
 | [],_,_,_,_,h,_,_=>by simp at h
 | _::_,[],_,_,_,_,h,_=>by simp at h
 | p::P,w::vs,0,m,nd,h1,h2,hk=>by
  simp at h1 h2;subst h1;subst h2
  show bindC kindOf ((p,w)::P.zip vs) m p=_;unfold bindC;rw[zio fun v hv=>(xia.mp nd).1 (xib hv).1,if_neg hk];simp
 | p::P,w::vs,i+1,m,nd,h1,h2,hk=>by
  show bindC kindOf ((p,w)::P.zip vs) m x=_;unfold bindC;exact ziq (i:=i) (xia.mp nd).2 (by simpa using h1) (by simpa using h2) hk
noncomputable def start (N:List Str) (vs:List V):St:=vs.map some++List.replicate (N.length - vs.length) none
noncomputable def cxOf (CX:CXT) (P:Program) (w:World) (K:Fg) (mg:Str->Option Value) (base:Heap) (N:List Str) (qual:Str) (scope:Scope) (f:Addr) (cd:Value) (A:Around) (outer:List Env) (s:Shared) (H:Hp) (E:XK):Cx where
 prog:=P
 w:=w
 K:=K
 mg:=mg
 base:=base
 A:=A.deeper (envOfC qual scope s.heap.objs.size f cd)
 N:=N
 s₀:=s
 H₀:=H
 env:=envOfC qual scope s.heap.objs.size f cd
 outer:=outer
 stack:=envOfC qual scope s.heap.objs.size f cd::outer
 ex:=[]
 calm:=true
 fn:=fun _=>true
 pn:=[]
 xe:=fun e s'=>wpAny (model P w) (A.deeper (envOfC qual scope s.heap.objs.size f cd)) (leaving (envOfC qual scope s.heap.objs.size f cd) e) (fun _ s''=>CX outer H s E e s'') (fun e' s''=>CX outer H s E e' s'') s'
theorem zkt {sc:Scope} {n:Nat} {x:Str} (h:sc.names.lookup x=some .cell):∃c,(cellsFrom n sc.names []).lookup x=some c:=by
 have q:=xhq sc.names n [] (.inl h);exact xhd.mp q
theorem zhz {CX:CXT} {P:Program} {w:World} {K:Fg} {mg:Str->Option Value} {base:Heap} {N ps:List Str} {qual:Str} {scope:Scope} {f:Addr} {cd:Value} {A:Around} {outer:List Env} {s s1:Shared} {H:Hp} {E:XK} {us:List Value} {vs:List V}
  (S:FnScope N ps scope) (hd:A.handled=none) (e0:Env0 P w K mg base A outer s H) (hl:vs.length=ps.length) (r:Vals vs us)
  (x:InCallC s s.heap.objs.size (bindL (envOfC qual scope s.heap.objs.size f cd).kindOf (ps.zip us) fun _=>none) (cellsFrom (s.heap.objs.size+1) scope.names []) (bindC (envOfC qual scope s.heap.objs.size f cd).kindOf (ps.zip us) fun _=>none) s1) :
  Inv (cxOf CX P w K mg base N qual scope f cd A outer s H E) [] (start N vs) H s1:=by
 have hpl:ps.length<=N.length:=by have:=congrArg List.length S.pre;rw[xea] at this;lia
 obtain ⟨h1,tk,rfl,hk⟩:=x.done;have noA:∀b:Addr,b∉(cxOf CX P w K mg base N qual scope f cd A outer s H E).ex:=fun b z=>absurd (show b∈([]:List Addr) from z) (by simp)
 refine ⟨⟨e0.mod,S.kind,rfl,rfl,xbg _,fun y z c h1 h2=>?_,fun y hy=>?_,fun y c _ h=>?_,fun _=>hd,Around.frames_deeper e0.frames,.inr ⟨rfl,rfl⟩,fun b z=>absurd z (noA b),e0.bs,e0.bsz,fun b _ _=>noA b,fun b z=>absurd z (noA b),e0.funs,e0.frf⟩,
  rfl,e0.bare,Un.kept hk,⟨_,x.toInCall.ns,fun i y v h1 h2 h3=>?_⟩,fun y c h=>⟨_,x.cell y c h⟩,e0.hok.fresh (xbg _),fun y c h=>?_,fun p hp=>absurd (show p∈([]:List (Addr × Obj)) from hp) (by simp),e0.hok.kept hk,?_,Hnd.none hd⟩
 ·exact name_of_addr x.apart (xdt h1) (xdt h2)
 ·have hy:scope.names.lookup y=some .cell\/scope.names.lookup y=some .free:=hy;rcases hy with hy | hy
  ·exact zkt hy
  ·exact absurd rfl (S.nofree _ (xdt hy))
 ·exact xbm (x.above y c (xdt h))
 ·have hi:i < vs.length:=by
   unfold start at h2;by_cases hi:i < vs.length
   ·exact hi
   ·rw[xbq (by simpa using hi)] at h2;rw[List.getElem?_replicate] at h2;split at h2<;>cases h2
  have ha:vs[i]?=some v:=by
   unfold start at h2;rw[xby (by simpa using hi),xcg] at h2;cases e:vs[i]? with
   | none=>rw[e] at h2;cases h2
   | some a=>rw[e] at h2;cases h2;rfl
  obtain ⟨u,hu,rv⟩:=r.get ha;have hp:ps[i]?=some y:=by
   rw[← S.pre,List.getElem?_take_of_lt (by lia)];exact h1
  have ndP:ps.Nodup:=by rw[← S.pre];exact S.nd.sublist (List.take_sublist _ _)
  refine ⟨u,rv,?_⟩;rcases S.par y (xcx hp) with k | k
  ·exact .inl ⟨k,zin ndP hp hu k⟩
  ·obtain ⟨c,e⟩:=zkt (n:=s.heap.objs.size+1) k;refine .inr ⟨.inl k,c,e,?_⟩;have q:=x.cell y c e;rw[ziq ndP hp hu (by show scope.names.lookup y≠_;rw[k];decide)] at q;exact q
 ·exact e0.hok.fresh (xbm (x.above y c (xdt h)))
 ·unfold start;show _=N.length;rw[xbx,xbk,xfi];lia
theorem zxo {CX:CXT} {P:Program} {w:World} {K:Fg} {mg:Str->Option Value} {base:Heap} {k:Nat} {f:Addr} {name qual:Str} {params:Arguments} {body:List Stmt} {scope:Scope} {dV kV doc pm cdv ct oc:Value} {an od:Option Addr}
  {osl:Array (Option Value)} {N ps:List Str} {sp:Sp} (lk:K.lookup f=some ⟨oc,od,.func (PySem.W.fnOf name qual params body scope dV kV doc pm an cdv ct),osl⟩) (hcd:PySem.W.codeIn K cdv qual=true) (S:FnScope N ps scope)
  (len:∀vs H Q E,sp vs H Q E->vs.length=ps.length)
  (hbody:∀(A:Around) (outer:List Env) (s:Shared) (H:Hp) (vs:List V) (Q:VK) (E:XK),Room k (A.deeper (envOfC qual scope s.heap.objs.size f cdv))->sp vs H Q E ->
   ∃t,PSs (cxOf CX P w K mg base N qual scope f cdv A outer s H E) body t/\t {nx:=fun _ H'=>Q .non H',rt:=Q} (start N vs) H) :
  FnOk P w K mg base CX (k+1) f (PySem.W.fnOf name qual params body scope dV kV doc pm an cdv ct) ps sp:=by
 refine ⟨len,fun A outer s H args us vs Q E hr e0 hb r hsp=>?_⟩;have hl:=len _ _ _ _ hsp;have KX:K.In s.heap:=e0.mod.kin.keeps fun b o e=>(e0.bs b o e).1
 have lim:s.heap.NoLimit:=e0.mod.nolimit.keeps fun b o e=>(e0.bs b o e).1
 have hkind:∀y∈ps.zip us,scope.names.lookup y.1=some .local\/(scope.names.lookup y.1=some .cell/\((cellsFrom (s.heap.objs.size+1) scope.names []).lookup y.1).isSome=true):=fun hq0 hy=>by
  obtain ⟨n,v⟩:=hq0;rcases S.par n (xib hy).1 with q | q
  ·exact .inl q
  ·exact .inr ⟨q,xhq _ _ _ (.inl q)⟩
 refine codeAny_call_function hr.depth (KX _ _ lk) rfl S.co S.gen rfl (PySem.W.codeRec_of KX hcd) (hb _ _ _ _ ?_);refine wpAny_newFunctionEnv_cells S.kind hkind fun env he s1 x=>?_
 subst he;refine ⟨lim.keeps x.toInCall.keep,codeAny_func ?_⟩;obtain ⟨t,ht,hq⟩:=hbody A outer s H vs Q E (hr.deeper _) hsp;have I:Inv (cxOf CX P w K mg base N qual scope f cdv A outer s H E) [] (start N vs) H s1:=zhz S hr.hd e0 hl r x;refine xdi (ht [] s1 (start N vs) H _ I hq) (fun fl s' hs=>?_) fun e s' hs=>hs
 have fin:∀{σ':St} {H':Hp} {v:V} {u:Value},Inv (cxOf CX P w K mg base N qual scope f cdv A outer s H E) [] σ' H' s'->RelV v u->Q v H'->CE outer P w H s Q u s' :=
  fun {σ' H' v u} J rv q=>⟨v,H',J.os,J.bare,J.base,J.hok,rv,q⟩
 cases fl with
 | ret u =>
  obtain ⟨v,σ',H',J,rv,q⟩:=hs;exact fin J rv q
 | next =>
  obtain ⟨σ',H',J,q⟩:=hs;exact fin (v:=V.non) (u:=Value.none) J rfl q
 | brk =>
  obtain ⟨_,_,_,q⟩:=hs;exact False.elim q
 | cont =>
  obtain ⟨_,_,_,q⟩:=hs;exact False.elim q
section
variable {X:Cx} {x:Str} {p pos:Pos} {e:Expr} {es:List Expr} {t:TA} {id T:String} {r:List V->Hp->VK->Prop}
noncomputable def tCB (r:List V->Hp->VK->Prop) (t:TA):TE:=fun σ H Q=>t σ H fun vs H1=>r vs H1 Q
theorem zjt (hc : CallR X (.builtin id) r) (hg : Gl X x) (hm : X.mg x = none) (hv : bootBuiltins x = some (.builtin id)) (ha : PA X (e :: es) t) (hn : x ≠ "__name__" := by decide) (hdb : (x == ("__debug__" : Str)) = false := by decide)
  (he:starEach (e::es) X.env=(false,eval e X.env)::starEach es X.env:=by rfl) (hpl:(backTo pos (starEach es X.env)).any (·.1)=false:=by rfl):PE X (.Call (.Name x p) (e::es) [] pos) (tCB r t):=by
 intro pins s σ H Q I h;refine xew (zke I hg hm hv ?_ hn hdb);exact PyProof.Rows.callWith_builtin1 (thn (ha pos pins s σ H _ I h) fun us s1 ⟨vs,H1,I1,r1,q1⟩=>hc pins s1 σ H1 vs us Q I1 r1 q1) he hpl
theorem zls (hc : CallR X (.type T) r) (hg : Gl X x) (hm : X.mg x = none) (hv : bootBuiltins x = some (.type T)) (ha : PA X (e :: es) t) (hn : x ≠ "__name__" := by decide) (hdb : (x == ("__debug__" : Str)) = false := by decide)
  (he:starEach (e::es) X.env=(false,eval e X.env)::starEach es X.env:=by rfl) (hpl:(backTo pos (starEach es X.env)).any (·.1)=false:=by rfl):PE X (.Call (.Name x p) (e::es) [] pos) (tCB r t):=by
 intro pins s σ H Q I h;refine xew (zke I hg hm hv ?_ hn hdb);exact xgm (thn (ha pos pins s σ H _ I h) fun us s1 ⟨vs,H1,I1,r1,q1⟩=>hc pins s1 σ H1 vs us Q I1 r1 q1) he hpl
end
end L2
namespace HT
open PySem PyProof.Rows
noncomputable def lexLt:List Int->List Int->Bool
 | [],[]=>false
 | [],_::_=>true
 | _::_,[]=>false
 | x::xs,y::ys=>if x=y then lexLt xs ys else decide (x < y)
theorem zbq (x y:Int) (xs ys:List Int):lexLt (x::xs) (y::ys)=if x=y then lexLt xs ys else decide (x < y):=rfl
theorem zcd:lexLt [] []=false:=rfl
theorem zbf (y:Int) (ys:List Int):lexLt [] (y::ys)=true:=rfl
theorem zbt (x:Int) (xs:List Int):lexLt (x::xs) []=false:=rfl
theorem zpu (A:Around) (s:Shared) (a:Int) (t:Tok) (c:Int) (u:Tok):∃e,SeqAt.EqAt A s (.int a t) (.int c u) e/\(e=true↔a=c) :=
 ⟨(a == c),SeqAt.EqAt.int_int a t c u,by simp⟩
theorem zop (A:Around) (s:Shared) (a:Int) (t:Tok) (c:Int) (u:Tok) (prog:Program) (w:World) (E:Value->Shared->Prop) (Q:Value->Shared->Prop) (h:Q (.bool (decide (a < c))) s) :
  wpAny (model prog w) A (richCompare .Lt (.int a t) (.int c u)) Q E s :=
 (PyProof.Rows.lt_int h:wpAny (model prog w) A (compareOp .Lt (.int a t) (.int c u)) Q E s)
section
open PySem.SeqAt
open PySem.AutoSeq1 (wpAny_loadPart')
open PySem.MeetsSeq PySem.MeetsSeq2 PySem.MeetsSeq3
theorem zdm (l b:Addr) (items items2:Array Value) (n n2:Nat) (dd dd2:Option Addr) (sl sl2:Array (Option Value)) (ns ms:List Int) (hi:IntsAre items.toList ns) (hj:IntsAre items2.toList ms) :
  Meets (Builtin.«tuple.__lt__» ⟨[.ref l,.ref b],[]⟩)
   (fun _ R s => s.heap.get? l = some { cls := .type "tuple", dict := dd, data := .seq items n, slots := sl } /\ s.heap.get? b = some { cls := .type "tuple", dict := dd2, data := .seq items2 n2, slots := sl2 } /\
    R (.ok (.ret (.bool (lexLt ns ms)))) s) :=
 .of_wp fun prog w A R s h=>by
  obtain ⟨hp,g,d,tk,os⟩:=s;obtain ⟨hl,hb,h⟩:=h
  have f2:=AutoSeq1.sub_tuple_tuple;have z1:items.size=ns.length:=by rw[← hi.length];simp
  have z2:items2.size=ms.length:=by rw[← hj.length];simp
  wp_walk using wpAny_loadPart' hl,wpAny_loadPart' hb,wpAny_forIn_list _ (fun rest b s'=>b.1=none/\s'=⟨hp,g,d,tk,os⟩/\∃(vs ws:List Value) (ns' ms':List Int),rest=vs.zip ws /\
   IntsAre vs ns'/\IntsAre ws ms'/\ns'.length+items2.size=ms'.length+items.size/\R (.ok (.ret (.bool (lexLt ns' ms')))) ⟨hp,g,d,tk,os⟩) _
  case turn =>
   rintro ⟨y,x⟩ rest b s' ⟨hb',rfl,vs,ws,ns',ms',hz,hvi,hwi,hlen,hR⟩;cases hvi with
   | nil=>rw[List.zip_nil_left] at hz;cases hz
   | cons a t hvi' =>
    cases hwi with
    | nil=>rw[List.zip_nil_right] at hz;cases hz
    | cons c u hwi' =>
     rw[List.zip_cons_cons] at hz;injection hz with hyx hrest
     injection hyx with hy hx
     subst hy hx;rw[zbq] at hR;simp only[xcn] at hlen;obtain ⟨e,he,hiff⟩:=zpu A.in1 ⟨hp,g,d,tk,os⟩ a t c u;refine xba (he prog w _ _ ?_);cases e with
     | true =>
      rw[if_pos (hiff.mp rfl)] at hR
      wp_walk
      exact ⟨rfl,rfl,_,_,_,_,hrest,hvi',hwi',by lia,hR⟩
     | false =>
      rw[if_neg (fun q=>absurd (hiff.mpr q) xdz)] at hR;have hri:=zop A.in1 ⟨hp,g,d,tk,os⟩ a t c u prog w
      wp_walk using hri
      exact ⟨_,rfl,by simpa using hR⟩
  case fin =>
   rintro ⟨b1,b2⟩ s' ⟨hb',rfl,vs,ws,ns',ms',hz,hvi,hwi,hlen,hR⟩;simp only at hb';subst hb';have hv:lexLt ns' ms'=decide (items.size < items2.size):=by
    cases hvi with
    | nil =>
     cases hwi with
     | nil =>
      simp only[xix] at hlen;rw[zcd];exact (xdb (by lia)).symm
     | cons c u hw =>
      simp only[xix,xcn] at hlen;rw[zbf];exact (xdc (by lia)).symm
    | cons a t hv =>
     cases hwi with
     | nil =>
      simp only[xix,xcn] at hlen;rw[zbt];exact (xdb (by lia)).symm
     | cons c u hw =>
      rw[List.zip_cons_cons] at hz;cases hz
   rw[hv] at hR
   wp_walk
   exact ⟨_,rfl,by simpa [Builtin.Tuple.tupleCompareSizes] using hR⟩
  case h =>
   exact ⟨rfl,rfl,items.toList,items2.toList,ns,ms,rfl,hi,hj,by lia,h⟩
end
section
variable {prog:Program} {w:World} {A:Around} {E:Value->Shared->Prop} {s:Shared}
theorem zgi {l b:Addr} {items items2:Array Value} {ns ms:List Int} {Q:Value->Shared->Prop} (hl:IsTup s.heap l items) (hb:IsTup s.heap b items2) (hi:IntsAre items.toList ns) (hj:IntsAre items2.toList ms)
  (hu:A.units < cLine) (h:Q (.bool (lexLt ns ms)) s):wpAny (model prog w) A (compareOp .Lt (.ref l) (.ref b)) Q E s:=by
 obtain ⟨⟨cls,dd,data,sl⟩,ho,hc,n,hd⟩:=id hl;obtain ⟨⟨cls2,dd2,data2,sl2⟩,ho2,hc2,n2,hd2⟩:=id hb;simp only at hc hd hc2 hd2;subst hc hd hc2 hd2;exact richCompare_meets_room (op:=.Lt) ⟨_,ho,rfl⟩ ⟨_,ho2,rfl⟩ xhx PySem.F.entry_tuple_lt (PySem.F.args_tuple_lt_2 _ _) (zdm l b items items2 n n2 dd dd2 sl sl2 ns ms hi hj)
  ⟨ho,ho2,show Value.bool (lexLt ns ms)≠Value.notImplemented/\Q (.bool (lexLt ns ms)) s from ⟨(fun x=>nomatch x),h⟩⟩ hu
theorem zuj {t b:Addr} {vs ws:List Value} {Q:Value->Shared->Prop} (ht:IsTup s.heap t vs.toArray) (hb:IsTup s.heap b ws.toArray) (hv:vs≠[])
  (h1 : ws = [] -> Q (.ref t) s) (h2 : ws ≠ [] -> Q (.ref s.heap.objs.size) { s with heap := s.heap.push { cls := .type "tuple", data := .seq (vs ++ ws).toArray } })
  (hsz:vs.length+ws.length<=sizeLine):wpAny (model prog w) A (binaryOp .Add (.ref t) (.ref b)) Q E s:=by
 obtain ⟨⟨cls,dd,data,sl⟩,ho,hc,n,hd⟩:=id ht;obtain ⟨⟨cls2,dd2,data2,sl2⟩,ho2,hc2,n2,hd2⟩:=id hb;simp only at hc hd hc2 hd2;subst hc hd hc2 hd2;have e:vs.toArray++ws.toArray=(vs++ws).toArray:=by simp
 by_cases hw:ws=[]
 ·exact concat_meets ⟨_,ho,rfl⟩ ⟨_,ho2,rfl⟩ noFill_tuple_add seq_tuple_add xhr xhj (xhe _ _)
   (tuple_addW1 t b vs.toArray ws.toArray n n2 dd dd2 sl sl2 (by simpa using hv) (by simp[hw])) ⟨ho,ho2,h1 hw⟩
 ·refine concat_meets ⟨_,ho,rfl⟩ ⟨_,ho2,rfl⟩ noFill_tuple_add seq_tuple_add xhr xhj (xhe _ _)
   (tuple_addW2 t b vs.toArray ws.toArray n n2 dd dd2 sl sl2 (by simpa using hv) (by simpa using hw) (by rw[xbt,xbt];exact hsz)) ⟨ho,ho2,?_⟩
  rw[e];exact h2 hw
noncomputable def sIx (n d:Nat):Option Int->Nat
 | none=>d
 | some v=>if v < 0 then (v+(n:Int)).toNat else min v.toNat n
end
end HT
namespace L2
open PySem PySem.Spec PyProof.Rows
theorem zcy {ns:List Int}:∀{us:List Value},Vals (ns.map V.int) us->IntsAre us ns:=by
 induction ns with
 | nil=>intro us r;rw[List.map_nil] at r;cases r;exact .nil
 | cons n ns ih =>
  intro us r;rw[xcd] at r;cases r with
  | cons r1 r2 =>
   obtain ⟨t,e⟩:=r1;subst e;exact .cons n t (ih r2)
section
variable {X:Cx} {e:Expr} {te:TE} {lo hi:Option Expr} {tl th:TO} {pos p2:Pos}
noncomputable def rLtT (K:Fg):R2:=fun x y H Q=>∃a b ns ms,x=.ref a/\y=.ref b/\SqT K H a (ns.map V.int)/\SqT K H b (ms.map V.int)/\Q (.bl (HT.lexLt ns ms)) H
theorem zws (hu:X.A.units < cLine):OpR X (compareOp .Lt) (rLtT X.K):=by
 intro pins s σ H x y v u Q I rx ry h;obtain ⟨a,b,ns,ms,rfl,rfl,ha,hb,q⟩:=h;cases rx;cases ry;obtain ⟨its,r1,p1,_⟩:=I.tuple ha;obtain ⟨its2,r2,p2,_⟩:=I.tuple hb;have i1:IntsAre its.toArray.toList ns:=zcy r1;have i2:IntsAre its2.toArray.toList ms:=zcy r2;exact HT.zgi p1 p2 i1 i2 hu ⟨.bl (HT.lexLt ns ms),H,I,rfl,q⟩
noncomputable def rCatT (K:Fg):R2:=fun x y H Q=>∃a b xs ys,x=.ref a/\y=.ref b/\SqT K H a xs/\SqT K H b ys/\xs≠[]/\xs.length+ys.length<=sizeLine /\
 (ys=[]->Q (.ref a) H)/\(ys≠[]->∀p,H p=none->Q (.ref p) (upd H p (.tup (xs++ys))))
theorem Vals.nil_iff {xs:List V} {us:List Value} (r:Vals xs us):us=[]↔xs=[]:=by
 cases r with
 | nil=>simp
 | cons _ _=>simp
theorem zsn:OpR X (binaryOp .Add) (rCatT X.K):=by
 intro pins s σ H x y v u Q I rx ry h;obtain ⟨a,b,xs,ys,rfl,rfl,ha,hb,hx,hz,q1,q2⟩:=h;cases rx;cases ry;obtain ⟨its,r1,p1,_⟩:=I.tuple ha;obtain ⟨its2,r2,p2,_⟩:=I.tuple hb;refine HT.zuj p1 p2 (fun z=>hx (r1.nil_iff.mp z)) (fun z=>⟨.ref a,H,I,rfl,q1 (r2.nil_iff.mp z)⟩) (fun z=>?_) (by rw[← r1.length,← r2.length];exact hz);refine ⟨.ref s.heap.objs.size,_,I.laid (t':=s.toks) (o:=.tup (xs++ys)) (fun b ob q=>xbe _ q) (xbg _) ?_,rfl,q2 (fun w=>z (r2.nil_iff.mpr w)) _ (I.hok.fresh (xbg _))⟩;exact ⟨by rw[xbx];exact hz,_,r1.append r2,IsTup.new _ _⟩
end
noncomputable def ixN (n:Nat) (i:Int):Option Nat:=if 0<=i then (if i < n then some i.toNat else none) else if -(n:Int)<=i then some (i+n).toNat else none
noncomputable def atI {α:Type} (xs:List α) (i:Int):Option α:=(ixN xs.length i).bind fun j=>xs[j]?
theorem zns {n:Nat} {i:Int} {j:Nat} (h:ixN n i=some j):seqIndex? i n=some j/\j < n/\-(n:Int)<=i/\i < n:=by
 unfold ixN at h;by_cases h0:0<=i
 ·rw[if_pos h0] at h;by_cases h1:i < n
  ·rw[if_pos h1] at h;have e:i.toNat=j:=xca h;exact ⟨by rw[seqIndex_of h0 h1,e],by lia,by lia,h1⟩
  ·rw[if_neg h1] at h;cases h
 ·rw[if_neg h0] at h;by_cases h1:-(n:Int)<=i
  ·rw[if_pos h1] at h;have e:(i+n).toNat=j:=xca h;exact ⟨by rw[seqIndex_neg (by lia) h1,e],by lia,h1,by lia⟩
  ·rw[if_neg h1] at h;cases h
theorem zkv {α:Type} {xs:List α} {i:Int} {v:α} (h:atI xs i=some v):∃j,seqIndex? i xs.length=some j/\xs[j]?=some v/\j < xs.length/\-(xs.length:Int)<=i/\i < xs.length:=by
 unfold atI at h;cases e:ixN xs.length i with
 | none=>rw[e] at h;cases h
 | some j =>
  rw[e] at h;obtain ⟨h1,h2,h3,h4⟩:=zns e;exact ⟨j,h1,h,h2,h3,h4⟩
theorem zob {α:Type} {xs:List α} {j:Nat} {v:α} (h:xs[j]?=some v):atI xs (j:Int)=some v:=by
 have hj:j < xs.length:=(xbn.mp h).1;have e:ixN xs.length (j:Int)=some j:=by
  unfold ixN;rw[if_pos (by lia),if_pos (by lia)];simp
 unfold atI;rw[e];exact h
noncomputable def PlainIx (b:Expr):Prop:=∀o i,subscripted b false o i=operate [o,i] (getItem o i)
noncomputable def IxR (X:Cx) (r:R2):Prop :=
 ∀(value slice:Expr) (pins:List (Addr × Obj)) (s:Shared) (σ:St) (H:Hp) (x y:V) (v u:Value) (Q:VK),Inv X pins σ H s->RelV x v->RelV y u->r x y H Q ->
  subscripted slice false v u=operate [v,u] (getItem v u)->wpAny (model X.prog X.w) X.A (subscriptTail value slice v u) (EP X pins σ Q) X.xe s
noncomputable def MtR (X:Cx) (id:String) (r:V->List V->Hp->VK->Prop):Prop :=
 ∀(pins:List (Addr × Obj)) (s:Shared) (σ:St) (H:Hp) (x:V) (xs:List V) (v:Value) (us:List Value) (Q:VK),Inv X pins σ H s->RelV x v->Vals xs us->r x xs H Q ->
  wpAny (model X.prog X.w) X.A (call (.builtin id) (v::us)) (EP X pins σ Q) X.xe s
section
variable {X:Cx} {a b:Expr} {ta tb:TE} {pos:Pos}
theorem IxR.or {r r':R2} (h:IxR X r) (h':IxR X r'):IxR X (fun x y H Q=>r x y H Q\/r' x y H Q):=by
 intro value slice pins s σ H x y v u Q I rx ry q hs;rcases q with q | q
 ·exact h value slice pins s σ H x y v u Q I rx ry q hs
 ·exact h' value slice pins s σ H x y v u Q I rx ry q hs
theorem zbap {r:R2} (hr:IxR X r) (ha:PE X a ta) (hb:PE X b tb) (hs:PlainIx b):PE X (.Subscript a b pos) (tOp r ta tb):=by
 intro pins s σ H Q I h;exact Subscript_ (binT ha hb I h fun v u s2 x y H2 I2 rx ry q=>hr a b pins s2 σ H2 x y v u Q I2 rx ry q (hs _ _))
noncomputable def rIxL (K:Fg):R2:=fun x y H Q=>∃p xs i v,x=.ref p/\y=.int i/\SqL K H p xs/\atI xs i=some v/\Q v H
noncomputable def rIxT (K:Fg):R2:=fun x y H Q=>∃p xs i v,x=.ref p/\y=.int i/\SqT K H p xs/\atI xs i=some v/\Q v H
noncomputable def rIxS:R2:=fun x y H Q=>∃z i c,x=.str z/\y=.int i/\z.length<=sizeLine/\atI z.cps.toList i=some c/\Q (.str ⟨#[c]⟩) H
theorem ztc:IxR X (rIxL X.K):=by
 intro value slice pins s σ H x y v u Q I rx ry h hs;obtain ⟨p,xs,i,z,rfl,rfl,hq,he,q⟩:=h;cases rx;obtain ⟨t,rfl⟩:=ry;obtain ⟨its,r,pl,hz⟩:=I.list hq;obtain ⟨j,h1,h2,h3,h4,h5⟩:=zkv he;obtain ⟨w,ew,rw'⟩:=r.get h2;have hl:=r.length;have hn:=line63;have fin:EP X pins σ Q w s:=⟨z,H,I,rw',q⟩
 by_cases h0:0<=i
 ·have hj:i.toNat=j:=by
   rw[seqIndex_of h0 h5] at h1;exact xca h1
  exact item_listR pl.isList h0 (by lia) (by rw[hj];simpa using ew) fin hs
 ·have hj:(i+(its.toArray.size:Int)).toNat=j:=by
   rw[seqIndex_neg (by lia) h4] at h1;rw[xbt,← hl];exact xca h1
  exact subscriptTail_builtinR (x:=w) pl.isList.typeIs slot_list_getitem.lookup
   (wpAny_getItem_list_neg (Q:=fun r s'=>r=w/\EP X pins σ Q r s') pl.isList (by lia) (by rw[xbt]<;>lia) (by lia) (by rw[hj];simpa using ew) ⟨rfl,fin⟩) hs
theorem zxe:IxR X (rIxT X.K):=by
 intro value slice pins s σ H x y v u Q I rx ry h hs;obtain ⟨p,xs,i,z,rfl,rfl,hq,he,q⟩:=h;cases rx;obtain ⟨t,rfl⟩:=ry;obtain ⟨its,r,pl,hz⟩:=I.tuple hq;obtain ⟨j,h1,h2,h3,h4,h5⟩:=zkv he;obtain ⟨w,ew,rw'⟩:=r.get h2;have hl:=r.length;have hn:=line63;have fin:EP X pins σ Q w s:=⟨z,H,I,rw',q⟩
 exact subscriptTail_builtinR (x:=w) pl.typeIs slot_tuple_getitem.lookup
  (getItem_tuple (j:=j) (Q:=fun r s'=>r=w/\EP X pins σ Q r s') pl (by lia) (by lia) (by rw[xbt,← hl];exact h1) (by simpa using ew) ⟨rfl,fin⟩) hs
theorem zxf:IxR X rIxS:=by
 intro value slice pins s σ H x y v u Q I rx ry h hs;obtain ⟨z,i,c,rfl,rfl,hz,he,q⟩:=h;obtain ⟨t,rfl⟩:=rx;obtain ⟨t',rfl⟩:=ry;obtain ⟨j,h1,h2,h3,h4,h5⟩:=zkv he;have hl:z.cps.toList.length=z.length:=by simp[Str.length]
 rw[hl] at h1 h4 h5;have hn:=line63
 exact tail_any (typeIs_str s z t) slot_str_getitem.lookup (getItem_str (c:=c) (by
  have e1:decide (i < -(2 ^ 63:Int))=false:=xdb (by lia);have e2:decide (i ≥ 2 ^ 63)=false:=xdb (by lia)
  rw[e1,e2,Bool.or_false]) (by rw[h1];simpa using h2) ⟨.str ⟨#[c]⟩,H,I.tok _,⟨_,rfl⟩,q⟩) hs
noncomputable def rIx (K:Fg):R2:=fun x y H Q=>rIxL K x y H Q\/rIxT K x y H Q\/rIxS x y H Q
theorem zxg:IxR X (rIx X.K):=ztc.or (zxe.or zxf)
theorem zka (its : List Value) (n j : Nat) (u : Value) : Obj.mapSeq (·.setIfInBounds j u) { cls := .type "list", data := .seq its.toArray n } = { cls := .type "list", data := .seq (its.set j u).toArray n } := by
 simp[Obj.mapSeq]
theorem Inv.lst {pins:List (Addr × Obj)} {σ:St} {H:Hp} {s:Shared} {p:Addr} {xs:List V} (I:Inv X pins σ H s) (h:H p=some (.lst xs)) :
  ∃ (its : List Value) (n : Nat), Vals xs its /\ s.heap.get? p = some { cls := .type "list", data := .seq its.toArray n } /\ xs.length <= sizeLine := by
 obtain ⟨z,its,n,r,e⟩:=I.hok p _ h;exact ⟨its,n,r,e,z⟩
theorem Inv.lstUpd {pins:List (Addr × Obj)} {σ:St} {H:Hp} {s:Shared} {p:Addr} {xs ys:List V} {its its':List Value} {n n':Nat} {f:Obj->Obj} (I:Inv X pins σ H s) (h:H p=some (.lst xs))
  (ho : s.heap.get? p = some { cls := .type "list", data := .seq its.toArray n }) (hf : f { cls := .type "list", data := .seq its.toArray n } = { cls := .type "list", data := .seq its'.toArray n' }) (r : Vals ys its') (hz : ys.length <= sizeLine) (t : Nat) :
  Inv X pins σ (upd H p (.lst ys)) {s with heap:=s.heap.update p f,toks:=t}:=by
 have e : (s.heap.update p f).get? p = some { cls := .type "list", data := .seq its'.toArray n' } := by
  rw[xgi f ho (by rw[hf]<;>rfl),hf]
 refine I.write (x:=p) (e:=p) (by rw[h];trivial) (.inl rfl) (fun b u hb q=>(xck _ _ (xeg hb)).trans q) ⟨_,e⟩ ?_;exact ⟨hz,its',n',r,e⟩
noncomputable def rSetL:V->V->V->Hp->(Hp->Prop)->Prop:=fun o i v H Q=>∃p xs k j,o=.ref p/\i=.int k/\H p=some (.lst xs)/\ixN xs.length k=some j/\Q (upd H p (.lst (xs.set j v)))
theorem zom:PSet X rSetL:=by
 intro pins s σ H o i v ov iv u Q I ro ri rv h;obtain ⟨p,xs,k,j,rfl,rfl,hp,hj,q⟩:=h;cases ro;obtain ⟨t,rfl⟩:=ri;obtain ⟨its,n,r,ho,hz⟩:=I.lst hp;obtain ⟨h1,h2,h3,h4⟩:=zns hj;have hl:=r.length;have hn:=line63;have I':Inv X pins σ (upd H p (.lst (xs.set j v))) {s with heap:=s.heap.update p (Obj.mapSeq (·.setIfInBounds j u))} :=
  I.lstUpd hp ho (zka its n j u) (r.set rv j) (by rw[xex];exact hz) s.toks
 by_cases h0:0<=k
 ·have hk:k.toNat=j:=by
   rw[seqIndex_of h0 h4] at h1;exact xca h1
  exact PySem.W.ki_setAt ho h0 (by lia) (by rw[xbt,← hl];exact h4) (by rw[hk];exact ⟨_,I',q⟩)
 ·have hk:(k+(its.toArray.size:Int)).toNat=j:=by
   rw[seqIndex_neg (by lia) h3] at h1;rw[xbt,← hl];exact xca h1
  exact PySem.W.ki_setBack ho (by lia) (by rw[xbt,← hl];exact h3) (by lia) (by rw[hk];exact ⟨_,I',q⟩)
theorem zbv : CallR X (.builtin "len") (fun xs H Q => ∃ p ys, xs = [.ref p] /\ (SqL X.K H p ys \/ SqT X.K H p ys) /\ Q (.int ys.length) H) := by
 intro pins s σ H xs us Q I r h;obtain ⟨p,ys,rfl,hq,q⟩:=h;obtain ⟨u,rfl,rx⟩:=vals1 r;cases rx;have hn:=line63;rcases hq with hq | hq
 ·obtain ⟨its,r',pl,hz⟩:=I.list hq;have hlen:=r'.length;exact Calls.call_len_list pl.isList (by simp only[xbt]<;>lia) ⟨.int ys.length,H,I.tok _,⟨s.toks+1,by rw[xbt,hlen]⟩,q⟩
 ·obtain ⟨its,r',pl,hz⟩:=I.tuple hq;have hlen:=r'.length;exact len_tuple pl (by simp only[xbt]<;>lia) ⟨.int ys.length,H,I.tok _,⟨s.toks+1,by rw[xbt,hlen]⟩,q⟩
theorem CallR.or {f:Value} {r r':List V->Hp->VK->Prop} (h:CallR X f r) (h':CallR X f r'):CallR X f (fun xs H Q=>r xs H Q\/r' xs H Q):=by
 intro pins s σ H xs us Q I rs q;rcases q with q | q
 ·exact h pins s σ H xs us Q I rs q
 ·exact h' pins s σ H xs us Q I rs q
noncomputable def tyV (K:Fg) (T:String) (x:V) (H:Hp):Prop:=match x with
 | .str _ => T = "str"
 | .int _ => T = "int"
 | .ref p => (T = "list" /\ ∃ xs, SqL K H p xs) \/ (T = "tuple" /\ ∃ o, K.lookup p = some o /\ o.cls = .type "tuple" /\ o.dict = none) \/
  (T = "dict" /\ ((∃ kvs, H p = some (.dK kvs)) \/ ∃ kvs, H p = some (.dT kvs))) \/ (T = "set" /\ ∃ S n, H p = some (.set S n))
 | _=>False
theorem zrn {pins:List (Addr × Obj)} {σ:St} {H:Hp} {s:Shared} {T:String} {x:V} {v:Value} (I:Inv X pins σ H s) (r:RelV x v) (ty:tyV X.K T x H) :
  s.TypeIs v T/\∀a,v=.ref a->∃ob,s.heap.get? a=some ob/\ob.dict=none:=by
 cases x with
 | str z =>
  obtain ⟨t,rfl⟩:=r;cases (show T = "str" from ty)
  exact ⟨typeIs_str s z t,fun _ e=>nomatch e⟩
 | int i =>
  obtain ⟨t,rfl⟩:=r;cases (show T = "int" from ty)
  exact ⟨typeIs_int s i t,fun _ e=>nomatch e⟩
 | ref p =>
  cases r;rcases ty with ⟨rfl,xs,hq⟩ | ⟨rfl,o,hk,hc,hd⟩ | ⟨rfl,hk⟩ | ⟨rfl,S,n,hk⟩
  ·obtain ⟨its,_,pl,_⟩:=I.list hq;refine ⟨pl.isList.typeIs,fun a e=>?_⟩;cases e;obtain ⟨o,n,e,c,hd,_⟩:=pl;exact ⟨o,e,hd⟩
  ·refine ⟨⟨o,I.kIn p o hk,hc⟩,fun a e=>?_⟩;cases e;exact ⟨o,I.kIn _ o hk,hd⟩
  ·have z:∃o,s.heap.get? p=some o/\o.ExactDict:=by
    rcases hk with ⟨kvs,hk⟩ | ⟨kvs,hk⟩
    ·obtain ⟨_,_,_,_,o,_,_,e,ex,_⟩:=I.hok p _ hk;exact ⟨o,e,ex⟩
    ·obtain ⟨_,_,_,_,o,_,_,e,ex,_⟩:=I.hok p _ hk;exact ⟨o,e,ex⟩
   obtain ⟨o,e,ex⟩:=z;refine ⟨⟨o,e,ex.1⟩,fun a e2=>?_⟩;cases e2;exact ⟨o,e,ex.2.1⟩
  ·obtain ⟨o,_,_,_,e,ex,_⟩:=I.hok p _ hk;refine ⟨⟨o,e,ex.1⟩,fun a e2=>?_⟩;cases e2;exact ⟨o,e,ex.2.1⟩
 | _=>exact False.elim ty
noncomputable def tBM0 (K:Fg) (T:String) (r:V->List V->Hp->VK->Prop) (to:TE):TE:=fun σ H Q=>to σ H fun x H1=>tyV K T x H1/\r x [] H1 Q
noncomputable def tBM (K:Fg) (T:String) (r:V->List V->Hp->VK->Prop) (to:TE) (t:TA):TE:=fun σ H Q=>to σ H fun x H1=>tyV K T x H1/\t σ H1 fun xs H2=>r x xs H2 Q
variable {o e:Expr} {es:List Expr} {to:TE} {t:TA} {name:Str} {apos cpos:Pos} {T id:String} {r:V->List V->Hp->VK->Prop}
theorem zwq (pa : PlainAttrs T) (slot : Slot T name id) (hty : typeOf (.builtin id) = pure (.type "method_descriptor")) (hm : MtR X id r) (ho : PE X o to)
  (hbase:attributeBase o name X.env (eval o X.env)=eval o X.env:=by rfl) (hline:(apos.endLine == cpos.line)=true:=by rfl):PE X (.Call (.Attribute o name apos) [] [] cpos) (tBM0 X.K T r to):=by
 intro pins s σ H Q I h;refine wpAny_Call_method0_late hbase hline (thn (ho pins s σ H _ I h) fun v s1 hq0=>?_);obtain ⟨x,H1,I1,r1,ty,q1⟩:=hq0;obtain ⟨h1,h2⟩:=zrn I1 r1 ty;exact ⟨T,id,pa,slot,hty,h1,h2,Calls.callWith_builtin rfl (PySem.evalArgs_none (hm pins s1 σ H1 x [] v [] Q I1 r1 .nil q1))⟩
theorem zvf (pa : PlainAttrs T) (slot : Slot T name id) (hty : typeOf (.builtin id) = pure (.type "method_descriptor")) (hm : MtR X id r) (ho : PE X o to) (ha : PA X (e :: es) t)
  (hbase:attributeBase o name X.env (eval o X.env)=eval o X.env:=by rfl)
  (hfew:((backTo cpos (starEach (e::es) X.env)).all (fun x=>!x.1) && (backToKw cpos (keywordEach [] X.env)).all (fun x=>x.1.isSome)
   && decide ((e::es).length+([]:List Keyword).length+(if ([]:List Keyword).isEmpty then 0 else 1) < 30))=true:=by rfl)
  (hline:(apos.endLine == cpos.line)=true:=by rfl) (hs:starEach (e::es) X.env=(false,eval e X.env)::starEach es X.env:=by rfl) (hplain:(backTo cpos (starEach es X.env)).any (·.1)=false:=by rfl) :
  PE X (.Call (.Attribute o name apos) (e::es) [] cpos) (tBM X.K T r to t):=by
 intro pins s σ H Q I h;refine wpAny_Call_method_late hbase hfew hline rfl (thn (ho pins s σ H _ I h) fun v s1 hq0=>?_);obtain ⟨x,H1,I1,r1,ty,q1⟩:=hq0;obtain ⟨h1,h2⟩:=zrn I1 r1 ty;refine ⟨T,id,pa,slot,hty,h1,h2,?_⟩;have hA:=ha cpos pins s1 σ H1 _ I1 q1;rw[hs] at hA ⊢;refine Calls.callWith_builtin (by show (false || (backTo cpos (starEach es X.env)).any (·.1))=false;rw[hplain]<;>rfl) (Calls.evalArgs_plain ?_);exact thn hA fun us s2 ⟨vs,H2,I2,r2,q2⟩=>hm pins s2 σ H2 x vs v us Q I2 r1 r2 q2
/- xs.append(e),list.index on a module's tuple .. are MtR facts of 06m -/
end
noncomputable def MtM (X:Cx) (id:String) (r:V->List V->Hp->VK->Prop):Prop :=
 ∀(pins:List (Addr × Obj)) (s:Shared) (σ:St) (H:Hp) (x:V) (xs:List V) (v:Value) (us:List Value) (Q:VK),Inv X pins σ H s->RelV x v->Vals xs us->r x xs H Q ->
  wpAny (model X.prog X.w) X.A (call (.builtin id) (v::us)) (EP X pins σ Q) X.xe s
theorem Vals.one:∀{x:V} {us:List Value},Vals [x] us->∃u,us=[u]/\RelV x u
 | _,_,.cons r .nil=>⟨_,rfl,r⟩
theorem Vals.zero:∀{us:List Value},Vals [] us->us=[]
 | _,.nil=>rfl
section
variable {X:Cx} {pins:List (Addr × Obj)} {σ:St} {H:Hp} {s:Shared} {l b:Addr} {xs ys zs:List V}
theorem Inv.lset {its its':List Value} {n:Nat} {f:Array Value->Array Value} {t':Nat} (I:Inv X pins σ H s) (hH:H l=some (.lst xs))
  (e : s.heap.get? l = some { cls := .type "list", data := .seq its.toArray n }) (hf : f its.toArray = its'.toArray) (hv : Vals ys its') (hz : ys.length <= sizeLine) :
  Inv X pins σ (upd H l (.lst ys)) {s with heap:=s.heap.update l (Obj.mapSeq f),toks:=t'}:=by
 have q:=PySem.IsL.update e f;rw[hf] at q;refine I.write (x:=l) (e:=l) (by rw[hH];exact trivial) (.inl rfl) (fun b' u hb hu=>(xck s.heap (Obj.mapSeq f) (xeg hb)).trans hu) ⟨_,q⟩ ?_;exact ⟨hz,its',_,hv,q⟩
theorem Inv.lnew {its:List Value} {t':Nat} (I:Inv X pins σ H s) (hv:Vals ys its) (hz:ys.length<=sizeLine) :
  Inv X pins σ (upd H s.heap.objs.size (.lst ys)) { s with heap := s.heap.push { cls := .type "list", data := .seq its.toArray }, toks := t' } :=
 I.laid (fun _ _ q=>xbe _ q) (xbg _) ⟨hz,its,0,hv,xbr _ rfl⟩
theorem Inv.fresh (I:Inv X pins σ H s):H s.heap.objs.size=none:=I.hok.fresh (xbg _)
theorem Inv.lstM (I : Inv X pins σ H s) (hH : H l = some (.lst xs)) : xs.length <= sizeLine /\ ∃ (its : List Value) (n : Nat), Vals xs its /\ xs.length = its.length /\ s.heap.get? l = some { cls := .type "list", data := .seq its.toArray n } := by
 obtain ⟨z,its,n,r,e⟩:=I.hok l _ hH;exact ⟨z,its,n,r,r.length,e⟩
theorem notLongL {n:Nat} (h:n<=sizeLine):Builtin.List.listTooLong n=false:=by
 unfold Builtin.List.listTooLong;exact xdb (by lia)
end
section
variable {X:Cx}
noncomputable def rAppend:V->List V->Hp->VK->Prop:=fun x vs H Q=>∃l xs y,x=.ref l/\vs=[y]/\H l=some (.lst xs)/\xs.length < sizeLine/\Q .non (upd H l (.lst (xs++[y])))
theorem zhv : MtM X "list.append" rAppend := by
 intro pins s σ H x vs v us Q I rx rv h;obtain ⟨l,xs,y,rfl,rfl,hH,hz,q⟩:=h;cases rx;obtain ⟨u,rfl,ru⟩:=rv.one;obtain ⟨z,its,n,r,hl,e⟩:=I.lstM hH;refine xie F.slot_list_append ⟨_,e,rfl⟩ F.entry_list_append (F.args_list_append_2 _ _) (PySem.list_append l its.toArray n u (by rw[xbt];lia)) ⟨e,?_⟩;refine ⟨.non,_,I.lset (its':=its++[u]) hH e (by simp) (r.append (.cons ru .nil)) ?_,rfl,q⟩;rw[xbx,List.length_singleton];lia
noncomputable def rExtend:V->List V->Hp->VK->Prop:=fun x vs H Q=>∃l b xs zs,x=.ref l/\vs=[.ref b]/\H l=some (.lst xs)/\H b=some (.lst zs)/\xs.length+zs.length<=sizeLine/\Q .non (upd H l (.lst (xs++zs)))
theorem zma : MtM X "list.extend" rExtend := by
 intro pins s σ H x vs v us Q I rx rv h;obtain ⟨l,b,xs,zs,rfl,rfl,hH,hB,hz,q⟩:=h;cases rx;obtain ⟨u,rfl,ru⟩:=rv.one;cases ru;obtain ⟨z,its,n,r,hl,e⟩:=I.lstM hH;obtain ⟨z2,its2,n2,r2,hl2,e2⟩:=I.lstM hB;have hsz:its.toArray.size+its2.toArray.size<=sizeLine:=by rw[xbt,xbt];lia
 have hlong:¬ (!its.toArray.isEmpty && Builtin.List.listTooLong (its.toArray.size+its2.toArray.size))=true:=by
  rw[notLongL hsz,Bool.and_false];exact xdz
 refine xie F.slot_list_extend ⟨_,e,rfl⟩ F.entry_list_extend (F.args_list_extend_2 _ _)
  (AutoSeq1.list_extend_list_list_0 l its.toArray n b its2.toArray n2 hlong (by rw[xbt];lia) (by lia)) ⟨e,e2,?_⟩
 refine ⟨.non,_,I.lset (its':=its++its2) hH e (by simp) (r.append r2) ?_,rfl,q⟩;rw[xbx];lia
noncomputable def rClear:V->List V->Hp->VK->Prop:=fun x vs H Q=>∃l xs,x=.ref l/\vs=[]/\H l=some (.lst xs)/\Q .non (upd H l (.lst []))
theorem zpi : MtM X "list.clear" rClear := by
 intro pins s σ H x vs v us Q I rx rv h;obtain ⟨l,xs,rfl,rfl,hH,q⟩:=h;cases rx;have hus:=rv.zero;subst hus;obtain ⟨z,its,n,r,hl,e⟩:=I.lstM hH;refine xie F.slot_list_clear ⟨_,e,rfl⟩ F.entry_list_clear (F.args_list_clear_1 _) (AutoSeq1.list_clear_list_0 l its.toArray n (by rw[xbt];lia)) ⟨e,?_⟩;exact ⟨.non,_,I.lset (its':=[]) (ys:=[]) hH e rfl .nil (xdh _),rfl,q⟩
noncomputable def rCat:R2:=fun x y H Q=>∃l b xs zs,x=.ref l/\y=.ref b/\H l=some (.lst xs)/\H b=some (.lst zs)/\xs.length+zs.length<=sizeLine/\∀p,H p=none->Q (.ref p) (upd H p (.lst (xs++zs)))
theorem zwt:OpR X (binaryOp .Add) rCat:=by
 intro pins s σ H x y v u Q I rx ry h;obtain ⟨l,b,xs,zs,rfl,rfl,hH,hB,hz,q⟩:=h;cases rx;cases ry;obtain ⟨z,its,n,r,hl,e⟩:=I.lstM hH;obtain ⟨z2,its2,n2,r2,hl2,e2⟩:=I.lstM hB;refine PySem.P.add_list e e2 ?_ (by rw[xbt,xbt];lia);have ea:its.toArray++its2.toArray=(its++its2).toArray:=by simp
 rw[ea];exact ⟨.ref _,_,I.lnew (t':=s.toks) (r.append r2) (by rw[xbx];lia),rfl,q _ I.fresh⟩
end
section
variable {prog:Program} {w:World} {A:Around} {E:Value->Shared->Prop} {s:Shared}
end
section
variable {X:Cx}
end
section
variable {κ:Type} [DecidableEq κ]
end
section
variable {P:Program} {w:World} {H:Hp} {h:Heap} {a:Addr}
end
section
variable {X:Cx} {pins:List (Addr × Obj)} {σ:St} {H:Hp} {s:Shared} {a:Addr} {y v:V} {u r:Value} {o:Option V} {A:Around} {E:Value->Shared->Prop}
end
section
variable {X:Cx} {pins:List (Addr × Obj)} {σ:St} {H:Hp} {s:Shared} {a:Addr} {kvs:List (Key × V)} {k:Key} {u:Value} {A:Around} {E:Value->Shared->Prop}
end
section
variable {X:Cx} {o i e value:Expr} {pos pos' tpos:Pos} {td ty tv:TE}
end
section
variable {X:Cx} {pos:Pos}
end
section
variable {X:Cx} {pins:List (Addr × Obj)} {σ:St} {H:Hp} {s:Shared} {a:Addr} {y d:V} {u r:Value} {o:Option V} {A:Around} {E:Value->Shared->Prop}
end
section
variable {X:Cx} {o e f:Expr} {apos cpos:Pos} {td ty tx:TE}
end
section
variable {X:Cx} {pins:List (Addr × Obj)} {σ:St} {H:Hp} {s:Shared} {a:Addr} {kvs:List (Key × V)} {A:Around} {E:Value->Shared->Prop}
end
section
variable {X:Cx} {pins:List (Addr × Obj)} {σ:St} {H:Hp} {s:Shared} {a:Addr} {y:V} {u:Value} {A:Around} {E:Value->Shared->Prop}
end
end L2
namespace Att
open PySem PySem.W PySem.Calls PyProof.Rows
theorem zev {P:Params} {h:Heap}:∀(ns:List Int) (vs:List Value),WellAll P h vs (ns.map WData.int)->IntsAre vs ns:=by
 intro ns
 induction ns with
 | nil =>
  intro vs w;rw[List.map_nil] at w;cases w;exact .nil
 | cons n ns ih =>
  intro vs w;rw[xcd] at w;cases w with
  | cons a b =>
   cases a;exact .cons _ _ (ih _ b)
theorem zlm {l:OpenLaw} {n:Nat} (hn:l.most=some n) {P:Params} {h:Heap} {args:List WData} {vals:List Value}
  (hpre:l.row.toRowW.claim.pre args=true) (hwl:WellAll P h vals args) :
  ∃ a vs ns, vals = [Value.ref a] /\ args = [WData.list (ns.map WData.int)] /\ h.get? a = some { cls := .type "list", data := .seq vs.toArray } /\ IntsAre vs ns /\ ns.length <= n := by
 have hsh:WShape.hasAll [] args [.list .int]=true:=(pre_splitW hpre).1;have hc:l.pre.holds [] {args:=args}=true:=(pre_splitW hpre).2;obtain ⟨d,r,rfl,h1,h2⟩:=hasAllW_cons hsh;obtain rfl:=hasAllW_nil h2;obtain ⟨xs,rfl,h3⟩:=hasW_list h1;obtain ⟨ns,rfl⟩:=items_int h3;have hlen:ns.length<=n:=by
  unfold OpenLaw.pre at hc;have h4:(WTm.not (.lt (.lit (.int (n:Int))) (.len (.arg 0)))).holds [] {args:=[.list (ns.map .int)]}=true:=by
   have h4:=(holds_andW hc).1;rw[hn] at h4;exact h4
  have h5:=condW_of h4 (w_not (w_lt w_lit (w_len_list (w_arg rfl))));rw[xbk] at h5;refine xbp fun q=>?_
  have q':(n:Int) < ((ns.length:Nat):Int):=by lia
  first
   | (rw[xdc q'] at h5;exact absurd h5 (by decide))
   | (simp at h5;lia)
 cases hwl with
 | cons w1 w2 =>
  cases w2;cases w1 with
  | list ho hall=>exact ⟨_,_,ns,rfl,rfl,ho,zev ns _ hall,hlen⟩
theorem zlp (l:OpenLaw) (args:List WData):l.row.toRowW.claim.post args (.bool true) args=true :=
 postW_of (r:=l.row.toRowW) (X:=(true == true))
  (show WShape.has [] (.bool true) .bool=true by first | rfl | decide | simp[WShape.has,WShape.arms,WShape.armsAll])
  (show (WTm.eq .res (.lit (.bool true))).value [] {args:=args,res:=some (.bool true),after:=args}=some (.bool (true == true)) from w_eq_bool (w_res rfl) w_lit) rfl
theorem attach_call {l:OpenLaw} {n:Nat} {q:Program} {loose:List Str} {XP:(Str->Option Value)->Heap->Prop} {YP:World->Heap->Prop} {d:DefRec}
  (hn:l.most=some n) (hdf:d.params.defaults=[])
  (call:∀(w:World) (s₀ s₁:Shared) (mg mb:Str->Option Value) (fa:Addr) (o:Obj) (pm cd doc:Value) (a:Addr) (vs:List Value) (ns:List Int),
   Ground q loose [] XP w s₀ mg mb s₁.heap->YP w s₁.heap ->
   s₁.heap.get? fa=some o->o.data=.func (docDef d.name d.params d.body d.scope pm cd doc)->s₁.heap.CodeRec cd d.name->mg d.name=some (.ref fa) ->
   s₁.heap.get? a = some { cls := .type "list", data := .seq vs.toArray } -> IntsAre vs ns -> ns.length <= n -> s₁.gens = #[] ->
   codeAny (model l.prog w) callerA (.call (.ref fa) ⟨[.ref a],[]⟩) (fun r s'=>r=.ok (.ret (.bool true))/\OldK s₁.heap s'.heap/\s'.os=s₁.os/\AllBare s'.gens) s₁) :
  WalkO q loose XP YP l.row.toRowW d [] (fun f vs=>PySem.call f vs):=by
 intro w s₀ s₁ mg mb G Y fa o pm cd doc dV kV ho hd hcd hD hmg hg args vals as hpre hlay hrd hwl hlo;obtain rfl:dV=.none:=Dflts.none hD hdf;obtain rfl:kV=.none:=Dflts.noKw hD;obtain ⟨a,vs,ns,rfl,rfl,hobj,hints,hlen⟩:=zlm hn hpre hwl;refine enter_call (xhi (call w s₀ s₁ mg mb fa o pm cd doc a vs ns G Y ho (fd_plain hd) hcd hmg hobj hints hlen hg) fun r s' hq=>?_);obtain ⟨rfl,h2,h3,h4⟩:=hq;exact ⟨.inl ⟨.bool true,.bool true,[],rfl,fun _=>rfl,.bool true,zlp l _,fun _=>⟨List.Pairwise.nil,fun _ hm=>(nomatch hm)⟩⟩,h2,h3,h4⟩
section
variable {prog:Program} {w:World} {A:Around} {E:Value->Shared->Prop} {s:Shared} {K:Frag}
end
end Att
namespace L2
open PySem PySem.Spec PyProof.Rows
theorem zhp:∀{vs:List Value} {ns:List Int},IntsAre vs ns->Vals (ns.map V.int) vs
 | _,_,.nil=>.nil
 | _,_,.cons n t h=>.cons ⟨t,rfl⟩ (zhp h)
end L2
/- THE LAST THEOREM (shape;LID,My.* are yours):
 My.Adr: a structure of the addresses that your layer names (classes,functions);My.Txt K t: a structure (Prop) of the equations over K;
 My.txt_mk : {K} {implicit addresses ..} (e1 : nsIn K mainGlobals "law" = some (some (.ref f))) (e2 : K.lookup f = some ⟨oc, od, .func (fnOf "law" "law" params body scope dV kV doc pm an cdv ct), sl⟩) (e3 : codeIn K cdv "law" = true) .. : ∃ t, My.Txt K t
(the tactic k_is has no namespace: write k_is) -/
namespace L2
open PySem PySem.Spec PyProof.Rows
noncomputable def defArgs (s:Stmt):Arguments:=match s with
 | .FunctionDef _ a _ _ _ _ _ _ _ _=>a
 | _=>{posonlyargs:=[],args:=[],vararg:=none,kwonlyargs:=[],kw_defaults:=[],kwarg:=none,defaults:=[]}
noncomputable def defBody (s:Stmt):List Stmt:=match s with
 | .FunctionDef _ _ b _ _ _ _ _ _ _=>b
 | _=>[]
noncomputable def defScope (s:Stmt):Scope:=match s with
 | .FunctionDef _ _ _ _ _ _ sc _ _ _=>sc
 | _=>{kind:=.function,names:=[],isGenerator:=false,isCoroutine:=false}
noncomputable abbrev CX0:CXT:=fun _ _ _ _ _ _=>False
noncomputable abbrev E0:XK:=fun _ _ _=>False
theorem pass0 {X:Cx}:Passes CX0 X E0:=fun _ _ _ _ _ _ _ h=>h.elim
structure Fun (K:Fg) (x qual:Str) (st:Stmt) (f:Addr) (fd:FuncData):Prop where
 ex:∃(oc:Value) (od:Option Addr) (kV doc pm:Value) (an:Option Addr) (cdv ct:Value) (osl:Array (Option Value)),
  fd=PySem.W.fnOf x qual (defArgs st) (defBody st) (defScope st) .none kV doc pm an cdv ct/\K.lookup f=some ⟨oc,od,.func fd,osl⟩/\PySem.W.codeIn K cdv qual=true
 kp:PySem.W.keepIn K (.ref f)=true
section
variable {P:Program} {w:World} {K:Fg} {mg:Str->Option Value} {base:Heap}
theorem Fun.ok {x qual:Str} {st:Stmt} {f:Addr} {fd:FuncData} {N ps:List Str} {k:Nat} {sp:Sp} (F:Fun K x qual st f fd) (S:FnScope N ps (defScope st)) (len:∀vs H Q E,sp vs H Q E->vs.length=ps.length)
  (hbody:∀(cdv:Value) (A:Around) (outer:List Env) (s:Shared) (H:Hp) (vs:List V) (Q:VK) (E:XK),Room k (A.deeper (envOfC qual (defScope st) s.heap.objs.size f cdv))->sp vs H Q E ->
   ∃t,PSs (cxOf CX0 P w K mg base N qual (defScope st) f cdv A outer s H E).nox (defBody st) t/\t {nx:=fun _ H'=>Q .non H',rt:=Q} (start N vs) H):FnOk P w K mg base CX0 (k+1) f fd ps sp:=by
 obtain ⟨oc,od,kV,doc,pm,an,cdv,ct,osl,rfl,lk,hcd⟩:=F.ex;refine zxo lk hcd S len fun A outer s H vs Q E hr hsp=>?_
 obtain ⟨t,h,q⟩:=hbody cdv A outer s H vs Q E hr hsp;exact ⟨t,h.nox,q⟩
theorem Fun.binds {x qual:Str} {st:Stmt} {f:Addr} {fd:FuncData} {ps:List Str} (F:Fun K x qual st f fd)
  (h:∀(kV doc pm:Value) (an:Option Addr) (cdv ct:Value) (us:List Value),us.length=ps.length->bindArgs (PySem.W.fnOf x qual (defArgs st) (defBody st) (defScope st) .none kV doc pm an cdv ct) ⟨us,[]⟩=pure (ps.zip us)):Binds K fd ps []:=by
 obtain ⟨oc,od,kV,doc,pm,an,cdv,ct,osl,rfl,lk,hcd⟩:=F.ex;exact .all (h kV doc pm an cdv ct)
theorem zxm {x qual:Str} {st:Stmt} {f:Addr} {oc:Value} {od an:Option Addr} {osl:Array (Option Value)} {kV doc pm cdv ct:Value} (l:K.lookup f=some ⟨oc,od,.func (PySem.W.fnOf x qual (defArgs st) (defBody st) (defScope st) .none kV doc pm an cdv ct),osl⟩)
 (c:PySem.W.codeIn K cdv qual=true) (k:PySem.W.keepIn K (.ref f)=true):Fun K x qual st f (PySem.W.fnOf x qual (defArgs st) (defBody st) (defScope st) .none kV doc pm an cdv ct):=⟨⟨oc,od,kV,doc,pm,an,cdv,ct,osl,rfl,l,c⟩,k⟩
end
section
variable {X:Cx}
theorem pv (i : Nat) {x : Str} {pos : Pos} (hN : X.N[i]? = some x := by rfl) (hv : Vis X.env.scope x := by first | exact Or.inl rfl | exact Or.inr (Or.inl rfl) | exact Or.inr (Or.inr rfl)) (hd : (x == ("__debug__" : Str)) = false := by decide)
 (hcd : (x == ("__classdict__" : Str)) = false := by decide) : PE X (.Name x pos) (tVar i) := zwi hN hv hd hcd
end
theorem iteF {A B:Prop} (h:B):if false=true then A else B:=by
 rw[if_neg xdz];exact h
theorem iteT {A B:Prop} (h:A):if true=true then A else B:=by
 rw[if_pos rfl];exact h
section
variable {X:Cx}
end
section
variable {κ:Type} [DecidableEq κ]
end
section
variable {P:Program} {w:World} {B:Around} {R:Result->Shared->Prop} {sh:Shared}
noncomputable abbrev NoX:Value->Shared->Prop:=fun _ _=>False
noncomputable abbrev testsOf (cs:List Expr) (ev:Env):Sem Bool :=
 forIn cs true fun d b=>if b=true then do let z ← isTrue d ev (eval d ev);pure (ForInStep.yield z) else pure (ForInStep.yield b)
noncomputable def CompStep (P:Program) (w:World) (B:Around) (tg x:Expr) (cs:List Expr) (ev:Env) (i l:Value) (K:Shared->Prop) (v:Value) (sa:Shared):Prop :=
 wpAny (model P w) B (letOwnedTupleGo tg i v) (fun _ sb=>wpAny (model P w) B (assign tg ev v) (fun _ sc=>wpAny (model P w) B (testsOf cs ev) (fun ok sd =>
  if ok = true then wpAny (model P w) B (eval x ev) (fun y se => wpAny (model P w) B (call (.builtin "list.append") [l, y]) (fun _ sf => K sf) NoX se) NoX sd else K sd) NoX sc) NoX sb) NoX sa
theorem zmz {tg it x:Expr} {cs:List Expr} {sc:Scope} {ps:Pos} {i l:Value} {ev:Env} (J:Nat->Shared->Prop)
  (go:∀k sk,J k sk->wpAny (model P w) B (pyNext i) (fun o sa=>match o with
   | none=>R (.ok .next) sa
   | some v=>CompStep P w B tg x cs ev i l (fun sf=>∃k',k' < k/\J k' sf) v sa) NoX sk)
  (k:Nat) (hJ:J k sh):codeAny (model P w) B (.compLoop (.ListComp x [⟨tg,it,cs,0⟩] sc ps) 0 i l ev) R sh:=by
 have none_:∀{E:Value->Shared->Prop} (e:Value) (z:Shared),NoX e z->E e z:=fun _ _ z=>z.elim
 refine codeAny_loop rfl J (fun k sk hk=>wpAny_noted (by
  rw[compTurn_list];refine xba (wpAny_standAt (xba (xdi (go k sk hk) (fun o sa ho=>?_) none_)))
  match o,ho with
  | none,ho=>exact xbl ho
  | some v,ho =>
   refine xba (xdi ho (fun _ sb hb=>xba (xdi hb (fun _ sc' hc=>xba (xdi hc (fun ok sd hd=>?_) none_)) none_)) none_)
   match ok,hd with
   | false,hd=>exact xbl (And.intro rfl hd)
   | true,hd=>exact xba (xba (xdi hd (fun y se he=>xba (xdi he (fun _ sf hf=>xbl (xbl (And.intro rfl hf))) none_)) none_)))) k hJ
end
theorem zhj {env:Env}:∀(names:List (Str × NameKind)) (acc:List (Str × Addr)),(∀y∈names,y.2=.free->∃c,env.cells.lookup y.1=some c)->(∀x c,acc.lookup x=some c->env.cells.lookup x=some c) ->
  ∃cl:List (Str × Addr),(forIn names acc (fun x r=>if (x.2 == NameKind.free)=true then do let a ← cellOf env x.1;pure (ForInStep.yield ((x.1,a)::r)) else pure (ForInStep.yield r)):Sem (List (Str × Addr)))=pure cl /\
   (∀x c,cl.lookup x=some c->env.cells.lookup x=some c)/\(∀x c,acc.lookup x=some c->∃c',cl.lookup x=some c')/\∀x,(x,NameKind.free)∈names->∃c,cl.lookup x=some c:=by
 intro names
 induction names with
 | nil=>intro acc _ ha;exact ⟨acc,rfl,ha,fun x c e=>⟨c,e⟩,fun x z=>(nomatch z)⟩
 | cons y r ih =>
  intro acc hf ha;obtain ⟨n,k⟩:=y;by_cases hk:k=.free
  ·subst hk;obtain ⟨c,hc⟩:=hf (n,.free) xcf rfl
   obtain ⟨cl,e,h1,h2,h3⟩:=ih ((n,c)::acc) (fun y hy=>hf y (xcv _ hy)) (fun x c' e=>by
    rw[xeb] at e;by_cases hx:x=n
    ·subst hx;rw[xhv] at e;cases e;exact hc
    ·rw[xgy.mpr hx] at e
     exact ha x c' e)
   refine ⟨cl,?_,h1,fun x c' e'=>?_,fun x hx=>?_⟩
   ·rw[List.forIn_cons];simp only[xhv,ite_true];have q:cellOf env n=pure c:=by unfold cellOf;rw[hc]
    rw[q];simp only[pure_bind];exact e
   ·by_cases hx:x=n
    ·subst hx;exact h2 x c (by rw[xeb,xhv])
    ·exact h2 x c' (by rw[xeb,xgy.mpr hx];exact e')
   ·rcases xcc.mp hx with z | z
    ·cases z;exact h2 n c (by rw[xeb,xhv])
    ·exact h3 x z
  ·obtain ⟨cl,e,h1,h2,h3⟩:=ih acc (fun y hy=>hf y (xcv _ hy)) ha;refine ⟨cl,?_,h1,h2,fun x hx=>?_⟩
   ·rw[List.forIn_cons];have hb:(k == NameKind.free)=false:=by simpa using hk
    simp only[hb,xdd,xgq,pure_bind];exact e
   ·rcases xcc.mp hx with z | z
    ·cases z;exact absurd rfl hk
    ·exact h3 x z
theorem zks {scope:Scope} {env:Env} (h:∀y∈scope.names,y.2=.free->∃c,env.cells.lookup y.1=some c) :
  ∃cl,closureFor scope env=pure cl/\(∀x c,cl.lookup x=some c->env.cells.lookup x=some c)/\∀x,(x,NameKind.free)∈scope.names->∃c,cl.lookup x=some c:=by
 obtain ⟨cl,e,h1,_,h3⟩:=zhj (env:=env) scope.names [] h (fun x c e=>(nomatch e));refine ⟨cl,?_,h1,h3⟩;unfold closureFor;have e':=congrArg (fun m=>m >>= fun r=>(pure r:Sem (List (Str × Addr)))) e;simp only[pure_bind] at e';exact e'
theorem zv {env:Env}:∀{names:List (Str × NameKind)} {x:Str} {k:NameKind},(names.map fun (n,k)=>if (k == NameKind.free && env.scope.kind == .function && env.kindOf n == some .cell) then (n,NameKind.cell) else (n,k)).lookup x=some k ->
  names.lookup x=some k\/(k=.cell/\names.lookup x=some .free)
 | [],_,_,h=>by simp at h
 | (n,k')::r,x,k,h=>by
  have ih:=@zv env r x k;have h':List.lookup x ((if (k' == NameKind.free && env.scope.kind == .function && env.kindOf n == some .cell)=true then (n,NameKind.cell) else (n,k'))::_)=_:=h;cases hx:x == n with
  | true =>
   by_cases hc:(k' == NameKind.free && env.scope.kind == .function && env.kindOf n == some .cell)=true
   ·rw[if_pos hc] at h';simp only[xeb,hx] at h' ⊢;cases h';rw[xfd,xfd] at hc;exact .inr ⟨rfl,by rw[eq_of_beq hc.1.1]⟩
   ·rw[if_neg hc] at h';simp only[xeb,hx] at h' ⊢;exact .inl h'
  | false =>
   have h2:(r.map fun (n,k)=>if (k == NameKind.free && env.scope.kind == .function && env.kindOf n == some .cell) then (n,NameKind.cell) else (n,k)).lookup x=some k:=by
    by_cases hc:(k' == NameKind.free && env.scope.kind == .function && env.kindOf n == some .cell)=true
    ·rw[if_pos hc] at h';simp only[xeb,hx] at h';exact h'
    ·rw[if_neg hc] at h';simp only[xeb,hx] at h';exact h'
   simp only[xeb,hx];exact ih h2
noncomputable def cxC (X:Cx) (N:List Str) (scope:Scope) (cl:List (Str × Addr)) (C:Addr) (fp:List Addr) (s:Shared) (H:Hp):Cx :=
 {X with N:=N,s₀:=s,H₀:=H,env:=compEnvC scope cl C X.env,outer:=X.stack,ex:=fp,fn:=fun _=>false,pn:=[],xe:=fun _ _=>False}
noncomputable def startC (k:Nat) (is:List Nat) (σ:St):St:=List.replicate k none++is.map fun i=>(σ[i]?).getD none
structure CompScope (X:Cx) (N:List Str) (k:Nat) (is:List Nat) (scope:Scope):Prop where
 kind:scope.kind=.function
 nocell:∀y∈scope.names,y.2≠.cell
 names:∀y∈scope.names,y.2=.local->scope.names.lookup y.1=some .local
 frees:∀y∈scope.names,y.2=.free->X.env.kindOf y.1=some .cell\/X.env.kindOf y.1=some .free
 len:N.length=k+is.length
 own:∀j i,is[j]?=some i->∃x,N[k+j]?=some x/\X.N[i]?=some x/\scope.names.lookup x=some .free
theorem zbp {x:Str} {k:NameKind} {l:List (Str × NameKind)} (h:l.lookup x=some k):(x,k)∈l:=xdt h
section
variable {X:Cx} {pins:List (Addr × Obj)} {σ:St} {H:Hp} {s:Shared}
theorem zpp {N:List Str} {k:Nat} {is:List Nat} {scope:Scope} {cl:List (Str × Addr)} {fp:List Addr} {h1:Heap} {tk:Nat} (S:CompScope X N k is scope) (I:Inv X pins σ H s)
  (c1:∀x c,cl.lookup x=some c->X.env.cells.lookup x=some c) (c2:∀x,(x,NameKind.free)∈scope.names->∃c,cl.lookup x=some c)
  (hf:∀b∈fp,FpOk X pins H b) (hfo:∀b∈fp,∃o,s.heap.get? b=some o) (hn:h1.Ns s.heap.objs.size (fun _=>none)) (hk:∀b o,s.heap.get? b=some o->h1.get? b=some o) :
  Inv (cxC X N scope cl s.heap.objs.size fp s H) [] (startC k is σ) H {s with heap:=h1,toks:=tk}:=by
 have hC:∀b o,s.heap.get? b=some o->b≠s.heap.objs.size:=fun b o e=>xbu (xbh e)
 have nfs:∀b∈fp,b∉frs X.stack:=fun b hb z=>by
  rcases xcc.mp (I.stkSub b z) with e | e
  ·exact (hf b hb).2.1 e
  ·exact (hf b hb).2.2.1 e
 refine ⟨⟨I.ok.mod,S.kind,I.ok.glob,I.ok.blt,xbg _,fun x y c e1 e2=>I.ok.inj x y c (c1 x c e1) (c1 y c e2),fun x hx=>?_,fun x c z=>?_,I.ok.hd,I.ok.frames,.inl rfl,fun b hb=>⟨?_,fun x c e=>?_⟩,I.bs,xbb I.ok.bsz I.sz,fun b o e hb=>?_,nfs,I.stack,I.stkFree⟩,
  rfl,I.bare,Un.kept hk,⟨_,hn,fun i x v e1 e2 e3=>?_⟩,fun x c e=>?_,I.hok.fresh (xbg _),fun x c e=>I.freeC x c (c1 x c e),fun p hp=>(nomatch hp),I.hok.kept hk,?_,I.hnd⟩
 ·have hx':(scope.names.map fun (n,k)=>if (k == NameKind.free && X.env.scope.kind == .function && X.env.kindOf n == some .cell) then (n,NameKind.cell) else (n,k)).lookup x=some .cell\/(scope.names.map fun (n,k)=>if (k == NameKind.free && X.env.scope.kind == .function && X.env.kindOf n == some .cell) then (n,NameKind.cell) else (n,k)).lookup x=some .free:=hx;have q:scope.names.lookup x=some .free:=by
   rcases hx' with z | z
   ·rcases zv z with q | ⟨_,q⟩
    ·exact absurd rfl (S.nocell _ (zbp q))
    ·exact q
   ·rcases zv z with q | ⟨q,_⟩
    ·exact q
    ·cases q
  exact c2 x (zbp q)
 ·cases z
 ·obtain ⟨o,e⟩:=hfo b hb;exact hC b o e
 ·exact (hf b hb).2.2.2.2.1 x c (c1 x c e)
 ·rcases (hf b hb).2.2.2.1 with z | z
  ·exact I.ok.noex b o e z
  ·exact absurd (xbc (xbh (I.ok.bs b o e).1) z) (xen _)
 ·-- a name of the def around
  unfold startC at e2;have hi:k<=i:=by
   rcases xec i k with z | z
   ·rw[xby (by rw[xfi];exact z),List.getElem?_replicate,if_pos z] at e2;cases e2
   ·exact z
  rw[xbq (by rw[xfi];exact hi),xfi,xcg] at e2;cases ej:is[i - k]? with
  | none=>rw[ej] at e2;cases e2
  | some j =>
   rw[ej] at e2;have e2':(σ[j]?).getD none=some v:=xca e2;obtain ⟨y,y1,y2,y3⟩:=S.own (i - k) j ej;have ey:y=x:=by
    have z:N[i]?=some y:=by rw[← y1];congr 1;lia
    have e1':N[i]?=some x:=e1;rw[z] at e1';exact xca e1'
   subst ey;have e4:σ[j]?=some (some v):=by
    cases q:σ[j]? with
    | none=>rw[q] at e2';cases e2'
    | some o=>rw[q] at e2';exact congrArg some e2'
   have kd:=S.frees _ (zbp y3) rfl;have vis:Vis X.env.scope y:=.inr kd;obtain ⟨m,_,hl⟩:=I.loc;obtain ⟨u,r,lk⟩:=hl j y v y2 e4 vis;refine ⟨u,r,?_⟩;rcases lk with ⟨z,_⟩ | ⟨_,c,e5,cc⟩
   ·rcases kd with q | q<;>(rw[q] at z;cases z)
   ·obtain ⟨c',e6⟩:=c2 y (zbp y3);have:c'=c:=by
     have z:=c1 y c' e6;rw[e5] at z;exact (xca z).symm
    subst this;refine .inr ⟨?_,c',e6,?_⟩
    ·rcases e3 with z | z | z
     ·exact absurd (zv z) (by
       rw[y3];rintro (q | ⟨q,_⟩)
       ·cases q
       ·cases q)
     ·exact .inl z
     ·exact .inr z
    ·obtain ⟨o,ho,hd⟩:=cc;exact ⟨o,hk _ o ho,hd⟩
 ·obtain ⟨v,o,ho,hd⟩:=I.cell x c (c1 x c e);exact ⟨v,o,hk _ o ho,hd⟩
 ·unfold startC;rw[xbx,xfi,xbk];exact S.len.symm
theorem zpq {N:List Str} {scope:Scope} {cl:List (Str × Addr)} {fp:List Addr} {σ':St} {H':Hp} {s':Shared} {h':Heap} (I:Inv X pins σ H s) (hf:∀b∈fp,FpOk X pins H b) (J:Inv (cxC X N scope cl s.heap.objs.size fp s H) [] σ' H' s')
  (hs:Heap.SameBut s.heap.objs.size s'.heap h'):Inv X pins σ H' {s' with heap:=h'}:=by
 have hC:∀b o,s.heap.get? b=some o->b≠s.heap.objs.size:=fun b o e=>xbu (xbh e)
 have hH:H' s.heap.objs.size=none:=J.free;have B:Un (frs X.stack) fp H H' s.heap s'.heap:=J.base
 have U:Un (frs X.stack) fp H H' s.heap h':=⟨fun b o e n h1 h2=>hs.extBut b o (hC b o e) (B.keep b o e n h1 h2),fun b o e n h1 h2=>by
   obtain ⟨sl,q⟩:=B.slot b o e n h1 h2;exact ⟨sl,hs.extBut b _ (hC b o e) q⟩,B.free,fun b o e hx=>by
   obtain ⟨o',q⟩:=B.there b o e hx
   exact ⟨o',hs.extBut b o' (hC b o e) q⟩,B.tups,B.frzs,B.tbls⟩
 refine I.call' (s':={s' with heap:=h'}) J.os U (fun a o e=>?_) J.bare (fun b hb=>⟨(hf b hb).2.2.2.1,(hf b hb).2.1,(hf b hb).2.2.2.2.1,(hf b hb).2.2.2.2.2⟩);refine (J.hok a o e).stay (fun b u hb q=>hs.extBut b u ?_ q) (fun _ q=>q) fun _ _ q=>q
 rcases hb with z | z
 ·intro y;rw[z] at y;rw[y,hH] at e;cases e
 ·intro y;rw[y,hH] at z;cases z
end
structure OffC (X:Cx) (pins:List (Addr × Obj)) (H:Hp) (C:Addr):Prop where
 free:H C=none
 loc:C≠X.env.locals
 young:X.s₀.heap.objs.size<=C
 cell:∀x c,X.env.cells.lookup x=some c->c≠C
 pin:∀p∈X.pn++pins,p.1≠C
theorem OffC.back {X:Cx} {pins:List (Addr × Obj)} {σ:St} {H:Hp} {C:Addr} {s:Shared} {h':Heap} (o:OffC X pins H C) (I:Inv X pins σ H s) (hs:Heap.SameBut C s.heap h'):Inv X pins σ H {s with heap:=h'} :=
 I.turned (t':=s.toks) (fun b u hb e=>hs.extBut b u hb e) o.free o.loc (.inr o.young) o.cell o.pin
noncomputable def nxC (p:Addr) (te:TE) (tc:TT) (N:St->Hp->Prop):St->Hp->Prop:=fun σ2 H3=>tc σ2 H3 fun b H4 =>
 if b=true then te σ2 H4 fun y H5=>∃xs,H5 p=some (.lst xs)/\xs.length < sizeLine/\N σ2 (upd H5 p (.lst (xs++[y]))) else N σ2 H4
noncomputable def CompG (J:It) (g:TG) (tc:TT) (te:TE) (Q:VK) (p:Addr) (σ:St) (H:Hp):Prop:=∃W:Nat->Nat->St->Hp->Prop,(∃m,W 0 m σ H) /\
 ∀i m σ' H',W i m σ' H'->(J.stop i H'/\Q (.ref p) H')\/(J.go i H'/\∃N:St->Hp->Prop,(∀σ2 H2,N σ2 H2->∃m',m' < m/\W (i+1) m' σ2 H2)/\∀x H2,J.yld i H' x H2->g x σ' H2 (nxC p te tc N))
noncomputable def tComp (wi:TI) (k:Nat) (is:List Nat) (g:TG) (tc:TT) (te:TE):TE:=fun σ H Q=>wi σ H fun J H1=>∀p,H1 p=none->CompG J g tc te Q p (startC k is σ) (upd H1 p (.lst []))
noncomputable def tYes:TT:=fun _ H Q=>Q true H
section
variable {X:Cx} {tg iter elt:Expr} {ifs:List Expr} {wi:TI} {g:TG} {tc:TT} {te:TE} {N:List Str} {k:Nat} {is:List Nat} {scope:Scope} {pos:Pos}
noncomputable def PIf (X:Cx) (ifs:List Expr) (t:TT):Prop :=
 ∀(pins:List (Addr × Obj)) (s:Shared) (σ:St) (H:Hp) (Q:Bool->Hp->Prop),Inv X pins σ H s->t σ H Q ->
  wpAny (model X.prog X.w) X.A (forIn ifs true fun c r=>if r=true then do let ok ← isTrue c X.env (eval c X.env);pure (ForInStep.yield ok) else pure (ForInStep.yield r)) (TP X pins σ Q) X.xe s
theorem zse:PIf X [] tYes:=fun pins s σ H Q I h=>wpAny_tests_nil ⟨H,I,h⟩
theorem zgq (hcalm:X.calm=true) (hg:∀cl C fp s H,PG (cxC X N scope cl C fp s H) tg g) (hc:∀cl C fp s H,PIf (cxC X N scope cl C fp s H) ifs tc) (he:∀cl C fp s H,PE (cxC X N scope cl C fp s H) elt te)
  (S:CompScope X N k is scope) {pins:List (Addr × Obj)} {σ:St} {H2:Hp} {s2:Shared} {cl:List (Str × Addr)} {it:Addr} {fp:List Addr} {tn:Nat->Heap->Prop} {J:It} {Q:VK} {E:Value->Shared->Prop} {RR:Value->Addr->Result->Shared->Prop}
  (I2:Inv X pins σ H2 s2) (T:Turn X.prog X.w X.K tg J fp it tn) (st2:tn 0 s2.heap) (f2:∀b∈fp,FpOk X pins H2 b)
  (c1:∀x c,cl.lookup x=some c->X.env.cells.lookup x=some c) (c2:∀x,(x,NameKind.free)∈scope.names->∃c,cl.lookup x=some c)
  (h:∀p,H2 p=none->∃W:Nat->Nat->St->Hp->Prop,(∃m,W 0 m (startC k is σ) (upd H2 p (.lst []))) /\
   ∀i m σ' H',W i m σ' H'->(J.stop i H'/\Q (.ref p) H')\/(J.go i H'/\∃N:St->Hp->Prop,(∀σ2 H2,N σ2 H2->∃m',m' < m/\W (i+1) m' σ2 H2)/\∀x H2,J.yld i H' x H2->g x σ' H2 (nxC p te tc N)))
  (hR:∀(p C:Addr) (s':Shared) (H':Hp) (m:Str->Option Value),OffC X pins H' C->s'.heap.Ns C m->Inv X pins σ H' s'->Q (.ref p) H'->RR (.ref p) C (.ok .next) s') :
  wpAny (model X.prog X.w) X.A (newList []) (fun acc s₃=>wpAny (model X.prog X.w) X.A (newFunctionEnv scope X.env.globals cl [] X.env.qual none .none (some X.env)) (fun cenv s₄ =>
   codeAny (model X.prog X.w) X.A (.compStart (.ListComp elt [⟨tg,iter,ifs,0⟩] scope pos) 0 (.ref it) acc {cenv with scope:=relabel scope X.env}) (RR acc cenv.locals) s₄) E s₃) E s2:=by
 refine xez ?_;have fresh:H2 s2.heap.objs.size=none:=I2.fresh;have I3 : Inv X pins σ (upd H2 s2.heap.objs.size (.lst [])) { s2 with heap := s2.heap.push { cls := .type "list", dict := none, data := .seq ([] : List Value).toArray } } := I2.lnew (t' := s2.toks) (.nil) (by decide)
 generalize hs3 : ({ s2 with heap := s2.heap.push { cls := .type "list", dict := none, data := .seq ([] : List Value).toArray } } : Shared) = s3 at I3
 have k3:∀b o,s2.heap.get? b=some o->s3.heap.get? b=some o:=fun b o e=>by rw[← hs3];exact xbe _ e
 refine wpAny_newFunctionEnv S.nocell (by intro y hy;simp at hy) (fun h₁ hns₁ hsb₁=>?_) S.kind;have st3:tn 0 s3.heap:=T.keep _ _ _ st2 fun b _ o e=>k3 b o e
 have f3:∀b∈fp,FpOk X pins (upd H2 s2.heap.objs.size (.lst [])) b:=fun b hb=>by
  obtain ⟨o,e,_⟩:=T.obj _ _ st2 b hb;exact ⟨by rw[zi (xbu (xbh e))];exact (f2 b hb).1,(f2 b hb).2⟩
 have k4:∀b o,s3.heap.get? b=some o->h₁.get? b=some o:=fun b o e=>hsb₁.extBut b o (xbu (xbh e)) (xbe _ e)
 have J4:=zpp (tk:=s3.toks+([]:List (Str × Value)).length) S I3 c1 c2 f3 (fun b hb=>let ⟨o,e,_⟩:=T.obj _ _ st3 b hb;⟨o,e⟩) hns₁ k4;obtain ⟨W,⟨m0,w0⟩,turn⟩:=h s2.heap.objs.size fresh;have st4:tn 0 h₁:=T.keep _ _ _ st3 fun b _ o e=>k4 b o e
 have loop:codeAny (model X.prog X.w) X.A (.compLoop (.ListComp elt [⟨tg,iter,ifs,0⟩] scope pos) 0 (.ref it) (.ref s2.heap.objs.size) (compEnvC scope cl s3.heap.objs.size X.env)) (RR (.ref s2.heap.objs.size) s3.heap.objs.size) {s3 with heap:=h₁,toks:=s3.toks+([]:List (Str × Value)).length}:=by
  have stat:∀{H':Hp},(∀b∈fp,H' b=none)->∀b∈fp,FpOk (cxC X N scope cl s3.heap.objs.size fp s3 (upd H2 s2.heap.objs.size (.lst []))) [] H' b:=fun {H'} hn b hb=>by
   obtain ⟨o,e,_⟩:=T.obj _ _ st3 b hb;refine ⟨hn b hb,xbu (xbh e),J4.ok.exfs b hb,.inl hb,fun x c e'=>(f3 b hb).2.2.2.2.1 x c (c1 x c e'),fun p hp=>(nomatch hp)⟩
  refine zmz (fun n s'=>∃i σ' H',Inv (cxC X N scope cl s3.heap.objs.size fp s3 (upd H2 s2.heap.objs.size (.lst []))) [] σ' H' s'/\tn i s'.heap/\(∀b∈fp,H' b=none)/\W i n σ' H') ?_ m0
   ⟨0,_,_,J4,st4,fun b hb=>(f3 b hb).1,w0⟩
  rintro n s5 ⟨i,σ5,H5,I5,st5,fr5,w5⟩;rcases turn i n σ5 H5 w5 with ⟨stop,q⟩ | ⟨go,N',hN',step⟩
  ·refine thn (T.done (cxC X N scope cl s3.heap.objs.size fp s3 (upd H2 s2.heap.objs.size (.lst []))) rfl rfl rfl hcalm i [] s5 σ5 H5 _ I5 (stat fr5) st5 stop) fun r s6 hq0=>?_
   obtain ⟨hr,I6⟩:=hq0;subst hr;obtain ⟨m,hm,_⟩:=I6.loc;refine hR _ _ s6 H5 m ⟨I6.free,xhz I3.lt,I3.sz,fun x c e=>?_,fun p hp=>xbu (xbh (I3.pin p hp).1)⟩ hm (zpq (h':=s6.heap) I3 f3 I6 (.refl ..)) q;obtain ⟨v,o,ho,_⟩:=I3.cell x c e;exact xbu (xbh ho)
  ·refine thn (T.item (cxC X N scope cl s3.heap.objs.size fp s3 (upd H2 s2.heap.objs.size (.lst []))) rfl rfl rfl hcalm i [] s5 σ5 H5 _ I5 (stat fr5) st5 go) fun r s6 hq0=>?_
   obtain ⟨u,hr,h6⟩:=hq0;subst hr;refine thn h6 fun _ s7 hq0=>?_
   obtain ⟨x,H7,I7,r7,y7,st7,fr7⟩:=hq0;have I7':=I7.pinned (stat fr7) (T.obj _ _ st7);refine thn (hg cl s3.heap.objs.size fp s3 _ _ s7 σ5 H7 x u _ I7' r7 (step x H7 y7)) fun _ s8 hq0=>?_
   obtain ⟨σ8,H8,I8,q8⟩:=hq0;refine thn (hc cl s3.heap.objs.size fp s3 _ _ s8 σ8 H8 _ I8 q8) fun b s9 hq0=>?_
   obtain ⟨H9,I9,q9⟩:=hq0;have again:∀{σ':St} {H':Hp} {s':Shared} {m':Nat},Inv (cxC X N scope cl s3.heap.objs.size fp s3 (upd H2 s2.heap.objs.size (.lst []))) ([]++pinsAt fp s7.heap) σ' H' s'->m' < n->W (i+1) m' σ' H' ->
     ∃m,m < n/\∃i σ' H',Inv (cxC X N scope cl s3.heap.objs.size fp s3 (upd H2 s2.heap.objs.size (.lst []))) [] σ' H' s'/\tn i s'.heap/\(∀b∈fp,H' b=none)/\W i m σ' H':=fun {σ' H' s' m'} I' hm w'=>by
    refine ⟨m',hm,i+1,σ',H',I'.unpinned,T.keep _ _ _ st7 fun b hb o e=>(I'.pin (b,o) (xcq _ (xcq _ (zcw hb e)))).1,fun b hb=>?_,w'⟩;obtain ⟨o,e,d⟩:=T.obj _ _ st7 b hb;exact (I'.pin (b,o) (xcq _ (xcq _ (zcw hb e)))).2.1
   cases b with
   | false =>
    obtain ⟨m',hm,w'⟩:=hN' _ _ q9;exact again I9 hm w'
   | true =>
    refine thn (he cl s3.heap.objs.size fp s3 _ _ s9 σ8 H9 _ I9 q9) fun v s10 hq0=>?_
    obtain ⟨y,H10,I10,r10,xs,hxs,hz,n10⟩:=hq0;obtain ⟨m',hm,w'⟩:=hN' _ _ n10;refine thn (zhv (X:=cxC X N scope cl s3.heap.objs.size fp s3 (upd H2 s2.heap.objs.size (.lst []))) _ s10 σ8 H10 (.ref s2.heap.objs.size) [y] _ [v] (fun _ H'=>H'=upd H10 s2.heap.objs.size (.lst (xs++[y]))) I10 rfl (.cons r10 .nil) ⟨_,xs,y,rfl,rfl,hxs,hz,rfl⟩) fun _ s11 hq0=>?_
    obtain ⟨_,H11,I11,_,e11⟩:=hq0;subst e11;exact again I11 hm w'
 have hs3' : s2.heap.push { cls := .type "list", dict := none, data := .seq ([] : List Value).toArray } = s3.heap := by rw [← hs3]
 have fin:=codeAny_compStart_list (elt:=elt) (target:=tg) (iter:=iter) (ifs:=ifs) (rest:=[]) (scope:=scope) (pos:=pos) loop (T.self X.A 0 _ _ _ st4 loop);exact fin
theorem zcq (S:CompScope X N k is scope) {pins:List (Addr × Obj)} {σ:St} {H:Hp} {s:Shared} (I:Inv X pins σ H s) :
  ∃cl,closureFor scope X.env=pure cl/\(∀x c,cl.lookup x=some c->X.env.cells.lookup x=some c)/\∀x,(x,NameKind.free)∈scope.names->∃c,cl.lookup x=some c :=
 zks fun y hy hf=>I.ok.has y.1 (S.frees y hy hf)
theorem zsj (hcalm:X.calm=true) (hi:PI X tg iter wi) (hg:∀cl C fp s H,PG (cxC X N scope cl C fp s H) tg g) (hc:∀cl C fp s H,PIf (cxC X N scope cl C fp s H) ifs tc) (he:∀cl C fp s H,PE (cxC X N scope cl C fp s H) elt te)
  (S:CompScope X N k is scope) (hs:∀x,foldedSetIterable iter X.env x=pure x:=by intro _;rfl):PE X (.ListComp elt [⟨tg,iter,ifs,0⟩] scope pos) (tComp wi k is g tc te):=by
 intro pins s σ H Q I h;obtain ⟨cl,e,c1,c2⟩:=zcq S I;rw[eval_ListComp];refine wpAny_comprehension_free (use:=none) rfl hs e S.kind S.names (thn (hi pins s σ H _ I h) fun xv s1 h1=>thn h1 fun itv s2 h2=>?_);obtain ⟨it,fp,tn,J,H2,e2,I2,T,st2,f2,h3⟩:=h2;subst e2;refine zgq (Q:=Q) (RR:=fun acc C=>compPost (model X.prog X.w) X.A X.xe none (EP X pins σ Q) acc C) hcalm hg hc he S I2 T st2 f2 c1 c2 h3 ?_;intro p C s' H' m off hm I' q;exact ⟨m,hm,fun h' hs'=>⟨.ref p,H',off.back I' hs',rfl,q⟩⟩
theorem zsc {i:Nat} {x:Str} {pos':Pos} (hcalm:X.calm=true) (hN:X.N.Nodup) (hxi:X.N[i]?=some x) (hx:Loc X.env.scope x) (hi:PI X tg iter wi) (hg:∀cl C fp s H,PG (cxC X N scope cl C fp s H) tg g) (hc:∀cl C fp s H,PIf (cxC X N scope cl C fp s H) ifs tc)
  (he:∀cl C fp s H,PE (cxC X N scope cl C fp s H) elt te) (S:CompScope X N k is scope) {spos:Pos} (hsw:swapsWith (.ListComp elt [⟨tg,iter,ifs,0⟩] scope pos) (some (.Name x pos')) spos.line X.env=pure true:=by rfl)
  (hf:X.fn x=true\/X.env.scope.names.lookup x=some .local:=by first | exact .inl rfl | exact .inr rfl | assumption)
  (hs:∀x,foldedSetIterable iter X.env x=pure x:=by intro _;rfl):PS X (.Assign [.Name x pos'] (.ListComp elt [⟨tg,iter,ifs,0⟩] scope pos) spos) (tAsg (tComp wi k is g tc te) (gName i)):=by
 intro pins s σ H D I h;obtain ⟨cl,e,c1,c2⟩:=zcq S I;rw[exec_Assign_Name_used (hs:=hsw)];refine xba (wpAny_standAt (xba (?_:wpAny _ X.A _ _ _ s)));show wpAny _ X.A (do let _ ← comprehension (.ListComp elt [⟨tg,iter,ifs,0⟩] scope pos) scope X.env _ (newList []) false (eval iter X.env) (some (assign (.Name x pos') X.env))) _ _ s
 refine xba (xdi (wpAny_comprehension_free (use:=some (assign (.Name x pos') X.env)) (Q:=fun _ s'=>SP X pins D .next s') rfl hs e S.kind S.names
  (thn (hi pins s σ H _ I h) fun xv s1 h1=>thn h1 fun itv s2 h2=>?_)) (fun _ s' hq=>xbl (xbl hq)) fun _ _ e=>e)
 obtain ⟨it,fp,tn,J,H2,e2,I2,T,st2,f2,h3⟩:=h2;subst e2;refine zgq (Q:=fun v H'=>gName i v σ H' D.nx) (RR:=fun acc C=>compPost (model X.prog X.w) X.A X.xe (some (assign (.Name x pos') X.env)) (fun _ s'=>SP X pins D .next s') acc C) hcalm hg hc he S I2 T st2 f2 c1 c2 h3 ?_;intro p C s' H' m off hm I' q;show wpAny _ X.A (assign (.Name x pos') X.env (.ref p)) _ _ _;refine wpAny_assign_Name (zhr (v:=.ref p) I' hN hxi hx rfl (fun s'' I'' hq0=>?_) hf);obtain ⟨a,hsb,ha⟩:=hq0;have hCa:C≠a:=by
  rcases ha with z | z
  ·rw[z];exact off.loc
  ·exact (off.cell x a z).symm
 exact ⟨m,hm.sameBut hsb hCa,fun h' hs'=>⟨_,H',off.back I'' hs',q⟩⟩
end
section
variable {g:TG} {tc:TT} {te:TE} {Q:VK} {σ:St} {H:Hp} {p:Addr}
end
noncomputable def Callee (P:Program) (w:World) (K:Fg) (mg:Str->Option Value) (base:Heap) (x:Str) (k:Nat) (ps:List Str) (sp:Sp):Prop :=
 ∃f fd,FnOk P w K mg base CX0 k f fd ps sp/\Binds K fd ps []/\PySem.W.keepIn K (.ref f)=true/\mg x=some (.ref f)
section
variable {X:Cx} {x:Str} {k:Nat} {ps:List Str} {sp:Sp} {p pos:Pos} {e:Expr} {es:List Expr} {t:TA}
theorem zoz (c : Callee X.prog X.w X.K X.mg X.base x k ps sp) (hr : Room k X.A) (hg : Gl X x) (ha : PA X (e :: es) t) (hdb : (x == ("__debug__" : Str)) = false := by decide)
  (he:starEach (e::es) X.env=(false,eval e X.env)::starEach es X.env:=by rfl) (hpl:(backTo pos (starEach es X.env)).any (·.1)=false:=by rfl) :
  PE X (.Call (.Name x p) (e::es) [] pos) (tCall sp [] E0 t):=by
 obtain ⟨f,fd,F,b,kp,m⟩:=c;exact zno F hr hg m kp b .nil pass0 ha hdb he hpl
theorem zlt (c : Callee X.prog X.w X.K X.mg X.base x k ps sp) (hr : Room k X.A) (hg : Gl X x) (hdb : (x == ("__debug__" : Str)) = false := by decide) : PE X (.Call (.Name x p) [] [] pos) (tCall sp [] E0 tNil) := by
 obtain ⟨f,fd,F,b,kp,m⟩:=c;exact zpa F hr hg m kp b .nil pass0 hdb
end
noncomputable def TopF (K:Fg) (x:Str) (st:Stmt):Prop :=
 ∃f fd,PySem.W.nsIn K mainGlobals x=some (some (.ref f))/\Fun K x x st f fd
theorem zes {K:Fg} {x:Str} {st:Stmt} {f:Addr} {od an:Option Addr} {sl:Array (Option Value)} {oc kV dc pm cd ct:Value}
  (a:PySem.W.nsIn K mainGlobals x=some (some (.ref f))) (l:K.lookup f=some ⟨oc,od,.func (PySem.W.fnOf x x (defArgs st) (defBody st) (defScope st) .none kV dc pm an cd ct),sl⟩) (c:PySem.W.codeIn K cd x=true) (k:PySem.W.keepIn K (.ref f)=true):TopF K x st :=
 ⟨f,_,a,zxm l c k⟩
theorem zij {P:Program} {w:World} {K:Fg} {mg:Str->Option Value} {base h:Heap} {x:Str} {st:Stmt} {N ps:List Str} {k:Nat} {sp:Sp} (T:TopF K x st) (X:K.In h) (G:h.Ns mainGlobals mg) (S:FnScope N ps (defScope st))
  (bd:∀(kV doc pm:Value) (an:Option Addr) (cdv ct:Value) (us:List Value),us.length=ps.length->bindArgs (PySem.W.fnOf x x (defArgs st) (defBody st) (defScope st) .none kV doc pm an cdv ct) ⟨us,[]⟩=pure (ps.zip us))
  (len:∀vs H Q E,sp vs H Q E->vs.length=ps.length)
  (hbody:∀(f:Addr) (cdv:Value) (A:Around) (outer:List Env) (s:Shared) (H:Hp) (vs:List V) (Q:VK) (E:XK),Room k (A.deeper (envOfC x (defScope st) s.heap.objs.size f cdv))->sp vs H Q E ->
   ∃t,PSs (cxOf CX0 P w K mg base N x (defScope st) f cdv A outer s H E).nox (defBody st) t/\t {nx:=fun _ H'=>Q .non H',rt:=Q} (start N vs) H):Callee P w K mg base x (k+1) ps sp:=by
 obtain ⟨f,fd,a,F⟩:=T;exact ⟨f,fd,F.ok S len (hbody f),F.binds bd,F.kp,xcl X G a⟩
section
variable {X:Cx}
theorem zbg : CallR X (.builtin "isinstance") (fun xs H Q => ∃ x T t b, xs = [x, .ty T] /\ TyOf X.K H x t /\ PySem.W.kitOne X.K t (.type T) = some b /\ Q (.bl b) H) := by
 intro pins s σ H xs us Q I r h;obtain ⟨x,T,t,b,rfl,ty,e,q⟩:=h;obtain ⟨u,w',rfl,ru,rw'⟩:=vals2 r;cases (show w'=Value.type T from rw');exact zmj I ru ty e fun tk=>⟨.bl b,H,I.tok tk,rfl,q⟩
noncomputable def CDivP (i j:Int):Prop:=0 < j/\j < 2 ^ 1000
theorem zhe:OpR X (binaryOp .FloorDiv) (rI CDivP fun i j=>.int (i / j)):=opI fun i j _ _ _ _ _ hc q=>by
 have e:i.fdiv j=i / j:=Int.fdiv_eq_ediv_of_nonneg i (by have:=hc.1;lia);refine floordiv_int (by have:=hc.1;lia) (by rw[e];exact q) (.inl (PyProof.noPylong_of_log2 ?_));have h1:j.natAbs < 2 ^ 1000:=by
  have h2:=hc.1;have h3:=hc.2;have h4:(j.natAbs:Int)=j:=by lia
  have h5:(j.natAbs:Int) < ((2 ^ 1000:Nat):Int):=by
   rw[h4];exact_mod_cast h3
  exact_mod_cast h5
 have h0:j.natAbs≠0:=by have:=hc.1;lia
 have:=(Nat.log2_lt h0).mpr h1;lia
end
section
variable {X:Cx} {st:Stmt} {t:TS}
end
noncomputable def compLook (XN:List Str) (xs:List (Str × NameKind)) (N:List Str) (k:Nat) (is:List Nat) (scope:Scope):Bool :=
 (scope.kind == .function) && scope.names.all (fun y=>y.2 != .cell) && scope.names.all (fun y=>y.2 != .local || scope.names.lookup y.1 == some .local) &&
 scope.names.all (fun y=>y.2 != .free || (xs.lookup y.1 == some .cell || xs.lookup y.1 == some .free)) && (N.length == k+is.length) &&
 (List.range is.length).all (fun j=>match is[j]?,N[k+j]? with
  | some i,some x=>XN[i]? == some x && scope.names.lookup x == some .free
  | _,_=>false)
theorem zgp {X:Cx} {N:List Str} {k:Nat} {is:List Nat} {scope:Scope} (h:compLook X.N X.env.scope.names N k is scope=true):CompScope X N k is scope:=by
 unfold compLook at h;simp only[xfd,xhs] at h;obtain ⟨⟨⟨⟨⟨h1,h2⟩,h3⟩,h4⟩,h5⟩,h6⟩:=h;refine ⟨eq_of_beq h1,fun y hy e=>?_,fun y hy e=>?_,fun y hy e=>?_,eq_of_beq h5,fun j i e=>?_⟩
 ·have:=h2 y hy;rw[e] at this;simp at this
 ·have:=h3 y hy;rw[e] at this;simp at this;exact this
 ·have:=h4 y hy;rw[e] at this;simp at this;exact this
 ·have hj:j < is.length:=(xbn.mp e).1;have:=h6 j (xde.mpr hj);rw[e] at this;cases e2:N[k+j]? with
  | none=>rw[e2] at this;cases this
  | some x =>
   rw[e2] at this;simp only[xfd,xeq] at this;exact ⟨x,rfl,this.1,this.2⟩
theorem znd : bootBuiltins "len" = some (.builtin "len") := by decide +kernel
theorem zyu : bootBuiltins "abs" = some (.builtin "abs") := by decide +kernel
theorem zqu : bootBuiltins "min" = some (.builtin "min") := by decide +kernel
theorem zuo : bootBuiltins "sum" = some (.builtin "sum") := by decide +kernel
theorem znc : bootBuiltins "sorted" = some (.builtin "sorted") := by decide +kernel
theorem zuq : bootBuiltins "any" = some (.builtin "any") := by decide +kernel
theorem zr : bootBuiltins "isinstance" = some (.builtin "isinstance") := by decide +kernel
theorem zne : bootBuiltins "int" = some (.type "int") := by decide +kernel
theorem zoa : bootBuiltins "bool" = some (.type "bool") := by decide +kernel
theorem zyt : bootBuiltins "str" = some (.type "str") := by decide +kernel
theorem zqt : bootBuiltins "tuple" = some (.type "tuple") := by decide +kernel
theorem zup : bootBuiltins "list" = some (.type "list") := by decide +kernel
theorem zol {H:Hp} {p:Addr} {o:HO} (h:H p=some o):upd H p o=H:=by
 funext b
 unfold upd;split
 ·subst b;exact h.symm
 ·rfl
section
variable {X:Cx} {K:Fg}
end
end L2
namespace Srt
open PySem PySem.W PyProof.Rows
section
variable (r:Nat->Nat)
noncomputable def lt (i j:Nat):Bool:=decide (r i < r j)
noncomputable def At (p:Array Nat) (i:Nat):Nat:=r (p.getD i 0)
noncomputable def Up (p:Array Nat) (n:Nat):Prop:=∀i j,i<=j->j < n->At r p i<=At r p j
end
section
variable {r:Nat->Nat} {p:Array Nat} {n:Nat}
end
section
variable {n:Nat}
end
section
variable {P:Program} {w:World} {B:Around} {E:Value->Shared->Prop} {st:Shared}
noncomputable def midHeap (h : Heap) (d : Addr) (xs : List Value) : Heap := ((h.update d (Obj.mapSeq fun _ => (#[] : Array Value))).push (seqObj "tuple" xs.toArray 0)).push (seqObj "list" #[] 0)
theorem zfd {h:Heap} {d b:Addr} {xs:List Value} {ob:Obj} (ne:b≠d) (e:h.get? b=some ob):(midHeap h d xs).get? b=some ob :=
 xbe _ (xbe _ ((Heap.get?_update_ne _ _ _ _ ne).trans e))
noncomputable def Answers (P:Program) (w:World) (B:Around) (r:Nat->Nat) (xs:List Value) (sg:Shared):Prop :=
 ∃κ,(∀R:SortKind->Shared->Prop,R κ sg->wpAny (model P w) B (keyKind' xs.toArray) R (fun _ _=>False) sg) /\
  ∀i j C,i < xs.length->j < xs.length->C (lt r i j) sg->kas_ask P w B κ xs i j C sg
noncomputable def outOf (xs:List Value) (p:Array Nat):Array Value:=List.toArray (p.toList.map fun i=>xs.getD i Value.none)
theorem zll {xs:List Value} (h:xs.length < 2):(xs.toArray.zip xs.toArray).map (·.2)=outOf xs (List.toArray (List.range xs.length)):=by
 unfold outOf
 match xs,h with
 | [],_=>simp
 | [_],_=>simp[xiy]
 | _::_::_,h=>exact absurd h (by simp)
end
end Srt
namespace Srt
open PySem PySem.W PyProof.Rows HT
theorem zej:∀a:List Int,lexLt a a=false
 | []=>rfl
 | x::a=>by rw[zbq,if_pos rfl];exact zej a
theorem zdv:∀{a b c:List Int},lexLt a b=true->lexLt b c=true->lexLt a c=true
 | _,[],[],_,h=>by rw[zcd] at h;cases h
 | _,_::_,[],_,h=>by rw[zbt] at h;cases h
 | [],[],_::_,h,_=>by rw[zcd] at h;cases h
 | _::_,[],_::_,h,_=>by rw[zbt] at h;cases h
 | [],_::_,_::_,_,_=>zbf _ _
 | x::a,y::b,z::c,h1,h2=>by
  rw[zbq] at h1 h2 ⊢;by_cases e1:x=y
  ·rw[if_pos e1] at h1;subst e1;by_cases e2:x=z
   ·rw[if_pos e2] at h2 ⊢;exact zdv h1 h2
   ·rw[if_neg e2] at h2 ⊢;exact h2
  ·rw[if_neg e1] at h1;have h1':=xfo h1;by_cases e2:y=z
   ·subst e2;rw[if_neg e1];exact h1
   ·rw[if_neg e2] at h2;have h2':=xfo h2;rw[if_neg (by lia)];exact xdc (by lia)
theorem zhw:∀a b:List Int,lexLt a b=true\/a=b\/lexLt b a=true
 | [],[]=>.inr (.inl rfl)
 | [],_::_=>.inl (zbf _ _)
 | _::_,[]=>.inr (.inr (zbf _ _))
 | x::a,y::b=>by
  rw[zbq,zbq];by_cases e:x=y
  ·subst e;rw[if_pos rfl,if_pos rfl];rcases zhw a b with h | h | h
   ·exact .inl h
   ·exact .inr (.inl (by rw[h]))
   ·exact .inr (.inr h)
  ·rw[if_neg e,if_neg (fun z=>e z.symm)];rcases Int.lt_or_gt_of_ne e with h | h
   ·exact .inl (xdc h)
   ·exact .inr (.inr (xdc h))
theorem zme {a b:List Int} (h:lexLt a b=true):lexLt b a=false:=by
 cases e:lexLt b a with
 | false=>rfl
 | true=>have:=zdv h e;rw[zej] at this;cases this
theorem zkq {p q:Nat->Bool} (hpq:∀x,p x=true->q x=true):∀{l:List Nat} {y:Nat},y∈l->q y=true->p y=false->l.countP p < l.countP q
 | [],_,h,_,_=>nomatch h
 | x::l,y,h,h1,h2=>by
  have mono:∀l:List Nat,l.countP p<=l.countP q:=fun l=>List.countP_mono_left fun x _=>hpq x
  rcases xcc.mp h with rfl | h
  ·rw[xfx h1,xhk (by rw[h2];decide)];exact Nat.lt_succ_of_le (mono l)
  ·have ih:=zkq hpq h h1 h2;by_cases c:p x=true
   ·rw[xfx c,xfx (hpq x c)];lia
   ·rw[xhk c];by_cases d:q x=true
    ·rw[xfx d];lia
    ·rw[xhk d];exact ih
noncomputable def rank (ks:List (List Int)) (i:Nat):Nat:=(List.range ks.length).countP fun k=>lexLt (ks.getD k []) (ks.getD i [])
theorem zjo {ks:List (List Int)} {i j:Nat} (hi:i < ks.length) (hj:j < ks.length):lt (rank ks) i j=lexLt (ks.getD i []) (ks.getD j []):=by
 have up:∀{a b:Nat},a < ks.length->lexLt (ks.getD a []) (ks.getD b [])=true->rank ks a < rank ks b:=fun {a b} ha h =>
  zkq (fun x hx=>zdv hx h) (xde.mpr ha) h (zej _)
 cases e:lexLt (ks.getD i []) (ks.getD j []) with
 | true=>exact xdc (up hi e)
 | false =>
  refine xdb fun h=>?_
  rcases zhw (ks.getD i []) (ks.getD j []) with z | z | z
  ·rw[e] at z;cases z
  ·unfold rank at h;rw[z] at h;exact absurd h (xen _)
  ·have:=up hj z;lia
section
variable {prog:Program} {w:World} {A:Around} {s:Shared} {b:Bool} {Q:Bool->Shared->Prop}
theorem zkd:∀{us ws:List Value} {ns ms:List Int} (i:Nat),IntsAre us ns->IntsAre ws ms->Q (lexLt ns ms) s->KatLex prog w A b (decide (us.length < ws.length)) Q (us.zip ws) i s
 | _,_,_,_,_,.nil,.nil,h=>h
 | _,_,_,_,_,.nil,.cons _ _ _,h=>h
 | _,_,_,_,_,.cons _ _ _,.nil,h=>h
 | _,_,_,_,i,.cons x t (vs:=us) (ns:=ns) r1,.cons y u (vs:=ws) (ns:=ms) r2,h=>by
  rw[zbq] at h;refine kat_cons (wpAny_eqBool_int (kat_go (fun e=>kat_yes ?_) fun e=>kat_no ?_))
  ·rw[if_pos (eq_of_beq e)] at h;have q:=zkd (i+1) r1 r2 h;have ee:decide ((Value.int x t::us).length < (Value.int y u::ws).length)=decide (us.length < ws.length):=by
    rw[xcn,xcn,xgz];simp
   rw[ee];exact q
  ·rw[if_neg (xgy.mp e)] at h;cases hb:(b && i == 0) with
   | true=>exact oneLt_int h
   | false=>exact kat_one _ _ (PyProof.Rows.lt_int h)
end
end Srt
namespace L2
open PySem PySem.Spec PyProof.Rows PySem.W
theorem zho:∀{as:List Addr} {us:List Value},Vals (as.map V.ref) us->us=as.map Value.ref
 | [],_,.nil=>rfl
 | a::as,_,.cons r t=>by
  rw[show _=Value.ref a from r,zho t]
  rfl
noncomputable def TupsAt (K:Fg) (H:Hp) (ps:List (Addr × List Int)):Prop:=∀p∈ps,SqT K H p.1 (p.2.map V.int)
theorem zh {α β:Type} (f:α->β) (d:β) {l:List α} {i:Nat} {x:α} (h:l[i]?=some x):(l.map f).getD i d=f x:=by
 rw[xcy,xcg,h]
 rfl
section
variable {X:Cx}
end
end L2
namespace L2
open PySem PySem.Spec PyProof.Rows
mutual
inductive DAt (K:Fg) (H:Hp):V->PyData->Prop
 | non:DAt K H .non .none
 | bl (b:Bool):DAt K H (.bl b) (.bool b)
 | int (i:Int):DAt K H (.int i) (.int i)
 | str (x:Str):DAt K H (.str x) (.str x)
 | lst {a:Addr} {xs:List V} {ds:List PyData}:SqL K H a xs->DAll K H xs ds->DAt K H (.ref a) (.list ds)
 | tup {a:Addr} {xs:List V} {ds:List PyData}:SqT K H a xs->DAll K H xs ds->DAt K H (.ref a) (.tuple ds)
inductive DAll (K:Fg) (H:Hp):List V->List PyData->Prop
 | nil:DAll K H [] []
 | cons {x:V} {xs:List V} {d:PyData} {ds:List PyData}:DAt K H x d->DAll K H xs ds->DAll K H (x::xs) (d::ds)
end
section
variable {X:Cx} {pins:List (Addr × Obj)} {σ:St} {H:Hp} {s:Shared}
mutual
theorem zeg (I:Inv X pins σ H s):∀{v:V} {d:PyData} {u:Value},DAt X.K H v d->RelV v u->∃as,Reads s.heap u d as
 | _,_,_,.non,r=>by cases r;exact ⟨_,.none⟩
 | _,_,_,.bl b,r=>by cases r;exact ⟨_,.bool b⟩
 | _,_,_,.int i,r=>by obtain ⟨t,rfl⟩:=r;exact ⟨_,.int i t⟩
 | _,_,_,.str x,r=>by obtain ⟨t,rfl⟩:=r;exact ⟨_,.str x t⟩
 | _,_,_,.lst h all,r=>by
  cases r;obtain ⟨its,rv,⟨o,n,e,c,_,dd⟩,_⟩:=I.list h;obtain ⟨as,q⟩:=zdk I all rv;exact ⟨_,.list e c dd q⟩
 | _,_,_,.tup h all,r=>by
  cases r;obtain ⟨its,rv,⟨o,e,c,n,dd⟩,_⟩:=I.tuple h;obtain ⟨as,q⟩:=zdk I all rv;exact ⟨_,.tuple e c dd q⟩
theorem zdk (I:Inv X pins σ H s):∀{vs:List V} {ds:List PyData} {us:List Value},DAll X.K H vs ds->Vals vs us->∃as,ReadsAll s.heap us ds as
 | _,_,_,.nil,.nil=>⟨_,.nil⟩
 | _,_,_,.cons h t,.cons r rs=>by
  obtain ⟨as,q⟩:=zeg I h r;obtain ⟨bs,q'⟩:=zdk I t rs;exact ⟨_,.cons q q'⟩
end
end
noncomputable def rEqX (K:Fg) (neg:Bool):R2:=fun x y H Q=>∃dx dy,DAt K H x dx/\DAt K H y dy/\PySem.SeqAt.shaped dx=true/\PySem.SeqAt.shaped dy=true/\Q (.bl (if neg then !PyData.eqv dx dy else PyData.eqv dx dy)) H
section
variable {X:Cx}
theorem zsm (hu:X.A.units+64 < cLine):OpR X (compareOp .Eq) (rEqX X.K false):=by
 intro pins s σ H x y v u Q I r1 r2 h;obtain ⟨dx,dy,a1,a2,a3,a4,q⟩:=h;obtain ⟨as,ra⟩:=zeg I a1 r1;obtain ⟨bs,rb⟩:=zeg I a2 r2;exact eq_dataH ra rb a3 a4 hu ⟨.bl (PyData.eqv dx dy),H,I,rfl,q⟩
theorem zpf (hu:X.A.units+64 < cLine):OpR X (compareOp .NotEq) (rEqX X.K true):=by
 intro pins s σ H x y v u Q I r1 r2 h;obtain ⟨dx,dy,a1,a2,a3,a4,q⟩:=h;obtain ⟨as,ra⟩:=zeg I a1 r1;obtain ⟨bs,rb⟩:=zeg I a2 r2;exact ne_dataH ra rb a3 a4 hu ⟨.bl (!PyData.eqv dx dy),H,I,rfl,q⟩
end
noncomputable def dI (ns:List Int):List PyData:=ns.map PyData.int
noncomputable def dRow (ns:List Int):PyData:=.tuple (dI ns)
theorem zuf:∀a b:List Int,PyData.eqvAll (dI a) (dI b)=decide (a=b)
 | [],[]=>by rfl
 | [],_::_=>by rfl
 | _::_,[]=>by rfl
 | x::a,y::b=>by
  show (x == y && PyData.eqvAll (dI a) (dI b))=_;rw[zuf a b,xgz];simp
theorem zqo (a b:List Int):PyData.eqv (dRow a) (dRow b)=decide (a=b):=zuf a b
theorem zue:∀a:List Int,PyData.canLayAll0 (dI a)=true/\PyData.depthAll (dI a)=0
 | []=>⟨rfl,rfl⟩
 | x::a=>by
  obtain ⟨h1,h2⟩:=zue a;refine ⟨?_,?_⟩
  ·show (true && PyData.canLayAll0 (dI a))=true;rw[h1];rfl
  ·show max 0 (PyData.depthAll (dI a))=0;rw[h2];rfl
theorem zfi (a:List Int):PySem.SeqAt.shaped (dRow a)=true:=by
 obtain ⟨h1,h2⟩:=zue a;show (PyData.canLayAll0 (dI a) && decide (PyData.depthAll (dI a)+1<=64))=true;rw[h1,h2];rfl
section
variable {X:Cx}
theorem zdx:∀{bs:List Bool} {us:List Value},Vals (bs.map V.bl) us->us=bs.map Value.bool
 | [],_,.nil=>rfl
 | b::bs,_,.cons r t=>by
  rw[show _=Value.bool b from r,zdx t]
  rfl
theorem zht (bs:List Bool):((List.range bs.length).any fun i=>bs.getD i false)=bs.any id:=by
 rw[xgz];simp only[List.any_eq_true,xde];constructor
 ·rintro ⟨i,hi,h⟩;rw[xcy,xbi hi] at h;exact ⟨bs[i],xed hi,h⟩
 ·rintro ⟨b,hb,h⟩;obtain ⟨i,hi,rfl⟩:=xdx hb;exact ⟨i,hi,by rw[xcy,xbi hi];exact h⟩
noncomputable def rAny (K:Fg) (al:Bool):List V->Hp->VK->Prop:=fun xs H Q=>∃(l:Addr) (bs:List Bool),xs=[.ref l]/\SqL K H l (bs.map V.bl)/\Q (.bl (if al then bs.all id else bs.any id)) H
theorem zdi {prog:Program} {w:World} {A:Around} (bs:List Bool):TruthOf prog w A (fun i v=>(bs.map Value.bool).toArray[i]?=some v) (fun i=>bs.getD i false):=fun i v s Q E hP hQ=>by
 have hP':(bs.map Value.bool)[i]?=some v:=by simpa using hP
 rw[xcg] at hP';cases e:bs[i]? with
 | none=>rw[e] at hP';cases hP'
 | some b =>
  rw[e] at hP';cases hP';dsimp only at hQ;rw[xcy,e] at hQ;exact xdw hQ
theorem zqw (hc:X.calm=true) {pins:List (Addr × Obj)} {σ:St} {H:Hp} {s:Shared} {l:Addr} {bs:List Bool} {R:Bool->Prop} (I:Inv X pins σ H s) (hl:SqL X.K H l (bs.map V.bl)) {Q:Value->Shared->Prop} {F:(Nat->Bool)->Nat->Bool}
  (hQ:∀s',Inv X pins σ H s'->Q (.bool (F (fun i=>bs.getD i false) bs.length)) s') :
  wpAny (model X.prog X.w) X.A.in1 (pyIter (.ref l)) (fun it s₂=>∃I fp wr n P St tr,it=.ref I/\Walks X.prog X.w X.A.in1 I fp wr n P St/\St 0 s₂.heap/\TruthOf X.prog X.w X.A.in1 P tr /\
   ∀h' tk,(∀b o,b∉wr->s₂.heap.get? b=some o->h'.get? b=some o)->Q (.bool (F tr n)) {s₂ with heap:=h',toks:=tk}) X.xe s:=by
 obtain ⟨its,rv,pl,hz⟩:=I.list hl;have e:=zdx rv;subst e;have hlt:l < s.heap.objs.size:=by obtain ⟨o,n,e,_⟩:=pl;exact xbh e
 refine xhp pl.isList ?_;refine ⟨s.heap.objs.size,_,[s.heap.objs.size],_,_,_,_,rfl,Walks.list (A:=X.A.in1) (I.ok.hd hc) _ l (xbu hlt) (bs.map Value.bool).toArray,⟨⟨_,xbr _ rfl,rfl,rfl⟩,pl.isList.push _⟩,zdi bs,fun h' tk hk=>?_⟩;have e2:(bs.map Value.bool).toArray.size=bs.length:=by simp
 rw[e2];refine hQ _ ?_;refine I.kept (t':=tk) fun b o e=>hk b o ?_ (xbe _ e)
 intro z;have z':b=s.heap.objs.size:=by simpa using z
 have z2:=xbh e;rw[z'] at z2;exact absurd z2 (xen _)
theorem zqr (hc : X.calm = true) : CallR X (.builtin "any") (rAny X.K false) := by
 intro pins s σ H xs us Q I r h;obtain ⟨l,bs,rfl,hl,q⟩:=h;obtain ⟨u,rfl,ru⟩:=vals1 r;cases ru;refine call_any_walk (zqw (R:=fun _=>True) hc I hl (F:=fun tr n=>(List.range n).any tr) fun s' I'=>⟨.bl ((List.range bs.length).any fun i=>bs.getD i false),H,I',rfl,?_⟩);rw[zht];exact q
end
end L2
namespace Dct
open PySem PySem.W PyProof.Rows
noncomputable def Raw (h:Heap) (d:Addr) (es:Array DictEntry) (ep:Nat):Prop:=∃ob,h.get? d=some ob/\ob.ExactDict/\ob.data=.dict es ep
theorem Raw.kept {h h':Heap} {d:Addr} {es:Array DictEntry} {ep:Nat} (x:Raw h d es ep) (k:∀ob,h.get? d=some ob->h'.get? d=some ob):Raw h' d es ep :=
 let ⟨ob,e,r⟩:=x;⟨ob,k ob e,r⟩
theorem Raw.lt {h:Heap} {d:Addr} {es:Array DictEntry} {ep:Nat} (x:Raw h d es ep):d < h.objs.size:=let ⟨_,e,_⟩:=x;xbh e
theorem Raw.is {st : Shared} {d : Addr} {es : Array DictEntry} {ep : Nat} (x : Raw st.heap d es ep) : st.TypeIs (.ref d) "dict" := let ⟨ob, e, c, _⟩ := x; ⟨ob, e, c.1⟩
section
variable {P:Program} {w:World} {B:Around} {E:Value->Shared->Prop} {st:Shared} {d it:Addr} {es:Array DictEntry} {ep k:Nat}
noncomputable def iterObj (d : Addr) (n ep : Nat) : Obj := { cls := .type "dict_keyiterator", data := .fields #[.ref d, .int 0 0, .int n 0, .int ep 0] }
theorem zor {W:Value->Shared->Prop} (ns:(d == sysModules)=false) (x:Raw st.heap d es ep) (fin:W (.ref st.heap.objs.size) {st with heap:=st.heap.push (iterObj d es.size ep)}):wpAny (model P w) B (pyIter (.ref d)) W E st:=by
 obtain ⟨ob,e,c,dt⟩:=id x;have ty:=x.is;refine wpAny_pyIter_slot ty F.slot_dict_iter (xfu F.slot_dict_iter ty F.entry_dict_iter ?body (F.args_dict_iter_1 _))
 case body =>
  unfold Builtin.«dict.__iter__» Builtin.Dict.dictSlotNone Builtin.Dict.showsAll;refine xba (xba (wpAny_notOrdered_dict ty (xbl ?_)));show wpAny _ _ ((if (d == sysModules)=true then _ else _) >>= _) _ _ st;rw[if_neg (fun z=>xdz (ns.symm.trans z))];refine xba (xbl (xba (xin e dt (xba (wpAny_dictEpoch e dt (xba (xez (xbl ⟨_, rfl, "dict_keyiterator", _, ⟨_, xbr _ rfl, rfl⟩, xeh.lookup, ?_⟩))))))))
  exact fin
theorem zoq {W:Option Value->Shared->Prop} {en:DictEntry} (hi:st.heap.IsKeyIter it d k es.size ep) (x:Raw st.heap d es ep) (hk:es[k]?=some en)
  (fin:∀g:Heap,g.IsKeyIter it d (k+1) es.size ep->Heap.SameBut it st.heap g->W (some en.key) {st with heap:=g}):wpAny (model P w) B (pyNext (.ref it)) W E st:=by
 obtain ⟨oi,ei,ci,di⟩:=id hi;obtain ⟨ob,e,c,dt⟩:=id x;have lt:k < es.size:=(xeo.mp hk).1;unfold pyNext;refine xba (xgt (wpAny_callSpecial?_slot (name := Str.ofString "__next__") hi.typeIs xeh (xfu xeh hi.typeIs F.entry_dict_keyiterator_next ?body (F.args_dict_keyiterator_next_1 _))))
 case body =>
  refine xba (xbl (xba (xba (xba (xfa hi.typeIs (xbl (xba (wpAny_fieldsOf ei di ?_))))))));simp only [show Builtin.Dict_items.ownsTuple "dict_keyiterator" = false from by decide, xdd, ite_false]
  show wpAny _ _ (if (Value.ref d == Value.none)=true then _ else _) _ _ st;have nn:¬ (Value.ref d == Value.none)=true:=xdz;rw[if_neg nn];refine xba (xbl (xba (xin e dt ?_)));rw[if_neg (by simp)];refine xba (xbl (xba (wpAny_dictEpoch e dt ?_)));rw[if_neg (by simp)];refine xbl ?_;simp only[show ¬ ((k:Int) < 0) from by lia,ite_false,xil,hk];refine xba (xba (xfa hi.typeIs (xbl (xba (wpAny_isOneOf_keyiter hi.typeIs ?_)))));show wpAny _ _ (setField (.ref it) 1 (rawInt ((k:Int)+1)) >>= _) _ _ st;refine xba (xgk ei di (by simp) ?_);have hi':(st.heap.update it (Obj.mapFields (·.setIfInBounds 1 (rawInt ((k:Int)+1))))).IsKeyIter it d (k+1) es.size ep :=
   ⟨_,xgi _ ei (Obj.isFreed_of_fields (xga di _)),(Obj.cls_mapFields ..).trans ci,by rw[xga di];simp[rawInt]⟩
  refine xba (xef (xba (wpAny_isOneOf_keyiter (s:={st with heap:=st.heap.update it (Obj.mapFields (·.setIfInBounds 1 (rawInt ((k:Int)+1))))}) hi'.typeIs ?_)));show wpAny _ _ (pure en.key) _ _ _;exact xbl (xbl ⟨_,rfl,xbl (fin _ hi' (Heap.SameBut.update ..))⟩)
theorem zrx {W:Option Value->Shared->Prop} (hh:B.handled=none) (hi:st.heap.IsKeyIter it d k es.size ep) (x:Raw st.heap d es ep) (hk:es.size<=k)
  (fin:∀g:Heap,Heap.ExtBut it st.heap g->W none {st with heap:=g}):wpAny (model P w) B (pyNext (.ref it)) W E st:=by
 obtain ⟨oi,ei,ci,di⟩:=id hi;obtain ⟨ob,e,c,dt⟩:=id x;unfold pyNext;refine xba (xgt (wpAny_callSpecial?_slot (name := Str.ofString "__next__") hi.typeIs xeh (xfu xeh hi.typeIs F.entry_dict_keyiterator_next ?body (F.args_dict_keyiterator_next_1 _))))
 case body =>
  refine xba (xbl (xba (xba (xba (xfa hi.typeIs (xbl (xba (wpAny_fieldsOf ei di ?_))))))));simp only [show Builtin.Dict_items.ownsTuple "dict_keyiterator" = false from by decide, xdd, ite_false]
  show wpAny _ _ (if (Value.ref d == Value.none)=true then _ else _) _ _ st;have nn:¬ (Value.ref d == Value.none)=true:=xdz;rw[if_neg nn];refine xba (xbl (xba (xin e dt ?_)));rw[if_neg (by simp)];refine xba (xbl (xba (wpAny_dictEpoch e dt ?_)));rw[if_neg (by simp)];refine xbl ?_;simp only[show ¬ ((k:Int) < 0) from by lia,ite_false,xil,Array.getElem?_eq_none hk];refine xba (xba (xfa hi.typeIs (xbl ?_)));show wpAny _ _ (setField (.ref it) 0 .none >>= _) _ _ st;refine xba (xgk ei di (by simp) ?_);show wpAny _ _ (newExc (.type "StopIteration") [] >>= _) _ _ _
  refine xba ?_;simp only[newExc,newTuple];refine xba (xez (xba (m:=firstArgMember _ _) (wpAny_of_eq (a:=Value.none) (by first | rfl | (simp only[firstArgMember];rfl)) (xez ?_ (by size_fits)))) (by size_fits));simp only[raiseNew];refine xba (wpAny_handled ?_);rw[show B.in1.handled=none from hh];refine xba (xbl (wpAny_throw ?_));refine xba (wpAny_isInstance (T := "StopIteration") (b := true) ?_ isSubtype_stop (xbl (fin _ (((Heap.SameBut.update ..).extBut.push _).push _))))
  exact ⟨_,xbr _ rfl,rfl⟩
theorem zlo (hh:B.handled=none) (ne:d≠it) (es:Array DictEntry) (ep:Nat) :
  Walks P w B it [it,d] [it] es.size (fun i v=>∃en,es[i]?=some en/\v=en.key) (fun i h=>h.IsKeyIter it d i es.size ep/\Raw h d es ep) where
 sub:=fun b hb=>xcc.mpr (.inl (xbs.mp hb))
 frame:=fun _ _ _ z hk=>⟨z.1.at fun o e=>hk it xcf o e,z.2.kept fun o e=>hk d (xcv _ (xbs.mpr rfl)) o e⟩
 item:=fun i sh W' E' hi z hQ=>by
  have hx:es[i]?=some es[i]:=xip hi;exact zoq z.1 z.2 hx fun g a b=>hQ es[i].key g sh.toks ⟨_,hx,rfl⟩ ⟨a,z.2.kept fun o e=>b.extBut d o ne e⟩ fun c o hc e=>b.extBut c o (fun q=>hc (xbs.mpr q)) e
 done:=fun sh W' E' z hQ=>zrx hh z.1 z.2 (xbg _) fun g b=>hQ g sh.toks fun c o hc e=>b c o (fun q=>hc (xbs.mpr q)) e
 self:=fun _ _ _ _ z hQ=>wpAny_pyIter_keyiter z.1 hQ
theorem zrw (ns : (d == sysModules) = false) (es : Array DictEntry) (ep : Nat) : KdlSrc P w "dict" d d es.size (fun i v => ∃ en, es[i]? = some en /\ v = en.key) (fun h => Raw h d es ep) where
 type:=fun _ x=>x.is
 there:=fun _ x=>⟨x.lt,x.lt⟩
 keep:=fun _ _ x hk=>x.kept fun o e=>hk d (.inl rfl) o e
 notList:=by decide
 notTuple:=by decide
 hint:=fun _ _ _ _ x hq=>kdl_hint_dict x.is hq
 iter:=fun _ sh hh x=>⟨_,_,fun _ _ hq=>zor ns x hq,zlo hh (xbu x.lt) es ep,⟨⟨_,xbr _ rfl,rfl,rfl⟩,x.kept fun o e=>xbe _ e⟩⟩
end
end Dct
namespace Srt
open PySem PySem.W PyProof.Rows
section
variable {P:Program} {w:World} {B:Around} {E:Value->Shared->Prop} {st:Shared}
end
end Srt
namespace L2
open PySem PySem.Spec PyProof.Rows
theorem ObjOk.ob {P:Program} {w:World} {H:Hp} {h:Heap} {a:Addr} {o:HO} (x:ObjOk P w H h a o):∃ob,h.get? a=some ob:=by
 cases o with
 | lst xs=>obtain ⟨_,_,_,_,e⟩:=x;exact ⟨_,e⟩
 | tup xs=>obtain ⟨_,_,_,ob,e,_⟩:=x;exact ⟨_,e⟩
 | dK kvs=>obtain ⟨_,_,_,_,ob,_,_,e,_⟩:=x;exact ⟨_,e⟩
 | dT kvs=>obtain ⟨_,_,_,_,ob,_,_,e,_⟩:=x;exact ⟨_,e⟩
 | set S n=>obtain ⟨ob,_,_,_,e,_⟩:=x;exact ⟨_,e⟩
 | ins C dx fs=>obtain ⟨_,_,_,e,_⟩:=x;exact ⟨_,e⟩
 | own y=>obtain ⟨_,e⟩:=x;exact ⟨_,e⟩
 | xd fs=>obtain ⟨_,⟨_,_,_,e,_⟩,_⟩:=x;exact ⟨_,e⟩
 | rng lo hi=>obtain ⟨_,_,_,e⟩:=x;exact ⟨_,e⟩
 | frz ob u=>obtain ⟨e,_⟩:=x;exact ⟨_,e⟩
 | tbl ps=>exact ⟨_,(show h.get? a=some _ from x)⟩
 | met f y=>exact ⟨_,(show h.get? a=some _ from x)⟩
 | ext φ=>obtain ⟨_,⟨_,e⟩,_⟩:=x;exact ⟨_,e⟩
section
variable {X:Cx} {pins:List (Addr × Obj)} {σ:St} {H:Hp} {s:Shared}
theorem Inv.away (I:Inv X pins σ H s) {q:Addr} (ne:∀b ob,s.heap.get? b=some ob->b≠q):H q=none:=by
 cases e:H q with
 | none=>rfl
 | some o =>
  obtain ⟨ob,z⟩:=(I.hok q o e).ob;exact absurd rfl (ne q ob z)
theorem Inv.laidN {q:Addr} {o:HO} {g:Heap} {t':Nat} (I:Inv X pins σ H s) (k:∀b u,s.heap.get? b=some u->g.get? b=some u) (ne:∀b ob,s.heap.get? b=some ob->b≠q) (new:ObjOk X.prog X.w (upd H q o) g q o) :
  Inv X pins σ (upd H q o) {s with heap:=g,toks:=t'}:=by
 have hn:=I.away ne;have off:∀{b:Addr} {u:HO},H b=some u->upd H q o b=some u:=fun {b u} e=>by rw[zi (ze e hn)];exact e
 refine I.un ⟨fun b u e _ _ _=>k b u e,fun b u e _ _ _=>⟨u.slots,k b u e⟩,fun b u e n _=>by rw[zi (ne b u e)];exact n,fun b u e _=>⟨u,k b u e⟩,fun b xs e=>off e,fun b ob u e=>off e,fun b ps e=>⟨#[],by rw[off e];simp⟩⟩ fun b u e=>?_
 by_cases hb:b=q
 ·subst hb;rw[zk] at e;cases e;exact new
 ·rw[zi hb] at e;exact (I.hok b u e).stay (fun c v _ z=>k c v z) (fun c z=>off z) fun c xs z=>off z
end
theorem zta (ns:List Int):(ns.map (Sum.inl:Int->Key)).map kV=ns.map V.int:=by rw[xfr];rfl
theorem zko {P:Program} {w:World} {H:Hp} {kvs:List (List Key × V)}:∀{ks:List (List Int)} {xs:List (List Key × Addr × Value)},
  Paired (fun (p:List Key × V) (q:List Key × Addr × Value)=>p.1=q.1/\H q.2.1=some (.tup (p.1.map kV))/\RelV p.2 q.2.2) kvs xs->kvs.map (·.1)=ks.map (fun ns=>ns.map Sum.inl) ->
   ∃ps:List (Addr × List Int),ps.map (·.2)=ks/\(∀p∈ps,H p.1=some (.tup (p.2.map V.int)))/\xs.map (fun q=>(entryOfKey (tupleKind (mixKind P w)) q).key)=ps.map fun p=>Value.ref p.1:=by
 induction kvs with
 | nil =>
  intro ks xs r e;cases r;cases ks with
  | nil=>exact ⟨[],rfl,fun p hp=>(nomatch hp),rfl⟩
  | cons x ks=>cases e
 | cons kv kvs ih =>
  intro ks xs r e;cases r with
  | cons r rs =>
   cases ks with
   | nil=>cases e
   | cons ns ks =>
    rw[xcd,xcd] at e;injection e with e1 e2
    obtain ⟨ps,a1,a2,a3⟩:=ih rs e2;rename_i b _;obtain ⟨r1,r2,r3⟩:=r;refine ⟨(b.2.1,ns)::ps,by rw[xcd,a1],fun p hp=>?_,by rw[xcd,xcd,a3];rfl⟩;rcases xcc.mp hp with z | z
    ·subst z;rw[e1,zta] at r2;exact r2
    ·exact a2 p z
open PySem.W in
theorem zqx {P:Program} {w:World} {B:Around} {sg:Shared} {ps:List (Addr × List Int)} (h2:2<=ps.length)
  (tup : ∀ (i : Nat) (p : Addr × List Int), ps[i]? = some p -> ∃ (us : List Value) (o : Obj) (n : Nat), IntsAre us p.2 /\ sg.heap.get? p.1 = some o /\ o.cls = .type "tuple" /\ o.data = .seq us.toArray n /\ p.2 ≠ []) :
  Srt.Answers P w B (Srt.rank (ps.map (·.2))) (ps.map fun p=>Value.ref p.1) sg:=by
 refine ⟨tuples' true,fun R hq=>?_,fun i j C hi hj hC=>?_⟩
 ·have kt:∀(l:List (Addr × List Int)),(∀p∈l,∃i:Nat,ps[i]?=some p)->∃fs:List Value,KatTups sg.heap (l.map fun p=>Value.ref p.1) fs/\fs.length=l.length/\∀v∈fs,∃i t,v=Value.int i t:=fun l=>by
   induction l with
   | nil=>intro _;exact ⟨[],KatTups.nil,rfl,fun v hv=>(nomatch hv)⟩
   | cons p l ih =>
    intro hp;obtain ⟨fs,b1,b2,b3⟩:=ih fun p' hp'=>hp p' (xcv _ hp')
    obtain ⟨i,hi⟩:=hp p xcf;obtain ⟨us,o,n,a1,a2,a3,a4,a5⟩:=tup i p hi;obtain ⟨pa,pn⟩:=p;dsimp only at a1 a2 a3 a4 a5;cases a1 with
    | nil=>exact absurd rfl a5
    | cons x t r=>exact ⟨Value.int x t::fs,KatTups.cons a2 a3 a4 rfl b1,by rw[xcn,xcn,b2],fun v hv=>(xcc.mp hv).elim (fun z=>⟨x,t,z⟩) (b3 v)⟩
  obtain ⟨fs,b1,b2,b3⟩:=kt ps fun p hp=>List.mem_iff_getElem?.mp hp
  exact kat_kind (T := .type "int") b1 (by lia) (fun v hv => by
   obtain ⟨i,t,rfl⟩:=b3 v hv
   exact Looks.of_pure rfl) rfl hq
 ·rw[xbk] at hi hj;have ei:ps[i]?=some ps[i]:=xbi hi;have ej:ps[j]?=some ps[j]:=xbi hj;obtain ⟨us,o,n,a1,a2,a3,a4,a5⟩:=tup i _ ei;obtain ⟨us2,o2,n2,c1,c2,c3,c4,c5⟩:=tup j _ ej;unfold kas_ask;rw[zh (fun p:Addr × List Int=>Value.ref p.1) _ ei,zh (fun p:Addr × List Int=>Value.ref p.1) _ ej];refine kat_lt a2 a4 c2 c4 (Srt.zkd 0 a1 c1 ?_);rw[Srt.zjo (by rw[xbk];exact hi) (by rw[xbk];exact hj),zh (fun p:Addr × List Int=>p.2) _ ei,zh (fun p:Addr × List Int=>p.2) _ ej] at hC;exact hC
theorem zju {ps:List (Addr × List Int)} {p:Array Nat} (p1:p.Perm (List.toArray (List.range ps.length))) (p2:Srt.Up (Srt.rank (ps.map (·.2))) p ps.length) :
  ∃qs:List (Addr × List Int),qs.Perm ps/\(qs.map (·.2)).Pairwise (fun x y=>HT.lexLt y x=false)/\Srt.outOf (ps.map fun p=>Value.ref p.1) p=(qs.map fun p=>Value.ref p.1).toArray:=by
 have hps:p.size=ps.length:=by rw[p1.size_eq];simp
 have sm:∀i∈p.toList,i < ps.length:=fun i hi=>by
  have h3:=(p1.mem_iff (a:=i)).mp (by rw[← Array.mem_toList_iff];exact hi);exact xde.mp (List.mem_toArray.mp h3)
 refine ⟨p.toList.map fun i=>ps.getD i (0,[]),?_,?_,?_⟩
 ·have e1:p.toList.Perm (List.range ps.length):=by
   have:=xep.mp p1
   simpa using this
  have e2:=e1.map fun i=>ps.getD i (0,[])
  have e3:((List.range ps.length).map fun i=>ps.getD i (0,[]))=ps:=by
   apply List.ext_getElem
   ·simp
   ·intro i h1 h2;simp[xcy,h2]
  rw[e3] at e2;exact e2
 ·rw[xfr,xha];intro i j hi hj hij;rw[List.getElem_map,List.getElem_map];rw[xbk] at hi hj;have hi':i < p.size:=by simpa using hi
  have hj':j < p.size:=by simpa using hj
  have hu:=p2 i j (xbm hij) (by lia);have g:∀k,(hk:k < p.toList.length)->p.getD k 0=p.toList[k]:=fun k hk=>by
   have hk':k < p.size:=by simpa using hk
   rw[Array.getD_eq_getD_getElem?,xip hk'];simp
  have si:=sm _ (xed hi);have sj:=sm _ (xed hj);have lk:=Srt.zjo (ks:=ps.map (·.2)) (i:=p.toList[j]) (j:=p.toList[i]) (by rw[xbk];exact sj) (by rw[xbk];exact si);have hno:Srt.lt (Srt.rank (ps.map (·.2))) p.toList[j] p.toList[i]=false:=by
   refine xdb fun z=>?_
   unfold Srt.At at hu;rw[g i hi,g j hj] at hu;lia
  rw[hno] at lk;have v:∀k,k < ps.length->(ps.map (·.2)).getD k []=(ps.getD k (0,[])).2:=fun k hk=>by
   have ek:ps[k]?=some ps[k]:=xbi hk;rw[zh (fun p:Addr × List Int=>p.2) _ ek,xcy,ek]
   rfl
  rw[v _ sj,v _ si] at lk;exact lk.symm
 ·unfold Srt.outOf;rw[xfr]
  congr 1
  refine List.map_congr_left fun i hi=>?_
  have hi2:=sm i hi;have ei:ps[i]?=some ps[i]:=xbi hi2;rw[zh (fun p:Addr × List Int=>Value.ref p.1) _ ei];show _=Value.ref (ps.getD i (0,[])).1;rw[xcy,ei]
  rfl
section
variable {X:Cx}
end
section
variable {X:Cx} {pins:List (Addr × Obj)} {σ:St} {H:Hp} {s:Shared}
end
section
variable {g:TG} {tc:TT} {te:TE} {Q:VK} {σ:St} {H:Hp} {p:Addr}
end
end L2
namespace L2
open PySem PySem.Spec PyProof.Rows PySem.W
noncomputable def TupsG (g : Heap) (ps : List (Addr × List Int)) : Prop := ∀ p ∈ ps, ∃ (us : List Value) (o : Obj) (n : Nat), IntsAre us p.2 /\ g.get? p.1 = some o /\ o.cls = .type "tuple" /\ o.data = .seq us.toArray n
section
variable {P:Program} {w:World} {B:Around} {E:Value->Shared->Prop} {sg:Shared}
theorem zib:∀{ps:List (Addr × List Int)},TupsG sg.heap ps->∃fs:List (Option Value),fs.map Option.isSome=ps.map (fun p=>!p.2.isEmpty)/\∀(W:List (Option Value)->Shared->Prop),W fs sg->wpAny (model P w) B ((ps.map fun p=>Value.ref p.1).mapM firstOfTuple') W E sg
 | [],_=>⟨[],rfl,fun W h=>by rw[List.map_nil,List.mapM_nil];exact xbl h⟩
 | p::ps,h=>by
  obtain ⟨fs,f1,f2⟩:=zib (ps:=ps) fun q hq=>h q (xcv _ hq)
  obtain ⟨us,o,n,a1,a2,a3,a4⟩:=h p xcf;refine ⟨us.toArray[0]?::fs,?_,fun W hW=>?_⟩
  ·rw[xcd,xcd,f1]
   congr 1
   obtain ⟨pa,pn⟩:=p;dsimp only at a1 ⊢;cases a1 with
   | nil=>rfl
   | cons x t r=>rfl
  ·rw[xcd,List.mapM_cons];have ty:Looks (model P w) sg.heap (typeOf (.ref p.1)) o.cls:=(Looks.ld a2).andThen .now;refine xba ?_;rw[kas_first_eq];refine xba (Looks.here ty ?_);rw[a3,if_neg (by first | decide | simp)];exact xba (listItems_at a2 a4 (xbl (xba (f2 _ (xbl hW)))))
theorem zkc (x y:Value):keyLt' general' x y=oneLt' false x y:=rfl
theorem zqv {κ:SortKind} (hκ:κ=general'\/κ=oneType') (hu:B.units < cLine) {a b:Addr × List Int} (ha:TupsG sg.heap [a]) (hb:TupsG sg.heap [b]) {C:Bool->Shared->Prop} (hC:C (HT.lexLt a.2 b.2) sg) :
  wpAny (model P w) B (keyLt' κ (.ref a.1) (.ref b.1)) C E sg:=by
 obtain ⟨us,o,n,a1,a2,a3,a4⟩:=ha a xcf;obtain ⟨us2,o2,n2,b1,b2,b3,b4⟩:=hb b xcf;rcases hκ with rfl | rfl
 ·rw[zkc];exact kat_one _ _ (HT.zgi (items:=us.toArray) (items2:=us2.toArray) ⟨o,a2,a3,n,a4⟩ ⟨o2,b2,b3,n2,b4⟩ a1 b1 hu hC)
 ·rw[keyLt'_oneType,oneLt'_eq];simp only[ite_true];refine xba (wpAny_cRoomFor hu (xba (wpAny_callSpecialIfBound?_slot (T := "tuple") ⟨o, a2, a3⟩ xhx ?_)))
  obtain ⟨cls,dd,data,sl⟩:=o;obtain ⟨cls2,dd2,data2,sl2⟩:=o2;dsimp only at a3 a4 b3 b4;subst a3 a4 b3 b4;exact xie xhx ⟨_,a2,rfl⟩ PySem.F.entry_tuple_lt (PySem.F.args_tuple_lt_2 _ _) (HT.zdm a.1 b.1 us.toArray us2.toArray n n2 dd dd2 sl sl2 a.2 b.2 a1 b1) ⟨a2,b2,xdw hC⟩
theorem zqy {ps:List (Addr × List Int)} (hu:B.units < cLine) (tup:TupsG sg.heap ps) (emp:∃p∈ps,p.2=[]):Srt.Answers P w B (Srt.rank (ps.map (·.2))) (ps.map fun p=>Value.ref p.1) sg:=by
 obtain ⟨fs,f1,f2⟩:=zib (P:=P) (w:=w) (B:=B) (E:=fun _ _=>False) tup;have notAll:¬ (fs.toArray.all fun x=>x.isSome)=true:=fun z=>by
  have z':fs.all (fun x=>x.isSome)=true:=by simpa using z
  obtain ⟨p,hp,he⟩:=emp;have m:(!p.2.isEmpty)∈fs.map Option.isSome:=by rw[f1];exact List.mem_map_of_mem (f:=fun p:Addr × List Int=>!p.2.isEmpty) hp
  obtain ⟨o,ho,e⟩:=xfg.mp m;have:=xhs.mp z' o ho;rw[e,he] at this;cases this
 have cmp:∀{κ:SortKind},κ=general'\/κ=oneType'->∀i j C,i < (ps.map fun p=>Value.ref p.1).length->j < (ps.map fun p=>Value.ref p.1).length->C (Srt.lt (Srt.rank (ps.map (·.2))) i j) sg->kas_ask P w B κ (ps.map fun p=>Value.ref p.1) i j C sg:=fun {κ} hκ i j C hi hj hC=>by
  rw[xbk] at hi hj;have ei:ps[i]?=some ps[i]:=xbi hi;have ej:ps[j]?=some ps[j]:=xbi hj;unfold kas_ask;rw[zh (fun p:Addr × List Int=>Value.ref p.1) _ ei,zh (fun p:Addr × List Int=>Value.ref p.1) _ ej];rw[Srt.zjo (by rw[xbk];exact hi) (by rw[xbk];exact hj),zh (fun p:Addr × List Int=>p.2) _ ei,zh (fun p:Addr × List Int=>p.2) _ ej] at hC;have one:∀k,(hk:k < ps.length)->TupsG sg.heap [ps[k]]:=fun k hk q hq=>by
   rw[xbs.mp hq];exact tup _ (xed hk)
  exact zqv hκ hu (one i hi) (one j hj) hC
 by_cases fst:(fs.toArray[0]?.bind id).isSome=true
 ·refine ⟨general',fun R hR=>?_,cmp (.inl rfl)⟩;rw[kat_kind_eq,xim,xiw];refine xba (xba (f2 _ (xbl ?_)));rw[if_neg notAll,if_pos fst];exact xbl hR
 ·refine ⟨oneType',fun R hR=>?_,cmp (.inr rfl)⟩;rw[kat_kind_eq,xim,xiw];refine xba (xba (f2 _ (xbl ?_)));rw[if_neg notAll,if_neg fst,oneTypeOnly'_eq,xim,xiw];have ty : ∀ v ∈ (ps.map fun p => Value.ref p.1), ∀ W : Value -> Shared -> Prop, W (.type "tuple") sg -> wpAny (model P w) B (typeOf v) W (fun _ _ => False) sg := fun v hv W hW => by
   obtain ⟨p,hp,rfl⟩:=xfg.mp hv;obtain ⟨us,o,n,a1,a2,a3,a4⟩:=tup p hp;have lk:Looks (model P w) sg.heap (typeOf (.ref p.1)) o.cls:=(Looks.ld a2).andThen .now;rw[a3] at lk;exact lk.here hW
  refine xba (xba (xba (kas_mapM (r := Value.type "tuple") _ ty (xbl ?_))))
  obtain ⟨p,hp,_⟩:=emp;obtain ⟨p0,rest,rfl⟩:∃p0 rest,ps=p0::rest:=by
   cases ps with
   | nil=>exact nomatch hp
   | cons p0 rest=>exact ⟨p0,rest,rfl⟩
  have all : ((List.map (fun _ => Value.type "tuple") ((p0 :: rest).map fun p => Value.ref p.1)).toArray.all fun x => x == Value.type "tuple") = true := by
   rw[List.all_toArray,xhs];intro x hx;obtain ⟨_,_,rfl⟩:=xfg.mp hx
   rfl
  have zero : (List.map (fun _ => Value.type "tuple") ((p0 :: rest).map fun p => Value.ref p.1)).toArray[0]? = some (Value.type "tuple") := by simp
  rw[zero];simp only[all,ite_true];exact xbl (xbl hR)
theorem zoc {ps:List (Addr × List Int)} (hu:B.units < cLine) (h2:2<=ps.length) (tup:TupsG sg.heap ps):Srt.Answers P w B (Srt.rank (ps.map (·.2))) (ps.map fun p=>Value.ref p.1) sg:=by
 by_cases c:∃p∈ps,p.2=[]
 ·exact zqy hu tup c
 ·refine zqx h2 fun i p hi=>?_
  have hp:=xcx hi;obtain ⟨us,o,n,a1,a2,a3,a4⟩:=tup p hp;exact ⟨us,o,n,a1,a2,a3,a4,fun z=>c ⟨p,hp,z⟩⟩
end
theorem zdw (z:List (Addr × List Int)):Vals (z.map fun p=>V.ref p.1) (z.map fun p=>Value.ref p.1):=by
 induction z with
 | nil=>exact .nil
 | cons x z ih=>exact .cons rfl ih
section
variable {X:Cx}
end
end L2
namespace TS
open PySem PyProof.Rows
noncomputable def kA (R:Keyed->Nat) (xs:Array Keyed) (i:Nat):Nat:=match xs[i]? with
 | some p=>R p
 | none=>0
theorem zbu {R:Keyed->Nat} {xs ys:Array Keyed} {i j:Nat} (h:xs[i]?=ys[j]?):kA R xs i=kA R ys j:=by unfold kA;rw[h]
theorem zby {R:Keyed->Nat} {xs:Array Keyed} {i:Nat} {x:Keyed} (h:xs[i]?=some x):kA R xs i=R x:=by unfold kA;rw[h]
noncomputable def UpA (R:Keyed->Nat) (xs:Array Keyed) (a b:Nat):Prop:=∀i j,a<=i->i<=j->j < b->kA R xs i<=kA R xs j
noncomputable def DnA (R:Keyed->Nat) (xs:Array Keyed) (a b:Nat):Prop:=∀i j,a<=i->i<=j->j < b->kA R xs j<=kA R xs i
section
variable {prog:Program} {w:World} {A:Around} {E:Value->Shared->Prop} {s:Shared} {κ:SortKind} {a₀:Array Keyed} {R:Keyed->Nat}
noncomputable def Orc (prog:Program) (w:World) (A:Around) (s:Shared) (κ:SortKind) (a₀:Array Keyed) (R:Keyed->Nat):Prop :=
 ∀x,x∈a₀.toList->∀y,y∈a₀.toList->∀(C:Bool->Shared->Prop),C (decide (R x < R y)) s->wpAny (model prog w) A (keyLt' κ x.1 y.1) C (fun _ _=>False) s
structure B (κ:SortKind) (a₀:Array Keyed) (st:SortSt):Prop where
 perm:(arrOf st).Perm a₀
 kind:kindOf st=κ
 failed:failedOf st=none
theorem B.size {st:SortSt} (h:B κ a₀ st):(arrOf st).size=a₀.size:=h.perm.size_eq
theorem B.set {st:SortSt} (h:B κ a₀ st) {xs:Array Keyed} (hp:xs.Perm (arrOf st)):B κ a₀ (setArr st xs):=⟨hp.trans h.perm,h.kind,h.failed⟩
theorem B.mem {st:SortSt} (h:B κ a₀ st) {i:Nat} (hi:i < a₀.size):∃x,(arrOf st)[i]?=some x/\x∈a₀.toList:=by
 have hi':i < (arrOf st).size:=by rw[h.size];exact hi
 exact ⟨_,getElem?_pos _ i hi',(xep.mp h.perm).mem_iff.mp (by simp)⟩
theorem w_lt {x y:Keyed} {st:SortSt} {Q:Option Bool->SortSt->Prop} (O:Orc prog w A s κ a₀ R) (hk:kindOf st=κ) (hx:x∈a₀.toList) (hy:y∈a₀.toList) (h:Q (some (decide (R x < R y))) st):wpS (model prog w) A E s (lt' x y) Q st:=by
 rw[lt'_eq];refine xbd (xfz ?_);rw[hk];refine xbd (xhw (xgt (xdi (O x hx y hy (fun b s'=>s'=s/\b=decide (R x < R y)) ⟨rfl,rfl⟩) (fun b s' hb=>?_) fun _ _ f=>f.elim)));obtain ⟨rfl,rfl⟩:=hb;exact ⟨rfl,xbf h⟩
theorem zgb {arr:Array Keyed} {i:Nat} {x:Keyed} {st:SortSt} {Q:Keyed->SortSt->Prop} (e:arr[i]?=some x) (h:Q x st):wpS (model prog w) A E s (elem' arr i) Q st:=by
 rw[elem'_eq,e];exact xbf h
theorem zgv {i j:Nat} {st:SortSt} {Q:Option Bool->SortSt->Prop} (O:Orc prog w A s κ a₀ R) (b:B κ a₀ st) (hi:i < a₀.size) (hj:j < a₀.size) (h:Q (some (decide (kA R (arrOf st) i < kA R (arrOf st) j))) st):wpS (model prog w) A E s (ltAt' i j) Q st:=by
 obtain ⟨x,e1,m1⟩:=b.mem hi;obtain ⟨y,e2,m2⟩:=b.mem hj;rw[zby e1,zby e2] at h;rw[ltAt'_eq];exact xbd (xfz (xbd (zgb e1 (xbd (zgb e2 (w_lt O b.kind m1 m2 h))))))
theorem zlf {i j:Nat} {st:SortSt} {Q:Unit->SortSt->Prop} (h:Q () (setArr st (mirror (arrOf st) i j ((j - i) / 2)))):wpS (model prog w) A E s (reverseSlice' i j) Q st:=by
 rw[reverseSlice'_eq];exact xff h
theorem zvo {i j:Nat} {st:SortSt} {Q:Unit->SortSt->Prop} (h:Q () (setArr st (bubble (arrOf st) i (i - j)))):wpS (model prog w) A E s (moveDown' i j) Q st:=by
 rw[moveDown'_eq];exact xff h
theorem zre {lo x n N:Nat} (h:x < n) (hn:lo+n<=N):lo+x < N:=xbc (xdm h lo) hn
theorem zrd {lo x n N:Nat} (h:x < n) (hn:lo+n<=N):lo+x - 1 < N:=xcr (xfe _ _) (zre h hn)
theorem zkg {lo n:Nat} (h:1<=n):lo+n - 1 < lo+n:=xgb (xbc h (xiz _ _)) Nat.one_pos
theorem zvj {j lo n:Nat} (h:j < lo+(n+1)) (e:¬j=lo+n):j < lo+n:=xci (xch h) e
theorem zst {i j k:Nat} (c2:k < j):i<=i+j - 1 - k:=Nat.le_sub_of_add_le (xcm (xdm c2 i))
theorem zsu {i j k:Nat} (c1:i<=k) (c2:k < j):i+j - 1 - k < j:=xcr (xfv c1 _) (by rw[Nat.sub_right_comm,xbo];exact xgb (xhm c2) Nat.one_pos)
theorem zfo {xs:Array Keyed} {i j:Nat} (hj:j<=xs.size) (k:Nat):kA R (mirror xs i j ((j - i) / 2)) k=if i<=k/\k < j then kA R xs (i+j - 1 - k) else kA R xs k:=by
 have e:=getElem?_mirror_all (i:=i) hj k;split
 ·rename_i c;rw[if_pos c] at e;exact zbu e
 ·rename_i c;rw[if_neg c] at e;exact zbu e
noncomputable def Out (xs ys:Array Keyed) (a b:Nat):Prop:=∀k,k < a\/b<=k->xs[k]?=ys[k]?
theorem Out.refl (xs:Array Keyed) (a b:Nat):Out xs xs a b:=fun _ _=>rfl
theorem Out.trans {xs ys zs:Array Keyed} {a b:Nat} (h1:Out xs ys a b) (h2:Out ys zs a b):Out xs zs a b:=fun k hk=>(h1 k hk).trans (h2 k hk)
theorem Out.mirror {xs:Array Keyed} {i j a b:Nat} (hj:j<=xs.size) (hi:a<=i) (hb:j<=b):Out (mirror xs i j ((j - i) / 2)) xs a b:=fun k hk=>by
 rw[getElem?_mirror_all (i:=i) hj k,if_neg fun z=>hk.elim (fun h=>xds (xbb hi z.1) h) fun h=>xds (xbb hb h) z.2]
theorem Out.bubble {xs:Array Keyed} {src d a b:Nat} (hs:src < xs.size) (hd:d<=src) (ha:a<=src - d) (hb:src < b):Out (bubble xs src d) xs a b:=fun k hk=>by
 rw[getElem?_bubble hs d hd k,if_neg fun z=>hk.elim (fun h=>xds (xbb ha (xcs z.symm)) h) fun h=>xds h (xcr (xbb (xcs z) (xfe _ _)) hb),if_neg fun z=>hk.elim (fun h=>xds (xbb ha (xbm z.1)) h) fun h=>xds h (xcr z.2 hb)]
structure Sm (st st':SortSt) (a b:Nat):Prop where
 out:Out (arrOf st') (arrOf st) a b
 pend:pendingOf st'=pendingOf st
theorem zrl {lo a nrem:Nat} {st:SortSt} {Q:Option (Option Nat) × Nat->SortSt->Prop} (O:Orc prog w A s κ a₀ R) (b:B κ a₀ st) (hn:lo+nrem<=a₀.size) (ha:1<=a) (han:a<=nrem) (hs:UpA R (arrOf st) lo (lo+a))
  (h:∀n,a<=n->n<=nrem->UpA R (arrOf st) lo (lo+n)->(n=nrem\/kA R (arrOf st) (lo+n) < kA R (arrOf st) (lo+n - 1))->Q (none,n) st) :
  wpS (model prog w) A E s (forIn [a:nrem] ((none,a):Option (Option Nat) × Nat) fun _ r=>do
   let x ← ltAt' (lo+r.2) (lo+r.2 - 1)
   match x with
   | some smaller=>if smaller=true then pure (ForInStep.done (none,r.2)) else pure (ForInStep.yield (none,r.2+1))
   | _=>pure (ForInStep.done (some none,r.2))) Q st:=by
 refine xcz (I:=fun x c st'=>st'=st/\c=(none,x)/\UpA R (arrOf st) lo (lo+x)) ?_ ?_ ⟨rfl,rfl,hs⟩
 ·rintro x c st' h1 h2 ⟨rfl,rfl,h3⟩;dsimp only;refine xbd (zgv O b (zre h2 hn) (zrd h2 hn) ?_);by_cases c:kA R (arrOf st') (lo+x) < kA R (arrOf st') (lo+x - 1)
  ·simp only[c,xgv,xiq];exact xbf (h x h1 (xbm h2) h3 (.inr c))
  ·simp only[c,xgl,xdd,xgq];refine xbf ⟨rfl,rfl,fun i j hi hij hj=>?_⟩;by_cases e:j=lo+x
   ·subst e;by_cases e2:i=lo+x
    ·rw[e2];exact xbg _
    ·exact xbb (h3 i (lo+x - 1) hi (xcm (xci hij e2)) (zkg (xbb ha h1))) (xbp c)
   ·exact h3 i j hi hij (zvj hj e)
 ·rintro c st' ⟨rfl,rfl,h3⟩;rw[xir han] at h3 ⊢;exact h nrem han (xbg _) h3 (.inl rfl)
theorem zek {xs:Array Keyed} {i j:Nat} (hj:j<=xs.size) (he:∀k,i<=k->k < j->kA R xs k=kA R xs (j - 1)) (k:Nat):kA R (mirror xs i j ((j - i) / 2)) k=kA R xs k:=by
 rw[zfo hj];split
 ·rename_i c;rw[he _ (zst c.2) (zsu c.1 c.2),he k c.1 c.2]
 ·rfl
structure Fl (κ:SortKind) (a₀:Array Keyed) (R:Keyed->Nat) (st₀ st:SortSt) (lo n neq b:Nat):Prop where
 base:B κ a₀ st
 same:Sm st₀ st lo b
 dn:DnA R (arrOf st) lo (lo+n)
 hq:neq+1<=n
 eqs:∀i,lo+n - (neq+1)<=i->i < lo+n->kA R (arrOf st) i=kA R (arrOf st) (lo+n - 1)
theorem Fl.turn {st₀ st:SortSt} {lo n neq b:Nat} (h:Fl κ a₀ R st₀ st lo n neq b) (hb:lo+n<=b) (hs:b<=a₀.size) :
  Fl κ a₀ R st₀ (setArr st (mirror (arrOf st) (lo+n - (neq+1)) (lo+n) ((lo+n - (lo+n - (neq+1))) / 2))) lo n neq b/\∀k,kA R (mirror (arrOf st) (lo+n - (neq+1)) (lo+n) ((lo+n - (lo+n - (neq+1))) / 2)) k=kA R (arrOf st) k:=by
 have hz:=h.base.size;have hq:=h.hq;have hle:lo+n<=(arrOf st).size:=by rw[hz];exact xbb hb hs
 have e:=zek (R:=R) (xs:=arrOf st) (i:=lo+n - (neq+1)) (j:=lo+n) hle h.eqs;refine ⟨⟨h.base.set (mirror_perm _ _ _ _),⟨(Out.mirror hle (Nat.le_sub_of_add_le (xbv hq lo)) hb).trans h.same.out,h.same.pend⟩,fun i j a1 a2 a3=>?_,h.hq,fun i a1 a2=>?_⟩,e⟩
 ·show kA R (mirror _ _ _ _) j<=kA R (mirror _ _ _ _) i;rw[e,e];exact h.dn i j a1 a2 a3
 ·show kA R (mirror _ _ _ _) i=kA R (mirror _ _ _ _) _;rw[e,e];exact h.eqs i a1 a2
theorem Fl.less {st₀ st:SortSt} {lo n neq b:Nat} (h:Fl κ a₀ R st₀ st lo n neq b) (c:kA R (arrOf st) (lo+n)<=kA R (arrOf st) (lo+n - 1)):DnA R (arrOf st) lo (lo+(n+1)):=fun i j a1 a2 a3=>by
 have hq:=h.hq;by_cases e:j=lo+n
 ·subst e;by_cases e2:i=lo+n
  ·rw[e2];exact xbg _
  ·exact xbb c (h.dn i (lo+n - 1) a1 (xcm (xci a2 e2)) (zkg (xbb (xiz 1 neq) hq)))
 ·exact h.dn i j a1 a2 (zvj a3 e)
theorem Fl.fresh {st₀ st:SortSt} {lo n neq b:Nat} (h:Fl κ a₀ R st₀ st lo n neq b) (c:kA R (arrOf st) (lo+n)<=kA R (arrOf st) (lo+n - 1)):Fl κ a₀ R st₀ st lo (n+1) 0 b:=⟨h.base,h.same,h.less c,xdl (xdh _),fun i g1 g2=>by
 have:i=lo+(n+1) - 1:=xdf (xch g2) g1
 rw[this]⟩
theorem Fl.more {st₀ st:SortSt} {lo n neq b:Nat} (h:Fl κ a₀ R st₀ st lo n neq b) (c:kA R (arrOf st) (lo+n)=kA R (arrOf st) (lo+n - 1)):Fl κ a₀ R st₀ st lo (n+1) (neq+1) b:=by
 have hq:=h.hq;refine ⟨h.base,h.same,h.less (xcs c),xdl hq,fun i g1 g2=>?_⟩;rw[show lo+(n+1) - 1=lo+n from rfl];by_cases e:i=lo+n
 ·rw[e]
 ·rw[c];exact h.eqs i (xbb (xcs (Nat.succ_sub_succ (lo+n) (neq+1)).symm) g1) (zvj g2 e)
theorem zrk {lo nrem:Nat} {st:SortSt} {Q:Option Nat->SortSt->Prop} (O:Orc prog w A s κ a₀ R) (b:B κ a₀ st) (hn:lo+nrem<=a₀.size) (h1:1<=nrem)
  (h:∀m st',1<=m->m<=nrem->B κ a₀ st'->Sm st st' lo (lo+nrem)->UpA R (arrOf st') lo (lo+m)->Q (some m) st'):wpS (model prog w) A E s (countRun' lo nrem) Q st:=by
 have sm0:Sm st st lo (lo+nrem):=⟨Out.refl _ _ _,rfl⟩
 have one:∀xs:Array Keyed,UpA R xs lo (lo+1):=fun xs i j a1 a2 a3=>by
  have:i=j:=xdf a2 (xbb (xch a3) a1);subst this;exact xbg _
 have oneD:∀xs:Array Keyed,DnA R xs lo (lo+1):=fun xs i j a1 a2 a3=>by
  have:i=j:=xdf a2 (xbb (xch a3) a1);subst this;exact xbg _
 rw[countRun'_eq];dsimp only;refine xbd (zrl O b hn (xbg _) h1 (one _) fun n n1 n2 hu hlast=>?_);dsimp only;split
 ·exact xbf (h n st n1 n2 b sm0 hu)
 rename_i hne;have hne':n≠nrem:=fun z=>hne (by simp[z])
 have hlt:n < nrem:=xci n2 hne';have hl:kA R (arrOf st) (lo+n) < kA R (arrOf st) (lo+n - 1):=by
  rcases hlast with z | z
  ·exact absurd z hne'
  ·exact z
 have hz:=b.size;have fin:∀(n:Nat) (st1:SortSt),B κ a₀ st1->Sm st st1 lo (lo+nrem)->1<=n->n<=nrem->DnA R (arrOf st1) lo (lo+n) ->
   B κ a₀ (setArr st1 (mirror (arrOf st1) lo (lo+n) ((lo+n - lo) / 2)))/\Sm st (setArr st1 (mirror (arrOf st1) lo (lo+n) ((lo+n - lo) / 2))) lo (lo+nrem)/\UpA R (mirror (arrOf st1) lo (lo+n) ((lo+n - lo) / 2)) lo (lo+n):=fun n st1 b1 sm1 m1 m2 dn1=>by
  have hz:=b1.size;have hm:=xbv m2 lo;have hle:lo+n<=(arrOf st1).size:=by rw[hz];exact xbb hm hn
  refine ⟨b1.set (mirror_perm _ _ _ _),⟨(Out.mirror hle (xbg _) hm).trans sm1.out,sm1.pend⟩,fun i j a1 a2 a3=>?_⟩;have hi:=xcr a2 a3;rw[zfo hle,zfo hle,if_pos ⟨a1,hi⟩,if_pos ⟨xbb a1 a2,a3⟩];exact dn1 _ _ (zst a3) (xfv a2 _) (zsu a1 hi)
 have eqs:¬ kA R (arrOf st) lo < kA R (arrOf st) (lo+n - 1)->∀k,lo<=k->k < lo+n->kA R (arrOf st) k=kA R (arrOf st) (lo+n - 1):=fun c k k1 k2=>by
  have g1:=hu lo k (xbg _) k1 k2;have g2:=hu k (lo+n - 1) k1 (xcm k2) (zkg n1);exact xdf g2 (xbb (xbp c) g1)
 have dnx:∀xs:Array Keyed,(∀k,kA R xs k=kA R (arrOf st) k)->¬ kA R (arrOf st) lo < kA R (arrOf st) (lo+n - 1)->DnA R xs lo (lo+(n+1)):=fun xs e c i j a1 a2 a3=>by
  rw[e,e];by_cases e2:j=lo+n
  ·subst e2;by_cases e3:i=lo+n
   ·rw[e3];exact xbg _
   ·rw[eqs c i a1 (xci a2 e3)];exact xbm hl
  ·have jn:=zvj a3 e2;rw[eqs c i a1 (xcr a2 jn),eqs c j (xbb a1 a2) jn];exact xbg _
 split
 ·have hle:lo+n<=(arrOf st).size:=by rw[hz];exact xbb (xbv n2 lo) hn
  refine xbd (zgv O b (xbc (xfy h1) hn) (zrd hlt hn) ?_);by_cases c:kA R (arrOf st) lo < kA R (arrOf st) (lo+n - 1)
  ·simp only[c,xgv,xiq];exact xbf (h n st n1 n2 b sm0 hu)
  ·simp only[c,xgl,xdd,xgq];refine xbd (zlf ?_);have b1:B κ a₀ (setArr st (mirror (arrOf st) lo (lo+n) ((lo+n - lo) / 2))):=b.set (mirror_perm _ _ _ _);have sm1:Sm st (setArr st (mirror (arrOf st) lo (lo+n) ((lo+n - lo) / 2))) lo (lo+nrem):=⟨Out.mirror hle (xbg _) (xbv n2 lo),rfl⟩
   have dn1:DnA R (arrOf (setArr st (mirror (arrOf st) lo (lo+n) ((lo+n - lo) / 2)))) lo (lo+(n+1)):=dnx _ (zek hle (eqs c)) c;generalize (setArr st (mirror (arrOf st) lo (lo+n) ((lo+n - lo) / 2)))=st1 at b1 sm1 dn1 ⊢;refine xbd (xhw (xgr ⟨rfl,?_⟩));refine xbd (xee (xcz (I:=fun x c st'=>∃neq,c=(none,x,neq)/\Fl κ a₀ R st st' lo x neq (lo+nrem)) (Q:=fun c st'=>∃m neq,c=(none,m,neq)/\n+1<=m/\m<=nrem/\Fl κ a₀ R st st' lo m neq (lo+nrem)) ?_ ?_ ?_) ?_)
   ·rintro x c st' a1 a2 ⟨neq,rfl,f⟩;dsimp only;refine xbd (zgv O f.base (zre a2 hn) (zrd a2 hn) ?_);by_cases c:kA R (arrOf st') (lo+x) < kA R (arrOf st') (lo+x - 1)
    ·simp only[c,xgv,xiq];split
     ·obtain ⟨f2,e⟩:=f.turn (xbv (xbm a2) lo) hn;refine xbd (zlf (xbf ⟨0,rfl,f2.fresh ?_⟩));refine xbm (?_:kA R (mirror _ _ _ _) _ < kA R (mirror _ _ _ _) _);rw[e,e];exact c
     ·exact xbf ⟨0,rfl,f.fresh (xbm c)⟩
    ·simp only[c,xgl,xdd,xgq];refine xbd (zgv O f.base (zrd a2 hn) (zre a2 hn) ?_);by_cases c2:kA R (arrOf st') (lo+x - 1) < kA R (arrOf st') (lo+x)
     ·simp only[c2,xgv,xiq];exact xbf ⟨x,neq,rfl,a1,xbm a2,f⟩
     ·simp only[c2,xgl,xdd,xgq];exact xbf ⟨neq+1,rfl,f.more (xdf (xbp c2) (xbp c))⟩
   ·rintro c st' ⟨neq,rfl,f⟩;rw[xir hlt] at f ⊢;exact ⟨nrem,neq,rfl,hlt,xbg _,f⟩
   ·exact ⟨0,rfl,b1,sm1,dn1,xdl (xdh _),fun i g1 g2=>by
     have:i=lo+(n+1) - 1:=xdf (xch g2) g1
     rw[this]⟩
   ·rintro c st' ⟨m,neq,rfl,a1,a2,f⟩;dsimp only;split
    ·obtain ⟨f2,e⟩:=f.turn (xbv a2 lo) hn;refine xbd (zlf (xbd (zlf ?_)));obtain ⟨b3,s3,u3⟩:=fin m _ f2.base f2.same (xct a1) a2 f2.dn;exact xbd (zrl O b3 hn (xct a1) a2 u3 fun m' m1 m2 hu' _=>xbf (h m' _ (xbb (xct a1) m1) m2 b3 s3 hu'))
    ·refine xbd (zlf ?_);obtain ⟨b3,s3,u3⟩:=fin m _ f.base f.same (xct a1) a2 f.dn;exact xbd (zrl O b3 hn (xct a1) a2 u3 fun m' m1 m2 hu' _=>xbf (h m' _ (xbb (xct a1) m1) m2 b3 s3 hu'))
 ·rename_i hn1;have b1:=b;have sm1:=sm0
  have dn1:DnA R (arrOf st) lo (lo+(n+1)):=dnx _ (fun _=>rfl) (by
   have:n=1:=xdf (xbp hn1) n1;subst this
   simp)
  refine xbd (xhw (xgr ⟨rfl,?_⟩));refine xbd (xee (xcz (I:=fun x c st'=>∃neq,c=(none,x,neq)/\Fl κ a₀ R st st' lo x neq (lo+nrem)) (Q:=fun c st'=>∃m neq,c=(none,m,neq)/\n+1<=m/\m<=nrem/\Fl κ a₀ R st st' lo m neq (lo+nrem)) ?_ ?_ ?_) ?_)
  ·rintro x c st' a1 a2 ⟨neq,rfl,f⟩;dsimp only;refine xbd (zgv O f.base (zre a2 hn) (zrd a2 hn) ?_);by_cases c:kA R (arrOf st') (lo+x) < kA R (arrOf st') (lo+x - 1)
   ·simp only[c,xgv,xiq];split
    ·obtain ⟨f2,e⟩:=f.turn (xbv (xbm a2) lo) hn;refine xbd (zlf (xbf ⟨0,rfl,f2.fresh ?_⟩));refine xbm (?_:kA R (mirror _ _ _ _) _ < kA R (mirror _ _ _ _) _);rw[e,e];exact c
    ·exact xbf ⟨0,rfl,f.fresh (xbm c)⟩
   ·simp only[c,xgl,xdd,xgq];refine xbd (zgv O f.base (zrd a2 hn) (zre a2 hn) ?_);by_cases c2:kA R (arrOf st') (lo+x - 1) < kA R (arrOf st') (lo+x)
    ·simp only[c2,xgv,xiq];exact xbf ⟨x,neq,rfl,a1,xbm a2,f⟩
    ·simp only[c2,xgl,xdd,xgq];exact xbf ⟨neq+1,rfl,f.more (xdf (xbp c2) (xbp c))⟩
  ·rintro c st' ⟨neq,rfl,f⟩;rw[xir hlt] at f ⊢;exact ⟨nrem,neq,rfl,hlt,xbg _,f⟩
  ·exact ⟨0,rfl,b1,sm1,dn1,xdl (xdh _),fun i g1 g2=>by
    have:i=lo+(n+1) - 1:=xdf (xch g2) g1
    rw[this]⟩
  ·rintro c st' ⟨m,neq,rfl,a1,a2,f⟩;dsimp only;split
   ·obtain ⟨f2,e⟩:=f.turn (xbv a2 lo) hn;refine xbd (zlf (xbd (zlf ?_)));obtain ⟨b3,s3,u3⟩:=fin m _ f2.base f2.same (xct a1) a2 f2.dn;exact xbd (zrl O b3 hn (xct a1) a2 u3 fun m' m1 m2 hu' _=>xbf (h m' _ (xbb (xct a1) m1) m2 b3 s3 hu'))
   ·refine xbd (zlf ?_);obtain ⟨b3,s3,u3⟩:=fin m _ f.base f.same (xct a1) a2 f.dn;exact xbd (zrl O b3 hn (xct a1) a2 u3 fun m' m1 m2 hu' _=>xbf (h m' _ (xbb (xct a1) m1) m2 b3 s3 hu'))
end
section
variable {prog:Program} {w:World} {A:Around} {E:Value->Shared->Prop} {s:Shared} {κ:SortKind} {a₀:Array Keyed} {R:Keyed->Nat}
theorem zhx {xs:Array Keyed} {src d:Nat} (hs:src < xs.size) (hd:d<=src) (k:Nat):kA R (bubble xs src d) k=if k=src - d then kA R xs src else if src - d < k/\k<=src then kA R xs (k - 1) else kA R xs k:=by
 have e:=getElem?_bubble hs d hd k;split
 ·rename_i c;rw[if_pos c] at e;exact zbu e
 ·rename_i c;rw[if_neg c] at e;split
  ·rename_i c2;rw[if_pos c2] at e;exact zbu e
  ·rename_i c2;rw[if_neg c2] at e;exact zbu e
theorem zfn {a b n:Nat} (h1:a<=b) (h:b - a<=n - max 0 n):b=a:=by
 rw[Nat.zero_max,xhf] at h;exact xdf (Nat.le_of_sub_eq_zero (Nat.le_zero.mp h)) h1
theorem zxk {l r:Nat} (h:¬l ≥ r):l<=(l+r) / 2:=(Nat.le_div_iff_mul_le xjc).mpr (by rw[Nat.mul_two];exact xbv (xbm (xer h)) l)
theorem zvk {l r:Nat} (h:¬l ≥ r):(l+r) / 2 < r:=(Nat.div_lt_iff_lt_mul xjc).mpr (by rw[Nat.mul_two];exact Nat.add_lt_add_right (xer h) r)
theorem hf_l {l r k x:Nat} (h:¬l ≥ r) (g:r - l<=k - x):(l+r) / 2 - l<=k - (x+1):=xbb (xcm (xdp (zxk h) (zvk h))) (xei g 1)
theorem hf_r {l r k x:Nat} (h:¬l ≥ r) (g:r - l<=k - x):r - ((l+r) / 2+1)<=k - (x+1):=xbb (xfv (xdl (zxk h)) r) (xei g 1)
theorem zox {p j q:Nat} (h:p < j) (h2:j<=q):j - 1 < q:=xbc (xgb (xhm h) Nat.one_pos) h2
theorem zbae {lo n ok:Nat} {st:SortSt} {Q:Bool->SortSt->Prop} (O:Orc prog w A s κ a₀ R) (b:B κ a₀ st) (hn:lo+n<=a₀.size) (h1:1<=ok) (h2:ok<=n) (up:UpA R (arrOf st) lo (lo+ok))
  (h:∀st',B κ a₀ st'->Sm st st' lo (lo+n)->UpA R (arrOf st') lo (lo+n)->Q true st'):wpS (model prog w) A E s (binarySort' lo n ok) Q st:=by
 rw[binarySort'_eq]
 refine xbd (xee (xcz (I:=fun k c st'=>c=(none,())/\B κ a₀ st'/\Sm st st' lo (lo+n)/\UpA R (arrOf st') lo (lo+min k n))
  (Q:=fun c st'=>c=(none,())/\B κ a₀ st'/\Sm st st' lo (lo+n)/\UpA R (arrOf st') lo (lo+n)) ?_ ?_ ?_) ?_)
 ·rintro k c st' k1 k2 ⟨rfl,b1,sm1,up1⟩;rw[xdq (xbm k2)] at up1;have hz:=b1.size;have hk:lo+k < a₀.size:=xbc (xdm k2 lo) hn
  refine xbd (xee (xcz (I:=fun x c st2=>st2=st'/\∃l r,c=(none,l,r)/\l<=r/\r<=k/\r - l<=k - x/\(∀i,i < l->kA R (arrOf st') (lo+i)<=kA R (arrOf st') (lo+k))/\(∀i,r<=i->i < k->kA R (arrOf st') (lo+k)<=kA R (arrOf st') (lo+i)))
   (Q:=fun c st2=>st2=st'/\∃l r,c=(none,l,r)/\l<=k/\(∀i,i < l->kA R (arrOf st') (lo+i)<=kA R (arrOf st') (lo+k))/\(∀i,l<=i->i < k->kA R (arrOf st') (lo+k)<=kA R (arrOf st') (lo+i))) ?_ ?_ ?_) ?_)
  ·rintro x c st2 x1 x2 ⟨rfl,l,r,rfl,g1,g2,g3,g4,g5⟩;dsimp only;by_cases hge:l ≥ r
   ·rw[if_pos hge];have e:l=r:=xdf g1 hge;subst e;exact xbf ⟨rfl,l,l,rfl,g2,g4,g5⟩
   ·have hm:lo+(l+r) / 2 < lo+k:=xdm (xbc (zvk hge) g2) lo;rw[if_neg hge];refine xbd (zgv O b1 hk (xhg hm hk) ?_);by_cases c:kA R (arrOf st2) (lo+k) < kA R (arrOf st2) (lo+(l+r) / 2)
    ·simp only[c,xgv,xiq];exact xbf ⟨rfl,l,(l+r) / 2,rfl,zxk hge,xbb (xbm (zvk hge)) g2,hf_l hge g3,g4,fun i a1 a2=>xbb (xbm c) (up1 _ _ (xbj _ _) (xbv a1 lo) (xdm a2 lo))⟩
    ·simp only[c,xgl,xdd,xgq];exact xbf ⟨rfl,(l+r) / 2+1,r,rfl,zvk hge,g2,hf_r hge g3,fun i a1=>xbb (up1 (lo+i) (lo+(l+r) / 2) (xbj _ _) (xbv (xch a1) lo) hm) (xbp c),g5⟩
  ·rintro c st2 ⟨rfl,l,r,rfl,g1,g2,g3,g4,g5⟩;have e:=zfn g1 g3;subst e;exact ⟨rfl,_,_,rfl,g2,g4,g5⟩
  ·exact ⟨rfl,0,k,rfl,xdh _,xbg _,xbg _,fun i hi=>absurd hi (Nat.not_lt_zero _),fun i a1 a2=>absurd a2 (xds a1)⟩
  ·rintro c st2 ⟨rfl,l,r,rfl,g1,g2,g3⟩;dsimp only;have hd:lo+k - (lo+k - (lo+l))=lo+l:=Nat.sub_sub_self (xbv g1 lo);have hs:lo+k < (arrOf st2).size:=by rw[hz];exact hk
   refine xbd (zvo (xbf ⟨rfl,b1.set (bubble_perm _ _ _),⟨(Out.bubble hs (xfe _ _) (by rw[hd];exact xbj _ _) (xdm k2 lo)).trans sm1.out,sm1.pend⟩,fun i j a1 a2 a3=>?_⟩));show kA R (bubble (arrOf st2) (lo+k) (lo+k - (lo+l))) i<=kA R (bubble (arrOf st2) (lo+k) (lo+k - (lo+l))) j;rw[zhx hs (xfe _ _),zhx hs (xfe _ _),hd];rw[xdq k2] at a3;have hj:j<=lo+k:=xch a3;have low:∀q,lo<=q->q < lo+l->kA R (arrOf st2) q<=kA R (arrOf st2) (lo+k):=fun q q1 q2=>by
    have:=g2 (q - lo) (xda q1 q2);rw[xbw q1] at this;exact this
   have hig:∀q,lo+l<=q->q < lo+k->kA R (arrOf st2) (lo+k)<=kA R (arrOf st2) q:=fun q q1 q2=>by
    have q0:=xbb (xbj _ _) q1;have:=g3 (q - lo) (xdu q1) (xda q0 q2);rw[xbw q0] at this;exact this
   by_cases i1:i=lo+l
   ·rw[if_pos i1];by_cases j1:j=lo+l
    ·rw[if_pos j1];exact xbg _
    ·have jj:=xci (i1 ▸ a2) (xeg j1);rw[if_neg j1,if_pos ⟨jj,hj⟩];exact hig _ (xcm jj) (zox jj hj)
   ·rw[if_neg i1];by_cases i2:lo+l < i/\i<=lo+k
    ·have jj:=xbc i2.1 a2;rw[if_pos i2,if_neg (xhz jj),if_pos ⟨jj,hj⟩];exact up1 _ _ (xbb (xbj lo l) (xcm i2.1)) (xei a2 1) (zox jj hj)
    ·have il:i < lo+l:=xci (xbp fun z=>i2 ⟨z,xbb a2 hj⟩) i1;rw[if_neg i2];by_cases j1:j=lo+l
     ·rw[if_pos j1];exact low i a1 il
     ·rw[if_neg j1];by_cases j2:lo+l < j/\j<=lo+k
      ·rw[if_pos j2];exact up1 _ _ a1 (xcm (xhg il j2.1)) (zox j2.1 hj)
      ·rw[if_neg j2];exact up1 _ _ a1 a2 (xbc (xci (xbp fun z=>j2 ⟨z,hj⟩) j1) (xbv g1 lo))
 ·rintro c st' ⟨rfl,b1,sm1,up1⟩;rw[xis (Nat.le_max_right _ _)] at up1;exact ⟨rfl,b1,sm1,up1⟩
 ·refine ⟨rfl,b,⟨Out.refl _ _ _,rfl⟩,fun i j a1 a2 a3=>up i j a1 a2 (xbc a3 (xbv (xbb (xgc _ _) (xcs (Nat.max_eq_left h1))) lo))⟩
 ·rintro c st' ⟨rfl,b1,sm1,up1⟩;exact xbf (h st' b1 sm1 up1)
noncomputable def gallop':Bool->Keyed->Array Keyed->Nat->Nat->Nat->StateT SortSt Sem (Option Nat):=sortPriv% PySem.Builtin.gallop
noncomputable def Cut (left:Bool) (R:Keyed->Nat) (key:Keyed) (arr:Array Keyed) (base n h:Nat):Prop:=h<=n/\(∀i,i < h->if left then kA R arr (base+i) < R key else kA R arr (base+i)<=R key)/\(∀i,h<=i->i < n->if left then R key<=kA R arr (base+i) else R key < kA R arr (base+i))
noncomputable def ahead (left:Bool) (R:Keyed->Nat) (key:Keyed) (arr:Array Keyed) (base i:Nat):Bool:=if left then decide (kA R arr (base+i) < R key) else decide (kA R arr (base+i)<=R key)
theorem zgc {left:Bool} {key:Keyed} {arr:Array Keyed} {base i:Nat} {st:SortSt} {Q:Option Bool->SortSt->Prop} (O:Orc prog w A s κ a₀ R) (hk:kindOf st=κ) (mk:key∈a₀.toList) (ma:∃x,arr[base+i]?=some x/\x∈a₀.toList) (h:Q (some (ahead left R key arr base i)) st) :
  wpS (model prog w) A E s (do
   let x ← elem' arr (base+i)
   if left=true then lt' x key else do
    let y ← lt' key x
    pure (Option.map (fun x=>!x) y)) Q st:=by
 obtain ⟨x,e,m⟩:=ma;refine xbd (zgb e ?_);unfold ahead at h;rw[zby e] at h;cases left with
 | true =>
  rw[if_pos rfl] at h ⊢;exact w_lt O hk m mk h
 | false =>
  rw[if_neg (by decide)] at h ⊢;refine xbd (w_lt O hk mk m (xbf ?_));have q:(!decide (R key < R x))=decide (R x<=R key):=by
   by_cases c:R key < R x
   ·rw[xdc c,xdb (Nat.not_le_of_lt c)];rfl
   ·rw[xdb c,xdc (xbp c)];rfl
  show Q (some (!decide (R key < R x))) st;rw[q];exact h
theorem zky {left:Bool} {key:Keyed} {arr:Array Keyed} {base n i j:Nat} (up:UpA R arr base (base+n)) (hij:i<=j) (hj:j < n) (h:ahead left R key arr base j=true):ahead left R key arr base i=true:=by
 have:=up (base+i) (base+j) (xbj _ _) (xbv hij _) (xdm hj _);unfold ahead at h ⊢;cases left with
 | true=>rw[if_pos rfl] at h ⊢;exact xdc (xcr this (xfo h))
 | false=>rw[if_neg (by decide)] at h ⊢;exact xdc (xbb this (xfo h))
theorem zug {left:Bool} {key:Keyed} {arr:Array Keyed} {base n h:Nat} (h0:h<=n) (h1:∀i,i < h->ahead left R key arr base i=true) (h2:∀i,h<=i->i < n->ahead left R key arr base i=false):Cut left R key arr base n h:=by
 refine ⟨h0,fun i hi=>?_,fun i a1 a2=>?_⟩
 ·have:=h1 i hi;unfold ahead at this;cases left with
  | true=>rw[if_pos rfl] at this ⊢;exact xfo this
  | false=>rw[if_neg (by decide)] at this ⊢;exact xfo this
 ·have:=h2 i a1 a2;unfold ahead at this;cases left with
  | true=>rw[if_pos rfl] at this ⊢;exact xbp (of_decide_eq_false this)
  | false=>rw[if_neg (by decide)] at this ⊢;exact xer (of_decide_eq_false this)
theorem znu {a b:Nat} (c:¬a ≥ b):(b - a) / 2 < b - a:=Nat.div_lt_self (xek (xer c)) (xbg 2)
theorem zwx {a b:Nat} (c:¬a ≥ b):a+(b - a) / 2 < b:=xdg (znu c)
theorem zrb {a b n:Nat} (c:¬a ≥ b) (h:b<=n):a+(b - a) / 2 < n:=xbc (zwx c) h
theorem zsw {a b n x:Nat} (h:b - a<=n - x):b - (a+(b - a) / 2+1)<=n - (x+1):=xbb (xfv (xdl (xbj a _)) b) (xei h 1)
theorem zsv {a b n x:Nat} (c:¬a ≥ b) (h:b - a<=n - x):a+(b - a) / 2 - a<=n - (x+1):=by
 rw[xbo];exact xbb (xcm (znu c)) (xei h 1)
theorem ztw (o:Nat):o < 2 * o+1:=Nat.lt_succ_of_le (Nat.le_mul_of_pos_left o xjc)
theorem ztx {x o:Nat} (h:x+1<=o):x+1+1<=2 * o+1:=xdl (xbb h (Nat.le_mul_of_pos_left o xjc))
theorem zrr {a b n:Nat} (h:a+b < n):b < n - a:=Nat.lt_sub_of_add_lt (Nat.add_comm a b ▸ h)
inductive GI (f:Nat->Bool) (n:Nat) (st:SortSt) (x:Nat):Option (Option Nat) × Nat × Nat->SortSt->Prop where
 | mk {a b:Nat} (q1:a<=b) (q2:b<=n) (q3:b - a<=n - x) (q4:∀i,i < a->f i=true) (q5:∀i,b<=i->i < n->f i=false):GI f n st x (none,a,b) st
inductive GE (f:Nat->Bool) (n:Nat) (st:SortSt):Option (Option Nat) × Nat × Nat->SortSt->Prop where
 | mk {b:Nat} (q2:b<=n) (q4:∀i,i < b->f i=true) (q5:∀i,b<=i->i < n->f i=false):GE f n st (none,b,b) st
inductive GU (f:Nat->Bool) (n hint:Nat) (P:Nat->Prop) (st:SortSt):Option (Option Nat) × Nat × Nat->SortSt->Prop where
 | mk {l o:Nat} (g1:l < o) (g2:hint+l < n) (g3:f (hint+l)=true) (g4:P o):GU f n hint P st (none,l,o) st
inductive GD (f:Nat->Bool) (hint:Nat) (P:Nat->Prop) (st:SortSt):Option (Option Nat) × Nat × Nat->SortSt->Prop where
 | mk {l o:Nat} (g1:l < o) (g2:l<=hint) (g3:f (hint - l)=false) (g4:P o):GD f hint P st (none,l,o) st
theorem zdh {left:Bool} {key:Keyed} {arr:Array Keyed} {base n hint:Nat} {st:SortSt} {Q:Option Nat->SortSt->Prop} (O:Orc prog w A s κ a₀ R) (hk:kindOf st=κ) (mk:key∈a₀.toList) (ma:∀i,i < n->∃x,arr[base+i]?=some x/\x∈a₀.toList) (hh:hint < n)
  (up:UpA R arr base (base+n)) (h:∀k,Cut left R key arr base n k->Q (some k) st):wpS (model prog w) A E s (gallop' left key arr base n hint) Q st:=by
 have mono:∀i j,i<=j->j < n->ahead left R key arr base j=true->ahead left R key arr base i=true:=fun i j a1 a2=>zky up a1 a2
 have monoF:∀i j,i<=j->j < n->ahead left R key arr base i=false->ahead left R key arr base j=false:=fun i j a1 a2 e=>by
  cases c:ahead left R key arr base j with
  | false=>rfl
  | true=>rw[mono i j a1 a2 c] at e;cases e
 refine xbd (zgc O hk mk (ma hint hh) ?_);dsimp only;cases hr:ahead left R key arr base hint with
 | true =>
  rw[if_pos rfl];refine xbd (xee (xcz (I:=fun x=>GU (ahead left R key arr base) n hint (x+1<=·) st) (Q:=GU (ahead left R key arr base) n hint (fun o=>n - hint<=o\/(hint+o < n/\ahead left R key arr base (hint+o)=false)) st) ?_ ?_ ?_) ?_)
  ·rintro x c st' x1 x2 @⟨l,o,g1,g2,g3,g4⟩;dsimp only;by_cases c:o ≥ n - hint
   ·rw[if_pos c];exact xbf (.mk g1 g2 g3 (.inl c))
   ·have c3:hint+o < n:=xdg (xer c);rw[if_neg c];refine xbd (zgc O hk mk (ma (hint+o) c3) ?_);dsimp only;cases c2:ahead left R key arr base (hint+o) with
    | true=>exact xbf (.mk (ztw o) c3 c2 (ztx g4))
    | false=>exact xbf (.mk g1 g2 g3 (.inr ⟨c3,c2⟩))
  ·rintro c st' @⟨l,o,g1,g2,g3,g4⟩;rw[Nat.zero_max] at g4;exact .mk g1 g2 g3 (.inl (xbb (xfe _ _) (xcp g4)))
  ·exact .mk Nat.one_pos hh hr (xbg _)
  ·rintro c st' @⟨l,o,g1,g2,g3,g4⟩;dsimp only;have f1:∀i,i < hint+l+1->ahead left R key arr base i=true:=fun i hi=>mono i (hint+l) (xch hi) g2 g3
   have f2:∀i,hint+min o (n - hint)<=i->i < n->ahead left R key arr base i=false:=fun i a1 a2=>by
    rcases g4 with g | ⟨ga,gb⟩
    ·rw[xis g,xbw (xbm hh)] at a1;exact absurd a2 (xds a1)
    ·rw[xdq (xbm (zrr ga))] at a1;exact monoF (hint+o) i a1 a2 gb
   have f3:hint+l+1<=hint+min o (n - hint):=xbv (Nat.le_min.mpr ⟨g1,zrr g2⟩) hint;have f4:hint+min o (n - hint)<=n:=xbb (xbv (xgn _ _) hint) (xcs (xbw (xbm hh)));generalize hint+l+1=lo at f1 f3 ⊢;generalize hint+min o (n - hint)=hi at f2 f3 f4 ⊢;refine xbd (xee (xcz (I:=GI (ahead left R key arr base) n st) (Q:=GE (ahead left R key arr base) n st) ?_ ?_ (.mk f3 f4 (xbb (xfe _ _) f4) f1 f2)) ?_)
   ·rintro x c st2 x1 x2 @⟨a,b,q1,q2,q3,q4,q5⟩;dsimp only;by_cases c:a ≥ b
    ·rw[if_pos c];have e:b=a:=xdf c q1;subst e;exact xbf (.mk q2 q4 q5)
    ·rw[if_neg c];refine xbd (zgc O hk mk (ma (a+(b - a) / 2) (zrb c q2)) ?_);dsimp only;cases c2:ahead left R key arr base (a+(b - a) / 2) with
     | true=>exact xbf (.mk (zwx c) q2 (zsw q3) (fun i hi=>mono i (a+(b - a) / 2) (xch hi) (zrb c q2) c2) q5)
     | false=>exact xbf (.mk (xbj _ _) (xbm (zrb c q2)) (zsv c q3) q4 fun i a1 a2=>monoF (a+(b - a) / 2) i a1 a2 c2)
   ·rintro c st2 @⟨a,b,q1,q2,q3,q4,q5⟩;have e:=zfn q1 q3;subst e;exact .mk q2 q4 q5
   ·rintro c st2 @⟨b,q2,q4,q5⟩;exact xbf (h b (zug q2 q4 q5))
 | false =>
  rw[if_neg (by decide)];refine xbd (xee (xcz (I:=fun x=>GD (ahead left R key arr base) hint (x+1<=·) st) (Q:=GD (ahead left R key arr base) hint (fun o=>hint+1<=o\/(o<=hint/\ahead left R key arr base (hint - o)=true)) st) ?_ ?_ ?_) ?_)
  ·rintro x c st' x1 x2 @⟨l,o,g1,g2,g3,g4⟩;dsimp only;by_cases c:o ≥ hint+1
   ·rw[if_pos c];exact xbf (.mk g1 g2 g3 (.inl c))
   ·rw[if_neg c];refine xbd (zgc O hk mk (ma (hint - o) (xcr (xfe _ _) hh)) ?_);dsimp only;cases c2:ahead left R key arr base (hint - o) with
    | true=>exact xbf (.mk g1 g2 g3 (.inr ⟨xch (xer c),c2⟩))
    | false=>exact xbf (.mk (ztw o) (xch (xer c)) c2 (ztx g4))
  ·rintro c st' @⟨l,o,g1,g2,g3,g4⟩;rw[Nat.zero_max] at g4;exact .mk g1 g2 g3 (.inl (xbb hh (xcp g4)))
  ·exact .mk Nat.one_pos (xdh _) hr (xbg _)
  ·rintro c st' @⟨l,o,g1,g2,g3,g4⟩;dsimp only;have f1:∀i,i < hint+1 - min o (hint+1)->ahead left R key arr base i=true:=fun i hi=>by
    rcases g4 with g | ⟨ga,gb⟩
    ·rw[xis g,xhf] at hi;exact absurd hi (Nat.not_lt_zero _)
    ·rw[xdq (xfn ga),Nat.succ_sub ga] at hi;exact mono i (hint - o) (xch hi) (xcr (xfe _ _) hh) gb
   have f2:∀i,hint - l<=i->i < n->ahead left R key arr base i=false:=fun i a1 a2=>monoF (hint - l) i a1 a2 g3
   have f3:hint+1 - min o (hint+1)<=hint - l:=xbb (xfv (Nat.le_min.mpr ⟨g1,xdl g2⟩) _) (xcs (Nat.succ_sub_succ hint l));have f4:hint - l<=n:=xbb (xfe _ _) (xbm hh);generalize hint+1 - min o (hint+1)=lo at f1 f3 ⊢;generalize hint - l=hi at f2 f3 f4 ⊢;refine xbd (xee (xcz (I:=GI (ahead left R key arr base) n st) (Q:=GE (ahead left R key arr base) n st) ?_ ?_ (.mk f3 f4 (xbb (xfe _ _) f4) f1 f2)) ?_)
   ·rintro x c st2 x1 x2 @⟨a,b,q1,q2,q3,q4,q5⟩;dsimp only;by_cases c:a ≥ b
    ·rw[if_pos c];have e:b=a:=xdf c q1;subst e;exact xbf (.mk q2 q4 q5)
    ·rw[if_neg c];refine xbd (zgc O hk mk (ma (a+(b - a) / 2) (zrb c q2)) ?_);dsimp only;cases c2:ahead left R key arr base (a+(b - a) / 2) with
     | true=>exact xbf (.mk (zwx c) q2 (zsw q3) (fun i hi=>mono i (a+(b - a) / 2) (xch hi) (zrb c q2) c2) q5)
     | false=>exact xbf (.mk (xbj _ _) (xbm (zrb c q2)) (zsv c q3) q4 fun i a1 a2=>monoF (a+(b - a) / 2) i a1 a2 c2)
   ·rintro c st2 @⟨a,b,q1,q2,q3,q4,q5⟩;have e:=zfn q1 q3;subst e;exact .mk q2 q4 q5
   ·rintro c st2 @⟨b,q2,q4,q5⟩;exact xbf (h b (zug q2 q4 q5))
end
section
variable {prog:Program} {w:World} {A:Around} {E:Value->Shared->Prop} {s:Shared} {κ:SortKind} {a₀:Array Keyed} {R:Keyed->Nat}
noncomputable abbrev Ord (R:Keyed->Nat) (l:List Keyed):Prop:=l.Pairwise fun x y=>R x<=R y
structure SmG (st st':SortSt):Prop where
 arr:arrOf st'=arrOf st
 pend:pendingOf st'=pendingOf st
 kind:kindOf st'=kindOf st
 failed:failedOf st'=failedOf st
theorem SmG.refl (st:SortSt):SmG st st:=⟨rfl,rfl,rfl,rfl⟩
theorem SmG.trans {a b c:SortSt} (x:SmG a b) (y:SmG b c):SmG a c:=⟨y.arr.trans x.arr,y.pend.trans x.pend,y.kind.trans x.kind,y.failed.trans x.failed⟩
noncomputable def mergeLo':Array Keyed->Array Keyed->StateT SortSt Sem (Array Keyed):=sortPriv% PySem.Builtin.mergeLo
noncomputable def mergeHi':Array Keyed->Array Keyed->StateT SortSt Sem (Array Keyed):=sortPriv% PySem.Builtin.mergeHi
structure ML (R:Keyed->Nat) (all out rest:List Keyed):Prop where
 perm:(out++rest).Perm all
 ord:Ord R out
 le:∀x∈out,∀y∈rest,R x<=R y
theorem ML.grow {all out rest xs rest':List Keyed} (m:ML R all out rest) (p:rest.Perm (xs++rest')) (o:Ord R xs) (h:∀x∈xs,∀y∈rest',R x<=R y):ML R all (out++xs) rest':=by
 refine ⟨?_,xey.mpr ⟨m.ord,o,fun x hx y hy=>m.le x hx y (p.mem_iff.mpr (xfp _ hy))⟩,fun x hx y hy=>?_⟩
 ·rw[xcb];exact (xfj out p.symm).trans m.perm
 ·rcases xco.mp hx with hx | hx
  ·exact m.le x hx y (p.mem_iff.mpr (xcq _ hy))
  ·exact h x hx y hy
theorem ML.fin {all out rest rest':List Keyed} (m:ML R all out rest) (p:rest'.Perm rest) (o:Ord R rest'):(out++rest').Perm all/\Ord R (out++rest') :=
 ⟨(xfj out p).trans m.perm,xey.mpr ⟨m.ord,o,fun x hx y hy=>m.le x hx y (p.mem_iff.mp hy)⟩⟩
theorem Ord.at {l:List Keyed} (h:Ord R l) {i j:Nat} {x y:Keyed} (hi:l[i]?=some x) (hj:l[j]?=some y) (hij:i<=j):R x<=R y:=by
 obtain ⟨h1,e1⟩:=xbn.mp hi;obtain ⟨h2,e2⟩:=xbn.mp hj;by_cases c:i=j
 ·subst c;rw[← e1,← e2];exact xbg _
 ·rw[← e1,← e2];exact xha.mp h i j h1 h2 (xci hij c)
theorem Ord.drop {l:List Keyed} (h:Ord R l) (n:Nat):Ord R (l.drop n):=List.Pairwise.sublist (List.drop_sublist _ _) h
theorem Ord.take {l:List Keyed} (h:Ord R l) (n:Nat):Ord R (l.take n):=List.Pairwise.sublist (List.take_sublist _ _) h
theorem zu {l:List Keyed} {n:Nat} {y:Keyed} (h:y∈l.drop n):∃j,n<=j/\l[j]?=some y:=by
 obtain ⟨i,hi,e⟩:=xdx h;refine ⟨n+i,xbj _ _,?_⟩;rw[← e,List.getElem_drop];exact xbi _
theorem zl {l:List Keyed} {n:Nat} {y:Keyed} (h:y∈l.take n):∃j,j < n/\l[j]?=some y:=by
 obtain ⟨i,hi,e⟩:=xdx h;have hi2:i < n/\i < l.length:=by rw[xea] at hi;exact Nat.lt_min.mp hi
 refine ⟨i,hi2.1,?_⟩;rw[← e,List.getElem_take];exact xbi _
theorem zep {l:List Keyed} {i:Nat} {x:Keyed} (h:l[i]?=some x):l.drop i=x::l.drop (i+1):=by
 obtain ⟨h1,rfl⟩:=xbn.mp h;exact xfq h1
theorem zgm (l:List Keyed) (i k:Nat):l.drop i=(l.drop i).take k++l.drop (i+k):=by
 rw[← xjd,xes]
structure Two (R:Keyed->Nat) (la lb:List Keyed):Prop where
 oa:Ord R la
 ob:Ord R lb
 last:∀x,la[la.length - 1]?=some x->∀y∈lb,R y<=R x
noncomputable def Fin (R:Keyed->Nat) (la lb:List Keyed) (r:Array Keyed):Prop:=r.toList.Perm (la++lb)/\Ord R r.toList
variable {la lb:List Keyed} {out:Array Keyed} {ia ib:Nat}
theorem ML.pushB {R:Keyed->Nat} {all:List Keyed} (T:Two R la lb) (m:ML R all out.toList (la.drop ia++lb.drop ib)) {y:Keyed} (hy:lb[ib]?=some y) (h:∀z∈la.drop ia,R y<=R z):ML R all (out.push y).toList (la.drop ia++lb.drop (ib+1)):=by
 rw[xel];refine m.grow ?_ (xhl _ _) fun x hx z hz=>?_
 ·rw[zep hy];exact List.perm_middle
 ·simp at hx;subst hx
  rcases xco.mp hz with hz | hz
  ·exact h z hz
  ·obtain ⟨j,hj,e⟩:=zu hz;exact T.ob.at hy e (xcp hj)
theorem ML.pushA {R:Keyed->Nat} {all:List Keyed} (T:Two R la lb) (m:ML R all out.toList (la.drop ia++lb.drop ib)) {x:Keyed} (hx:la[ia]?=some x) (h:∀z∈lb.drop ib,R x<=R z):ML R all (out.push x).toList (la.drop (ia+1)++lb.drop ib):=by
 rw[xel];refine m.grow ?_ (xhl _ _) fun w hw z hz=>?_
 ·rw[zep hx];exact .refl _
 ·simp at hw;subst hw
  rcases xco.mp hz with hz | hz
  ·obtain ⟨j,hj,e⟩:=zu hz;exact T.oa.at hx e (xcp hj)
  ·exact h z hz
theorem zbc (xs:Array Keyed) (i j:Nat):(xs.extract i j).toList=(xs.toList.drop i).take (j - i):=by
 rw[Array.toList_extract,List.extract_eq_take_drop]
theorem zic (xs:Array Keyed) (i:Nat):(xs.extract i).toList=xs.toList.drop i:=by
 rw[zbc];exact xgf (by simp)
theorem zba {xs:Array Keyed} {i:Nat} {x:Keyed} (h:xs.toList[i]?=some x):kA R xs i=R x:=zby (by rw[← xce];exact h)
end
section
variable {prog:Program} {w:World} {A:Around} {E:Value->Shared->Prop} {s:Shared} {κ:SortKind} {a₀:Array Keyed} {R:Keyed->Nat} {a b out:Array Keyed} {ia ib k:Nat} {y x:Keyed} {all:List Keyed}
theorem ML.galA (T:Two R a.toList b.toList) (m:ML R all out.toList (a.toList.drop ia++b.toList.drop ib)) (hy:b.toList[ib]?=some y) (c:Cut false R y a ia (a.size - ia) k):ML R all (out++a.extract ia (ia+k)).toList (a.toList.drop (ia+k)++b.toList.drop ib)/\∀z∈a.toList.drop (ia+k),R y<=R z:=by
 have up:∀z∈a.toList.drop (ia+k),R y<=R z:=fun z hz=>by
  obtain ⟨j,hj,e⟩:=zu hz;have hj2:j < a.size:=by have:=(xbn.mp e).1;simpa using this
  have h0:=xbb (xbj _ _) hj;have:=c.2.2 (j - ia) (xdu hj) (xdp h0 hj2);rw[xbw h0,zba e] at this;exact xbm this
 have low:∀z∈(a.toList.drop ia).take k,R z<=R y:=fun z hz=>by
  obtain ⟨j,hj,e⟩:=zl hz;rw[xet] at e;have:=c.2.1 j hj;rw[zba e] at this;exact this
 refine ⟨?_,up⟩;rw[xcj,zbc,xbo];refine m.grow ?_ ((T.oa.drop ia).take k) fun z hz v hv=>?_
 ·conv=>lhs;rw[zgm a.toList ia k]
  rw[xcb]
 ·rcases xco.mp hv with hv | hv
  ·exact xbb (low z hz) (up v hv)
  ·obtain ⟨j,hj,e⟩:=zu hv;exact xbb (low z hz) (T.ob.at hy e hj)
theorem ML.galB (T:Two R a.toList b.toList) (m:ML R all out.toList (a.toList.drop ia++b.toList.drop ib)) (hx:a.toList[ia]?=some x) (c:Cut true R x b ib (b.size - ib) k):ML R all (out++b.extract ib (ib+k)).toList (a.toList.drop ia++b.toList.drop (ib+k))/\∀z∈b.toList.drop (ib+k),R x<=R z:=by
 have up:∀z∈b.toList.drop (ib+k),R x<=R z:=fun z hz=>by
  obtain ⟨j,hj,e⟩:=zu hz;have hj2:j < b.size:=by have:=(xbn.mp e).1;simpa using this
  have h0:=xbb (xbj _ _) hj;have:=c.2.2 (j - ib) (xdu hj) (xdp h0 hj2);rw[xbw h0,zba e] at this;exact this
 have low:∀z∈(b.toList.drop ib).take k,R z<=R x:=fun z hz=>by
  obtain ⟨j,hj,e⟩:=zl hz;rw[xet] at e;have:=c.2.1 j hj;rw[zba e] at this;exact xbm this
 refine ⟨?_,up⟩;rw[xcj,zbc,xbo];refine m.grow ?_ ((T.ob.drop ib).take k) fun z hz v hv=>?_
 ·conv=>lhs;rw[zgm b.toList ib k]
  rw[← xcb,← xcb];exact xgg _ xfk
 ·rcases xco.mp hv with hv | hv
  ·obtain ⟨j,hj,e⟩:=zu hv;exact xbb (low z hz) (T.oa.at hx e hj)
  ·exact xbb (low z hz) (up v hv)
theorem ML.done (T:Two R a.toList b.toList) (m:ML R (a.toList++b.toList) out.toList (a.toList.drop ia++b.toList.drop ib)) (h:ia=a.size\/ib=b.size):Fin R a.toList b.toList (out++a.extract ia++b.extract ib):=by
 unfold Fin;rw[xcj,xcj,zic,zic,xcb];refine m.fin (.refl _) ?_;rcases h with rfl | rfl
 ·rw[xem (by simp),xja];exact T.ob.drop _
 ·rw[xem (as:=b.toList) (by simp),xdo];exact T.oa.drop _
theorem ML.lastA (T:Two R a.toList b.toList) (m:ML R (a.toList++b.toList) out.toList (a.toList.drop ia++b.toList.drop ib)) (h:ia+1=a.size):Fin R a.toList b.toList (out++b.extract ib++a.extract ia):=by
 unfold Fin;rw[xcj,xcj,zic,zic,xcb];refine m.fin xfk (xey.mpr ⟨T.ob.drop _,T.oa.drop _,fun v hv z hz=>?_⟩);obtain ⟨j,hj,e⟩:=zu hz;have hj2:j < a.size:=by have:=(xbn.mp e).1;simpa using this
 have:j=a.toList.length - 1:=xdf (xcm (by rw[xbz];exact hj2)) (by rw[xbz,← h];exact hj);subst this;exact T.last z e v (List.mem_of_mem_drop hv)
noncomputable def setG':Nat->StateT SortSt Sem Unit:=sortPriv% PySem.Builtin.setMinGallop
theorem zle {g:Nat} {st:SortSt} {Q:Unit->SortSt->Prop} (h:∀st',SmG st st'->Q () st'):wpS (model prog w) A E s (setG' g) Q st :=
 xff (h _ ⟨rfl,rfl,rfl,rfl⟩)
theorem zzj {α:Type} {K:Nat->StateT SortSt Sem α} {Q:α->SortSt->Prop} {st:SortSt} (h:∀v,wpS (model prog w) A E s (K v) Q st):∀y x:Nat,wpS (model prog w) A E s (if y > 1 then K x else K y) Q st:=fun y x=>by
 by_cases e:y > 1
 ·rw[if_pos e];exact h x
 ·rw[if_neg e];exact h y
theorem zzl {α:Type} {c c2:Prop} [Decidable c] [Decidable c2] {X Y Y':StateT SortSt Sem α} {Q:α->SortSt->Prop} {st:SortSt} (hY:¬c->Y'=Y) (h1:c->c2->wpS (model prog w) A E s X Q st) (h2:(c->¬c2)->wpS (model prog w) A E s Y Q st):wpS (model prog w) A E s (if c then (if c2 then X else Y) else Y') Q st:=by
 by_cases e:c
 ·rw[if_pos e];by_cases e2:c2
  ·rw[if_pos e2];exact h1 e e2
  ·rw[if_neg e2];exact h2 fun _=>e2
 ·rw[if_neg e,hY e];exact h2 fun z=>absurd z e
theorem zrj {α:Type} {c c2 c3:Prop} [Decidable c] [Decidable c2] [Decidable c3] {X X3 Y Y':StateT SortSt Sem α} {Q:α->SortSt->Prop} {st:SortSt} (hY:¬c->Y'=Y) (h1:c->c2->wpS (model prog w) A E s X Q st) (h3:c->c3->wpS (model prog w) A E s X3 Q st) (h2:(c->¬c2/\¬c3)->wpS (model prog w) A E s Y Q st):wpS (model prog w) A E s (if c then (if c2 then X else if c3 then X3 else Y) else Y') Q st:=by
 by_cases e:c
 ·rw[if_pos e];by_cases e2:c2
  ·rw[if_pos e2];exact h1 e e2
  ·rw[if_neg e2];by_cases e3:c3
   ·rw[if_pos e3];exact h3 e e3
   ·rw[if_neg e3];exact h2 fun _=>⟨e2,e3⟩
 ·rw[if_neg e,hY e];exact h2 fun z=>absurd z e
theorem zzk {α:Type} {c c2:Prop} [Decidable c] [Decidable c2] {X X2 Y:StateT SortSt Sem α} {Q:α->SortSt->Prop} {st:SortSt} (h1:c->wpS (model prog w) A E s X Q st) (h2:c2->wpS (model prog w) A E s X2 Q st) (h3:¬c->¬c2->wpS (model prog w) A E s Y Q st):wpS (model prog w) A E s (if c then X else if c2 then X2 else Y) Q st:=by
 by_cases e:c
 ·rw[if_pos e];exact h1 e
 ·rw[if_neg e];by_cases e2:c2
  ·rw[if_pos e2];exact h2 e2
  ·rw[if_neg e2];exact h3 e e2
theorem w_if {α:Type} {c:Prop} [Decidable c] {X Y:StateT SortSt Sem α} {Q:α->SortSt->Prop} {st:SortSt} (h1:c->wpS (model prog w) A E s X Q st) (h2:¬c->wpS (model prog w) A E s Y Q st):wpS (model prog w) A E s (if c then X else Y) Q st:=by
 by_cases e:c
 ·rw[if_pos e];exact h1 e
 ·rw[if_neg e];exact h2 e
theorem w_el {α:Type} {arr:Array Keyed} {i:Nat} {x:Keyed} {f:Keyed->StateT SortSt Sem α} {Q:α->SortSt->Prop} {st:SortSt} (e:arr[i]?=some x) (h:wpS (model prog w) A E s (f x) Q st):wpS (model prog w) A E s (elem' arr i >>= f) Q st:=xbd (zgb e h)
theorem zri {α:Type} {x y:Keyed} {f:Option Bool->StateT SortSt Sem α} {Q:α->SortSt->Prop} {st:SortSt} (O:Orc prog w A s κ a₀ R) (hk:kindOf st=κ) (hx:x∈a₀.toList) (hy:y∈a₀.toList) (h1:R x < R y->wpS (model prog w) A E s (f (some true)) Q st) (h2:R y<=R x->wpS (model prog w) A E s (f (some false)) Q st):wpS (model prog w) A E s (lt' x y >>= f) Q st:=by
 refine xbd (w_lt O hk hx hy ?_);by_cases c:R x < R y
 ·rw[xdc c];exact h1 c
 ·rw[xdb c];exact h2 (xbp c)
inductive Dn {β:Type} (R:Keyed->Nat) (a b:Array Keyed) (st:SortSt):Option (Array Keyed) × β->SortSt->Prop where
 | mk {r:Array Keyed} {z:β} {st':SortSt} (sm:SmG st st') (f:Fin R a.toList b.toList r):Dn R a b st (some r,z) st'
inductive L1 (R:Keyed->Nat) (a b:Array Keyed) (st:SortSt) (x:Nat):Option (Array Keyed) × Array Keyed × Nat × Nat × Nat->SortSt->Prop where
 | mk {out:Array Keyed} {ia ib g:Nat} {st':SortSt} (sm:SmG st st') (m:ML R (a.toList++b.toList) out.toList (a.toList.drop ia++b.toList.drop ib)) (ha:ia+1 < a.size) (hb:ib < b.size) (hx:x < ia+ib):L1 R a b st x (none,out,ia,ib,g) st'
inductive L2' (R:Keyed->Nat) (a b:Array Keyed) (st:SortSt) (x:Nat):Option (Array Keyed) × Array Keyed × Nat × Nat × Nat × Nat->SortSt->Prop where
 | mk {out:Array Keyed} {ia ib ac bc:Nat} {st':SortSt} (sm:SmG st st') (m:ML R (a.toList++b.toList) out.toList (a.toList.drop ia++b.toList.drop ib)) (ha:ia+1 < a.size) (hb:ib < b.size) (hx:x<=ia+ib):L2' R a b st x (none,out,ia,ib,ac,bc) st'
inductive L3 (R:Keyed->Nat) (a b:Array Keyed) (st:SortSt) (x:Nat):Option (Array Keyed) × Array Keyed × Nat × Nat × Nat × Nat × Nat->SortSt->Prop where
 | mk {out:Array Keyed} {ia ib g ac bc:Nat} {st':SortSt} (sm:SmG st st') (m:ML R (a.toList++b.toList) out.toList (a.toList.drop ia++b.toList.drop ib)) (ha:ia+1 < a.size) (hb:ib < b.size) (hx:x<=ia+ib):L3 R a b st x (none,out,ia,ib,g,ac,bc) st'
theorem zlg {st:SortSt} {Q:Array Keyed->SortSt->Prop} (O:Orc prog w A s κ a₀ R) (hk:kindOf st=κ) (ma:∀x∈a.toList,x∈a₀.toList) (mb:∀x∈b.toList,x∈a₀.toList) (T:Two R a.toList b.toList) (ha:1<=a.size) (hb:1<=b.size)
  (fst:∀y,b.toList[0]?=some y->∀x∈a.toList,R y<=R x) (h:∀r st',SmG st st'->Fin R a.toList b.toList r->Q r st'):wpS (model prog w) A E s (mergeLo' a b) Q st:=by
 have atA:∀(i:Nat) (hi:i < a.size),a[i]?=some a[i]/\a.toList[i]?=some a[i]/\a[i]∈a₀.toList:=fun i hi=>⟨getElem?_pos a i hi,by rw[xce];exact getElem?_pos a i hi,ma _ (by simp)⟩
 have atB:∀(i:Nat) (hi:i < b.size),b[i]?=some b[i]/\b.toList[i]?=some b[i]/\b[i]∈a₀.toList:=fun i hi=>⟨getElem?_pos b i hi,by rw[xce];exact getElem?_pos b i hi,mb _ (by simp)⟩
 have upA:∀i,UpA R a i (i+(a.size - i)):=fun i p q a1 a2 a3=>by
  have hq:q < a.size:=by lia
  have e1:=(atA p (by lia)).2.1;have e2:=(atA q hq).2.1;rw[zba e1,zba e2];exact T.oa.at e1 e2 a2
 have upB:∀i,UpA R b i (i+(b.size - i)):=fun i p q a1 a2 a3=>by
  have hq:q < b.size:=by lia
  have e1:=(atB p (by lia)).2.1;have e2:=(atB q hq).2.1;rw[zba e1,zba e2];exact T.ob.at e1 e2 a2
 obtain ⟨y0,f0,f1⟩:∃x,b[0]?=some x/\b.toList[0]?=some x:=⟨_,(atB 0 hb).1,(atB 0 hb).2.1⟩
 have start:ML R (a.toList++b.toList) (#[y0]:Array Keyed).toList (a.toList.drop 0++b.toList.drop 1):=by
  have z:ML R (a.toList++b.toList) (#[]:Array Keyed).toList (a.toList.drop 0++b.toList.drop 0):=⟨by simp,List.Pairwise.nil,by simp⟩
  exact z.pushB T f1 fun x hx=>fst y0 f1 x (List.mem_of_mem_drop hx)
 refine xbd (xhw (xgr ⟨rfl,xbd (zgb f0 (zzk (fun c1=>?_) (fun c2=>?_) fun c1 c2=>?_))⟩))
 ·exact xbf (h _ _ (.refl _) (start.done T (.inr (by simpa using c1))))
 ·exact xbf (h _ _ (.refl _) (start.lastA T (by simpa using c2)))
 simp only[xeq] at c1 c2;refine xbd (xfz ?_);refine xbd (xee (xcz (I:=L1 R a b st) (Q:=Dn R a b st) ?_ ?_ (.mk (.refl _) start (by lia) (by lia) (by lia))) ?_)
 ·rintro x c st1 x1 x2 @⟨out,ia,ib,g,st1,sm1,m,ha1,hb1,hx⟩;dsimp only;refine xbd (xee (xcz (I:=fun _=>L2' R a b st (ia+ib)) (Q:=fun c st'=>Dn R a b st c st'\/L2' R a b st (ia+ib) c st') ?_ ?_ (.mk sm1 m ha1 hb1 (xbg _))) ?_)
  ·rintro x' c st2 _ _ @⟨out,ia',ib',ac,bc,st2,sm2,m,ha2,hb2,hp⟩;dsimp only;have ea:=(atA ia' (xdv ha2)).1;have ela:=(atA ia' (xdv ha2)).2.1;have mea:=(atA ia' (xdv ha2)).2.2;have eb:=(atB ib' hb2).1;have elb:=(atB ib' hb2).2.1;have meb:=(atB ib' hb2).2.2;refine w_el eb (w_el ea (zri O (sm2.kind.trans hk) meb mea (fun cw=>w_el eb ?_) fun cw=>w_el ea ?_))
   ·skip
    have m2:=m.pushB T elb fun z hz=>by
     obtain ⟨j,hj,e⟩:=zu hz;exact xbb (xbm cw) (T.oa.at ela e hj)
    refine w_if (fun c5=>xbf (.inl (.mk sm2 (m2.done T (.inr (eq_of_beq c5)))))) fun c5=>?_
    rw[xeq] at c5;have hb3:ib'+1 < b.size:=xci hb2 c5;have hp3:ia+ib<=ia'+(ib'+1):=xfn hp;exact w_if (fun _=>xbf (.inr (.mk sm2 m2 ha2 hb3 hp3))) fun _=>xbf (.mk sm2 m2 ha2 hb3 hp3)
   ·skip
    have m2:=m.pushA T ela fun z hz=>by
     obtain ⟨j,hj,e⟩:=zu hz;exact xbb cw (T.ob.at elb e hj)
    refine w_if (fun c5=>xbf (.inl (.mk sm2 (m2.lastA T (eq_of_beq c5))))) fun c5=>?_
    rw[xeq] at c5;have ha3:ia'+1+1 < a.size:=xci ha2 c5;have hp3:ia+ib<=ia'+1+ib':=Nat.succ_add ia' ib' ▸ xfn hp
    exact w_if (fun _=>xbf (.inr (.mk sm2 m2 ha3 hb2 hp3))) fun _=>xbf (.mk sm2 m2 ha3 hb2 hp3)
  ·exact fun c st2 k=>.inr k
  ·rintro c st2 (⟨sm2,f⟩ | @⟨out,ia',ib',ac,bc,st2,sm2,m,ha2,hb2,hp⟩)
   ·exact xbf (.mk sm2 f)
   ·dsimp only;refine xbd (xhw (xgr ⟨rfl,?_⟩));refine xbd (xee (xcz (I:=fun x'=>L3 R a b st (ia+ib+x')) (Q:=fun c st'=>Dn R a b st c st'\/L3 R a b st (ia+ib+1) c st') ?_ ?_ (.mk sm2 m ha2 hb2 hp)) ?_)
    ·rintro x' c st3 _ x2' @⟨out,ia',ib',g',ac,bc,st3,sm3,m,ha2,hb2,hp⟩;dsimp only;have eb:=(atB ib' hb2).1;have elb:=(atB ib' hb2).2.1;have meb:=(atB ib' hb2).2.2;generalize g' - 1=g1;generalize g'=y;revert g1;revert y
     refine zzj ?_;intro gg;refine xbd (zle fun st4 sg=>?_);have sm4:=sm3.trans sg;refine w_el eb (xbd (zdh O (sm4.kind.trans hk) meb (fun i hi=>⟨_,(atA (ia'+i) (xdg hi)).1,(atA (ia'+i) (xdg hi)).2.2⟩) (xek (xdv ha2)) (upA ia') fun k1 cut1=>?_));have m5:=(m.galA T elb cut1).1;have u5:=(m.galA T elb cut1).2;have hk1:=cut1.1;dsimp only;refine zrj (fun c6=>?_) (fun c6 c7=>?_) (fun c6 c8=>?_) fun hh=>?_
     ·have z:k1=0:=Nat.le_zero.mp (xbp c6);subst z;simp only[xic,xgj (xgc _ _),xgd]
     ·exact xbf (.inl (.mk sm4 (m5.lastA T (eq_of_beq c7))))
     ·exact xbf (.inl (.mk sm4 (m5.done T (.inl (eq_of_beq c8)))))
     have ha5:ia'+k1+1 < a.size:=by
      by_cases c6:k1 > 0
      ·have:=hh c6;simp at this;lia
      ·lia
     have hp5:ia+ib+x'<=ia'+k1+ib':=xbb hp (Nat.add_le_add_right (xbj _ _) _);clear hh;generalize ia'+k1=ia5 at m5 u5 ha5 hp5 ⊢;generalize out++a.extract ia' ia5=out5 at m5 ⊢;have m6:=m5.pushB T elb u5;have ea:=(atA _ (xdv ha5)).1;have ela:=(atA _ (xdv ha5)).2.1;have mea:=(atA _ (xdv ha5)).2.2;refine w_el eb (w_if (fun c9=>xbf (.inl (.mk sm4 (m6.done T (.inr (eq_of_beq c9)))))) fun c9=>w_el ea ?_);rw[xeq] at c9;refine xbd (zdh O (sm4.kind.trans hk) mea (fun i hi=>⟨_,(atB (ib'+1+i) (xdg hi)).1,(atB (ib'+1+i) (xdg hi)).2.2⟩) (xek (xci hb2 c9)) (upB (ib'+1)) fun k2 cut2=>?_);have m7:=(m6.galB T ela cut2).1;have u7:=(m6.galB T ela cut2).2;have hk2:=cut2.1;dsimp only;refine zzl (fun d6=>?_) (fun d6 d7=>?_) fun hh=>?_
     ·have z2:k2=0:=Nat.le_zero.mp (xbp d6);subst z2;simp only[xic,xgj (xgc _ _),xgd]
     ·exact xbf (.inl (.mk sm4 (m7.done T (.inr (eq_of_beq d7)))))
     have h20:ib'+1+k2≠b.size:=by
      by_cases d6:k2 > 0
      ·have:=hh d6;simp at this;lia
      ·lia
     have m8:=m7.pushA T ela u7;refine w_el ea (w_if (fun d8=>xbf (.inl (.mk sm4 (m8.lastA T (eq_of_beq d8))))) fun d8=>?_);rw[xeq] at d8;have ha9:ia5+1+1 < a.size:=xci ha5 d8;have hb9:ib'+1+k2 < b.size:=by lia
     have hp9:ia+ib+(x'+1)<=ia5+1+(ib'+1+k2):=by lia
     exact w_if (fun _=>xbf (.inr (.mk sm4 m8 ha9 hb9 (xbb (xbv (xiz 1 x') _) hp9)))) fun _=>xbf (.mk sm4 m8 ha9 hb9 hp9)
    ·rintro c st3 ⟨sm3,m,ha2,hb2,hp⟩;exact .inr (.mk sm3 m ha2 hb2 (by lia))
    ·rintro c st3 (⟨sm3,f⟩ | ⟨sm3,m,ha2,hb2,hp⟩)
     ·exact xbf (.mk sm3 f)
     ·exact xbd (zle fun st4 sg=>xbf (.mk (sm3.trans sg) m ha2 hb2 (xbc (Nat.succ_lt_succ hx) hp)))
 ·rintro c st1 ⟨sm1,m,ha1,hb1,hx⟩;lia
 ·rintro c st1 ⟨sm1,f⟩;exact xbf (h _ st1 sm1 f)
end
structure MH (R:Keyed->Nat) (all out rest:List Keyed):Prop where
 perm:(rest++out.reverse).Perm all
 ord:Ord R out.reverse
 le:∀x∈rest,∀y∈out,R x<=R y
section
variable {R:Keyed->Nat}
theorem MH.grow {all out rest xs rest':List Keyed} (m:MH R all out rest) (p:rest.Perm (rest'++xs.reverse)) (o:Ord R xs.reverse) (h:∀x∈rest',∀y∈xs,R x<=R y):MH R all (out++xs) rest':=by
 refine ⟨?_,?_,fun x hx y hy=>?_⟩
 ·rw[List.reverse_append,← xcb];exact (xgg _ p.symm).trans m.perm
 ·rw[List.reverse_append];exact xey.mpr ⟨o,m.ord,fun x hx y hy=>m.le x (p.mem_iff.mpr (xcq _ hx)) y (xht.mp hy)⟩
 ·rcases xco.mp hy with hy | hy
  ·exact m.le x (p.mem_iff.mpr (xfp _ hx)) y hy
  ·exact h x hx y hy
theorem MH.fin {all out rest rest':List Keyed} (m:MH R all out rest) (p:rest'.Perm rest) (o:Ord R rest'):(rest'++out.reverse).Perm all/\Ord R (rest'++out.reverse) :=
 ⟨(xgg _ p).trans m.perm,xey.mpr ⟨o,m.ord,fun x hx y hy=>m.le x (p.mem_iff.mp hx) y (xht.mp hy)⟩⟩
theorem zdz {l:List Keyed} {i:Nat} {x:Keyed} (h:l[i]?=some x):l.take (i+1)=l.take i++[x]:=by
 obtain ⟨h1,rfl⟩:=xbn.mp h;exact xfs h1
structure TwoH (R:Keyed->Nat) (la lb:List Keyed):Prop where
 oa:Ord R la
 ob:Ord R lb
 first:∀y,lb[0]?=some y->∀x∈la,R y<=R x
variable {la lb all:List Keyed} {out:Array Keyed} {na nb:Nat}
theorem MH.pushB (T:TwoH R la lb) (m:MH R all out.toList (la.take na++lb.take (nb+1))) {y:Keyed} (hy:lb[nb]?=some y) (h:∀z∈la.take na,R z<=R y):MH R all (out.push y).toList (la.take na++lb.take nb):=by
 rw[xel];refine m.grow ?_ (by simp) fun z hz w hw=>?_
 ·rw[zdz hy];simp
 ·simp at hw;subst hw
  rcases xco.mp hz with hz | hz
  ·exact h z hz
  ·obtain ⟨j,hj,e⟩:=zl hz;exact T.ob.at e hy (by lia)
theorem MH.pushA (T:TwoH R la lb) (m:MH R all out.toList (la.take (na+1)++lb.take nb)) {x:Keyed} (hx:la[na]?=some x) (h:∀z∈lb.take nb,R z<=R x):MH R all (out.push x).toList (la.take na++lb.take nb):=by
 rw[xel];refine m.grow ?_ (by simp) fun z hz w hw=>?_
 ·rw[zdz hx];simp only[List.reverse_singleton,xcb];exact xfj _ xfk
 ·simp at hw;subst hw
  rcases xco.mp hz with hz | hz
  ·obtain ⟨j,hj,e⟩:=zl hz;exact T.oa.at e hx (by lia)
  ·exact h z hz
end
section
variable {prog:Program} {w:World} {A:Around} {E:Value->Shared->Prop} {s:Shared} {κ:SortKind} {a₀:Array Keyed} {R:Keyed->Nat} {a b out:Array Keyed} {na nb k:Nat} {y x:Keyed} {all:List Keyed}
theorem zkp (l:List Keyed) {k n:Nat} (h:k<=n):l.take n=l.take k++(l.drop k).take (n - k):=by
 conv=>lhs;rw[show n=k+(n - k) by lia,List.take_add]
theorem MH.galA (T:TwoH R a.toList b.toList) (m:MH R all out.toList (a.toList.take na++b.toList.take (nb+1))) (hy:b.toList[nb]?=some y) (hn:na<=a.size) (c:Cut false R y a 0 na k):MH R all (out++(a.extract k na).reverse).toList (a.toList.take k++b.toList.take (nb+1))/\∀z∈a.toList.take k,R z<=R y:=by
 have low:∀z∈a.toList.take k,R z<=R y:=fun z hz=>by
  obtain ⟨j,hj,e⟩:=zl hz;have:=c.2.1 j hj;rw[xdr,zba e] at this;exact this
 have up:∀z∈(a.toList.drop k).take (na - k),R y<=R z:=fun z hz=>by
  obtain ⟨j,hj,e⟩:=zl hz;rw[xet] at e;have:=c.2.2 (k+j) (by lia) (by lia);rw[xdr,zba e] at this;exact xbm this
 refine ⟨?_,low⟩;rw[xcj,xgo,zbc];refine m.grow ?_ (by rw[xgp];exact (T.oa.drop k).take _) fun v hv z hz=>?_
 ·rw[xgp,zkp a.toList c.1,xcb,xcb];exact xfj _ xfk
 ·have hz:=up z (xht.mp hz);rcases xco.mp hv with hv | hv
  ·exact xbb (low v hv) hz
  ·obtain ⟨j,hj,e⟩:=zl hv;exact xbb (T.ob.at e hy (by lia)) hz
theorem MH.galB (T:TwoH R a.toList b.toList) (m:MH R all out.toList (a.toList.take (na+1)++b.toList.take nb)) (hx:a.toList[na]?=some x) (hn:nb<=b.size) (c:Cut true R x b 0 nb k):MH R all (out++(b.extract k nb).reverse).toList (a.toList.take (na+1)++b.toList.take k)/\∀z∈b.toList.take k,R z<=R x:=by
 have low:∀z∈b.toList.take k,R z<=R x:=fun z hz=>by
  obtain ⟨j,hj,e⟩:=zl hz;have:=c.2.1 j hj;rw[xdr,zba e] at this;exact xbm this
 have up:∀z∈(b.toList.drop k).take (nb - k),R x<=R z:=fun z hz=>by
  obtain ⟨j,hj,e⟩:=zl hz;rw[xet] at e;have:=c.2.2 (k+j) (by lia) (by lia);rw[xdr,zba e] at this;exact this
 refine ⟨?_,low⟩;rw[xcj,xgo,zbc];refine m.grow ?_ (by rw[xgp];exact (T.ob.drop k).take _) fun v hv z hz=>?_
 ·rw[xgp,zkp b.toList c.1,xcb]
 ·have hz:=up z (xht.mp hz);rcases xco.mp hv with hv | hv
  ·obtain ⟨j,hj,e⟩:=zl hv;exact xbb (T.oa.at e hx (by lia)) hz
  ·exact xbb (low v hv) hz
theorem zfr (xs:Array Keyed) (n:Nat):(xs.extract 0 n).toList=xs.toList.take n:=by
 rw[zbc,List.drop_zero,Nat.sub_zero]
theorem MH.done (T:TwoH R a.toList b.toList) (m:MH R (a.toList++b.toList) out.toList (a.toList.take na++b.toList.take nb)) (h:na=0\/nb=0):Fin R a.toList b.toList (a.extract 0 na++b.extract 0 nb++out.reverse):=by
 unfold Fin;rw[xcj,xcj,zfr,zfr,xgo];refine m.fin (.refl _) ?_;rcases h with rfl | rfl
 ·rw[List.take_zero,xja];exact T.ob.take _
 ·rw[List.take_zero,xdo];exact T.oa.take _
theorem MH.firstB (T:TwoH R a.toList b.toList) (m:MH R (a.toList++b.toList) out.toList (a.toList.take na++b.toList.take nb)) (h:nb=1):Fin R a.toList b.toList (b.extract 0 nb++a.extract 0 na++out.reverse):=by
 unfold Fin;rw[xcj,xcj,zfr,zfr,xgo];refine m.fin xfk (xey.mpr ⟨T.ob.take _,T.oa.take _,fun v hv z hz=>?_⟩);obtain ⟨j,hj,e⟩:=zl hv;have:j=0:=by lia
 subst this;exact T.first v e z (List.mem_of_mem_take hz)
inductive H1 (R:Keyed->Nat) (a b:Array Keyed) (st:SortSt) (x:Nat):Option (Array Keyed) × Nat × Nat × Array Keyed × Nat->SortSt->Prop where
 | mk {na nb:Nat} {out:Array Keyed} {g:Nat} {st':SortSt} (sm:SmG st st') (m:MH R (a.toList++b.toList) out.toList (a.toList.take na++b.toList.take nb)) (a1:1<=na) (a2:na<=a.size) (b1:2<=nb) (b2:nb<=b.size) (hx:x+na+nb < a.size+b.size):H1 R a b st x (none,na,nb,out,g) st'
inductive H2 (R:Keyed->Nat) (a b:Array Keyed) (st:SortSt) (x:Nat):Option (Array Keyed) × Nat × Nat × Array Keyed × Nat × Nat->SortSt->Prop where
 | mk {na nb:Nat} {out:Array Keyed} {ac bc:Nat} {st':SortSt} (sm:SmG st st') (m:MH R (a.toList++b.toList) out.toList (a.toList.take na++b.toList.take nb)) (a1:1<=na) (a2:na<=a.size) (b1:2<=nb) (b2:nb<=b.size) (hx:na+nb<=x):H2 R a b st x (none,na,nb,out,ac,bc) st'
inductive H3 (R:Keyed->Nat) (a b:Array Keyed) (st:SortSt) (x y:Nat):Option (Array Keyed) × Nat × Nat × Array Keyed × Nat × Nat × Nat->SortSt->Prop where
 | mk {na nb:Nat} {out:Array Keyed} {g ac bc:Nat} {st':SortSt} (sm:SmG st st') (m:MH R (a.toList++b.toList) out.toList (a.toList.take na++b.toList.take nb)) (a1:1<=na) (a2:na<=a.size) (b1:2<=nb) (b2:nb<=b.size) (hx:y+na+nb<=x):H3 R a b st x y (none,na,nb,out,g,ac,bc) st'
theorem zlh {st:SortSt} {Q:Array Keyed->SortSt->Prop} (O:Orc prog w A s κ a₀ R) (hk:kindOf st=κ) (ma:∀x∈a.toList,x∈a₀.toList) (mb:∀x∈b.toList,x∈a₀.toList) (T:TwoH R a.toList b.toList) (ha:1<=a.size) (hb:1<=b.size)
  (lst:∀x,a.toList[a.size - 1]?=some x->∀y∈b.toList,R y<=R x) (h:∀r st',SmG st st'->Fin R a.toList b.toList r->Q r st'):wpS (model prog w) A E s (mergeHi' a b) Q st:=by
 have atA:∀(i:Nat) (hi:i < a.size),a[i]?=some a[i]/\a.toList[i]?=some a[i]/\a[i]∈a₀.toList:=fun i hi=>⟨getElem?_pos a i hi,by rw[xce];exact getElem?_pos a i hi,ma _ (by simp)⟩
 have atB:∀(i:Nat) (hi:i < b.size),b[i]?=some b[i]/\b.toList[i]?=some b[i]/\b[i]∈a₀.toList:=fun i hi=>⟨getElem?_pos b i hi,by rw[xce];exact getElem?_pos b i hi,mb _ (by simp)⟩
 have upA:∀n,n<=a.size->UpA R a 0 (0+n):=fun n hn p q a1 a2 a3=>by
  have hq:q < a.size:=xbc a3 (xbb (xcs (xdr n)) hn);have e1:=(atA p (xcr a2 hq)).2.1;have e2:=(atA q hq).2.1;rw[zba e1,zba e2];exact T.oa.at e1 e2 a2
 have upB:∀n,n<=b.size->UpA R b 0 (0+n):=fun n hn p q a1 a2 a3=>by
  have hq:q < b.size:=xbc a3 (xbb (xcs (xdr n)) hn);have e1:=(atB p (xcr a2 hq)).2.1;have e2:=(atB q hq).2.1;rw[zba e1,zba e2];exact T.ob.at e1 e2 a2
 obtain ⟨x0,f0,f1⟩:∃x,a[a.size - 1]?=some x/\a.toList[a.size - 1]?=some x:=⟨_,(atA (a.size - 1) (xgb ha Nat.one_pos)).1,(atA (a.size - 1) (xgb ha Nat.one_pos)).2.1⟩
 have start:MH R (a.toList++b.toList) (#[x0]:Array Keyed).toList (a.toList.take (a.size - 1)++b.toList.take b.size):=by
  have z:MH R (a.toList++b.toList) (#[]:Array Keyed).toList (a.toList.take (a.size - 1+1)++b.toList.take b.size):=by
   refine ⟨?_,List.Pairwise.nil,by simp⟩;rw[xfh ha,xgf (by simp),xgf (by simp)];simp
  exact z.pushA T f1 fun y hy=>lst x0 f1 y (List.mem_of_mem_take hy)
 refine xbd (xhw (xgr ⟨rfl,xbd (zgb f0 (zzk (fun c1=>?_) (fun c2=>?_) fun c1 c2=>?_))⟩))
 ·exact xbf (h _ _ (.refl _) (start.done T (.inl (by simpa using c1))))
 ·exact xbf (h _ _ (.refl _) (start.firstB T (by simpa using c2)))
 simp only[xeq] at c1 c2;refine xbd (xfz ?_);refine xbd (xee (xcz (I:=H1 R a b st) (Q:=Dn R a b st) ?_ ?_ (.mk (.refl _) start (by lia) (by lia) (by lia) (xbg _) (by lia))) ?_)
 ·rintro x c st1 x1 x2 @⟨na,nb,out,g,st1,sm1,m,a1,a2,b1,b2,hx⟩;dsimp only;refine xbd (xee (xcz (I:=fun _=>H2 R a b st (na+nb)) (Q:=fun c st'=>Dn R a b st c st'\/H2 R a b st (na+nb) c st') ?_ ?_ (.mk sm1 m a1 a2 b1 b2 (xbg _))) ?_)
  ·rintro x' c st2 _ _ @⟨na',nb',out,ac,bc,st2,sm2,m,g1,g2,g3,g4,hp⟩;obtain ⟨p,rfl⟩:∃p,na'=p+1:=⟨na' - 1,(xfh g1).symm⟩
   obtain ⟨q,rfl⟩:∃q,nb'=q+1:=⟨nb' - 1,(xfh (xcp g3)).symm⟩
   dsimp only;have ea:=(atA p g2).1;have ela:=(atA p g2).2.1;have mea:=(atA p g2).2.2;have eb:=(atB q g4).1;have elb:=(atB q g4).2.1;have meb:=(atB q g4).2.2;refine w_el eb (w_el ea (zri O (sm2.kind.trans hk) meb mea (fun cw=>w_el ea ?_) fun cw=>w_el eb ?_))
   ·skip
    have m2:=m.pushA T ela fun z hz=>by
     obtain ⟨j,hj,e⟩:=zl hz;exact xbb (T.ob.at e elb (xch hj)) (xbm cw)
    refine w_if (fun c5=>xbf (.inl (.mk sm2 (m2.done T (.inl (eq_of_beq c5)))))) fun c5=>?_
    rw[xeq] at c5;have a3:1<=p:=xii c5;have a4:p<=a.size:=xcp g2;have a5:p+(q+1)<=na+nb:=xbb (Nat.add_le_add_right (Nat.le_succ p) _) hp;exact w_if (fun _=>xbf (.inr (.mk sm2 m2 a3 a4 g3 g4 a5))) fun _=>xbf (.mk sm2 m2 a3 a4 g3 g4 a5)
   ·skip
    have m2:=m.pushB T elb fun z hz=>by
     obtain ⟨j,hj,e⟩:=zl hz;exact xbb (T.oa.at e ela (xch hj)) cw
    refine w_if (fun c5=>xbf (.inl (.mk sm2 (m2.firstB T (eq_of_beq c5))))) fun c5=>?_
    rw[xeq] at c5;have a3:2<=q:=xci (Nat.le_of_succ_le_succ g3) (xeg c5);have a4:q<=b.size:=xcp g4;have a5:p+1+q<=na+nb:=xcp hp;exact w_if (fun _=>xbf (.inr (.mk sm2 m2 g1 g2 a3 a4 a5))) fun _=>xbf (.mk sm2 m2 g1 g2 a3 a4 a5)
  ·exact fun c st2 k=>.inr k
  ·rintro c st2 (⟨sm2,f⟩ | @⟨na',nb',out,ac,bc,st2,sm2,m,g1,g2,g3,g4,hp⟩)
   ·exact xbf (.mk sm2 f)
   ·dsimp only;refine xbd (xhw (xgr ⟨rfl,?_⟩));refine xbd (xee (xcz (I:=H3 R a b st (na+nb)) (Q:=fun c st'=>Dn R a b st c st'\/H3 R a b st (na+nb) 1 c st') ?_ ?_ (.mk sm2 m g1 g2 g3 g4 (by rw[xdr];exact hp))) ?_)
    ·rintro x' c st3 _ x2' @⟨na',nb',out,g',ac,bc,st3,sm3,m,g1,g2,g3,g4,hp⟩;obtain ⟨q,rfl⟩:∃q,nb'=q+1:=⟨nb' - 1,(xfh (xcp g3)).symm⟩
     dsimp only;have eb:=(atB q g4).1;have elb:=(atB q g4).2.1;have meb:=(atB q g4).2.2;generalize g' - 1=g1;generalize g'=y;revert g1;revert y
     refine zzj ?_;intro gg;refine xbd (zle fun st4 sg=>?_);have sm4:=sm3.trans sg;refine w_el eb (xbd (zdh O (sm4.kind.trans hk) meb (fun i hi=>⟨_,(atA (0+i) (by lia)).1,(atA (0+i) (by lia)).2.2⟩) (by lia) (upA na' g2) fun k1 cut1=>?_));have m5:=(m.galA T elb g2 cut1).1;have u5:=(m.galA T elb g2 cut1).2;have hk1:=cut1.1;dsimp only;refine zzl (fun c6=>?_) (fun c6 c7=>?_) fun hh=>?_
     ·have z:k1=na':=by lia
      subst z;rw[show out++(a.extract k1 k1).reverse=out by simp[xgc]]
     ·exact xbf (.inl (.mk sm4 (m5.done T (.inl (eq_of_beq c7)))))
     have g5:1<=k1:=by
      by_cases c6:na' - k1 > 0
      ·have:=hh c6;simp at this;lia
      ·lia
     have g6:k1<=a.size:=xbb hk1 g2;have hp5:x'+k1+(q+1)<=na+nb:=by lia
     clear hh hk1 cut1;generalize out++(a.extract k1 na').reverse=out5 at m5 ⊢;obtain ⟨p,rfl⟩:∃p,k1=p+1:=⟨k1 - 1,(xfh g5).symm⟩
     simp only[xij];have m6:=m5.pushB T elb u5;have ea:=(atA p g6).1;have ela:=(atA p g6).2.1;have mea:=(atA p g6).2.2;refine w_el eb (w_if (fun c9=>xbf (.inl (.mk sm4 (m6.firstB T (eq_of_beq c9))))) fun c9=>w_el ea ?_);rw[xeq] at c9;refine xbd (zdh O (sm4.kind.trans hk) mea (fun i hi=>⟨_,(atB (0+i) (by lia)).1,(atB (0+i) (by lia)).2.2⟩) (by lia) (upB q (xcp g4)) fun k2 cut2=>?_);have m7:=(m6.galB T ela (xcp g4) cut2).1;have u7:=(m6.galB T ela (xcp g4) cut2).2;have hk2:=cut2.1;dsimp only;refine zrj (fun d6=>?_) (fun d6 d7=>?_) (fun d6 d9=>?_) fun hh=>?_
     ·have z2:k2=q:=by lia
      subst z2;simp only[xgj (xbb (xgc _ _) (xbg _)),Array.reverse_empty,xgd]
     ·exact xbf (.inl (.mk sm4 (m7.firstB T (eq_of_beq d7))))
     ·exact xbf (.inl (.mk sm4 (m7.done T (.inr (eq_of_beq d9)))))
     have h20:2<=k2:=by
      by_cases d6:q - k2 > 0
      ·have:=hh d6;simp at this;lia
      ·lia
     have m8:=m7.pushA T ela u7;refine w_el ea (w_if (fun d8=>xbf (.inl (.mk sm4 (m8.done T (.inl (eq_of_beq d8)))))) fun d8=>?_);rw[xeq] at d8;have a3:1<=p:=xii d8;have a4:p<=a.size:=xcp g6;have a5:k2<=b.size:=xbb hk2 (xcp g4);have a6:x'+1+p+k2<=na+nb:=by lia
     exact w_if (fun _=>xbf (.inr (.mk sm4 m8 a3 a4 h20 a5 (by lia)))) fun _=>xbf (.mk sm4 m8 a3 a4 h20 a5 a6)
    ·rintro c st3 ⟨sm3,m,g1,g2,g3,g4,hp⟩;exact .inr (.mk sm3 m g1 g2 g3 g4 (by lia))
    ·rintro c st3 (⟨sm3,f⟩ | @⟨na',nb',out,g',ac,bc,st3,sm3,m,g1,g2,g3,g4,hp⟩)
     ·exact xbf (.mk sm3 f)
     ·have h9:x+1+na'+nb' < a.size+b.size:=by lia
      exact xbd (zle fun st4 sg=>xbf (.mk (sm3.trans sg) m g1 g2 g3 g4 h9))
 ·rintro c st1 ⟨sm1,m,a1,a2,b1,b2,hx⟩;lia
 ·rintro c st1 ⟨sm1,f⟩;exact xbf (h _ st1 sm1 f)
end
theorem zjq:∀(l:List Keyed) (n off:Nat) (xs:Array Keyed),off+n+l.length<=xs.size->∀i,((l.zipIdx n).foldl (fun a p=>a.setIfInBounds (off+p.2) p.1) xs)[i]?=if off+n<=i/\i < off+n+l.length then l[i - (off+n)]? else xs[i]?
 | [],n,off,xs,h,i=>by
  rw[if_neg (by simp)]
  rfl
 | x::l,n,off,xs,h,i=>by
  rw[List.zipIdx_cons,List.foldl_cons];rw[xcn] at h;have e1:off+(n+1)+l.length=off+n+(l.length+1):=Nat.succ_add_eq_add_succ (off+n) l.length;rw[zjq l (n+1) off _ (by rw[Array.size_setIfInBounds];exact xbb (xcs e1) h) i];rw[xcn];by_cases c:off+(n+1)<=i/\i < off+(n+1)+l.length
  ·rw[if_pos c,if_pos ⟨xcp c.1,xeu c.2 e1⟩,show i - (off+n)=i - (off+(n+1))+1 from (xfh (xek c.1)).symm,List.getElem?_cons_succ]
  ·rw[if_neg c];by_cases c2:i=off+n
   ·rw[if_pos ⟨xcs c2.symm,xcr (xcs c2) (xfy (Nat.succ_pos _))⟩,c2,xhf,List.getElem?_cons_zero];exact Array.getElem?_setIfInBounds_self_of_lt (xbc (xfy (Nat.succ_pos l.length)) h)
   ·rw[if_neg fun z=>c ⟨xci z.1 (xeg c2),xeu z.2 e1.symm⟩];exact xhy (fun z=>c2 z.symm)
theorem zos {m xs:Array Keyed} {off:Nat} (h:off+m.size<=xs.size):(m.toList.zipIdx.foldl (fun a p=>a.setIfInBounds (off+p.2) p.1) xs).toList=xs.toList.take off++m.toList++xs.toList.drop (off+m.size):=by
 apply xhn;intro i;rw[xce,zjq m.toList 0 off xs (by simpa using h) i];simp only[xic,xbz];have l1:(xs.toList.take off).length=off:=by rw[xea,xbz];exact xdq (xbb (xbj _ _) h)
 by_cases c:off<=i/\i < off+m.size
 ·rw[if_pos c,xcb,xbq (xbb (xcs l1) c.1),l1,xby (by rw[xbz];exact xda c.1 c.2)]
 ·rw[if_neg c];by_cases c2:i < off
  ·rw[xcb,xby (xeu c2 l1.symm),List.getElem?_take,if_pos c2,xce]
  ·have h3:off+m.size<=i:=xbp fun z=>c ⟨xbp c2,z⟩
   rw[xbq (by rw[xbx,l1,xbz];exact h3),xet];simp only[xbx,l1,xbz];rw[xbw h3,xce]
section
variable {prog:Program} {w:World} {A:Around} {E:Value->Shared->Prop} {s:Shared} {κ:SortKind} {a₀:Array Keyed} {R:Keyed->Nat}
theorem znp {xs:Array Keyed} {i j:Nat} (up:UpA R xs i j) (hj:j<=xs.size):Ord R (xs.extract i j).toList:=by
 rw[zbc];refine xha.mpr fun p q hp hq hpq=>?_
 simp only[xea,xit,xbz] at hp hq;simp only[List.getElem_take,List.getElem_drop,Array.getElem_toList];have:=up (i+p) (i+q) (xbj _ _) (xbv (xbm hpq) i) (xdg (xbc hq (xgc _ _)));rw[zby (getElem?_pos xs (i+p) (xdg (xbc hp (xgn _ _)))),zby (getElem?_pos xs (i+q) (xdg (xbc hq (xgn _ _))))] at this;exact this
theorem zfe {xs:Array Keyed} {i j:Nat} {x:Keyed} (h:x∈(xs.extract i j).toList):∃q,i<=q/\q < j/\xs[q]?=some x:=by
 rw[zbc] at h;obtain ⟨q,hq,e⟩:=zl h;rw[xet,xce] at e;exact ⟨i+q,xbj _ _,xdg hq,e⟩
theorem ztj {xs:Array Keyed} {i j q:Nat} (h:q < j - i):(xs.extract i j).toList[q]?=xs[i+q]?:=by
 rw[zbc,List.getElem?_take,if_pos h,xet,xce]
structure Mg (R:Keyed->Nat) (xs ys:Array Keyed) (lo hi:Nat):Prop where
 perm:ys.Perm xs
 out:Out ys xs lo hi
 up:UpA R ys lo hi
theorem zmc {xs m:Array Keyed} {sa sb ea k nb':Nat} {y0 xl:Keyed} (hsb:sb<=ea) (hea:ea<=xs.size) (hk:sa+k < sb) (hnb:sb+nb'<=ea) (hnb1:1<=nb') (upA:UpA R xs sa sb) (upB:UpA R xs sb ea)
  (e0:xs[sb]?=some y0) (el:xs[sb - 1]?=some xl) (c1:Cut false R y0 xs sa (sb - sa) k) (c2:Cut true R xl xs sb (ea - sb) nb')
  (f:Fin R (xs.extract (sa+k) sb).toList (xs.extract sb (sb+nb')).toList m):Mg R xs (m.toList.zipIdx.foldl (fun a p=>a.setIfInBounds (sa+k+p.2) p.1) xs) sa ea:=by
 have lx:(xs.extract (sa+k) sb).toList.length=sb - (sa+k):=by rw[zbc,xea,xit,xbz];exact xdq (xei (xbb hsb hea) _)
 have ly:(xs.extract sb (sb+nb')).toList.length=nb':=by rw[zbc,xea,xit,xbz,xbo];exact xdq (xdu (xbb hnb hea))
 have lm:m.size=sb+nb' - (sa+k):=by
  have:=f.1.length_eq;rw[xbx,lx,ly,xbz] at this;exact this.trans (Nat.sub_add_comm (xbm hk)).symm
 have he:sa+k+m.size=sb+nb':=by rw[lm];exact xbw (xbb (xbm hk) (xbj _ _))
 have hsz:sa+k+m.size<=xs.size:=by rw[he];exact xbb hnb hea
 have hs1:=xcm hk;have s1:sb - 1 < sb:=xgb (xhm hk) Nat.one_pos;have g:∀i,(m.toList.zipIdx.foldl (fun a p=>a.setIfInBounds (sa+k+p.2) p.1) xs)[i]?=if sa+k<=i/\i < sb+nb' then m.toList[i - (sa+k)]? else xs[i]?:=fun i=>by
  have:=zjq m.toList 0 (sa+k) xs (by simpa using hsz) i;simp only[xic,xbz] at this;rw[he] at this;exact this
 have mid:∀v∈m.toList,R y0<=R v/\R v<=R xl:=fun v hv=>by
  rcases xco.mp (f.1.mem_iff.mp hv) with hv | hv
  ·obtain ⟨q,q1,q2,e⟩:=zfe hv;have q0:=xbb (xbj _ _) q1;have h1:=c1.2.2 (q - sa) (xdu q1) (xdp q0 q2);rw[xbw q0,zby e] at h1;have h2:=upA q (sb - 1) q0 (xcm q2) s1;rw[zby e,zby el] at h2;have h1':R y0 < R v:=h1;exact ⟨xbm h1',h2⟩
  ·obtain ⟨q,q1,q2,e⟩:=zfe hv;have h1:=upB sb q (xbg _) q1 (xbc q2 hnb);rw[zby e,zby e0] at h1;have h2:=c2.2.1 (q - sb) (xda q1 q2);rw[xbw q1,zby e] at h2;have h2':R v < R xl:=h2;exact ⟨h1,xbm h2'⟩
 have low:∀i,sa<=i->i < sa+k->kA R xs i<=R y0:=fun i a1 a2=>by
  have:=c1.2.1 (i - sa) (xda a1 a2);rw[xbw a1] at this;exact this
 have hig:∀i,sb+nb'<=i->i < ea->R xl<=kA R xs i:=fun i a1 a2=>by
  have i0:=xbb (xbj _ _) a1;have:=c2.2.2 (i - sb) (xdu a1) (xdp i0 a2);rw[xbw i0] at this;exact this
 have kk:∀i,kA R (m.toList.zipIdx.foldl (fun a p=>a.setIfInBounds (sa+k+p.2) p.1) xs) i=if sa+k<=i/\i < sb+nb' then kA R m (i - (sa+k)) else kA R xs i:=fun i=>by
  have:=g i;split
  ·rename_i c;rw[if_pos c,xce] at this;exact zbu this
  ·rename_i c;rw[if_neg c] at this;exact zbu this
 have mm:∀i,i < m.size->∃v,m.toList[i]?=some v/\v∈m.toList:=fun i hi=>⟨m.toList[i]'(by simpa using hi),xbi _,xed _⟩
 refine ⟨?_,fun i hi=>?_,fun i j a1 a2 a3=>?_⟩
 ·refine xep.mpr ?_;rw[zos hsz,he];have split:xs.toList=xs.toList.take (sa+k)++((xs.extract (sa+k) sb).toList++(xs.extract sb (sb+nb')).toList)++xs.toList.drop (sb+nb'):=by
   rw[zbc,zbc];rw[xbo]
   conv=>lhs;rw[← xes (sa+k) xs.toList,← xes (sb - (sa+k)) (xs.toList.drop (sa+k)),xjd,xbw (xbm hk),← xes nb' (xs.toList.drop sb),xjd]
   simp only[xcb]
  conv=>rhs;rw[split]
  exact xgg _ (xfj _ f.1)
 ·rw[g i,if_neg fun z=>hi.elim (fun h=>xds (xbb (xbj sa k) z.1) h) fun h=>xds h (xbc z.2 hnb)]
 ·rw[kk,kk];by_cases ci:sa+k<=i/\i < sb+nb'
  ·rw[if_pos ci];obtain ⟨v,ev,mv⟩:=mm (i - (sa+k)) (by rw[lm];exact xdp ci.1 ci.2);rw[zba ev];by_cases cj:sa+k<=j/\j < sb+nb'
   ·rw[if_pos cj];obtain ⟨u,eu,mu⟩:=mm (j - (sa+k)) (by rw[lm];exact xdp cj.1 cj.2);rw[zba eu];exact f.2.at ev eu (xei a2 _)
   ·rw[if_neg cj];exact xbb (mid v mv).2 (hig j (xbp fun z=>cj ⟨xbb ci.1 a2,z⟩) a3)
  ·rw[if_neg ci];by_cases ci2:i < sa+k
   ·have h1:=low i a1 ci2;by_cases cj:sa+k<=j/\j < sb+nb'
    ·rw[if_pos cj];obtain ⟨u,eu,mu⟩:=mm (j - (sa+k)) (by rw[lm];exact xdp cj.1 cj.2);rw[zba eu];exact xbb h1 (mid u mu).1
    ·rw[if_neg cj];by_cases cj2:j < sa+k
     ·exact upA i j a1 a2 (xhg cj2 hk)
     ·have h2:=hig j (xbp fun z=>cj ⟨xbp cj2,z⟩) a3;have h3:R y0<=R xl:=by
       have s0:=xbb (xbj _ _) hs1;have h4:=c1.2.2 (sb - 1 - sa) (xdu hs1) (xdp s0 s1);rw[xbw s0,zby el] at h4;exact xbm h4
      exact xbb h1 (xbb h3 h2)
   ·have hi2:sb+nb'<=i:=xbp fun z=>ci ⟨xbp ci2,z⟩
    rw[if_neg fun z=>xds (xbb hi2 a2) z.2];exact upB i j (xbb (xbj _ _) hi2) a2 a3
end
section
variable {prog:Program} {w:World} {A:Around} {E:Value->Shared->Prop} {s:Shared} {κ:SortKind} {a₀:Array Keyed} {R:Keyed->Nat}
theorem zbad {x st:SortSt} {Q:Unit->SortSt->Prop} (h:Q () x):wpS (model prog w) A E s (set x:StateT SortSt Sem PUnit) Q st:=by
 unfold wpS;rw[StateT.run_set];exact xbl ⟨rfl,h⟩
theorem zli {i sa na pw sb nb pw':Nat} {st:SortSt} {Q:Bool->SortSt->Prop} (O:Orc prog w A s κ a₀ R) (b:B κ a₀ st) (p1:(pendingOf st)[i]?=some (sa,na,pw)) (p2:(pendingOf st)[i+1]?=some (sb,nb,pw')) (hsb:sb=sa+na) (hna:1<=na) (hnb:1<=nb) (hz:sb+nb<=a₀.size)
  (upA:UpA R (arrOf st) sa sb) (upB:UpA R (arrOf st) sb (sb+nb))
  (h:∀st',B κ a₀ st'->pendingOf st'=((pendingOf st).setIfInBounds i (sa,na+nb,pw)).eraseIdxIfInBounds (i+1)->Out (arrOf st') (arrOf st) sa (sb+nb)->UpA R (arrOf st') sa (sb+nb)->Q true st'):wpS (model prog w) A E s (mergeAt' i) Q st:=by
 have hsz:=b.size;have bs:sb < a₀.size:=xbc (xfy hnb) hz;refine xbd (xfz ?_);dsimp only;have q1:(sortPriv% PySem.Builtin.SortState.pending) st=pendingOf st:=rfl;rw[q1,p1,p2];dsimp only;refine xbd (zbad ?_);obtain ⟨y0,e0,my0⟩:=b.mem (i:=sb) bs;have inA:∀q,q < a₀.size->∃x,(arrOf st)[q]?=some x/\x∈a₀.toList:=fun q hq=>b.mem hq
 refine xbd (zgb e0 ?_);refine xbd (zdh O b.kind my0 (fun q hq=>inA (sa+q) (xhg (xeu (xdm hq sa) hsb.symm) bs)) hna (by rw[← hsb];exact upA) fun k c1=>?_);dsimp only;have hk:=c1.1;have c1':Cut false R y0 (arrOf st) sa (sb - sa) k:=by rw[show sb - sa=na from by rw[hsb,xbo]];exact c1
 by_cases d1:na - k=0
 ·rw[if_pos (by simpa using d1)];refine xbf (h _ ⟨b.perm,b.kind,b.failed⟩ rfl (Out.refl _ _ _) fun p q a1 a2 a3=>?_);by_cases z1:q < sb
  ·exact upA p q a1 a2 z1
  ·by_cases z2:p < sb
   ·have h1:=c1.2.1 (p - sa) (xbc (xda a1 (xeu z2 hsb)) (Nat.le_of_sub_eq_zero d1));rw[xbw a1] at h1;have h2:=upB sb q (xbg _) (xbp z1) a3;rw[zby e0] at h2;exact xbb h1 h2
   ·exact upB p q (xbp z2) a2 a3
 ·rw[if_neg (by simpa using d1)];have hk2:sa+k < sb:=xeu (xdm (xer fun z=>d1 (Nat.sub_eq_zero_of_le z)) sa) hsb.symm;have s1:sb - 1 < sb:=xgb (xhm hk2) Nat.one_pos;obtain ⟨xl,el,mxl⟩:=inA (sb - 1) (xhg s1 bs);have el':(arrOf st)[sa+k+(na - k) - 1]?=some xl:=by rw[Nat.add_assoc,xbw hk,← hsb];exact el
  refine xbd (zgb el' ?_);refine xbd (zdh O b.kind mxl (fun q hq=>inA (sb+q) (xbc (xdm hq sb) hz)) (xgb hnb Nat.one_pos) upB fun nb' c2=>?_);dsimp only;have hn2:=c2.1;have c2':Cut true R xl (arrOf st) sb (sb+nb - sb) nb':=by rw[xbo];exact c2
  by_cases d2:nb'=0
  ·rw[if_pos (by simpa using d2)];refine xbf (h _ ⟨b.perm,b.kind,b.failed⟩ rfl (Out.refl _ _ _) fun p q a1 a2 a3=>?_);subst d2;by_cases z1:q < sb
   ·exact upA p q a1 a2 z1
   ·by_cases z2:p < sb
    ·have h1:=upA p (sb - 1) a1 (xcm z2) s1;rw[zby el] at h1;have h2:=c2.2.2 (q - sb) (xdh _) (xda (xbp z1) a3);rw[xbw (xbp z1)] at h2;exact xbb h1 h2
    ·exact upB p q (xbp z2) a2 a3
  ·rw[if_neg (by simpa using d2)];have hn1:1<=nb':=xii d2;have hez:sb<=(arrOf st).size:=by rw[hsz];exact xbm bs
   have hbz:sb+nb<=(arrOf st).size:=by rw[hsz];exact hz
   have hb2:sb+nb'<=sb+nb:=xbv hn2 sb;have oa:Ord R ((arrOf st).extract (sa+k) sb).toList:=znp (fun p q a1 a2 a3=>upA p q (xbb (xbj _ _) a1) a2 a3) hez;have ob:Ord R ((arrOf st).extract sb (sb+nb')).toList:=znp (fun p q a1 a2 a3=>upB p q a1 a2 (xbc a3 hb2)) (xbb hb2 hbz);have ma:∀x∈((arrOf st).extract (sa+k) sb).toList,x∈a₀.toList:=fun x hx=>by
    obtain ⟨q,q1,q2,e⟩:=zfe hx;obtain ⟨x',e',m'⟩:=inA q (xhg q2 bs);rw[e] at e';cases e';exact m'
   have mb:∀x∈((arrOf st).extract sb (sb+nb')).toList,x∈a₀.toList:=fun x hx=>by
    obtain ⟨q,q1,q2,e⟩:=zfe hx;obtain ⟨x',e',m'⟩:=inA q (xbc q2 (xbb hb2 hz));rw[e] at e';cases e';exact m'
   have sx:((arrOf st).extract (sa+k) sb).size=sb - (sa+k):=by rw[Array.size_extract,xdq hez]
   have sy:((arrOf st).extract sb (sb+nb')).size=nb':=by rw[Array.size_extract,xdq (xbb hb2 hbz),xbo]
   have fst:∀y,((arrOf st).extract sb (sb+nb')).toList[0]?=some y->∀x∈((arrOf st).extract (sa+k) sb).toList,R y<=R x:=fun y hy x hx=>by
    rw[ztj (by rw[xbo];exact hn1),xic,e0] at hy;cases hy;obtain ⟨q,q1,q2,e⟩:=zfe hx;have q0:=xbb (xbj _ _) q1;have:=c1.2.2 (q - sa) (xdu q1) (xda q0 (xeu q2 hsb));rw[xbw q0,zby e] at this;exact xbm this
   have lst:∀x,((arrOf st).extract (sa+k) sb).toList[sb - (sa+k) - 1]?=some x->∀y∈((arrOf st).extract sb (sb+nb')).toList,R y<=R x:=fun x hx y hy=>by
    rw[ztj (xgb (xek hk2) Nat.one_pos),show sa+k+(sb - (sa+k) - 1)=sb - 1 from by rw[← Nat.add_sub_assoc (xek hk2),xbw (xbm hk2)],el] at hx;cases hx;obtain ⟨q,q1,q2,e⟩:=zfe hy;have:=c2.2.1 (q - sb) (xda q1 q2);rw[xbw q1,zby e] at this;exact xbm this
   have post:∀m st2,SmG st st2\/True->Fin R ((arrOf st).extract (sa+k) sb).toList ((arrOf st).extract sb (sb+nb')).toList m->Mg R (arrOf st) (m.toList.zipIdx.foldl (fun a p=>a.setIfInBounds (sa+k+p.2) p.1) (arrOf st)) sa (sb+nb):=fun m _ _ f =>
    zmc (xbj _ _) hbz hk2 hb2 hn1 upA upB e0 el c1' c2' f
   by_cases d3:na - k<=nb'
   ·rw[if_pos d3];refine xbd (zlg O b.kind ma mb ⟨oa,ob,fun x hx=>lst x (by rw[xbz,sx] at hx;exact hx)⟩ (by show 1<=((arrOf st).extract (sa+k) sb).size;rw[sx];exact xek hk2) (by show 1<=((arrOf st).extract sb (sb+nb')).size;rw[sy];exact hn1) fst fun m st2 sg f=>?_);have mg:=post m st2 (.inr trivial) f;refine xbd (xff (xbd (xfz ?_)));have a2:arrOf st2=arrOf st:=sg.arr;have f2:failedOf st2=none:=sg.failed.trans b.failed;refine xbf (?_:Q ((failedOf st2).isNone) (setArr st2 (m.toList.zipIdx.foldl (fun a p=>a.setIfInBounds (sa+k+p.2) p.1) (arrOf st2))));rw[f2,a2];exact h _ ⟨mg.perm.trans b.perm,sg.kind.trans b.kind,f2⟩ sg.pend mg.out mg.up
   ·rw[if_neg d3];refine xbd (zlh O b.kind ma mb ⟨oa,ob,fst⟩ (by show 1<=((arrOf st).extract (sa+k) sb).size;rw[sx];exact xek hk2) (by show 1<=((arrOf st).extract sb (sb+nb')).size;rw[sy];exact hn1) (fun x hx=>lst x (by rw[sx] at hx;exact hx)) fun m st2 sg f=>?_);have mg:=post m st2 (.inr trivial) f;refine xbd (xff (xbd (xfz ?_)));have a2:arrOf st2=arrOf st:=sg.arr;have f2:failedOf st2=none:=sg.failed.trans b.failed;refine xbf (?_:Q ((failedOf st2).isNone) (setArr st2 (m.toList.zipIdx.foldl (fun a p=>a.setIfInBounds (sa+k+p.2) p.1) (arrOf st2))));rw[f2,a2];exact h _ ⟨mg.perm.trans b.perm,sg.kind.trans b.kind,f2⟩ sg.pend mg.out mg.up
end
noncomputable def Segs (R:Keyed->Nat) (xs:Array Keyed):Nat->List (Nat × Nat × Nat)->Nat->Prop
 | s,[],e=>s=e
 | s,p::r,e=>p.1=s/\1<=p.2.1/\UpA R xs s (s+p.2.1)/\Segs R xs (s+p.2.1) r e
section
variable {R:Keyed->Nat} {xs ys:Array Keyed}
theorem Segs.le:∀{l:List (Nat × Nat × Nat)} {s e:Nat},Segs R xs s l e->s+l.length<=e
 | [],s,e,h=>by cases h;simp
 | p::r,s,e,h=>by
  have:=Segs.le h.2.2.2;have:=h.2.1;simp;lia
theorem Segs.append:∀{l m:List (Nat × Nat × Nat)} {s e:Nat},Segs R xs s (l++m) e↔∃k,Segs R xs s l k/\Segs R xs k m e
 | [],m,s,e=>⟨fun h=>⟨s,rfl,h⟩,fun ⟨k,h1,h2⟩=>by cases h1;exact h2⟩
 | p::r,m,s,e=>by
  constructor
  ·rintro ⟨h1,h2,h3,h4⟩;obtain ⟨k,g1,g2⟩:=Segs.append.mp h4;exact ⟨k,⟨h1,h2,h3,g1⟩,g2⟩
  ·rintro ⟨k,⟨h1,h2,h3,h4⟩,g2⟩;exact ⟨h1,h2,h3,Segs.append.mpr ⟨k,h4,g2⟩⟩
theorem UpA.same {a b:Nat} (h:UpA R xs a b) (e:∀i,a<=i->i < b->ys[i]?=xs[i]?):UpA R ys a b:=fun i j a1 a2 a3=>by
 rw[zbu (e i a1 (xcr a2 a3)),zbu (e j (xbb a1 a2) a3)];exact h i j a1 a2 a3
theorem Segs.same:∀{l:List (Nat × Nat × Nat)} {s e:Nat},Segs R xs s l e->(∀i,s<=i->i < e->ys[i]?=xs[i]?)->Segs R ys s l e
 | [],s,e,h,_=>h
 | p::r,s,e,h,k=>by
  have:=Segs.le h.2.2.2;exact ⟨h.1,h.2.1,h.2.2.1.same fun i a1 a2=>k i a1 (xbc a2 (xbb (xbj _ _) this)),Segs.same h.2.2.2 fun i a1 a2=>k i (xbb (xbj _ _) a1) a2⟩
theorem Segs.power {s e:Nat}:∀{l m:List (Nat × Nat × Nat)},l.map (fun p=>(p.1,p.2.1))=m.map (fun p=>(p.1,p.2.1))->Segs R xs s l e->Segs R xs s m e:=by
 intro l
 induction l generalizing s with
 | nil=>intro m h k;cases m with
  | nil=>exact k
  | cons=>cases h
 | cons p r ih=>intro m h k;cases m with
  | nil=>cases h
  | cons q t =>
   rw[xcd,xcd] at h;obtain ⟨h1,h2⟩:=List.cons.inj h;obtain ⟨g1,g2⟩:=Prod.mk.inj h1;obtain ⟨k1,k2,k3,k4⟩:=k;rw[g2] at k2 k3 k4;exact ⟨g1.symm.trans k1,k2,k3,ih h2 k4⟩
end
section
variable {prog:Program} {w:World} {A:Around} {E:Value->Shared->Prop} {s:Shared} {κ:SortKind} {a₀:Array Keyed} {R:Keyed->Nat}
theorem zpk {l:List (Nat × Nat × Nat)} {i:Nat} (h:i+1 < l.length):∃pre p q post,l=pre++p::q::post/\pre.length=i:=by
 refine ⟨l.take i,l[i],l[i+1],l.drop (i+2),?_,by rw[xea];exact xdq (xbm (xdv h))⟩
 conv=>lhs;rw[← xes i l,xfq (xdv h),xfq h]
theorem w_at {i e:Nat} {st:SortSt} {Q:Bool->SortSt->Prop} (O:Orc prog w A s κ a₀ R) (b:B κ a₀ st) (sg:Segs R (arrOf st) 0 (pendingOf st).toList e) (he:e<=a₀.size) (hi:i+1 < (pendingOf st).size)
  (h:∀st',B κ a₀ st'->Segs R (arrOf st') 0 (pendingOf st').toList e->(pendingOf st').size+1=(pendingOf st).size->(∀k,e<=k->(arrOf st')[k]?=(arrOf st)[k]?)->Q true st'):wpS (model prog w) A E s (mergeAt' i) Q st:=by
 obtain ⟨pre,p,q,post,el,hl⟩:=zpk (l:=(pendingOf st).toList) (i:=i) (by simpa using hi);obtain ⟨sa,na,pw⟩:=p;obtain ⟨sb,nb,pw'⟩:=q;rw[el] at sg;obtain ⟨k,g1,g2⟩:=Segs.append.mp sg;obtain ⟨h1,h2,h3,h4,h5,h6,h7⟩:=g2;dsimp only at h1 h2 h3 h4 h5 h6 h7;subst h1;have l7:=Segs.le h7;have l1:=Segs.le g1;have p1:(pendingOf st)[i]?=some (sa,na,pw):=by rw[← xce,el,xbq (xcs hl),hl,xhf];rfl
 have p2:(pendingOf st)[i+1]?=some (sb,nb,pw'):=by rw[← xce,el,xbq (xbb (xcs hl) (xbj i 1)),hl,xbo];rfl
 refine zli O b p1 p2 h4 h2 h5 (by lia) (by rw[h4];exact h3) (by rw[h4];exact h6) fun st' b' pe ou up=>?_
 have pl:(pendingOf st').toList=pre++(sa,na+nb,pw)::post:=by
  rw[pe];rw[Array.toList_eraseIdxIfInBounds,Array.toList_setIfInBounds,el];rw[xev _ _ (xcs hl),hl,xhf,List.set_cons_zero,List.eraseIdx_append_of_length_le (xbb (xcs hl) (xbj i 1)),hl,xbo]
  rfl
 have keep:∀j,j < sa\/sb+nb<=j->(arrOf st')[j]?=(arrOf st)[j]?:=ou
 refine h st' b' ?_ ?_ fun j hj=>keep j (.inr (by lia))
 ·rw[pl];refine Segs.append.mpr ⟨sa,g1.same fun j a1 a2=>keep j (.inl a2),rfl,by show 1<=na+nb;lia,?_,?_⟩
  ·show UpA R (arrOf st') sa (sa+(na+nb));rw[show sa+(na+nb)=sb+nb by lia];exact up
  ·show Segs R (arrOf st') (sa+(na+nb)) post e;rw[show sa+(na+nb)=sa+na+nb by lia];exact h7.same fun j a1 a2=>keep j (.inr (by lia))
 ·have e1:(pendingOf st').size=(pendingOf st').toList.length:=by simp
  have e2:(pendingOf st).size=(pendingOf st).toList.length:=by simp
  rw[e1,e2,pl,el];simp only[xbx,xcn];lia
theorem zwy {c:Prop} [Decidable c] {a b n:Nat} (h1:a+1 < n) (h2:b+1 < n):(if c then a else b)+1 < n:=by split<;>assumption
theorem znr {g:Nat × Nat × Nat->Nat × Nat} {f:Nat × Nat × Nat->Nat × Nat × Nat} (h:∀x,g (f x)=g x):∀(l:List (Nat × Nat × Nat)) (i:Nat),(l.modify i f).map g=l.map g
 | [],i=>by simp
 | x::l,0=>by simp[h]
 | x::l,i+1=>by simp[znr h l i]
theorem Segs.mod {xs:Array Keyed} {s e:Nat} {l:List (Nat × Nat × Nat)} (h:Segs R xs s l e) (i c:Nat):Segs R xs s (l.modify i fun x=>(x.1,x.2.1,c)) e :=
 h.power (znr (g:=fun p=>(p.1,p.2.1)) (f:=fun x=>(x.1,x.2.1,c)) (fun _=>rfl) l i).symm
theorem zvn {st:SortSt} {Q:Unit->SortSt->Prop} (O:Orc prog w A s κ a₀ R) (b:B κ a₀ st) (pe:pendingOf st=#[]) (h2:2<=a₀.size)
  (h:∀st',B κ a₀ st'->UpA R (arrOf st') 0 a₀.size->Q () st'):wpS (model prog w) A E s sortRuns' Q st:=by
 have hz:=b.size;rw[sortRuns'_eq];refine xbd (xfz ?_);dsimp only;rw[hz]
 refine xbd (xee (xcz (I:=fun x c st'=>∃lo,c=(none,lo)/\B κ a₀ st'/\Segs R (arrOf st') 0 (pendingOf st').toList lo/\lo<=a₀.size/\x<=lo)
  (Q:=fun c st'=>c=(none,a₀.size)/\B κ a₀ st'/\Segs R (arrOf st') 0 (pendingOf st').toList a₀.size) ?_ ?_ ⟨0,rfl,b,by rw[pe];rfl,by lia,by lia⟩) ?_)
 ·rintro x c st1 x1 x2 ⟨lo,rfl,b1,sg1,hlo,hx⟩;dsimp only;by_cases c1:lo ≥ a₀.size
  ·rw[if_pos c1];have:lo=a₀.size:=by lia
   subst this;exact xbf ⟨rfl,b1,sg1⟩
  rw[if_neg c1];refine xbd (zrk O b1 (by lia) (by lia) fun m st2 m1 m2 b2 sm2 up2=>?_);dsimp only;have sg2:Segs R (arrOf st2) 0 (pendingOf st2).toList lo:=by
   rw[sm2.pend];exact sg1.same fun i a1 a2=>sm2.out i (.inl a2)
  by_cases c2:m < minRun' a₀.size a₀.size 0
  ·rw[if_pos c2];refine xbd (xhw (xgr ⟨rfl,?_⟩));refine xbd (zbae O b2 (by lia) m1 (by lia) up2 fun st3 b3 sm3 up3=>?_);have sg3:Segs R (arrOf st3) 0 (pendingOf st3).toList lo:=by
    rw[sm3.pend];exact sg2.same fun i a1 a2=>sm3.out i (.inl a2)
   have hn1:1<=min (a₀.size - lo) (minRun' a₀.size a₀.size 0):=by lia
   have hn2:lo+min (a₀.size - lo) (minRun' a₀.size a₀.size 0)<=a₀.size:=by lia
   simp only[Bool.not_true,xdd,xgq];generalize min (a₀.size - lo) (minRun' a₀.size a₀.size 0)=n at up3 hn1 hn2 sm3 ⊢;refine xbd (xfz ?_);cases hb:(pendingOf st3).back? with
   | none =>
    dsimp only;refine xbd (xff (xbf ⟨lo+n,rfl,⟨b3.perm,b3.kind,b3.failed⟩,?_,hn2,by lia⟩));show Segs R (arrOf st3) 0 ((pendingOf st3).push (lo,n,0)).toList (lo+n);rw[xel];exact Segs.append.mpr ⟨lo,sg3,rfl,hn1,up3,rfl⟩
   | some p =>
    obtain ⟨s1,n1,p1⟩:=p;dsimp only;refine xbd (xee (xcz (I:=fun _ c st'=>c=(none,())/\B κ a₀ st'/\Segs R (arrOf st') 0 (pendingOf st').toList lo/\UpA R (arrOf st') lo (lo+n)) (Q:=fun c st'=>c=(none,())/\B κ a₀ st'/\Segs R (arrOf st') 0 (pendingOf st').toList lo/\UpA R (arrOf st') lo (lo+n)) ?_ (fun _ _ hh=>hh) ⟨rfl,b3,sg3,up3⟩) ?_)
    ·rintro x' c st4 _ _ ⟨rfl,b4,sg4,up4⟩;refine xbd (xfz ?_);by_cases hs:(pendingOf st4).size > 1
     ·rw[if_pos hs,getElem?_pos (pendingOf st4) ((pendingOf st4).size - 2) (by lia)];obtain ⟨s2,n2,p2⟩:=(pendingOf st4)[(pendingOf st4).size - 2]'(by lia);dsimp only;split
      ·exact xbf ⟨rfl,b4,sg4,up4⟩
      ·refine xbd (w_at O b4 sg4 hlo (by lia) fun st5 b5 sg5 _ k5=>?_);exact xbf ⟨rfl,b5,sg5,up4.same fun i a1 a2=>k5 i a1⟩
     ·rw[if_neg hs];exact xbf ⟨rfl,b4,sg4,up4⟩
    ·rintro c st4 ⟨rfl,b4,sg4,up4⟩;dsimp only;refine xbd (xff (xbd (xff (xbf ⟨lo+n,rfl,⟨b4.perm,b4.kind,b4.failed⟩,?_,hn2,by lia⟩))));refine (?_:Segs R (arrOf st4) 0 (((pendingOf st4).modify ((pendingOf st4).size - 1) fun x=>(x.1,x.2.1,_)).push (lo,n,0)).toList (lo+n));rw[xel,Array.toList_modify];exact Segs.append.mpr ⟨lo,sg4.mod _ _,rfl,hn1,up4,rfl⟩
  ·rw[if_neg c2];have b3:=b2;have sg3:=sg2;have up3:=up2;have hn1:=m1;have hn2:lo+m<=a₀.size:=by lia
   generalize st2=st3 at b3 sg3 up3 ⊢;generalize m=n at up3 hn1 hn2 ⊢;refine xbd (xfz ?_);cases hb:(pendingOf st3).back? with
   | none =>
    dsimp only;refine xbd (xff (xbf ⟨lo+n,rfl,⟨b3.perm,b3.kind,b3.failed⟩,?_,hn2,by lia⟩));show Segs R (arrOf st3) 0 ((pendingOf st3).push (lo,n,0)).toList (lo+n);rw[xel];exact Segs.append.mpr ⟨lo,sg3,rfl,hn1,up3,rfl⟩
   | some p =>
    obtain ⟨s1,n1,p1⟩:=p;dsimp only;refine xbd (xee (xcz (I:=fun _ c st'=>c=(none,())/\B κ a₀ st'/\Segs R (arrOf st') 0 (pendingOf st').toList lo/\UpA R (arrOf st') lo (lo+n)) (Q:=fun c st'=>c=(none,())/\B κ a₀ st'/\Segs R (arrOf st') 0 (pendingOf st').toList lo/\UpA R (arrOf st') lo (lo+n)) ?_ (fun _ _ hh=>hh) ⟨rfl,b3,sg3,up3⟩) ?_)
    ·rintro x' c st4 _ _ ⟨rfl,b4,sg4,up4⟩;refine xbd (xfz ?_);by_cases hs:(pendingOf st4).size > 1
     ·rw[if_pos hs,getElem?_pos (pendingOf st4) ((pendingOf st4).size - 2) (by lia)];obtain ⟨s2,n2,p2⟩:=(pendingOf st4)[(pendingOf st4).size - 2]'(by lia);dsimp only;split
      ·exact xbf ⟨rfl,b4,sg4,up4⟩
      ·refine xbd (w_at O b4 sg4 hlo (by lia) fun st5 b5 sg5 _ k5=>?_);exact xbf ⟨rfl,b5,sg5,up4.same fun i a1 a2=>k5 i a1⟩
     ·rw[if_neg hs];exact xbf ⟨rfl,b4,sg4,up4⟩
    ·rintro c st4 ⟨rfl,b4,sg4,up4⟩;dsimp only;refine xbd (xff (xbd (xff (xbf ⟨lo+n,rfl,⟨b4.perm,b4.kind,b4.failed⟩,?_,hn2,by lia⟩))));refine (?_:Segs R (arrOf st4) 0 (((pendingOf st4).modify ((pendingOf st4).size - 1) fun x=>(x.1,x.2.1,_)).push (lo,n,0)).toList (lo+n));rw[xel,Array.toList_modify];exact Segs.append.mpr ⟨lo,sg4.mod _ _,rfl,hn1,up4,rfl⟩
 ·rintro c st1 ⟨lo,rfl,b1,sg1,hlo,hx⟩;have:lo=a₀.size:=by lia
  subst this;exact ⟨rfl,b1,sg1⟩
 ·rintro c st1 ⟨rfl,b1,sg1⟩;dsimp only
  refine xbd (xee (xcz (I:=fun x c st'=>c=(none,())/\B κ a₀ st'/\Segs R (arrOf st') 0 (pendingOf st').toList a₀.size/\(pendingOf st').size+x<=a₀.size)
   (Q:=fun c st'=>c=(none,())/\B κ a₀ st'/\Segs R (arrOf st') 0 (pendingOf st').toList a₀.size/\(pendingOf st').size<=1) ?_ ?_ ⟨rfl,b1,sg1,by have:=sg1.le;simp at this;lia⟩) ?_)
  ·rintro x c st2 x1 x2 ⟨rfl,b2,sg2,hp⟩;refine xbd (xfz ?_);by_cases c1:(pendingOf st2).size<=1
   ·rw[if_pos c1];exact xbf ⟨rfl,b2,sg2,c1⟩
   rw[if_neg c1];refine xbd (w_at O b2 sg2 (xbg _) ?_ fun st3 b3 sg3 p3 _=>xbf ⟨rfl,b3,sg3,by lia⟩);exact zwy (by lia) (by lia)
  ·rintro c st2 ⟨rfl,b2,sg2,hp⟩;exact ⟨rfl,b2,sg2,by lia⟩
  ·rintro c st2 ⟨rfl,b2,sg2,hp⟩;refine xbf (h st2 b2 ?_);cases hl:(pendingOf st2).toList with
   | nil=>rw[hl] at sg2;have:0=a₀.size:=sg2;lia
   | cons p r =>
    have:r=[]:=by
     have e2:(pendingOf st2).size=(pendingOf st2).toList.length:=by simp
     rw[e2,hl,xcn] at hp;exact List.length_eq_zero_iff.mp (by lia)
    subst this;rw[hl] at sg2;obtain ⟨_,_,g3,g4⟩:=sg2;have g4':0+p.2.1=a₀.size:=g4;rw[g4'] at g3;exact g3
end
end TS
namespace Srt
open PySem PySem.W PyProof.Rows
theorem ziu {α β:Type} (f:α->β):∀{l m':List β},l.Perm m'->∀m:List α,m'=m.map f->∃p:List α,p.Perm m/\l=p.map f:=by
 intro l m' h
 induction h with
 | nil=>exact fun m e=>⟨[],by rw[List.map_eq_nil_iff.mp e.symm],rfl⟩
 | cons x _ ih =>
  intro m e;cases m with
  | nil=>cases e
  | cons y m =>
   rw[xcd] at e;injection e with e1 e2
   obtain ⟨p,p1,p2⟩:=ih m e2;exact ⟨y::p,p1.cons y,by rw[xcd,← p2,e1]⟩
 | swap x y l =>
  intro m e
  match m,e with
  | a::b::m,e =>
   rw[xcd,xcd] at e;injection e with e1 e2
   injection e2 with e2 e3
   exact ⟨b::a::m,.swap _ _ _,by rw[xcd,xcd,e1,e2,e3]⟩
 | trans _ _ ih1 ih2 =>
  intro m e;obtain ⟨p,p1,p2⟩:=ih2 m e;obtain ⟨q,q1,q2⟩:=ih1 p p2;exact ⟨q,q1.trans p1,q2⟩
noncomputable def Coh (r:Nat->Nat) (xs:List Value):Prop:=∀i j,i < xs.length->j < xs.length->xs.getD i Value.none=xs.getD j Value.none->r i=r j
open Classical in
noncomputable def rankV (r:Nat->Nat) (xs:List Value) (x:Keyed):Nat:=if h:∃i,i < xs.length/\xs.getD i Value.none=x.1 then r h.choose else 0
theorem zhb {r:Nat->Nat} {xs:List Value} (coh:Coh r xs) {x:Keyed} {i:Nat} (hi:i < xs.length) (e:xs.getD i Value.none=x.1):rankV r xs x=r i:=by
 have h:∃i,i < xs.length/\xs.getD i Value.none=x.1:=⟨i,hi,e⟩
 unfold rankV;rw[dif_pos h];exact coh _ _ h.choose_spec.1 hi (h.choose_spec.2.trans e.symm)
theorem zjd (xs:List Value):(xs.toArray.zip xs.toArray).toList=(List.range xs.length).map fun i=>((xs.getD i Value.none,xs.getD i Value.none):Keyed):=by
 rw[Array.toList_zip];apply List.ext_getElem
 ·simp
 ·intro i h1 h2;have h3:i < xs.length:=by simpa using h2
  simp[xcy,h3]
section
variable {P:Program} {w:World} {B:Around} {E:Value->Shared->Prop} {st:Shared}
theorem zpj {r:Nat->Nat} {xs:List Value} {κ:SortKind} {sg:Shared} (h2:2<=xs.length) (coh:Coh r xs)
  (cmp:∀i j C,i < xs.length->j < xs.length->C (lt r i j) sg->kas_ask P w B κ xs i j C sg) :
  wpAny (model P w) B ((sortRuns').run (SortSt.mk' κ (xs.toArray.zip xs.toArray) #[] 7 none)) (fun y z=>∃p:Array Nat,(p.Perm (List.toArray (List.range xs.length))/\Up r p xs.length)/\(arrOf y.2).map (·.2)=outOf xs p/\failedOf y.2=none/\z=sg) E sg:=by
 have sz:(xs.toArray.zip xs.toArray).size=xs.length:=by simp
 have O:TS.Orc P w B sg κ (xs.toArray.zip xs.toArray) (rankV r xs):=fun x hx y hy C hC=>by
  rw[zjd] at hx hy;obtain ⟨i,hi,rfl⟩:=xfg.mp hx;obtain ⟨j,hj,rfl⟩:=xfg.mp hy;rw[xde] at hi hj;rw[zhb coh hi rfl,zhb coh hj rfl] at hC;exact cmp i j C hi hj hC
 have run:=TS.zvn (E:=E) (Q:=fun _ y=>∃p:Array Nat,(p.Perm (List.toArray (List.range xs.length))/\Up r p xs.length)/\(arrOf y).map (·.2)=outOf xs p/\failedOf y=none) O (st:=SortSt.mk' κ (xs.toArray.zip xs.toArray) #[] 7 none) ⟨.refl _,rfl,rfl⟩ rfl (by rw[sz];exact h2) fun y b up=>by
  obtain ⟨l,l1,l2⟩:=ziu (fun i=>((xs.getD i Value.none,xs.getD i Value.none):Keyed)) (xep.mp b.perm) _ (zjd xs);have ll:l.length=xs.length:=by rw[l1.length_eq,xho]
  have mem:∀k,(hk:k < l.length)->l[k] < xs.length:=fun k hk=>xde.mp (l1.mem_iff.mp (xed hk))
  have key:∀k,k < xs.length->TS.kA (rankV r xs) (arrOf y) k=At r l.toArray k:=fun k hk=>by
   have hk':k < l.length:=by lia
   have e:(arrOf y)[k]?=some (xs.getD l[k] Value.none,xs.getD l[k] Value.none):=by
    rw[← xce,l2,xcg,xbi hk']
    rfl
   rw[TS.zby e,zhb coh (mem k hk') rfl];unfold At;simp[hk']
  refine ⟨l.toArray,⟨?_,fun i j hij hj=>?_⟩,?_,b.failed⟩
  ·exact xep.mpr (by simpa using l1)
  ·rw[← key i (by lia),← key j hj];exact up i j (xdh _) hij (by rw[sz];exact hj)
  ·unfold outOf;apply Array.toList_inj.mp;rw[Array.toList_map,l2,xfr]
   rfl
 exact xdi run (fun y z hz=>by
  obtain ⟨rfl,p,a,b,c⟩:=hz
  exact ⟨p,a,b,c,rfl⟩) fun _ _ x=>x
theorem zgd (r : Nat -> Nat) {d : Addr} {xs : List Value} {k : Nat} {W : Fin -> Shared -> Prop} (e0 : st.heap.get? d = some (seqObj "list" xs.toArray k)) (few : xs.length <= sizeLine) (coh : Coh r xs)
  (ask:2<=xs.length->Answers P w B r xs {st with heap:=midHeap st.heap d xs})
  (fin:∀p:Array Nat,p.Perm (List.toArray (List.range xs.length))->Up r p xs.length->W (.done (.ret .none)) {st with heap:=sortedHeap st.heap d xs (outOf xs p)}) :
  wpAny (model P w) B (Builtin.«list.sort» ⟨[.ref d],[]⟩) W E st:=by
 obtain ⟨c, ec⟩ : ∃ c, (st.heap.update d (Obj.mapSeq fun _ => (#[] : Array Value))).get? d = some (seqObj "list" #[] c) := ⟨_, get?_update_seq e0 fun _ => #[]⟩
 have em : (midHeap st.heap d xs).get? d = some (seqObj "list" #[] c) := xbe _ (xbe _ ec)
 have szs:xs.toArray.size=xs.length:=xbt;rw[list_sort_plain];refine xba (listItems_at e0 rfl (xba (listUpdate_at e0 rfl (xba (seqEpoch_at ec rfl (xba (wpAny_newTuple (xba (wpAny_newList (xef ?_) (xdh _))) (few))))) (by rw[szs];exact few) (xdh _))));show wpAny (model P w) B _ W E {st with heap:=midHeap st.heap d xs};dsimp only;by_cases two:xs.toArray.size < 2
 ·rw[if_pos two,if_pos two];rw[szs] at two;have eo:((arrOf (SortSt.mk' general' (xs.toArray.zip xs.toArray) #[] 7 none)).map (·.2))=outOf xs (List.toArray (List.range xs.length)):=zll two
  refine xba (xbl (by
   rw[StateT.run_pure];refine xba (xbl (xba (seqEpoch_at em rfl (xba (listUpdate_at em rfl ?_ (xdh _) ?_)))))
   ·rw[if_neg (by simp)];refine xbl ?_;rw[eo];exact fin _ (.refl _) fun i j hij hj=>xcs (congrArg (At r _) (by lia))
   ·rw[eo];refine xfn (xbb (xcs ?_) (few));unfold outOf
    simp))
 ·rw[if_neg two,if_neg two];rw[szs] at two;obtain ⟨κ,kd,cmp⟩:=ask (by lia);refine xba (xdi (kd (fun κ' z=>κ'=κ/\z={st with heap:=midHeap st.heap d xs}) ⟨rfl,rfl⟩) (fun κ' z hz=>?_) fun _ _ x=>x.elim);obtain ⟨rfl,rfl⟩:=hz;have run:=zpj (E:=E) (r:=r) (xs:=xs) (κ:=κ') (sg:={st with heap:=midHeap st.heap d xs}) (by lia) coh cmp;refine xba (xdi run (fun yy z hz=>?_) fun _ _ x=>x);obtain ⟨⟨⟩,y⟩:=yy;obtain ⟨p,hp,ho,hf,rfl⟩:=hz;dsimp only at ho hf ⊢;refine xba (seqEpoch_at em rfl (xba (listUpdate_at em rfl ?_ (xdh _) ?_)))
  ·rw[hf,if_neg (by simp),ho];exact xbl (fin p hp.1 hp.2)
  ·rw[ho];refine xfn (xbb (xcs ?_) (few));unfold outOf;rw[xbt,xbk,xbz,hp.1.size_eq];simp
theorem zgx (r:Nat->Nat) {d:Addr} {xs:List Value} {W:Value->Shared->Prop} (isl:st.heap.IsList d xs.toArray) (few:xs.length<=sizeLine) (coh:Coh r xs)
  (ask:2<=xs.length->∀g:Heap,(∀b ob,st.heap.get? b=some ob->g.get? b=some ob)->Answers P w B.in1.in1 r xs {st with heap:=g})
  (fin:∀p:Array Nat,p.Perm (List.toArray (List.range xs.length))->Up r p xs.length->W (.ref (st.heap.objs.size+1)) {st with heap:=sortedAll st.heap xs (outOf xs p)}) :
  wpAny (model P w) B (call (.builtin "sorted") [.ref d]) W E st := by
 let g0 : Heap := (st.heap.push (seqObj "list" #[] 0)).update st.heap.objs.size (Obj.mapSeq (· ++ xs.toArray))
 have sz:g0.objs.size=st.heap.objs.size+1:=(Heap.size_update ..).trans (size_push' _ _);have new : (g0.push (seqObj "list" xs.toArray 0)).get? (st.heap.objs.size + 1) = some (seqObj "list" xs.toArray 0) := by
  have z := xbr g0 (o := seqObj "list" xs.toArray 0) rfl
  rw[sz] at z;exact z
 have old : ∀ b ob, st.heap.get? b = some ob -> (g0.push (seqObj "list" xs.toArray 0)).get? b = some ob := fun b ob e => by
  have lt:=xbh e;exact xbe _ ((Heap.get?_update_ne _ _ _ _ (xbu lt)).trans (xbe _ e))
 have ar : argsOk "sorted" ⟨[.ref d], []⟩ := args_sorted1 _
 refine Calls.call_function_entry kind_sorted plain_sorted entry_sorted ar ?_;unfold Builtin.«sorted»;refine xba (m := checkCount "sorted" 1 1 _) (xbl (xba (collect_list isl (xba (wpAny_newList ?_ (few))) (few))))
 show wpAny _ _ _ _ _ { st with heap := g0.push (seqObj "list" xs.toArray 0) }
 have esz:(Value.ref g0.objs.size)=Value.ref (st.heap.objs.size+1):=by rw[sz]
 rw [show ((st.heap.push (seqObj "list" #[] 0)).update st.heap.objs.size (Obj.mapSeq (· ++ xs.toArray))).objs.size = st.heap.objs.size + 1 from sz]
 refine xba (xef (xfu slot_list_sort ⟨_, new, rfl⟩ entry_list_sort (zgd r (st := { st with heap := g0.push (seqObj "list" xs.toArray 0) }) new few coh (fun two => ?_) fun p p1 p2 => ⟨_, rfl, xbl ⟨_, rfl, fin p p1 p2⟩⟩) (args_list_sort _)))
 exact ask two _ fun b ob e=>zfd (xbu (xgh (xbh e))) (old b ob e)
theorem zit {T:String} {a d:Addr} {n:Nat} {It:Nat->Value->Prop} {OK:Heap->Prop} (S:KdlSrc P w T a d n It OK) (hh:B.handled=none) (ok:OK st.heap) (few:n<=sizeLine) {W:Value->Shared->Prop}
  (ask:∀xs:List Value,xs.length=n->(∀(j:Nat) (v:Value),xs[j]?=some v->It j v)->∃r:Nat->Nat,Coh r xs/\(2<=n->∀(g:Heap) (tk:Nat),(∀b ob,st.heap.get? b=some ob->g.get? b=some ob)->Answers P w B.in1.in1 r xs {st with heap:=g,toks:=tk}) /\
   ∀ (p : Array Nat) (q : Addr) (g : Heap) (tk c : Nat), p.Perm (List.toArray (List.range xs.length)) -> Up r p xs.length -> (∀ b ob, st.heap.get? b = some ob -> g.get? b = some ob) -> (∀ b ob, st.heap.get? b = some ob -> b ≠ q) -> g.get? q = some (seqObj "list" (outOf xs p) c) -> W (.ref q) { st with heap := g, toks := tk }) :
  wpAny (model P w) B (call (.builtin "sorted") [.ref a]) W E st := by
 have ar : argsOk "sorted" ⟨[.ref a], []⟩ := args_sorted1 _
 refine Calls.call_function_entry kind_sorted plain_sorted entry_sorted ar ?_;unfold Builtin.«sorted»;refine xba (m := checkCount "sorted" 1 1 _) (xbl (xba (kdu_collect (A := B.in1) S hh ok (few) fun g tk acc keep items => ?_)))
 have len:acc.toList.length=n:=by rw[xbz];exact items.1
 obtain ⟨r,coh,an,fin⟩:=ask acc.toList len (fun j v e=>items.2 j v (by rw[← xce];exact e));refine xba (wpAny_newList ?_ (by rw[len];exact few));have new : (g.push (seqObj "list" acc.toList.toArray 0)).get? g.objs.size = some (seqObj "list" acc.toList.toArray 0) := xbr g rfl
 have old : ∀ b ob, st.heap.get? b = some ob -> (g.push (seqObj "list" acc.toList.toArray 0)).get? b = some ob := fun b ob e => xbe _ (keep b ob e)
 have lt:∀b ob,st.heap.get? b=some ob->b≠g.objs.size:=fun b ob e=>xbu (xbh (keep b ob e))
 show wpAny _ _ _ _ _ { st with heap := g.push (seqObj "list" acc.toList.toArray 0), toks := tk }
 refine xba (xef (xfu slot_list_sort ⟨_, new, rfl⟩ entry_list_sort (zgd r (st := { st with heap := g.push (seqObj "list" acc.toList.toArray 0), toks := tk }) new (by rw [len]; exact few) coh (fun two => ?_) fun p p1 p2 => ⟨_, rfl, xbl ⟨_, rfl, ?_⟩⟩) (args_list_sort _)))
 ·exact an (by lia) _ tk fun b ob e=>zfd (lt b ob e) (old b ob e)
 ·obtain ⟨c,ec⟩:=sortedHeap_at (n:=0) (vs:=acc.toList) (out:=outOf acc.toList p) new;refine fin p g.objs.size _ tk c p1 p2 (fun b ob e=>?_) ?_ ec
  ·rw[sortedHeap_old (lt b ob e) (xbh (old b ob e))];exact old b ob e
  ·exact lt
end
end Srt
namespace L2
open PySem PySem.Spec PyProof.Rows PySem.W
theorem small10000 {n:Nat} (h:n<=1000000):n<=sizeLine:=xbb h (by rw[xgu];lia)
theorem zfg:∀{us:List Value} {a b:List Int},IntsAre us a->IntsAre us b->a=b
 | _,_,_,.nil,.nil=>rfl
 | _,_,_,.cons x t r,.cons _ _ r'=>by rw[zfg r r']
theorem zkr {g:Heap} {ps:List (Addr × List Int)} (tup:TupsG g ps):Srt.Coh (Srt.rank (ps.map (·.2))) (ps.map fun p=>Value.ref p.1):=fun i j hi hj e=>by
 rw[xbk] at hi hj;have ei:ps[i]?=some ps[i]:=xbi hi;have ej:ps[j]?=some ps[j]:=xbi hj;rw[zh (fun p:Addr × List Int=>Value.ref p.1) _ ei,zh (fun p:Addr × List Int=>Value.ref p.1) _ ej] at e;injection e with e
 obtain ⟨us,o,n,a1,a2,a3,a4⟩:=tup _ (xed hi);obtain ⟨us2,o2,n2,b1,b2,b3,b4⟩:=tup _ (xed hj);rw[e,b2] at a2;injection a2 with a2
 subst a2;rw[b4] at a4;injection a4 with a4 _
 have a5:us2=us:=by simpa using a4
 subst a5;have d:=zfg a1 b1;unfold Srt.rank;rw[zh (fun p:Addr × List Int=>p.2) _ ei,zh (fun p:Addr × List Int=>p.2) _ ej,d]
noncomputable def rSortedAL (K:Fg):List V->Hp->VK->Prop:=fun xs H Q=>∃(l:Addr) (ps:List (Addr × List Int)),xs=[.ref l]/\SqL K H l (ps.map fun p=>V.ref p.1)/\ps.length<=1000000/\TupsAt K H ps /\
 ∀(q:Addr) (qs:List (Addr × List Int)),H q=none->qs.Perm ps->(qs.map (·.2)).Pairwise (fun a b=>HT.lexLt b a=false)->Q (.ref q) (upd H q (.lst (qs.map fun p=>V.ref p.1)))
noncomputable def rSortedDAL:List V->Hp->VK->Prop:=fun xs H Q=>∃(a:Addr) (kvs:List (List Key × V)) (ks:List (List Int)),xs=[.ref a]/\Rd H a (.dT kvs)/\kvs.map (·.1)=ks.map (fun ns=>ns.map Sum.inl)/\ks.length<=1000000 /\
 ∀(q:Addr) (qs:List (Addr × List Int)),H q=none->(qs.map (·.2)).Perm ks->(qs.map (·.2)).Pairwise (fun x y=>HT.lexLt y x=false)->(∀p∈qs,H p.1=some (.tup (p.2.map V.int)))->Q (.ref q) (upd H q (.lst (qs.map fun p=>V.ref p.1)))
section
variable {X:Cx}
theorem zgr (hu : X.A.units + 64 < cLine) : CallR X (.builtin "sorted") (rSortedAL X.K) := by
 intro pins s σ H xs us Q I r h;obtain ⟨l,ps,rfl,hl,h64,ht,q⟩:=h;obtain ⟨u,rfl,ru⟩:=vals1 r;cases ru;obtain ⟨its,rv,pl,hz⟩:=I.list hl;have eits:its=ps.map fun p=>Value.ref p.1:=by
  have e:(ps.map fun p=>V.ref p.1)=(ps.map (·.1)).map V.ref:=by rw[xfr];rfl
  rw[e] at rv;rw[zho rv,xfr]
  rfl
 subst eits;have tup:∀g:Heap,(∀b o,s.heap.get? b=some o->g.get? b=some o)->TupsG g ps:=fun g keep p hp=>by
  obtain ⟨us,rv',⟨o,b2,b3,n,b4⟩,_⟩:=I.tuple (ht p hp);exact ⟨us,o,n,zcy rv',keep _ _ b2,b3,b4⟩
 refine Srt.zgx (Srt.rank (ps.map (·.2))) pl.isList (by rw[xbk];exact small10000 h64) (zkr (tup s.heap fun _ _ z=>z)) (fun h2 g keep=>zoc (by show X.A.units+1+1 < cLine;lia) (by rw[xbk] at h2;exact h2) (tup g keep)) (fun p p1 p2=>?_);rw[xbk] at p1 p2;obtain ⟨qs,q1,q2,q3⟩:=zju p1 p2;obtain ⟨e,he⟩:=sortedAll_at s.heap (ps.map fun p=>Value.ref p.1) (Srt.outOf (ps.map fun p=>Value.ref p.1) p);rw[q3] at he ⊢;refine ⟨.ref (s.heap.objs.size+1),_,I.laid (a:=s.heap.objs.size+1) (o:=.lst (qs.map fun p=>V.ref p.1)) (t':=s.toks) (fun _ _ z=>sortedAll_old z) (Nat.le_succ _) ⟨?_,_,e,zdw qs,he⟩,rfl,q _ _ (I.hok.fresh (Nat.le_succ _)) q1 q2⟩;rw[xbk,q1.length_eq];exact small10000 (by lia)
theorem zfy (hc : X.calm = true) (hu : X.A.units + 64 < cLine) : CallR X (.builtin "sorted") rSortedDAL := by
 intro pins s σ H xs us Q I r h;obtain ⟨a,kvs,ks,rfl,hd,ek,few,q⟩:=h;obtain ⟨u,rfl,ru⟩:=vals1 r;cases ru;obtain ⟨z,ns,ys,rel,ob,es,ep,e1,e2,e3,e4,e5⟩:=(show ObjOk X.prog X.w H s.heap a (.dT kvs) from hd.ok I.hok)
 obtain ⟨ps,a1,a2,a3⟩:=zko (P:=X.prog) (w:=X.w) rel ek;have hpl:ps.length=ks.length:=by rw[← a1,xbk]
 have hes:es.toList.map (·.key)=ps.map fun p=>Value.ref p.1:=by rw[e4,xfr];exact a3
 have hsz:es.size=ps.length:=by
  have:=congrArg List.length hes;rw[xbk,xbk,xbz] at this;exact this
 have tup:∀g:Heap,(∀b o,s.heap.get? b=some o->g.get? b=some o)->TupsG g ps:=fun g keep p hp=>by
  obtain ⟨us,rv,⟨o,b2,b3,n,b4⟩,_⟩:=I.tuple (SqT.of (a2 p hp));exact ⟨us,o,n,zcy rv,keep _ _ b2,b3,b4⟩
 refine Srt.zit (Dct.zrw ns es ep) (I.ok.hd hc) ⟨ob,e1,e2,e3⟩ (small10000 (by lia)) fun vs hl hv=>?_
 have evs:vs=ps.map fun p=>Value.ref p.1:=by
  rw[← hes];apply xhn;intro i;by_cases hi:i < es.size
  ·have h1:vs[i]?=some vs[i]:=xbi (by lia);obtain ⟨en,h2,h3⟩:=hv i _ h1;rw[h1,h3,xcg,xce,h2]
   rfl
  ·rw[xfl (by lia),xfl (by rw[xbk,xbz];lia)]
 subst evs;refine ⟨Srt.rank (ps.map (·.2)),zkr (tup s.heap fun _ _ z=>z),fun h2 g tk keep=>zoc (by show X.A.units+1+1 < cLine;lia) (by lia) (tup g keep),fun p t g tk c p1 p2 keep ne eg=>?_⟩;rw[xbk] at p1 p2;obtain ⟨qs,q1,q2,q3⟩:=zju p1 p2;rw[q3] at eg;refine ⟨.ref t,_,I.laidN (o:=.lst (qs.map fun p=>V.ref p.1)) keep ne ⟨?_,_,c,zdw qs,eg⟩,rfl,q t qs (I.away ne) ((q1.map _).trans (by rw[a1])) q2 fun p hp=>a2 p (q1.mem_iff.mp hp)⟩;rw[xbk,q1.length_eq];exact small10000 (by lia)
end
end L2
namespace L2
open PySem PySem.Spec PyProof.Rows
section
variable {prog:Program} {w:World} {κ:Type} [DecidableEq κ] {knd:HeapKind prog w κ} {A:Around} {E:Value->Shared->Prop} {s:Shared} {d a:Addr} {k:κ} {xs:List (κ × Addr × Value)} {p:Addr × Value}
end
section
variable {X:Cx} {pins:List (Addr × Obj)} {σ:St} {H:Hp} {s:Shared} {a b:Addr} {kvs:List (List Key × V)} {k:List Key}
end
section
variable {X:Cx} {o e:Expr} {apos cpos:Pos} {td ty:TE}
end
noncomputable def rCatA (K:Fg):R2:=fun x y H Q=>∃a b xs ys,x=.ref a/\y=.ref b/\SqT K H a xs/\SqT K H b ys/\xs.length+ys.length<=sizeLine /\
 (xs=[]->Q (.ref b) H)/\(xs≠[]->ys=[]->Q (.ref a) H)/\(xs≠[]->ys≠[]->∀p,H p=none->Q (.ref p) (upd H p (.tup (xs++ys))))
section
variable {X:Cx}
theorem zso:OpR X (binaryOp .Add) (rCatA X.K):=by
 intro pins s σ H x y v u Q I rx ry h;obtain ⟨a,b,xs,ys,rfl,rfl,ha,hb,hz,q0,q1,q2⟩:=h;by_cases hx:xs=[]
 ·cases rx;cases ry;obtain ⟨its,r1,p1,_⟩:=I.tuple ha;obtain ⟨its2,r2,p2,_⟩:=I.tuple hb;obtain ⟨⟨cls,dd,data,sl⟩,ho,hc,n,hd⟩:=id p1;obtain ⟨⟨cls2,dd2,data2,sl2⟩,ho2,hc2,n2,hd2⟩:=id p2;simp only at hc hd hc2 hd2;subst hc hd hc2 hd2;have e:its=[]:=r1.nil_iff.mpr hx;exact concat_meets ⟨_,ho,rfl⟩ ⟨_,ho2,rfl⟩ noFill_tuple_add seq_tuple_add xhr xhj (xhe _ _)
   (tuple_addW0 a b its.toArray its2.toArray n n2 dd dd2 sl sl2 (by simp[e])) ⟨ho,ho2,⟨.ref b,H,I,rfl,q0 hx⟩⟩
 ·exact zsn pins s σ H _ _ v u Q I rx ry ⟨a,b,xs,ys,rfl,rfl,ha,hb,hx,hz,fun z=>q1 hx z,fun z=>q2 hx z⟩
end
section
variable {prog:Program} {w:World} {A:Around} {E:Value->Shared->Prop} {s:Shared}
end
theorem zfc (ns:List Int):∀k,k<=ns.length->preSum (fun i=>ns.getD i 0) k=(ns.take k).sum
 | 0,_=>rfl
 | k+1,h=>by
  show preSum (fun i=>ns.getD i 0) k+ns.getD k 0=_;rw[zfc ns k (by lia),xfs (by lia),List.sum_append,xcy,xbi (by lia)];simp
theorem zki:∀{ns:List Int} {us:List Value} {i:Nat} {v:Value},Vals (ns.map V.int) us->us[i]?=some v->∃t,v=.int (ns.getD i 0) t
 | [],_,_,_,.nil,e=>by simp at e
 | n::ns,_,0,_,.cons r _,e=>by
  simp at e;subst e
  obtain ⟨t,rfl⟩:=r;exact ⟨t,rfl⟩
 | n::ns,_,i+1,v,.cons _ t,e=>by
  have:=zki (i:=i) t (by simpa using e)
  simpa using this
noncomputable def rSum (K:Fg):List V->Hp->VK->Prop:=fun xs H Q=>∃(a:Addr) (ns:List Int),xs=[.ref a]/\(SqL K H a (ns.map V.int)\/SqT K H a (ns.map V.int))/\Q (.int ns.sum) H
theorem zik {X : Cx} (hc : X.calm = true) : CallR X (.builtin "sum") (rSum X.K) := by
 intro pins s σ H xs us Q I r h;obtain ⟨a,ns,rfl,hs,q⟩:=h;obtain ⟨u,rfl,ru⟩:=vals1 r;cases ru;have key:∀{its:List Value} (h':Heap) (tk:Nat) (t':Tok) (nn:Nat),nn=ns.length->(∀b o,b≠s.heap.objs.size->s.heap.get? b=some o->h'.get? b=some o) ->
   EP X pins σ Q (.int (preSum (fun i=>ns.getD i 0) nn) t') {s with heap:=h',toks:=tk}:=fun h' tk t' nn hn hk=>by
  subst hn;rw[zfc ns _ (xbg _),xhu];exact ⟨.int ns.sum,H,I.kept (t':=tk) fun b o e=>hk b o (xbu (xbh e)) e,⟨_,rfl⟩,q⟩
 refine call_sum_walkG ?_;rcases hs with hs | hs
 ·obtain ⟨its,rv,pl,hz⟩:=I.list hs;have hlt:a < s.heap.objs.size:=by obtain ⟨o,n,e,_⟩:=pl;exact xbh e
  have hl:=rv.length;rw[xbk] at hl;refine xhp pl.isList ?_;refine ⟨s.heap.objs.size,_,[s.heap.objs.size],_,_,_,fun i=>ns.getD i 0,rfl,Walks.list (A:=X.A.in1) (I.ok.hd hc) _ a (xbu hlt) its.toArray,⟨⟨_,xbr _ rfl,rfl,rfl⟩,pl.isList.push _⟩,?_,fun i v e=>zki rv (by simpa using e),fun h' tk t' hk=>?_⟩
  ·intro b hb;show b < (s.heap.push _).objs.size;rw[show ∀o:Obj,(s.heap.push o).objs.size=s.heap.objs.size+1 from fun o=>by simp[Heap.push]];rcases xcc.mp hb with rfl | hb
   ·exact xiu _
   ·rcases xcc.mp hb with rfl | hb
    ·exact xgh hlt
    ·cases hb
  ·exact key (its:=its) h' tk t' _ (by simp[hl]) fun b o hb e=>hk b o (by simpa using hb) (xbe _ e)
 ·obtain ⟨its,rv,pl,hz⟩:=I.tuple hs;have hlt:a < s.heap.objs.size:=pl.lt;have hl:=rv.length;rw[xbk] at hl;have pt:s.heap.IsTuple a its.toArray:=pl;refine wpAny_pyIter_tuple pt ?_;refine ⟨s.heap.objs.size,_,[s.heap.objs.size],_,_,_,fun i=>ns.getD i 0,rfl,Walks.tuple (A:=X.A.in1) (I.ok.hd hc) _ a (xbu hlt) its.toArray,⟨⟨_,xbr _ rfl,rfl,rfl⟩,pt.push _⟩,?_,fun i v e=>zki rv (by simpa using e),fun h' tk t' hk=>?_⟩
  ·intro b hb;show b < (s.heap.push _).objs.size;rw[show ∀o:Obj,(s.heap.push o).objs.size=s.heap.objs.size+1 from fun o=>by simp[Heap.push]];rcases xcc.mp hb with rfl | hb
   ·exact xiu _
   ·rcases xcc.mp hb with rfl | hb
    ·exact xgh hlt
    ·cases hb
  ·exact key (its:=its) h' tk t' _ (by simp[hl]) fun b o hb e=>hk b o (by simpa using hb) (xbe _ e)
section
variable {X:Cx} {pins:List (Addr × Obj)} {σ:St} {H:Hp} {s:Shared} {h':Heap}
end
section
variable {X:Cx}
end
noncomputable def bestI (gt:Bool) (n:Int) (ns:List Int):Int:=ns.foldl (fun i j=>if (if gt then decide (j > i) else decide (j < i))=true then j else i) n
section
variable {X:Cx}
end
section
variable {prog:Program} {w:World} {A:Around} {E:Value->Shared->Prop} {s:Shared} {z TI TO i1 i2 t1 t2:Addr} {xs ys:Array Value} {j:Nat}
end
section
variable {prog:Program} {w:World} {A:Around} {E:Value->Shared->Prop} {s:Shared} {z TI TO i1 i2 t1 t2:Addr} {xs ys:Array Value} {j:Nat}
end
section
variable {prog:Program} {w:World} {A:Around} {E:Value->Shared->Prop} {s:Shared}
end
section
variable {X:Cx}
end
end L2
namespace Dd
open PySem L2
set_option genInjectivity true in
inductive D where
 | non | bl (b:Bool) | int (i:Int) | str (x:Str) | ty (n:String) | ref (n:Nat) | tup (ds:List D) | lst (ds:List D) | scr (ds:List D) | exn (c:Str) (l:List Int)
set_option genInjectivity true in
inductive O where
 /-- a list that may change;a dict by tuples of ints;one that is only read;gone -/
 | lst (xs:List D) | dT (kvs:List (List Int × D)) | fT (kvs:List (List Int × D)) | dead
 /-- the law's table of codes -/
 | tab
noncomputable abbrev Store:=List O
structure Exc where
 cls:Str
 at_:List Int
set_option genInjectivity true in
inductive Res (α:Type) where
 | ok (a:α) (st:Store) | exc (x:Exc) (st:Store) | stuck
noncomputable def Res.bind {α β:Type}:Res α->(α->Store->Res β)->Res β
 | .ok a st,f=>f a st
 | .exc x st,_=>.exc x st
 | .stuck,_=>.stuck
@[simp] theorem zfj {α β:Type} (a:α) (st:Store) (f:α->Store->Res β):(Res.ok a st).bind f=f a st:=rfl
@[simp] theorem zyv {α β:Type} (x:Exc) (st:Store) (f:α->Store->Res β):(Res.exc x st:Res α).bind f=.exc x st:=rfl
@[simp] theorem zus {α β:Type} (f:α->Store->Res β):(Res.stuck:Res α).bind f=.stuck:=rfl
theorem zb {α β:Type} {r:Res α} {f:α->Store->Res β} {b:β} {st':Store} (h:r.bind f=.ok b st'):∃a st,r=.ok a st/\f a st=.ok b st':=by
 cases r with
 | ok a st=>exact ⟨a,st,rfl,h⟩
 | exc x st=>cases h
 | stuck=>cases h
noncomputable abbrev DS:=List (Option D)
noncomputable abbrev SE:=DS->Store->Res D
noncomputable abbrev ST:=DS->Store->Res Bool
noncomputable abbrev SA:=DS->Store->Res (List D)
set_option genInjectivity true in
inductive Fl where
 | nx (σ:DS) | ret (v:D) | brk (σ:DS) | ct (σ:DS)
noncomputable abbrev SS:=DS->Store->Res Fl
noncomputable abbrev DFn:=List D->Store->Res D
structure Loc where
 m:List (Option Addr)
 g:List Addr
noncomputable def Out (ρ:Loc) (a:Addr):Prop:=some a∉ρ.m/\a∉ρ.g
noncomputable def Ls (K:Fg) (ρ:Loc) (H:Hp) (a:Addr) (vs:List V):Prop:=(Rd H a (.lst vs)/\Out ρ a)\/∀H':Hp,SqL K H' a vs
noncomputable def XAt (K:Fg) (ρ:Loc) (H:Hp) (c:Str) (l:List Int) (a:Addr):Prop:=∃C o,PySem.W.nsIn K mainGlobals c=some (some (.ref C))/\(H a=some (.frz o (.ext fun _=>True))/\Out ρ a)/\o.cls=.ref C/\(∃vs,o.data=.fields vs/\vs[2]?=some .none) /\
 ((l = [] /\ o.dict = none) \/ ∃ i dx od, l = [i] /\ o.dict = some dx /\ H dx = some (.frz od (.xd [("at", .int i)])) /\ Out ρ dx)
theorem XAt.map {K:Fg} {ρ ρ':Loc} {H H':Hp} {c:Str} {l:List Int} {a:Addr} (h:XAt K ρ H c l a) (f:∀b ob u,H b=some (.frz ob u)->Out ρ b->H' b=some (.frz ob u)/\Out ρ' b):XAt K ρ' H' c l a:=by
 obtain ⟨C,o,h1,h2,h3,h4,h5⟩:=h;refine ⟨C,o,h1,f _ _ _ h2.1 h2.2,h3,h4,?_⟩;rcases h5 with h5 | ⟨i,dx,od,h6,h7,h8,h9⟩
 ·exact .inl h5
 ·exact .inr ⟨i,dx,od,h6,h7,(f _ _ _ h8 h9).1,(f _ _ _ h8 h9).2⟩
mutual
inductive At (K:Fg) (ρ:Loc) (H:Hp):D->V->Prop
 | non:At K ρ H .non .non
 | bl (b:Bool):At K ρ H (.bl b) (.bl b)
 | int (i:Int):At K ρ H (.int i) (.int i)
 | str (x:Str):At K ρ H (.str x) (.str x)
 | ty (n:String):At K ρ H (.ty n) (.ty n)
 | ref {n:Nat} {v:V}:n < ρ.m.length->(∀a,ρ.m[n]?=some (some a)->v=.ref a)->At K ρ H (.ref n) v
 | tup {a:Addr} {ds:List D} {vs:List V}:H a=some (.tup vs)->Out ρ a->AtAll K ρ H ds vs->At K ρ H (.tup ds) (.ref a)
 | lst {a:Addr} {ds:List D} {vs:List V}:H a=some (.lst vs)->Out ρ a->AtAll K ρ H ds vs->At K ρ H (.lst ds) (.ref a)
 | scr {a:Addr} {ds:List D} {vs:List V}:Ls K ρ H a vs->AtAll K ρ H ds vs->At K ρ H (.scr ds) (.ref a)
 | exn {c:Str} {l:List Int} {a:Addr}:XAt K ρ H c l a->At K ρ H (.exn c l) (.ref a)
inductive AtAll (K:Fg) (ρ:Loc) (H:Hp):List D->List V->Prop
 | nil:AtAll K ρ H [] []
 | cons {d:D} {ds:List D} {v:V} {vs:List V}:At K ρ H d v->AtAll K ρ H ds vs->AtAll K ρ H (d::ds) (v::vs)
end
structure Mv (ρ:Loc) (H:Hp) (ρ':Loc) (H':Hp):Prop where
 out:∀{a:Addr} {o:HO},H a=some o->Out ρ a->H' a=some o/\Out ρ' a
 len:ρ.m.length<=ρ'.m.length
 old:∀(n:Nat) (a:Addr),n < ρ.m.length->ρ'.m[n]?=some (some a)->ρ.m[n]?=some (some a)
theorem Ls.mv {K:Fg} {ρ ρ':Loc} {H H':Hp} {a:Addr} {vs:List V} (x:Mv ρ H ρ' H') (h:Ls K ρ H a vs):Ls K ρ' H' a vs:=by
 rcases h with ⟨h | ⟨o,h⟩,n⟩ | h
 ·exact .inl ⟨.inl (x.out h n).1,(x.out h n).2⟩
 ·exact .inl ⟨.inr ⟨o,(x.out h n).1⟩,(x.out h n).2⟩
 ·exact .inr h
theorem At.mv {K:Fg} {ρ ρ':Loc} {H H':Hp} (x:Mv ρ H ρ' H') {d:D} {v:V} (h:At K ρ H d v):At K ρ' H' d v :=
 At.rec (motive_1:=fun d v _=>At K ρ' H' d v) (motive_2:=fun d v _=>AtAll K ρ' H' d v) .non .bl .int .str .ty (fun h e=>.ref (xbc h x.len) fun a q=>e a (x.old _ a h q)) (fun h n _ ih=>.tup (x.out h n).1 (x.out h n).2 ih) (fun h n _ ih=>.lst (x.out h n).1 (x.out h n).2 ih) (fun h _ ih=>.scr (h.mv x) ih) (fun h=>.exn (h.map fun _ _ _ e n=>x.out e n)) .nil (fun _ _ a b=>.cons a b) h
theorem AtAll.mv {K:Fg} {ρ ρ':Loc} {H H':Hp} (x:Mv ρ H ρ' H') {d:List D} {v:List V} (h:AtAll K ρ H d v):AtAll K ρ' H' d v :=
 AtAll.rec (motive_1:=fun _ _ _=>True) (motive_2:=fun d v _=>AtAll K ρ' H' d v) trivial (fun _=>trivial) (fun _=>trivial) (fun _=>trivial) (fun _=>trivial) (fun _ _=>trivial) (fun _ _ _ _=>trivial) (fun _ _ _ _=>trivial) (fun _ _ _=>trivial) (fun _=>trivial) .nil (fun a _ _ b=>.cons (a.mv x) b) h
structure Ext (ρ:Loc) (H:Hp) (ρ':Loc) (H':Hp):Prop where
 len:ρ.m.length<=ρ'.m.length
 old:∀(n:Nat) (a:Addr),n < ρ.m.length->ρ'.m[n]?=some (some a)->ρ.m[n]?=some (some a)
 keep:∀a o,H a=some o->some a∉ρ.m->H' a=some o/\some a∉ρ'.m
 gho:ρ'.g=ρ.g
 frz:∀a ob u,H a=some (.frz ob u)->H' a=some (.frz ob u)
theorem Ext.out {ρ ρ':Loc} {H H':Hp} (x:Ext ρ H ρ' H') {a:Addr} {o:HO} (h:H a=some o) (n:Out ρ a):H' a=some o/\Out ρ' a :=
 ⟨(x.keep a o h n.1).1,(x.keep a o h n.1).2,by rw[x.gho];exact n.2⟩
theorem Ext.mv {ρ ρ':Loc} {H H':Hp} (x:Ext ρ H ρ' H'):Mv ρ H ρ' H':=⟨fun h n=>x.out h n,x.len,x.old⟩
theorem Ls.sq {K:Fg} {ρ:Loc} {H:Hp} {a:Addr} {vs:List V} (h:Ls K ρ H a vs):SqL K H a vs:=by
 rcases h with h | h
 ·exact .inl h.1
 ·exact h H
section
variable {K:Fg}
theorem Ext.refl (ρ:Loc) (H:Hp):Ext ρ H ρ H:=⟨xbg _,fun _ _ _ e=>e,fun _ _ e n=>⟨e,n⟩,rfl,fun _ _ _ e=>e⟩
theorem Ext.trans {ρ ρ1 ρ2:Loc} {H H1 H2:Hp} (a:Ext ρ H ρ1 H1) (b:Ext ρ1 H1 ρ2 H2):Ext ρ H ρ2 H2 :=
 ⟨xbb a.len b.len,fun n c h e=>a.old n c h (b.old n c (xbc h a.len) e),fun c o e n=>by
  obtain ⟨e1,n1⟩:=a.keep c o e n
  exact b.keep c o e1 n1,b.gho.trans a.gho,fun c ob u e=>b.frz c ob u (a.frz c ob u e)⟩
theorem At.ext {ρ ρ':Loc} {H H':Hp} (x:Ext ρ H ρ' H') {d:D} {v:V} (h:At K ρ H d v):At K ρ' H' d v:=h.mv x.mv
theorem AtAll.ext {ρ ρ':Loc} {H H':Hp} (x:Ext ρ H ρ' H') {d:List D} {v:List V} (h:AtAll K ρ H d v):AtAll K ρ' H' d v:=h.mv x.mv
theorem AtAll.length {ρ:Loc} {H:Hp}:∀{ds:List D} {vs:List V},AtAll K ρ H ds vs->vs.length=ds.length
 | _,_,.nil=>rfl
 | _,_,.cons _ t=>by rw[xcn,xcn,AtAll.length t]
theorem AtAll.get {ρ:Loc} {H:Hp}:∀{ds:List D} {vs:List V} {i:Nat} {d:D},AtAll K ρ H ds vs->ds[i]?=some d->∃v,vs[i]?=some v/\At K ρ H d v
 | _,_,_,_,.nil,e=>by simp at e
 | _,_,0,_,.cons a _,e=>by simp at e;subst e;exact ⟨_,rfl,a⟩
 | _,_,i+1,d,.cons _ t,e=>by
  obtain ⟨u,h1,h2⟩:=AtAll.get (i:=i) (d:=d) t (by simpa using e);exact ⟨u,by simpa using h1,h2⟩
theorem AtAll.append {ρ:Loc} {H:Hp}:∀{ds es:List D} {vs us:List V},AtAll K ρ H ds vs->AtAll K ρ H es us->AtAll K ρ H (ds++es) (vs++us)
 | _,_,_,_,.nil,b=>b
 | _,_,_,_,.cons a t,b=>.cons a (AtAll.append t b)
theorem AtAll.set {ρ:Loc} {H:Hp} {d:D} {v:V} (a:At K ρ H d v):∀{ds:List D} {vs:List V} (n:Nat),AtAll K ρ H ds vs->AtAll K ρ H (ds.set n d) (vs.set n v)
 | _,_,_,.nil=>.nil
 | _,_,0,.cons _ t=>.cons a t
 | _,_,n+1,.cons b t=>.cons b (AtAll.set a n t)
noncomputable def KvAt (K:Fg) (ρ:Loc) (H:Hp):List (List Int × D)->List (List Key × V)->Prop:=Paired fun p q=>q.1=p.1.map Sum.inl/\At K ρ H p.2 q.2
theorem KvAt.ext {ρ ρ':Loc} {H H':Hp} (x:Ext ρ H ρ' H') {a:List (List Int × D)} {b:List (List Key × V)} (h:KvAt K ρ H a b):KvAt K ρ' H' a b:=Paired.mapP h fun p q z=>⟨z.1,z.2.ext x⟩
noncomputable abbrev lamQ : Str := (("law" : Str) ++ ".<locals>.") ++ "<lambda>"
noncomputable def TabOk (H:Hp) (ps:Array Value):Prop:=TriplesOk ps.toList/\∀pos cv,codeAmong pos ps.toList=some cv->∃c oc vs t,cv=.ref c/\H c=some (.frz oc (.ext fun _=>True))/\oc.data=.fields vs/\vs[1]?=some (.str lamQ t)
theorem TabOk.map {H H':Hp} {ps:Array Value} (h:TabOk H ps) (f:∀b ob u,H b=some (.frz ob u)->H' b=some (.frz ob u)):TabOk H' ps :=
 ⟨h.1,fun pos cv e=>by obtain ⟨c,oc,vs,t,e1,e2,e3⟩:=h.2 pos cv e;exact ⟨c,oc,vs,t,e1,f _ _ _ e2,e3⟩⟩
noncomputable def OAt (K:Fg) (ρ:Loc) (H:Hp):O->Addr->Prop
 | .lst xs,a=>∃vs,H a=some (.lst vs)/\AtAll K ρ H xs vs
 | .dT kvs,a=>∃vs,H a=some (.dT vs)/\KvAt K ρ H kvs vs
 | .fT kvs,a=>∃vs ob,H a=some (.frz ob (.dT vs))/\KvAt K ρ H kvs vs
 | .dead,_=>False
 | .tab, a => (∃ c, PySem.W.tabIn K "law" = some (c, a)) /\ ∃ ps, H a = some (.tbl ps) /\ TabOk H ps
structure Rep (K:Fg) (ρ:Loc) (st:Store) (H:Hp):Prop where
 len:ρ.m.length=st.length
 inj:∀(n m:Nat) (a:Addr),ρ.m[n]?=some (some a)->ρ.m[m]?=some (some a)->n=m
 obj:∀(n:Nat) (a:Addr) (o:O),ρ.m[n]?=some (some a)->st[n]?=some o->OAt K ρ H o a
 gh:∀a∈ρ.g,(∃vs,H a=some (.lst vs))/\some a∉ρ.m
 live:∀(n:Nat) (o:O),st[n]?=some o->o≠.dead->∃a,ρ.m[n]?=some (some a)
noncomputable def AtO (K:Fg) (ρ:Loc) (H:Hp) (o:Option D) (v:Option V):Prop:=∀d,o=some d->∃u,v=some u/\At K ρ H d u
noncomputable abbrev AtS (K:Fg) (ρ:Loc) (H:Hp):DS->St->Prop:=Paired (AtO K ρ H)
theorem AtS.ext {ρ ρ':Loc} {H H':Hp} (x:Ext ρ H ρ' H') {σ:DS} {τ:St} (h:AtS K ρ H σ τ):AtS K ρ' H' σ τ:=Paired.mapP h fun o v z d e=>by
 obtain ⟨u,e1,a⟩:=z d e;exact ⟨u,e1,a.ext x⟩
theorem AtS.get {ρ:Loc} {H:Hp}:∀{σ:DS} {τ:St} {i:Nat} {d:D},AtS K ρ H σ τ->σ[i]?=some (some d)->∃u,τ[i]?=some (some u)/\At K ρ H d u
 | _,_,_,_,.nil,e=>by simp at e
 | _,_,0,_,.cons a _,e=>by
  simp at e;subst e
  obtain ⟨u,e1,h⟩:=a _ rfl;exact ⟨u,by simp[e1],h⟩
 | _,_,i+1,d,.cons _ t,e=>by
  obtain ⟨u,h1,h2⟩:=AtS.get (i:=i) (d:=d) t (by simpa using e);exact ⟨u,by simpa using h1,h2⟩
theorem AtS.set {ρ:Loc} {H:Hp} {d:D} {v:V} (a:At K ρ H d v):∀{σ:DS} {τ:St} (i:Nat),AtS K ρ H σ τ->AtS K ρ H (σ.set i (some d)) (τ.set i (some v))
 | _,_,_,.nil=>.nil
 | _,_,0,.cons _ t=>.cons (fun d' e=>by cases e;exact ⟨v,rfl,a⟩) t
 | _,_,i+1,.cons q t=>.cons q (AtS.set a i t)
end
noncomputable def tD (K:Fg) (f:SE):TE:=fun τ H Q=>∃ρ σ st v st',AtS K ρ H σ τ/\Rep K ρ st H/\f σ st=.ok v st'/\∀ρ' H' u,Ext ρ H ρ' H'->Rep K ρ' st' H'->At K ρ' H' v u->Q u H'
noncomputable def tDT (K:Fg) (f:ST):TT:=fun τ H Q=>∃ρ σ st v st',AtS K ρ H σ τ/\Rep K ρ st H/\f σ st=.ok v st'/\∀ρ' H',Ext ρ H ρ' H'->Rep K ρ' st' H'->Q v H'
noncomputable def tDA (K:Fg) (f:SA):TA:=fun τ H Q=>∃ρ σ st v st',AtS K ρ H σ τ/\Rep K ρ st H/\f σ st=.ok v st'/\∀ρ' H' u,Ext ρ H ρ' H'->Rep K ρ' st' H'->AtAll K ρ' H' v u->Q u H'
noncomputable def FlOk (K:Fg) (ρ:Loc) (H:Hp) (st':Store) (E:Ends):Fl->Prop
 | .nx σ=>∀ρ' H' τ,Ext ρ H ρ' H'->Rep K ρ' st' H'->AtS K ρ' H' σ τ->E.nx τ H'
 | .brk σ=>∀ρ' H' τ,Ext ρ H ρ' H'->Rep K ρ' st' H'->AtS K ρ' H' σ τ->E.bk τ H'
 | .ct σ=>∀ρ' H' τ,Ext ρ H ρ' H'->Rep K ρ' st' H'->AtS K ρ' H' σ τ->E.ct τ H'
 | .ret v=>∀ρ' H' u,Ext ρ H ρ' H'->Rep K ρ' st' H'->At K ρ' H' v u->E.rt u H'
theorem FlOk.ext {K:Fg} {ρ ρ1:Loc} {H H1:Hp} {st':Store} {E:Ends} {fl:Fl} (x:Ext ρ H ρ1 H1) (h:FlOk K ρ H st' E fl):FlOk K ρ1 H1 st' E fl:=by
 cases fl with
 | nx σ=>exact fun ρ' H' τ e=>h ρ' H' τ (x.trans e)
 | brk σ=>exact fun ρ' H' τ e=>h ρ' H' τ (x.trans e)
 | ct σ=>exact fun ρ' H' τ e=>h ρ' H' τ (x.trans e)
 | ret v=>exact fun ρ' H' τ e=>h ρ' H' τ (x.trans e)
noncomputable def tDS (K:Fg) (f:SS):TS:=fun E τ H=>∃ρ σ st fl st',AtS K ρ H σ τ/\Rep K ρ st H/\f σ st=.ok fl st'/\FlOk K ρ H st' E fl
noncomputable abbrev DE (X:Cx) (e:Expr) (f:SE):Prop:=PE X e (tD X.K f)
noncomputable abbrev DT (X:Cx) (e:Expr) (f:ST):Prop:=PT X e (tDT X.K f)
noncomputable abbrev DW (X:Cx) (e:Expr) (f:ST):Prop:=PW X e (tDT X.K f)
noncomputable abbrev DA (X:Cx) (es:List Expr) (f:SA):Prop:=PA X es (tDA X.K f)
noncomputable abbrev DSt (X:Cx) (s:Stmt) (f:SS):Prop:=PS X s (tDS X.K f)
noncomputable abbrev DSs (X:Cx) (s:List Stmt) (f:SS):Prop:=PSs X s (tDS X.K f)
section
variable {X:Cx} {e:Expr} {es:List Expr} {s:Stmt} {ss:List Stmt}
theorem zdr {t t':TE} (h:PE X e t) (k:∀σ H Q,t' σ H Q->t σ H Q):PE X e t':=fun pins s σ H Q I q=>h pins s σ H Q I (k _ _ _ q)
theorem zve {t t':TT} (h:PT X e t) (k:∀σ H Q,t' σ H Q->t σ H Q):PT X e t':=fun pins s σ H Q I q=>h pins s σ H Q I (k _ _ _ q)
theorem pw_to {t t':TT} (h:PW X e t) (k:∀σ H Q,t' σ H Q->t σ H Q):PW X e t':=fun wh pins s σ H Q I q=>h wh pins s σ H Q I (k _ _ _ q)
theorem zzs {t t':TA} (h:PA X es t) (k:∀σ H Q,t' σ H Q->t σ H Q):PA X es t':=fun pos pins s σ H Q I q=>h pos pins s σ H Q I (k _ _ _ q)
theorem zjc {t t':TS} (h:PS X s t) (k:∀E σ H,t' E σ H->t E σ H):PS X s t':=fun pins z σ H E I q=>h pins z σ H E I (k _ _ _ q)
theorem zjr {t t':TS} (h:PSs X ss t) (k:∀E σ H,t' E σ H->t E σ H):PSs X ss t':=fun pins z σ H E I q=>h pins z σ H E I (k _ _ _ q)
end
noncomputable def eVar (i:Nat):SE:=fun σ st=>match σ[i]? with
 | some (some d)=>.ok d st
 | _=>.stuck
noncomputable def eC (d:D):SE:=fun _ st=>.ok d st
section
variable {X:Cx}
theorem zbbl {e:Expr} {i:Nat} (h:PE X e (tVar i)):DE X e (eVar i):=zdr h fun τ H Q hq0=>by
 obtain ⟨ρ,σ,st,v,st',a,r,e,q⟩:=hq0;unfold eVar at e;split at e
 ·rename_i d hd;cases e;obtain ⟨u,e1,e2⟩:=a.get hd;exact ⟨u,e1,q ρ H u (.refl _ _) r e2⟩
 ·cases e
theorem zua {e:Expr} {v:V} {d:D} (h:PE X e (tC v)) (k:∀ρ H,At X.K ρ H d v):DE X e (eC d):=zdr h fun τ H Q hq0=>by
 obtain ⟨ρ,σ,st,v,st',a,r,e,q⟩:=hq0;cases e;exact q ρ H _ (.refl _ _) r (k _ _)
theorem zbbt {i j pos}:DE X (.Constant (.int i) j pos) (eC (.int i)):=zua zwp fun _ _=>.int i
theorem d_bl {b j pos}:DE X (.Constant (.bool b) j pos) (eC (.bl b)):=zua zbaq fun _ _=>.bl b
theorem zbbq {j pos}:DE X (.Constant .none j pos) (eC .non):=zua zwn fun _ _=>.non
theorem zbbn {x j pos}:DE X (.Constant (.str x) j pos) (eC (.str x)):=zua zwk fun _ _=>.str x
end
noncomputable def eOp (g:D->D->Store->Res D) (f f':SE):SE:=fun σ st=>(f σ st).bind fun x st1=>(f' σ st1).bind fun y st2=>g x y st2
noncomputable def eUn (g:D->Store->Res D) (f:SE):SE:=fun σ st=>(f σ st).bind fun x st1=>g x st1
noncomputable def OpD (K:Fg) (g:D->D->Store->Res D) (r:R2):Prop :=
 ∀ρ H st x y u v z st' (Q:VK),Rep K ρ st H->At K ρ H x u->At K ρ H y v->g x y st=.ok z st'->(∀ρ' H' w,Ext ρ H ρ' H'->Rep K ρ' st' H'->At K ρ' H' z w->Q w H')->r u v H Q
theorem zvg {K:Fg} {g:D->D->Store->Res D} {r:R2} (hr:OpD K g r) {f f':SE}:∀τ H Q,tD K (eOp g f f') τ H Q->tOp r (tD K f) (tD K f') τ H Q:=fun τ H Q hq0=>by
 obtain ⟨ρ,σ,st,v,st',a,rp,e,q⟩:=hq0;obtain ⟨x,st1,e1,e⟩:=zb e;obtain ⟨y,st2,e2,e⟩:=zb e;refine ⟨ρ,σ,st,x,st1,a,rp,e1,fun ρ1 H1 u x1 rp1 a1=>?_⟩;refine ⟨ρ1,σ,st1,y,st2,a.ext x1,rp1,e2,fun ρ2 H2 w x2 rp2 a2=>?_⟩;exact hr ρ2 H2 st2 x y u w v st' Q rp2 (a1.ext x2) a2 e fun ρ' H' z x3 rp3 a3=>q ρ' H' z (x1.trans (x2.trans x3)) rp3 a3
section
variable {X:Cx} {a b c:Expr} {f f' f'':SE} {pos:Pos}
theorem d_op {op:Operator} {r:R2} {g:D->D->Store->Res D} (ho:OpR X (binaryOp op) r) (hr:OpD X.K g r) (ha:DE X a f) (hb:DE X b f'):DE X (.BinOp a op b pos) (eOp g f f'):=zdr (zbao ho ha hb) (zvg hr)
theorem zbbu {op:CmpOp} {r:R2} {g:D->D->Store->Res D} (ho:OpR X (compareOp op) r) (hr:OpD X.K g r) (ha:DE X a f) (hb:DE X b f') (hm:behindInMarks op b=false):DE X (.Compare a [op] [b] pos) (eOp g f f'):=zdr (zsk ho ha hb hm) (zvg hr)
noncomputable def eB (f:SE):ST:=fun σ st=>(f σ st).bind fun v st1=>match v with
 | .bl b=>.ok b st1
 | _=>.stuck
theorem eB_t {K:Fg} {f:SE}:∀τ H Q,tDT K (eB f) τ H Q->tD K f τ H fun x H1=>∃c,x=.bl c/\Q c H1:=fun τ H Q hq0=>by
 obtain ⟨ρ,σ,st,v,st',a,rp,e,q⟩:=hq0;obtain ⟨x,st1,e1,e⟩:=zb e;refine ⟨ρ,σ,st,x,st1,a,rp,e1,fun ρ1 H1 u x1 rp1 a1=>?_⟩;cases x<;>try (cases e;done)
 cases e;cases a1;exact ⟨_,rfl,q _ _ x1 rp1⟩
theorem zxz {op:CmpOp} {r:R2} {g:D->D->Store->Res D} (ho:OpR X (compareOp op) r) (hr:OpD X.K g r) (ha:DE X a f) (hb:DE X b f') (hm:behindInMarks op b=false):DT X (.Compare a [op] [b] pos) (eB (eOp g f f')) :=
 zve (zry ho ha hb hm) fun τ H Q h=>zvg hr _ _ _ (eB_t _ _ _ h)
noncomputable def eChain (g g':D->D->Store->Res D) (f f' f'':SE):SE:=fun σ st=>(f σ st).bind fun x st1=>(f' σ st1).bind fun y st2=>(g x y st2).bind fun z st3=>match z with
 | .bl true=>(f'' σ st3).bind fun w st4=>g' y w st4
 | .bl false=>.ok (.bl false) st3
 | _=>.stuck
theorem znz {K:Fg} {g g':D->D->Store->Res D} {r r':R2} (hr:OpD K g r) (hr':OpD K g' r') {f f' f'':SE}:∀τ H Q,tD K (eChain g g' f f' f'') τ H Q->tChain r r' (tD K f) (tD K f') (tD K f'') τ H Q:=fun τ H Q hq0=>by
 obtain ⟨ρ,σ,st,v,st',a,rp,e,q⟩:=hq0;obtain ⟨x,st1,e1,e⟩:=zb e;obtain ⟨y,st2,e2,e⟩:=zb e;obtain ⟨z,st3,e3,e⟩:=zb e;refine ⟨ρ,σ,st,x,st1,a,rp,e1,fun ρ1 H1 u x1 rp1 a1=>?_⟩;refine ⟨ρ1,σ,st1,y,st2,a.ext x1,rp1,e2,fun ρ2 H2 w x2 rp2 a2=>?_⟩;refine hr ρ2 H2 st2 x y u w z st3 _ rp2 (a1.ext x2) a2 e3 fun ρ3 H3 zz x3 rp3 a3=>?_
 have X3:=x1.trans (x2.trans x3);cases z<;>try (cases e;done)
 rename_i b;cases a3;refine ⟨b,rfl,?_⟩;cases b with
 | true =>
  obtain ⟨t,st4,e4,e⟩:=zb e;rw[if_pos rfl];refine ⟨ρ3,σ,st3,t,st4,a.ext X3,rp3,e4,fun ρ4 H4 tt x4 rp4 a4=>?_⟩;exact hr' ρ4 H4 st4 y t w tt v st' Q rp4 (a2.ext (x3.trans x4)) a4 e fun ρ' H' zz x5 rp5 a5=>q ρ' H' zz (X3.trans (x4.trans x5)) rp5 a5
 | false =>
  cases e;rw[if_neg (by decide)];exact q ρ3 H3 _ X3 rp3 (.bl false)
end
end Dd
namespace Dd
open PySem L2
section
variable {K:Fg} {ρ:Loc} {st:Store} {H:Hp} {p a:Addr} {o:HO} {n:Nat}
theorem Ext.new (hp:H p=none) (o:HO):Ext ρ H ρ (upd H p o):=⟨xbg _,fun _ _ _ e=>e,fun b u e m=>⟨by rw[zi (ze e hp)];exact e,m⟩,rfl,fun b ob u e=>by rw[zi (ze e hp)];exact e⟩
theorem zcc {vs:List V} (h:H a=some (.lst vs)):∀ob u,H a≠some (.frz ob u):=fun ob u z=>by rw[h] at z;cases z
theorem Ext.wr (h:ρ.m[n]?=some (some a)) (hz:∀ob u,H a≠some (.frz ob u)) (o:HO):Ext ρ H ρ (upd H a o):=⟨xbg _,fun _ _ _ e=>e,fun b u e m=>⟨by
 rw[zi]
 ·exact e
 ·rintro rfl
  exact m (xcx h),m⟩,rfl,fun b ob u e=>by
 rw[zi]
 ·exact e
 ·rintro rfl
  exact hz _ _ e⟩
theorem OAt.has {x:O} (h:OAt K ρ H x a):∃u,H a=some u:=by
 cases x with
 | lst xs=>obtain ⟨vs,e,_⟩:=h;exact ⟨_,e⟩
 | dT kvs=>obtain ⟨vs,e,_⟩:=h;exact ⟨_,e⟩
 | fT kvs=>obtain ⟨vs,ob,e,_⟩:=h;exact ⟨_,e⟩
 | dead=>exact h.elim
 | tab=>obtain ⟨_,ps,e,_⟩:=h;exact ⟨_,e⟩
theorem OAt.ext {ρ':Loc} {H':Hp} {x:O} (e:Ext ρ H ρ' H') (same:H' a=H a) (h:OAt K ρ H x a):OAt K ρ' H' x a:=by
 cases x with
 | lst xs=>obtain ⟨vs,q,r⟩:=h;exact ⟨vs,by rw[same];exact q,r.ext e⟩
 | dT kvs=>obtain ⟨vs,q,r⟩:=h;exact ⟨vs,by rw[same];exact q,r.ext e⟩
 | fT kvs=>obtain ⟨vs,ob,q,r⟩:=h;exact ⟨vs,ob,by rw[same];exact q,r.ext e⟩
 | dead=>exact h.elim
 | tab=>obtain ⟨c,ps,q,r⟩:=h;exact ⟨c,ps,by rw[same];exact q,r.map e.frz⟩
theorem Rep.has (r:Rep K ρ st H) (h:ρ.m[n]?=some (some a)):∃x,st[n]?=some x/\OAt K ρ H x a:=by
 have hn:n < st.length:=by rw[← r.len];exact (xbn.mp h).1
 exact ⟨st[n],xbi hn,r.obj n a _ h (xbi hn)⟩
theorem Rep.new (r:Rep K ρ st H) (hp:H p=none) (o:HO):Rep K ρ st (upd H p o):=⟨r.len,r.inj,fun m b x e1 e2=>by
 have q:=r.obj m b x e1 e2;obtain ⟨u,hu⟩:=q.has;exact q.ext (Ext.new hp o) (zi (ze hu hp)),fun b hb=>by
 obtain ⟨⟨u,hu⟩,n⟩:=r.gh b hb
 exact ⟨⟨u,by rw[zi (ze hu hp)];exact hu⟩,n⟩,r.live⟩
theorem Rep.wr (r:Rep K ρ st H) (h:ρ.m[n]?=some (some a)) (hz:∀ob u,H a≠some (.frz ob u)) {x:O} {o:HO} (q:OAt K ρ (upd H a o) x a):Rep K ρ (st.set n x) (upd H a o):=⟨by rw[r.len,xex],r.inj,fun m b y e1 e2=>by
 by_cases hm:m=n
 ·subst hm;have hb:b=a:=by rw[h] at e1;exact (xca (xca e1)).symm
  subst hb;have hl:m < st.length:=by rw[← r.len];exact (xbn.mp h).1
  rw[xdj hl] at e2;cases e2;exact q
 ·rw[xcw (xeg hm)] at e2;refine (r.obj m b y e1 e2).ext (Ext.wr h hz o) (zi fun z=>hm ?_);subst z;exact r.inj m n b e1 h,fun b hb=>by
 obtain ⟨⟨u,hu⟩,n1⟩:=r.gh b hb;refine ⟨⟨u,?_⟩,n1⟩;rw[zi]
 ·exact hu
 ·rintro rfl;exact n1 (xcx h),fun m y e ne=>by
 by_cases hm:m=n
 ·subst hm;exact ⟨a,h⟩
 ·rw[xcw (xeg hm)] at e
  exact r.live m y e ne⟩
theorem Rep.alloc (r:Rep K ρ st H) (hp:H p=none) {x:O} {o:HO} (q:Ext ρ H ⟨ρ.m++[some p],ρ.g⟩ (upd H p o)->OAt K ⟨ρ.m++[some p],ρ.g⟩ (upd H p o) x p):Ext ρ H ⟨ρ.m++[some p],ρ.g⟩ (upd H p o)/\Rep K ⟨ρ.m++[some p],ρ.g⟩ (st++[x]) (upd H p o):=by
 have hn:∀(m:Nat) (b:Addr),(ρ.m++[some p])[m]?=some (some b)->(m < ρ.m.length/\ρ.m[m]?=some (some b))\/(m=ρ.m.length/\b=p):=fun m b e=>by
  rcases xec m ρ.m.length with z | z
  ·rw[xby z] at e;exact .inl ⟨z,e⟩
  ·rw[xbq z] at e;have z2:m - ρ.m.length=0:=by
    have:=(xbn.mp e).1;simp at this;lia
   rw[z2] at e;simp at e;exact .inr ⟨by lia,e.symm⟩
 have nl:∀(m:Nat),ρ.m[m]?≠some (some p):=fun m e=>by
  obtain ⟨x,_,q⟩:=r.has e;obtain ⟨u,hu⟩:=q.has;rw[hp] at hu;cases hu
 have E:Ext ρ H ⟨ρ.m++[some p],ρ.g⟩ (upd H p o):=⟨by rw[xbx];lia,fun m b h e=>by
   rw[xby h] at e;exact e,fun b u e m=>⟨by rw[zi (ze e hp)];exact e,fun z=>by
   rcases xco.mp z with z | z
   ·exact m z
   ·simp at z;subst z;rw[hp] at e;cases e⟩,rfl,fun b ob u e=>by rw[zi (ze e hp)];exact e⟩
 refine ⟨E,⟨by rw[xbx,xbx,r.len];rfl,fun m k b e1 e2=>?_,fun m b y e1 e2=>?_,fun b hb=>?_,fun m y e ne=>?_⟩⟩
 ·rcases hn m b e1 with ⟨h1,q1⟩ | ⟨h1,rfl⟩
  ·rcases hn k b e2 with ⟨h2,q2⟩ | ⟨h2,rfl⟩
   ·exact r.inj m k b q1 q2
   ·exact absurd q1 (nl m)
  ·rcases hn k b e2 with ⟨h2,q2⟩ | ⟨h2,_⟩
   ·exact absurd q2 (nl k)
   ·lia
 ·rcases hn m b e1 with ⟨h1,q1⟩ | ⟨h1,rfl⟩
  ·rw[xby (by rw[← r.len];exact h1)] at e2;have q:=r.obj m b y q1 e2;obtain ⟨u,hu⟩:=q.has;exact q.ext E (zi (ze hu hp))
  ·rw[h1,r.len,xbq (xbg _)] at e2;simp at e2;subst e2;exact q E
 ·obtain ⟨⟨u,hu⟩,n1⟩:=r.gh b hb;refine ⟨⟨u,by rw[zi (ze hu hp)];exact hu⟩,fun z=>?_⟩;rcases xco.mp z with z | z
  ·exact n1 z
  ·simp at z;subst z;rw[hp] at hu;cases hu
 ·rcases xec m st.length with z | z
  ·rw[xby z] at e;obtain ⟨b,hb⟩:=r.live m y e ne;exact ⟨b,by rw[xby (by rw[r.len];exact z)];exact hb⟩
  ·have z2:=(xbn.mp e).1;simp at z2;have z3:m=ρ.m.length:=by rw[r.len];lia
   exact ⟨p,by rw[z3,xbq (xbg _)];simp⟩
theorem Rep.kill (r:Rep K ρ st H) (h:n < ρ.m.length):Ext ρ H ⟨ρ.m.set n none,ρ.g⟩ H/\Rep K ⟨ρ.m.set n none,ρ.g⟩ (st.set n .dead) H:=by
 have hn:∀(m:Nat) (b:Addr),(ρ.m.set n none)[m]?=some (some b)->m≠n/\ρ.m[m]?=some (some b):=fun m b e=>by
  by_cases z:m=n
  ·subst z;rw[xdj h] at e;simp at e
  ·rw[xcw (xeg z)] at e;exact ⟨z,e⟩
 have E:Ext ρ H ⟨ρ.m.set n none,ρ.g⟩ H:=⟨by rw[xex];exact xbg _,fun m b _ e=>(hn m b e).2,fun b o e m=>⟨e,fun z=>by
  obtain ⟨i,hi,e2⟩:=xdx z;have:(ρ.m.set n none)[i]?=some (some b):=by rw[xbi hi,e2]
  exact m (xcx (hn i b this).2)⟩,rfl,fun _ _ _ e=>e⟩
 refine ⟨E,⟨by rw[xex,xex,r.len],fun m k b e1 e2=>r.inj m k b (hn m b e1).2 (hn k b e2).2,fun m b y e1 e2=>?_,fun b hb=>⟨(r.gh b hb).1,fun z=>?_⟩,fun m y e ne=>?_⟩⟩
 rotate_left
 ·obtain ⟨i,hi,e2⟩:=xdx z;have:(ρ.m.set n none)[i]?=some (some b):=by rw[xbi hi,e2]
  exact (r.gh b hb).2 (xcx (hn i b this).2)
 ·have z:m≠n:=by
   rintro rfl;rw[xdj (by rw[← r.len];exact h)] at e;cases e;exact ne rfl
  rw[xcw (xeg z)] at e;obtain ⟨b,hb⟩:=r.live m y e ne;exact ⟨b,by rw[xcw (xeg z)];exact hb⟩
 obtain ⟨z,q⟩:=hn m b e1;rw[xcw (xeg z)] at e2;exact (r.obj m b y q e2).ext E rfl
theorem zdu (r:Rep K ρ st H) (hp:H p=none):Out ρ p:=by
 refine ⟨fun z=>?_,fun z=>?_⟩
 ·obtain ⟨i,hi,e⟩:=xdx z;obtain ⟨x,_,q⟩:=r.has (n:=i) (a:=p) (by rw[xbi hi,e]);obtain ⟨u,hu⟩:=q.has;rw[hp] at hu;cases hu
 ·obtain ⟨⟨u,hu⟩,_⟩:=r.gh p z;rw[hp] at hu;cases hu
theorem At.newT (r:Rep K ρ st H) (hp:H p=none) {ds:List D} {vs:List V} (h:AtAll K ρ H ds vs):At K ρ (upd H p (.tup vs)) (.tup ds) (.ref p):=.tup zk (zdu r hp) (h.ext (Ext.new hp _))
theorem At.newL (r:Rep K ρ st H) (hp:H p=none) {ds:List D} {vs:List V} (h:AtAll K ρ H ds vs):At K ρ (upd H p (.lst vs)) (.lst ds) (.ref p):=.lst zk (zdu r hp) (h.ext (Ext.new hp _))
end
noncomputable def eAnd (f f':SE):SE:=fun σ st=>(f σ st).bind fun v st1=>match v with
 | .bl true=>f' σ st1
 | .bl false=>.ok (.bl false) st1
 | _=>.stuck
noncomputable def eOr (f f':SE):SE:=fun σ st=>(f σ st).bind fun v st1=>match v with
 | .bl true=>.ok (.bl true) st1
 | .bl false=>f' σ st1
 | _=>.stuck
noncomputable def eNot (f:SE):SE:=fun σ st=>(f σ st).bind fun v st1=>match v with
 | .bl b=>.ok (.bl (!b)) st1
 | _=>.stuck
noncomputable def bAnd (f f':ST):ST:=fun σ st=>(f σ st).bind fun b st1=>if b=true then f' σ st1 else .ok false st1
noncomputable def bOr (f f':ST):ST:=fun σ st=>(f σ st).bind fun b st1=>if b=true then .ok true st1 else f' σ st1
noncomputable def bNot (f:ST):ST:=fun σ st=>(f σ st).bind fun b st1=>.ok (!b) st1
noncomputable def eIf (c:ST) (f f':SE):SE:=fun σ st=>(c σ st).bind fun b st1=>if b=true then f σ st1 else f' σ st1
section
variable {X:Cx} {a b:Expr} {rest:List Expr} {f f':SE} {t t':ST} {pos:Pos}
theorem zbbo {op} (h:DE X a f):DE X (.BoolOp op [a] pos) f:=zwl h
theorem zbbv (ha:DE X a f) (hb:DE X (.BoolOp .And (b::rest) pos) f'):DE X (.BoolOp .And (a::b::rest) pos) (eAnd f f'):=zdr (zwr ha hb) fun τ H Q hq0=>by
 obtain ⟨ρ,σ,st,v,st',at',rp,e,q⟩:=hq0;obtain ⟨x,st1,e1,e⟩:=zb e;refine ⟨ρ,σ,st,x,st1,at',rp,e1,fun ρ1 H1 u x1 rp1 a1=>?_⟩;cases x<;>try (cases e;done)
 rename_i bb;cases a1;refine ⟨bb,rfl,?_⟩;cases bb with
 | true =>
  rw[if_pos rfl];exact ⟨ρ1,σ,st1,v,st',at'.ext x1,rp1,e,fun ρ' H' u x2=>q ρ' H' u (x1.trans x2)⟩
 | false =>
  rw[if_neg (by decide)];cases e;exact q _ _ _ x1 rp1 (.bl false)
theorem zbbp (ha:DE X a f):DE X (.UnaryOp .Not a pos) (eNot f):=zdr (zwm ha) fun τ H Q hq0=>by
 obtain ⟨ρ,σ,st,v,st',at',rp,e,q⟩:=hq0;obtain ⟨x,st1,e1,e⟩:=zb e;refine ⟨ρ,σ,st,x,st1,at',rp,e1,fun ρ1 H1 u x1 rp1 a1=>?_⟩;cases x<;>try (cases e;done)
 rename_i bb;cases a1;cases e;exact ⟨bb,rfl,q _ _ _ x1 rp1 (.bl _)⟩
theorem zxw {op} (h:DT X a t) (hop:op=.And\/op=.Or):DW X (.BoolOp op [a] pos) t:=by
 rcases hop with rfl | rfl
 ·exact pw_and1 h
 ·exact pw_or1 h
theorem zbbj (ha:DT X a t) (hb:DW X (.BoolOp .Or (b::rest) pos) t'):DW X (.BoolOp .Or (a::b::rest) pos) (bOr t t'):=pw_to (pw_or ha hb) fun τ H Q hq0=>by
 obtain ⟨ρ,σ,st,v,st',at',rp,e,q⟩:=hq0;obtain ⟨x,st1,e1,e⟩:=zb e;refine ⟨ρ,σ,st,x,st1,at',rp,e1,fun ρ1 H1 x1 rp1=>?_⟩;cases x with
 | false=>exact iteF ⟨ρ1,σ,st1,v,st',at'.ext x1,rp1,e,fun ρ' H' x2=>q ρ' H' (x1.trans x2)⟩
 | true=>cases e;exact iteT (q _ _ x1 rp1)
theorem zxy (ha:DT X a t):DT X (.UnaryOp .Not a pos) (bNot t):=zve (zwb ha) fun τ H Q hq0=>by
 obtain ⟨ρ,σ,st,v,st',at',rp,e,q⟩:=hq0;obtain ⟨x,st1,e1,e⟩:=zb e;cases e;exact ⟨ρ,σ,st,x,_,at',rp,e1,fun ρ1 H1 x1 rp1=>q _ _ x1 rp1⟩
end
noncomputable def aNil:SA:=fun _ st=>.ok [] st
noncomputable def aCons (f:SE) (g:SA):SA:=fun σ st=>(f σ st).bind fun x st1=>(g σ st1).bind fun xs st2=>.ok (x::xs) st2
noncomputable def eTup (g:SA):SE:=fun σ st=>(g σ st).bind fun xs st1=>if xs.length<=sizeLine then .ok (.tup xs) st1 else .stuck
noncomputable def eLst (g:SA):SE:=fun σ st=>(g σ st).bind fun xs st1=>if xs.length<=sizeLine then .ok (.lst xs) st1 else .stuck
noncomputable def eLstM (g:SA):SE:=fun σ st=>(g σ st).bind fun xs st1=>if xs.length<=sizeLine then .ok (.ref st1.length) (st1++[.lst xs]) else .stuck
section
variable {X:Cx} {e:Expr} {es:List Expr} {f:SE} {g:SA} {pos:Pos}
theorem zyj:DA X [] aNil:=zzs zpc fun τ H Q hq0=>by
 obtain ⟨ρ,σ,st,v,st',a,rp,e,q⟩:=hq0;cases e;exact q _ _ _ (.refl _ _) rp .nil
theorem zty (ha:DE X e f) (hr:DA X es g) (hs:starEach (e::es) X.env=(false,eval e X.env)::starEach es X.env:=by rfl):DA X (e::es) (aCons f g):=zzs (zhu ha hr hs) fun τ H Q hq0=>by
 obtain ⟨ρ,σ,st,v,st',a,rp,e,q⟩:=hq0;obtain ⟨x,st1,e1,e⟩:=zb e;obtain ⟨y,st2,e2,e⟩:=zb e;cases e;refine ⟨ρ,σ,st,x,st1,a,rp,e1,fun ρ1 H1 u x1 rp1 a1=>?_⟩;exact ⟨ρ1,σ,st1,y,_,a.ext x1,rp1,e2,fun ρ2 H2 w x2 rp2 a2=>q _ _ _ (x1.trans x2) rp2 (.cons (a1.ext x2) a2)⟩
theorem zbbm {x1} (h:DA X es g):DE X (.Tuple es x1 pos) (eTup g):=zdr (zwj h) fun τ H Q hq0=>by
 obtain ⟨ρ,σ,st,v,st',a,rp,e,q⟩:=hq0;obtain ⟨x,st1,e1,e⟩:=zb e;split at e
 ·rename_i hl;cases e;refine ⟨ρ,σ,st,x,_,a,rp,e1,fun ρ1 H1 u x1 rp1 a1=>⟨by rw[a1.length];exact hl,fun p hp=>?_⟩⟩;exact q ρ1 _ _ (x1.trans (Ext.new hp _)) (rp1.new hp _) (.newT rp1 hp a1)
 ·cases e
theorem zbbs (h:DA X es g):DE X (.List es pos) (eLst g):=zdr (zsi h) fun τ H Q hq0=>by
 obtain ⟨ρ,σ,st,v,st',a,rp,e,q⟩:=hq0;obtain ⟨x,st1,e1,e⟩:=zb e;split at e
 ·rename_i hl;cases e;refine ⟨ρ,σ,st,x,_,a,rp,e1,fun ρ1 H1 u x1 rp1 a1=>⟨by rw[a1.length];exact hl,fun p hp=>?_⟩⟩;exact q ρ1 _ _ (x1.trans (Ext.new hp _)) (rp1.new hp _) (.newL rp1 hp a1)
 ·cases e
theorem At.last {K:Fg} {ρ:Loc} {H:Hp} {p:Addr} {n:Nat} (h:n=ρ.m.length):At K ⟨ρ.m++[some p],ρ.g⟩ H (.ref n) (.ref p):=by
 subst h;refine .ref (by simp) fun a e=>?_
 simp at e;rw[e]
theorem zym (h:DA X es g):DE X (.List es pos) (eLstM g):=zdr (zsi h) fun τ H Q hq0=>by
 obtain ⟨ρ,σ,st,v,st',a,rp,e,q⟩:=hq0;obtain ⟨x,st1,e1,e⟩:=zb e;split at e
 ·rename_i hl;cases e;refine ⟨ρ,σ,st,x,_,a,rp,e1,fun ρ1 H1 u x1 rp1 a1=>⟨by rw[a1.length];exact hl,fun p hp=>?_⟩⟩;obtain ⟨E,R⟩:=rp1.alloc hp (x:=.lst x) (o:=.lst u) fun E=>⟨u,zk,a1.ext E⟩
  exact q _ _ _ (x1.trans E) R (.last rp1.len.symm)
 ·cases e
end
noncomputable def asL (st:Store):D->Option (List D)
 | .lst xs=>some xs
 | .ref n=>match st[n]? with
  | some (.lst xs)=>some xs
  | _=>none
 | _=>none
section
variable {K:Fg} {ρ:Loc} {st:Store} {H:Hp} {d:D} {u:V} {xs:List D}
theorem zef (rp:Rep K ρ st H) {n:Nat} {o:O} (a:At K ρ H (.ref n) u) (e:st[n]?=some o) (hd:o≠.dead):∃p,u=.ref p/\ρ.m[n]?=some (some p)/\OAt K ρ H o p:=by
 cases a with
 | ref h1 h2 =>
  obtain ⟨p,hp⟩:=rp.live n o e hd;exact ⟨p,h2 p hp,hp,rp.obj n p o hp e⟩
theorem zdt (rp:Rep K ρ st H) (a:At K ρ H d u) (e:asL st d=some xs):∃p vs,u=.ref p/\H p=some (.lst vs)/\AtAll K ρ H xs vs:=by
 cases d<;>try (cases e;done)
 ·rename_i n;unfold asL at e;dsimp only at e;split at e
  ·rename_i ys hys;cases e;obtain ⟨p,rfl,hp,vs,q1,q2⟩:=zef rp a hys (by intro z;cases z);exact ⟨p,vs,rfl,q1,q2⟩
  ·cases e
 ·cases e;cases a with
  | lst h1 h2 h3=>exact ⟨_,_,rfl,h1,h3⟩
end
noncomputable def oI (C:Int->Int->Prop) [DecidableRel C] (h:Int->Int->D) (x y:D) (st:Store):Res D:=match x,y with
 | .int i,.int j=>if C i j then .ok (h i j) st else .stuck
 | _,_=>.stuck
theorem oI_D {K:Fg} {C:Int->Int->Prop} [DecidableRel C] {h:Int->Int->D} {g:Int->Int->V} (k:∀i j ρ H,At K ρ H (h i j) (g i j)):OpD K (oI C h) (rI C g):=fun ρ H st x y u v z st' Q rp a b e q=>by
 unfold oI at e;split at e
 ·cases a;cases b;split at e
  ·rename_i hc;cases e;exact ⟨_,_,rfl,rfl,hc,q _ _ _ (.refl _ _) rp (k _ _ _ _)⟩
  ·cases e
 ·cases e
theorem zlv {K:Fg} {h:Int->Int->D} {g:Int->Int->V} (k:∀i j ρ H,At K ρ H (h i j) (g i j)):OpD K (oI (fun _ _=>True) h) (rI0 g):=fun ρ H st x y u v z st' Q rp a b e q=>by
 obtain ⟨i,j,e1,e2,_,e3⟩:=oI_D (C:=fun _ _=>True) k ρ H st x y u v z st' Q rp a b e q;exact ⟨i,j,e1,e2,e3⟩
noncomputable instance:DecidableRel CMul:=fun i j=>by unfold CMul;infer_instance
noncomputable instance:DecidableRel CDivP:=fun i j=>by unfold CDivP;infer_instance
noncomputable instance:DecidableRel CPow:=fun i j=>by unfold CPow;infer_instance
noncomputable abbrev oSub:=oI (fun _ _=>True) fun i j=>.int (i - j)
noncomputable abbrev oFdiv:=oI CDivP fun i j=>.int (i / j)
noncomputable abbrev oMod:=oI (fun _ j=>0 < j) fun i j=>.int (i % j)
noncomputable abbrev oPow:=oI CPow fun i j=>.int (i ^ j.toNat)
noncomputable abbrev oMulI:=oI CMul fun i j=>.int (i * j)
noncomputable def oAdd (x y:D) (st:Store):Res D:=match x,y with
 | .int i,.int j=>.ok (.int (i+j)) st
 | .tup a,.tup b=>if a.length+b.length<=sizeLine then .ok (.tup (a++b)) st else .stuck
 | .str a,.str b=>if a.length+b.length<=sizeLine then .ok (.str (a++b)) st else .stuck
 | x,y=>match asL st x,asL st y with
  | some a,some b=>if a.length+b.length<=sizeLine then .ok (.lst (a++b)) st else .stuck
  | _,_=>.stuck
noncomputable abbrev rAddA (K:Fg):R2:=fun x y H Q=>rI0 (fun i j=>.int (i+j)) x y H Q\/rCatA K x y H Q\/(∃i j,x=.str i/\y=.str j/\i.length+j.length<=sizeLine/\Q (.str (i++j)) H)\/rCat x y H Q
section
variable {X:Cx}
theorem zbn:OpR X (binaryOp .Add) (rAddA X.K):=zwu.or (zso.or (zjv.or zwt))
theorem zcv {K:Fg}:OpD K oAdd (rAddA K):=fun ρ H st x y u v z st' Q rp a b e q=>by
 unfold oAdd at e;split at e
 ·cases a;cases b;cases e;exact .inl ⟨_,_,rfl,rfl,q _ _ _ (.refl _ _) rp (.int _)⟩
 ·rename_i ds es;split at e
  ·rename_i hl;cases e;refine .inr (.inl ?_);cases a with
   | tup h1 h2 h3 =>
    cases b with
    | tup k1 k2 k3 =>
     refine ⟨_,_,_,_,rfl,rfl,SqT.of h1,SqT.of k1,by rw[h3.length,k3.length];exact hl,fun z=>?_,fun z1 z2=>?_,fun z1 z2 p hp=>?_⟩
     ·subst z;cases h3;exact q _ _ _ (.refl _ _) rp (.tup k1 k2 k3)
     ·subst z2;cases k3;rw[xdo] at q;exact q _ _ _ (.refl _ _) rp (.tup h1 h2 h3)
     ·exact q _ _ _ (Ext.new hp _) (rp.new hp _) (.newT rp hp (h3.append k3))
  ·cases e
 ·split at e
  ·rename_i hl;cases a;cases b;cases e;exact .inr (.inr (.inl ⟨_,_,rfl,rfl,hl,q _ _ _ (.refl _ _) rp (.str _)⟩))
  ·cases e
 ·split at e
  ·rename_i h1 h2;split at e
   ·rename_i hl;cases e;obtain ⟨p,vs,rfl,g1,g2⟩:=zdt rp a h1;obtain ⟨p',ws,rfl,k1,k2⟩:=zdt rp b h2;exact .inr (.inr (.inr ⟨_,_,_,_,rfl,rfl,g1,k1,by rw[g2.length,k2.length];exact hl,fun t ht=>q _ _ _ (Ext.new ht _) (rp.new ht _) (.newL rp ht (g2.append k2))⟩))
   ·cases e
  ·cases e
end
noncomputable abbrev oLe:=oI (fun _ _=>True) fun i j=>.bl (decide (i<=j))
noncomputable abbrev oGt:=oI (fun _ _=>True) fun i j=>.bl (decide (j < i))
mutual
noncomputable def toData:D->Option PyData
 | .non=>some .none
 | .bl b=>some (.bool b)
 | .int i=>some (.int i)
 | .str x=>some (.str x)
 | .tup ds=>(toDatas ds).map .tuple
 | .lst ds=>(toDatas ds).map .list
 | _=>none
noncomputable def toDatas:List D->Option (List PyData)
 | []=>some []
 | d::ds=>(toData d).bind fun x=>(toDatas ds).map fun xs=>x::xs
end
mutual
theorem zny {K:Fg} {ρ:Loc} {H:Hp}:∀{d:D} {v:V} {p:PyData},At K ρ H d v->toData d=some p->DAt K H v p
 | _,_,_,.non,e=>by cases e;exact .non
 | _,_,_,.bl b,e=>by cases e;exact .bl b
 | _,_,_,.int i,e=>by cases e;exact .int i
 | _,_,_,.str x,e=>by cases e;exact .str x
 | _,_,_,.ty n,e=>by cases e
 | _,_,_,.exn _,e=>by cases e
 | _,_,_,.ref _ _,e=>by cases e
 | _,_,_,.tup h _ al,e=>by
  rw[toData] at e;obtain ⟨ps,e1,rfl⟩:=xdk.mp e;exact .tup (SqT.of h) (zft al e1)
 | _,_,_,.lst h _ al,e=>by
  rw[toData] at e;obtain ⟨ps,e1,rfl⟩:=xdk.mp e;exact .lst (SqL.of h) (zft al e1)
 | _,_,_,.scr _ _,e=>by cases e
theorem zft {K:Fg} {ρ:Loc} {H:Hp}:∀{d:List D} {v:List V} {p:List PyData},AtAll K ρ H d v->toDatas d=some p->DAll K H v p
 | _,_,_,.nil,e=>by cases e;exact .nil
 | _,_,_,.cons a b,e=>by
  rw[toDatas] at e;obtain ⟨x,e1,e⟩:=xej.mp e;obtain ⟨xs,e2,rfl⟩:=xdk.mp e;exact .cons (zny a e1) (zft b e2)
end
noncomputable def now (st:Store) (d:D):D:=match asL st d with
 | some xs=>.lst xs
 | none=>d
noncomputable def dataOf (st:Store) (d:D):Option PyData:=toData (now st d)
theorem zii {K:Fg} {ρ:Loc} {st:Store} {H:Hp} (rp:Rep K ρ st H) {d:D} {u:V} {p:PyData} (a:At K ρ H d u) (e:dataOf st d=some p):DAt K H u p:=by
 unfold dataOf now at e;split at e
 ·rename_i xs hx;obtain ⟨q,vs,rfl,h1,h2⟩:=zdt rp a hx;rw[toData] at e;obtain ⟨ps,e1,rfl⟩:=xdk.mp e;exact .lst (SqL.of h1) (zft h2 e1)
 ·exact zny a e
noncomputable def oEqG (neg:Bool) (x y:D) (st:Store):Res D:=match dataOf st x,dataOf st y with
 | some a,some b=>if PySem.SeqAt.shaped a=true/\PySem.SeqAt.shaped b=true then .ok (.bl (if neg then !PyData.eqv a b else PyData.eqv a b)) st else .stuck
 | _,_=>.stuck
theorem zsr {K:Fg} {neg:Bool}:OpD K (oEqG neg) (rEqX K neg):=fun ρ H st x y u v z st' Q rp a b e q=>by
 unfold oEqG at e;split at e
 ·rename_i p1 p2 h1 h2;split at e
  ·rename_i hs;cases e;exact ⟨_,_,zii rp a h1,zii rp b h2,hs.1,hs.2,q _ _ _ (.refl _ _) rp (.bl _)⟩
  ·cases e
 ·cases e
noncomputable abbrev oEq:=oEqG false
noncomputable abbrev oNe:=oEqG true
noncomputable def asInts:List D->Option (List Int)
 | []=>some []
 | .int i::r=>(asInts r).map (i::·)
 | _::_=>none
theorem zde {K:Fg} {ρ:Loc} {H:Hp}:∀{ds:List D} {vs:List V} {ns:List Int},AtAll K ρ H ds vs->asInts ds=some ns->vs=ns.map V.int
 | _,_,_,.nil,e=>by cases e;rfl
 | _,_,_,.cons (d:=d) a b,e=>by
  cases d<;>try (cases e;done)
  rw[asInts] at e;obtain ⟨ms,e1,rfl⟩:=xdk.mp e;cases a;rw[zde b e1]
  rfl
noncomputable def oLtT (x y:D) (st:Store):Res D:=match x,y with
 | .int i,.int j=>.ok (.bl (decide (i < j))) st
 | .tup a,.tup b=>match asInts a,asInts b with
  | some ns,some ms=>.ok (.bl (HT.lexLt ns ms)) st
  | _,_=>.stuck
 | _,_=>.stuck
noncomputable abbrev rLtA (K:Fg):R2:=fun x y H Q=>rI0 (fun i j=>.bl (decide (i < j))) x y H Q\/rLtT K x y H Q
theorem zpg {X:Cx} (hu:X.A.units < cLine):OpR X (compareOp .Lt) (rLtA X.K):=zbar.or (zws hu)
theorem zph {K:Fg}:OpD K oLtT (rLtA K):=fun ρ H st x y u v z st' Q rp a b e q=>by
 unfold oLtT at e;split at e
 ·cases a;cases b;cases e
  exact .inl ⟨_,_,rfl,rfl,q _ _ _ (.refl _ _) rp (.bl _)⟩
 ·split at e
  ·rename_i h1 h2;cases e;cases a with
   | tup g1 g2 g3 =>
    cases b with
    | tup k1 k2 k3 =>
     have e1:=zde g3 h1;have e2:=zde k3 h2;subst e1 e2;exact .inr ⟨_,_,_,_,rfl,rfl,SqT.of g1,SqT.of k1,q _ _ _ (.refl _ _) rp (.bl _)⟩
  ·cases e
 ·cases e
noncomputable def seqOf (st:Store):D->Option (List D)
 | .tup xs=>some xs
 | .scr xs=>some xs
 | d=>asL st d
theorem zgz {K:Fg} {ρ:Loc} {st:Store} {H:Hp} (rp:Rep K ρ st H) {d:D} {u:V} {xs:List D} (a:At K ρ H d u) (e:seqOf st d=some xs) :
  ∃p vs,u=.ref p/\(SqL K H p vs\/SqT K H p vs)/\AtAll K ρ H xs vs:=by
 unfold seqOf at e;split at e
 ·cases e;cases a with
  | tup h1 h2 h3=>exact ⟨_,_,rfl,.inr (SqT.of h1),h3⟩
 ·cases e;cases a with
  | scr h1 h3=>exact ⟨_,_,rfl,.inl h1.sq,h3⟩
 ·obtain ⟨p,vs,rfl,h1,h2⟩:=zdt rp a e;exact ⟨p,vs,rfl,.inl (SqL.of h1),h2⟩
theorem AtAll.atI {K:Fg} {ρ:Loc} {H:Hp} {ds:List D} {vs:List V} {i:Int} {d:D} (h:AtAll K ρ H ds vs) (e:L2.atI ds i=some d):∃v,L2.atI vs i=some v/\At K ρ H d v:=by
 unfold L2.atI at e ⊢;rw[h.length];cases hi:ixN ds.length i with
 | none=>rw[hi] at e;cases e
 | some j =>
  rw[hi] at e;obtain ⟨v,e1,e2⟩:=h.get (i:=j) e;exact ⟨v,e1,e2⟩
noncomputable def oIx (x y:D) (st:Store):Res D:=match seqOf st x,y with
 | some xs,.int i=>match L2.atI xs i with
  | some v=>.ok v st
  | none=>.stuck
 | _,_=>.stuck
theorem zbav {K:Fg}:OpD K oIx (rIx K):=fun ρ H st x y u v z st' Q rp a b e q=>by
 unfold oIx at e;split at e
 ·rename_i h1;split at e
  ·rename_i w hw;cases e;cases b;obtain ⟨p,vs,rfl,h2,h3⟩:=zgz rp a h1;obtain ⟨w',e2,a2⟩:=h3.atI hw;rcases h2 with h2 | h2
   ·exact .inl ⟨_,_,_,_,rfl,rfl,h2,e2,q _ _ _ (.refl _ _) rp a2⟩
   ·exact .inr (.inl ⟨_,_,_,_,rfl,rfl,h2,e2,q _ _ _ (.refl _ _) rp a2⟩)
  ·cases e
 ·cases e
noncomputable def cutD (xs:List D) (lo hi:Option Int):List D:=(xs.drop (HT.sIx xs.length 0 lo)).take (HT.sIx xs.length xs.length hi - HT.sIx xs.length 0 lo)
noncomputable def pNone:DS->Store->Res (Option Int):=fun _ st=>.ok none st
noncomputable def pSome (f:SE):DS->Store->Res (Option Int):=fun σ st=>(f σ st).bind fun v st1=>match v with
 | .int i=>.ok (some i) st1
 | _=>.stuck
noncomputable def eSl (f:SE) (lo hi:DS->Store->Res (Option Int)):SE:=fun σ st=>(f σ st).bind fun x st1=>(lo σ st1).bind fun l st2=>(hi σ st2).bind fun h st3=>match x with
 | .tup xs=>.ok (.tup (cutD xs l h)) st3
 | x=>match asL st3 x with
  | some xs=>.ok (.lst (cutD xs l h)) st3
  | none=>.stuck
section
variable {X:Cx} {a b e:Expr} {f f':SE} {pos:Pos} {lo hi:Option Expr} {l h:DS->Store->Res (Option Int)}
theorem d_ix (ha:DE X a f) (hb:DE X b f') (hs:PlainIx b):DE X (.Subscript a b pos) (eOp oIx f f'):=zdr (zbap zxg ha hb hs) (zvg zbav)
end
end Dd
namespace Dd
open PySem L2
noncomputable def eCall (g:List D->Store->Res D) (f:SA):SE:=fun σ st=>(f σ st).bind fun xs st1=>g xs st1
noncomputable def CaD (K:Fg) (g:List D->Store->Res D) (r:List V->Hp->VK->Prop):Prop :=
 ∀ρ H st xs us z st' (Q:VK),Rep K ρ st H->AtAll K ρ H xs us->g xs st=.ok z st'->(∀ρ' H' w,Ext ρ H ρ' H'->Rep K ρ' st' H'->At K ρ' H' z w->Q w H')->r us H Q
theorem zbaa {K:Fg} {g:List D->Store->Res D} {r:List V->Hp->VK->Prop} (hr:CaD K g r) {f:SA}:∀τ H Q,tD K (eCall g f) τ H Q->tCB r (tDA K f) τ H Q:=fun τ H Q hq0=>by
 obtain ⟨ρ,σ,st,v,st',a,rp,e,q⟩:=hq0;obtain ⟨x,st1,e1,e⟩:=zb e;exact ⟨ρ,σ,st,x,st1,a,rp,e1,fun ρ1 H1 u x1 rp1 a1=>hr ρ1 H1 st1 x u v st' Q rp1 a1 e fun ρ' H' w x2=>q ρ' H' w (x1.trans x2)⟩
section
variable {X:Cx} {x:Str} {p pos:Pos} {e:Expr} {es:List Expr} {f:SA} {id T:String} {r:List V->Hp->VK->Prop} {g:List D->Store->Res D}
theorem zud (hc : CallR X (.builtin id) r) (hr : CaD X.K g r) (hg : Gl X x) (hm : X.mg x = none) (hv : bootBuiltins x = some (.builtin id)) (ha : DA X (e :: es) f) (hn : x ≠ "__name__" := by decide) (hdb : (x == ("__debug__" : Str)) = false := by decide)
 (he:starEach (e::es) X.env=(false,eval e X.env)::starEach es X.env:=by rfl) (hpl:(backTo pos (starEach es X.env)).any (·.1)=false:=by rfl):DE X (.Call (.Name x p) (e::es) [] pos) (eCall g f):=zdr (zjt hc hg hm hv ha hn hdb he hpl) (zbaa hr)
theorem zqk (hc : CallR X (.type T) r) (hr : CaD X.K g r) (hg : Gl X x) (hm : X.mg x = none) (hv : bootBuiltins x = some (.type T)) (ha : DA X (e :: es) f) (hn : x ≠ "__name__" := by decide) (hdb : (x == ("__debug__" : Str)) = false := by decide)
 (he:starEach (e::es) X.env=(false,eval e X.env)::starEach es X.env:=by rfl) (hpl:(backTo pos (starEach es X.env)).any (·.1)=false:=by rfl):DE X (.Call (.Name x p) (e::es) [] pos) (eCall g f):=zdr (zls hc hg hm hv ha hn hdb he hpl) (zbaa hr)
end
theorem AtAll.one {K:Fg} {ρ:Loc} {H:Hp} {d:D} {us:List V} (h:AtAll K ρ H [d] us):∃u,us=[u]/\At K ρ H d u:=by
 cases h with
 | cons a b=>cases b;exact ⟨_,rfl,a⟩
theorem AtAll.two {K:Fg} {ρ:Loc} {H:Hp} {d e:D} {us:List V} (h:AtAll K ρ H [d,e] us):∃u v,us=[u,v]/\At K ρ H d u/\At K ρ H e v:=by
 cases h with
 | cons a b =>
  obtain ⟨v,rfl,c⟩:=b.one;exact ⟨_,_,rfl,a,c⟩
noncomputable def bLen:List D->Store->Res D:=fun xs st=>match xs with
 | [x]=>match seqOf st x with
  | some ys=>.ok (.int ys.length) st
  | none=>.stuck
 | _=>.stuck
theorem zng {K:Fg}:CaD K bLen (fun xs H Q=>∃p ys,xs=[.ref p]/\(SqL K H p ys\/SqT K H p ys)/\Q (.int ys.length) H):=fun ρ H st xs us z st' Q rp aa e q=>by
 unfold bLen at e;split at e
 ·split at e
  ·rename_i h;cases e;obtain ⟨u,rfl,a⟩:=aa.one;obtain ⟨p,vs,rfl,h1,h2⟩:=zgz rp a h;refine ⟨p,vs,rfl,h1,?_⟩;rw[h2.length];exact q _ _ _ (.refl _ _) rp (.int _)
  ·cases e
 ·cases e
noncomputable def bAbs:List D->Store->Res D:=fun xs st=>match xs with
 | [.int i]=>.ok (.int (if i < 0 then -i else i)) st
 | _=>.stuck
theorem zzd {K:Fg}:CaD K bAbs (fun xs H Q=>∃i,xs=[.int i]/\Q (.int (if i < 0 then -i else i)) H):=fun ρ H st xs us z st' Q rp aa e q=>by
 unfold bAbs at e;split at e
 ·cases e;obtain ⟨u,rfl,a⟩:=aa.one;cases a;exact ⟨_,rfl,q _ _ _ (.refl _ _) rp (.int _)⟩
 ·cases e
noncomputable def b2I (g:Int->Int->Int):List D->Store->Res D:=fun xs st=>match xs with
 | [.int i,.int j]=>.ok (.int (g i j)) st
 | _=>.stuck
theorem zze {K:Fg} {g:Int->Int->Int}:CaD K (b2I g) (fun xs H Q=>∃i j,xs=[.int i,.int j]/\Q (.int (g i j)) H):=fun ρ H st xs us z st' Q rp aa e q=>by
 unfold b2I at e;split at e
 ·cases e;obtain ⟨u,v,rfl,a,b⟩:=aa.two;cases a;cases b;exact ⟨_,_,rfl,q _ _ _ (.refl _ _) rp (.int _)⟩
 ·cases e
noncomputable abbrev bMin2:=b2I fun i j=>if j < i then j else i
noncomputable def bSum:List D->Store->Res D:=fun xs st=>match xs with
 | [x]=>match (seqOf st x).bind asInts with
  | some ns=>.ok (.int ns.sum) st
  | none=>.stuck
 | _=>.stuck
theorem zuv {K:Fg}:CaD K bSum (rSum K):=fun ρ H st xs us z st' Q rp aa e q=>by
 unfold bSum at e;split at e
 ·split at e
  ·rename_i ns h;cases e;obtain ⟨ys,h0,h⟩:=xej.mp h;obtain ⟨u,rfl,a⟩:=aa.one;obtain ⟨p,vs,rfl,h1,h2⟩:=zgz rp a h0;have e:=zde h2 h;subst e;exact ⟨p,ns,rfl,h1,q _ _ _ (.refl _ _) rp (.int _)⟩
  ·cases e
 ·cases e
noncomputable def asBools:List D->Option (List Bool)
 | []=>some []
 | .bl i::r=>(asBools r).map (i::·)
 | _::_=>none
theorem zeq {K:Fg} {ρ:Loc} {H:Hp}:∀{ds:List D} {vs:List V} {ns:List Bool},AtAll K ρ H ds vs->asBools ds=some ns->vs=ns.map V.bl
 | _,_,_,.nil,e=>by cases e;rfl
 | _,_,_,.cons (d:=d) a b,e=>by
  cases d<;>try (cases e;done)
  rw[asBools] at e;obtain ⟨ms,e1,rfl⟩:=xdk.mp e;cases a;rw[zeq b e1]
  rfl
noncomputable def bAny (al:Bool):List D->Store->Res D:=fun xs st=>match xs with
 | [x]=>match (asL st x).bind asBools with
  | some bs=>.ok (.bl (if al then bs.all id else bs.any id)) st
  | none=>.stuck
 | _=>.stuck
theorem zuy {K:Fg} {al:Bool}:CaD K (bAny al) (rAny K al):=fun ρ H st xs us z st' Q rp aa e q=>by
 unfold bAny at e;split at e
 ·split at e
  ·rename_i ns h;cases e;obtain ⟨ys,h0,h⟩:=xej.mp h;obtain ⟨u,rfl,a⟩:=aa.one;obtain ⟨p,vs,rfl,h1,h2⟩:=zdt rp a h0;have e:=zeq h2 h;subst e;exact ⟨p,ns,rfl,SqL.of h1,q _ _ _ (.refl _ _) rp (.bl _)⟩
  ·cases e
 ·cases e
noncomputable def tyName (st:Store):D->Option String
 | .non => some "NoneType"
 | .bl _ => some "bool"
 | .int _ => some "int"
 | .str _ => some "str"
 | .tup _ => some "tuple"
 | .lst _ => some "list"
 | .ref n=>match st[n]? with
  | some (.lst _) => some "list"
  | some (.dT _) => some "dict"
  | _=>none
 | _=>none
noncomputable def isTy (t T : String) : Bool := t == T || (t == "bool" && T == "int")
noncomputable def bIsinst:List D->Store->Res D:=fun xs st=>match xs with
 | [x,.ty T]=>match tyName st x with
  | some t => if ["int", "bool", "str", "tuple", "list", "dict"].contains T = true then .ok (.bl (isTy t T)) st else .stuck
  | none=>.stuck
 | _=>.stuck
theorem zlj {K : Fg} {ρ : Loc} {st : Store} {H : Hp} (rp : Rep K ρ st H) {d : D} {u : V} {t : String} (a : At K ρ H d u) (e : tyName st d = some t) : TyOf K H u (.type t) /\ t ∈ ["NoneType", "bool", "int", "str", "tuple", "list", "dict"] := by
 cases d<;>try (cases e;done)
 ·cases e;cases a;exact ⟨.non,by simp⟩
 ·cases e;cases a;exact ⟨.bl _,by simp⟩
 ·cases e;cases a;exact ⟨.int _,by simp⟩
 ·cases e;cases a;exact ⟨.str _,by simp⟩
 ·unfold tyName at e;dsimp only at e;split at e
  ·rename_i h;cases e;obtain ⟨p,rfl,hp,vs,q1,q2⟩:=zef rp a h (by intro z;cases z);exact ⟨.lst q1,by simp⟩
  ·rename_i h;cases e;obtain ⟨p,rfl,hp,vs,q1,q2⟩:=zef rp a h (by intro z;cases z);exact ⟨.dT q1,by simp⟩
  ·cases e
 ·cases e;cases a with
  | tup h1 h2 h3=>exact ⟨.tup h1,by simp⟩
 ·cases e;cases a with
  | lst h1 h2 h3=>exact ⟨.lst h1,by simp⟩
theorem zwz {K : Fg} {t T : String} (ht : t ∈ ["NoneType", "bool", "int", "str", "tuple", "list", "dict"]) (hT : T ∈ ["int", "bool", "str", "tuple", "list", "dict"]) : PySem.W.kitOne K (.type t) (.type T) = some (isTy t T) := by
 simp only[xcc,xft,or_false] at ht hT;rcases ht with rfl | rfl | rfl | rfl | rfl | rfl | rfl<;>rcases hT with rfl | rfl | rfl | rfl | rfl | rfl<;>rfl
theorem zch {K:Fg}:CaD K bIsinst (fun xs H Q=>∃x T t b,xs=[x,.ty T]/\TyOf K H x t/\PySem.W.kitOne K t (.type T)=some b/\Q (.bl b) H):=fun ρ H st xs us z st' Q rp aa e q=>by
 unfold bIsinst at e;split at e
 ·split at e
  ·rename_i h;split at e
   ·rename_i hT;cases e;obtain ⟨u,v,rfl,a,b⟩:=aa.two;cases b;obtain ⟨h1,h2⟩:=zlj rp a h;exact ⟨_,_,_,_,rfl,h1,zwz h2 (by simpa using hT),q _ _ _ (.refl _ _) rp (.bl _)⟩
   ·cases e
  ·cases e
 ·cases e
noncomputable def bTuple:List D->Store->Res D:=fun xs st=>match xs with
 | [.tup ys]=>.ok (.tup ys) st
 | [x]=>match asL st x with
  | some ys=>.ok (.tup ys) st
  | none=>.stuck
 | _=>.stuck
noncomputable def bList:List D->Store->Res D:=fun xs st=>match xs with
 | [x]=>match seqOf st x with
  | some ys=>.ok (.lst ys) st
  | none=>.stuck
 | _=>.stuck
noncomputable abbrev rowD (ns:List Int):D:=.tup (ns.map .int)
noncomputable abbrev rowsD (l:List (List Int)):List D:=l.map rowD
noncomputable def insR (a:List Int):List (List Int)->List (List Int)
 | []=>[a]
 | b::r=>if HT.lexLt b a=true then b::insR a r else a::b::r
noncomputable def sortR:List (List Int)->List (List Int)
 | []=>[]
 | a::r=>insR a (sortR r)
noncomputable abbrev UpR (l:List (List Int)):Prop:=l.Pairwise fun a b=>HT.lexLt b a=false
theorem zfp (a:List Int):∀l,(insR a l).Perm (a::l)
 | []=>.refl _
 | b::r=>by
  unfold insR;split
  ·exact (List.Perm.cons b (zfp a r)).trans (.swap a b r)
  ·exact .refl _
theorem zge:∀l,(sortR l).Perm l
 | []=>.refl _
 | a::r=>(zfp a _).trans (.cons a (zge r))
theorem zhg {a b c:List Int} (h1:HT.lexLt b a=false) (h2:HT.lexLt c b=false):HT.lexLt c a=false:=by
 cases h:HT.lexLt c a with
 | false=>rfl
 | true =>
  rcases Srt.zhw a b with z | z | z
  ·have:=Srt.zdv h z;rw[h2] at this;cases this
  ·subst z;rw[h2] at h;cases h
  ·rw[h1] at z;cases z
theorem znt (a:List Int):∀l,UpR l->UpR (insR a l)
 | [],_=>xhl _ _
 | b::r,h=>by
  obtain ⟨h1,h2⟩:=xge.mp h;unfold insR;split
  ·rename_i c;refine xge.mpr ⟨fun x hx=>?_,znt a r h2⟩;rcases xcc.mp ((zfp a r).mem_iff.mp hx) with rfl | hx
   ·exact Srt.zme c
   ·exact h1 x hx
  ·rename_i c;have c':HT.lexLt b a=false:=by simpa using c
   refine xge.mpr ⟨fun x hx=>?_,h⟩;rcases xcc.mp hx with rfl | hx
   ·exact c'
   ·exact zhg c' (h1 x hx)
theorem zjl:∀l,UpR (sortR l)
 | []=>.nil
 | a::r=>znt a _ (zjl r)
theorem zhq:∀{l m:List (List Int)},l.Perm m->UpR l->UpR m->l=m
 | [],m,p,_,_=>by rw[List.nil_perm.mp p]
 | a::l,[],p,_,_=>by cases List.perm_nil.mp p
 | a::l,b::m,p,h1,h2=>by
  obtain ⟨p1,p2⟩:=xge.mp h1;obtain ⟨q1,q2⟩:=xge.mp h2;have e:a=b:=by
   rcases xcc.mp (p.mem_iff.mp xcf) with z | z
   ·exact z
   ·rcases xcc.mp (p.mem_iff.mpr (xcf (a:=b) (l:=m))) with y | y
    ·exact y.symm
    ·have e1:=q1 a z;have e2:=p1 b y;rcases Srt.zhw a b with w | w | w
     ·rw[e1] at w;cases w
     ·exact w
     ·rw[e2] at w;cases w
  subst e;rw[zhq (List.Perm.cons_inv p) p2 q2]
theorem zgy {l m:List (List Int)} (p:m.Perm l) (h:UpR m):m=sortR l:=zhq (p.trans (zge l).symm) h (zjl l)
noncomputable def asRows:List D->Option (List (List Int))
 | []=>some []
 | .tup ds::r=>(asInts ds).bind fun ns=>(asRows r).map (ns::·)
 | _::_=>none
theorem zir {K:Fg} {ρ:Loc} {H:Hp}:∀{ds:List D} {vs:List V} {l:List (List Int)},AtAll K ρ H ds vs->asRows ds=some l ->
  ∃ps:List (Addr × List Int),vs=ps.map (fun p=>V.ref p.1)/\ps.map (·.2)=l/\∀p∈ps,H p.1=some (.tup (p.2.map V.int))/\Out ρ p.1
 | _,_,_,.nil,e=>by cases e;exact ⟨[],rfl,rfl,fun _ h=>nomatch h⟩
 | _,_,_,.cons (d:=d) a b,e=>by
  cases d<;>try (cases e;done)
  rw[asRows] at e;obtain ⟨ns,e1,e⟩:=xej.mp e;obtain ⟨l,e2,rfl⟩:=xdk.mp e;obtain ⟨ps,h1,h2,h3⟩:=zir b e2;cases a with
  | tup g1 g2 g3 =>
   rename_i ad ws;have ew:=zde g3 e1;subst ew;refine ⟨(ad,ns)::ps,by rw[h1];rfl,by rw[← h2];rfl,fun p hp=>?_⟩;rcases xcc.mp hp with rfl | hp
   ·exact ⟨g1,g2⟩
   ·exact h3 p hp
theorem zhh {K:Fg} {ρ:Loc} {H:Hp}:∀ns:List Int,AtAll K ρ H (ns.map .int) (ns.map V.int)
 | []=>.nil
 | n::ns=>.cons (.int n) (zhh ns)
theorem zha {K:Fg} {ρ:Loc} {H:Hp}:∀ps:List (Addr × List Int),(∀p∈ps,H p.1=some (.tup (p.2.map V.int))/\Out ρ p.1)->AtAll K ρ H (rowsD (ps.map (·.2))) (ps.map fun p=>V.ref p.1)
 | [],_=>.nil
 | p::ps,h=>.cons (.tup (h p xcf).1 (h p xcf).2 (zhh _)) (zha ps fun q hq=>h q (xcv _ hq))
theorem zlw {K:Fg} {ρ:Loc} {st:Store} {H:Hp} (r:Rep K ρ st H) {p:Addr} {vs:List V} (hp:H p=some (.tup vs)):Out ρ p:=by
 refine ⟨fun z=>?_,fun z=>?_⟩
 ·obtain ⟨i,hi,e⟩:=xdx z;obtain ⟨x,_,q⟩:=r.has (n:=i) (a:=p) (by rw[xbi hi,e]);cases x with
  | lst xs=>obtain ⟨_,e,_⟩:=q;rw[hp] at e;cases e
  | dT kvs=>obtain ⟨_,e,_⟩:=q;rw[hp] at e;cases e
  | fT kvs=>obtain ⟨_,_,e,_⟩:=q;rw[hp] at e;cases e
  | dead=>exact q
  | tab=>obtain ⟨_,_,e,_⟩:=q;rw[hp] at e;cases e
 ·obtain ⟨⟨u,hu⟩,_⟩:=r.gh p z;rw[hp] at hu;cases hu
noncomputable def valD (kvs:List (List Int × D)) (k:List Int):Option D:=(kvs.find? fun kv=>decide (kv.1=k)).map (·.2)
noncomputable def putD (kvs:List (List Int × D)) (k:List Int) (v:D):List (List Int × D) :=
 if (kvs.any fun kv=>decide (kv.1=k))=true then kvs.map (fun kv=>if kv.1=k then (kv.1,v) else kv) else kvs++[(k,v)]
noncomputable def dropD (kvs:List (List Int × D)) (k:List Int):List (List Int × D):=kvs.filter fun kv=>decide (kv.1≠k)
section
variable {K:Fg} {ρ:Loc} {H:Hp} {kvs:List (List Int × D)} {vs:List (List Key × V)}
theorem KvAt.keys (h:KvAt K ρ H kvs vs):vs.map (·.1)=(kvs.map (·.1)).map fun ns=>ns.map Sum.inl:=by
 induction h with
 | nil=>rfl
 | @cons p q ps qs h t ih=>rw[xcd,xcd,xcd,ih,h.1]
end
noncomputable def pairsOf (st:Store):D->Option (List (List Int × D))
 | .ref n=>match st[n]? with
  | some (.dT kvs)=>some kvs
  | some (.fT kvs)=>some kvs
  | _=>none
 | _=>none
theorem zpb {K:Fg} {ρ:Loc} {st:Store} {H:Hp} (rp:Rep K ρ st H) {d:D} {u:V} {kvs:List (List Int × D)} (a:At K ρ H d u) (e:pairsOf st d=some kvs):∃p vs,u=.ref p/\Rd H p (.dT vs)/\KvAt K ρ H kvs vs:=by
 unfold pairsOf at e;split at e
 ·split at e
  ·rename_i h;cases e;obtain ⟨p,rfl,hp,vs,q1,q2⟩:=zef rp a h (by intro z;cases z);exact ⟨p,vs,rfl,.inl q1,q2⟩
  ·rename_i h;cases e;obtain ⟨p,rfl,hp,vs,ob,q1,q2⟩:=zef rp a h (by intro z;cases z);exact ⟨p,vs,rfl,.inr ⟨ob,q1⟩,q2⟩
  ·cases e
 ·cases e
noncomputable def keyOf:D->Option (List Int)
 | .tup ds=>asInts ds
 | _=>none
noncomputable def eDGet2 (f g h:SE):SE:=fun σ st=>(f σ st).bind fun x st1=>match pairsOf st1 x with
 | some _=>(g σ st1).bind fun y st2=>(h σ st2).bind fun z st3=>match pairsOf st3 x,keyOf y with
  | some kvs,some k=>.ok ((valD kvs k).getD z) st3
  | _,_=>.stuck
 | none=>.stuck
noncomputable def eDPop (f g:SE):SE:=fun σ st=>(f σ st).bind fun x st1=>match pairsOf st1 x with
 | some _=>(g σ st1).bind fun y st2=>match x,keyOf y with
  | .ref n,some k=>match st2[n]? with
   | some (.dT kvs)=>match valD kvs k with
    | some v=>.ok v (st2.set n (.dT (dropD kvs k)))
    | none=>.stuck
   | _=>.stuck
  | _,_=>.stuck
 | none=>.stuck
noncomputable def sDPut (f g h:SE):SS:=fun σ st=>(h σ st).bind fun v st1=>(f σ st1).bind fun x st2=>(g σ st2).bind fun y st3=>match x,keyOf y with
 | .ref n,some k=>match st3[n]? with
  | some (.dT kvs)=>if kvs.length < sizeLine then .ok (.nx σ) (st3.set n (.dT (putD kvs k v))) else .stuck
  | _=>.stuck
 | _,_=>.stuck
noncomputable def eDNew:SE:=fun _ st=>.ok (.ref st.length) (st++[.dT []])
section
variable {X:Cx} {a b c o i e value f':Expr} {f g h:SE} {pos pos' apos cpos:Pos}
end
noncomputable def bSorted:List D->Store->Res D:=fun xs st=>match xs with
 | [x]=>match (asL st x).bind asRows with
  | some l=>if l.length<=1000000 then .ok (.lst (rowsD (sortR l))) st else .stuck
  | none=>match pairsOf st x with
   | some kvs=>if kvs.length<=1000000 then .ok (.lst (rowsD (sortR (kvs.map (·.1))))) st else .stuck
   | none=>.stuck
 | _=>.stuck
theorem znf {K:Fg}:CaD K bSorted (fun xs H Q=>rSortedAL K xs H Q\/rSortedDAL xs H Q):=fun ρ H st xs us z st' Q rp aa e q=>by
 unfold bSorted at e;split at e
 ·obtain ⟨u,rfl,a⟩:=aa.one;split at e
  ·rename_i l hl;obtain ⟨ys,h0,hl⟩:=xej.mp hl;split at e
   ·rename_i few;cases e;obtain ⟨p,vs,rfl,h1,h2⟩:=zdt rp a h0;obtain ⟨ps,rfl,rfl,h3⟩:=zir h2 hl;rw[xbk] at few;refine .inl ⟨p,ps,rfl,SqL.of h1,few,fun x hx=>SqT.of (h3 x hx).1,fun t qs ht hp hs=>?_⟩;have e2:qs.map (·.2)=sortR (ps.map (·.2)):=zgy (hp.map _) hs;refine q _ _ _ (Ext.new ht _) (rp.new ht _) (.newL rp ht ?_);rw[← e2];exact zha qs fun x hx=>h3 x (hp.mem_iff.mp hx)
   ·cases e
  ·split at e
   ·rename_i kvs hk;split at e
    ·rename_i few;cases e;obtain ⟨p,vs,rfl,h1,h2⟩:=zpb rp a hk;refine .inr ⟨p,vs,kvs.map (·.1),rfl,h1,h2.keys,by rw[xbk];exact few,fun t qs ht hp hs hq=>?_⟩;have e2:qs.map (·.2)=sortR (kvs.map (·.1)):=zgy hp hs;refine q _ _ _ (Ext.new ht _) (rp.new ht _) (.newL rp ht ?_);rw[← e2];exact zha qs fun x hx=>⟨hq x hx,zlw rp (hq x hx)⟩
    ·cases e
   ·cases e
 ·cases e
theorem zhk {X : Cx} (hc : X.calm = true) (hu : X.A.units + 64 < cLine) : CallR X (.builtin "sorted") (fun xs H Q => rSortedAL X.K xs H Q \/ rSortedDAL xs H Q) := (zgr hu).or (zfy hc hu)
noncomputable def eAppend (f:SE) (g:SA):SE:=fun σ st=>(f σ st).bind fun x st1=>match x,asL st1 x with
 | .ref n,some _=>(g σ st1).bind fun ys st2=>match ys,st2[n]? with
  | [y],some (.lst xs)=>if xs.length < sizeLine then .ok .non (st2.set n (.lst (xs++[y]))) else .stuck
  | _,_=>.stuck
 | _,_=>.stuck
noncomputable def eExtend (f:SE) (g:SA):SE:=fun σ st=>(f σ st).bind fun x st1=>match x,asL st1 x with
 | .ref n,some _=>(g σ st1).bind fun ys st2=>match ys,st2[n]? with
  | [y],some (.lst xs)=>match asL st2 y with
   | some zs=>if xs.length+zs.length<=sizeLine then .ok .non (st2.set n (.lst (xs++zs))) else .stuck
   | none=>.stuck
  | _,_=>.stuck
 | _,_=>.stuck
noncomputable def eClear (f:SE):SE:=fun σ st=>(f σ st).bind fun x st1=>match x with
 | .ref n=>match st1[n]? with
  | some (.lst _)=>.ok .non (st1.set n (.lst []))
  | _=>.stuck
 | _=>.stuck
section
variable {X:Cx} {o e i value:Expr} {es:List Expr} {f g h:SE} {ga:SA} {pos apos cpos:Pos}
theorem zqm (ho : DE X o f) (ha : DA X (e :: es) ga) (hbase : attributeBase o "append" X.env (eval o X.env) = eval o X.env := by rfl)
  (hfew:((backTo cpos (starEach (e::es) X.env)).all (fun x=>!x.1) && (backToKw cpos (keywordEach [] X.env)).all (fun x=>x.1.isSome)
   && decide ((e::es).length+([]:List Keyword).length+(if ([]:List Keyword).isEmpty then 0 else 1) < 30))=true:=by rfl)
  (hline:(apos.endLine == cpos.line)=true:=by rfl) (hs:starEach (e::es) X.env=(false,eval e X.env)::starEach es X.env:=by rfl) (hplain:(backTo cpos (starEach es X.env)).any (·.1)=false:=by rfl) :
  DE X (.Call (.Attribute o "append" apos) (e :: es) [] cpos) (eAppend f ga) := zdr (zvf xfb PySem.F.slot_list_append PySem.F.type_list_append zhv ho ha hbase hfew hline hs hplain) fun τ H Q hq0 => by
 obtain ⟨ρ,σ,st,v,st',a,rp,e,q⟩:=hq0;obtain ⟨x,st1,e1,e⟩:=zb e;refine ⟨ρ,σ,st,x,st1,a,rp,e1,fun ρ1 H1 u x1 rp1 a1=>?_⟩;split at e
 ·rename_i n _ hL;obtain ⟨ys,st2,e2,e⟩:=zb e;obtain ⟨p,vs,rfl,g1,g2⟩:=zdt rp1 a1 hL;refine ⟨.inl ⟨rfl,_,SqL.of g1⟩,ρ1,σ,st1,ys,st2,a.ext x1,rp1,e2,fun ρ2 H2 ws x2 rp2 a2=>?_⟩;split at e
  ·rename_i y xs hn;split at e
   ·rename_i hl;cases e;obtain ⟨w,rfl,a3⟩:=a2.one;obtain ⟨p',ep,hp,vs2,k1,k2⟩:=zef rp2 (a1.ext x2) hn (by intro z;cases z);cases ep;have E:Ext ρ2 H2 ρ2 (upd H2 p (.lst (vs2++[w]))):=Ext.wr hp (zcc k1) _;exact ⟨p,vs2,w,rfl,rfl,k1,by rw[k2.length];exact hl,q _ _ _ ((x1.trans x2).trans E) (rp2.wr hp (zcc k1) ⟨_,zk,(k2.append (.cons a3 .nil)).ext E⟩) .non⟩
   ·cases e
  ·cases e
 ·cases e
theorem zqg (ho : DE X o f) (ha : DA X (e :: es) ga) (hbase : attributeBase o "extend" X.env (eval o X.env) = eval o X.env := by rfl)
  (hfew:((backTo cpos (starEach (e::es) X.env)).all (fun x=>!x.1) && (backToKw cpos (keywordEach [] X.env)).all (fun x=>x.1.isSome)
   && decide ((e::es).length+([]:List Keyword).length+(if ([]:List Keyword).isEmpty then 0 else 1) < 30))=true:=by rfl)
  (hline:(apos.endLine == cpos.line)=true:=by rfl) (hs:starEach (e::es) X.env=(false,eval e X.env)::starEach es X.env:=by rfl) (hplain:(backTo cpos (starEach es X.env)).any (·.1)=false:=by rfl) :
  DE X (.Call (.Attribute o "extend" apos) (e :: es) [] cpos) (eExtend f ga) := zdr (zvf xfb PySem.F.slot_list_extend PySem.F.type_list_extend zma ho ha hbase hfew hline hs hplain) fun τ H Q hq0 => by
 obtain ⟨ρ,σ,st,v,st',a,rp,e,q⟩:=hq0;obtain ⟨x,st1,e1,e⟩:=zb e;refine ⟨ρ,σ,st,x,st1,a,rp,e1,fun ρ1 H1 u x1 rp1 a1=>?_⟩;split at e
 ·rename_i n _ hL;obtain ⟨ys,st2,e2,e⟩:=zb e;obtain ⟨p,vs,rfl,g1,g2⟩:=zdt rp1 a1 hL;refine ⟨.inl ⟨rfl,_,SqL.of g1⟩,ρ1,σ,st1,ys,st2,a.ext x1,rp1,e2,fun ρ2 H2 ws x2 rp2 a2=>?_⟩;split at e
  ·rename_i y xs hn;split at e
   ·rename_i zs hz;split at e
    ·rename_i hl;cases e;obtain ⟨w,rfl,a3⟩:=a2.one;obtain ⟨p',ep,hp,vs2,k1,k2⟩:=zef rp2 (a1.ext x2) hn (by intro z;cases z);cases ep;obtain ⟨b,ws2,rfl,m1,m2⟩:=zdt rp2 a3 hz;have E:Ext ρ2 H2 ρ2 (upd H2 p (.lst (vs2++ws2))):=Ext.wr hp (zcc k1) _;exact ⟨p,b,vs2,ws2,rfl,rfl,k1,m1,by rw[k2.length,m2.length];exact hl,q _ _ _ ((x1.trans x2).trans E) (rp2.wr hp (zcc k1) ⟨_,zk,(k2.append m2).ext E⟩) .non⟩
    ·cases e
   ·cases e
  ·cases e
 ·cases e
theorem zub (ho : DE X o f) (hbase : attributeBase o "clear" X.env (eval o X.env) = eval o X.env := by rfl) (hline : (apos.endLine == cpos.line) = true := by rfl) : DE X (.Call (.Attribute o "clear" apos) [] [] cpos) (eClear f) :=
 zdr (zwq xfb PySem.F.slot_list_clear PySem.F.type_list_clear zpi ho hbase hline) fun τ H Q hq0=>by
 obtain ⟨ρ,σ,st,v,st',a,rp,e,q⟩:=hq0;obtain ⟨x,st1,e1,e⟩:=zb e;refine ⟨ρ,σ,st,x,st1,a,rp,e1,fun ρ1 H1 u x1 rp1 a1=>?_⟩;split at e
 ·split at e
  ·rename_i n _ xs hn;cases e;obtain ⟨p,rfl,hp,vs2,k1,k2⟩:=zef rp1 a1 hn (by intro z;cases z);have E:Ext ρ1 H1 ρ1 (upd H1 p (.lst [])):=Ext.wr hp (zcc k1) _;exact ⟨.inl ⟨rfl,_,SqL.of k1⟩,p,vs2,rfl,rfl,k1,q _ _ _ (x1.trans E) (rp1.wr hp (zcc k1) ⟨_,zk,.nil⟩) .non⟩
  ·cases e
 ·cases e
noncomputable def eFz (f:SE):SE:=fun σ st=>(f σ st).bind fun x st1=>match x with
 | .ref n=>match st1[n]? with
  | some (.lst xs)=>.ok (.lst xs) (st1.set n .dead)
  | _=>.stuck
 | _=>.stuck
theorem d_fz (ho:DE X o f):DE X o (eFz f):=zdr ho fun τ H Q hq0=>by
 obtain ⟨ρ,σ,st,v,st',a,rp,e,q⟩:=hq0;obtain ⟨x,st1,e1,e⟩:=zb e;refine ⟨ρ,σ,st,x,st1,a,rp,e1,fun ρ1 H1 u x1 rp1 a1=>?_⟩;split at e
 ·rename_i n;split at e
  ·rename_i xs hn;cases e;obtain ⟨p,rfl,hp,vs2,k1,k2⟩:=zef rp1 a1 hn (by intro z;cases z);have hlen:=(xbn.mp hp).1;obtain ⟨E,R⟩:=rp1.kill hlen;refine q _ _ _ (x1.trans E) R (.lst k1 ⟨fun z=>?_,fun z=>(rp1.gh p z).2 (xcx hp)⟩ (k2.ext E));obtain ⟨i,hi,e2⟩:=xdx z;have e3:(ρ1.m.set n none)[i]?=some (some p):=by rw[xbi hi,e2]
   by_cases hin:i=n
   ·subst hin;rw[xdj hlen] at e3;simp at e3
   ·rw[xcw (xeg hin)] at e3;exact hin (rp1.inj i n p e3 hp)
  ·cases e
 ·cases e
end
noncomputable def sNx:SS:=fun σ st=>.ok (.nx σ) st
noncomputable def sBrk:SS:=fun σ st=>.ok (.brk σ) st
noncomputable def sCt:SS:=fun σ st=>.ok (.ct σ) st
noncomputable def sRet (f:SE):SS:=fun σ st=>(f σ st).bind fun v st1=>.ok (.ret v) st1
noncomputable def sRetN:SS:=fun _ st=>.ok (.ret .non) st
noncomputable def sDrop (f:SE):SS:=fun σ st=>(f σ st).bind fun _ st1=>.ok (.nx σ) st1
noncomputable def sSet (i:Nat) (f:SE):SS:=fun σ st=>(f σ st).bind fun v st1=>.ok (.nx (σ.set i (some v))) st1
noncomputable def sSeq (s t:SS):SS:=fun σ st=>match s σ st with
 | .ok (.nx σ1) st1=>t σ1 st1
 | r=>r
noncomputable def sIf (c:ST) (s t:SS):SS:=fun σ st=>(c σ st).bind fun b st1=>if b=true then s σ st1 else t σ st1
noncomputable def sAug (i:Nat) (g:D->D->Store->Res D) (f:SE):SS:=fun σ st=>match σ[i]? with
 | some (some x)=>(f σ st).bind fun y st1=>(g x y st1).bind fun z st2=>.ok (.nx (σ.set i (some z))) st2
 | _=>.stuck
noncomputable def sSetIx (f g h:SE):SS:=fun σ st=>(h σ st).bind fun v st1=>(f σ st1).bind fun x st2=>(g σ st2).bind fun y st3=>match x,y with
 | .ref n,.int k=>match st3[n]? with
  | some (.lst xs)=>match ixN xs.length k with
   | some j=>.ok (.nx σ) (st3.set n (.lst (xs.set j v)))
   | none=>.stuck
  | _=>.stuck
 | _,_=>.stuck
section
variable {X:Cx} {e c o i value:Expr} {sm:Stmt} {rest:List Stmt} {f g h:SE} {s t:SS} {b:ST} {pos pos':Pos}
theorem zye:DSs X [] sNx:=zjr zsa fun E τ H hq0=>by
 obtain ⟨ρ,σ,st,fl,st',a,rp,e,q⟩:=hq0;cases e;exact q _ _ _ (.refl _ _) rp a
theorem zyc (he:DE X e f):DSt X (.Return (some e) pos) (sRet f):=zjc (zwe he) fun E τ H hq0=>by
 obtain ⟨ρ,σ,st,fl,st',a,rp,e,q⟩:=hq0;obtain ⟨x,st1,e1,e⟩:=zb e;cases e;exact ⟨ρ,σ,st,x,_,a,rp,e1,fun ρ1 H1 u x1 rp1 a1=>q _ _ _ x1 rp1 a1⟩
theorem ztq (he:DE X e f) (hs:swapsWith e none pos.line X.env=pure false:=by rfl):DSt X (.Expr e pos) (sDrop f):=zjc (znm he hs) fun E τ H hq0=>by
 obtain ⟨ρ,σ,st,fl,st',a,rp,e,q⟩:=hq0;obtain ⟨x,st1,e1,e⟩:=zb e;cases e;exact ⟨ρ,σ,st,x,_,a,rp,e1,fun ρ1 H1 u x1 rp1 a1=>q _ _ _ x1 rp1 (a.ext x1)⟩
theorem zbaf {K:Fg} {i:Nat} {f:SE}:∀E τ H,tDS K (sSet i f) E τ H->tAsg (tD K f) (gName i) E τ H:=fun E τ H hq0=>by
 obtain ⟨ρ,σ,st,fl,st',a,rp,e,q⟩:=hq0;obtain ⟨x,st1,e1,e⟩:=zb e;cases e;exact ⟨ρ,σ,st,x,_,a,rp,e1,fun ρ1 H1 u x1 rp1 a1=>q _ _ _ x1 rp1 ((a.ext x1).set a1 i)⟩
theorem zyb {i:Nat} {x:Str} (hN:X.N.Nodup) (hi:X.N[i]?=some x) (hx:L2.Loc X.env.scope x) (he:DE X e f) (hs:swapsWith e (some (.Name x pos')) pos.line X.env=pure false:=by rfl) (hf:X.fn x=true\/X.env.scope.names.lookup x=some .local:=by first | exact .inl rfl | exact .inr rfl | assumption) :
 DSt X (.Assign [.Name x pos'] e pos) (sSet i f):=zjc (zwd hN hi hx he hs hf) zbaf
theorem zyd (h1:DSt X sm s):DSs X [sm] s:=zjs h1
theorem ztr (h1:DSt X sm s) (h2:DSs X rest t):DSs X (sm::rest) (sSeq s t):=zjr (zhc h1 h2) fun E τ H hq0=>by
 obtain ⟨ρ,σ,st,fl,st',a,rp,e,q⟩:=hq0;unfold sSeq at e;split at e
 ·rename_i σ1 st1 e1;exact ⟨ρ,σ,st,_,st1,a,rp,e1,fun ρ1 H1 τ1 x1 rp1 a1=>⟨ρ1,σ1,st1,fl,st',a1,rp1,e,q.ext x1⟩⟩
 ·rename_i hne;refine ⟨ρ,σ,st,fl,st',a,rp,e,?_⟩;cases fl with
  | nx σ'=>exact absurd e (hne σ' st')
  | brk σ'=>exact q
  | ct σ'=>exact q
  | ret v=>exact q
theorem zbbk {a' b':List Stmt} (hc:DT X c b) (ha:DSs X a' s) (hb:DSs X b' t):DSt X (.If c a' b' pos) (sIf b s t):=zjc (zzq hc ha hb) fun E τ H hq0=>by
 obtain ⟨ρ,σ,st,fl,st',a,rp,e,q⟩:=hq0;obtain ⟨x,st1,e1,e⟩:=zb e;refine ⟨ρ,σ,st,x,st1,a,rp,e1,fun ρ1 H1 x1 rp1=>?_⟩;cases x with
 | true=>exact iteT ⟨ρ1,σ,st1,fl,st',a.ext x1,rp1,e,q.ext x1⟩
 | false=>exact iteF ⟨ρ1,σ,st1,fl,st',a.ext x1,rp1,e,q.ext x1⟩
theorem zpz (he:DE X value h) (ho:DE X o f) (hi:DE X i g) (ha:∀v,assign (.Subscript o i pos') X.env v=(do
   let ov ← holding [v] (eval o X.env)
   let iv ← holding [v,ov] (eval i X.env)
   standAt pos'
   holding [v,ov,iv] (setItem ov iv v)
   release [v,ov,iv] []):=by intro _;rfl)
  (hs:swapsWithSole [.Subscript o i pos'] value pos.line X.env=pure false:=by rfl) (hw:swappedStores [.Subscript o i pos'] value X.env=pure none:=by rfl)
  (h1:(assignEach [.Subscript o i pos'] X.env).map (·.2)=[assign (.Subscript o i pos') X.env]:=by rfl):DSt X (.Assign [.Subscript o i pos'] value pos) (sSetIx f g h) :=
 zjc (zwf he (zwh ho hi zom ha) hs hw h1) fun E τ H hq0=>by
 obtain ⟨ρ,σ,st,fl,st',a,rp,e,q⟩:=hq0;obtain ⟨v,st1,e1,e⟩:=zb e;obtain ⟨x,st2,e2,e⟩:=zb e;obtain ⟨y,st3,e3,e⟩:=zb e;refine ⟨ρ,σ,st,v,st1,a,rp,e1,fun ρ1 H1 u x1 rp1 a1=>?_⟩;refine ⟨ρ1,σ,st1,x,st2,a.ext x1,rp1,e2,fun ρ2 H2 w x2 rp2 a2=>?_⟩;refine ⟨ρ2,σ,st2,y,st3,a.ext (x1.trans x2),rp2,e3,fun ρ3 H3 t x3 rp3 a3=>?_⟩;split at e
 ·rename_i n k _;split at e
  ·rename_i xs hn;split at e
   ·rename_i j hj;cases e;cases a3;obtain ⟨p,rfl,hp,vs,g1,g2⟩:=zef rp3 (a2.ext x3) hn (by intro z;cases z);have E:Ext ρ3 H3 ρ3 (upd H3 p (.lst (vs.set j u))):=Ext.wr hp (zcc g1) _;refine ⟨p,vs,k,j,rfl,rfl,g1,by rw[g2.length];exact hj,?_⟩;exact q _ _ _ ((x1.trans (x2.trans x3)).trans E) (rp3.wr hp (zcc g1) ⟨_,zk,(g2.set (a1.ext (x2.trans x3)) j).ext E⟩) (a.ext ((x1.trans (x2.trans x3)).trans E))
   ·cases e
  ·cases e
 ·cases e
end
noncomputable abbrev SG:=D->DS->Option DS
noncomputable def gN (i:Nat):SG:=fun d σ=>some (σ.set i (some d))
noncomputable def gD (K:Fg) (b:SG):TG:=fun v τ H Q=>∃ρ σ d σ',AtS K ρ H σ τ/\At K ρ H d v/\b d σ=some σ'/\∀τ',AtS K ρ H σ' τ'->Q τ' H
noncomputable abbrev DG (X:Cx) (tg:Expr) (b:SG):Prop:=PG X tg (gD X.K b)
section
variable {X:Cx} {pos:Pos} {e:Expr} {es:List Expr} {t:SG} {u:List D->DS->Option DS}
theorem zbam {g g':TG} (h:PG X e g) (k:∀v τ H Q,g' v τ H Q->g v τ H Q):PG X e g':=fun pins s σ H v u Q I r q=>h pins s σ H v u Q I r (k _ _ _ _ q)
theorem ztv {i:Nat} {x:Str} (hN:X.N.Nodup) (hi:X.N[i]?=some x) (hx:L2.Loc X.env.scope x) (hf:X.fn x=true\/X.env.scope.names.lookup x=some .local:=by first | exact .inl rfl | exact .inr rfl | assumption):DG X (.Name x pos) (gN i) :=
 zbam (zsh hN hi hx hf) fun v τ H Q hq0=>by
 obtain ⟨ρ,σ,d,σ',a,b,e,q⟩:=hq0;cases e;exact q _ (a.set b i)
end
structure ExtG (ρ:Loc) (H:Hp) (ρ':Loc) (H':Hp):Prop where
 len:ρ.m.length<=ρ'.m.length
 old:∀(n:Nat) (a:Addr),n < ρ.m.length->ρ'.m[n]?=some (some a)->ρ.m[n]?=some (some a)
 keep:∀a o,H a=some o->some a∉ρ.m->H' a=some o/\some a∉ρ'.m
 gho:∀a∈ρ'.g,a∈ρ.g\/H a=none
 frz:∀a ob u,H a=some (.frz ob u)->H' a=some (.frz ob u)
theorem Ext.toG {ρ ρ':Loc} {H H':Hp} (x:Ext ρ H ρ' H'):ExtG ρ H ρ' H':=⟨x.len,x.old,x.keep,fun a h=>.inl (by rw[← x.gho];exact h),x.frz⟩
theorem ExtG.then {ρ ρ1 ρ2:Loc} {H H1 H2:Hp} (a:ExtG ρ H ρ1 H1) (b:Ext ρ1 H1 ρ2 H2):ExtG ρ H ρ2 H2 :=
 ⟨xbb a.len b.len,fun n c h e=>a.old n c h (b.old n c (xbc h a.len) e),fun c o e n=>by
  obtain ⟨e1,n1⟩:=a.keep c o e n
  exact b.keep c o e1 n1,fun c h=>a.gho c (by rw[← b.gho];exact h),fun c ob u e=>b.frz c ob u (a.frz c ob u e)⟩
theorem ExtG.out {ρ ρ':Loc} {H H':Hp} (x:ExtG ρ H ρ' H') {a:Addr} {o:HO} (h:H a=some o) (n:Out ρ a):H' a=some o/\Out ρ' a :=
 ⟨(x.keep a o h n.1).1,(x.keep a o h n.1).2,fun z=>by
  rcases x.gho a z with q | q
  ·exact n.2 q
  ·rw[h] at q;cases q⟩
theorem ExtG.mv {ρ ρ':Loc} {H H':Hp} (x:ExtG ρ H ρ' H'):Mv ρ H ρ' H':=⟨fun h n=>x.out h n,x.len,x.old⟩
theorem At.extG {K:Fg} {ρ ρ':Loc} {H H':Hp} (x:ExtG ρ H ρ' H') {d:D} {v:V} (h:At K ρ H d v):At K ρ' H' d v:=h.mv x.mv
theorem Ls.extG {K:Fg} {ρ ρ':Loc} {H H':Hp} {a:Addr} {vs:List V} (x:ExtG ρ H ρ' H') (h:Ls K ρ H a vs):Ls K ρ' H' a vs:=h.mv x.mv
structure ItOk (K:Fg) (ρ:Loc) (H:Hp) (J:It) (xs:List D):Prop where
 item:∀ρ2 H2,ExtG ρ H ρ2 H2->∀(i:Nat) (x:D),xs[i]?=some x->J.go i H2/\∀y H3,J.yld i H2 y H3->Ext ρ2 H2 ρ2 H3/\∀st,Rep K ρ2 st H2->Rep K ρ2 st H3/\At K ρ2 H3 x y
 done:∀ρ2 H2,ExtG ρ H ρ2 H2->∀i:Nat,xs.length<=i->J.stop i H2
noncomputable def iD (K:Fg) (f:SA):TI:=fun τ H R=>∃ρ σ st xs st',AtS K ρ H σ τ/\Rep K ρ st H/\f σ st=.ok xs st'/\∀ρ' H' J,Ext ρ H ρ' H'->Rep K ρ' st' H'->ItOk K ρ' H' J xs->R J H'
noncomputable abbrev DI (X:Cx) (tg iter:Expr) (f:SA):Prop:=PI X tg iter (iD X.K f)
noncomputable def seqV:D->Option (List D)
 | .tup xs=>some xs
 | .lst xs=>some xs
 | .scr xs=>some xs
 | _=>none
noncomputable def iSeq (f:SE):SA:=fun σ st=>(f σ st).bind fun x st1=>match seqV x with
 | some xs=>.ok xs st1
 | none=>.stuck
noncomputable def rng (lo:Int) (n:Nat):List D:=(List.range n).map fun (i:Nat)=>D.int (lo+i)
noncomputable def iR1 (g:SA):SA:=fun σ st=>(g σ st).bind fun xs st1=>match xs with
 | [.int j]=>if -(2 ^ 62)<=j/\j < 2 ^ 62 then .ok (rng 0 j.toNat) st1 else .stuck
 | _=>.stuck
noncomputable def iR2 (g:SA):SA:=fun σ st=>(g σ st).bind fun xs st1=>match xs with
 | [.int i,.int j]=>if -(2 ^ 62)<=i/\i < 2 ^ 62/\-(2 ^ 62)<=j/\j < 2 ^ 62 then .ok (rng i (j - i).toNat) st1 else .stuck
 | _=>.stuck
theorem zdq {lo:Int} {n i:Nat} {x:D} (h:(rng lo n)[i]?=some x):i < n/\x=.int (lo+i):=by
 unfold rng at h;rw[xcg] at h;rcases xec i n with z | z
 ·rw[xfw z] at h;exact ⟨z,(xca h).symm⟩
 ·rw[xfl (by rw[xho];exact z)] at h;cases h
theorem ztd {K:Fg} {ρ:Loc} {H:Hp} {lo:Int} {n:Nat}:ItOk K ρ H (Itr lo n) (rng lo n) where
 item:=fun ρ2 H2 x i d e=>by
  obtain ⟨h1,rfl⟩:=zdq e;refine ⟨h1,fun y H3 hy=>?_⟩;obtain ⟨rfl,rfl⟩:=hy;exact ⟨.refl _ _,fun _ r=>⟨r,.int _⟩⟩
 done:=fun ρ2 H2 x i h=>by
  unfold rng at h;rw[xbk,xho] at h;exact h
section
variable {X:Cx} {tg l a b:Expr} {f:SE} {g:SA} {p pos:Pos}
theorem zwg {t t':TI} (h:PI X tg l t) (k:∀τ H R,t' τ H R->t τ H R):PI X tg l t':=fun pins s σ H R I q=>h pins s σ H R I (k _ _ _ q)
theorem zzr {t t':TI} (h:PI X tg l t) (h':PI X tg l t'):PI X tg l (fun τ H R=>t τ H R\/t' τ H R):=fun pins s σ H R I q=>by
 rcases q with q | q
 ·exact h pins s σ H R I q
 ·exact h' pins s σ H R I q
theorem zod {K:Fg} {ρ:Loc} {H:Hp} {p:Addr} {xs:List D} {vs:List V} (hs:∀ρ2 H2,ExtG ρ H ρ2 H2->SqL K H2 p vs) (al:AtAll K ρ H xs vs):ItOk K ρ H (Itl K p) xs where
 item:=fun ρ2 H2 x i d e=>by
  obtain ⟨v,hv,a⟩:=al.get e;refine ⟨⟨vs,v,hs _ _ x,hv⟩,fun y H3 hy=>?_⟩;obtain ⟨rfl,h2⟩:=hy;have:=h2 vs (hs _ _ x);rw[hv] at this;cases this;exact ⟨.refl _ _,fun _ r=>⟨r,a.extG x⟩⟩
 done:=fun ρ2 H2 x i h=>⟨vs,hs _ _ x,by rw[al.length];exact h⟩
theorem zzg {K:Fg} {ρ:Loc} {H:Hp} {p:Addr} {xs:List D} {vs:List V} (hs:∀ρ2 H2,ExtG ρ H ρ2 H2->SqT K H2 p vs) (al:AtAll K ρ H xs vs):ItOk K ρ H (Itt K p) xs where
 item:=fun ρ2 H2 x i d e=>by
  obtain ⟨v,hv,a⟩:=al.get e;refine ⟨⟨vs,v,hs _ _ x,hv⟩,fun y H3 hy=>?_⟩;obtain ⟨rfl,h2⟩:=hy;have:=h2 vs (hs _ _ x);rw[hv] at this;cases this;exact ⟨.refl _ _,fun _ r=>⟨r,a.extG x⟩⟩
 done:=fun ρ2 H2 x i h=>⟨vs,hs _ _ x,by rw[al.length];exact h⟩
theorem zyi (hl:DE X l f):DI X tg l (iSeq f):=zwg (zzr (znn hl) (zsg hl)) fun τ H R hq0=>by
 obtain ⟨ρ,σ,st,xs,st',a,rp,e,q⟩:=hq0;obtain ⟨x,st1,e1,e⟩:=zb e;cases x with
 | tup ys =>
  cases e;refine .inr ⟨ρ,σ,st,_,_,a,rp,e1,fun ρ1 H1 u x1 rp1 a1=>?_⟩;cases a1 with
  | tup h1 h2 h3=>exact ⟨_,rfl,⟨_,SqT.of h1⟩,q _ _ _ x1 rp1 (zzg (fun ρ2 H2 x2=>SqT.of (x2.out h1 h2).1) h3)⟩
 | lst ys =>
  cases e;refine .inl ⟨ρ,σ,st,_,_,a,rp,e1,fun ρ1 H1 u x1 rp1 a1=>?_⟩;cases a1 with
  | lst h1 h2 h3=>exact ⟨_,rfl,⟨_,SqL.of h1⟩,q _ _ _ x1 rp1 (zod (fun ρ2 H2 x2=>SqL.of (x2.out h1 h2).1) h3)⟩
 | scr ys =>
  cases e;refine .inl ⟨ρ,σ,st,_,_,a,rp,e1,fun ρ1 H1 u x1 rp1 a1=>?_⟩;cases a1 with
  | scr h1 h3=>exact ⟨_,rfl,⟨_,h1.sq⟩,q _ _ _ x1 rp1 (zod (fun ρ2 H2 x2=>(h1.extG x2).sq) h3)⟩
 | _=>cases e
theorem zmu (hg : Gl X "range") (hm : X.mg "range" = none) (ha : DA X [a] g) (hs : starEach [a] X.env = [(false, eval a X.env)] := by rfl) : DI X tg (.Call (.Name "range" p) [a] [] pos) (iR1 g) :=
 zwg (zlr hg hm ha hs) fun τ H R hq0=>by
 obtain ⟨ρ,σ,st,xs,st',a,rp,e,q⟩:=hq0;obtain ⟨x,st1,e1,e⟩:=zb e;split at e
 ·split at e
  ·rename_i hj;cases e;refine ⟨ρ,σ,st,_,_,a,rp,e1,fun ρ1 H1 u x1 rp1 a1=>?_⟩;obtain ⟨w,rfl,a2⟩:=a1.one;cases a2;exact ⟨_,rfl,hj.1,hj.2,q _ _ _ x1 rp1 ztd⟩
  ·cases e
 ·cases e
theorem zmt (hg : Gl X "range") (hm : X.mg "range" = none) (ha : DA X [a, b] g) (hs : starEach [a, b] X.env = [(false, eval a X.env), (false, eval b X.env)] := by rfl) (hs2 : starEach [b] X.env = [(false, eval b X.env)] := by rfl) : DI X tg (.Call (.Name "range" p) [a, b] [] pos) (iR2 g) :=
 zwg (zlq hg hm ha hs hs2) fun τ H R hq0=>by
 obtain ⟨ρ,σ,st,xs,st',a,rp,e,q⟩:=hq0;obtain ⟨x,st1,e1,e⟩:=zb e;split at e
 ·split at e
  ·rename_i hj;cases e;refine ⟨ρ,σ,st,_,_,a,rp,e1,fun ρ1 H1 u x1 rp1 a1=>?_⟩;obtain ⟨w,w2,rfl,a2,a3⟩:=a1.two;cases a2;cases a3;exact ⟨_,_,rfl,hj,q _ _ _ x1 rp1 ztd⟩
  ·cases e
 ·cases e
end
noncomputable def iDict (f:SE):SA:=fun σ st=>(f σ st).bind fun x st1=>match x with
 | .ref n=>match st1[n]? with
  | some (.dT kvs)=>.ok (rowsD (kvs.map (·.1))) (st1.set n (.fT kvs))
  | _=>.stuck
 | _=>.stuck
section
variable {X:Cx} {tg l:Expr} {f:SE}
end
noncomputable def forF (bd:SG) (body:SS):List D->SS
 | [],σ,st=>.ok (.nx σ) st
 | x::xs,σ,st=>match bd x σ with
  | none=>.stuck
  | some σ1=>match body σ1 st with
   | .ok (.nx σ2) st2=>forF bd body xs σ2 st2
   | .ok (.ct σ2) st2=>forF bd body xs σ2 st2
   | .ok (.brk σ2) st2=>.ok (.nx σ2) st2
   | r=>r
noncomputable def sFor (it:SA) (bd:SG) (body:SS):SS:=fun σ st=>(it σ st).bind fun xs st1=>forF bd body xs σ st1
noncomputable def whileF (c:ST) (body:SS):Nat->SS
 | 0,_,_=>.stuck
 | n+1,σ,st=>(c σ st).bind fun b st1=>if b=true then (match body σ st1 with
  | .ok (.nx σ2) st2=>whileF c body n σ2 st2
  | .ok (.ct σ2) st2=>whileF c body n σ2 st2
  | .ok (.brk σ2) st2=>.ok (.nx σ2) st2
  | r=>r) else .ok (.nx σ) st1
noncomputable def wCap:Nat:=1000000
noncomputable def sWhile (c:ST) (body:SS):SS:=whileF c body wCap
theorem zig {α:Type} {xs:List α} {i:Nat} (h:i < xs.length):∃x,xs[i]?=some x/\xs.drop i=x::xs.drop (i+1):=⟨xs[i],xbi h,xfq h⟩
section
variable {X:Cx} {tg iter c:Expr} {body:List Stmt} {it:SA} {bd:SG} {b:SS} {t:ST} {pos:Pos}
theorem zyf (hp:PassesOwn (model X.prog X.w) X.A X.env X.xe) (hc:X.calm=true) (hi:DI X tg iter it) (hg:DG X tg bd) (hb:DSs X body b) (hs:∀x,foldedSetIterable iter X.env x=pure x:=by intro _;rfl) :
  DSt X (.For tg iter body [] pos) (sFor it bd b):=zjc (zsd hp hc hi hg hb hs) fun E τ H hq0=>by
 obtain ⟨ρ,σ,st,fl,st',a,rp,e,q⟩:=hq0;obtain ⟨xs,st1,e1,e⟩:=zb e;refine ⟨ρ,σ,st,xs,st1,a,rp,e1,fun ρ1 H1 J x1 rp1 ok=>?_⟩;have q1:=q.ext x1;refine ⟨fun i m τ' H'=>i+m=xs.length/\∃ρ2 σ2 st2,Ext ρ1 H1 ρ2 H'/\AtS X.K ρ2 H' σ2 τ'/\Rep X.K ρ2 st2 H'/\forF bd b (xs.drop i) σ2 st2=.ok fl st',⟨xs.length,by lia,ρ1,σ,st1,.refl _ _,a.ext x1,rp1,e⟩,?_⟩;rintro i m τ' H' ⟨him,ρ2,σ2,st2,x2,a2,rp2,e2⟩;rcases xec i xs.length with hlt | hge
 ·obtain ⟨x,hx,hd⟩:=zig hlt;rw[hd] at e2;obtain ⟨go,yl⟩:=ok.item ρ2 H' x2.toG i x hx;refine .inr ⟨go,fun τ3 H3=>∃ρ3 σ3 st3,Ext ρ1 H1 ρ3 H3/\AtS X.K ρ3 H3 σ3 τ3/\Rep X.K ρ3 st3 H3/\forF bd b (xs.drop (i+1)) σ3 st3=.ok fl st',fun τ3 H3 ⟨ρ3,σ3,st3,n1,n2,n3,n4⟩=>⟨m - 1,by lia,by lia,ρ3,σ3,st3,n1,n2,n3,n4⟩,fun y H3 hy=>?_⟩;obtain ⟨y1,y4⟩:=yl y H3 hy;obtain ⟨y2,y3⟩:=y4 _ rp2;unfold forF at e2;cases hbd:bd x σ2 with
  | none=>rw[hbd] at e2;cases e2
  | some σ1 =>
   rw[hbd] at e2;dsimp only at e2;have X3:=x2.trans y1;refine ⟨ρ2,σ2,x,σ1,a2.ext y1,y3,hbd,fun τ4 a4=>?_⟩;cases hr:b σ1 st2 with
   | stuck=>rw[hr] at e2;cases e2
   | exc z w=>rw[hr] at e2;cases e2
   | ok fb st3 =>
    rw[hr] at e2;refine ⟨ρ2,σ1,st2,fb,st3,a4,y2,hr,?_⟩;cases fb with
    | nx σ3=>exact fun ρ' H'' τ5 x5 rp5 a5=>⟨ρ',σ3,st3,X3.trans x5,a5,rp5,e2⟩
    | ct σ3=>exact fun ρ' H'' τ5 x5 rp5 a5=>⟨ρ',σ3,st3,X3.trans x5,a5,rp5,e2⟩
    | brk σ3 =>
     dsimp only at e2;cases e2;exact fun ρ' H'' τ5 x5 rp5 a5=>q1 _ _ _ (X3.trans x5) rp5 a5
    | ret v =>
     dsimp only at e2;cases e2;exact fun ρ' H'' u x5 rp5 a5=>q1 _ _ _ (X3.trans x5) rp5 a5
 ·rw[xem hge] at e2;unfold forF at e2;cases e2;exact .inl ⟨ok.done ρ2 H' x2.toG i hge,q1 _ _ _ x2 rp2 a2⟩
theorem zpy (hp:PassesOwn (model X.prog X.w) X.A X.env X.xe) (hc:DT X c t) (hb:DSs X body b):DSt X (.While c body [] pos) (sWhile t b):=zjc (zov hp hc hb) fun E τ H hq0=>by
 obtain ⟨ρ,σ,st,fl,st',a,rp,e,q⟩:=hq0;unfold sWhile at e;generalize wCap=n at e;refine ⟨fun m τ' H'=>∃ρ2 σ2 st2,Ext ρ H ρ2 H'/\AtS X.K ρ2 H' σ2 τ'/\Rep X.K ρ2 st2 H'/\whileF t b m σ2 st2=.ok fl st',⟨n,ρ,σ,st,.refl _ _,a,rp,e⟩,?_⟩;rintro m τ' H' ⟨ρ2,σ2,st2,x2,a2,rp2,e2⟩;cases m with
 | zero=>unfold whileF at e2;cases e2
 | succ m =>
  unfold whileF at e2;obtain ⟨x,st3,e3,e4⟩:=zb e2;refine ⟨ρ2,σ2,st2,x,st3,a2,rp2,e3,fun ρ3 H3 x3 rp3=>?_⟩;have X3:=x2.trans x3;cases x with
  | false =>
   rw[if_neg (by decide)] at e4;cases e4;exact iteF (q _ _ _ X3 rp3 (a2.ext x3))
  | true =>
   rw[if_pos rfl] at e4;refine iteT ⟨fun τ4 H4=>∃ρ4 σ4 st4,Ext ρ H ρ4 H4/\AtS X.K ρ4 H4 σ4 τ4/\Rep X.K ρ4 st4 H4/\whileF t b m σ4 st4=.ok fl st',fun τ4 H4 hh=>⟨m,xiu m,hh⟩,?_⟩;cases hr:b σ2 st3 with
   | stuck=>rw[hr] at e4;cases e4
   | exc z w=>rw[hr] at e4;cases e4
   | ok fb st5 =>
    rw[hr] at e4;refine ⟨ρ3,σ2,st3,fb,st5,a2.ext x3,rp3,hr,?_⟩;cases fb with
    | nx σ3=>exact fun ρ' H'' τ5 x5 rp5 a5=>⟨ρ',σ3,st5,X3.trans x5,a5,rp5,e4⟩
    | ct σ3=>exact fun ρ' H'' τ5 x5 rp5 a5=>⟨ρ',σ3,st5,X3.trans x5,a5,rp5,e4⟩
    | brk σ3 =>
     dsimp only at e4;cases e4;exact fun ρ' H'' τ5 x5 rp5 a5=>q _ _ _ (X3.trans x5) rp5 a5
    | ret v =>
     dsimp only at e4;cases e4;exact fun ρ' H'' u x5 rp5 a5=>q _ _ _ (X3.trans x5) rp5 a5
end
noncomputable def compF (bd:SG) (c:ST) (f:SE):List D->DS->Store->Res (List D)
 | [],_,st=>.ok [] st
 | x::xs,σ,st=>match bd x σ with
  | none=>.stuck
  | some σ1=>(c σ1 st).bind fun b st1=>if b=true then (f σ1 st1).bind fun y st2=>(compF bd c f xs σ1 st2).bind fun ys st3=>.ok (y::ys) st3 else compF bd c f xs σ1 st1
noncomputable def startD (k:Nat) (is:List Nat) (σ:DS):DS:=List.replicate k none++is.map fun i=>(σ[i]?).getD none
noncomputable def eComp (it:SA) (k:Nat) (is:List Nat) (bd:SG) (c:ST) (f:SE):SE:=fun σ st=>(it σ st).bind fun xs st1=>if xs.length<=sizeLine then (compF bd c f xs (startD k is σ) st1).bind fun ys st2=>.ok (.lst ys) st2 else .stuck
noncomputable def bYes:ST:=fun _ st=>.ok true st
theorem AtS.start {K:Fg} {ρ:Loc} {H:Hp} {σ:DS} {τ:St} (h:AtS K ρ H σ τ) (k:Nat) (is:List Nat):AtS K ρ H (startD k is σ) (startC k is τ):=by
 have app:∀{a c:DS} {b d:St},AtS K ρ H a b->AtS K ρ H c d->AtS K ρ H (a++c) (b++d):=fun h1 h2=>by
  induction h1 with
  | nil=>exact h2
  | cons r t ih=>exact .cons r ih
 refine app ?_ ?_
 ·induction k with
  | zero=>exact .nil
  | succ k ih=>exact .cons (fun d e=>nomatch e) ih
 ·induction is with
  | nil=>exact .nil
  | cons i is ih =>
   refine .cons (fun d e=>?_) ih;have e:(σ[i]?).getD none=some d:=e;have e':σ[i]?=some (some d):=by
    cases q:σ[i]? with
    | none=>rw[q] at e;cases e
    | some o=>rw[q] at e;exact congrArg some e
   obtain ⟨u,hu,a⟩:=h.get e';exact ⟨u,by show (τ[i]?).getD none=some u;rw[hu];rfl,a⟩
noncomputable def Loc.with (ρ:Loc) (p:Addr):Loc:=⟨ρ.m,p::ρ.g⟩
theorem zrh {ρ:Loc} {H:Hp} {p:Addr} {o:HO} (hp:H p=none):Mv ρ H (ρ.with p) (upd H p o):=⟨fun e n=>⟨by rw[zi (ze e hp)];exact e,n.1,fun z=>by
 rcases xcc.mp z with z | z
 ·exact ze e hp z
 ·exact n.2 z⟩,xbg _,fun _ _ _ e=>e⟩
theorem At.with {K:Fg} {ρ:Loc} {H:Hp} {p:Addr} {o:HO} (hp:H p=none) {d:D} {v:V} (h:At K ρ H d v):At K (ρ.with p) (upd H p o) d v:=h.mv (zrh hp)
theorem znv {ρ ρ':Loc} {H:Hp} {p:Addr} {o:HO} (hm:ρ'.m=ρ.m) (hg:p∈ρ.g) (hs:∀a,a∈ρ'.g->a∈ρ.g):Mv ρ H ρ' (upd H p o):=⟨fun e n=>⟨by rw[zi (by rintro rfl;exact n.2 hg)];exact e,by rw[hm];exact n.1,fun z=>n.2 (hs _ z)⟩,by rw[hm];exact xbg _,fun _ _ _ e=>by rw[hm] at e;exact e⟩
theorem At.grow {K:Fg} {ρ ρ':Loc} {H:Hp} {p:Addr} {o:HO} (hm:ρ'.m=ρ.m) (hg:p∈ρ.g) (hs:∀a,a∈ρ'.g->a∈ρ.g) {d:D} {v:V} (h:At K ρ H d v):At K ρ' (upd H p o) d v:=h.mv (znv hm hg hs)
theorem AtAll.grow {K:Fg} {ρ ρ':Loc} {H:Hp} {p:Addr} {o:HO} (hm:ρ'.m=ρ.m) (hg:p∈ρ.g) (hs:∀a,a∈ρ'.g->a∈ρ.g) {d:List D} {v:List V} (h:AtAll K ρ H d v):AtAll K ρ' (upd H p o) d v:=h.mv (znv hm hg hs)
theorem OAt.map {K:Fg} {ρ ρ':Loc} {H H':Hp} {a:Addr} {x:O} (k:∀d v,At K ρ H d v->At K ρ' H' d v) (fz:∀b ob u,H b=some (.frz ob u)->H' b=some (.frz ob u)) (same:H' a=H a) (h:OAt K ρ H x a):OAt K ρ' H' x a:=by
 have ka:∀{d:List D} {v:List V},AtAll K ρ H d v->AtAll K ρ' H' d v:=fun {d v} h=>by
  induction d generalizing v with
  | nil=>cases h;exact .nil
  | cons x xs ih=>cases h with | cons a b=>exact .cons (k _ _ a) (ih b)
 cases x with
 | lst xs=>obtain ⟨vs,q,r⟩:=h;exact ⟨vs,by rw[same];exact q,ka r⟩
 | dT kvs=>obtain ⟨vs,q,r⟩:=h;exact ⟨vs,by rw[same];exact q,Paired.mapP r fun p q z=>⟨z.1,k _ _ z.2⟩⟩
 | fT kvs=>obtain ⟨vs,ob,q,r⟩:=h;exact ⟨vs,ob,by rw[same];exact q,Paired.mapP r fun p q z=>⟨z.1,k _ _ z.2⟩⟩
 | dead=>exact h.elim
 | tab=>obtain ⟨c,ps,q,r⟩:=h;exact ⟨c,ps,by rw[same];exact q,r.map fz⟩
theorem Rep.with {K:Fg} {ρ:Loc} {st:Store} {H:Hp} {p:Addr} (r:Rep K ρ st H) (hp:H p=none) (vs:List V):Rep K (ρ.with p) st (upd H p (.lst vs)) :=
 ⟨r.len,r.inj,fun m b y e1 e2=>by
  have q:=r.obj m b y e1 e2;obtain ⟨u,hu⟩:=q.has;exact q.map (fun d v h=>h.with hp) (fun b ob u e=>by rw[zi (ze e hp)];exact e) (zi (ze hu hp)),fun a ha=>by
  rcases xcc.mp ha with rfl | ha
  ·exact ⟨⟨vs,zk⟩,(zdu r hp).1⟩
  ·obtain ⟨⟨ws,h1⟩,h2⟩:=r.gh a ha
   exact ⟨⟨ws,by rw[zi (ze h1 hp)];exact h1⟩,h2⟩,r.live⟩
theorem Rep.grow {K:Fg} {ρ ρ':Loc} {st:Store} {H:Hp} {p:Addr} (r:Rep K ρ st H) (hm:ρ'.m=ρ.m) (hg:p∈ρ.g) (hs:∀a,a∈ρ'.g->a∈ρ.g) (vs:List V):Rep K ρ' st (upd H p (.lst vs)) :=
 ⟨by rw[hm];exact r.len,by rw[hm];exact r.inj,fun m b y e1 e2=>by
  rw[hm] at e1;refine (r.obj m b y e1 e2).map (fun d v h=>h.grow hm hg hs) (fun b ob u e=>by rw[zi (by rintro rfl;obtain ⟨⟨_,z⟩,_⟩:=r.gh _ hg;rw[e] at z;cases z)];exact e) (zi ?_);rintro rfl;exact (r.gh b hg).2 (xcx e1),fun a ha=>by
  obtain ⟨⟨ws,h1⟩,h2⟩:=r.gh a (hs a ha);refine ⟨?_,by rw[hm];exact h2⟩;by_cases e:a=p
  ·subst e;exact ⟨vs,zk⟩
  ·exact ⟨ws,by rw[zi e];exact h1⟩,by rw[hm];exact r.live⟩
theorem AtS.map {K:Fg} {ρ ρ':Loc} {H H':Hp} {σ:DS} {τ:St} (k:∀d v,At K ρ H d v->At K ρ' H' d v) (h:AtS K ρ H σ τ):AtS K ρ' H' σ τ:=Paired.mapP h fun o v z d e=>by
 obtain ⟨u,e1,a⟩:=z d e;exact ⟨u,e1,k _ _ a⟩
section
variable {X:Cx} {tg iter elt:Expr} {ifs:List Expr} {it:SA} {bd:SG} {c:ST} {f:SE} {N:List Str} {k:Nat} {is:List Nat} {scope:Scope} {pos:Pos}
inductive CI (K:Fg) (bd:SG) (c:ST) (f:SE) (xs ys:List D) (st2:Store) (ρ1:Loc) (H1:Hp) (p:Addr) (i:Nat) (τ:St) (H':Hp):Prop where
 | mk {ρ2:Loc} {σ2:DS} {st3:Store} {acc:List D} {accV:List V} {zs:List D} (x2:ExtG ρ1 H1 ρ2 H') (hg:ρ2.g=p::ρ1.g) (hpp:H' p=some (.lst accV)) (hal:AtAll K ρ2 H' acc accV) (hli:acc.length<=i) (a2:AtS K ρ2 H' σ2 τ) (rp2:Rep K ρ2 st3 H') (e3:compF bd c f (xs.drop i) σ2 st3=.ok zs st2) (hac:acc++zs=ys):CI K bd c f xs ys st2 ρ1 H1 p i τ H'
theorem zyr {K:Fg} {τ:St} {H:Hp} {Q:V->Hp->Prop} {ρ:Loc} {σ:DS} {st st1 st2:Store} {xs ys:List D} (a:AtS K ρ H σ τ) (rp:Rep K ρ st H) (e1:it σ st=.ok xs st1) (hlen:xs.length<=sizeLine) (e2:compF bd c f xs (startD k is σ) st1=.ok ys st2)
 (fin:∀ρ1 H1 p ρ2 H' accV,Ext ρ H ρ1 H1->Rep K ρ1 st1 H1->H1 p=none->ExtG ρ1 H1 ρ2 H'->ρ2.g=p::ρ1.g->H' p=some (.lst accV)->AtAll K ρ2 H' ys accV->Rep K ρ2 st2 H'->Q (.ref p) H'):tComp (iD K it) k is (gD K bd) (tDT K c) (tD K f) τ H Q:=by
 refine ⟨ρ,σ,st,xs,st1,a,rp,e1,fun ρ1 H1 J x1 rp1 ok p hp=>?_⟩
 refine ⟨fun i m τ' H'=>i+m=xs.length/\CI K bd c f xs ys st2 ρ1 H1 p i τ' H',
  ⟨xs.length,by lia,.mk ?_ rfl zk .nil (xdh _) (((a.ext x1).start k is).map fun d v h=>h.with hp) (rp1.with hp []) e2 rfl⟩,?_⟩
 ·have E:Ext ρ1 H1 ρ1 (upd H1 p (.lst [])):=Ext.new hp _
  exact ⟨E.len,E.old,E.keep,fun a h=>by
   rcases xcc.mp h with rfl | h
   ·exact .inr hp
   ·exact .inl h,E.frz⟩
 rintro i m τ' H' ⟨him,@⟨ρ2,σ2,st3,acc,accV,zs,x2,hg,hpp,hal,hli,a2,rp2,e3,hac⟩⟩;have hpg:p∈ρ2.g:=by rw[hg];exact xcf
 rcases xec i xs.length with hlt | hge
 ·obtain ⟨x,hx,hd⟩:=zig hlt;rw[hd] at e3;obtain ⟨go,yl⟩:=ok.item ρ2 H' x2 i x hx
  refine .inr ⟨go,CI K bd c f xs ys st2 ρ1 H1 p (i+1),
   fun τ4 H4 hh=>⟨m - 1,by lia,by lia,hh⟩,fun y H3 hy=>?_⟩
  obtain ⟨y1,y4⟩:=yl y H3 hy;obtain ⟨y2,y3⟩:=y4 _ rp2;unfold compF at e3;cases hbd:bd x σ2 with
  | none=>rw[hbd] at e3;cases e3
  | some σ1 =>
   rw[hbd] at e3;dsimp only at e3;obtain ⟨bb,st4,e4,e5⟩:=zb e3;refine ⟨ρ2,σ2,x,σ1,a2.ext y1,y3,hbd,fun τ4 a4=>?_⟩;have hpm:some p∉ρ2.m:=(rp2.gh p hpg).2;have hpp3:=(y1.keep p _ hpp hpm).1;refine ⟨ρ2,σ1,st3,bb,st4,a4,y2,e4,fun ρ5 H5 x5 rp5=>?_⟩;have hpp5:=(x5.keep p _ hpp3 hpm).1;have hal5:=(hal.ext y1).ext x5;have g5:ρ5.g=p::ρ1.g:=x5.gho.trans hg;cases bb with
   | false =>
    rw[if_neg (by decide)] at e5;exact iteF (.mk ((x2.then y1).then x5) g5 hpp5 hal5 (xfn hli) (a4.ext x5) rp5 e5 hac)
   | true =>
    rw[if_pos rfl] at e5;obtain ⟨w,st6,e6,e7⟩:=zb e5;obtain ⟨zs',st7,e8,e9⟩:=zb e7;cases e9;refine iteT ⟨ρ5,σ1,st4,w,st6,a4.ext x5,rp5,e6,fun ρ6 H6 u x6 rp6 a6=>?_⟩;have hpm5:some p∉ρ5.m:=(x5.keep p _ hpp3 hpm).2;have hpp6:=(x6.keep p _ hpp5 hpm5).1;have g6:ρ6.g=p::ρ1.g:=x6.gho.trans g5;have hp6:p∈ρ6.g:=by rw[g6];exact xcf
    have hl6:accV.length<=i:=by rw[hal.length];exact hli
    refine ⟨accV,hpp6,xcr hl6 (xbc hlt hlen),.mk (acc:=acc++[w]) (accV:=accV++[u]) ?_ g6 zk ?_ (by rw[xbx];exact xdl hli) ?_ (rp6.grow rfl hp6 (fun _ h=>h) _) e8 (by rw[← hac,xcb];rfl)⟩
    ·have G:=((x2.then y1).then x5).then x6;refine ⟨G.len,G.old,fun b o e n=>?_,G.gho,fun b ob uu e=>?_⟩
     ·rw[zi (ze e hp)];exact G.keep b o e n
     ·rw[zi (ze e hp)];exact G.frz b ob uu e
    ·exact ((hal5.ext x6).append (.cons a6 .nil)).grow rfl hp6 (fun _ h=>h)
    ·exact (a4.ext (x5.trans x6)).map fun d v h=>h.grow rfl hp6 (fun _ h=>h)
 ·rw[xem hge] at e3;unfold compF at e3;cases e3;rw[xdo] at hac;subst hac;exact .inl ⟨ok.done _ _ x2 i hge,fin _ _ _ _ _ _ x1 rp1 hp x2 hg hpp hal rp2⟩
theorem zui {K:Fg}:∀τ H Q,tD K (eComp it k is bd c f) τ H Q->tComp (iD K it) k is (gD K bd) (tDT K c) (tD K f) τ H Q:=fun τ H Q hq0=>by
 obtain ⟨ρ,σ,st,v,st',a,rp,e,q⟩:=hq0;obtain ⟨xs,st1,e1,e⟩:=zb e;split at e
 ·rename_i hlen;obtain ⟨ys,st2,e2,e⟩:=zb e;cases e;refine zyr a rp e1 hlen e2 fun ρ1 H1 p ρ2 H' accV x1 rp1 hp x2 hg hpp hal rp2=>?_
  have hpg:p∈ρ2.g:=by rw[hg];exact xcf
  have hpm:some p∉ρ2.m:=(rp2.gh p hpg).2;have self:upd H' p (.lst accV)=H':=zol hpp;have sub:∀a,a∈(⟨ρ2.m,ρ1.g⟩:Loc).g->a∈ρ2.g:=fun b hb=>by rw[hg];exact xcv _ hb
  have E:Ext ρ1 H1 ⟨ρ2.m,ρ1.g⟩ H':=⟨x2.len,x2.old,x2.keep,rfl,x2.frz⟩
  have R:=rp2.grow (ρ':=⟨ρ2.m,ρ1.g⟩) rfl hpg sub accV;have L:=AtAll.grow (ρ:=ρ2) (ρ':=⟨ρ2.m,ρ1.g⟩) (o:=.lst accV) rfl hpg sub hal;rw[self] at R L;refine q _ _ _ (x1.trans E) R (.lst hpp ⟨hpm,fun z=>?_⟩ L);obtain ⟨⟨ws,h1⟩,_⟩:=rp1.gh p z;rw[hp] at h1;cases h1
 ·cases e
theorem zyn (hcalm:X.calm=true) (hi:DI X tg iter it) (hg:∀cl C fp s H,DG (cxC X N scope cl C fp s H) tg bd) (hc:∀cl C fp s H,PIf (cxC X N scope cl C fp s H) ifs (tDT X.K c)) (he:∀cl C fp s H,DE (cxC X N scope cl C fp s H) elt f)
 (S:CompScope X N k is scope) (hs:∀x,foldedSetIterable iter X.env x=pure x:=by intro _;rfl):DE X (.ListComp elt [⟨tg,iter,ifs,0⟩] scope pos) (eComp it k is bd c f):=zdr (zsj hcalm hi hg hc he S hs) zui
theorem ztp {i:Nat} {x:Str} {pos' spos:Pos} (hcalm:X.calm=true) (hN:X.N.Nodup) (hxi:X.N[i]?=some x) (hx:L2.Loc X.env.scope x) (hi:DI X tg iter it) (hg:∀cl C fp s H,DG (cxC X N scope cl C fp s H) tg bd)
  (hc:∀cl C fp s H,PIf (cxC X N scope cl C fp s H) ifs (tDT X.K c)) (he:∀cl C fp s H,DE (cxC X N scope cl C fp s H) elt f) (S:CompScope X N k is scope)
  (hsw:swapsWith (.ListComp elt [⟨tg,iter,ifs,0⟩] scope pos) (some (.Name x pos')) spos.line X.env=pure true:=by rfl)
  (hf:X.fn x=true\/X.env.scope.names.lookup x=some .local:=by first | exact .inl rfl | exact .inr rfl | assumption)
  (hs:∀x,foldedSetIterable iter X.env x=pure x:=by intro _;rfl):DSt X (.Assign [.Name x pos'] (.ListComp elt [⟨tg,iter,ifs,0⟩] scope pos) spos) (sSet i (eComp it k is bd c f)) :=
 zjc (zsc hcalm hN hxi hx hi hg hc he S hsw hf hs) fun E τ H h=>by
  obtain ⟨ρ,σ,st,fl,st',a,rp,e,q⟩:=h;obtain ⟨v,st1,e1,e⟩:=zb e;cases e;exact zui τ H _ ⟨ρ,σ,st,v,_,a,rp,e1,fun ρ' H' u x r t=>q _ _ _ x r ((a.ext x).set t i)⟩
theorem ztu {X:Cx}:PIf X [] (tDT X.K bYes):=fun pins s σ H Q I hq0=>by
 obtain ⟨ρ,σ',st,v,st',a,rp,e,q⟩:=hq0;cases e;exact zse pins s σ H Q I (q _ _ (.refl _ _) rp)
end
end Dd
namespace Dd
open PySem L2 PyProof.Rows
noncomputable def spD (K:Fg) (np:Nat) (F:DFn):Sp:=fun vs H Q _=>∃ρ ds st v st',AtAll K ρ H ds vs/\Rep K ρ st H/\F ds st=.ok v st'/\vs.length=np/\∀ρ' H' u,Ext ρ H ρ' H'->Rep K ρ' st' H'->At K ρ' H' v u->Q u H'
noncomputable def CalD (P:Program) (w:World) (K:Fg) (mg:Str->Option Value) (base:Heap) (x:Str) (k:Nat) (ps:List Str) (F:DFn):Prop:=Callee P w K mg base x k ps (spD K ps.length F)
noncomputable def fnD (n np:Nat) (body:SS):DFn:=fun ds st=>if ds.length=np then (match body (ds.map some++List.replicate (n - np) none) st with
 | .ok (.ret v) st'=>.ok v st'
 | .ok (.nx _) st'=>.ok .non st'
 | .exc x st'=>.exc x st'
 | _=>.stuck) else .stuck
section
variable {X:Cx} {x:Str} {k:Nat} {ps:List Str} {F:DFn} {p pos:Pos} {e:Expr} {es:List Expr} {g:SA}
theorem zys {K:Fg} {np:Nat} {f:SA} (hn:∀ds st v st',F ds st=.ok v st'->ds.length=np):∀τ H Q,tD K (eCall F f) τ H Q->tCall (spD K np F) [] E0 (tDA K f) τ H Q:=fun τ H Q hq0=>by
 obtain ⟨ρ,σ,st,v,st',a,rp,e,q⟩:=hq0;obtain ⟨x,st1,e1,e⟩:=zb e;refine ⟨ρ,σ,st,x,st1,a,rp,e1,fun ρ1 H1 u x1 rp1 a1=>?_⟩;show spD K np F (u++[]) H1 Q E0;rw[xdo];exact ⟨ρ1,x,st1,v,st',a1,rp1,e,by rw[a1.length];exact hn _ _ _ _ e,fun ρ' H' w x2=>q ρ' H' w (x1.trans x2)⟩
theorem zyp (c : CalD X.prog X.w X.K X.mg X.base x k ps F) (hn : ∀ ds st v st', F ds st = .ok v st' -> ds.length = ps.length) (hr : Room k X.A) (hg : Gl X x) (ha : DA X (e :: es) g) (hdb : (x == ("__debug__" : Str)) = false := by decide)
 (he:starEach (e::es) X.env=(false,eval e X.env)::starEach es X.env:=by rfl) (hpl:(backTo pos (starEach es X.env)).any (·.1)=false:=by rfl) :
 DE X (.Call (.Name x p) (e::es) [] pos) (eCall F g):=zdr (zoz c hr hg ha hdb he hpl) (zys hn)
theorem zck {n np:Nat} {b:SS} {ds:List D} {st st':Store} {v:D} (h:fnD n np b ds st=.ok v st'):ds.length=np:=by
 unfold fnD at h;split at h
 ·assumption
 ·cases h
end
theorem AtAll.some {K:Fg} {ρ:Loc} {H:Hp}:∀{ds:List D} {vs:List V},AtAll K ρ H ds vs->AtS K ρ H (ds.map Option.some) (vs.map Option.some)
 | _,_,.nil=>.nil
 | _,_,.cons a b=>.cons (fun d e=>by cases e;exact ⟨_,rfl,a⟩) (AtAll.some b)
theorem AtS.append {K:Fg} {ρ:Loc} {H:Hp}:∀{a c:DS} {b d:L2.St},AtS K ρ H a b->AtS K ρ H c d->AtS K ρ H (a++c) (b++d)
 | _,_,_,_,.nil,h=>h
 | _,_,_,_,.cons r t,h=>.cons r (AtS.append t h)
theorem AtS.nones {K:Fg} {ρ:Loc} {H:Hp}:∀n,AtS K ρ H (List.replicate n none) (List.replicate n none)
 | 0=>.nil
 | n+1=>.cons (fun d e=>nomatch e) (AtS.nones n)
theorem zur {K:Fg} {N:List Str} {np:Nat} {b:SS} {vs:List V} {H:Hp} {Q:VK} {E:XK} (h:spD K np (fnD N.length np b) vs H Q E):tDS K b {nx:=fun _ H'=>Q .non H',rt:=Q} (L2.start N vs) H:=by
 obtain ⟨ρ,ds,st,v,st',a,rp,e,hl,q⟩:=h;have hd:ds.length=np:=by rw[← a.length];exact hl
 unfold fnD at e;rw[if_pos hd] at e;have as:AtS K ρ H (ds.map Option.some++List.replicate (N.length - np) none) (L2.start N vs):=by
  unfold L2.start;rw[hl];exact a.some.append (.nones _)
 refine ⟨ρ,ds.map Option.some++List.replicate (N.length - np) none,st,?_⟩;cases hr:b (ds.map Option.some++List.replicate (N.length - np) none) st with
 | stuck=>rw[hr] at e;cases e
 | exc z w=>rw[hr] at e;cases e
 | ok fl st1 =>
  rw[hr] at e;cases fl with
  | ret w =>
   dsimp only at e;cases e;exact ⟨.ret v,st',as,rp,rfl,fun ρ' H' u x r t=>q ρ' H' u x r t⟩
  | nx σ =>
   dsimp only at e;cases e;exact ⟨.nx σ,st',as,rp,rfl,fun ρ' H' τ x r t=>q ρ' H' .non x r .non⟩
  | brk σ=>cases e
  | ct σ=>cases e
theorem zun {P:Program} {w:World} {K:Fg} {mg:Str->Option Value} {base h:Heap} {x:Str} {st:Stmt} {N ps:List Str} {k:Nat} {b:SS} (T:TopF K x st) (X:K.In h) (G:h.Ns mainGlobals mg) (S:FnScope N ps (defScope st))
  (bd:∀(kV doc pm:Value) (an:Option Addr) (cdv ct:Value) (us:List Value),us.length=ps.length->bindArgs (PySem.W.fnOf x x (defArgs st) (defBody st) (defScope st) .none kV doc pm an cdv ct) ⟨us,[]⟩=pure (ps.zip us))
  (hbody:∀(f:Addr) (cdv:Value) (A:Around) (outer:List Env) (s:Shared) (H:Hp) (E:XK),Room k (A.deeper (envOfC x (defScope st) s.heap.objs.size f cdv)) ->
   DSs (cxOf CX0 P w K mg base N x (defScope st) f cdv A outer s H E).nox (defBody st) b):CalD P w K mg base x (k+1) ps (fnD N.length ps.length b) :=
 zij T X G S bd (fun vs H Q E hh=>by obtain ⟨ρ,ds,st,v,st',a,rp,e,hl,q⟩:=hh;exact hl) fun f cdv A outer s H vs Q E hr hh=>⟨_,hbody f cdv A outer s H E hr,zur hh⟩
end Dd
namespace Dd
open PySem L2
noncomputable def oNeg:D->Store->Res D:=fun x st=>match x with
 | .int i=>.ok (.int (-i)) st
 | _=>.stuck
noncomputable def tru (st:Store):D->Option Bool
 | .non=>some false
 | .bl b=>some b
 | .int i=>some (i != 0)
 | .tup xs=>some !xs.isEmpty
 | d=>(asL st d).map fun xs=>!xs.isEmpty
noncomputable def eTru (f:SE):ST:=fun σ st=>(f σ st).bind fun v st1=>match tru st1 v with
 | some b=>.ok b st1
 | none=>.stuck
theorem zgk {K:Fg} {ρ:Loc} {H:Hp} {ds:List D} {vs:List V} (h:AtAll K ρ H ds vs):ds.isEmpty=vs.isEmpty:=by
 cases h<;>rfl
theorem zvr {K:Fg} {ρ:Loc} {st:Store} {H:Hp} (rp:Rep K ρ st H) {d:D} {u:V} {b:Bool} (a:At K ρ H d u) (e:tru st d=some b):TruV K u H b:=by
 unfold tru at e;split at e
 ·cases a;cases e;exact rfl
 ·cases a;cases e;exact rfl
 ·cases a;cases e;exact rfl
 ·cases e;cases a with
  | tup h1 h2 h3=>exact .inr (.inl ⟨_,SqT.of h1,by rw[zgk h3]⟩)
 ·obtain ⟨xs,h0,rfl⟩:=xdk.mp e;obtain ⟨p,vs,rfl,h1,h2⟩:=zdt rp a h0;exact .inl ⟨_,SqL.of h1,by rw[zgk h2]⟩
section
variable {X:Cx} {a b c e:Expr} {f f' f'':SE} {pos:Pos} {sm:Stmt}
theorem zbbr (h:DE X a f):DE X (.UnaryOp .USub a pos) (eUn oNeg f):=zdr (zban zvp h) fun τ H Q hq0=>by
 obtain ⟨ρ,σ,st,v,st',at',rp,e,q⟩:=hq0;obtain ⟨x,st1,e1,e⟩:=zb e;refine ⟨ρ,σ,st,x,st1,at',rp,e1,fun ρ1 H1 u x1 rp1 a1=>?_⟩;cases x<;>try (cases e;done)
 cases e;cases a1;exact ⟨_,rfl,q _ _ _ x1 rp1 (.int _)⟩
theorem zuc {op op':CmpOp} {r r':R2} {g g':D->D->Store->Res D} (ho:OpR X (compareOp op) r) (ho':OpR X (compareOp op') r') (hr:OpD X.K g r) (hr':OpD X.K g' r') (ha:DE X a f) (hb:DE X b f') (hc:DE X c f'')
 (hm:lastMarks [op,op'] [b,c]=false:=by with_unfolding_all rfl):DE X (.Compare a [op,op'] [b,c] pos) (eChain g g' f f' f''):=zdr (zoy ho ho' ha hb hc hm) (znz hr hr')
theorem zpv {op op':CmpOp} {r r':R2} {g g':D->D->Store->Res D} (ho:OpR X (compareOp op) r) (ho':OpR X (compareOp op') r') (hr:OpD X.K g r) (hr':OpD X.K g' r') (ha:DE X a f) (hb:DE X b f') (hc:DE X c f'')
 (hm:lastMarks [op,op'] [b,c]=false:=by with_unfolding_all rfl):DT X (.Compare a [op,op'] [b,c] pos) (eB (eChain g g' f f' f'')):=zve (zou ho ho' ha hb hc hm) fun τ H Q h=>znz hr hr' _ _ _ (eB_t _ _ _ h)
theorem zxx (h:DE X a f) (he:∀whole,isTrue a X.env whole=(do let v ← whole;standAt a.pos;holding [v] (truthy v)):=by intro _;rfl):DT X a (eTru f):=zve (zot h he) fun τ H Q hq0=>by
 obtain ⟨ρ,σ,st,v,st',at',rp,e,q⟩:=hq0;obtain ⟨x,st1,e1,e⟩:=zb e;refine ⟨ρ,σ,st,x,st1,at',rp,e1,fun ρ1 H1 u x1 rp1 a1=>?_⟩;split at e
 ·rename_i bb hb;cases e;exact ⟨_,zvr rp1 a1 hb,q _ _ x1 rp1⟩
 ·cases e
end
end Dd
namespace Dd
open PySem PySem.Spec PyProof.Rows L2
noncomputable def numF:Int->List D->List D
 | _,[]=>[]
 | n,x::xs=>.tup [.int n,x]::numF (n+1) xs
section
variable {X:Cx} {l:Expr} {f:SE} {elts:List Expr} {k j:Nat} {tpos p pos kpos cpos:Pos}
end
end Dd
namespace Dd
open PySem L2
noncomputable def bInt:List D->Store->Res D:=fun xs st=>match xs with
 | [.int i]=>.ok (.int i) st
 | [.bl k]=>.ok (.int (if k then 1 else 0)) st
 | _=>.stuck
theorem zux {K:Fg}:CaD K bInt (fun xs H Q=>(∃i,xs=[.int i]/\Q (.int i) H)\/∃k,xs=[.bl k]/\Q (.int (if k then 1 else 0)) H):=fun ρ H st xs us z st' Q rp aa e q=>by
 unfold bInt at e;split at e
 ·cases e;obtain ⟨u,rfl,a⟩:=aa.one;cases a;exact .inl ⟨_,rfl,q _ _ _ (.refl _ _) rp (.int _)⟩
 ·cases e;obtain ⟨u,rfl,a⟩:=aa.one;cases a;exact .inr ⟨_,rfl,q _ _ _ (.refl _ _) rp (.int _)⟩
 ·cases e
noncomputable def eCompM (it:SA) (k:Nat) (is:List Nat) (bd:SG) (c:ST) (f:SE):SE:=fun σ st=>(it σ st).bind fun xs st1=>if xs.length<=sizeLine then (compF bd c f xs (startD k is σ) st1).bind fun ys st2=>.ok (.ref st2.length) (st2++[.lst ys]) else .stuck
section
variable {X:Cx} {tg iter elt:Expr} {ifs:List Expr} {it:SA} {bd:SG} {c:ST} {f:SE} {N:List Str} {k:Nat} {is:List Nat} {scope:Scope} {pos:Pos}
end
noncomputable def plainE:Expr->Bool
 | .Starred _ _=>false
 | _=>true
theorem zjh {e:Expr} {es:List Expr} {env:Env} (h:plainE e=true):starEach (e::es) env=(false,eval e env)::starEach es env:=by
 cases e<;>first | rfl | cases h
theorem zqc {X:Cx} {e:Expr} {es:List Expr} {f:SE} {g:SA} (ha:DE X e f) (hr:DA X es g) (hp:plainE e=true:=by rfl):DA X (e::es) (aCons f g):=zty ha hr (zjh hp)
noncomputable def bBest (gt:Bool):List D->Store->Res D:=fun xs st=>match xs with
 | [x]=>match (seqOf st x).bind asInts with
  | some (n::ns)=>.ok (.int (bestI gt n ns)) st
  | _=>.stuck
 | _=>.stuck
noncomputable def pairsF:List D->List D->List D
 | x::xs,y::ys=>.tup [x,y]::pairsF xs ys
 | _,_=>[]
noncomputable def iZipT (g:SA):SA:=fun σ st=>(g σ st).bind fun xs st1=>match xs with
 | [.tup a,.tup b]=>.ok (pairsF a b) st1
 | _=>.stuck
section
variable {X:Cx} {a b:Expr} {g:SA} {elts:List Expr} {k:Nat} {tpos p pos:Pos}
end
noncomputable def sSetG (bd:SG) (f:SE):SS:=fun σ st=>(f σ st).bind fun v st1=>match bd v σ with
 | some σ1=>.ok (.nx σ1) st1
 | none=>.stuck
end Dd
namespace Dd
open PySem L2 PyProof.Rows
structure JE (X:Cx) (e:Expr) (f:SE):Prop where out:DE X e f
structure JT (X:Cx) (e:Expr) (f:ST):Prop where out:DT X e f
structure JW (X:Cx) (e:Expr) (f:ST):Prop where out:DW X e f
structure JA (X:Cx) (e:List Expr) (f:SA):Prop where out:DA X e f
structure JS (X:Cx) (s:Stmt) (f:SS):Prop where out:DSt X s f
structure JB (X:Cx) (s:List Stmt) (f:SS):Prop where out:DSs X s f
structure JG (X:Cx) (e:Expr) (b:SG):Prop where out:DG X e b
structure JI (X:Cx) (tg iter:Expr) (f:SA):Prop where out:DI X tg iter f
structure JIf (X:Cx) (ifs:List Expr) (c:ST):Prop where out:PIf X ifs (tDT X.K c)
theorem JW.pt {X:Cx} {e:Expr} {t:ST} (h:JW X e t):JT X e t:=⟨PW.pt h.out⟩
section
variable {X:Cx}
theorem zd {e:Expr} {i:Nat} (h:PE X e (tVar i)):JE X e (eVar i):=⟨zbbl h⟩
theorem zhi {e:Expr} {v:V} {d:D} (h:PE X e (tC v)) (k:∀ρ H,At X.K ρ H d v):JE X e (eC d):=⟨zua h k⟩
theorem zj {i j pos}:JE X (.Constant (.int i) j pos) (eC (.int i)):=⟨zbbt⟩
theorem zla {b j pos}:JE X (.Constant (.bool b) j pos) (eC (.bl b)):=⟨d_bl⟩
theorem zyl {j pos}:JE X (.Constant .none j pos) (eC .non):=⟨zbbq⟩
theorem zds {x j pos}:JE X (.Constant (.str x) j pos) (eC (.str x)):=⟨zbbn⟩
end
section
variable {X:Cx} {a b c:Expr} {f f' f'':SE} {pos:Pos}
theorem zbz {op:Operator} {r:R2} {g:D->D->Store->Res D} (ho:OpR X (binaryOp op) r) (hr:OpD X.K g r) (ha:JE X a f) (hb:JE X b f'):JE X (.BinOp a op b pos) (eOp g f f'):=⟨d_op ho hr ha.out hb.out⟩
theorem zyo {op:CmpOp} {r:R2} {g:D->D->Store->Res D} (ho:OpR X (compareOp op) r) (hr:OpD X.K g r) (ha:JE X a f) (hb:JE X b f') (hm:behindInMarks op b=false):JE X (.Compare a [op] [b] pos) (eOp g f f'):=⟨zbbu ho hr ha.out hb.out hm⟩
theorem zcz {op:CmpOp} {r:R2} {g:D->D->Store->Res D} (ho:OpR X (compareOp op) r) (hr:OpD X.K g r) (ha:JE X a f) (hb:JE X b f') (hm:behindInMarks op b=false):JT X (.Compare a [op] [b] pos) (eB (eOp g f f')):=⟨zxz ho hr ha.out hb.out hm⟩
end
section
variable {X:Cx} {a b:Expr} {rest:List Expr} {f f':SE} {t t':ST} {pos:Pos}
theorem zqd {op} (h:JE X a f):JE X (.BoolOp op [a] pos) f:=⟨zbbo h.out⟩
theorem zqn (ha:JE X a f) (hb:JE X (.BoolOp .And (b::rest) pos) f'):JE X (.BoolOp .And (a::b::rest) pos) (eAnd f f'):=⟨zbbv ha.out hb.out⟩
theorem zqe (ha:JE X a f):JE X (.UnaryOp .Not a pos) (eNot f):=⟨zbbp ha.out⟩
theorem zid {op} (h:JT X a t) (hop:op=.And\/op=.Or):JW X (.BoolOp op [a] pos) t:=⟨zxw h.out hop⟩
theorem zmq (ha:JT X a t) (hb:JW X (.BoolOp .Or (b::rest) pos) t'):JW X (.BoolOp .Or (a::b::rest) pos) (bOr t t'):=⟨zbbj ha.out hb.out⟩
theorem zfh (ha:JT X a t):JT X (.UnaryOp .Not a pos) (bNot t):=⟨zxy ha.out⟩
end
section
variable {X:Cx} {e:Expr} {es:List Expr} {f:SE} {g:SA} {pos:Pos}
theorem zc :JA X [] aNil:=⟨zyj⟩
theorem zfv {x1} (h:JA X es g):JE X (.Tuple es x1 pos) (eTup g):=⟨zbbm h.out⟩
theorem zex (h:JA X es g):JE X (.List es pos) (eLst g):=⟨zbbs h.out⟩
theorem zgo (h:JA X es g):JE X (.List es pos) (eLstM g):=⟨zym h.out⟩
end
section
variable {X:Cx} {a b e:Expr} {f f':SE} {pos:Pos} {lo hi:Option Expr} {l h:DS->Store->Res (Option Int)}
theorem zja (ha:JE X a f) (hb:JE X b f') (hs:PlainIx b):JE X (.Subscript a b pos) (eOp oIx f f'):=⟨d_ix ha.out hb.out hs⟩
end
section
variable {X:Cx} {x:Str} {p pos:Pos} {e:Expr} {es:List Expr} {f:SA} {id T:String} {r:List V->Hp->VK->Prop} {g:List D->Store->Res D}
theorem zp (hc : CallR X (.builtin id) r) (hr : CaD X.K g r) (hg : Gl X x) (hm : X.mg x = none) (hv : bootBuiltins x = some (.builtin id)) (ha : JA X (e :: es) f) (hn : x ≠ "__name__" := by decide) (hdb : (x == ("__debug__" : Str)) = false := by decide) (he : starEach (e :: es) X.env = (false, eval e X.env) :: starEach es X.env := by rfl) (hpl : (backTo pos (starEach es X.env)).any (·.1) = false := by rfl) : JE X (.Call (.Name x p) (e :: es) [] pos) (eCall g f) := ⟨zud hc hr hg hm hv ha.out hn hdb he hpl⟩
theorem zfw (hc : CallR X (.type T) r) (hr : CaD X.K g r) (hg : Gl X x) (hm : X.mg x = none) (hv : bootBuiltins x = some (.type T)) (ha : JA X (e :: es) f) (hn : x ≠ "__name__" := by decide) (hdb : (x == ("__debug__" : Str)) = false := by decide) (he : starEach (e :: es) X.env = (false, eval e X.env) :: starEach es X.env := by rfl) (hpl : (backTo pos (starEach es X.env)).any (·.1) = false := by rfl) : JE X (.Call (.Name x p) (e :: es) [] pos) (eCall g f) := ⟨zqk hc hr hg hm hv ha.out hn hdb he hpl⟩
end
section
variable {X:Cx} {a b c o i e value f':Expr} {f g h:SE} {pos pos' apos cpos:Pos}
end
section
variable {X:Cx} {o e i value:Expr} {es:List Expr} {f g h:SE} {ga:SA} {pos apos cpos:Pos}
theorem zfx (ho : JE X o f) (ha : JA X (e :: es) ga) (hbase : attributeBase o "append" X.env (eval o X.env) = eval o X.env := by rfl) (hfew : ((backTo cpos (starEach (e :: es) X.env)).all (fun x => !x.1) && (backToKw cpos (keywordEach [] X.env)).all (fun x => x.1.isSome)
 && decide ((e :: es).length + ([] : List Keyword).length + (if ([] : List Keyword).isEmpty then 0 else 1) < 30)) = true := by rfl) (hline : (apos.endLine == cpos.line) = true := by rfl) (hs : starEach (e :: es) X.env = (false, eval e X.env) :: starEach es X.env := by rfl) (hplain : (backTo cpos (starEach es X.env)).any (·.1) = false := by rfl) : JE X (.Call (.Attribute o "append" apos) (e :: es) [] cpos) (eAppend f ga) := ⟨zqm ho.out ha.out hbase hfew hline hs hplain⟩
theorem zmx (ho : JE X o f) (ha : JA X (e :: es) ga) (hbase : attributeBase o "extend" X.env (eval o X.env) = eval o X.env := by rfl) (hfew : ((backTo cpos (starEach (e :: es) X.env)).all (fun x => !x.1) && (backToKw cpos (keywordEach [] X.env)).all (fun x => x.1.isSome)
 && decide ((e :: es).length + ([] : List Keyword).length + (if ([] : List Keyword).isEmpty then 0 else 1) < 30)) = true := by rfl) (hline : (apos.endLine == cpos.line) = true := by rfl) (hs : starEach (e :: es) X.env = (false, eval e X.env) :: starEach es X.env := by rfl) (hplain : (backTo cpos (starEach es X.env)).any (·.1) = false := by rfl) : JE X (.Call (.Attribute o "extend" apos) (e :: es) [] cpos) (eExtend f ga) := ⟨zqg ho.out ha.out hbase hfew hline hs hplain⟩
theorem zqh (ho : JE X o f) (hbase : attributeBase o "clear" X.env (eval o X.env) = eval o X.env := by rfl) (hline : (apos.endLine == cpos.line) = true := by rfl) : JE X (.Call (.Attribute o "clear" apos) [] [] cpos) (eClear f) := ⟨zub ho.out hbase hline⟩
theorem zzz (ho:JE X o f):JE X o (eFz f):=⟨d_fz ho.out⟩
end
section
variable {X:Cx} {e c o i value:Expr} {sm:Stmt} {rest:List Stmt} {f g h:SE} {s t:SS} {b:ST} {pos pos':Pos}
theorem zce :JB X [] sNx:=⟨zye⟩
theorem zbb (he:JE X e f):JS X (.Return (some e) pos) (sRet f):=⟨zyc he.out⟩
theorem zeo (he:JE X e f) (hs:swapsWith e none pos.line X.env=pure false:=by rfl):JS X (.Expr e pos) (sDrop f):=⟨ztq he.out hs⟩
theorem zq {i:Nat} {x:Str} (hN:X.N.Nodup) (hi:X.N[i]?=some x) (hx:L2.Loc X.env.scope x) (he:JE X e f) (hs:swapsWith e (some (.Name x pos')) pos.line X.env=pure false:=by rfl) (hf:X.fn x=true\/X.env.scope.names.lookup x=some .local:=by first | exact .inl rfl | exact .inr rfl | assumption):JS X (.Assign [.Name x pos'] e pos) (sSet i f):=⟨zyb hN hi hx he.out hs hf⟩
theorem zm (h1:JS X sm s):JB X [sm] s:=⟨zyd h1.out⟩
theorem zf (h1:JS X sm s) (h2:JB X rest t):JB X (sm::rest) (sSeq s t):=⟨ztr h1.out h2.out⟩
theorem zew {a' b':List Stmt} (hc:JT X c b) (ha:JB X a' s) (hb:JB X b' t):JS X (.If c a' b' pos) (sIf b s t):=⟨zbbk hc.out ha.out hb.out⟩
theorem zif (he:JE X value h) (ho:JE X o f) (hi:JE X i g) (ha:∀v,assign (.Subscript o i pos') X.env v=(do
 let ov ← holding [v] (eval o X.env)
 let iv ← holding [v,ov] (eval i X.env)
 standAt pos'
 holding [v,ov,iv] (setItem ov iv v)
 release [v,ov,iv] []):=by intro _;rfl) (hs:swapsWithSole [.Subscript o i pos'] value pos.line X.env=pure false:=by rfl) (hw:swappedStores [.Subscript o i pos'] value X.env=pure none:=by rfl) (h1:(assignEach [.Subscript o i pos'] X.env).map (·.2)=[assign (.Subscript o i pos') X.env]:=by rfl):JS X (.Assign [.Subscript o i pos'] value pos) (sSetIx f g h):=⟨zpz he.out ho.out hi.out ha hs hw h1⟩
end
section
variable {X:Cx} {pos:Pos} {e:Expr} {es:List Expr} {t:SG} {u:List D->DS->Option DS}
theorem zbe {i:Nat} {x:Str} (hN:X.N.Nodup) (hi:X.N[i]?=some x) (hx:L2.Loc X.env.scope x) (hf:X.fn x=true\/X.env.scope.names.lookup x=some .local:=by first | exact .inl rfl | exact .inr rfl | assumption):JG X (.Name x pos) (gN i):=⟨ztv hN hi hx hf⟩
end
section
variable {X:Cx} {tg l a b:Expr} {f:SE} {g:SA} {p pos:Pos}
theorem zih (hl:JE X l f):JI X tg l (iSeq f):=⟨zyi hl.out⟩
theorem zcf (hg : Gl X "range") (hm : X.mg "range" = none) (ha : JA X [a] g) (hs : starEach [a] X.env = [(false, eval a X.env)] := by rfl) : JI X tg (.Call (.Name "range" p) [a] [] pos) (iR1 g) := ⟨zmu hg hm ha.out hs⟩
theorem zgn (hg : Gl X "range") (hm : X.mg "range" = none) (ha : JA X [a, b] g) (hs : starEach [a, b] X.env = [(false, eval a X.env), (false, eval b X.env)] := by rfl) (hs2 : starEach [b] X.env = [(false, eval b X.env)] := by rfl) : JI X tg (.Call (.Name "range" p) [a, b] [] pos) (iR2 g) := ⟨zmt hg hm ha.out hs hs2⟩
end
section
variable {X:Cx} {tg l:Expr} {f:SE}
end
section
variable {X:Cx} {tg iter c:Expr} {body:List Stmt} {it:SA} {bd:SG} {b:SS} {t:ST} {pos:Pos}
theorem zen (hp:PassesOwn (model X.prog X.w) X.A X.env X.xe) (hc:X.calm=true) (hi:JI X tg iter it) (hg:JG X tg bd) (hb:JB X body b) (hs:∀x,foldedSetIterable iter X.env x=pure x:=by intro _;rfl):JS X (.For tg iter body [] pos) (sFor it bd b):=⟨zyf hp hc hi.out hg.out hb.out hs⟩
theorem zie (hp:PassesOwn (model X.prog X.w) X.A X.env X.xe) (hc:JT X c t) (hb:JB X body b):JS X (.While c body [] pos) (sWhile t b):=⟨zpy hp hc.out hb.out⟩
end
section
variable {X:Cx} {tg iter elt:Expr} {ifs:List Expr} {it:SA} {bd:SG} {c:ST} {f:SE} {N:List Str} {k:Nat} {is:List Nat} {scope:Scope} {pos:Pos}
theorem zkn (hcalm:X.calm=true) (hi:JI X tg iter it) (hg:∀cl C fp s H,JG (cxC X N scope cl C fp s H) tg bd) (hc:∀cl C fp s H,JIf (cxC X N scope cl C fp s H) ifs c) (he:∀cl C fp s H,JE (cxC X N scope cl C fp s H) elt f) (S:CompScope X N k is scope) (hs:∀x,foldedSetIterable iter X.env x=pure x:=by intro _;rfl):JE X (.ListComp elt [⟨tg,iter,ifs,0⟩] scope pos) (eComp it k is bd c f):=⟨zyn hcalm hi.out (fun cl C fp s H=>(hg cl C fp s H).out) (fun cl C fp s H=>(hc cl C fp s H).out) (fun cl C fp s H=>(he cl C fp s H).out) S hs⟩
theorem zqa {i:Nat} {x:Str} {pos' spos:Pos} (hcalm:X.calm=true) (hN:X.N.Nodup) (hxi:X.N[i]?=some x) (hx:L2.Loc X.env.scope x) (hi:JI X tg iter it) (hg:∀cl C fp s H,JG (cxC X N scope cl C fp s H) tg bd) (hc:∀cl C fp s H,JIf (cxC X N scope cl C fp s H) ifs c) (he:∀cl C fp s H,JE (cxC X N scope cl C fp s H) elt f) (S:CompScope X N k is scope) (hsw:swapsWith (.ListComp elt [⟨tg,iter,ifs,0⟩] scope pos) (some (.Name x pos')) spos.line X.env=pure true:=by rfl) (hf:X.fn x=true\/X.env.scope.names.lookup x=some .local:=by first | exact .inl rfl | exact .inr rfl | assumption) (hs:∀x,foldedSetIterable iter X.env x=pure x:=by intro _;rfl):JS X (.Assign [.Name x pos'] (.ListComp elt [⟨tg,iter,ifs,0⟩] scope pos) spos) (sSet i (eComp it k is bd c f)):=⟨ztp hcalm hN hxi hx hi.out (fun cl C fp s H=>(hg cl C fp s H).out) (fun cl C fp s H=>(hc cl C fp s H).out) (fun cl C fp s H=>(he cl C fp s H).out) S hsw hf hs⟩
theorem zfs {X:Cx}:JIf X [] bYes:=⟨ztu⟩
end
section
variable {X:Cx} {x:Str} {k:Nat} {ps:List Str} {F:DFn} {p pos:Pos} {e:Expr} {es:List Expr} {g:SA}
theorem zdb (c : CalD X.prog X.w X.K X.mg X.base x k ps F) (hn : ∀ ds st v st', F ds st = .ok v st' -> ds.length = ps.length) (hr : Room k X.A) (hg : Gl X x) (ha : JA X (e :: es) g) (hdb : (x == ("__debug__" : Str)) = false := by decide) (he : starEach (e :: es) X.env = (false, eval e X.env) :: starEach es X.env := by rfl) (hpl : (backTo pos (starEach es X.env)).any (·.1) = false := by rfl) : JE X (.Call (.Name x p) (e :: es) [] pos) (eCall F g) := ⟨zyp c hn hr hg ha.out hdb he hpl⟩
end
section
theorem zcr {P:Program} {w:World} {K:Fg} {mg:Str->Option Value} {base h:Heap} {x:Str} {st:Stmt} {N ps:List Str} {k:Nat} {b:SS} (T:TopF K x st) (X:K.In h) (G:h.Ns mainGlobals mg) (S:FnScope N ps (defScope st)) (bd:∀(kV doc pm:Value) (an:Option Addr) (cdv ct:Value) (us:List Value),us.length=ps.length->bindArgs (PySem.W.fnOf x x (defArgs st) (defBody st) (defScope st) .none kV doc pm an cdv ct) ⟨us,[]⟩=pure (ps.zip us)) (hbody:∀(f:Addr) (cdv:Value) (A:Around) (outer:List Env) (s:Shared) (H:Hp) (E:XK),Room k (A.deeper (envOfC x (defScope st) s.heap.objs.size f cdv)) ->
 JB (cxOf CX0 P w K mg base N x (defScope st) f cdv A outer s H E).nox (defBody st) b):CalD P w K mg base x (k+1) ps (fnD N.length ps.length b):=zun T X G S bd (fun f cdv A outer s H E rr=>(hbody f cdv A outer s H E rr).out)
end
section
end
section
variable {X:Cx} {a b c e:Expr} {f f' f'':SE} {pos:Pos} {sm:Stmt}
theorem zqf (h:JE X a f):JE X (.UnaryOp .USub a pos) (eUn oNeg f):=⟨zbbr h.out⟩
theorem zqi {op op':CmpOp} {r r':R2} {g g':D->D->Store->Res D} (ho:OpR X (compareOp op) r) (ho':OpR X (compareOp op') r') (hr:OpD X.K g r) (hr':OpD X.K g' r') (ha:JE X a f) (hb:JE X b f') (hc:JE X c f'') (hm:lastMarks [op,op'] [b,c]=false:=by with_unfolding_all rfl):JE X (.Compare a [op,op'] [b,c] pos) (eChain g g' f f' f''):=⟨zuc ho ho' hr hr' ha.out hb.out hc.out hm⟩
theorem zmr {op op':CmpOp} {r r':R2} {g g':D->D->Store->Res D} (ho:OpR X (compareOp op) r) (ho':OpR X (compareOp op') r') (hr:OpD X.K g r) (hr':OpD X.K g' r') (ha:JE X a f) (hb:JE X b f') (hc:JE X c f'') (hm:lastMarks [op,op'] [b,c]=false:=by with_unfolding_all rfl):JT X (.Compare a [op,op'] [b,c] pos) (eB (eChain g g' f f' f'')):=⟨zpv ho ho' hr hr' ha.out hb.out hc.out hm⟩
theorem zem (h:JE X a f) (he:∀whole,isTrue a X.env whole=(do let v ← whole;standAt a.pos;holding [v] (truthy v)):=by intro _;rfl):JT X a (eTru f):=⟨zxx h.out he⟩
end
section
variable {X:Cx} {l:Expr} {f:SE} {elts:List Expr} {k j:Nat} {tpos p pos kpos cpos:Pos}
end
section
variable {X:Cx} {tg iter elt:Expr} {ifs:List Expr} {it:SA} {bd:SG} {c:ST} {f:SE} {N:List Str} {k:Nat} {is:List Nat} {scope:Scope} {pos:Pos}
end
section
theorem za {X:Cx} {e:Expr} {es:List Expr} {f:SE} {g:SA} (ha:JE X e f) (hr:JA X es g) (hp:plainE e=true:=by rfl):JA X (e::es) (aCons f g):=⟨zqc ha.out hr.out hp⟩
end
section
variable {X:Cx} {a b:Expr} {g:SA} {elts:List Expr} {k:Nat} {tpos p pos:Pos}
end
section
end
end Dd
namespace L2
open PySem PySem.Spec PyProof.Rows
section
variable {prog:Program} {w:World} {A:Around} {R:Result->Shared->Prop} {I:Addr} {fp wr:List Addr} {n:Nat} {P:Nat->Value->Prop} {St:Nat->Heap->Prop}
end
section
variable {prog:Program} {w:World} {A:Around} {E:Value->Shared->Prop} {s:Shared}
end
section
variable {X:Cx} {p pos cpos kpos:Pos} {l:Expr} {t:TA} {d:Int} {j:Nat}
end
section
open PySem.AutoSeq1
end
end L2
namespace Dd
open PySem L2
section
variable {X:Cx} {p pos cpos kpos:Pos} {l:Expr} {f:SA} {d:Int} {j:Nat}
end
section
variable {X:Cx} {o e:Expr} {es:List Expr} {f:SE} {ga:SA} {apos cpos:Pos}
end
end Dd
namespace L2
open PySem PySem.Spec PyProof.Rows
section
variable {X:Cx} {p pos cpos kpos upos:Pos} {l:Expr} {t:TA} {d:Int} {j:Nat}
end
end L2
namespace Dd
open PySem L2 PyProof.Rows
section
variable {X:Cx} {p pos cpos kpos upos:Pos} {l:Expr} {f:SA} {d:Int} {j:Nat}
end
end Dd
namespace L2
open PySem PySem.Spec PyProof.Rows
section
variable {X:Cx}
end
section
open PySem.AutoSeq1
variable (l:Addr) (items:Array Value) (n:Nat) (dd:Option Addr) (sl:Array (Option Value)) (x:Int) (u:Tok)
end
end L2
namespace Dd
open PySem L2 PyProof.Rows
end Dd
namespace L2
open PySem PySem.Spec PyProof.Rows PySem.W
section
variable {P:Program} {w:World} {B:Around} {sg:Shared}
end
end L2
namespace Dd
open PySem L2 PyProof.Rows
end Dd
namespace L2
open PySem PySem.Spec PyProof.Rows
end L2
namespace Dd
open PySem L2 PyProof.Rows
section
variable {X:Cx} {o e:Expr} {es:List Expr} {f:SE} {ga:SA} {apos cpos:Pos}
end
end Dd
namespace Dd
variable {α:Type} {motive:List α->Prop}
@[elab_as_elim] theorem len0 (us:List α) (hl:us.length=0) (h:motive []):motive us:=by rw[xif hl];exact h
@[elab_as_elim] theorem lenS {n:Nat} (us:List α) (hl:us.length=n+1) (h:∀a us,us.length=n->motive (a::us)):motive us:=by
 cases us with
 | nil=>cases hl
 | cons a us=>exact h a us (Nat.succ.inj hl)
@[elab_as_elim] theorem len1 (us:List α) (hl:us.length=1) (h:∀a,motive [a]):motive us:=lenS us hl fun a us hl=>len0 us hl (h a)
@[elab_as_elim] theorem len2 (us:List α) (hl:us.length=2) (h:∀a b,motive [a,b]):motive us:=lenS us hl fun a us hl=>len1 us hl (h a)
end Dd
namespace Dd
open PySem L2
noncomputable def iterF (s:DFn->DFn):Nat->DFn
 | 0=>fun _ _=>.stuck
 | n+1=>s (iterF s n)
theorem zku {P:Program} {w:World} {K:Fg} {mg:Str->Option Value} {base h:Heap} {x:Str} {st:Stmt} {N ps:List Str} {k:Nat} (T:TopF K x st) (X:K.In h) (G:h.Ns mainGlobals mg) (S:FnScope N ps (defScope st))
  (bd:∀(kV doc pm:Value) (an:Option Addr) (cdv ct:Value) (us:List Value),us.length=ps.length->bindArgs (PySem.W.fnOf x x (defArgs st) (defBody st) (defScope st) .none kV doc pm an cdv ct) ⟨us,[]⟩=pure (ps.zip us)):CalD P w K mg base x (k+1) ps (fun _ _=>.stuck) :=
 zij T X G S bd (fun vs H Q E hh=>by obtain ⟨ρ,ds,st,v,st',a,rp,e,hl,q⟩:=hh;exact hl) fun f cdv A outer s H vs Q E hr hh=>by obtain ⟨ρ,ds,st,v,st',a,rp,e,hl,q⟩:=hh;cases e
theorem CalD.iter {P:Program} {w:World} {K:Fg} {mg:Str->Option Value} {base:Heap} {x:Str} {ps:List Str} {L:Nat} {s:DFn->DFn} (h0:CalD P w K mg base x L ps (fun _ _=>.stuck)) (hl:∀F ds st v st',s F ds st=.ok v st'->ds.length=ps.length)
  (hs:∀F j,L<=j->(∀ds st v st',F ds st=.ok v st'->ds.length=ps.length)->CalD P w K mg base x j ps F->CalD P w K mg base x (j+1) ps (s F)):∀n,CalD P w K mg base x (L+n) ps (iterF s n):=fun n=>by
 have key:∀n,(∀ds st v st',iterF s n ds st=.ok v st'->ds.length=ps.length)/\CalD P w K mg base x (L+n) ps (iterF s n):=fun n=>by
  induction n with
  | zero=>exact ⟨fun _ _ _ _ h=>(by cases h),h0⟩
  | succ n ih=>exact ⟨hl _,hs _ _ (xbj _ _) ih.1 ih.2⟩
 exact (key n).2
end Dd
namespace L2
open PySem PySem.Spec PyProof.Rows
end L2
namespace Dd
open PySem L2 PyProof.Rows
end Dd
namespace L2
open PySem PySem.Spec PyProof.Rows
section
variable {X:Cx} {tg:Expr}
end
end L2
namespace Dd
open PySem L2
section
variable {X:Cx} {tg a b c:Expr} {g:SA} {p pos:Pos}
end
end Dd
namespace Dd
open PySem L2 PyProof.Rows
section
variable {X:Cx} {o e:Expr} {es:List Expr} {f:SE} {ga:SA} {apos cpos:Pos}
end
end Dd
namespace L2
open PySem PySem.Spec PyProof.Rows
variable {X:Cx} {e es:Expr} {te ts:TE} {pos p2:Pos}
end L2
namespace Dd
open PySem L2
section
variable {X:Cx} {e es:Expr} {f g:SE} {pos p2:Pos}
end
end Dd
namespace L2
open PySem PySem.Spec PyProof.Rows
section
variable {prog:Program} {w:World} {A:Around} {E:Value->Shared->Prop} {s:Shared}
end
variable {X:Cx} {e es:Expr} {te ts:TE} {pos p2:Pos}
end L2
namespace Dd
open PySem L2
section
variable {X:Cx} {e es:Expr} {f g:SE} {pos p2:Pos}
end
end Dd
namespace L2
open PySem PySem.Spec PyProof.Rows
theorem zna {X : Cx} : CallR X (.type "str") (fun xs H Q => ∃ i : Int, xs = [.int i] /\ -(2 ^ 60) < i /\ i < 2 ^ 60 /\ Q (.str (toString i)) H) := by
 intro pins s σ H xs us Q I r h;obtain ⟨i,rfl,h1,h2,q⟩:=h;obtain ⟨u,rfl,t,rfl⟩:=vals1 r;exact str_of_int_fit (N:=2 ^ 60) (by split<;>lia) (by decide) fun _=>⟨.str (toString i),H,I.tok _,⟨_,rfl⟩,q⟩
end L2
namespace Dd
open PySem L2
noncomputable def bStrI:List D->Store->Res D:=fun xs st=>match xs with
 | [.int i]=>if -(2 ^ 60) < i/\i < 2 ^ 60 then .ok (.str (toString i)) st else .stuck
 | _=>.stuck
theorem zuw {K:Fg}:CaD K bStrI (fun xs H Q=>∃i:Int,xs=[.int i]/\-(2 ^ 60) < i/\i < 2 ^ 60/\Q (.str (toString i)) H):=fun ρ H st xs us z st' Q rp aa e q=>by
 unfold bStrI at e;split at e
 ·split at e
  ·rename_i hi;cases e;obtain ⟨u,rfl,a⟩:=aa.one;cases a;exact ⟨_,rfl,hi.1,hi.2,q _ _ _ (.refl _ _) rp (.str _)⟩
  ·cases e
 ·cases e
end Dd
namespace L2
open PySem PySem.Spec PyProof.Rows
noncomputable def tRaise (X:Cx) (pins:List (Addr × Obj)) (C:Addr) (ta:TA):TS:=fun _ σ H=>ta σ H fun vs H1=>vs.length<=sizeLine /\
 ∀(s:Shared) (us:List Value) (h':Heap) (e:Addr),Inv X pins σ H1 s->Vals vs us->Heap.MadeExcOf s.heap h' e (.ref C) us->X.xe (.ref e) {s with heap:=h'}
section
variable {X:Cx} {x:Str} {C:Addr} {bmB bmN:List Value} {newId nid initId inN B Bn:String} {e:Expr} {es:List Expr} {ta:TA} {np cpos pos:Pos}
theorem zow (O:OwnCls x C bmB newId X.mg X.base) (Fn:ExcBaseFacts Bn newId inN bmN) (hBn:bmB.contains (.type Bn)=true) (FB:ExcBaseFacts B nid initId bmB) (hc:X.calm=true) (hg:Gl X x) (ha:PA X (e::es) ta)
  (hd : (x == ("__debug__" : Str)) = false := by decide) (he : starEach (e :: es) X.env = (false, eval e X.env) :: starEach es X.env := by rfl) (hpl : (backTo cpos (starEach es X.env)).any (·.1) = false := by rfl)
  {pins:List (Addr × Obj)} {s:Shared} {σ:St} {H:Hp} {D:Ends} (I:Inv X pins σ H s) (h:tRaise X pins C ta D σ H) :
  wpAny (model X.prog X.w) X.A (exec (.Raise (some (.Call (.Name x np) (e::es) [] cpos)) none pos) X.env) (SP X pins D) X.xe s:=by
 obtain ⟨tl,N,nm,q,bs,hdct,sn,sub,ab,col,dd,k0,k1,k2,k3,k5,mN,hC,hN,hni,T⟩:=O.obj;refine wpAny_Raise_call_subU (C:=C) (nm:=nm) (q:=q) (N:=N) (bs:=bs) (bm:=tl) (hdct:=hdct) (sn:=sn) (sub:=sub) (ab:=ab) (col:=col) (dd:=dd) (k0:=k0) (k1:=k1) (k2:=k2) (k3:=k3) (k5:=k5)
  Fn hBn FB (mN:=mN) (T.hasType FB.hasBase) (I.ok.hd hc) (by rw[he];show (false || (backTo cpos (starEach es X.env)).any (·.1))=false;rw[hpl];rfl) hni (zff I hg O.bound ⟨rfl,?_⟩ hd)
 have h2:=ha cpos pins s σ H _ I h;rw[he] at h2 ⊢;refine Calls.evalArgs_plain (xdi h2 (fun us s2 hq=>?_) fun _ _ y=>y);obtain ⟨vs,H1,I1,rv,hz,q⟩:=hq;exact ⟨rfl,by rw[← rv.length];exact hz,I1.bk _ _ hC,hN.keeps I1.bk,T.keeps I1.bk,fun h' e hm=>q s2 us h' e I1 rv hm⟩
end
noncomputable def Rec (h:Heap) (e:Addr) (cls:Value) (dx:Option Addr) (tb:Value):Prop:=∃oe vs,h.get? e=some oe/\oe.cls=cls/\oe.dict=dx/\oe.data=.fields vs/\vs[1]?=some tb/\vs[2]?=some .none
noncomputable def RecT (h:Heap) (T:Addr) (x:Value):Prop:=∃o ts,h.get? T=some o/\o.data=.fields ts/\ts[3]?=some x
structure Mv (ch fs:List Addr) (h h':Heap):Prop where
 keep:∀b o,b∉ch->b∉fs->h.get? b=some o->h'.get? b=some o
 slot:∀b o,b∉ch->b∈fs->h.get? b=some o->∃sl,h'.get? b=some {o with slots:=sl}
theorem Mv.trans {ch fs:List Addr} {h h1 h2:Heap} (a:Mv ch fs h h1) (b:Mv ch fs h1 h2):Mv ch fs h h2 :=
 ⟨fun c o x y e=>b.keep c o x y (a.keep c o x y e),fun c o x y e=>let ⟨_,e1⟩:=a.slot c o x y e;let ⟨sl,e2⟩:=b.slot c _ x y e1;⟨sl,e2⟩⟩
theorem Mv.mono {ch ch' fs:List Addr} {h h':Heap} (a:Mv ch fs h h') (k:∀b∈ch,b∈ch'):Mv ch' fs h h' :=
 ⟨fun b o x y e=>a.keep b o (fun z=>x (k b z)) y e,fun b o x y e=>a.slot b o (fun z=>x (k b z)) y e⟩
theorem Mv.set {fs:List Addr} {h:Heap} {a:Addr} {f:Obj->Obj}:Mv [a] fs h (h.update a f) :=
 ⟨fun b o x _ e=>by rw[xck _ _ (by rintro rfl;exact x (xbs.mpr rfl))];exact e,
  fun b o x _ e=>⟨o.slots,by rw[xck _ _ (by rintro rfl;exact x (xbs.mpr rfl))];exact e⟩⟩
theorem zjn {h:Heap} {e:Addr} {o:Obj} {vs:Array Value} {i:Nat} {x:Value} (he:h.get? e=some o) (hd:o.data=.fields vs) :
 (h.update e (Obj.mapFields (·.setIfInBounds i x))).get? e=some (o.mapFields (·.setIfInBounds i x)):=xgi _ he (Obj.isFreed_of_fields (xga hd _))
theorem zkb (o:Obj) (f:Array Value->Array Value):(o.mapFields f).cls=o.cls/\(o.mapFields f).dict=o.dict:=by
 obtain ⟨a,b,c,d⟩:=o;cases c<;>exact ⟨rfl,rfl⟩
section
variable {M:Model} {A:Around} {E:Value->Shared->Prop} {s:Shared}
theorem zel {e T:Addr} {cls x:Value} {dx:Option Addr} {fs:List Addr} {Q:Unit->Shared->Prop} (r:Rec s.heap e cls dx (.ref T)) (t:RecT s.heap T x) (hne:T≠e)
  (h:∀h',Mv [T] fs s.heap h'->Rec h' e cls dx (.ref T)->RecT h' T .none->Q () {s with heap:=h'}):wpAny M A (setFlight (.ref e) none) Q E s:=by
 obtain ⟨oe,vs,e1,e2,e3,e4,e5,e6⟩:=r;obtain ⟨o,ts,t1,t2,t3⟩:=t;have sz:=(xeo.mp t3).1;unfold setFlight;refine xba (xgw e1 e4 e5 ?_);rw[if_pos (by simp)];refine xgk t1 t2 sz (h _ .set ⟨oe,vs,?_,e2,e3,e4,e5,e6⟩ ⟨_,_,zjn t1 t2,xga t2 _,?_⟩)
 ·rw[xck _ _ hne];exact e1
 ·simp[sz]
theorem zjw {base:Heap} {env:Env} {outer:List Env} {L e:Addr} {oe:Obj} {vs:Array Value} {head:Value} {nx:Bool} {Q:Unit->Shared->Prop} (hfr:A.frames=some (env::outer)) (hl:s.heap.FunFrames base (env::outer)) (hf:env.frame=some L)
  (he:s.heap.get? e=some oe) (hd:oe.data=.fields vs) (hz:1 < vs.size) (h2:vs[2]?=some .none)
  (h:∀h',Mv [e] (frs (env::outer)) s.heap h'->Rec h' e oe.cls oe.dict (.ref s.heap.objs.size)->RecT h' s.heap.objs.size (rawInt L)->Q () {s with heap:=h'}) :
  wpAny M A (do setField (.ref e) 1 (← EntryCells.newEntry head (← frameOf env) .none (rawInt L) .none (← entryPlaceOf L nx))) Q E s:=by
 have ne:e∉frs (env::outer):=fun hm=>by
  obtain ⟨_,o,ho,hn⟩:=hl.mem hm;rw[he] at ho;cases ho;exact hn vs hd
 refine xba (wpAny_frameOf_fun hfr hl hf fun h1 q1=>xba (wpAny_entryPlaceOf fun pl hp=>?_));unfold EntryCells.newEntry newFields;refine xba (xez ?_ (by exact hp.sizeOk5 _ _ _ _ _));have e1:h1.get? e=some oe:=(q1.2.1 e ne).trans he;have sz:h1.objs.size=s.heap.objs.size:=q1.1;have e2:=fun ob:Obj=>xbe (h:=h1) ob e1
 refine xgk (e2 _) hd hz (h _ ⟨fun b o x y q=>?_,fun b o x y q=>?_⟩ ⟨_,_,zjn (e2 _) hd,(zkb _ _).1,(zkb _ _).2,xga hd _,by rw[sz];simp[hz],by rw[xhy (by decide)];exact h2⟩ ?_)
 ·rw[xck _ _ (by rintro rfl;exact x (xbs.mpr rfl))];exact xbe _ ((q1.2.1 b y).trans q)
 ·obtain ⟨sl,z⟩:=q1.2.2 b o q;refine ⟨sl,?_⟩;rw[xck _ _ (by rintro rfl;exact x (xbs.mpr rfl))];exact xbe _ z
 ·have ne2:e≠h1.objs.size:=xbu (xbh e1);rw[← sz];refine ⟨_,_,(xck _ _ ne2).trans (xbr h1 rfl),rfl,?_⟩
  ·first
    | (simp;done)
    | (rcases hp with rfl | ⟨_,_,_,_,_,_,_,rfl⟩<;>simp)
theorem zjx {base:Heap} {env:Env} {outer:List Env} {L e:Addr} {cls:Value} {dx:Option Addr} {Q:Unit->Shared->Prop} (hfr:A.frames=some (env::outer)) (hl:s.heap.FunFrames base (env::outer)) (hf:env.frame=some L)
  (r:Rec s.heap e cls dx .none) (h:∀h',Mv [e] (frs (env::outer)) s.heap h'->Rec h' e cls dx (.ref s.heap.objs.size)->RecT h' s.heap.objs.size (rawInt L)->Q () {s with heap:=h'}) :
  wpAny M A (noteFrame (.ref e) env) Q E s:=by
 obtain ⟨oe,vs,e1,e2,e3,e4,e5,e6⟩:=r;subst e2 e3;unfold noteFrame;simp only[hf];refine xba (xgw e1 e4 e5 ?_);rw[if_neg (by decide)];exact zjw hfr hl hf e1 e4 (xeo.mp e5).1 e6 h
theorem zlx {base:Heap} {env:Env} {outer:List Env} {L e T:Addr} {cls:Value} {dx:Option Addr} {Q:Unit->Shared->Prop} (hfr:A.frames=some (env::outer)) (hl:s.heap.FunFrames base (env::outer)) (hf:env.frame=some L)
  (r:Rec s.heap e cls dx (.ref T)) (t:RecT s.heap T .none) (hne:T≠e)
  (h:∀h' T',s.heap.get? T'=none->(∃o,h'.get? T=some o)->Mv [e,T] (frs (env::outer)) s.heap h'->Rec h' e cls dx (.ref T')->RecT h' T' (rawInt L)->Q () {s with heap:=h'}) :
  wpAny M A (noteFrame (.ref e) env) Q E s:=by
 obtain ⟨oe,vs,e1,e2,e3,e4,e5,e6⟩:=r;obtain ⟨o,ts,t1,t2,t3⟩:=t;subst e2 e3;unfold noteFrame;simp only[hf];refine xba (xgw e1 e4 e5 ?_);rw[if_pos (by simp)];refine xba (xgw t1 t2 t3 ?_);rw[if_neg (by simp[rawInt])];refine xba (xgk t1 t2 (xeo.mp t3).1 ?_);have mv:Mv [e,T] (frs (env::outer)) s.heap (s.heap.update T (Obj.mapFields (·.setIfInBounds 3 .none))):=Mv.set.mono fun b z=>by
  rw[xbs] at z;subst z;exact xcv _ xcf
 have e1':(s.heap.update T (Obj.mapFields (·.setIfInBounds 3 .none))).get? e=some oe:=by rw[xck _ _ hne];exact e1
 have nf:T∉frs (env::outer):=fun hm=>by
  obtain ⟨_,ob,hb,hn⟩:=hl.mem hm;rw[t1] at hb;cases hb;exact hn ts t2
 have sz:(s.heap.update T (Obj.mapFields (·.setIfInBounds 3 Value.none))).objs.size=s.heap.objs.size:=by simp[Heap.update]
 refine zjw (s:={s with heap:=_}) (base:=base) hfr (hl.of_keeps fun b ob hb hn=>?_) hf e1' e4 (xeo.mp e5).1 e6 fun h' m1 r1 t1'=>h h' s.heap.objs.size (Heap.get?_none_of_le (xbg _)) ⟨_,m1.keep T _ (fun z=>hne (xbs.mp z)) nf (zjn t1 t2)⟩ (mv.trans (m1.mono fun b z=>?_)) (by rw[← sz];exact r1) (by rw[← sz];exact t1')
 ·refine ⟨ob,?_,rfl⟩;rw[xck _ _ (by rintro rfl;rw[t1] at hb;cases hb;exact hn _ t2)];exact hb
 ·rw[xbs] at z;subst z;exact xcf
end
noncomputable def HX:HO:=.ext fun _=>True
noncomputable def trk2 (H:Hp) (ea T:Addr):Hp:=upd (upd H T HX) ea HX
structure Flies (H:Hp) (h:Heap) (ea T:Addr) (cls:Value) (dx:Option Addr):Prop where
 r:Rec h ea cls dx (.ref T)
 t:RecT h T .none
 ne:T≠ea
 fe:H ea=none
 ft:H T=none
theorem zbh {H:Hp} {ea T b:Addr}:trk2 H ea T b=some HX/\(b=ea\/b=T)\/(b≠ea/\b≠T/\trk2 H ea T b=H b):=by
 unfold trk2;by_cases h1:b=ea
 ·exact .inl ⟨by rw[h1,zk],.inl h1⟩
 ·by_cases h2:b=T
  ·exact .inl ⟨by rw[zi h1,h2,zk],.inr h2⟩
  ·exact .inr ⟨h1,h2,by rw[zi h1,zi h2]⟩
theorem zpr {P:Program} {w:World} {H:Hp} {h:Heap} {a:Addr} (e:∃o,h.get? a=some o):ObjOk P w H h a HX:=⟨trivial,e,fun _ _ _ _=>trivial⟩
theorem ObjOk.here {P:Program} {w:World} {H:Hp} {h:Heap} {a:Addr} {o:HO} (x:ObjOk P w H h a o):∃ob,h.get? a=some ob:=by
 cases o with
 | lst xs=>obtain ⟨_,_,_,_,e⟩:=x;exact ⟨_,e⟩
 | tup xs=>obtain ⟨_,_,_,p⟩:=x;obtain ⟨_,e,_⟩:=p;exact ⟨_,e⟩
 | dK kvs=>obtain ⟨_,_,_,_,_,_,_,e,_⟩:=x;exact ⟨_,e⟩
 | dT kvs=>obtain ⟨_,_,_,_,_,_,_,e,_⟩:=x;exact ⟨_,e⟩
 | set S n=>obtain ⟨_,_,_,_,e,_⟩:=x;exact ⟨_,e⟩
 | ins C dx fs=>exact ⟨_,x.2.2.2.1⟩
 | own y=>exact x
 | xd fs=>obtain ⟨_,⟨_,_,_,e,_⟩,_⟩:=x;exact ⟨_,e⟩
 | rng lo hi=>obtain ⟨_,_,_,e⟩:=x;exact ⟨_,e⟩
 | frz ob u=>exact ⟨_,x.1⟩
 | tbl ps=>exact ⟨_,x⟩
 | met f y=>exact ⟨_,x⟩
 | ext φ=>exact x.2.1
theorem Inv.flew {X:Cx} {pins:List (Addr × Obj)} {τ:St} {H H0:Hp} {s:Shared} {h':Heap} {ea T:Addr} (I:Inv X pins τ H0 s) (sub:∀b,H0 b=H b\/(H0 b=some HX/\H b=none))
  (new:∀b,b=ea\/b=T->s.heap.get? b=none\/H0 b=some HX) (keep:∀b o,H0 b≠some HX->b∉frs X.stack->s.heap.get? b=some o->h'.get? b=some o)
  (slot:∀b o,H0 b≠some HX->b∈frs X.stack->s.heap.get? b=some o->∃sl,h'.get? b=some {o with slots:=sl}) (there:∀b o,s.heap.get? b=some o->∃o',h'.get? b=some o')
  (xe:∃o,h'.get? ea=some o) (xt:∃o,h'.get? T=some o):Inv X pins τ (trk2 H ea T) {s with heap:=h'}:=by
 have same:∀b o,H0 b=some o->o≠HX->trk2 H ea T b=some o:=fun b o e n=>by
  obtain ⟨ob,hb⟩:∃ob,s.heap.get? b=some ob:=by
   have:=I.hok.lt e;exact (I.hok b o e).here
  rcases zbh (H:=H) (ea:=ea) (T:=T) (b:=b) with ⟨_,z⟩ | ⟨_,_,z⟩
  ·rcases new b z with y | y
   ·rw[hb] at y;cases y
   ·rw[e] at y;exact absurd (xca y) n
  ·rw[z];rcases sub b with y | ⟨y,_⟩
   ·rw[← y];exact e
   ·rw[e] at y;exact absurd (xca y) n
 refine I.call (g':=s.gens) (t':=s.toks) (d':=s.drawn) (ch:=[]) ⟨fun b o e n hb _=>keep b o (by rw[n];intro z;cases z) hb e,fun b o e n hb _=>slot b o (by rw[n];intro z;cases z) hb e,fun b o e n _=>?_,fun b o e _=>there b o e,fun b xs e=>same b _ e (by intro z;cases z),fun b o u e=>same b _ e (by intro z;cases z),fun b ps e=>⟨#[],by rw[xgd];exact same b _ e (by intro z;cases z)⟩⟩ (fun b o e=>?_) I.bare (fun _ z=>nomatch z)
 ·rcases zbh (H:=H) (ea:=ea) (T:=T) (b:=b) with ⟨_,z⟩ | ⟨_,_,z⟩
  ·rcases new b z with y | y
   ·rw[e] at y;cases y
   ·rw[n] at y;cases y
  ·rw[z];rcases sub b with y | ⟨y,_⟩
   ·rw[← y];exact n
   ·rw[n] at y;cases y
 ·rcases zbh (H:=H) (ea:=ea) (T:=T) (b:=b) with ⟨z,y⟩ | ⟨_,_,z⟩
  ·rw[z] at e;cases e
   rcases y with rfl | rfl
   ·exact zpr xe
   ·exact zpr xt
  ·rw[z] at e;have e0:H0 b=some o:=by
    rcases sub b with y | ⟨_,y⟩
    ·rw[y];exact e
    ·rw[e] at y;cases y
   by_cases hn:o=HX
   ·subst hn;obtain ⟨ob,hb⟩:=(I.hok b _ e0).here;exact zpr (there b ob hb)
   ·have nx:∀c,c=b\/H0 c=some (.own b)->H0 c≠some HX/\c∉frs X.stack:=fun c hc=>by
     rcases hc with rfl | hc
     ·exact ⟨by rw[e0];exact fun z=>hn (xca z),fun z=>by rw[I.stkFree c z] at e0;cases e0⟩
     ·exact ⟨by rw[hc];exact fun z=>(nomatch z),fun z=>by rw[I.stkFree c z] at hc;cases hc⟩
    exact (I.hok b o e0).stay (fun c u hc q=>keep c u (nx c hc).1 (nx c hc).2 q) (fun c hc=>same c _ hc (by intro z;cases z)) (fun c xs hc=>same c _ hc (by intro z;cases z))
theorem zkj {X:Cx} {pins:List (Addr × Obj)} {τ:St} {H:Hp} {ea T:Addr} {cls:Value} {dx:Option Addr} {s:Shared} {M:Model} {E':Value->Shared->Prop} (st:X.stack=X.env::X.outer) (fr:X.env.frame=some X.env.locals) (F:Flies H s.heap ea T cls dx) (I:Inv X pins τ (trk2 H ea T) s) :
  wpAny M X.A (noteFrame (.ref ea) X.env) (fun _ s2=>∀(A':Around) (E:Value->Shared->Prop),wpAny M A' (setFlight (.ref ea) none) (fun _ s3=>∃T1,Flies H s3.heap ea T1 cls dx/\Inv X pins τ (trk2 H ea T1) s3) E s2) E' s:=by
 have hs:=I.stack;rw[st] at hs;have nx:∀b,trk2 H ea T b≠some HX->b∉[ea,T]:=fun b h z=>by
  simp only[xcc,xft,or_false] at z;rcases zbh (H:=H) (ea:=ea) (T:=T) (b:=b) with ⟨y,_⟩ | ⟨y1,y2,_⟩
  ·exact h y
  ·rcases z with z | z
   ·exact y1 z
   ·exact y2 z
 refine zlx (base:=X.base) (I.ok.frames.trans (by rw[st])) hs fr F.r F.t F.ne fun h1 T1 nT oT m1 r1 t1 A' E=>?_
 rw[← st] at m1;have ne1:T1≠ea:=by
  rintro rfl;obtain ⟨_,_,q,_⟩:=F.r;rw[nT] at q;cases q
 refine zel (fs:=frs X.stack) r1 t1 ne1 fun h2 m2 r2 t2=>?_
 have nT1:∀b o,s.heap.get? b=some o->b∉[T1]:=fun b o q z=>by
  rw[xbs] at z;subst z;rw[nT] at q;cases q
 have I2:=I.flew (h':=h2) (H:=H) (ea:=ea) (T:=T1) (fun b=>by
   rcases zbh (H:=H) (ea:=ea) (T:=T) (b:=b) with ⟨y,z⟩ | ⟨_,_,y⟩
   ·exact .inr ⟨y,by rcases z with rfl | rfl<;>first | exact F.fe | exact F.ft⟩
   ·exact .inl y) (fun b hb=>by
   rcases hb with rfl | rfl
   ·exact .inr (by unfold trk2;rw[zk])
   ·exact .inl nT) (fun b o hb hf q=>m2.keep b o (nT1 b o q) hf (m1.keep b o (nx b hb) hf q)) (fun b o hb hf q=>by
   obtain ⟨sl,q1⟩:=m1.slot b o (nx b hb) hf q;obtain ⟨sl2,q2⟩:=m2.slot b _ (nT1 b o q) hf q1;exact ⟨sl2,q2⟩) (fun b o q=>by
   have q1:∃o',h1.get? b=some o':=by
    by_cases hb:b∈[ea,T]
    ·simp only[xcc,xft,or_false] at hb;rcases hb with rfl | rfl
     ·obtain ⟨_,_,y,_⟩:=r1;exact ⟨_,y⟩
     ·exact oT
    ·by_cases hf:b∈frs X.stack
     ·obtain ⟨sl,q1⟩:=m1.slot b o hb hf q;exact ⟨_,q1⟩
     ·exact ⟨_,m1.keep b o hb hf q⟩
   obtain ⟨o1,q1⟩:=q1;by_cases hf:b∈frs X.stack
   ·obtain ⟨sl,q2⟩:=m2.slot b _ (nT1 b o q) hf q1;exact ⟨_,q2⟩
   ·exact ⟨_,m2.keep b _ (nT1 b o q) hf q1⟩) (by obtain ⟨_,_,y,_⟩:=r2;exact ⟨_,y⟩) (by obtain ⟨_,_,y,_⟩:=t2;exact ⟨_,y⟩)
 have fT1:H T1=none:=by
  cases q:H T1 with
  | none=>rfl
  | some o =>
   have q':trk2 H ea T T1=some o:=by
    rcases zbh (H:=H) (ea:=ea) (T:=T) (b:=T1) with ⟨_,z⟩ | ⟨_,_,y⟩
    ·rcases z with z | z
     ·exact absurd z ne1
     ·rw[z,F.ft] at q;cases q
    ·rw[y];exact q
   obtain ⟨ob,hb⟩:=(I.hok T1 o q').here;rw[nT] at hb;cases hb
 exact ⟨T1,⟨r2,t2,ne1,F.fe,fT1⟩,I2⟩
theorem ztg {X:Cx} {pins:List (Addr × Obj)} {τ:St} {H:Hp} {ea T:Addr} {cls:Value} {dx:Option Addr} {s:Shared} {M:Model} {A:Around} {E':Value->Shared->Prop} {Q:Unit->Shared->Prop} (F:Flies H s.heap ea T cls dx) (I:Inv X pins τ (trk2 H ea T) s)
  (h:∀s3,Flies H s3.heap ea T cls dx->Inv X pins τ (trk2 H ea T) s3->Q () s3):wpAny M A (setFlight (.ref ea) none) Q E' s:=by
 refine zel (fs:=frs X.stack) F.r F.t F.ne fun h2 m2 r2 t2=>?_
 have hT:trk2 H ea T T=some HX:=by unfold trk2;rw[zi F.ne,zk]
 have nT:∀b,trk2 H ea T b≠some HX->b∉[T]:=fun b h z=>by
  rw[xbs] at z;subst z;exact h hT
 refine h _ ⟨r2,t2,F.ne,F.fe,F.ft⟩ (I.flew (h':=h2) (H:=H) (ea:=ea) (T:=T) (fun b=>?_) (fun b hb=>.inr ?_) (fun b o hb hf q=>m2.keep b o (nT b hb) hf q) (fun b o hb hf q=>m2.slot b o (nT b hb) hf q) (fun b o q=>?_) (by obtain ⟨_,_,y,_⟩:=r2;exact ⟨_,y⟩) (by obtain ⟨_,_,y,_⟩:=t2;exact ⟨_,y⟩))
 ·rcases zbh (H:=H) (ea:=ea) (T:=T) (b:=b) with ⟨y,z⟩ | ⟨_,_,y⟩
  ·exact .inr ⟨y,by rcases z with rfl | rfl<;>first | exact F.fe | exact F.ft⟩
  ·exact .inl y
 ·rcases hb with rfl | rfl
  ·unfold trk2;rw[zk]
  ·exact hT
 ·by_cases hb:b∈[T]
  ·rw[xbs] at hb;subst hb
   obtain ⟨_,_,y,_⟩:=t2;exact ⟨_,y⟩
  ·by_cases hf:b∈frs X.stack
   ·obtain ⟨sl,q2⟩:=m2.slot b _ hb hf q;exact ⟨_,q2⟩
   ·exact ⟨_,m2.keep b _ hb hf q⟩
noncomputable def CX1 (P:Program) (w:World):CXT:=fun outer H s E e s'=>∃ea T C dx H',e=.ref ea/\s'.os=s.os/\AllBare s'.gens/\Un (frs outer) [] H (trk2 H' ea T) s.heap s'.heap/\HOk P w (trk2 H' ea T) s'.heap/\Flies H' s'.heap ea T (.ref C) dx/\E (.ref C) dx H'
noncomputable def Wish (X:Cx) (R:St->Value->Option Addr->Hp->Prop):Prop:=∀(pins:List (Addr × Obj)) (τ:St) (H:Hp) (ea T C:Addr) (dx:Option Addr) (s:Shared),Flies H s.heap ea T (.ref C) dx->Inv X pins τ (trk2 H ea T) s->R τ (.ref C) dx H->X.xe (.ref ea) s
noncomputable def WishR (X:Cx) (R:St->Value->Option Addr->Hp->Prop):Prop:=∀(pins:List (Addr × Obj)) (τ:St) (H:Hp) (ea C:Addr) (dx:Option Addr) (s0 s:Shared),Inv X pins τ H s0->(∀b o,s0.heap.get? b=some o->s.heap.get? b=some o)->s={s0 with heap:=s.heap,toks:=s.toks}->s0.heap.get? ea=none->Rec s.heap ea (.ref C) dx .none->R τ (.ref C) dx H->X.xe (.ref ea) s
section
variable {P:Program} {w:World} {K:Fg} {mg:Str->Option Value} {base:Heap} {N:List Str} {qual:Str} {scope:Scope} {f:Addr} {cd:Value} {A:Around} {outer:List Env} {s₀:Shared} {H₀:Hp} {E:XK}
theorem zoj:WishR (cxOf (CX1 P w) P w K mg base N qual scope f cd A outer s₀ H₀ E) (fun _ c dx H=>E c dx H):=by
 intro pins τ H ea C dx s0 s I kp es ne r hE;have hs:s.heap.FunFrames base (cxOf (CX1 P w) P w K mg base N qual scope f cd A outer s₀ H₀ E).stack:=I.stack.of_keeps fun b o q _=>⟨o,kp b o q,rfl⟩
 show wpAny _ _ (leaving _ _) _ _ s;unfold leaving;refine xba (zjx (base:=base) I.ok.frames hs rfl r fun h1 m1 r1 t1=>?_);have oe:∃o,s.heap.get? ea=some o:=by obtain ⟨_,_,q,_⟩:=r;exact ⟨_,q⟩
 have ne1:s.heap.objs.size≠ea:=by
  obtain ⟨_,q⟩:=oe;exact xeg (xbu (xbh q))
 have nT:s0.heap.get? s.heap.objs.size=none:=by
  cases q:s0.heap.get? s.heap.objs.size with
  | none=>rfl
  | some o=>exact absurd (xbh (kp _ _ q)) (xen _)
 refine zel (fs:=frs (cxOf (CX1 P w) P w K mg base N qual scope f cd A outer s₀ H₀ E).stack) r1 t1 ne1 fun h2 m2 r2 t2=>?_
 have ne0:∀b o,s0.heap.get? b=some o->b∉[ea]/\b∉[s.heap.objs.size]:=fun b o q=>by
  refine ⟨fun z=>?_,fun z=>?_⟩
  ·rw[xbs] at z;subst z;rw[ne] at q;cases q
  ·rw[xbs] at z;subst z;rw[nT] at q;cases q
 have I2:=I.flew (h':=h2) (H:=H) (ea:=ea) (T:=s.heap.objs.size) (fun b=>.inl rfl) (fun b hb=>by
   rcases hb with rfl | rfl
   ·exact .inl ne
   ·exact .inl nT) (fun b o _ hf q=>m2.keep b o (ne0 b o q).2 hf (m1.keep b o (ne0 b o q).1 hf (kp b o q))) (fun b o _ hf q=>by
   obtain ⟨sl,q1⟩:=m1.slot b o (ne0 b o q).1 hf (kp b o q);obtain ⟨sl2,q2⟩:=m2.slot b _ (ne0 b o q).2 hf q1;exact ⟨sl2,q2⟩) (fun b o q=>by
   by_cases hf:b∈frs (cxOf (CX1 P w) P w K mg base N qual scope f cd A outer s₀ H₀ E).stack
   ·obtain ⟨sl,q1⟩:=m1.slot b o (ne0 b o q).1 hf (kp b o q);obtain ⟨sl2,q2⟩:=m2.slot b _ (ne0 b o q).2 hf q1;exact ⟨_,q2⟩
   ·exact ⟨_,m2.keep b o (ne0 b o q).2 hf (m1.keep b o (ne0 b o q).1 hf (kp b o q))⟩) (by obtain ⟨_,_,y,_⟩:=r2;exact ⟨_,y⟩) (by obtain ⟨_,_,y,_⟩:=t2;exact ⟨_,y⟩)
 have nH:∀b,s0.heap.get? b=none->H b=none:=fun b hb=>by
  cases q:H b with
  | none=>rfl
  | some o=>obtain ⟨ob,z⟩:=(I.hok b o q).here;rw[hb] at z;cases z
 refine ⟨ea,s.heap.objs.size,C,dx,H,rfl,?_,?_,I2.base,I2.hok,⟨r2,t2,ne1,nH _ ne,nH _ nT⟩,hE⟩
 ·show s.os=_;rw[es];exact I2.os
 ·show AllBare s.gens;rw[es];exact I2.bare
end
noncomputable def bmV : List Value := [.type "ValueError", .type "Exception", .type "BaseException", .type "object"]
noncomputable def ErrCls (K : Fg) (x : Str) (C : Addr) : Prop := PySem.W.nsIn K mainGlobals x = some (some (.ref C)) /\ PySem.W.excIn K C bmV "ValueError.__new__" = true
theorem ztk {K : Fg} {h : Heap} {mg : Str -> Option Value} {x : Str} {C : Addr} (X : K.In h) (G : h.Ns mainGlobals mg) (e : ErrCls K x C) : OwnCls x C bmV "ValueError.__new__" mg h := by
 obtain ⟨e1,q⟩:=e;refine ⟨xcl X G e1,?_⟩;unfold PySem.W.excIn at q;cases hl:K.lookup C with
 | none=>rw[hl] at q;cases q
 | some o =>
  rw[hl] at q;split at q
  ·next _ dd cd sl ho =>
   obtain rfl:=xca ho;split at q
   ·next _ _ C' bm k0 k1 k2 k3 n k5 hm hs =>
    simp only[xfd,xeq,Bool.not_eq_true'] at q;obtain ⟨⟨⟨⟨⟨c1,c2⟩,c3⟩,c4⟩,c5⟩,c6⟩:=q;obtain ⟨nm,bs,mro,ns,qn,hd,sn,sub,ab,col,del⟩:=cd;dsimp only at hm c3 c5 c6;obtain ⟨l⟩:=sl;dsimp only at hs;subst c1 c2 c3 hm hs;exact ⟨_,_,_,_,_,_,_,_,_,_,_,_,_,_,_,_,_,X _ _ hl,.of_isNs (PySem.W.isNs_of_in X c5),PySem.W.nsMap_none_of_in X c5 c6,PySem.W.tail_of_in X c4⟩
   ·cases q
  ·cases q
section
variable {X:Cx}
end
noncomputable abbrev Cx.tryc (X:Cx) (E:Value->Shared->Prop) (pn:List (Addr × Obj)):Cx:={X with xe:=E,pn:=X.pn++pn}
noncomputable abbrev Cx.caught (X:Cx) (e:Value):Cx:={X with A:=X.A.mark (some e),calm:=false,xe:=fun _ _=>False}
section
variable {X:Cx} {pins pins':List (Addr × Obj)} {σ:St} {H:Hp} {s:Shared} {E:Value->Shared->Prop} {e:Value}
theorem Cx.Ok.tryc (ok:X.Ok):(X.tryc E pins).Ok:=⟨ok.mod,ok.kind,ok.glob,ok.blt,ok.above,ok.inj,ok.has,ok.cab,ok.hd,ok.frames,ok.stk,ok.exf,ok.bs,ok.bsz,ok.noex,ok.exfs,ok.funs,ok.frf⟩
theorem Cx.Ok.untryc (ok:(X.tryc E pins).Ok):X.Ok:=⟨ok.mod,ok.kind,ok.glob,ok.blt,ok.above,ok.inj,ok.has,ok.cab,ok.hd,ok.frames,ok.stk,ok.exf,ok.bs,ok.bsz,ok.noex,ok.exfs,ok.funs,ok.frf⟩
theorem Cx.Ok.caught (ok:X.Ok):(X.caught e).Ok:=⟨ok.mod,ok.kind,ok.glob,ok.blt,ok.above,ok.inj,ok.has,ok.cab,(fun z=>Bool.noConfusion (show false=true from z)),ok.frames,ok.stk,ok.exf,ok.bs,ok.bsz,ok.noex,ok.exfs,ok.funs,ok.frf⟩
theorem Inv.tryc (I:Inv X pins σ H s):Inv (X.tryc E pins) [] σ H s:=⟨I.ok.tryc,I.os,I.bare,I.base,I.loc,I.cell,I.free,I.freeC,fun p hp=>I.pin p (by rw[xdo] at hp;exact hp),I.hok,I.len,I.hnd⟩
theorem Inv.untryc (I:Inv (X.tryc E pins) pins' σ H s):Inv X pins σ H s:=⟨I.ok.untryc,I.os,I.bare,I.base,I.loc,I.cell,I.free,I.freeC,fun p hp=>I.pin p (xfp _ hp),I.hok,I.len,I.hnd⟩
theorem Inv.caught (I:Inv X pins σ H s) (he:Hnd (X.A.mark (some e)) H):Inv (X.caught e) pins σ H s:=⟨I.ok.caught,I.os,I.bare,I.base,I.loc,I.cell,I.free,I.freeC,I.pin,I.hok,I.len,he⟩
theorem Inv.uncaught (ok:X.Ok) (hc:X.calm=true) (I:Inv (X.caught e) pins σ H s):Inv X pins σ H s:=⟨ok,I.os,I.bare,I.base,I.loc,I.cell,I.free,I.freeC,I.pin,I.hok,I.len,Hnd.none (ok.hd hc)⟩
theorem SP.untryc {D:Ends} {f:Flow} (h:SP (X.tryc E pins) pins' D f s):SP X pins D f s:=by
 cases f with
 | next=>obtain ⟨σ',H',I,q⟩:=h;exact ⟨σ',H',I.untryc,q⟩
 | brk=>obtain ⟨σ',H',I,q⟩:=h;exact ⟨σ',H',I.untryc,q⟩
 | cont=>obtain ⟨σ',H',I,q⟩:=h;exact ⟨σ',H',I.untryc,q⟩
 | ret u=>obtain ⟨v,σ',H',I,r,q⟩:=h;exact ⟨v,σ',H',I.untryc,r,q⟩
theorem Inv.forget {h':Heap} {m:Str->Option Value} {t':Nat} (I:Inv X pins σ H s) (hn:h'.Ns X.env.locals m) (hs:Heap.SameBut X.env.locals s.heap h'):Inv X pins (σ.map fun _=>none) H {s with heap:=h',toks:=t'}:=by
 have kp:∀b o,b≠X.env.locals->s.heap.get? b=some o->h'.get? b=some o:=fun b o n q=>by rw[hs.2 b n];exact q
 have nL:∀b o,X.s₀.heap.get? b=some o->b≠X.env.locals:=fun b o q=>xbu (xbc (xbh q) I.ok.above)
 have nH:∀b u,H b=some u->b≠X.env.locals:=fun b u q z=>by rw[z,I.free] at q;cases q
 refine ⟨I.ok,I.os,I.bare,⟨fun b o q n f x=>kp b o (nL b o q) (I.base.keep b o q n f x),fun b o q n f x=>?_,I.base.free,fun b o q x=>?_,I.base.tups,I.base.frzs,I.base.tbls⟩,⟨m,hn,fun i x v _ q _=>?_⟩,fun x c q=>?_,I.free,I.freeC,fun p hp=>?_,fun b u q=>?_,by rw[xbk];exact I.len,I.hnd⟩
 ·obtain ⟨sl,z⟩:=I.base.slot b o q n f x;exact ⟨sl,kp b _ (nL b o q) z⟩
 ·obtain ⟨o',z⟩:=I.base.there b o q x;exact ⟨o',kp b _ (nL b o q) z⟩
 ·rw[xcg] at q;cases z:σ[i]?<;>rw[z] at q<;>cases q
 ·obtain ⟨v,o,ho,hd⟩:=I.cell x c q;exact ⟨v,o,kp c o (I.cne x c q) ho,hd⟩
 ·obtain ⟨a,b,c,d⟩:=I.pin p hp;exact ⟨kp _ _ c a,b,c,d⟩
 ·exact (I.hok b u q).stay (fun c v hc z=>kp c v (by rcases hc with rfl | hc;exact nH _ _ q;exact nH _ _ hc) z) (fun _ z=>z) fun _ _ z=>z
end
noncomputable def RH (K:Fg) (B:Addr) (i:Nat) (ts:TS) (rt:VK):St->Value->Option Addr->Hp->Prop:=fun τ cls dx H=>PySem.W.exmOne K cls (.ref B)=some true /\
 ∀ea T o,H ea=none->H T=none->T≠ea->o.cls=cls->o.dict=dx->(∃vs,o.data=.fields vs/\vs[2]?=some .none)->ts {nx:=fun _ _=>False,rt:=rt} (τ.set i (some (.ref ea))) (upd (upd H T HX) ea (.frz o HX))
section
variable {X:Cx} {body:List Stmt} {x n:Str} {B:Addr} {i:Nat} {b0:Stmt} {suite:List Stmt} {xp hp pos:Pos} {tb:(St->Value->Option Addr->Hp->Prop)->TS} {ts:TS}
theorem zwc (hc:X.calm=true) (st:X.stack=X.env::X.outer) (fr:X.env.frame=some X.env.locals) (hN:X.N.Nodup) (hi:X.N[i]?=some n) (hn:X.env.kindOf n=some .local) (hg:Gl X x) (hB:PySem.W.nsIn X.K mainGlobals x=some (some (.ref B)))
  (hb : ∀ (R : St -> Value -> Option Addr -> Hp -> Prop) (E : Value -> Shared -> Prop) (pn : List (Addr × Obj)), Wish (X.tryc E pn) R -> PSs (X.tryc E pn) body (tb R)) (hs : ∀ e, PSs (X.caught e) (b0 :: suite) ts) (hd : (x == ("__debug__" : Str)) = false := by decide) :
  PS X (.Try body [.ExceptHandler (some (.Name x xp)) (some n) (b0::suite) hp] [] [] pos) (fun D σ H=>tb (RH X.K B i ts D.rt) D σ H):=by
 intro pins s σ H D I h;have ok:=I.ok;refine wpAny_Try_except ?_;refine xdi (hb _ (fun e s1=>wpAny (model X.prog X.w) X.A (noteFrame e X.env) (fun _ s2=>wpAny (model X.prog X.w) X.A (setFlight e none) (fun _ s3=>wpAny (model X.prog X.w) X.A (handleBy e X.env [.ExceptHandler (some (.Name x xp)) (some n) (b0::suite) hp]) (SP X pins D) X.xe s3) X.xe s2) X.xe s1) pins ?_ [] s σ H D I.tryc h) (fun f s1 q=>?_) fun _ _ q=>q
 rotate_left
 ·cases f with
  | next=>obtain ⟨σ',H',I',q'⟩:=q;exact xhc ⟨σ',H',I'.untryc,q'⟩
  | brk=>exact SP.untryc q
  | cont=>exact SP.untryc q
  | ret u=>exact SP.untryc q
 intro pins' τ H' ea T C dx s' F I' hR;obtain ⟨hm,hR⟩:=hR;refine thn (zkj st fr F I'.untryc) fun _ s2 h2=>thn (h2 X.A X.xe) fun _ s3 hq0=>?_
 obtain ⟨T1,F1,I3⟩:=hq0;refine wpAny_handleBy_cons (codeAny_handlers_test ?_) (by intro z;cases z);refine xgs I3.ok.kind hg (Calls.loadGlobal_global (by rw[I3.ok.glob];exact I3.mod.glob.keeps I3.bk) (xcl I3.mod.kin I3.mod.glob hB) ?_) hd;obtain ⟨h3,g3,d3,t3,os3⟩:=s3;obtain ⟨oe,vs,r1,r2,r3,r4,r5,r6⟩:=id F1.r;refine (PySem.W.exm_one (M:=model X.prog X.w) I3.kIn (r2 ▸ (PySem.W.Looks.ld r1).andThen .now) hm).at ?_;rw[if_pos rfl];refine codeAny_handlers_suite_as ?_;refine ztg F1 I3 fun s4 F4 I4=>?_
 obtain ⟨o,ws,q1,q2,q3,q4,q5,q6⟩:=id F4.r;have I5:Inv X pins τ (upd (upd H' T1 HX) ea (.frz o HX)) s4:=by
  have z:=I4.write (h':=s4.heap) (t':=s4.toks) (x:=ea) (e:=ea) (o:=.frz o HX) (by unfold trk2;rw[zk];trivial) (.inl rfl) (fun _ _ _ q=>q) ⟨_,q1⟩ ⟨q1,zpr ⟨_,q1⟩⟩;unfold trk2 at z;rw[zrm] at z;exact z
 refine zgw (v:=.ref ea) I5 hN hi (.inl hn) rfl (fun s5 I6=>?_) (.inr hn);refine xdi (hs (.ref ea) pins s5 _ _ _ (I6.caught fun v z=>⟨ea,o,(xca z).symm,zk,ws,q4,q6⟩) (hR ea T1 o F4.fe F4.ft F4.ne q2 q3 ⟨_,q4,q6⟩)) (fun f s6 q=>?_) fun _ _ z=>z.elim
 cases f with
 | next=>obtain ⟨_,_,_,z⟩:=q;exact z.elim
 | brk=>obtain ⟨_,_,_,z⟩:=q;exact z.elim
 | cont=>obtain ⟨_,_,_,z⟩:=q;exact z.elim
 | ret u =>
  obtain ⟨v,σ',H6,I7,rv,q⟩:=q;obtain ⟨m,hm6,_⟩:=id I7.loc;refine wpAny_nameGoes hn hm6 (by rw[ok.kind];rfl) fun h7 m7 n7 s7=>?_
  exact ⟨v,_,H6,(I7.uncaught ok hc).forget n7 s7,rv,q⟩
end
section
variable {prog:Program} {w:World} {A:Around} {E:Value->Shared->Prop}
end
section
variable {X:Cx} {pos:Pos}
end
theorem zum {CX:CXT} {P:Program} {w:World} {K:Fg} {mg:Str->Option Value} {base:Heap} {k:Nat} {f:Addr} {name qual:Str} {params:Arguments} {body:List Stmt} {scope:Scope} {dV kV doc pm cdv ct oc:Value} {an od:Option Addr}
  {osl:Array (Option Value)} {N ps:List Str} (lk:K.lookup f=some ⟨oc,od,.func (PySem.W.fnOf name qual params body scope dV kV doc pm an cdv ct),osl⟩) (hcd:PySem.W.codeIn K cdv qual=true) (S:FnScope N ps scope)
  {A:Around} {outer:List Env} {s:Shared} {H:Hp} {args:Args} {us:List Value} {vs:List V} {Q:VK} {E:XK} (hr:Room (k+1) A) (e0:Env0 P w K mg base A outer s H) (hb:BindsTo s (PySem.W.fnOf name qual params body scope dV kV doc pm an cdv ct) args (ps.zip us)) (r:Vals vs us) (hl:vs.length=ps.length)
  {t:TS} (ht:PSs (cxOf CX P w K mg base N qual scope f cdv A outer s H E) body t) (hq:t {nx:=fun _ H'=>Q .non H',rt:=Q} (start N vs) H):codeAny (model P w) A (.call (.ref f) args) (CR CX outer P w H s Q E) s:=by
 have KX:K.In s.heap:=e0.mod.kin.keeps fun b o e=>(e0.bs b o e).1
 have lim:s.heap.NoLimit:=e0.mod.nolimit.keeps fun b o e=>(e0.bs b o e).1
 refine codeAny_call_function hr.depth (KX _ _ lk) rfl S.co S.gen rfl (PySem.W.codeRec_of KX hcd) (hb _ _ _ _ (wpAny_newFunctionEnv_cells S.kind (fun y hy=>?_) fun env he s1 x=>?_))
 ·rcases S.par y.1 (xib (a:=y.1) (b:=y.2) hy).1 with q | q
  ·exact .inl q
  ·exact .inr ⟨q,xhq _ _ _ (.inl q)⟩
 subst he;refine ⟨lim.keeps x.toInCall.keep,codeAny_func ?_⟩;have I:Inv (cxOf CX P w K mg base N qual scope f cdv A outer s H E) [] (start N vs) H s1:=zhz S hr.hd e0 hl r x;refine xdi (ht [] s1 (start N vs) H _ I hq) (fun fl s' hs=>?_) fun e s' hs=>hs
 cases fl with
 | ret u=>obtain ⟨v,σ',H',J,rv,q⟩:=hs;exact ⟨v,H',J.os,J.bare,J.base,J.hok,rv,q⟩
 | next=>obtain ⟨σ',H',J,q⟩:=hs;exact ⟨.non,H',J.os,J.bare,J.base,J.hok,rfl,q⟩
 | brk=>obtain ⟨_,_,_,q⟩:=hs;exact False.elim q
 | cont=>obtain ⟨_,_,_,q⟩:=hs;exact False.elim q
noncomputable def cxL (P:Program) (w:World) (K:Fg) (mg:Str->Option Value) (base:Heap) (N:List Str) (qual:Str) (scope:Scope) (f:Addr) (cd:Value) (cl:List (Str × Addr)) (A:Around) (outer:List Env) (s:Shared) (H:Hp) (E:XK):Cx where
 prog:=P
 w:=w
 K:=K
 mg:=mg
 base:=base
 A:=A.deeper (PySem.W.envX qual scope s.heap.objs.size f cd cl)
 N:=N
 s₀:=s
 H₀:=H
 env:=PySem.W.envX qual scope s.heap.objs.size f cd cl
 outer:=outer
 stack:=PySem.W.envX qual scope s.heap.objs.size f cd cl::outer
 ex:=[]
 calm:=true
 fn:=fun _=>false
 pn:=[]
 xe:=fun e s'=>wpAny (model P w) (A.deeper (PySem.W.envX qual scope s.heap.objs.size f cd cl)) (leaving (PySem.W.envX qual scope s.heap.objs.size f cd cl) e) (fun _ s''=>CX1 P w outer H s E e s'') (fun e' s''=>CX1 P w outer H s E e' s'') s'
structure LamScope (scope:Scope):Prop where
 kind:scope.kind=.function
 co:scope.isCoroutine=false
 gen:scope.isGenerator=false
 nocell:∀y∈scope.names,y.2≠.cell
structure KeptL (scope:Scope) (N:List Str) (cl:List (Str × Addr)) (τ:St) (s:Shared) (H:Hp):Prop where
 inj:∀x y c,cl.lookup x=some c->cl.lookup y=some c->x=y
 has:∀x,(x,NameKind.free)∈scope.names->∃c,cl.lookup x=some c
 cell:∀x c,cl.lookup x=some c->(∃v,s.heap.IsCell c v)/\H c=none
 val:∀(i:Nat) (x:Str) (v:V),N[i]?=some x->τ[i]?=some (some v)->scope.names.lookup x=some .free/\∃c u,cl.lookup x=some c/\s.heap.IsCell c (some u)/\RelV v u
 len:τ.length=N.length
section
variable {P:Program} {w:World} {K:Fg} {mg:Str->Option Value} {base:Heap} {N:List Str} {name qual:Str} {params:Arguments} {body:Expr} {scope:Scope} {f:Addr} {cd pm ct:Value} {cl:List (Str × Addr)} {A:Around} {outer:List Env} {s:Shared} {H:Hp} {E:XK} {τ:St}
theorem zte {h1:Heap} {tk:Nat} (S:LamScope scope) (hd:A.handled=none) (e0:Env0 P w K mg base A outer s H) (kp:KeptL scope N cl τ s H) (ns:h1.Ns s.heap.objs.size fun _=>none) (hk:∀b o,s.heap.get? b=some o->h1.get? b=some o) :
  Inv (cxL P w K mg base N qual scope f cd cl A outer s H E) [] τ H {s with heap:=h1,toks:=tk}:=by
 have noA:∀b:Addr,b∉(cxL P w K mg base N qual scope f cd cl A outer s H E).ex:=fun b z=>absurd (show b∈([]:List Addr) from z) (by simp)
 have ck:∀{c:Addr} {v:Option Value},s.heap.IsCell c v->h1.IsCell c v:=fun ⟨o,a,b⟩=>⟨o,hk _ _ a,b⟩
 refine ⟨⟨e0.mod,S.kind,rfl,rfl,xbg _,kp.inj,fun y hy=>?_,fun y c z=>(nomatch z),fun _=>hd,Around.frames_deeper e0.frames,.inr ⟨rfl,rfl⟩,fun b z=>absurd z (noA b),e0.bs,e0.bsz,fun b _ _=>noA b,fun b z=>absurd z (noA b),e0.funs,e0.frf⟩,
  rfl,e0.bare,Un.kept hk,⟨_,ns,fun i y v a b _=>?_⟩,fun y c a=>?_,e0.hok.fresh (xbg _),fun y c a=>(kp.cell y c a).2,fun p hp=>absurd (show p∈([]:List (Addr × Obj)) from hp) (by simp),e0.hok.kept hk,kp.len,Hnd.none hd⟩
 ·have hy:scope.names.lookup y=some .cell\/scope.names.lookup y=some .free:=hy;rcases hy with q | q
  ·exact absurd rfl (S.nocell _ (xdt q))
  ·exact kp.has y (xdt q)
 ·obtain ⟨q,c,u,e1,e2,rv⟩:=kp.val i y v a b;exact ⟨u,rv,.inr ⟨.inr q,c,e1,ck e2⟩⟩
 ·obtain ⟨v,e⟩:=(kp.cell y c a).1;exact ⟨v,ck e⟩
theorem zpm {k:Nat} {o:Obj} {te:TE} {Q:VK} (S:LamScope scope) (hr:Room (k+1) A) (e0:Env0 P w K mg base A outer s H) (kp:KeptL scope N cl τ s H) (ho:s.heap.get? f=some o) (hd:o.data=.func (PySem.W.kla_fn name qual params body scope cl pm cd ct)) (hcd:s.heap.CodeRec cd qual)
  (hb:bindArgs (PySem.W.kla_fn name qual params body scope cl pm cd ct) ⟨[],[]⟩=pure []) (he:PE (cxL P w K mg base N qual scope f cd cl A outer s H E) body te) (hq:te τ H Q):codeAny (model P w) A (.call (.ref f) ⟨[],[]⟩) (CR (CX1 P w) outer P w H s Q E) s:=by
 have lim:s.heap.NoLimit:=e0.mod.nolimit.keeps fun b o e=>(e0.bs b o e).1
 refine PySem.W.kla_callFunE hr.depth ho hd S.co S.gen rfl hcd ?_;rw[hb];refine xbl (wpAny_newFunctionEnv S.nocell (fun y hy=>absurd (show y∈([]:List (Str × Value)) from hy) (by simp)) (fun h1 hns hsb=>?_) S.kind);have hk:∀b o,s.heap.get? b=some o->h1.get? b=some o:=fun b o e=>hsb.extBut b o (xbu (xbh e)) (xbe _ e)
 refine ⟨lim.keeps hk,PySem.W.kla_codeExpr ?_⟩;have I:Inv (cxL P w K mg base N qual scope f cd cl A outer s H E) [] τ H {s with heap:=h1,toks:=s.toks+([]:List (Str × Value)).length}:=zte S hr.hd e0 kp hns hk;refine xdi (he [] _ τ H Q I hq) (fun u s' hs=>?_) fun e s' hs=>hs
 obtain ⟨v,H',J,rv,q⟩:=hs;exact ⟨v,H',J.os,J.bare,J.base,J.hok,rv,q⟩
theorem zoi:Wish (cxL P w K mg base N qual scope f cd cl A outer s H E) (fun _ c dx H=>E c dx H):=by
 intro pins τ H ea T C dx s F I hE;show wpAny _ _ (leaving _ _) _ _ s;unfold leaving;refine xba (thn (zkj rfl rfl F I) fun _ s2 h2=>thn (h2 _ _) fun _ s3 hq0=>?_);obtain ⟨T1,F1,I2⟩:=hq0;exact ⟨ea,T1,C,dx,H,rfl,I2.os,I2.bare,I2.base,I2.hok,F1,hE⟩
end
theorem zdy:∀{l:List Value} {a b:Nat} {v:Value},TriplesOk l->TriplesOk (l++[rawInt a,rawInt b,v])
 | [],_,_,_,_=>trivial
 | .int _ _::.int _ _::_::r,_,_,_,h=>zdy (l:=r) h
theorem zgt {pos':Pos} {cv v:Value} {a b:Nat}:∀{l:List Value},TriplesOk l->codeAmong pos' (l++[rawInt a,rawInt b,v])=some cv->codeAmong pos' l=some cv\/cv=v
 | [],_,e=>by
  unfold codeAmong at e;simp only[xja,rawInt] at e;split at e
  ·exact .inr (xca e).symm
  ·exact absurd e (by simp[codeAmong])
 | .int i t::.int j u::x::r,h,e=>by
  simp only[List.cons_append,codeAmong] at e ⊢;split at e
  ·rename_i q;rw[if_pos q];exact .inl e
  ·rename_i q;rw[if_neg q];exact zgt (l:=r) h e
noncomputable def BmOk (mg : Str -> Option Value) (base : Heap) : Prop := ∃ bm ob, mg "__builtins__" = some (.ref bm) /\ bm ≠ builtinsNs /\ base.get? bm = some ob /\ ob.cls = .type "module" /\ ob.dict = some builtinsNs /\ ob.data = .plain
section
variable {X:Cx} {pins:List (Addr × Obj)} {τ:St} {H:Hp} {s:Shared} {c T:Addr} {ps:Array Value} {params:Arguments} {body:Expr} {scope:Scope} {cl:List (Str × Addr)} {pos:Pos} {Q:Value->Shared->Prop}
noncomputable abbrev lamO (mg : Str -> Option Value) (params : Arguments) (body : Expr) (scope : Scope) (cl : List (Str × Addr)) (c' : Addr) (ctv : Value) : Obj := { cls := .type "function", data := .func (PySem.W.kla_fn "<lambda>" Dd.lamQ params body scope cl ((mg "__name__").getD .none) (.ref c') ctv) }
structure Grew (T:Addr) (H H':Hp):Prop where
 tab:∃ps,H' T=some (.tbl ps)/\Dd.TabOk H' ps
 old:∀a o,H a=some o->a≠T->H' a=some o
 new:∀a,a≠T->H a=none->H' a≠none->∃o,H' a=some (.frz o HX)
theorem zpl (I : Inv X pins τ H s) (C : PySem.W.CodeHd X.base c T) (B : BmOk X.mg X.base) (hcode : X.env.code = .ref c) (hT : H T = some (.tbl ps)) (ok : Dd.TabOk H ps) (hqu : X.env.qual ++ "<lambda>" = Dd.lamQ) (hcl : closureFor scope X.env = pure cl) (hdef : defaultsOf params X.env = ([], []))
  (k:∀f c' ctv s' H',Inv X pins τ H' s'->Grew T H H'->H' f=some (.frz (lamO X.mg params body scope cl c' ctv) HX)->H f=none->(∃oc vs t,H' c'=some (.frz oc HX)/\oc.data=.fields vs/\vs[1]?=some (.str Dd.lamQ t))->Q (.ref f) s') :
  wpAny (model X.prog X.w) X.A (eval (.Lambda params body scope pos) X.env) Q X.xe s:=by
 refine PySem.W.kla_eval hdef ?_;rw[hqu];have hg:s.heap.Ns mainGlobals X.mg:=I.mod.glob.keeps I.bk;have tb:s.heap.get? T=some (PySem.W.tabObj ps):=I.hok T _ hT;have neT:∀b o,X.base.get? b=some o->b≠T:=fun b o e z=>by
  have:=(I.bs b o e).2;rw[z,hT] at this;cases this
 have hgT:mainGlobals≠T:=by
  obtain ⟨o,_,_,e,_⟩:=I.mod.glob;exact neT _ o e
 have CH:PySem.W.CodeHd s.heap c T:=C.keeps I.bk;have hb:s.heap.BuiltinsAt X.mg T:=by
  obtain ⟨bm,ob,b1,b2,b3,b4,b5,b6⟩:=B;refine ⟨bm,ob,b1,b2,fun z=>?_,neT _ _ b3,I.bk _ _ b3,b4,b5,b6⟩;obtain ⟨o,es,ep,e,hd,_⟩:=I.mod.glob;rw[z,e] at b3;cases b3;rw[hd] at b6;cases b6
 have ltT:T < s.heap.objs.size:=xbh tb;cases hf:codeAmong pos ps.toList with
 | some cv =>
  obtain ⟨c',oc,vs,t,rfl,h1,h2,h3⟩:=ok.2 pos cv hf;refine PySem.W.kla_makeFunctionHit (mg:=X.mg) hcl I.ok.glob hg hcode CH tb ok.1 hf hb fun ctv h' tk hk hsz=>?_
  have hk2:∀(ob:Obj) b o,s.heap.get? b=some o->(h'.push ob).get? b=some o:=fun ob b o e=>xbe _ (hk b o e)
  have nf:H h'.objs.size=none:=I.hok.fresh hsz;have gf:(h'.push (lamO X.mg params body scope cl c' ctv)).get? h'.objs.size=some (lamO X.mg params body scope cl c' ctv):=xbr _ rfl;refine k h'.objs.size c' ctv _ (upd H h'.objs.size (.frz (lamO X.mg params body scope cl c' ctv) HX)) (I.un (t':=tk) (Un.laid (hk2 _) hsz nf) (I.hok.laid (hk2 _) hsz ⟨gf,zpr ⟨_,gf⟩⟩)) ⟨⟨ps,?_,ok.map fun b ob u e=>?_⟩,fun a o e _=>?_,fun a _ n1 n2=>?_⟩ zk nf ⟨oc,vs,t,?_,h2,h3⟩
  ·rw[zi (ze hT nf)];exact hT
  ·rw[zi (ze e nf)];exact e
  ·rw[zi (ze e nf)];exact e
  ·by_cases z:a=h'.objs.size
   ·subst z;exact ⟨_,zk⟩
   ·rw[zi z] at n2;exact absurd n1 n2
  ·rw[zi (ze h1 nf)];exact h1
 | none =>
  refine PySem.W.kla_makeFunction (mg:=X.mg) hcl I.ok.glob hg hcode CH tb ok.1 hf hgT hb fun c' ctv h' tk hx hge hlt hrec htb=>?_
  obtain ⟨c2,oc,vs,t,ec,hoc,hd,hv⟩:=hrec;cases ec;have nc:H c'=none:=I.hok.fresh hge;have hsz:s.heap.objs.size<=h'.objs.size:=xbb hge (xbm hlt);have nf:H h'.objs.size=none:=I.hok.fresh hsz;have cT:c'≠T:=fun z=>by rw[z,hT] at nc;cases nc
  have fT:h'.objs.size≠T:=fun z=>by rw[z,hT] at nf;cases nf
  have fc:h'.objs.size≠c':=xhz hlt;generalize hH:upd (upd (upd H T (.tbl (ps++#[rawInt pos.line,rawInt pos.col,.ref c']))) c' (.frz oc HX)) h'.objs.size (.frz (lamO X.mg params body scope cl c' ctv) HX)=H';have gf:(h'.push (lamO X.mg params body scope cl c' ctv)).get? h'.objs.size=some (lamO X.mg params body scope cl c' ctv):=xbr _ rfl;have hk2:∀b o,b≠T->s.heap.get? b=some o->(h'.push (lamO X.mg params body scope cl c' ctv)).get? b=some o:=fun b o n e=>xbe _ (hx b o n e)
  have old:∀b o,H b=some o->b≠T->H' b=some o:=fun b o e n=>by
   rw[← hH,zi (ze e nf),zi (ze e nc),zi n];exact e
  have hT':H' T=some (.tbl (ps++#[rawInt pos.line,rawInt pos.col,.ref c'])):=by rw[← hH,zi fT.symm,zi cT.symm,zk]
  have hc':H' c'=some (.frz oc HX):=by rw[← hH,zi fc.symm,zk]
  have hf':H' h'.objs.size=some (.frz (lamO X.mg params body scope cl c' ctv) HX):=by rw[← hH,zk]
  have nT:∀b,H b=none->b≠T:=fun b n z=>by rw[z,hT] at n;cases n
  have oT:∀{b:Addr} {o:HO},H b=some o->(∀qs,o≠.tbl qs)->b≠T:=fun {b o} e n z=>by rw[z,hT] at e;cases e;exact n _ rfl
  have els:∀b,b≠T->b≠c'->b≠h'.objs.size->H' b=H b:=fun b a1 a2 a3=>by rw[← hH,zi a3,zi a2,zi a1]
  have nw:Inv X pins τ H' {s with heap:=h'.push (lamO X.mg params body scope cl c' ctv),toks:=tk}:=by
   refine I.step (g':=s.gens) (d':=s.drawn) (ch:=[]) (fun _ z=>nomatch z) (fun b o _ _ _ e n=>hk2 b o (nT b n) e) (fun b o _ _ _ e n=>⟨o.slots,hk2 b o (nT b n) e⟩) (fun b o _ e n=>?_) (fun b o _ e=>?_) (fun b xs e=>old b _ e (oT e nofun)) (fun b o u e=>old b _ e (oT e nofun)) (fun b qs e=>?_) (fun m hm=>?_) (fun b o e=>?_) I.bare
   ·rw[els b (nT b n) (xbu (xbc (xbh e) hge)) (xbu (xbc (xbh e) hsz))];exact n
   ·by_cases z:b=T
    ·subst z;exact ⟨_,xbe _ htb⟩
    ·exact ⟨o,hk2 b o z e⟩
   ·by_cases z:b=T
    ·subst z;rw[hT] at e;cases e;exact ⟨_,hT'⟩
    ·exact ⟨#[],by rw[xgd];exact old b _ e z⟩
   ·obtain ⟨o,es,ep,e,r⟩:=hm;exact ⟨o,es,ep,hk2 _ o (nT _ I.free) e,r⟩
   ·by_cases z1:b=c'
    ·subst z1;rw[hc'] at e;cases e
     exact ⟨xbe _ hoc,zpr ⟨_,xbe _ hoc⟩⟩
    ·by_cases z2:b=T
     ·subst z2;rw[hT'] at e;cases e
      exact (xbe _ htb:(h'.push _).get? b=_)
     ·by_cases z3:b=h'.objs.size
      ·subst z3;rw[hf'] at e;cases e
       exact ⟨gf,zpr ⟨_,gf⟩⟩
      ·rw[els b z2 z1 z3] at e
       exact (I.hok b o e).stay (fun a u ha q=>hk2 a u (by
        rcases ha with rfl | ha
        ·exact z2
        ·exact oT ha nofun) q) (fun a ha=>old a _ ha (oT ha nofun)) fun a xs ha=>old a _ ha (oT ha nofun)
  refine k h'.objs.size c' ctv _ H' nw ⟨⟨_,hT',?_,fun pos' cv e=>?_⟩,old,fun a n1 n2 n3=>?_⟩ hf' nf ⟨oc,vs,t,hc',hd,hv⟩
  ·rw[xcj];exact zdy ok.1
  ·rw[xcj] at e;rcases zgt ok.1 e with q | q
   ·obtain ⟨c2,oc2,vs2,t2,e1,e2,e3⟩:=ok.2 pos' cv q;exact ⟨c2,oc2,vs2,t2,e1,old _ _ e2 (oT e2 nofun),e3⟩
   ·exact ⟨c',oc,vs,t,q,hc',hd,hv⟩
  ·by_cases z:a=c'
   ·subst z;exact ⟨oc,hc'⟩
   ·by_cases z3:a=h'.objs.size
    ·subst z3;exact ⟨_,hf'⟩
    ·rw[els a n1 z z3] at n3;exact absurd n2 n3
noncomputable def tLam (X:Cx) (T:Addr) (params:Arguments) (body:Expr) (scope:Scope):TE:=fun _ H Q=>∃ps,H T=some (.tbl ps)/\Dd.TabOk H ps/\∀f c' ctv cl H',(∀x c,cl.lookup x=some c->X.env.cells.lookup x=some c)->(∀x,(x,NameKind.free)∈scope.names->∃c,cl.lookup x=some c)->Grew T H H'->H' f=some (.frz (lamO X.mg params body scope cl c' ctv) HX)->H f=none->(∃oc vs t,H' c'=some (.frz oc HX)/\oc.data=.fields vs/\vs[1]?=some (.str Dd.lamQ t))->Q (.ref f) H'
theorem zwo {N : List Str} {is : List Nat} (S : CompScope X N 0 is scope) (C : PySem.W.CodeHd X.base c T) (B : BmOk X.mg X.base) (hcode : X.env.code = .ref c) (hqu : X.env.qual ++ "<lambda>" = Dd.lamQ) (hdef : defaultsOf params X.env = ([], [])) : PE X (.Lambda params body scope pos) (tLam X T params body scope) := by
 intro pins s σ H Q I ⟨ps,hT,ok,h⟩;obtain ⟨cl,e,c1,c2⟩:=zcq S I;exact zpl I C B hcode hT ok hqu e hdef fun f c' ctv s' H' I' g h1 h2 h3=>⟨.ref f,H',I',rfl,h f c' ctv cl H' c1 c2 g h1 h2 h3⟩
end
structure ErrLook (K:Fg) (C:Addr):Prop where
 ga : PySem.W.findIn K (.ref C) "__getattribute__" = some (some (.builtin "BaseException.__getattribute__"))
 gt : PySem.W.findIn K (.ref C) "__getattr__" = some none
 mb : PySem.W.mroIn K C (.type "BaseException") = some true
 cls:(PySem.W.clsIn K C).isSome=true
 fi : PySem.W.findIn K (.ref C) "__class__" = some (some (.builtin "object.__class__"))
 sp : PySem.W.specialIn K (.builtin "object.__class__") "__get__" = some (some (.builtin "getset_descriptor.__get__"))
 tk : PySem.W.takesIn K (.builtin "object.__class__") = some true
 mr : PySem.W.mroIn K C (.type "object") = some true
theorem zpt {K : Fg} {C : Addr} {od : Option Obj} (L : ErrLook K C) : PySem.W.findObj K C od "__class__" = some (.bind (.builtin "getset_descriptor.__get__") (.builtin "object.__class__")) := by
 obtain ⟨cd,hc⟩:=xhd.mp L.cls;unfold PySem.W.findObj;rw[hc,Option.bind_some,L.fi,Option.bind_some];simp[L.sp,L.tk]
theorem zxh {K:Fg} {C:Addr} (h:(PySem.W.clsIn K C).isSome=true):∃o cd,K.lookup C=some o/\o.data=.cls cd:=by
 obtain ⟨cd,hc⟩:=xhd.mp h;unfold PySem.W.clsIn at hc;split at hc
 ·next ho=>cases hc;exact ⟨_,_,ho,rfl⟩
 ·cases hc
theorem zqp {K : Fg} {M : Model} {A : Around} {E : Value -> Shared -> Prop} {s : Shared} {x D : Addr} {ox : Obj} {odo : Option Obj} {nameV : Value} {Q : Unit -> Shared -> Prop} (X : K.In s.heap) (I : PySem.W.InstAt s.heap x ox D odo) (hmb : PySem.W.mroIn K D (.type "BaseException") = some true)
  (h : Q () s) : wpAny M A (checkBuiltinCall "BaseException.__getattribute__" ⟨[.ref x, nameV], []⟩) Q E s := by
 have hk : builtinKind "BaseException.__getattribute__" = some .slot := by decide +kernel
 have hsplit : splitId "BaseException.__getattribute__" = some ("BaseException", "__getattribute__") := by decide +kernel
 have L0:=I.type (M:=M);have L4:=PySem.W.looks_mroIn (M:=M) X hmb;have ha:=PySem.F.args_bexc_ga (.ref x) nameV;simp only[checkBuiltinCall,hk,hsplit];refine xba ?_;unfold isInstance;refine xba (L0.at (L4.at ?_))
 repeat (first | assumption | wp_step)
theorem zmn {K:Fg} {prog:Program} {w:World} {A:Around} {E:Value->Shared->Prop} {s:Shared} {x D:Addr} {ox:Obj} {odo:Option Obj} {Q:Option Value->Shared->Prop} (X:K.In s.heap) (I:PySem.W.InstAt s.heap x ox D odo)
  (L : ErrLook K D) (h : Q (some (.ref D)) { s with toks := s.toks + 1 }) : wpAny (model prog w) A (getAttr? (.ref x) "__class__") Q E s := by
 obtain ⟨hh,g,d,t,os⟩:=s;have L0:=I.type (M:=model prog w);have L1:=PySem.W.looks_findIn (M:=model prog w) X L.ga;have L2:=PySem.W.looks_findIn (M:=model prog w) X L.gt;have L3:=PySem.W.looks_find (M:=model prog w) X I (zpt L);have hx2 : (Value.builtin "BaseException.__getattribute__" == Value.builtin "object.__getattribute__") = false := by decide +kernel
 unfold getAttr? getAttrBy? getAttrBy;refine xba (wpAny_mkText (xba (xgt (xef (xba (L0.at (xba (L1.at ?_))))))));dsimp only;rw[hx2,Bool.and_false,if_neg (by decide)];unfold getAttrByItsOwn;refine xba (show wpAny _ _ (typeLookup (.ref D) "__getattr__") _ _ _ from L2.at ?_)
 refine xba (xgt (xef ?_));show wpAny _ _ (boundAndCalled _ _ _) _ _ _;unfold boundAndCalled;rw[xik.ga.bind];refine xba (xbl ?_);refine xid (codeAny_call_builtin xik.ga.plain PySem.F.entry_bexc_ga (zqp (s:=⟨hh,g,d,t+1,os⟩) X I L.mb ?_));unfold Builtin.«object.__getattribute__»;refine xba (xbl (xba (xbl (xba (L0.at (xba (L3.at ?_)))))));dsimp only;show wpAny _ _ (holding [Value.builtin "object.__class__"] (call (Value.builtin "getset_descriptor.__get__") [Value.builtin "object.__class__", Value.ref x, Value.ref D]) >>= ret) _ _ _
 refine xba (xef (xid (PySem.W.class_get (s:=⟨hh,g,d,t+1,os⟩) X I L.mr ?_)));refine xbl ?_;exact PySem.W.handed_on rfl (xbl h)
theorem zpn {K:Fg} {a C:Addr} {o:Obj} (L:ErrLook K C) (hd:o.dict=none) (hn:∃vs,o.data=.fields vs) (hc:o.cls=.ref C):PySem.W.KitX K (.ref a) (.ref C) (fun h=>h.get? a=some o):=by
 have inst:∀{h:Heap},h.get? a=some o->PySem.W.InstAt h a o C none:=fun e=>⟨e,hc,by obtain ⟨vs,q⟩:=hn;unfold PySem.W.notCls;rw[q],by rw[hd];trivial⟩
 obtain ⟨oc,cd,l1,l2⟩:=zxh L.cls;refine ⟨fun M h _ e=>(inst e).type,fun M h X _=>?_,fun h tp dd its n sl X htp=>?_,fun {prog w A E Q s} X e k=>?_⟩
 ·intro A' Q' E' s' k q;unfold isType loadHead;refine xba (wpAny_loadPart (k _ _ (X _ _ l1)) (xbl ?_));rw[l2];exact q
 ·refine Bool.eq_false_iff.mpr fun q=>?_
  have e:C=tp:=Value.ref.inj (xeq.mp q);subst e;have z:=(X _ _ l1).symm.trans htp;cases z;cases l2
 ·exact zmn X (inst e) L k
section
variable {X:Cx}
noncomputable def rIsb (K:Fg) (xs:List V) (H:Hp) (Q:VK):Prop:=∃a o C c cv b,xs=[.ref a,c]/\RelV c cv/\(∀u,RelV c u->u=cv)/\H a=some (.frz o HX)/\o.cls=.ref C/\ErrLook K C/\o.dict=none/\(∃vs,o.data=.fields vs)/\PySem.W.kitOne K (.ref C) cv=some b/\Q (.bl b) H
theorem zqq : CallR X (.builtin "isinstance") (rIsb X.K) := by
 intro pins s σ H xs us Q I r h;obtain ⟨a,o,C,c,cv,b,rfl,_,un,h1,h2,lk,h3,h4,e,q⟩:=h;obtain ⟨u,w',rfl,ru,rw'⟩:=vals2 r;obtain rfl:=un _ rw';cases (show u=Value.ref a from ru);exact xdn (zpn lk h3 h4 h2) I.kIn (I.hok a _ h1).1 e (by intro z;cases z) fun tk=>⟨.bl b,H,I.tok tk,rfl,q⟩
end
theorem zgl : entryFor table "proto.unchain" = some Builtin.«proto.unchain» := entryFor_of_fast (by kernel_rfl)
theorem zly {prog:Program} {w:World} {A:Around} {E:Value->Shared->Prop} {s:Shared} {it l ea:Addr} {i:Nat} {items:Array Value} {oe:Obj} {vs:Array Value} {Q:Option Value->Shared->Prop} (hh:A.handled=some (.ref ea)) (he:s.heap.get? ea=some oe) (hv:oe.data=.fields vs) (h2:vs[2]?=some .none) (ne:ea≠it)
  (hit:s.heap.IsListIter it l i) (hl:s.heap.IsList l items) (hx:items[i]?=none) (hQ:∀h',Heap.ExtBut it s.heap h'->Q none {s with heap:=h'}):wpAny (model prog w) A (pyNext (.ref it)) Q E s:=by
 obtain ⟨o,ho,hc,hd⟩:=id hit;obtain ⟨ol,hol,_,nl,hdl⟩:=hl;unfold pyNext;refine xba (xgt (wpAny_callSpecial?_slot (name := Str.ofString "__next__") hit.typeIs slot_listiter_next (xfu slot_listiter_next hit.typeIs entry_listiter_next ?_ (args_listiter_next _))))
 refine xba (m:=field (.ref it) 0) (xgw ho hd (x:=.ref l) rfl ?_);rw[if_neg (fun z:(Value.ref l == Value.none)=true=>Bool.noConfusion z)];refine xba (m:=field (.ref it) 1) (xgw ho hd (x:=.int i 0) rfl ?_);refine xba (m:=seqItems? (.ref l)) (wpAny_seqItems hol hdl ?_);simp only[xil,hx];refine xba (xgr (xba (xgk ho hd (by simp) (xba (m := newExc (.type "StopIteration") []) ?_))))
 simp only[newExc,newTuple];refine xba (xez (xba (m:=firstArgMember _ _) (wpAny_of_eq (a:=Value.none) (by first | rfl | (simp only[firstArgMember];rfl)) (xez ?_ (by size_fits)))) (by size_fits));simp only[raiseNew];refine xba (wpAny_handled ?_);rw[show A.in1.handled=some (.ref ea) from hh];dsimp only;have hz:∀ob:Obj,((s.heap.update it (Obj.mapFields fun x=>x.setIfInBounds 0 Value.none)).push ob).objs.size=s.heap.objs.size+1:=fun ob=>by simp[Heap.push,Heap.update]
 have lt:=xbh he;have keep:∀(ob ob2:Obj) b o,b≠it->s.heap.get? b=some o->(((s.heap.update it (Obj.mapFields fun x=>x.setIfInBounds 0 Value.none)).push ob).push ob2).get? b=some o:=fun ob ob2 b o n e=>xbe _ (xbe _ (by rw[xck _ _ n.symm];exact e))
 have nN:∀ob:Obj,ea≠((s.heap.update it (Obj.mapFields fun x=>x.setIfInBounds 0 Value.none)).push ob).objs.size:=fun ob=>by rw[hz];exact xbu (xgh lt)
 have nq:∀n:Addr,ea≠n->(Value.ref ea != Value.ref n)=true:=fun n h=>bne_iff_ne.mpr fun z=>h (Value.ref.inj z)
 rw[if_pos (nq _ (nN _))];refine xba (xef (wpAny_runValue (codeAny_builtin zgl ?_)));refine xba (m:=field (.ref ea) 2) (xgw (keep _ _ ea oe ne he) hv h2 ?_);rw[if_pos (show (Value.none == Value.none)=true from rfl)];refine xba (xbl (xbl ?_));unfold updateField;refine xba (xba (wpAny_load (xbr _ rfl) ?_));dsimp only;rw[if_pos (by rw[Array.size_append];exact xbc (show 2 < 6 by decide) (xbj 6 _))];refine wpAny_update (xbr _ rfl) ?_;refine wpAny_throw (xba (wpAny_isInstance (T := "StopIteration") (b := true) ⟨_, xgi _ (xbr _ rfl) rfl, rfl⟩ isSubtype_stop ?_))
 refine xbl (hQ _ fun b o' n e=>?_);rw[xck _ _ (xhz (by rw[hz];exact xgh (xbh e)))];exact keep _ _ b o' n e
theorem walksH {prog:Program} {w:World} {A:Around} {ea:Addr} {oe:Obj} {vs:Array Value} (hh:A.handled=some (.ref ea)) (hv:oe.data=.fields vs) (h2:vs[2]?=some .none) (I ax:Addr) (hne:ax≠I) (hne2:ea≠I) (items:Array Value) :
  Walks prog w A I [I,ax,ea] [I] items.size (fun i v=>items[i]?=some v) (fun i h=>(h.IsListIter I ax i/\h.IsList ax items)/\h.get? ea=some oe):=by
 refine ⟨fun b hb=>by simp at hb;simp[hb],fun _ _ _ st hk=>⟨⟨st.1.1.at fun o e=>hk I (by simp) o e,st.1.2.at fun o e=>hk ax (by simp) o e⟩,hk ea (by simp) _ st.2⟩,fun i s Q E hi st hQ=>?_,fun s Q E st hQ=>?_,fun _ _ _ _ st hQ=>wpAny_pyIter_listiter st.1.1 hQ⟩
 ·refine wpAny_pyNext_list_item st.1.1 st.1.2 (x:=items[i]) (by simp[hi]) fun h' hit' hs'=>hQ _ h' s.toks (by simp[hi]) ⟨⟨hit',st.1.2.extBut hs'.extBut hne⟩,hs'.extBut _ _ hne2 st.2⟩ fun b o hb e=>hs'.extBut b o (fun h=>hb (by simp[h])) e
 ·exact zly hh st.2 hv h2 hne2 st.1.1 st.1.2 (by simp) fun h' he'=>hQ h' s.toks fun b o hb e=>he' b o (fun h=>hb (by simp[h])) e
section
variable {X:Cx}
theorem znb : CallR X (.builtin "any") (rAny X.K false) := by
 intro pins s σ H xs us Q I r h;obtain ⟨l,bs,rfl,hl,q⟩:=h;obtain ⟨u,rfl,ru⟩:=vals1 r;cases ru;obtain ⟨its,rv,pl,hz⟩:=I.list hl;have e:=zdx rv;subst e;have hlt:l < s.heap.objs.size:=by obtain ⟨o,n,e,_⟩:=pl;exact xbh e
 have e2:(bs.map Value.bool).toArray.size=bs.length:=by simp
 have fin:∀(h':Heap) tk,(∀b o,s.heap.get? b=some o->h'.get? b=some o)->EP X pins σ Q (.bool ((List.range (bs.map Value.bool).toArray.size).any fun i=>bs.getD i false)) {s with heap:=h',toks:=tk}:=fun h' tk hk=>by
  refine ⟨.bl _,H,I.kept (t':=tk) hk,rfl,?_⟩;rw[e2,zht];exact q
 have nw:∀(ob:Obj) (h':Heap),(∀b o,b∉[s.heap.objs.size]->(s.heap.push ob).get? b=some o->h'.get? b=some o)->∀b o,s.heap.get? b=some o->h'.get? b=some o:=fun ob h' hk b o e=>hk b o (fun z=>by
  have z':b=s.heap.objs.size:=by simpa using z
  have z2:=xbh e;rw[z'] at z2
  exact absurd z2 (xen _)) (xbe _ e)
 refine call_any_walk (xhp pl.isList ?_);cases hh:X.A.handled with
 | none=>exact ⟨s.heap.objs.size,_,[s.heap.objs.size],_,_,_,_,rfl,Walks.list (A:=X.A.in1) hh _ l (xbu hlt) (bs.map Value.bool).toArray,⟨⟨_,xbr _ rfl,rfl,rfl⟩,pl.isList.push _⟩,zdi bs,fun h' tk hk=>fin h' tk (nw _ h' hk)⟩
 | some v =>
  obtain ⟨ea,o,rfl,hf,vs,hd,h2⟩:=I.hnd v hh;have he:s.heap.get? ea=some o:=(I.hok ea _ hf).1;exact ⟨s.heap.objs.size,_,[s.heap.objs.size],_,_,_,_,rfl,walksH (A:=X.A.in1) hh hd h2 _ l (xbu hlt) (xbu (xbh he)) (bs.map Value.bool).toArray,⟨⟨⟨_,xbr _ rfl,rfl,rfl⟩,pl.isList.push _⟩,xbe _ he⟩,zdi bs,fun h' tk hk=>fin h' tk (nw _ h' hk)⟩
end
end L2
namespace L2
open PySem
namespace St
end St
namespace St
/- the leaps meet all places -/
end St
namespace St
/- laid anew -/
end St
namespace St
end St
end L2
namespace L2
open PySem PySem.W PyProof.Rows PySem.Spec
namespace St
section
variable {P:Program} {w:World} {B:Around} {E:Value->Shared->Prop} {s:Shared} {a:Addr}
end
end St
namespace St
section
variable {P:Program} {w:World} {B:Around} {R:Result->Shared->Prop} {it:Addr} {fp wr:List Addr} {G:Array GenState->Array GenState->Prop} {N:Nat} {It:Nat->Value->Prop} {St:Nat->Shared->Prop}
end
section
variable {P:Program} {w:World} {B:Around} {E:Value->Shared->Prop} {s:Shared}
end
end St
namespace St
section
variable {P:Program} {w:World} {B:Around} {E:Value->Shared->Prop} {s:Shared} {a it:Addr} {es:Array (Int × Value)} {ep:Nat} {t:SetTable} {ks:List Nat}
end
end St
end L2
namespace L2
open PySem PySem.Spec PyProof.Rows PySem.W
end L2
namespace Dd
open PySem L2 PyProof.Rows
section
variable {X:Cx} {x y:Str} {p p2 pos pos2:Pos} {e:Expr} {f:SA} {g:List D->Store->Res D}
end
end Dd
namespace L2
open PySem PySem.Spec PyProof.Rows PySem.W
end L2
namespace Dd
open PySem L2 PyProof.Rows
section
variable {X:Cx} {p p2 pos pos2 cpos apos:Pos} {e o:Expr} {f:SA} {g:SE}
end
noncomputable abbrev RXT:=L2.St->Value->Option Addr->Hp->Prop
noncomputable def XIs (K:Fg) (ρ:Loc) (H:Hp) (x:Exc) (C:Addr) (dx:Option Addr):Prop:=PySem.W.nsIn K mainGlobals x.cls=some (some (.ref C)) /\
 ((x.at_ = [] /\ dx = none) \/ ∃ i d od, x.at_ = [i] /\ dx = some d /\ H d = some (.frz od (.xd [("at", .int i)])) /\ Out ρ d)
noncomputable def XOk (K:Fg) (ρ:Loc) (H:Hp) (st':Store) (x:Exc) (R:XK):Prop:=∀ρ' H' C dx,Ext ρ H ρ' H'->Rep K ρ' st' H'->XIs K ρ' H' x C dx->R (.ref C) dx H'
theorem XOk.ext {K:Fg} {ρ ρ1:Loc} {H H1:Hp} {st':Store} {x:Exc} {R:XK} (e:Ext ρ H ρ1 H1) (h:XOk K ρ H st' x R):XOk K ρ1 H1 st' x R:=fun ρ' H' C dx a=>h ρ' H' C dx (e.trans a)
noncomputable def tX (K:Fg) (R:RXT) (f:SE):TE:=fun τ H Q=>∃ρ σ st,AtS K ρ H σ τ/\Rep K ρ st H/\((∃v st',f σ st=.ok v st'/\∀ρ' H' u,Ext ρ H ρ' H'->Rep K ρ' st' H'->At K ρ' H' v u->Q u H')\/∃x st',f σ st=.exc x st'/\XOk K ρ H st' x (R τ))
noncomputable def tXS (K:Fg) (R:RXT) (f:SS):TS:=fun E τ H=>∃ρ σ st,AtS K ρ H σ τ/\Rep K ρ st H/\((∃fl st',f σ st=.ok fl st'/\FlOk K ρ H st' E fl)\/∃x st',f σ st=.exc x st'/\XOk K ρ H st' x (R τ))
structure JX (X:Cx) (R:RXT) (e:Expr) (f:SE):Prop where out:PE X e (tX X.K R f)
structure JXS (X:Cx) (R:RXT) (s:Stmt) (f:SS):Prop where out:PS X s (tXS X.K R f)
structure JXB (X:Cx) (R:RXT) (s:List Stmt) (f:SS):Prop where out:PSs X s (tXS X.K R f)
noncomputable def noX {α:Type} (f:DS->Store->Res α):DS->Store->Res α:=fun σ st=>match f σ st with
 | .exc _ _=>.stuck
 | r=>r
theorem zjz {α:Type} {f:DS->Store->Res α} {σ:DS} {st st':Store} {v:α} (h:noX f σ st=.ok v st'):f σ st=.ok v st':=by
 unfold noX at h;split at h
 ·cases h
 ·exact h
theorem znq {α:Type} {f:DS->Store->Res α} {σ:DS} {st st':Store} {x:Exc} (h:noX f σ st=.exc x st'):False:=by
 unfold noX at h;split at h
 ·cases h
 ·rename_i hn;exact hn x st' h
theorem zdc {α β:Type} {f:DS->Store->Res α} {g:α->Store->Res β} {σ:DS} {st st':Store} {x:Exc} (h:(noX f σ st).bind g=.exc x st'):∃v st1,f σ st=.ok v st1/\g v st1=.exc x st':=by
 cases e:noX f σ st with
 | ok v st1=>rw[e] at h;exact ⟨v,st1,zjz e,h⟩
 | exc y w=>exact (znq e).elim
 | stuck=>rw[e] at h;cases h
noncomputable def CalX (P:Program) (w:World) (K:Fg) (mg:Str->Option Value) (base:Heap) (x:Str) (k:Nat) (ps:List Str) (F:DFn):Prop :=
 ∃f fd,FnOk P w K mg base (CX1 P w) k f fd ps (fun vs H Q E=>∃ρ ds st,AtAll K ρ H ds vs/\Rep K ρ st H/\vs.length=ps.length/\((∃v st',F ds st=.ok v st'/\∀ρ' H' u,Ext ρ H ρ' H'->Rep K ρ' st' H'->At K ρ' H' v u->Q u H')\/∃x st',F ds st=.exc x st'/\XOk K ρ H st' x E))/\Binds K fd ps []/\PySem.W.keepIn K (.ref f)=true/\mg x=some (.ref f)
section
variable {X:Cx} {R:RXT} {e:Expr} {es:List Expr} {f:SE} {g:SA} {sm:Stmt} {rest body:List Stmt} {s t:SS} {pos p:Pos} {x:Str} {k:Nat} {ps:List Str} {F:DFn}
theorem zkl (h:JB X body s):JXB X R body (noX s):=⟨zjr h.out fun E τ H hq0=>by
 obtain ⟨ρ,σ,st,a,rp,q⟩:=hq0;rcases q with ⟨v,st',e1,q⟩ | ⟨x,st',e1,_⟩
 ·exact ⟨ρ,σ,st,v,st',a,rp,zjz e1,q⟩
 ·exact (znq e1).elim⟩
theorem ztn (c : CalX X.prog X.w X.K X.mg X.base x k ps F) (hw : Wish X R) (hn : ∀ ds st, ds.length ≠ ps.length -> F ds st = .stuck) (hr : Room k X.A) (hg : Gl X x) (ha : JA X (e :: es) g) (hdb : (x == ("__debug__" : Str)) = false := by decide)
  (he:starEach (e::es) X.env=(false,eval e X.env)::starEach es X.env:=by rfl) (hpl:(backTo pos (starEach es X.env)).any (·.1)=false:=by rfl):JX X R (.Call (.Name x p) (e::es) [] pos) (eCall F (noX g)):=by
 obtain ⟨fa,fd,G,b,kp,m⟩:=c;refine ⟨fun pins s τ H Q I ⟨ρ,σ,st,a,rp,h⟩=>?_⟩;obtain ⟨ds,st1,e1,h1⟩:∃ds st1,g σ st=.ok ds st1/\((∃v st',F ds st1=.ok v st'/\∀ρ' H' u,Ext ρ H ρ' H'->Rep X.K ρ' st' H'->At X.K ρ' H' v u->Q u H')\/∃x st',F ds st1=.exc x st'/\XOk X.K ρ H st' x (R τ)):=by
  rcases h with ⟨v,st',e1,q⟩ | ⟨x,st',e1,q⟩
  ·obtain ⟨ds,st1,e2,e3⟩:=zb e1;exact ⟨ds,st1,zjz e2,.inl ⟨v,st',e3,q⟩⟩
  ·obtain ⟨ds,st1,e2,e3⟩:=zdc e1;exact ⟨ds,st1,e2,.inr ⟨x,st',e3,q⟩⟩
 refine xew (zff I hg m ?_ hdb);refine xih (h₀:=X.base) I.ok.mod.kin kp (thn (ha.out pos pins s τ H (fun vs H1=>∃ρ1,Ext ρ H ρ1 H1/\Rep X.K ρ1 st1 H1/\AtAll X.K ρ1 H1 ds vs) I ⟨ρ,σ,st,ds,st1,a,rp,e1,fun ρ1 H1 u x1 rp1 a1=>⟨ρ1,x1,rp1,a1⟩⟩) fun us s1 ⟨vs,H1,I1,r,ρ1,x1,rp1,a1⟩=>⟨I1.kIn,?_⟩) he hpl;have hlen:vs.length=ps.length:=by
  rw[a1.length];by_cases hl:ds.length=ps.length
  ·exact hl
  ·rcases h1 with ⟨v,st',e3,_⟩ | ⟨x,st',e3,_⟩<;>(rw[hn ds st1 hl] at e3;cases e3)
 have r2:Vals vs (us++[]):=by rw[xdo];exact r
 refine xid (xhi (G.run X.A X.stack s1 H1 ⟨us,[]⟩ (us++[]) vs Q (R τ) hr I1.env0 (b s1 us I1.kIn (by rw[xdo,← r.length];exact hlen)) r2 ⟨ρ1,ds,st1,a1,rp1,hlen,?_⟩) fun r s' hq=>?_)
 ·rcases h1 with ⟨v,st',e3,q⟩ | ⟨x,st',e3,q⟩
  ·exact .inl ⟨v,st',e3,fun ρ' H' u x2=>q ρ' H' u (x1.trans x2)⟩
  ·exact .inr ⟨x,st',e3,q.ext x1⟩
 ·cases r with
  | error er =>
   obtain ⟨ea,T,C,dx,H',rfl,os,bare,un,hok,Fl,hR⟩:=hq;exact hw pins τ H' ea T C dx s' Fl (I1.call' (ch:=[]) os un hok bare (fun _ z=>nomatch z)) hR
  | ok fl =>
   cases fl with
   | ret u=>exact I1.after hq
   | next=>exact False.elim hq
   | brk=>exact False.elim hq
   | cont=>exact False.elim hq
theorem zto (h1:JXS X R sm s):JXB X R [sm] s:=⟨zjs h1.out⟩
noncomputable def Cst (R:RXT):Prop:=∀τ τ',R τ=R τ'
theorem zpx (hR:Cst R) (h1:JXS X R sm s) (h2:JXB X R rest t):JXB X R (sm::rest) (sSeq s t):=⟨zjr (zhc h1.out h2.out) fun E τ H hq0=>by
 obtain ⟨ρ,σ,st,a,rp,q⟩:=hq0;refine ⟨ρ,σ,st,a,rp,?_⟩;cases e0:s σ st with
 | stuck=>rcases q with ⟨fl,st',e1,q⟩ | ⟨x,st',e1,q⟩<;>(unfold sSeq at e1;rw[e0] at e1;cases e1)
 | exc y w =>
  rcases q with ⟨fl,st',e1,q⟩ | ⟨x,st',e1,q⟩
  ·unfold sSeq at e1;rw[e0] at e1;cases e1
  ·unfold sSeq at e1;rw[e0] at e1;cases e1;exact .inr ⟨_,_,rfl,q⟩
 | ok fl st1 =>
  refine .inl ⟨fl,st1,rfl,?_⟩;cases fl with
  | nx σ1 =>
   refine fun ρ1 H1 τ1 x1 rp1 a1=>⟨ρ1,σ1,st1,a1,rp1,?_⟩
   rcases q with ⟨fl,st',e1,q⟩ | ⟨x,st',e1,q⟩
   ·unfold sSeq at e1;rw[e0] at e1;exact .inl ⟨fl,st',e1,q.ext x1⟩
   ·unfold sSeq at e1;rw[e0] at e1;exact .inr ⟨x,st',e1,by rw[hR τ1 τ];exact q.ext x1⟩
  | brk σ1=>rcases q with ⟨fl,st',e1,q⟩ | ⟨x,st',e1,q⟩<;>(unfold sSeq at e1;rw[e0] at e1;cases e1);exact q
  | ct σ1=>rcases q with ⟨fl,st',e1,q⟩ | ⟨x,st',e1,q⟩<;>(unfold sSeq at e1;rw[e0] at e1;cases e1);exact q
  | ret v=>rcases q with ⟨fl,st',e1,q⟩ | ⟨x,st',e1,q⟩<;>(unfold sSeq at e1;rw[e0] at e1;cases e1);exact q⟩
theorem zya {c:Expr} {b:ST} {a' b':List Stmt} (hc:JT X c b) (ha:JXB X R a' s) (hb:JXB X R b' t):JXS X R (.If c a' b' pos) (sIf (noX b) s t):=⟨zjc (zzq hc.out ha.out hb.out) fun E τ H hq0=>by
 obtain ⟨ρ,σ,st,a,rp,q⟩:=hq0;obtain ⟨v,st1,e1,q⟩:∃v st1,b σ st=.ok v st1/\((∃fl st',(if v=true then s σ st1 else t σ st1)=.ok fl st'/\FlOk X.K ρ H st' E fl)\/∃x st',(if v=true then s σ st1 else t σ st1)=.exc x st'/\XOk X.K ρ H st' x (R τ)):=by
  rcases q with ⟨fl,st',e1,q⟩ | ⟨x,st',e1,q⟩
  ·obtain ⟨v,st1,e2,e3⟩:=zb e1;exact ⟨v,st1,zjz e2,.inl ⟨fl,st',e3,q⟩⟩
  ·obtain ⟨v,st1,e2,e3⟩:=zdc e1;exact ⟨v,st1,e2,.inr ⟨x,st',e3,q⟩⟩
 refine ⟨ρ,σ,st,v,st1,a,rp,e1,fun ρ1 H1 x1 rp1=>?_⟩;have q2:((∃fl st',(if v=true then s σ st1 else t σ st1)=.ok fl st'/\FlOk X.K ρ1 H1 st' E fl)\/∃x st',(if v=true then s σ st1 else t σ st1)=.exc x st'/\XOk X.K ρ1 H1 st' x (R τ)):=by
  rcases q with ⟨fl,st',e2,q⟩ | ⟨x,st',e2,q⟩
  ·exact .inl ⟨fl,st',e2,q.ext x1⟩
  ·exact .inr ⟨x,st',e2,q.ext x1⟩
 cases v with
 | true=>exact iteT ⟨ρ1,σ,st1,a.ext x1,rp1,q2⟩
 | false=>exact iteF ⟨ρ1,σ,st1,a.ext x1,rp1,q2⟩⟩
noncomputable def EndX (K:Fg) (ρ:Loc) (H:Hp) (E:Ends) (R:XK) (r:Res Fl):Prop:=(∃fl st',r=.ok fl st'/\FlOk K ρ H st' E fl)\/∃x st',r=.exc x st'/\XOk K ρ H st' x R
theorem EndX.ext {K:Fg} {ρ ρ1:Loc} {H H1:Hp} {E:Ends} {R:XK} {r:Res Fl} (e:Ext ρ H ρ1 H1) (h:EndX K ρ H E R r):EndX K ρ1 H1 E R r:=by
 rcases h with ⟨fl,st',h,q⟩ | ⟨x,st',h,q⟩
 ·exact .inl ⟨fl,st',h,q.ext e⟩
 ·exact .inr ⟨x,st',h,q.ext e⟩
theorem EndX.stuck {K:Fg} {ρ:Loc} {H:Hp} {E:Ends} {R:XK} (h:EndX K ρ H E R .stuck):False:=by
 rcases h with ⟨_,_,h,_⟩ | ⟨_,_,h,_⟩<;>cases h
theorem EndX.okE {K:Fg} {ρ:Loc} {H:Hp} {E:Ends} {R:XK} {fl:Fl} {st:Store} (h:EndX K ρ H E R (.ok fl st)):FlOk K ρ H st E fl:=by
 rcases h with ⟨_,_,h,q⟩ | ⟨_,_,h,_⟩
 ·cases h;exact q
 ·cases h
theorem EndX.excE {K:Fg} {ρ:Loc} {H:Hp} {E:Ends} {R:XK} {x:Exc} {st:Store} (h:EndX K ρ H E R (.exc x st)):XOk K ρ H st x R:=by
 rcases h with ⟨_,_,h,_⟩ | ⟨_,_,h,q⟩
 ·cases h
 ·cases h;exact q
noncomputable def sRaise (c:Str) (g:SA):SS:=fun σ st=>(g σ st).bind fun xs st1=>if xs.length<=sizeLine then .exc ⟨c,[]⟩ st1 else .stuck
theorem zms {C : Addr} {np cpos : Pos} (hw : WishR X R) (hx : ErrCls X.K x C) (hc : X.calm = true) (hg : Gl X x) (ha : JA X (e :: es) g) (hd : (x == ("__debug__" : Str)) = false := by decide) (he : starEach (e :: es) X.env = (false, eval e X.env) :: starEach es X.env := by rfl)
  (hpl:(backTo cpos (starEach es X.env)).any (·.1)=false:=by rfl):JXS X R (.Raise (some (.Call (.Name x np) (e::es) [] cpos)) none pos) (sRaise x (noX g)):=by
 refine ⟨fun pins s τ H E I ⟨ρ,σ,st,a,rp,q⟩=>?_⟩;obtain ⟨xs,st1,e1,hl,q⟩:∃xs st1,g σ st=.ok xs st1/\xs.length<=sizeLine/\XOk X.K ρ H st1 ⟨x,[]⟩ (R τ):=by
  rcases q with ⟨fl,st',e1,q⟩ | ⟨y,st',e1,q⟩
  ·obtain ⟨v,st1,e2,e3⟩:=zb e1;split at e3<;>cases e3
  ·obtain ⟨v,st1,e2,e3⟩:=zdc e1;split at e3
   ·cases e3;exact ⟨v,_,e2,by assumption,q⟩
   ·cases e3
 refine zow (ztk I.mod.kin I.mod.glob hx) F.excBase_ValueError (by decide) F.excBase_ValueError hc hg ha.out hd he hpl I ⟨ρ,σ,st,xs,st1,a,rp,e1,fun ρ1 H1 u x1 rp1 a1=>⟨by rw[a1.length];exact hl,fun s1 us h' ee I1 rv hm=>?_⟩⟩;obtain ⟨t,h1,h2,h3⟩:=hm.there;exact hw pins τ H1 ee C none s1 _ I1 hm.keeps rfl hm.new ⟨_,_,h1,rfl,rfl,rfl,rfl,rfl⟩ (q ρ1 H1 C none x1 rp1 ⟨hx.1,.inl ⟨rfl,rfl⟩⟩)
noncomputable def sTry (i:Nat) (cs:List Str) (b u:SS):SS:=fun σ st=>match b σ st with
 | .exc x st1=>if x.cls∈cs then (match u (σ.set i (some (.exn x.cls x.at_))) st1 with
  | .ok (.ret v) st2=>.ok (.ret v) st2
  | _=>.stuck) else .stuck
 | r=>r
theorem zrp {K:Fg} {B:Addr} {i:Nat} {cs:List Str} {u:SS} {E:Ends} {ρ:Loc} {σ:DS} {τ:L2.St} {H:Hp} {st1 st':Store} {y:Exc} {fl:Fl} (hcs:∀c∈cs,∀C,PySem.W.nsIn K mainGlobals c=some (some (.ref C))->PySem.W.exmOne K (.ref C) (.ref B)=some true) (a:AtS K ρ H σ τ)
  (e:(if y.cls∈cs then (match u (σ.set i (some (.exn y.cls y.at_))) st1 with
  | .ok (.ret v) st2=>Res.ok (Fl.ret v) st2
  | _=>.stuck) else .stuck)=.ok fl st') (q:FlOk K ρ H st' E fl):XOk K ρ H st1 y (RH K B i (tDS K u) E.rt τ):=by
 split at e
 ·next hmem =>
  refine fun ρ1 H1 C dx x1 rp1 xi=>⟨hcs _ hmem C xi.1,fun ea T o h1 h2 h3 h4 h5 h6=>?_⟩
  have hT:upd H1 T HX ea=none:=by rw[zi h3.symm];exact h1
  have x2:=x1.trans ((Ext.new h2 HX).trans (Ext.new hT (.frz o HX)));have rp2:=(rp1.new h2 HX).new hT (.frz o HX);have oe:Out ρ1 ea:=zdu (rp1.new h2 HX) hT;refine ⟨ρ1,σ.set i (some (.exn y.cls y.at_)),st1,?_⟩;cases e3:u (σ.set i (some (.exn y.cls y.at_))) st1 with
  | stuck=>rw[e3] at e;cases e
  | exc _ _=>rw[e3] at e;cases e
  | ok fl2 st2 =>
   rw[e3] at e;cases fl2 with
   | ret v =>
    cases e;refine ⟨.ret v,_,(a.ext x2).set (.exn ⟨C,o,xi.1,⟨zk,oe⟩,h4,h6,?_⟩) i,rp2,rfl,fun ρ' H' w x3=>q ρ' H' w (x2.trans x3)⟩;rcases xi.2 with ⟨z1,z2⟩ | ⟨j,d,od,z1,z2,z3,z4⟩
    ·exact .inl ⟨z1,by rw[h5,z2]⟩
    ·refine .inr ⟨j,d,od,z1,by rw[h5,z2],?_,z4⟩;rw[zi (ze (by rw[zi (ze z3 h2)];exact z3) hT),zi (ze z3 h2)];exact z3
   | nx _=>cases e
   | brk _=>cases e
   | ct _=>cases e
 ·cases e
end
section
variable {P:Program} {w:World} {K:Fg} {mg:Str->Option Value} {base h:Heap} {x:Str} {st:Stmt} {N ps:List Str} {k:Nat} {b:SS}
theorem zuk (T:TopF K x st) (X:K.In h) (G:h.Ns mainGlobals mg) (S:FnScope N ps (defScope st))
  (bd:∀(kV doc pm:Value) (an:Option Addr) (cdv ct:Value) (us:List Value),us.length=ps.length->bindArgs (PySem.W.fnOf x x (defArgs st) (defBody st) (defScope st) .none kV doc pm an cdv ct) ⟨us,[]⟩=pure (ps.zip us))
  (hbody:∀(f:Addr) (cdv:Value) (A:Around) (outer:List Env) (s:Shared) (H:Hp) (E:XK),Room k (A.deeper (envOfC x (defScope st) s.heap.objs.size f cdv)) ->
   JXB (cxOf (CX1 P w) P w K mg base N x (defScope st) f cdv A outer s H E) (fun _ c dx H=>E c dx H) (defBody st) b):CalX P w K mg base x (k+1) ps (fnD N.length ps.length b):=by
 obtain ⟨f,fd,a,F⟩:=T;refine ⟨f,fd,?_,F.binds bd,F.kp,xcl X G a⟩;obtain ⟨oc,od,kV,doc,pm,an,cdv,ct,osl,rfl,lk,hcd⟩:=F.ex;refine zxo lk hcd S (fun vs H Q E h=>by obtain ⟨_,_,_,_,_,hl,_⟩:=h;exact hl) fun A outer s H vs Q E hr hsp=>⟨_,(hbody f cdv A outer s H E hr).out,?_⟩
 obtain ⟨ρ,ds,st1,al,rp,hl,q⟩:=hsp;have hd:ds.length=ps.length:=by rw[← al.length];exact hl
 have as:AtS K ρ H (ds.map Option.some++List.replicate (N.length - ps.length) none) (L2.start N vs):=by
  unfold L2.start;rw[hl];exact al.some.append (.nones _)
 unfold fnD at q;rw[if_pos hd] at q;refine ⟨ρ,_,st1,as,rp,?_⟩;cases hr:b (ds.map Option.some++List.replicate (N.length - ps.length) none) st1 with
 | stuck=>rw[hr] at q;rcases q with ⟨_,_,z,_⟩ | ⟨_,_,z,_⟩<;>cases z
 | exc y w1 =>
  rw[hr] at q;rcases q with ⟨_,_,z,_⟩ | ⟨_,_,z,q⟩
  ·cases z
  ·cases z;exact .inr ⟨_,_,rfl,q⟩
 | ok fl st2 =>
  rw[hr] at q;refine .inl ⟨fl,st2,rfl,?_⟩;cases fl with
  | ret w1=>rcases q with ⟨_,_,z,q⟩ | ⟨_,_,z,_⟩<;>cases z;exact fun ρ' H' u x r t=>q ρ' H' u x r t
  | nx σ=>rcases q with ⟨_,_,z,q⟩ | ⟨_,_,z,_⟩<;>cases z;exact fun ρ' H' τ x r t=>q ρ' H' .non x r .non
  | brk σ=>rcases q with ⟨_,_,z,_⟩ | ⟨_,_,z,_⟩<;>cases z
  | ct σ=>rcases q with ⟨_,_,z,_⟩ | ⟨_,_,z,_⟩<;>cases z
theorem zmm {n np:Nat} {b:SS} (ds:List D) (st:Store) (h:ds.length≠np):fnD n np b ds st=.stuck:=by unfold fnD;rw[if_neg h]
end
theorem zyq {K:Fg} {P:Addr->Prop}:∀c∈([]:List Str),∀C,PySem.W.nsIn K mainGlobals c=some (some (.ref C))->P C:=fun _ h=>nomatch h
theorem zuh {K:Fg} {P:Addr->Prop} {c:Str} {cs:List Str} {C0:Addr} (h:PySem.W.nsIn K mainGlobals c=some (some (.ref C0))) (p:P C0) (r:∀c∈cs,∀C,PySem.W.nsIn K mainGlobals c=some (some (.ref C))->P C) :
  ∀c'∈c::cs,∀C,PySem.W.nsIn K mainGlobals c'=some (some (.ref C))->P C:=fun c' hc C e=>by
 rcases xcc.mp hc with rfl | hc
 ·rw[h] at e;cases e;exact p
 ·exact r c' hc C e
theorem zqj {X : Cx} {x : Str} {k : Nat} {ps : List Str} {F : DFn} {p pos : Pos} {e : Expr} {es : List Expr} {g : SA} (c : CalX X.prog X.w X.K X.mg X.base x k ps F) (hn : ∀ ds st v st', F ds st = .ok v st' -> ds.length = ps.length) (hr : Room k X.A) (hg : Gl X x) (ha : JA X (e :: es) g) (hdb : (x == ("__debug__" : Str)) = false := by decide)
  (he:starEach (e::es) X.env=(false,eval e X.env)::starEach es X.env:=by rfl) (hpl:(backTo pos (starEach es X.env)).any (·.1)=false:=by rfl):JE X (.Call (.Name x p) (e::es) [] pos) (eCall F g):=by
 obtain ⟨f,fd,G,b,kp,m⟩:=c;refine ⟨zdr (zno G hr hg m kp b .nil (E:=E0) (fun _ _ _ _ _ _ _ ⟨_,_,_,_,_,_,_,_,_,_,_,z⟩=>z.elim) ha.out hdb he hpl) fun τ H Q ⟨ρ,σ,st,v,st',a,rp,e,q⟩=>?_⟩;obtain ⟨ds,st1,e1,e⟩:=zb e;refine ⟨ρ,σ,st,ds,st1,a,rp,e1,fun ρ1 H1 u x1 rp1 a1=>?_⟩;show ∃_,_
 rw[xdo];exact ⟨ρ1,ds,st1,a1,rp1,by rw[a1.length];exact hn _ _ _ _ e,.inl ⟨v,st',e,fun ρ' H' w x2=>q ρ' H' w (x1.trans x2)⟩⟩
structure Thk (X:Cx) (f:Addr) (τL:L2.St) (g:SE):Prop where
 there:∀pins τ H s,Inv X pins τ H s->PySem.W.FnAt f s.heap
 run:∀pins τ H s (E:XK) (Q:VK),Inv X pins τ H s->tX X.K (fun _ c dx H=>E c dx H) g τL H Q->codeAny (model X.prog X.w) X.A (.call (.ref f) ⟨[],[]⟩) (CR (CX1 X.prog X.w) X.stack X.prog X.w H s Q E) s
noncomputable def tThk (K:Fg) (R:RXT) (f:Addr) (σL:DS) (τL:L2.St) (g:SE):TE:=fun τ H Q=>τ[0]?=some (some (.ref f))/\∃ρ σ st,AtS K ρ H σ τ/\AtS K ρ H σL τL/\Rep K ρ st H/\((∃v st',g σL st=.ok v st'/\∀ρ' H' u,Ext ρ H ρ' H'->Rep K ρ' st' H'->At K ρ' H' v u->Q u H')\/∃x st',g σL st=.exc x st'/\XOk K ρ H st' x (R τ))
noncomputable def tRef (K:Fg) (f:Addr) (σL:DS) (τL:L2.St) (b:SS):TS:=fun E τ H=>τ[0]?=some (some (.ref f))/\∃ρ σ st fl st',AtS K ρ H σ τ/\AtS K ρ H σL τL/\Rep K ρ st H/\b σ st=.ok fl st'/\FlOk K ρ H st' E fl
section
variable {X:Cx} {R:RXT} {f:Addr} {σL:DS} {τL:L2.St} {g:SE} {x n y:Str} {p pos pos2 xp hp:Pos} {B:Addr} {i:Nat} {cs:List Str} {b0:Stmt} {suite rest:List Stmt} {u t:SS}
theorem zwa (hw:Wish X R) (T:Thk X f τL g) (hv:PE X (.Name x p) (tVar 0)):PE X (.Call (.Name x p) [] [] pos) (tThk X.K R f σL τL g):=by
 intro pins s τ H Q I ⟨h0,ρ,σ,st,a,aL,rp,h⟩;refine xew (xdi (hv pins s τ H (fun v H'=>v=.ref f/\H'=H) I ⟨_,h0,rfl,rfl⟩) (fun w s1 h1=>?_) fun _ _ z=>z);obtain ⟨v,H1,I1,rv,rfl,rfl⟩:=h1;obtain rfl:w=Value.ref f:=rv;refine PySem.W.callWith_F0 (T.there pins τ H1 s1 I1) ?_;refine xid (xhi (T.run pins τ H1 s1 (R τ) Q I1 ⟨ρ,σL,st,aL,rp,h⟩) fun r s' hq=>?_);cases r with
 | error er =>
  obtain ⟨ea,T1,C,dx,H',rfl,os,bare,un,hok,Fl,hR⟩:=hq;exact hw pins τ H' ea T1 C dx s' Fl (I1.call' (ch:=[]) os un hok bare (fun _ z=>nomatch z)) hR
 | ok fl =>
  cases fl with
  | ret u=>exact I1.after hq
  | next=>exact False.elim hq
  | brk=>exact False.elim hq
  | cont=>exact False.elim hq
theorem zsb (hc:X.calm=true) (st0:X.stack=X.env::X.outer) (fr:X.env.frame=some X.env.locals) (hN:X.N.Nodup) (hi:X.N[i]?=some n) (hn:X.env.kindOf n=some .local) (hg:Gl X y) (hB:PySem.W.nsIn X.K mainGlobals y=some (some (.ref B)))
  (hcs:∀c∈cs,∀C,PySem.W.nsIn X.K mainGlobals c=some (some (.ref C))->PySem.W.exmOne X.K (.ref C) (.ref B)=some true) (T:∀E pn,Thk (X.tryc E pn) f τL g) (hv:∀E pn,PE (X.tryc E pn) (.Name x p) (tVar 0))
  (hs : ∀ e, JB (X.caught e) (b0 :: suite) u) (hd : (y == ("__debug__" : Str)) = false := by decide) (hsw : swapsWith (.Call (.Name x p) [] [] pos) none pos2.line X.env = pure false := by rfl) {tp : Pos} :
  PS X (.Try [.Expr (.Call (.Name x p) [] [] pos) pos2] [.ExceptHandler (some (.Name y xp)) (some n) (b0::suite) hp] [] [] tp) (tRef X.K f σL τL (sTry i cs (sDrop fun _=>g σL) u)) :=
 zjc (zwc hc st0 fr hN hi hn hg hB (tb:=fun R E τ H=>tThk X.K R f σL τL g τ H fun _ H'=>E.nx τ H') (ts:=tDS X.K u) (fun R E pn hw=>zjs (znm (zwa hw (T E pn) (hv E pn)) hsw)) (fun e=>(hs e).out) hd) fun E τ H hq0=>by
  obtain ⟨h0,ρ,σ,st,fl,st',a,aL,rp,e,q⟩:=hq0;refine ⟨h0,ρ,σ,st,a,aL,rp,?_⟩;unfold sTry sDrop at e;rw[show ((fun _=>g σL:SE) σ st)=g σL st from rfl] at e;cases e0:g σL st with
  | stuck=>rw[e0] at e;cases e
  | ok v st1=>rw[e0] at e;cases e;exact .inl ⟨v,_,rfl,fun ρ1 H1 w x1 rp1 _=>q _ _ _ x1 rp1 (a.ext x1)⟩
  | exc z st1=>rw[e0] at e;exact .inr ⟨z,st1,rfl,zrp hcs a e q⟩
theorem zrz {tr:Stmt} {s:SS} (h1:PS X tr (tRef X.K f σL τL s)) (h2:JB X rest t):PSs X (tr::rest) (tRef X.K f σL τL (sSeq s t)):=zjr (zhc h1 h2.out) fun E τ H hq0=>by
 obtain ⟨h0,ρ,σ,st,fl,st',a,aL,rp,e,q⟩:=hq0;refine ⟨h0,ρ,σ,st,?_⟩;unfold sSeq at e;split at e
 ·rename_i σ1 st1 e1;exact ⟨_,st1,a,aL,rp,e1,fun ρ1 H1 τ1 x1 rp1 a1=>⟨ρ1,σ1,st1,fl,st',a1,rp1,e,q.ext x1⟩⟩
 ·rename_i hne;refine ⟨fl,st',a,aL,rp,e,?_⟩;cases fl with
  | nx σ'=>exact absurd e (hne σ' st')
  | brk σ'=>exact q
  | ct σ'=>exact q
  | ret w=>exact q
end
noncomputable def eRefd (F:(Store->Res D)->DFn) (is:List Nat) (lam:SE):SE:=fun σ st=>match (st[0]?:Option O) with
 | some O.tab=>F (lam (startD 0 is σ)) [.ref st.length] (st++[.dead])
 | _=>.stuck
theorem Rep.more {K:Fg} {ρ:Loc} {st:Store} {H:Hp} (r:Rep K ρ st H):Ext ρ H ⟨ρ.m++[none],ρ.g⟩ H/\Rep K ⟨ρ.m++[none],ρ.g⟩ (st++[.dead]) H:=by
 have sub:∀{n:Nat} {a:Addr},(ρ.m++[none])[n]?=some (some a)->ρ.m[n]?=some (some a):=fun {n a} e=>by
  rcases xec n ρ.m.length with h | h
  ·rwa [xby h] at e
  ·rw[xbq h] at e;cases z:n - ρ.m.length with
   | zero=>rw[z] at e;cases e
   | succ k=>rw[z] at e;cases e
 have E:Ext ρ H ⟨ρ.m++[none],ρ.g⟩ H:=⟨by simp,fun n a _ e=>sub e,fun a o e m=>⟨e,fun z=>by
  rcases xco.mp z with z | z
  ·exact m z
  ·cases xbs.mp z⟩,rfl,fun _ _ _ e=>e⟩
 refine ⟨E,by simp[r.len],fun n m a e1 e2=>r.inj n m a (sub e1) (sub e2),fun n a o e1 e2=>?_,fun a ha=>?_,fun n o e1 e2=>?_⟩
 ·have hn:n < st.length:=by rw[← r.len];exact (xbn.mp (sub e1)).1
  rw[xby hn] at e2;exact (r.obj n a o (sub e1) e2).ext E rfl
 ·obtain ⟨h1,h2⟩:=r.gh a ha
  exact ⟨h1,fun z=>by
   rcases xco.mp z with z | z
   ·exact h2 z
   ·cases xbs.mp z⟩
 ·rcases xec n st.length with h | h
  ·rw[xby h] at e1;obtain ⟨a,q⟩:=r.live n o e1 e2;exact ⟨a,by rw[xby (by rw[r.len];exact h)];exact q⟩
  ·rw[xbq h] at e1;cases z:n - st.length with
   | zero=>rw[z] at e1;cases e1;exact absurd rfl e2
   | succ k=>rw[z] at e1;cases e1
theorem Rep.grew {K : Fg} {ρ : Loc} {st : Store} {H H' : Hp} {c T : Addr} (r : Rep K ρ st H) (ht : PySem.W.tabIn K "law" = some (c, T)) (h0 : ρ.m[0]? = some (some T)) (h1 : st[0]? = some .tab) (hT : ∃ ps, H T = some (.tbl ps)) (g : Grew T H H') : Ext ρ H ρ H' /\ Rep K ρ st H' := by
 obtain ⟨ps,hT⟩:=hT;have E:Ext ρ H ρ H':=⟨xbg _,fun _ _ _ e=>e,fun a o e m=>⟨g.old a o e (by rintro rfl;exact m (xcx h0)),m⟩,rfl,fun a ob u e=>g.old a _ e (by rintro rfl;rw[hT] at e;cases e)⟩
 refine ⟨E,r.len,r.inj,fun n a o e1 e2=>?_,fun a ha=>?_,r.live⟩
 ·by_cases z:a=T
  ·subst z;obtain rfl:=r.inj n 0 a e1 h0;rw[h1] at e2;cases e2
   exact ⟨⟨c,ht⟩,g.tab⟩
  ·have q:=r.obj n a o e1 e2;obtain ⟨w,hw⟩:=q.has;exact q.ext E (by rw[hw];exact g.old a w hw z)
 ·obtain ⟨⟨vs,e⟩,m⟩:=r.gh a ha;exact ⟨⟨vs,g.old a _ e (by rintro rfl;rw[hT] at e;cases e)⟩,m⟩
section
variable {X:Cx} {y:Str} {p pos lp:Pos} {params:Arguments} {body:Expr} {scope stS:Scope} {N NL:List Str} {is:List Nat} {c T fr:Addr} {fdR:FuncData} {stR:Stmt} {x:Str} {k:Nat} {lam:SE} {b:(Store->Res D)->SS}
theorem zvs {X':Cx} {pins:List (Addr × Obj)} {τ:L2.St} {H:Hp} {s:Shared} {f c':Addr} {ctv:Value} {cl:List (Str × Addr)} (I:Inv X pins τ H s) (S:CompScope X NL 0 is scope) (SL:LamScope scope) (c1:∀x c,cl.lookup x=some c->X.env.cells.lookup x=some c) (c2:∀x,(x,NameKind.free)∈scope.names->∃c,cl.lookup x=some c) (hf:H f=some (.frz (lamO X.mg params body scope cl c' ctv) HX)) (hc:∃oc vs t,H c'=some (.frz oc HX)/\oc.data=.fields vs/\vs[1]?=some (.str lamQ t))
  (e1 : X'.s₀ = s) (e2 : X'.H₀ = H) (e3 : X'.prog = X.prog) (e4 : X'.w = X.w) (e5 : X'.K = X.K) (e6 : X'.mg = X.mg) (e7 : X'.base = X.base) (e8 : X'.ex = []) (hr : Room (k + 1) X'.A) (hb : ∀ pm cd ct, bindArgs (PySem.W.kla_fn "<lambda>" lamQ params body scope cl pm cd ct) ⟨[], []⟩ = pure [])
  (hlam:∀f cd cl A outer s H E,Room k (A.deeper (PySem.W.envX lamQ scope s.heap.objs.size f cd cl))->JX (cxL X.prog X.w X.K X.mg X.base NL lamQ scope f cd cl A outer s H E) (fun _ c dx H=>E c dx H) body lam):Thk X' f (startC 0 is τ) lam:=by
 have get:∀{pins τ' H' s'},Inv X' pins τ' H' s'->∀{a o},H a=some (.frz o HX)->s'.heap.get? a=some o:=fun J a o e=>by
  have e':X'.H₀ a=some (.frz o HX):=by rw[e2];exact e
  exact (J.hok a _ (J.base.frzs a o HX e')).1
 refine ⟨fun pins' τ' H' s' J=>?_,fun pins' τ' H' s' E Q J hq=>?_⟩
 ·exact ⟨_,_,_,_,get J hf⟩
 obtain ⟨oc,vs,t,h1,h2,h3⟩:=hc;have kp:KeptL scope NL cl (startC 0 is τ) s' H':=by
  have cel:∀{c v},s.heap.IsCell c v->H c=none->s'.heap.IsCell c v/\H' c=none:=fun {c v} hq0 n=>by
   obtain ⟨o,a,d⟩:=hq0;obtain ⟨sl,z⟩:=J.base.any (b:=c) (ob:=o) (by rw[e1];exact a) (by rw[e2];exact n) (by rw[e8];simp);exact ⟨⟨_,z,d⟩,J.base.free c o (by rw[e1];exact a) (by rw[e2];exact n) (by rw[e8];simp)⟩
  refine ⟨fun x y c h1 h2=>I.ok.inj x y c (c1 x c h1) (c1 y c h2),c2,fun x c h=>?_,fun i x v a b=>?_,?_⟩
  ·obtain ⟨v,z⟩:=I.cell x c (c1 x c h);have w:=cel z (I.freeC x c (c1 x c h));exact ⟨⟨v,w.1⟩,w.2⟩
  ·have b':(is.map fun i=>(τ[i]?).getD none)[i]?=some (some v):=b;rw[xcg] at b';cases ej:is[i]? with
   | none=>rw[ej] at b';cases b'
   | some j =>
    rw[ej] at b';have b2:(τ[j]?).getD none=some v:=xca b';obtain ⟨z,y1,y2,y3⟩:=S.own i j ej;rw[xdr,a] at y1;cases y1;have b3:τ[j]?=some (some v):=by
     cases q:τ[j]? with
     | none=>rw[q] at b2;cases b2
     | some o=>rw[q] at b2;exact congrArg some b2
    have kd:=S.frees _ (zbp y3) rfl;obtain ⟨m,_,hl⟩:=I.loc;obtain ⟨u,r,lk⟩:=hl j x v y2 b3 (.inr kd);refine ⟨y3,?_⟩;rcases lk with ⟨q,_⟩ | ⟨_,c,e5',cc⟩
    ·rcases kd with w | w<;>(rw[w] at q;cases q)
    ·obtain ⟨c'',e6'⟩:=c2 x (zbp y3);have z:=c1 x c'' e6';rw[e5'] at z;cases z;exact ⟨c,u,e6',(cel cc (I.freeC x c e5')).1,r⟩
  ·show (is.map fun i=>(τ[i]?).getD none).length=NL.length;rw[xbk,S.len,xdr]
 have hcr:s'.heap.CodeRec (.ref c') lamQ:=⟨c',oc,vs,t,rfl,get J h1,h2,h3⟩
 have e0:=J.env0;rw[e3,e4,e5,e6,e7] at e0;rw[e3,e4];rw[e5] at hq;exact zpm SL hr e0 kp (get J hf) rfl hcr (hb _ _ _) (hlam f (.ref c') cl X'.A X'.stack s' H' E (hr.deeper _)).out hq
theorem ztz (C : PySem.W.CodeHd X.base c T) (ht : PySem.W.tabIn X.K "law" = some (c, T)) (Bm : BmOk X.mg X.base) (hcode : X.env.code = .ref c) (hqu : X.env.qual ++ "<lambda>" = lamQ) (hg : Gl X y) (hm : X.mg y = some (.ref fr)) (F : Fun X.K y y stR fr fdR) (SF : FnScope N [x] (defScope stR))
  (bd:∀(kV doc pm:Value) (an:Option Addr) (cdv ct:Value) (us:List Value),us.length=[x].length->bindArgs (PySem.W.fnOf y y (defArgs stR) (defBody stR) (defScope stR) .none kV doc pm an cdv ct) ⟨us,[]⟩=pure ([x].zip us))
  (hr : Room (k + 2) X.A) (hdef : defaultsOf params X.env = ([], [])) (S : CompScope X NL 0 is scope) (SL : LamScope scope) (hb : ∀ cl pm cd ct, bindArgs (PySem.W.kla_fn "<lambda>" lamQ params body scope cl pm cd ct) ⟨[], []⟩ = pure [])
  (hbody:∀(cdv:Value) (A:Around) (outer:List Env) (s:Shared) (H:Hp) (E:XK) (f:Addr) (σL:DS) (τL:L2.St) (g:SE),Room (k+1) (A.deeper (envOfC y (defScope stR) s.heap.objs.size fr cdv)) ->
   (∀E' pn,Thk ((cxOf CX0 X.prog X.w X.K X.mg X.base N y (defScope stR) fr cdv A outer s H E).nox.tryc E' pn) f τL g)->PSs (cxOf CX0 X.prog X.w X.K X.mg X.base N y (defScope stR) fr cdv A outer s H E).nox (defBody stR) (tRef X.K f σL τL (b (g σL))))
  (hlam:∀f cd cl A outer s H E,Room k (A.deeper (PySem.W.envX lamQ scope s.heap.objs.size f cd cl))->JX (cxL X.prog X.w X.K X.mg X.base NL lamQ scope f cd cl A outer s H E) (fun _ c dx H=>E c dx H) body lam)
  (hdb : (y == ("__debug__" : Str)) = false := by decide) (he : starEach [.Lambda params body scope lp] X.env = (false, eval (.Lambda params body scope lp) X.env) :: starEach [] X.env := by rfl) (hpl : (backTo pos (starEach [] X.env)).any (·.1) = false := by rfl) :
  JE X (.Call (.Name y p) [.Lambda params body scope lp] [] pos) (eRefd (fun g=>fnD N.length 1 (b g)) is lam):=by
 refine ⟨fun pins s τ H Q I ⟨ρ,σ,st,v,st',a,rp,e,q⟩=>?_⟩;unfold eRefd at e;split at e
 case h_2=>cases e
 case h_1 h0 =>
 obtain ⟨T',m0⟩:=rp.live 0 .tab h0 (by intro z;cases z);obtain ⟨⟨c2,ht2⟩,ps,hT,ok⟩:=rp.obj 0 T' .tab m0 h0;rw[ht] at ht2;cases ht2;refine xew (zff I hg hm ?_ hdb)
 refine xih (h₀:=X.base) I.ok.mod.kin F.kp (thn ((zhu (zwo S C Bm hcode hqu hdef) zpc he:PA X [.Lambda params body scope lp] _) pos pins s τ H (fun vs H1=>∃f c' ctv cl,vs=[.ref f]/\(∀x c,cl.lookup x=some c->X.env.cells.lookup x=some c)/\(∀x,(x,NameKind.free)∈scope.names->∃c,cl.lookup x=some c)/\Grew T H H1/\H1 f=some (.frz (lamO X.mg params body scope cl c' ctv) HX)/\∃oc vs t,H1 c'=some (.frz oc HX)/\oc.data=.fields vs/\vs[1]?=some (.str lamQ t)) I
  ⟨ps,hT,ok,fun f c' ctv cl H' c1 c2 gr h1 _ h3=>⟨f,c',ctv,cl,rfl,c1,c2,gr,h1,h3⟩⟩) fun us s1 ⟨vs,H1,I1,r,f,c',ctv,cl,hvs,c1,c2,gr,hf,hc⟩=>⟨I1.kIn,?_⟩) he hpl
 subst hvs;obtain ⟨x1,rp1⟩:=rp.grew ht m0 h0 ⟨ps,hT⟩ gr;obtain ⟨x2,rp2⟩:=rp1.more;obtain ⟨oc,od,kV,doc,pm,an,cdv,ct,osl,rfl,lk,hcd⟩:=F.ex;have aL:AtS X.K ⟨ρ.m++[none],ρ.g⟩ H1 (startD 0 is σ) (startC 0 is τ):=((a.ext x1).ext x2).start 0 is;have thk:∀E' pn,Thk ((cxOf CX0 X.prog X.w X.K X.mg X.base N y (defScope stR) fr cdv X.A X.stack s1 H1 E0).nox.tryc E' pn) f (startC 0 is τ) lam:=fun E' pn=>zvs (k:=k) I1 S SL c1 c2 hf hc rfl rfl rfl rfl rfl rfl rfl rfl (hr.deeper _) (hb cl) hlam
 have bod:=hbody cdv X.A X.stack s1 H1 E0 f (startD 0 is σ) (startC 0 is τ) lam (hr.deeper _) thk;have hl:us.length=1:=by have:=r.length;simpa using this.symm
 replace e:fnD N.length 1 (b (lam (startD 0 is σ))) [D.ref st.length] (st++[.dead])=.ok v st':=e;unfold fnD at e;rw[if_pos (show [D.ref st.length].length=1 from rfl)] at e;have as:AtS X.K ⟨ρ.m++[none],ρ.g⟩ H1 ([D.ref st.length].map Option.some++List.replicate (N.length - 1) none) (L2.start N [.ref f]):=by
  unfold L2.start;refine AtS.append (AtAll.some (.cons (.ref ?_ fun a z=>?_) .nil)) (.nones _)
  ·rw[← rp.len];simp
  ·rw[← rp.len,xbq (xbg _),xhf] at z;cases z
 refine xid (xhi (zum (k:=k+1) (E:=E0) (Q:=Q) lk hcd SF hr I1.env0 (.of_eq (bd kV doc pm an cdv ct us hl)) r rfl bod.nox ?_) fun r s' hq=>?_)
 ·refine ⟨by unfold L2.start;rfl,⟨ρ.m++[none],ρ.g⟩,[D.ref st.length].map Option.some++List.replicate (N.length - 1) none,st++[.dead],?_⟩;cases hres:b (lam (startD 0 is σ)) ([D.ref st.length].map Option.some++List.replicate (N.length - 1) none) (st++[.dead]) with
  | stuck=>rw[hres] at e;cases e
  | exc z w=>rw[hres] at e;cases e
  | ok fl st1 =>
   rw[hres] at e;have xx:=x1.trans x2;cases fl with
   | ret w=>dsimp only at e;cases e;exact ⟨.ret v,_,as,aL,rp2,rfl,fun ρ' H' u x r t=>q ρ' H' u (xx.trans x) r t⟩
   | nx σ2=>dsimp only at e;cases e;exact ⟨.nx σ2,_,as,aL,rp2,rfl,fun ρ' H' τ x r t=>q ρ' H' .non (xx.trans x) r .non⟩
   | brk σ=>cases e
   | ct σ=>cases e
 ·cases r with
  | error er=>exact False.elim hq
  | ok fl =>
   cases fl with
   | ret u=>exact I1.after hq
   | next=>exact False.elim hq
   | brk=>exact False.elim hq
   | cont=>exact False.elim hq
end
end Dd
namespace L2
open PySem PySem.Spec PyProof.Rows
noncomputable def isT:Value->Bool
 | .bool b=>b == true
 | _=>false
theorem zje:∀{bs:List Bool} {us:List Value},Vals (bs.map V.bl) us->us=bs.map Value.bool
 | [],_,.nil=>rfl
 | b::bs,_,.cons r t=>by rw[zje t];cases (show _=Value.bool b from r);rfl
theorem zhy:∀bs:List Bool,(bs.map Value.bool).countP isT=bs.count true
 | []=>rfl
 | b::bs=>by rw[xcd,List.countP_cons,List.count_cons,zhy bs];rfl
theorem eqT {A:Around} {s:Shared} {bs:List Bool}:∀y,y∈(bs.map Value.bool).toArray->SeqAt.EqAt A s y (.bool true) (isT y):=fun y hy=>by
 obtain ⟨b,_,rfl⟩:=xfg.mp (by simpa using hy:y∈bs.map Value.bool);exact SeqAt.EqAt.bool_bool b true
noncomputable def rCountB (K:Fg):V->List V->Hp->VK->Prop:=fun x vs H Q=>∃(l:Addr) (bs:List Bool),x=.ref l/\vs=[.bl true]/\SqL K H l (bs.map V.bl)/\Q (.int (bs.count true:Nat)) H
theorem zmb {X : Cx} : MtM X "list.count" (rCountB X.K) := by
 intro pins s σ H x vs v us Q I rx rv h;obtain ⟨l,bs,rfl,rfl,hl,q⟩:=h;cases rx;obtain ⟨u,rfl,ru⟩:=rv.one;cases (show u=Value.bool true from ru);obtain ⟨its,r,pl,_⟩:=I.list hl;obtain rfl:=zje r;obtain ⟨⟨cls,dd,data,sl⟩,ho,hc,n,hd⟩:=id pl.isList;simp only at hc hd;subst hc hd;refine xie PySem.F.slot_list_count ⟨_,ho,rfl⟩ PySem.F.entry_list_count (PySem.F.args_list_count_2 _ _) (SeqAt.list_countAt l (bs.map Value.bool).toArray n dd sl (.bool true) isT) ⟨ho,eqT,?_⟩;rw[show (bs.map Value.bool).toArray.toList=bs.map Value.bool from rfl,zhy];exact ⟨.int _,H,I.tok _,⟨_,rfl⟩,q⟩
noncomputable def rIndexB (K:Fg):V->List V->Hp->VK->Prop:=fun x vs H Q=>∃(l:Addr) (bs:List Bool),x=.ref l/\vs=[.bl true]/\SqL K H l (bs.map V.bl)/\true∈bs/\bs.length<=1000/\Q (.int (bs.idxOf true:Nat)) H
theorem zlz {X : Cx} : MtM X "list.index" (rIndexB X.K) := by
 intro pins s σ H x vs v us Q I rx rv h;obtain ⟨l,bs,rfl,rfl,hl,hm,hz,q⟩:=h;cases rx;obtain ⟨u,rfl,ru⟩:=rv.one;cases (show u=Value.bool true from ru);obtain ⟨its,r,pl,_⟩:=I.list hl;obtain rfl:=zje r;obtain ⟨⟨cls,dd,data,sl⟩,ho,hc,n,hd⟩:=id pl.isList;simp only at hc hd;subst hc hd;have hj:bs.idxOf true < bs.length:=List.idxOf_lt_length_iff.mpr hm;refine xie PySem.F.slot_list_index ⟨_,ho,rfl⟩ PySem.F.entry_list_index (PySem.F.args_list_index_2 _ _) (SeqAt.list_indexAt l (bs.map Value.bool).toArray n dd sl (.bool true) isT (bs.idxOf true) (by simpa using hj) (by lia) ?_ ?_) ⟨ho,eqT,⟨.int _,H,I.tok _,⟨_,rfl⟩,q⟩⟩
 ·have e:bs[bs.idxOf true]=true:=List.getElem_idxOf hj;simp[isT,e]
 ·intro j hjs hlt;have e:=List.not_of_lt_findIdx (p:=(· == true)) (xs:=bs) (i:=j) hlt;simp[isT]
  simpa using e
end L2
namespace Dd
open PySem L2 PyProof.Rows
noncomputable def eWithB (k:List Bool->Res D->Res D) (c:List Bool->Nat) (f:SE) (g:SA):SE:=fun σ st=>(f σ st).bind fun x st1=>match asL st1 x with
 | some _=>(g σ st1).bind fun ys st2=>match ys,(asL st2 x).bind asBools with
  | [.bl true],some bs=>k bs (.ok (.int (c bs:Nat)) st2)
  | _,_=>.stuck
 | _=>.stuck
noncomputable abbrev eCountB:SE->SA->SE:=eWithB (fun _ r=>r) (fun bs=>bs.count true)
noncomputable abbrev eIndexB:SE->SA->SE:=eWithB (fun bs r=>if true∈bs/\bs.length<=1000 then r else .stuck) (fun bs=>bs.idxOf true)
section
variable {X:Cx} {o e:Expr} {es:List Expr} {f:SE} {ga:SA} {apos cpos:Pos}
theorem znj {K:Fg} {k:List Bool->Res D->Res D} {c:List Bool->Nat} {r:V->List V->Hp->VK->Prop} (hk:∀bs st v st',k bs (.ok (.int (c bs:Nat)) st)=.ok v st'->v=.int (c bs:Nat)/\st'=st/\∀p H (Q:VK),SqL K H p (bs.map V.bl)->Q (.int (c bs:Nat)) H->r (.ref p) [.bl true] H Q) :
  ∀ τ H Q, tD K (eWithB k c f ga) τ H Q -> tBM K "list" r (tD K f) (tDA K ga) τ H Q := fun τ H Q hq0 => by
 obtain ⟨ρ,σ,st,v,st',a,rp,e,q⟩:=hq0;obtain ⟨x,st1,e1,e⟩:=zb e;refine ⟨ρ,σ,st,x,st1,a,rp,e1,fun ρ1 H1 u x1 rp1 a1=>?_⟩;split at e
 ·rename_i hL;obtain ⟨ys,st2,e2,e⟩:=zb e;obtain ⟨p,vs,rfl,g1,g2⟩:=zdt rp1 a1 hL;refine ⟨.inl ⟨rfl,_,SqL.of g1⟩,ρ1,σ,st1,ys,st2,a.ext x1,rp1,e2,fun ρ2 H2 ws x2 rp2 a2=>?_⟩;split at e
  ·rename_i bs hn;obtain ⟨rfl,rfl,hr⟩:=hk _ _ _ _ e;obtain ⟨zs,h0,hn⟩:=xej.mp hn;obtain ⟨w,rfl,a3⟩:=a2.one;cases a3;obtain ⟨p',vs2,ep,k1,k2⟩:=zdt rp2 (a1.ext x2) h0;cases ep;have e:=zeq k2 hn;subst e;exact hr p H2 _ (SqL.of k1) (q _ _ _ (x1.trans x2) rp2 (.int _))
  ·cases e
 ·cases e
theorem zmy (ho : JE X o f) (ha : JA X (e :: es) ga) (hbase : attributeBase o "count" X.env (eval o X.env) = eval o X.env := by rfl)
 (hfew:((backTo cpos (starEach (e::es) X.env)).all (fun x=>!x.1) && (backToKw cpos (keywordEach [] X.env)).all (fun x=>x.1.isSome)
  && decide ((e::es).length+([]:List Keyword).length+(if ([]:List Keyword).isEmpty then 0 else 1) < 30))=true:=by rfl)
 (hline:(apos.endLine == cpos.line)=true:=by rfl) (hs:starEach (e::es) X.env=(false,eval e X.env)::starEach es X.env:=by rfl) (hplain:(backTo cpos (starEach es X.env)).any (·.1)=false:=by rfl) :
 JE X (.Call (.Attribute o "count" apos) (e :: es) [] cpos) (eCountB f ga) := ⟨zdr (zvf xfb PySem.F.slot_list_count PySem.F.type_list_count zmb ho.out ha.out hbase hfew hline hs hplain) (znj fun bs st v st' h => by cases h; exact ⟨rfl, rfl, fun p H Q hs q => ⟨p, bs, rfl, rfl, hs, q⟩⟩)⟩
theorem zmw (ho : JE X o f) (ha : JA X (e :: es) ga) (hbase : attributeBase o "index" X.env (eval o X.env) = eval o X.env := by rfl)
  (hfew:((backTo cpos (starEach (e::es) X.env)).all (fun x=>!x.1) && (backToKw cpos (keywordEach [] X.env)).all (fun x=>x.1.isSome)
   && decide ((e::es).length+([]:List Keyword).length+(if ([]:List Keyword).isEmpty then 0 else 1) < 30))=true:=by rfl)
  (hline:(apos.endLine == cpos.line)=true:=by rfl) (hs:starEach (e::es) X.env=(false,eval e X.env)::starEach es X.env:=by rfl) (hplain:(backTo cpos (starEach es X.env)).any (·.1)=false:=by rfl) :
  JE X (.Call (.Attribute o "index" apos) (e :: es) [] cpos) (eIndexB f ga) := ⟨zdr (zvf xfb PySem.F.slot_list_index PySem.F.type_list_index zlz ho.out ha.out hbase hfew hline hs hplain) (znj fun bs st v st' h => by
 split at h
 ·next z=>cases h;exact ⟨rfl,rfl,fun p H Q hs q=>⟨p,bs,rfl,rfl,hs,z.1,z.2,q⟩⟩
 ·cases h)⟩
end
noncomputable def eIsB (i:Nat) (tbl:List (Str × Bool)):SE:=fun σ st=>match σ[i]? with
 | some (some (.exn c []))=>match tbl.lookup c with
  | some b=>.ok (.bl b) st
  | none=>.stuck
 | _=>.stuck
theorem zda {X : Cx} {n d : Str} {i : Nat} {tbl : List (Str × Bool)} {dv : V} {cv : Value} {p p1 p2 pos : Pos} (hg : Gl X "isinstance") (hm : X.mg "isinstance" = none) (hv : PE X (.Name n p1) (tVar i)) (hd : PE X (.Name d p2) (tC dv)) (r : RelV dv cv) (un : ∀ u, RelV dv u -> u = cv)
  (hk : ∀ q ∈ tbl, ∀ C, PySem.W.nsIn X.K mainGlobals q.1 = some (some (.ref C)) -> ErrLook X.K C /\ PySem.W.kitOne X.K (.ref C) cv = some q.2) : JE X (.Call (.Name "isinstance" p) [.Name n p1, .Name d p2] [] pos) (eIsB i tbl) :=
 ⟨zdr (zjt zqq hg hm zr (zhu hv (zhu hd zpc))) fun τ H Q hq0=>by
  obtain ⟨ρ,σ,st,v,st',a,rp,e,q⟩:=hq0;unfold eIsB at e;split at e
  ·next c hi =>
   split at e
   ·next b hb =>
    cases e;obtain ⟨u,h1,h2⟩:=a.get hi;cases h2 with
    | exn h2 =>
     obtain ⟨C,o,h3,h4,h5,h6,h7⟩:=h2;obtain ⟨lk,e1⟩:=hk (c,b) (xdt hb) C h3;have hd0:o.dict=none:=by
      rcases h7 with ⟨_,z⟩ | ⟨_,_,_,z,_⟩
      ·exact z
      ·cases z
     exact ⟨_,h1,_,o,C,dv,cv,b,rfl,r,un,h4.1,h5,lk,hd0,(let ⟨vs,q,_⟩:=h6;⟨vs,q⟩),e1,q _ _ _ (.refl _ _) rp (.bl b)⟩
   ·cases e
  ·cases e⟩
end Dd
namespace L2
open PySem PySem.Spec PyProof.Rows
theorem zmg {P:Program} {w:World} {K:Fg} {mg mb:Str->Option Value} {k:Nat} {fa a T c:Addr} {fd:FuncData} {x:Str} {sp:Sp} {s₁:Shared} {vs:List Value} {ns:List Int}
  (KX : K.In s₁.heap) (hns : s₁.heap.Ns mainGlobals mg) (hb : s₁.heap.Ns builtinsNs mb) (hbb : ∀ x : Str, x ≠ "__name__" -> mb x = bootBuiltins x) (hlim : s₁.heap.NoLimit) (hg : s₁.gens = #[])
  (ha : s₁.heap.get? a = some { cls := .type "list", data := .seq vs.toArray }) (hi : IntsAre vs ns) (hl : ns.length <= sizeLine) (hr : Room k callerA) (CT : PySem.W.CodeHd s₁.heap c T) (hT : s₁.heap.get? T = some (PySem.W.tabObj #[])) (hKT : K.lookup T = none) (hbm : BmOk mg s₁.heap)
  (F:∀base:Heap,K.In base->base.Ns mainGlobals mg->PySem.W.CodeHd base c T->BmOk mg base->FnOk P w K mg base CX0 k fa fd [x] sp) (hbind:∀(s:Shared) (u:Value),BindsTo s fd ⟨[u],[]⟩ [(x,u)])
  (hsp:∀H:Hp,H T=some (.tbl #[])->SqL K H a (ns.map V.int)->sp [.ref a] H (fun v _=>v=.bl true) fun _ _ _=>False) :
  codeAny (model P w) callerA (.call (.ref fa) ⟨[.ref a],[]⟩) (fun r s'=>r=.ok (.ret (.bool true))/\OldK s₁.heap s'.heap/\s'.os=s₁.os/\AllBare s'.gens) s₁:=by
 have rv:=zhp hi;have lenV:=hi.length;have aT:a≠T:=by rintro rfl;rw[ha] at hT;cases hT
 have core:∀H:Hp,H T=some (.tbl #[])->SqL K H a (ns.map V.int)->HOk P w H s₁.heap->(∀b,H b≠none->b=T\/(b=a/\K.lookup a=none/\∃o xs,H a=some (.frz o (.lst xs)))) ->
   codeAny (model P w) callerA (.call (.ref fa) ⟨[.ref a],[]⟩) (fun r s'=>r=.ok (.ret (.bool true))/\OldK s₁.heap s'.heap/\s'.os=s₁.os/\AllBare s'.gens) s₁:=by
  intro H hHT hS hok hA;have none_of:∀{b:Addr} {o:Obj},s₁.heap.get? b=some o->(∀z,o.data≠.fields z)->(∀z n,o.data≠.seq z n)->H b=none:=fun {b o} e n1 n2=>by
   cases q:H b with
   | none=>rfl
   | some u =>
    rcases hA b (by rw[q];simp) with rfl | ⟨rfl,_⟩
    ·rw[hT] at e;cases e;exact absurd rfl (n1 _)
    ·rw[ha] at e;cases e;exact absurd rfl (n2 _ _)
  have base_of:∀{b:Addr} {o:Obj},s₁.heap.get? b=some o->H b=none->(hidT s₁.heap H).get? b=some o:=fun e n=>zps e n
  have nsK:∀{b:Addr} {m:Str->Option Value},s₁.heap.Ns b m->(hidT s₁.heap H).Ns b m:=fun {b m} ⟨o,es,ep,e,d,r⟩=>⟨o,es,ep,base_of e (none_of e (by intro z q;rw[d] at q;cases q) (by intro z n q;rw[d] at q;cases q)),d,r⟩
  have hKb:K.In (hidT s₁.heap H):=fun b o e=>base_of (KX b o e) (by
   cases q:H b with
   | none=>rfl
   | some u =>
    rcases hA b (by rw[q];simp) with rfl | ⟨rfl,n,_⟩
    ·rw[hKT] at e;cases e
    ·rw[n] at e;cases e)
  have hM:Mod K mg (hidT s₁.heap H):=⟨hKb,nsK hns,⟨mb,nsK hb,hbb⟩,let ⟨mc,h1,h2⟩:=hlim;⟨mc,nsK h1,h2⟩⟩
  have e0:Env0 P w K mg (hidT s₁.heap H) callerA [] s₁ H:=⟨rfl,hM,fun b o e=>zsp e,xcs (zmk _ _),trivial,fun b hb=>absurd (show b∈([]:List Addr) from hb) (by simp),hok,.of_eq hg⟩
  have CT':PySem.W.CodeHd (hidT s₁.heap H) c T:=by
   obtain ⟨o,vs',file,tf,flags,tg,inF,text,tt,e1,r1,r2,r3,r4,r5,r6,r7,r8,hne⟩:=CT;refine ⟨o,vs',file,tf,flags,tg,inF,text,tt,base_of e1 ?_,r1,r2,r3,r4,r5,r6,r7,r8,hne⟩;cases q:H c with
   | none=>rfl
   | some u =>
    rcases hA c (by rw[q];simp) with z | ⟨z,_⟩
    ·exact absurd z hne
    ·rw[z,ha] at e1;cases e1;cases r2
  have bm':BmOk mg (hidT s₁.heap H):=by
   obtain ⟨bm,ob,b1,b2,b3,b4,b5,b6⟩:=hbm;exact ⟨bm,ob,b1,b2,base_of b3 (none_of b3 (by intro z q;rw[b6] at q;cases q) (by intro z n q;rw[b6] at q;cases q)),b4,b5,b6⟩
  refine xhi ((F _ hKb (nsK hns) CT' bm').run callerA [] s₁ H ⟨[.ref a],[]⟩ [.ref a] [.ref a] _ _ hr e0 (hbind s₁ (.ref a)) (.cons rfl .nil) (hsp H hHT hS)) fun r s' h=>?_
  cases r with
  | error e=>exact False.elim h
  | ok fl =>
   cases fl with
   | next=>exact False.elim h
   | brk=>exact False.elim h
   | cont=>exact False.elim h
   | ret u =>
    obtain ⟨v,H',os,bare,un,hok',r',q⟩:=h;have q':v=.bl true:=q;subst q';obtain rfl:u=Value.bool true:=r';have key:∀b o,s₁.heap.get? b=some o->b≠T->s'.heap.get? b=some o:=fun b o e n=>by
     cases q:H b with
     | none=>exact un.keep b o e q (by intro z;exact absurd (show b∈([]:List Addr) from z) (by simp)) (by simp)
     | some u =>
      rcases hA b (by rw[q];simp) with z | ⟨rfl,_,ob,xs,z⟩
      ·exact absurd z n
      ·have z2:=un.frzs b ob _ z;obtain ⟨e1,_⟩:=hok b _ z;obtain ⟨e2,_⟩:=hok' b _ z2;rw[e] at e1;cases e1
       exact e2
    obtain ⟨more,z⟩:=un.tbls T #[] hHT;have gT:s'.heap.get? T=some {cls:=.none,data:=.fields (#[]++more)}:=hok' T _ z;refine ⟨rfl,⟨fun b o e=>?_,fun b o e=>?_⟩,os,bare⟩
    ·by_cases n:b=T
     ·subst n;rw[hT] at e;cases e
      exact .inr (.inl ⟨(CT.tab hT).isCodeTable,rfl,#[],more,rfl,gT⟩)
     ·exact .inl (key b o e n)
    ·by_cases n:b=T
     ·subst n;exact ⟨_,gT⟩
     ·exact ⟨o,key b o e n⟩
 have okT:∀H:Hp,ObjOk P w H s₁.heap T (.tbl #[]):=fun H=>hT
 cases hk:K.lookup a with
 | some o =>
  have e:=KX a o hk;rw[ha] at e;cases e;refine core (fun b=>if b=T then some (.tbl #[]) else none) (if_pos rfl) (.inr ⟨_,vs.toArray,_,hk,rfl,rfl,rfl,by rw[xbt,lenV];exact hl,by simpa using rv⟩) (fun b u z=>?_) (fun b z=>?_)
  ·by_cases hb:b=T
   ·have z':=(if_pos hb).symm.trans z;cases z';subst hb;exact okT _
   ·have z':=(if_neg hb).symm.trans z;cases z'
  ·by_cases hb:b=T
   ·exact .inl hb
   ·exact absurd (if_neg hb) z
 | none =>
  have hTn : (fun b => if b = T then some (.tbl #[]) else if b = a then some (.frz { cls := .type "list", data := .seq vs.toArray } (.lst (ns.map V.int))) else none : Hp) a = some (.frz { cls := .type "list", data := .seq vs.toArray } (.lst (ns.map V.int))) := by
   show (if a=T then _ else if a=a then _ else _)=_;rw[if_neg aT,if_pos rfl]
  refine core (fun b => if b = T then some (.tbl #[]) else if b = a then some (.frz { cls := .type "list", data := .seq vs.toArray } (.lst (ns.map V.int))) else none) (if_pos rfl) (.inl (.inr ⟨{ cls := .type "list", data := .seq vs.toArray }, hTn⟩)) (fun b u z => ?_) (fun b z => ?_)
  ·by_cases hb:b=T
   ·have z':=(if_pos hb).symm.trans z;cases z';subst hb;exact okT _
   ·have z1:=(if_neg hb).symm.trans z;by_cases hb2:b=a
    ·have z':=(if_pos hb2).symm.trans z1;cases z';subst hb2;exact ⟨ha,by rw[xbk];exact hl,vs,_,rv,ha⟩
    ·have z':=(if_neg hb2).symm.trans z1;cases z'
  ·by_cases hb:b=T
   ·exact .inl hb
   ·by_cases hb2:b=a
    ·exact .inr ⟨hb2,hk,_,_,hTn⟩
    ·exact absurd ((if_neg hb).trans (if_neg hb2)) z
structure LawTab (K:Fg) (ts:List Addr) (c T:Addr):Prop where
 tin : PySem.W.tabIn K "law" = some (c, T)
 hd:PySem.W.codeHdIn K c T=true
 mem:T∈ts
 out:K.lookup T=none
theorem zmf {K : Fg} {ts : List Addr} {f c T : Addr} {oc oc2 : Value} {od od2 : Option Addr} {fd : FuncData} {sl sl2 : Array (Option Value)} {vs : Array Value} (a : PySem.W.nsIn K mainGlobals "law" = some (some (.ref f))) (l : K.lookup f = some ⟨oc, od, .func fd, sl⟩) (hc : fd.code = .ref c) (lc : K.lookup c = some ⟨oc2, od2, .fields vs, sl2⟩) (hv : vs[11]? = some (.ref T))
  (hd:PySem.W.codeHdIn K c T=true) (mem:T∈ts) (out:K.lookup T=none):LawTab K ts c T/\fd.code=.ref c:=by
 refine ⟨⟨?_,hd,mem,out⟩,hc⟩;unfold PySem.W.tabIn;rw[a];dsimp only;rw[l];dsimp only;rw[hc];dsimp only;rw[lc];dsimp only;rw[hv]
theorem zok {l:PySem.W.OpenLaw} {n k:Nat} {q:Program} {loose:List Str} {XP:(Str->Option Value)->Heap->Prop} {YP:World->Heap->Prop} {d:DefRec} {K:Params->Fg} {ts:List Addr} {sp:Fg->Addr->Sp} {x:Str}
  (hn:l.most=some n) (hn2:n<=sizeLine) (hdf:d.params.defaults=[]) (hr:Room k callerA)
  (hY:∀(w:World) (h:Heap),YP w h->(K w.params).In h) (hts:∀(w:World) (h:Heap),YP w h->∀P∈ts,h.get? P=some (PySem.W.tabObj #[]))
  (F:∀(w:World) (mg:Str->Option Value) (fa:Addr) (h:Heap),(K w.params).In h->h.Ns mainGlobals mg->mg d.name=some (.ref fa) ->
   ∃(c T:Addr) (fd:FuncData),LawTab (K w.params) ts c T/\(∀(s:Shared) (u:Value),BindsTo s fd ⟨[u],[]⟩ [(x,u)]) /\
    ∀base:Heap,(K w.params).In base->base.Ns mainGlobals mg->PySem.W.CodeHd base c T->BmOk mg base->FnOk l.prog w (K w.params) mg base CX0 k fa fd [x] (sp (K w.params) T))
  (hsp : ∀ (K : Fg) (c T : Addr) (H : Hp) (a : Addr) (ns : List Int), PySem.W.tabIn K "law" = some (c, T) -> ns.length <= n -> H T = some (.tbl #[]) -> SqL K H a (ns.map V.int) -> sp K T [.ref a] H (fun v _ => v = .bl true) fun _ _ _ => False) :
  PySem.W.WalkO q loose XP YP l.row.toRowW d [] (fun f vs=>PySem.call f vs):=by
 refine Att.attach_call hn hdf fun w s₀ s₁ mg mb fa o pm cd doc a vs ns G Y ho hd hcd hmg hobj hints hlen hg=>?_
 have KX:=hY w _ Y;obtain ⟨c,T,fd,LT,hb,hF⟩:=F w mg fa _ KX G.T.g hmg;exact zmg KX G.T.g G.T.b G.T.builtins G.T.nolimit hg hobj hints (xbb hlen hn2) hr (PySem.W.codeHd_of_K KX LT.hd) (hts w _ Y T LT.mem) LT.out G.T.bmain hF hb (fun H hT hS=>hsp _ c T H a ns LT.tin hlen hT hS)
end L2
namespace Dd
open PySem L2 PyProof.Rows
noncomputable def spLawT (K : Fg) (T : Addr) : Sp := fun vs H Q _ => ∃ (a : Addr) (ns : List Int), vs = [.ref a] /\ SqL K H a (ns.map V.int) /\ ns.length <= 63 /\ H T = some (.tbl #[]) /\ (∃ c, PySem.W.tabIn K "law" = some (c, T)) /\ ∀ H', Q (.bl true) H'
theorem zsz {P : Program} {w : World} {K : Fg} {mg : Str -> Option Value} {base : Heap} {st : Stmt} {N ps : List Str} {k : Nat} {b : SS} {f T : Addr} {fd : FuncData} (F : Fun K "law" "law" st f fd) (S : FnScope N ps (defScope st)) (hp : ps.length = 1)
  (hbody : ∀ (cdv : Value) (A : Around) (outer : List Env) (s : Shared) (H : Hp) (E : XK), fd.code = cdv -> Room k (A.deeper (envOfC "law" (defScope st) s.heap.objs.size f cdv)) ->
   JB (cxOf CX0 P w K mg base N "law" (defScope st) f cdv A outer s H E).nox (defBody st) b)
  (holds:∀ns:List Int,ns.length<=63->∃st',fnD N.length 1 b [.scr (ns.map .int)] [.tab]=.ok (.bl true) st'):FnOk P w K mg base CX0 (k+1) f fd ps (spLawT K T):=by
 obtain ⟨oc,od,kV,doc,pm,an,cdv,ct,osl,rfl,lk,hcd⟩:=F.ex;refine zxo lk hcd S (fun vs H Q E hh=>?_) fun A outer s H vs Q E hr hh=>⟨_,(hbody cdv A outer s H E rfl hr).out.nox,?_⟩
 ·obtain ⟨a,ns,rfl,_⟩:=hh;exact hp.symm
 ·obtain ⟨a,ns,rfl,hS,hl,hT,⟨c,ht⟩,q⟩:=hh;obtain ⟨st',e⟩:=holds ns hl;refine zur (np:=1) (E:=E) ⟨⟨[some T],[]⟩,[.scr (ns.map .int)],[.tab],_,st',.cons (.scr ?_ (zhh ns)) .nil,⟨rfl,fun n m a e1 e2=>?_,fun n a o e1 e2=>?_,fun a h=>(by cases h),fun n o e1 _=>?_⟩,e,rfl,fun ρ' H' u x r t=>?_⟩
  ·rcases hS with h | h
   ·refine .inl ⟨h,?_,by simp⟩;intro z;have z':a=T:=xca (xbs.mp z);subst z';rcases h with h | ⟨o,h⟩<;>(rw[hT] at h;cases h)
   ·exact .inr fun H'=>.inr h
  ·cases n with
   | zero=>cases m with
    | zero=>rfl
    | succ m=>cases e2
   | succ n=>cases e1
  ·cases n with
   | zero =>
    cases e1;cases e2
    exact ⟨⟨c,ht⟩,#[],hT,trivial,fun pos cv z=>by cases z⟩
   | succ n=>cases e1
  ·cases n with
   | zero=>exact ⟨T,rfl⟩
   | succ n=>cases e1
  ·cases t;exact q H'
structure JR (X:Cx) (f:Addr) (σL:DS) (τL:L2.St) (s:Stmt) (b:SS):Prop where out:PS X s (tRef X.K f σL τL b)
structure JRB (X:Cx) (f:Addr) (σL:DS) (τL:L2.St) (s:List Stmt) (b:SS):Prop where out:PSs X s (tRef X.K f σL τL b)
section
variable {X:Cx} {R:RXT} {f:Addr} {σL:DS} {τL:L2.St} {g:SE} {x n y:Str} {p pos pos2 xp hp:Pos} {B:Addr} {i:Nat} {cs:List Str} {b0:Stmt} {suite rest:List Stmt} {u t:SS}
theorem zyg {tp:Pos} {G:Store->Res D} (hc:X.calm=true) (st0:X.stack=X.env::X.outer) (fr:X.env.frame=some X.env.locals) (hN:X.N.Nodup) (hi:X.N[i]?=some n) (hn:X.env.kindOf n=some .local) (hg:Gl X y) (hB:PySem.W.nsIn X.K mainGlobals y=some (some (.ref B)))
 (hcs:∀c∈cs,∀C,PySem.W.nsIn X.K mainGlobals c=some (some (.ref C))->PySem.W.exmOne X.K (.ref C) (.ref B)=some true) (T:∀E pn,Thk (X.tryc E pn) f τL g) (hG:g σL=G) (hv:∀E pn,PE (X.tryc E pn) (.Name x p) (tVar 0))
 (hs : ∀ e, JB (X.caught e) (b0 :: suite) u) (hd : (y == ("__debug__" : Str)) = false := by decide) (hsw : swapsWith (.Call (.Name x p) [] [] pos) none pos2.line X.env = pure false := by rfl) :
 JR X f σL τL (.Try [.Expr (.Call (.Name x p) [] [] pos) pos2] [.ExceptHandler (some (.Name y xp)) (some n) (b0::suite) hp] [] [] tp) (sTry i cs (sDrop fun _=>G) u):=⟨by subst hG;exact zsb hc st0 fr hN hi hn hg hB hcs T hv hs hd hsw⟩
theorem zyh {tr:Stmt} {s:SS} (h1:JR X f σL τL tr s) (h2:JB X rest t):JRB X f σL τL (tr::rest) (sSeq s t):=⟨zrz h1.out h2⟩
end
noncomputable def CalT (P:Program) (w:World) (K:Fg) (mg:Str->Option Value) (base:Heap) (y:Str) (k:Nat) (F:(Store->Res D)->DFn):Prop :=
 ∃(fr:Addr) (fdR:FuncData) (stR:Stmt) (N:List Str) (x:Str) (b:(Store->Res D)->SS),(F=fun g=>fnD N.length 1 (b g))/\mg y=some (.ref fr)/\Fun K y y stR fr fdR/\FnScope N [x] (defScope stR) /\
  (∀(kV doc pm:Value) (an:Option Addr) (cdv ct:Value) (us:List Value),us.length=[x].length->bindArgs (PySem.W.fnOf y y (defArgs stR) (defBody stR) (defScope stR) .none kV doc pm an cdv ct) ⟨us,[]⟩=pure ([x].zip us)) /\
  ∀(cdv:Value) (A:Around) (outer:List Env) (s:Shared) (H:Hp) (E:XK) (f:Addr) (σL:DS) (τL:L2.St) (g:SE),Room (k+1) (A.deeper (envOfC y (defScope stR) s.heap.objs.size fr cdv)) ->
   (∀E' pn,Thk ((cxOf CX0 P w K mg base N y (defScope stR) fr cdv A outer s H E).nox.tryc E' pn) f τL g)->PSs (cxOf CX0 P w K mg base N y (defScope stR) fr cdv A outer s H E).nox (defBody stR) (tRef K f σL τL (b (g σL)))
theorem zul {P:Program} {w:World} {K:Fg} {mg:Str->Option Value} {base h:Heap} {y x:Str} {st:Stmt} {N:List Str} {k:Nat} {b:(Store->Res D)->SS} (T:TopF K y st) (X:K.In h) (G:h.Ns mainGlobals mg) (S:FnScope N [x] (defScope st))
  (bd:∀(kV doc pm:Value) (an:Option Addr) (cdv ct:Value) (us:List Value),us.length=[x].length->bindArgs (PySem.W.fnOf y y (defArgs st) (defBody st) (defScope st) .none kV doc pm an cdv ct) ⟨us,[]⟩=pure ([x].zip us))
  (hbody:∀(fr:Addr) (cdv:Value) (A:Around) (outer:List Env) (s:Shared) (H:Hp) (E:XK) (f:Addr) (σL:DS) (τL:L2.St) (g:SE) (G:Store->Res D),g σL=G->Room (k+1) (A.deeper (envOfC y (defScope st) s.heap.objs.size fr cdv)) ->
   (∀E' pn,Thk ((cxOf CX0 P w K mg base N y (defScope st) fr cdv A outer s H E).nox.tryc E' pn) f τL g)->JRB (cxOf CX0 P w K mg base N y (defScope st) fr cdv A outer s H E).nox f σL τL (defBody st) (b G)):CalT P w K mg base y k (fun g=>fnD N.length 1 (b g)):=by
 obtain ⟨f,fd,a,F⟩:=T;exact ⟨f,fd,st,N,x,b,rfl,xcl X G a,F,S,bd,fun cdv A outer s H E f' σL τL g hr t=>(hbody f cdv A outer s H E f' σL τL g _ rfl hr t).out⟩
theorem zyk {X : Cx} {y : Str} {p pos lp : Pos} {params : Arguments} {body : Expr} {scope : Scope} {NL : List Str} {is : List Nat} {c T : Addr} {k : Nat} {lam : SE} {F : (Store -> Res D) -> DFn} (cal : CalT X.prog X.w X.K X.mg X.base y k F) (C : PySem.W.CodeHd X.base c T) (ht : PySem.W.tabIn X.K "law" = some (c, T)) (Bm : BmOk X.mg X.base) (hcode : X.env.code = .ref c) (hqu : X.env.qual ++ "<lambda>" = lamQ) (hg : Gl X y)
  (hr : Room (k + 2) X.A) (hdef : defaultsOf params X.env = ([], [])) (S : CompScope X NL 0 is scope) (SL : LamScope scope) (hb : ∀ cl pm cd ct, bindArgs (PySem.W.kla_fn "<lambda>" lamQ params body scope cl pm cd ct) ⟨[], []⟩ = pure [])
  (hlam:∀f cd cl A outer s H E,Room k (A.deeper (PySem.W.envX lamQ scope s.heap.objs.size f cd cl))->JX (cxL X.prog X.w X.K X.mg X.base NL lamQ scope f cd cl A outer s H E) (fun _ c dx H=>E c dx H) body lam)
  (hdb : (y == ("__debug__" : Str)) = false := by decide) (he : starEach [.Lambda params body scope lp] X.env = (false, eval (.Lambda params body scope lp) X.env) :: starEach [] X.env := by rfl) (hpl : (backTo pos (starEach [] X.env)).any (·.1) = false := by rfl) :
  JE X (.Call (.Name y p) [.Lambda params body scope lp] [] pos) (eRefd F is lam):=by
 obtain ⟨fr,fdR,stR,N,x,b,rfl,hm,FF,SF,bd,hbody⟩:=cal;exact ztz C ht Bm hcode hqu hg hm FF SF bd hr hdef S SL hb hbody hlam hdb he hpl
section
variable {K:Fg} {cv:Value}
theorem zcs:∀q∈([]:List (Str × Bool)),∀C,PySem.W.nsIn K mainGlobals q.1=some (some (.ref C))->ErrLook K C/\PySem.W.kitOne K (.ref C) cv=some q.2:=fun _ h=>nomatch h
theorem zbk {c:Str} {b:Bool} {r:List (Str × Bool)} {C0:Addr} (n:PySem.W.nsIn K mainGlobals c=some (some (.ref C0))) (l:ErrLook K C0) (i:PySem.W.kitOne K (.ref C0) cv=some b) (t:∀q∈r,∀C,PySem.W.nsIn K mainGlobals q.1=some (some (.ref C))->ErrLook K C/\PySem.W.kitOne K (.ref C) cv=some q.2) :
  ∀q∈(c,b)::r,∀C,PySem.W.nsIn K mainGlobals q.1=some (some (.ref C))->ErrLook K C/\PySem.W.kitOne K (.ref C) cv=some q.2:=fun q hq C e=>by
 rcases xcc.mp hq with rfl | hq
 ·have z:=n.symm.trans e;cases z;exact ⟨l,i⟩
 ·exact t q hq C e
end
section
variable {X:Cx} {pos:Pos} {es:List Expr} {u:List D->DS->Option DS}
end
end Dd
namespace L2
open PySem PySem.Spec PyProof.Rows
section
variable {prog:Program} {w:World} {A:Around} {R:Result->Shared->Prop} {I:Addr} {fp wr:List Addr} {n:Nat} {P:Nat->Value->Prop} {St:Nat->Heap->Prop}
end
section
variable {prog:Program} {w:World} {A:Around} {E:Value->Shared->Prop} {s:Shared}
end
section
variable {X:Cx} {p pos cpos kpos:Pos} {l:Expr} {t:TA} {d:Int} {j:Nat}
end
section
variable {X:Cx}
end
end L2
namespace Dd
open PySem L2 PyProof.Rows
section
variable {X:Cx} {p pos cpos kpos:Pos} {l:Expr} {f:SA} {j:Nat}
end
end Dd
namespace L2
open PySem PySem.Spec PyProof.Rows
section
variable {P:Program} {w:World} {A:Around} {E:Value->Shared->Prop} {s:Shared} {K:Fg} {C fI:Addr} {us:List Value}
end
section
variable {X:Cx} {C f:Addr} {fd:FuncData} {ps:List Str} {sp:Sp} {k:Nat} {x:Str} {p pos:Pos} {e:Expr} {es:List Expr} {t:TA}
end
section
variable {X:Cx} {pins:List (Addr × Obj)} {σ:St} {H:Hp} {s:Shared}
end
end L2
namespace L2
open PySem PySem.Spec PyProof.Rows Builtin Builtin.ObjectAttr
section
variable {P:Program} {w:World} {A:Around} {E:Value->Shared->Prop} {s:Shared} {K:Fg} {C fI ea:Addr} {v:Value}
end
end L2
namespace L2
open PySem PySem.Spec PyProof.Rows
section
variable {X:Cx} {pins:List (Addr × Obj)} {σ:St} {H:Hp} {s:Shared}
end
section
variable {P:Program} {w:World} {K:Fg} {mg:Str->Option Value} {base h:Heap} {C fI R:Addr} {xR qual:Str} {st:Stmt} {fd:FuncData}
end
section
variable {X:Cx}
end
section
variable {X:Cx} {e:Expr} {pos:Pos} {te:TE}
end
section
variable {P:Program} {w:World} {K:Fg} {mg:Str->Option Value} {base:Heap} {N:List Str} {qual:Str} {scope:Scope} {f:Addr} {cd:Value} {A:Around} {outer:List Env} {s₀:Shared} {H₀:Hp} {E:XK}
end
end L2
namespace Dd
open PySem L2 PyProof.Rows
section
variable {X:Cx} {R:RXT} {e:Expr} {es:List Expr} {f:SE} {g:SA} {sm:Stmt} {rest body:List Stmt} {s t:SS} {pos p:Pos} {x:Str}
end
noncomputable def forG (G:Store->Prop) (bd:SG) (body:SS):List D->SS
 | [],σ,st=>@ite (Res Fl) (G st) (Classical.propDecidable _) (.ok (.nx σ) st) .stuck
 | x::xs,σ,st=>@ite (Res Fl) (G st) (Classical.propDecidable _) (match bd x σ with
  | none=>.stuck
  | some σ1=>match body σ1 st with
   | .ok (.nx σ2) st2=>forG G bd body xs σ2 st2
   | .ok (.ct σ2) st2=>forG G bd body xs σ2 st2
   | .ok (.brk σ2) st2=>.ok (.nx σ2) st2
   | r=>r) .stuck
noncomputable def LsIs (n:Nat) (xs:List D) (st:Store):Prop:=st[n]?=some (.lst xs)
noncomputable def sForA (en:Bool) (f:SE) (bd:SG) (body:SS):SS:=fun σ st=>(f σ st).bind fun x st1=>match x with
 | .ref n=>(match st1[n]? with
  | some (.lst xs)=>forG (LsIs n xs) bd body (if en then numF 0 xs else xs) σ st1
  | _=>.stuck)
 | .lst xs=>forG (fun _=>True) bd body (if en then numF 0 xs else xs) σ st1
 | .tup xs=>if en then .stuck else forG (fun _=>True) bd body xs σ st1
 | _=>.stuck
structure TurnG (K:Fg) (ρ:Loc) (H:Hp) (G:Store->Prop) (J:It) (xs:List D):Prop where
 item:∀ρ2 H2 st2,Ext ρ H ρ2 H2->Rep K ρ2 st2 H2->G st2->∀(i:Nat) (x:D),xs[i]?=some x->J.go i H2/\∀y H3,J.yld i H2 y H3->Ext ρ2 H2 ρ2 H3/\Rep K ρ2 st2 H3/\At K ρ2 H3 x y
 done:∀ρ2 H2 st2,Ext ρ H ρ2 H2->Rep K ρ2 st2 H2->G st2->∀i:Nat,xs.length<=i->J.stop i H2
section
variable {X:Cx} {R:RXT} {e:Expr} {es:List Expr} {f:SE} {g:SA} {sm:Stmt} {rest body:List Stmt} {s t:SS} {pos p:Pos} {x:Str}
theorem loopG {K:Fg} {ρ1:Loc} {H1:Hp} {E:Ends} {τ:L2.St} {G:Store->Prop} {J:It} {xs:List D} {bd:SG} {b:SS} {σ:DS} {st1:Store} (hR:Cst R) (T:TurnG K ρ1 H1 G J xs) (a:AtS K ρ1 H1 σ τ) (rp:Rep K ρ1 st1 H1) (q:EndX K ρ1 H1 E (R τ) (forG G bd b xs σ st1)) :
  ∃W:Nat->Nat->L2.St->Hp->Prop,(∃m,W 0 m τ H1)/\∀i m σ H,W i m σ H->(J.stop i H/\E.nx σ H)\/(J.go i H/\∃N:L2.St->Hp->Prop,(∀σ' H',N σ' H'->∃m',m' < m/\W (i+1) m' σ' H')/\∀x H',J.yld i H x H'->gD K bd x σ H' fun σ2 H2=>tXS K R b {E with nx:=N,ct:=N,bk:=E.nx} σ2 H2):=by
 refine ⟨fun i m τ' H'=>i+m=xs.length/\∃ρ2 σ2 st2,Ext ρ1 H1 ρ2 H'/\AtS K ρ2 H' σ2 τ'/\Rep K ρ2 st2 H'/\EndX K ρ1 H1 E (R τ) (forG G bd b (xs.drop i) σ2 st2),⟨xs.length,by lia,ρ1,σ,st1,.refl _ _,a,rp,q⟩,?_⟩;rintro i m τ' H' ⟨him,ρ2,σ2,st2,x2,a2,rp2,e2⟩;have hG:G st2:=by
  by_cases h:G st2
  ·exact h
  ·generalize xs.drop i=ys at e2;cases ys<;>(unfold forG at e2;rw[if_neg h] at e2;exact e2.stuck.elim)
 rcases xec i xs.length with hlt | hge
 ·obtain ⟨x,hx,hd⟩:=zig hlt;rw[hd] at e2;obtain ⟨go,yl⟩:=T.item ρ2 H' st2 x2 rp2 hG i x hx;refine .inr ⟨go,fun τ3 H3=>∃ρ3 σ3 st3,Ext ρ1 H1 ρ3 H3/\AtS K ρ3 H3 σ3 τ3/\Rep K ρ3 st3 H3/\EndX K ρ1 H1 E (R τ) (forG G bd b (xs.drop (i+1)) σ3 st3),fun τ3 H3 ⟨ρ3,σ3,st3,n1,n2,n3,n4⟩=>⟨m - 1,by lia,by lia,ρ3,σ3,st3,n1,n2,n3,n4⟩,fun y H3 hy=>?_⟩;obtain ⟨y1,y2,y3⟩:=yl y H3 hy;unfold forG at e2;rw[if_pos hG] at e2;cases hbd:bd x σ2 with
  | none=>rw[hbd] at e2;exact e2.stuck.elim
  | some σ1 =>
   rw[hbd] at e2;dsimp only at e2;have X3:=x2.trans y1;refine ⟨ρ2,σ2,x,σ1,a2.ext y1,y3,hbd,fun τ4 a4=>⟨ρ2,σ1,st2,a4,y2,?_⟩⟩;cases hr:b σ1 st2 with
   | stuck=>rw[hr] at e2;exact e2.stuck.elim
   | exc z w =>
    rw[hr] at e2;exact .inr ⟨z,w,rfl,by rw[hR τ4 τ];exact e2.excE.ext X3⟩
   | ok fb st3 =>
    rw[hr] at e2;refine .inl ⟨fb,st3,rfl,?_⟩;cases fb with
    | nx σ3=>exact fun ρ' H'' τ5 x5 rp5 a5=>⟨ρ',σ3,st3,X3.trans x5,a5,rp5,e2⟩
    | ct σ3=>exact fun ρ' H'' τ5 x5 rp5 a5=>⟨ρ',σ3,st3,X3.trans x5,a5,rp5,e2⟩
    | brk σ3=>exact fun ρ' H'' τ5 x5 rp5 a5=>e2.okE _ _ _ (X3.trans x5) rp5 a5
    | ret v=>exact fun ρ' H'' u x5 rp5 a5=>e2.okE _ _ _ (X3.trans x5) rp5 a5
 ·rw[xem hge] at e2;unfold forG at e2;rw[if_pos hG] at e2;exact .inl ⟨T.done ρ2 H' st2 x2 rp2 hG i hge,e2.okE _ _ _ x2 rp2 a2⟩
theorem zbay {K:Fg} {ρ ρ2:Loc} {H H2:Hp} {n:Nat} {p:Addr} {xs:List D} {st2:Store} (hp:ρ.m[n]?=some (some p)) (x:Ext ρ H ρ2 H2) (rp:Rep K ρ2 st2 H2) (h:LsIs n xs st2):∃vs,H2 p=some (.lst vs)/\AtAll K ρ2 H2 xs vs:=by
 obtain ⟨p',hp'⟩:=rp.live n _ h (by intro z;cases z);have:=x.old n p' (xbn.mp hp).1 hp';rw[hp] at this;cases this;exact rp.obj n p _ hp' h
theorem znk {K:Fg} {ρ:Loc} {H:Hp} {G:Store->Prop} {p:Addr} {xs:List D} (h:∀ρ2 H2 st2,Ext ρ H ρ2 H2->Rep K ρ2 st2 H2->G st2->∃vs,SqL K H2 p vs/\AtAll K ρ2 H2 xs vs):TurnG K ρ H G (Itl K p) xs where
 item:=fun ρ2 H2 st2 x rp hg i d e=>by
  obtain ⟨vs,h1,h2⟩:=h ρ2 H2 st2 x rp hg;obtain ⟨v,hv,a⟩:=h2.get e;refine ⟨⟨vs,v,h1,hv⟩,fun y H3 hy=>?_⟩;obtain ⟨rfl,hy⟩:=hy;have:=hy vs h1;rw[hv] at this;cases this;exact ⟨.refl _ _,rp,a⟩
 done:=fun ρ2 H2 st2 x rp hg i hi=>by
  obtain ⟨vs,h1,h2⟩:=h ρ2 H2 st2 x rp hg;exact ⟨vs,h1,by rw[h2.length];exact hi⟩
theorem zro {K:Fg} {ρ:Loc} {H:Hp} {p:Addr} {xs:List D} {vs:List V} (h1:H p=some (.tup vs)) (h2:Out ρ p) (h3:AtAll K ρ H xs vs):TurnG K ρ H (fun _=>True) (Itt K p) xs where
 item:=fun ρ2 H2 st2 x rp hg i d e=>by
  obtain ⟨v,hv,a⟩:=(h3.ext x).get e;have sq:SqT K H2 p vs:=SqT.of (x.out h1 h2).1;refine ⟨⟨vs,v,sq,hv⟩,fun y H3 hy=>?_⟩;obtain ⟨rfl,hy⟩:=hy;have:=hy vs sq;rw[hv] at this;cases this;exact ⟨.refl _ _,rp,a⟩
 done:=fun ρ2 H2 st2 x rp hg i hi=>⟨vs,SqT.of (x.out h1 h2).1,by rw[h3.length];exact hi⟩
theorem zpw {tg iter:Expr} {bd:SG} {b:SS} (hR:Cst R) (hp:PassesOwn (model X.prog X.w) X.A X.env X.xe) (hc:X.calm=true) (hl:JE X iter f) (hg:JG X tg bd) (hb:JXB X R body b) (hs:∀x,foldedSetIterable iter X.env x=pure x:=by intro _;rfl) :
  JXS X R (.For tg iter body [] pos) (sForA false (noX f) bd b):=⟨zjc (zsd hp hc (zzr (znn hl.out) (zsg hl.out)) hg.out hb.out hs) fun E τ H hq0=>by
 obtain ⟨ρ,σ,st,a,rp,q⟩:=hq0
 obtain ⟨x,st1,e1,q⟩:∃x st1,f σ st=.ok x st1/\EndX X.K ρ H E (R τ) (match x with
  | .ref n=>(match st1[n]? with
   | some (.lst xs)=>forG (LsIs n xs) bd b xs σ st1
   | _=>.stuck)
  | .lst xs=>forG (fun _=>True) bd b xs σ st1
  | .tup xs=>forG (fun _=>True) bd b xs σ st1
  | _=>.stuck):=by
  rcases q with ⟨fl,st',e1,q⟩ | ⟨y,st',e1,q⟩
  ·obtain ⟨v,st1,e2,e3⟩:=zb e1;exact ⟨v,st1,zjz e2,.inl ⟨fl,st',e3,q⟩⟩
  ·obtain ⟨v,st1,e2,e3⟩:=zdc e1;exact ⟨v,st1,e2,.inr ⟨y,st',e3,q⟩⟩
 cases x with
 | ref n =>
  refine .inl ⟨ρ,σ,st,_,_,a,rp,e1,fun ρ1 H1 u x1 rp1 a1=>?_⟩;dsimp only at q;split at q
  ·rename_i xs hn;obtain ⟨p,rfl,hpn,vs,k1,k2⟩:=zef rp1 a1 hn (by intro z;cases z);exact ⟨p,rfl,⟨vs,SqL.of k1⟩,loopG hR (znk fun ρ2 H2 st2 x2 rp2 hg=>let ⟨ws,w1,w2⟩:=zbay hpn x2 rp2 hg;⟨ws,SqL.of w1,w2⟩) (a.ext x1) rp1 (q.ext x1)⟩
  ·exact q.stuck.elim
 | lst xs =>
  refine .inl ⟨ρ,σ,st,_,_,a,rp,e1,fun ρ1 H1 u x1 rp1 a1=>?_⟩;cases a1 with
  | lst h1 h2 h3=>exact ⟨_,rfl,⟨_,SqL.of h1⟩,loopG hR (znk fun ρ2 H2 st2 x2 rp2 _=>⟨_,SqL.of (x2.out h1 h2).1,h3.ext x2⟩) (a.ext x1) rp1 (q.ext x1)⟩
 | tup xs =>
  refine .inr ⟨ρ,σ,st,_,_,a,rp,e1,fun ρ1 H1 u x1 rp1 a1=>?_⟩;cases a1 with
  | tup h1 h2 h3=>exact ⟨_,rfl,⟨_,SqT.of h1⟩,loopG hR (zro h1 h2 h3) (a.ext x1) rp1 (q.ext x1)⟩
 | _=>exact q.stuck.elim⟩
theorem zbaz (h:JXS X R sm s):JS X sm s:=⟨zjc h.out fun E τ H ⟨ρ,σ,st,fl,st',a,rp,e,q⟩=>⟨ρ,σ,st,a,rp,.inl ⟨fl,st',e,q⟩⟩⟩
theorem zqb {tg iter:Expr} {bd:SG} {b:SS} (hp:PassesOwn (model X.prog X.w) X.A X.env X.xe) (hc:X.calm=true) (hl:JE X iter f) (hg:JG X tg bd) (hb:JB X body b) (hs:∀x,foldedSetIterable iter X.env x=pure x:=by intro _;rfl) :
 JS X (.For tg iter body [] pos) (sForA false (noX f) bd (noX b)):=zbaz (R:=fun _ _ _ _=>False) (zpw (fun _ _=>rfl) hp hc hl hg (zkl hb) hs)
end
theorem zql {X : Cx} {x : Str} {k : Nat} {F : DFn} {p pos : Pos} (c : CalD X.prog X.w X.K X.mg X.base x k [] F) (hr : Room k X.A) (hg : Gl X x) (hdb : (x == ("__debug__" : Str)) = false := by decide) : JE X (.Call (.Name x p) [] [] pos) (eCall F aNil) :=
 ⟨zdr (zlt c hr hg hdb) fun τ H Q ⟨ρ,σ,st,v,st',a,rp,e,q⟩=>⟨ρ,[],st,v,st',.nil,rp,e,rfl,q⟩⟩
end Dd
namespace Dd
open PySem L2
noncomputable def zci:DFn:=fnD 5 2 (sSeq (sSet 2 (eC (.int 0)))
 (sSeq (sIf (eB (eOp oLtT (eVar 1) (eCall bLen (aCons (eVar 0) aNil)))) (sSet 2 (eCall bAbs (aCons (eOp oIx (eVar 0) (eVar 1)) aNil))) sNx)
 (sSeq (sSet 3 (eOp oAdd (eOp oMulI (eC (.int 7919)) (eVar 1)) (eC (.int 17))))
 (sSeq (sFor (iR1 (aCons (eCall bMin2 (aCons (eCall bLen (aCons (eVar 0) aNil)) (aCons (eC (.int 60)) aNil))) aNil)) (gN 4) (sSet 3 (eOp oMod (eOp oAdd (eOp oAdd (eOp oMulI (eVar 3) (eC (.int 48271))) (eOp oMod (eOp oIx (eVar 0) (eVar 4)) (eC (.int 2147483647)))) (eVar 4)) (eC (.int 2147483629)))))
 (sSeq (sIf (eB (eOp oLtT (eVar 2) (eOp oPow (eC (.int 10)) (eC (.int 18))))) (sSet 2 (eC (.int 0))) sNx)
 (sRet (eLstM (aCons (eVar 2) (aCons (eVar 3) aNil)))))))))
noncomputable def zbi:DFn:=fnD 5 2 (sSeq (sIf (eB (eOp oGt (eOp oIx (eVar 0) (eC (.int 0))) (eC (.int 0)))) (sSeq (sSet 2 (eOp oMod (eOp oIx (eVar 0) (eC (.int 0))) (eVar 1)))
 (sSeq (sSetIx (eVar 0) (eC (.int 0)) (eOp oFdiv (eOp oIx (eVar 0) (eC (.int 0))) (eVar 1)))
 (sRet (eVar 2)))) sNx)
 (sSeq (sSet 3 (eC (.int 0)))
 (sSeq (sSet 4 (eC (.int 1)))
 (sSeq (sWhile (eB (eOp oLtT (eVar 4) (eVar 1))) (sSeq (sSetIx (eVar 0) (eC (.int 1)) (eOp oMod (eOp oAdd (eOp oMulI (eOp oIx (eVar 0) (eC (.int 1))) (eC (.int 48271))) (eC (.int 7919))) (eC (.int 2147483647))))
 (sSeq (sSet 3 (eOp oAdd (eOp oMulI (eVar 3) (eC (.int 1073741789))) (eOp oMod (eOp oMulI (eOp oFdiv (eOp oIx (eVar 0) (eC (.int 1))) (eC (.int 8))) (eC (.int 69621))) (eC (.int 1073741789)))))
 (sSet 4 (eOp oMulI (eVar 4) (eC (.int 1073741789)))))))
 (sRet (eOp oMod (eVar 3) (eVar 1)))))))
noncomputable def zt : DFn := fnD 1 1 (sRet (eAnd (eCall bIsinst (aCons (eVar 0) (aCons (eC (.ty "int")) aNil))) (eNot (eCall bIsinst (aCons (eVar 0) (aCons (eC (.ty "bool")) aNil))))))
noncomputable def zbx:SS:=(sDrop (eAppend (eVar 2) (aCons (eOp oAdd (eTup (aCons (eVar 4) aNil)) (eVar 3)) aNil)))
noncomputable def zbw:SS:=(sSeq (sDrop (eAppend (eOp oIx (eVar 0) (eCall bSum (aCons (eVar 3) aNil))) (aCons (eVar 3) aNil)))
 (sFor (iR2 (aCons (eOp oAdd (eOp oMulI (eC (.int 2)) (eOp oIx (eOp oAdd (eVar 3) (eTup (aCons (eC (.int 0)) aNil))) (eC (.int 0)))) (eCall bInt (aCons (eOp oEq (eVar 3) (eTup aNil)) aNil))) (aCons (eOp oSub (eC (.int 17)) (eCall bSum (aCons (eVar 3) aNil))) aNil))) (gN 4) zbx))
noncomputable def zer:SS:=(sSeq (sSet 2 (eLstM aNil))
 (sSeq (sFor (iSeq (eVar 1)) (gN 3) zbw)
 (sSet 1 (eFz (eVar 2)))))
noncomputable def zcg:DFn:=fnD 5 0 (sSeq (sSet 0 (eComp (iR1 (aCons (eC (.int 17)) aNil)) 1 [] (gN 0) bYes (eLstM aNil)))
 (sSeq (sSet 1 (eLst (aCons (eTup aNil) aNil)))
 (sSeq (sWhile (eB (eOp oGt (eCall bLen (aCons (eVar 1) aNil)) (eC (.int 0)))) zer)
 (sRet (eComp (iSeq (eVar 0)) 1 [] (gN 0) bYes (eCall bSorted (aCons (eVar 0) aNil)))))))
noncomputable def zcl:DFn->SS:=fun fF=>(sDrop (eExtend (eVar 2) (aCons (eComp (iSeq (eFz (eCall fF (aCons (eOp oSub (eVar 0) (eVar 3)) (aCons (eOp oFdiv (eVar 3) (eC (.int 2))) aNil))))) 1 [3] (gN 0) bYes (eOp oAdd (eTup (aCons (eVar 1) aNil)) (eVar 0))) aNil)))
noncomputable def zn:DFn->DFn:=fun fF=>fnD 4 2 (sSeq (sIf (eB (eOp oEq (eVar 0) (eC (.int 0)))) (sRet (eLstM (aCons (eTup aNil) aNil))) sNx)
 (sSeq (sSet 2 (eLstM aNil))
 (sSeq (sFor (iR2 (aCons (eC (.int 1)) (aCons (eOp oAdd (eCall bMin2 (aCons (eVar 0) (aCons (eVar 1) aNil))) (eC (.int 1))) aNil))) (gN 3) (zcl fF))
 (sRet (eVar 2)))))
noncomputable def zbd : DFn := fnD 1 1 (sSeq (sIf (noX (bOr (bNot (eTru (eCall zt (aCons (eVar 0) aNil)))) (bNot (eB (eChain oLe oLe (eC (.int 0)) (eVar 0) (eC (.int 16))))))) (sRaise "NoPart" (noX (aCons (eC (.str "steep rows are told of whole numbers from 0 to sixteen")) aNil))) (noX sNx))
 (noX (sRet (eCall (iterF zn 7) (aCons (eVar 0) (aCons (eVar 0) aNil))))))
noncomputable def zo : (Store -> Res D) -> SS := fun g => (sSeq (sTry 3 ["NoPart"] (sDrop fun _ => g) (sSeq (sIf (bNot (eTru (eIsB 3 [("NoPart", true)]))) (sRet (eC (.str "another"))) sNx)
 (sSeq (sSet 1 (eLst (aCons (eIsB 3 [("NoPart", false)]) (aCons (eIsB 3 [("NoPart", false)]) (aCons (eIsB 3 [("NoPart", false)]) (aCons (eIsB 3 [("NoPart", true)]) aNil))))))
 (sSeq (sSet 2 (eLst (aCons (eIsB 3 [("NoPart", false)]) (aCons (eIsB 3 [("NoPart", false)]) (aCons (eIsB 3 [("NoPart", false)]) (aCons (eIsB 3 [("NoPart", false)]) aNil))))))
 (sSeq (sSet 2 (eOp oAdd (eVar 2) (eLst (aCons (eIsB 3 [("NoPart", false)]) (aCons (eIsB 3 [("NoPart", false)]) (aCons (eIsB 3 [("NoPart", false)]) aNil))))))
 (sSeq (sSet 2 (eOp oAdd (eVar 2) (eLst (aCons (eIsB 3 [("NoPart", false)]) (aCons (eIsB 3 [("NoPart", false)]) aNil)))))
 (sSeq (sIf (bOr (eTru (eCall (bAny false) (aCons (eVar 2) aNil))) (eB (eOp oNe (eCountB (eVar 1) (aCons (eC (.bl true)) aNil)) (eC (.int 1))))) (sRet (eC (.str "another"))) sNx)
 (sRet (eOp oIx (eLst (aCons (eC (.str "exchange")) (aCons (eC (.str "row")) (aCons (eC (.str "many")) (aCons (eC (.str "part")) aNil))))) (eIndexB (eVar 1) (aCons (eC (.bl true)) aNil)))))))))))
 (sRet (eC (.str ""))))
noncomputable def zx:(Store->Res D)->DFn:=fun g=>fnD 4 1 (zo g)
noncomputable def zdf : SS := (noX (sIf (bOr (bNot (eTru (eCall bIsinst (aCons (eVar 2) (aCons (eC (.ty "tuple")) aNil))))) (eTru (eCall (bAny false) (aCons (eComp (iSeq (eVar 2)) 1 [] (gN 0) bYes (eNot (eCall zt (aCons (eVar 0) aNil)))) aNil)))) (sRet (eC (.bl false))) sNx))
noncomputable def zbj : DFn := fnD 3 2 (sSeq (sIf (bOr (bNot (eTru (eCall bIsinst (aCons (eVar 0) (aCons (eC (.ty "list")) aNil))))) (eB (eOp oNe (eVar 0) (eVar 1)))) (sRet (eC (.bl false))) sNx)
 (sSeq (sForA false (noX (eVar 0)) (gN 2) zdf)
 (sRet (eC (.bl true)))))
noncomputable def zkz:SS:=(sSeq (sSet 4 (eCall zbd (aCons (eVar 2) aNil)))
 (sSeq (sIf (bNot (eTru (eCall zbj (aCons (eVar 4) (aCons (eOp oIx (eVar 1) (eVar 2)) aNil))))) (sRet (eC (.bl false))) sNx)
 (sSeq (sDrop (eAppend (eVar 4) (aCons (eTup (aCons (eC (.int 1)) (aCons (eC (.int 1)) aNil))) aNil)))
 (sDrop (eClear (eVar 4))))))
noncomputable def zhm:SS:=(sFor (iR1 (aCons (eC (.int 2)) aNil)) (gN 3) zkz)
noncomputable def zhl:SS:=(sSeq (sSet 6 (eCall zci (aCons (eVar 0) (aCons (eVar 5) aNil))))
 (sSeq (sSet 2 (eCall zbi (aCons (eVar 6) (aCons (eC (.int 17)) aNil))))
 (sSeq (sSet 7 (eLst (aCons (eUn oNeg (eC (.int 1))) (aCons (eC (.int 17)) (aCons (eOp oSub (eUn oNeg (eVar 2)) (eC (.int 1))) (aCons (eOp oAdd (eVar 2) (eC (.int 17))) (aCons (eOp oPow (eC (.int 10)) (eC (.int 39))) (aCons (eUn oNeg (eOp oPow (eC (.int 10)) (eC (.int 39)))) (aCons (eC (.bl true)) (aCons (eC (.bl false)) (aCons (eC .non) (aCons (eC (.str "")) (aCons (eCall bStrI (aCons (eVar 2) aNil)) (aCons (eTup aNil) (aCons (eLst aNil) (aCons (eTup (aCons (eVar 2) aNil)) (aCons (eLst (aCons (eVar 2) aNil)) (aCons (eC (.str "a")) (aCons (eVar 2) aNil)))))))))))))))))))
 (sSeq (sSet 8 (eOp oIx (eVar 7) (eCall zbi (aCons (eVar 6) (aCons (eC (.int 17)) aNil)))))
 (sSeq (sSet 9 (eOp oIx (eLst (aCons (eC (.str "part")) (aCons (eC (.str "")) aNil))) (eCall bInt (aCons (eAnd (eCall zt (aCons (eVar 8) aNil)) (eChain oLe oLe (eC (.int 0)) (eVar 8) (eC (.int 16)))) aNil))))
 (sIf (eB (eOp oNe (eRefd zx [8] (eCall zbd (noX (aCons (eVar 0) aNil)))) (eVar 9))) (sRet (eC (.bl false))) sNx))))))
noncomputable def zzh:DFn:=fnD 10 1 (sSeq (sSet 1 (eCall zcg aNil))
 (sSeq (sFor (iR1 (aCons (eC (.int 17)) aNil)) (gN 2) zhm)
 (sSeq (sFor (iR1 (aCons (eOp oAdd (eCall bMin2 (aCons (eCall bLen (aCons (eVar 0) aNil)) (aCons (eC (.int 10)) aNil))) (eC (.int 2))) aNil)) (gN 5) zhl)
 (sRet (eC (.bl true))))))
noncomputable def RngOk (j:Int):Prop:=-(2 ^ 62)<=j/\j < 2 ^ 62
noncomputable instance (j:Int):Decidable (RngOk j):=by unfold RngOk;infer_instance
theorem rngOk {j:Int} (h1:-1000000000000<=j) (h2:j<=1000000000000):RngOk j:=⟨by lia,by lia⟩
section
variable {σ:DS} {st:Store}
@[simp] theorem eC_v {d:D}:eC d σ st=.ok d st:=rfl
@[simp] theorem zbbd {i:Nat}:eVar i σ st=(match σ[i]? with
 | some (some d)=>.ok d st
 | _=>.stuck):=rfl
@[simp] theorem zbbg {g:D->D->Store->Res D} {f f':SE}:eOp g f f' σ st=(f σ st).bind fun x st1=>(f' σ st1).bind fun y st2=>g x y st2:=rfl
@[simp] theorem zbcc {g:D->Store->Res D} {f:SE}:eUn g f σ st=(f σ st).bind fun x st1=>g x st1:=rfl
@[simp] theorem zzy {g:List D->Store->Res D} {f:SA}:eCall g f σ st=(f σ st).bind fun xs st1=>g xs st1:=rfl
@[simp] theorem zbca:aNil σ st=.ok [] st:=rfl
@[simp] theorem zuz {f:SE} {g:SA}:aCons f g σ st=(f σ st).bind fun x st1=>(g σ st1).bind fun xs st2=>.ok (x::xs) st2:=rfl
@[simp] theorem eB_v {f:SE}:eB f σ st=(f σ st).bind fun v st1=>(match v with
 | .bl b=>.ok b st1
 | _=>.stuck):=rfl
@[simp] theorem zxq {f:SE}:eTru f σ st=(f σ st).bind fun v st1=>(match tru st1 v with
 | some b=>.ok b st1
 | none=>.stuck):=rfl
@[simp] theorem zxv {f f':SE}:eAnd f f' σ st=(f σ st).bind fun v st1=>(match v with
 | .bl true=>f' σ st1
 | .bl false=>.ok (.bl false) st1
 | _=>.stuck):=rfl
@[simp] theorem zbbf {f f':SE}:eOr f f' σ st=(f σ st).bind fun v st1=>(match v with
 | .bl true=>.ok (.bl true) st1
 | .bl false=>f' σ st1
 | _=>.stuck):=rfl
@[simp] theorem zxr {f:SE}:eNot f σ st=(f σ st).bind fun v st1=>(match v with
 | .bl b=>.ok (.bl (!b)) st1
 | _=>.stuck):=rfl
@[simp] theorem zzc {f f':ST}:bAnd f f' σ st=(f σ st).bind fun b st1=>if b=true then f' σ st1 else .ok false st1:=rfl
@[simp] theorem zbbx {f f':ST}:bOr f f' σ st=(f σ st).bind fun b st1=>if b=true then .ok true st1 else f' σ st1:=rfl
@[simp] theorem zbby {f:ST}:bNot f σ st=(f σ st).bind fun b st1=>.ok (!b) st1:=rfl
@[simp] theorem zbbw:bYes σ st=.ok true st:=rfl
@[simp] theorem zbbh {c:ST} {f f':SE}:eIf c f f' σ st=(c σ st).bind fun b st1=>if b=true then f σ st1 else f' σ st1:=rfl
@[simp] theorem zxp {g:SA}:eTup g σ st=(g σ st).bind fun xs st1=>if xs.length<=sizeLine then .ok (.tup xs) st1 else .stuck:=rfl
@[simp] theorem zxs {g:SA}:eLst g σ st=(g σ st).bind fun xs st1=>if xs.length<=sizeLine then .ok (.lst xs) st1 else .stuck:=rfl
@[simp] theorem ztl {g:SA}:eLstM g σ st=(g σ st).bind fun xs st1=>if xs.length<=sizeLine then .ok (.ref st1.length) (st1++[.lst xs]) else .stuck:=rfl
@[simp] theorem zxu {g g':D->D->Store->Res D} {f f' f'':SE}:eChain g g' f f' f'' σ st=(f σ st).bind fun x st1=>(f' σ st1).bind fun y st2=>(g x y st2).bind fun z st3=>(match z with
 | .bl true=>(f'' σ st3).bind fun w st4=>g' y w st4
 | .bl false=>.ok (.bl false) st3
 | _=>.stuck):=rfl
@[simp] theorem zzx:eDNew σ st=.ok (.ref st.length) (st++[.dT []]):=rfl
@[simp] theorem zbcb:sNx σ st=.ok (.nx σ) st:=rfl
@[simp] theorem zbal:sBrk σ st=.ok (.brk σ) st:=rfl
@[simp] theorem zbai {f:SE}:sRet f σ st=(f σ st).bind fun v st1=>.ok (.ret v) st1:=rfl
@[simp] theorem zzn:sRetN σ st=.ok (.ret .non) st:=rfl
@[simp] theorem zzo {f:SE}:sDrop f σ st=(f σ st).bind fun _ st1=>.ok (.nx σ) st1:=rfl
@[simp] theorem zbag {i:Nat} {f:SE}:sSet i f σ st=(f σ st).bind fun v st1=>.ok (.nx (σ.set i (some v))) st1:=rfl
@[simp] theorem zbah {s t:SS}:sSeq s t σ st=(match s σ st with
 | .ok (.nx σ1) st1=>t σ1 st1
 | r=>r):=rfl
@[simp] theorem zbaj {c:ST} {s t:SS}:sIf c s t σ st=(c σ st).bind fun b st1=>if b=true then s σ st1 else t σ st1:=rfl
@[simp] theorem zvy {i:Nat} {g:D->D->Store->Res D} {f:SE}:sAug i g f σ st=(match σ[i]? with
 | some (some x)=>(f σ st).bind fun y st1=>(g x y st1).bind fun z st2=>.ok (.nx (σ.set i (some z))) st2
 | _=>.stuck):=rfl
@[simp] theorem zbak {it:SA} {bd:SG} {body:SS}:sFor it bd body σ st=(it σ st).bind fun xs st1=>forF bd body xs σ st1:=rfl
@[simp] theorem zxj {f:SE}:iSeq f σ st=(f σ st).bind fun x st1=>(match seqV x with
 | some xs=>.ok xs st1
 | none=>.stuck):=rfl
@[simp] theorem zbbb {g:SA}:iR1 g σ st=(g σ st).bind fun xs st1=>(match xs with
 | [.int j]=>if RngOk j then .ok (rng 0 j.toNat) st1 else .stuck
 | _=>.stuck):=rfl
@[simp] theorem zbba {g : SA} : iR2 g σ st = (g σ st).bind fun xs st1 => (match xs with
  | [.int i, .int j] => if RngOk i /\ RngOk j then .ok (rng i (j - i).toNat) st1 else .stuck
  | _ => .stuck) := by
  show (g σ st).bind _ = _
  congr 1
  funext xs st1
  split
  · unfold RngOk
    simp only [and_assoc]
  · rename_i h
    first
      | rfl
      | (split
         · rename_i i j
           exact absurd rfl (h i j)
         · rfl)
@[simp] theorem zzv {f:SE}:iDict f σ st=(f σ st).bind fun x st1=>(match x with
 | .ref n=>(match st1[n]? with
  | some (.dT kvs)=>.ok (rowsD (kvs.map (·.1))) (st1.set n (.fT kvs))
  | _=>.stuck)
 | _=>.stuck):=rfl
@[simp] theorem ztm {it:SA} {k:Nat} {is:List Nat} {bd:SG} {c:ST} {f:SE}:eComp it k is bd c f σ st=(it σ st).bind fun xs st1=>if xs.length<=sizeLine then (compF bd c f xs (startD k is σ) st1).bind fun ys st2=>.ok (.lst ys) st2 else .stuck:=rfl
@[simp] theorem zbbi {f:SE}:eFz f σ st=(f σ st).bind fun x st1=>(match x with
 | .ref n=>(match st1[n]? with
  | some (.lst xs)=>.ok (.lst xs) (st1.set n .dead)
  | _=>.stuck)
 | _=>.stuck):=rfl
@[simp] theorem zzt:pNone σ st=.ok none st:=rfl
@[simp] theorem zsl {f:SE}:pSome f σ st=(f σ st).bind fun v st1=>(match v with
 | .int i=>.ok (some i) st1
 | _=>.stuck):=rfl
@[simp] theorem zbbe {f:SE} {lo hi:DS->Store->Res (Option Int)}:eSl f lo hi σ st=(f σ st).bind fun x st1=>(lo σ st1).bind fun l st2=>(hi σ st2).bind fun h st3=>(match x with
 | .tup xs=>.ok (.tup (cutD xs l h)) st3
 | x=>match asL st3 x with
  | some xs=>.ok (.lst (cutD xs l h)) st3
  | none=>.stuck):=rfl
@[simp] theorem zmp {f:SE} {g:SA}:eAppend f g σ st=(f σ st).bind fun x st1=>(match x,asL st1 x with
 | .ref n,some _=>(g σ st1).bind fun ys st2=>(match ys,st2[n]? with
  | [y],some (.lst xs)=>if xs.length < sizeLine then .ok .non (st2.set n (.lst (xs++[y]))) else .stuck
  | _,_=>.stuck)
 | _,_=>.stuck):=rfl
@[simp] theorem zmo {f:SE} {g:SA}:eExtend f g σ st=(f σ st).bind fun x st1=>(match x,asL st1 x with
 | .ref n,some _=>(g σ st1).bind fun ys st2=>(match ys,st2[n]? with
  | [y],some (.lst xs)=>(match asL st2 y with
   | some zs=>if xs.length+zs.length<=sizeLine then .ok .non (st2.set n (.lst (xs++zs))) else .stuck
   | none=>.stuck)
  | _,_=>.stuck)
 | _,_=>.stuck):=rfl
@[simp] theorem zon {f g h:SE}:sSetIx f g h σ st=(h σ st).bind fun v st1=>(f σ st1).bind fun x st2=>(g σ st2).bind fun y st3=>(match x,y with
 | .ref n,.int k=>(match st3[n]? with
  | some (.lst xs)=>(match ixN xs.length k with
   | some j=>.ok (.nx σ) (st3.set n (.lst (xs.set j v)))
   | none=>.stuck)
  | _=>.stuck)
 | _,_=>.stuck):=rfl
@[simp] theorem zxt {f g h:SE}:eDGet2 f g h σ st=(f σ st).bind fun x st1=>(match pairsOf st1 x with
 | some _=>(g σ st1).bind fun y st2=>(h σ st2).bind fun z st3=>(match pairsOf st3 x,keyOf y with
  | some kvs,some k=>.ok ((valD kvs k).getD z) st3
  | _,_=>.stuck)
 | none=>.stuck):=rfl
@[simp] theorem zzw {f g:SE}:eDPop f g σ st=(f σ st).bind fun x st1=>(match pairsOf st1 x with
 | some _=>(g σ st1).bind fun y st2=>(match x,keyOf y with
  | .ref n,some k=>(match st2[n]? with
   | some (.dT kvs)=>(match valD kvs k with
    | some v=>.ok v (st2.set n (.dT (dropD kvs k)))
    | none=>.stuck)
   | _=>.stuck)
  | _,_=>.stuck)
 | none=>.stuck):=rfl
@[simp] theorem zzp {f g h:SE}:sDPut f g h σ st=(h σ st).bind fun v st1=>(f σ st1).bind fun x st2=>(g σ st2).bind fun y st3=>(match x,keyOf y with
 | .ref n,some k=>(match st3[n]? with
  | some (.dT kvs)=>if kvs.length < sizeLine then .ok (.nx σ) (st3.set n (.dT (putD kvs k v))) else .stuck
  | _=>.stuck)
 | _,_=>.stuck):=rfl
theorem zbbc {n np:Nat} {b:SS} {ds:List D}:fnD n np b ds st=if ds.length=np then (match b (ds.map some++List.replicate (n - np) none) st with
 | .ok (.ret v) st'=>.ok v st'
 | .ok (.nx _) st'=>.ok .non st'
 | .exc x st'=>.exc x st'
 | _=>.stuck) else .stuck:=rfl
end
section
variable {st:Store} {i j:Int}
@[simp] theorem oI_v {C:Int->Int->Prop} [DecidableRel C] {h:Int->Int->D}:oI C h (.int i) (.int j) st=if C i j then .ok (h i j) st else .stuck:=rfl
@[simp] theorem zbax:oAdd (.int i) (.int j) st=.ok (.int (i+j)) st:=rfl
@[simp] theorem zww {a b:List D}:oAdd (.tup a) (.tup b) st=if a.length+b.length<=sizeLine then .ok (.tup (a++b)) st else .stuck:=rfl
@[simp] theorem zbau:oLtT (.int i) (.int j) st=.ok (.bl (decide (i < j))) st:=rfl
@[simp] theorem zbas:oNeg (.int i) st=.ok (.int (-i)) st:=rfl
@[simp] theorem zdd (ns:List Int):asInts (ns.map .int)=some ns:=by
 induction ns with
 | nil=>rfl
 | cons n ns ih=>rw[xcd,asInts,ih];rfl
@[simp] theorem zkw (l:List (List Int)):asRows (rowsD l)=some l:=by
 induction l with
 | nil=>rfl
 | cons n ns ih =>
  unfold rowsD at ih ⊢;rw[xcd,asRows,zdd,ih];rfl
@[simp] theorem zvi (ns:List Int):keyOf (rowD ns)=some ns:=zdd ns
theorem zfu:dataOf st (.int i)=some (.int i):=rfl
@[simp] theorem zbaw:oEq (.int i) (.int j) st=.ok (.bl (decide (i=j))) st:=by
 show oEqG false (.int i) (.int j) st=_;unfold oEqG;rw[zfu,zfu];dsimp only;rw[if_pos ⟨rfl,rfl⟩];show Res.ok (D.bl (i == j)) st=_;rw[show (i == j)=decide (i=j) from by rw[xgz];simp]
@[simp] theorem zbat:oNe (.int i) (.int j) st=.ok (.bl (!decide (i=j))) st:=by
 show oEqG true (.int i) (.int j) st=_;unfold oEqG;rw[zfu,zfu];dsimp only;rw[if_pos ⟨rfl,rfl⟩];show Res.ok (D.bl (!(i == j))) st=_;rw[show (i == j)=decide (i=j) from by rw[xgz];simp]
theorem zmv (ns:List Int):toDatas (ns.map .int)=some (dI ns):=by
 induction ns with
 | nil=>rfl
 | cons n ns ih=>rw[xcd,toDatas,ih];rfl
theorem zkm (l:List Int):dataOf st (rowD l)=some (dRow l):=by
 show (toDatas (l.map .int)).map PyData.tuple=_;rw[zmv];rfl
theorem zsq {neg:Bool} (a b:List Int):oEqG neg (rowD a) (rowD b) st=.ok (.bl (if neg then !decide (a=b) else decide (a=b))) st:=by
 unfold oEqG;rw[zkm,zkm];dsimp only;rw[if_pos ⟨zfi a,zfi b⟩,zqo]
theorem small (n:Nat) (h:n<=1000000):n<=sizeLine:=by rw[xgu];lia
end
theorem znw {bd:SG} {body:SS} (I:Nat->DS->Store->Prop):∀(xs:List D) (k:Nat) (σ:DS) (st:Store),I k σ st ->
  (∀i x σ st,xs[i]?=some x->I (k+i) σ st->∃σ1 σ2 st2,bd x σ=some σ1/\body σ1 st=.ok (.nx σ2) st2/\I (k+i+1) σ2 st2)->∃σ' st',forF bd body xs σ st=.ok (.nx σ') st'/\I (k+xs.length) σ' st'
 | [],k,σ,st,h,_=>⟨σ,st,rfl,h⟩
 | x::xs,k,σ,st,h,s=>by
  obtain ⟨σ1,σ2,st2,e1,e2,h2⟩:=s 0 x σ st rfl h;obtain ⟨σ',st',e3,h3⟩:=znw I xs (k+1) σ2 st2 h2 fun i y σ st hy hi=>by
   have:=s (i+1) y σ st (by simpa using hy) (by rw[show k+(i+1)=k+1+i by lia];exact hi);rw[show k+(i+1)+1=k+1+i+1 by lia] at this;exact this
  refine ⟨σ',st',?_,by rw[xcn,show k+(xs.length+1)=k+1+xs.length by lia];exact h3⟩;unfold forF;rw[e1];dsimp only;rw[e2];exact e3
theorem zxn {bd:SG} {body:SS} (I:Nat->DS->Store->Prop) {xs:List D} {σ:DS} {st:Store} (h0:I 0 σ st)
  (s:∀i x σ st,xs[i]?=some x->I i σ st->∃σ1 σ2 st2,bd x σ=some σ1/\body σ1 st=.ok (.nx σ2) st2/\I (i+1) σ2 st2):∃σ' st',forF bd body xs σ st=.ok (.nx σ') st'/\I xs.length σ' st':=by
 have:=znw I xs 0 σ st h0 fun i x σ st hx hi=>by
  rw[xdr] at hi ⊢;exact s i x σ st hx hi
 rw[xdr] at this;exact this
theorem zvz {lo:Int} {n i:Nat} {x:D} (h:(rng lo n)[i]?=some x):i < n/\x=.int (lo+i):=zdq h
theorem zcu (lo:Int) (n:Nat):(rng lo n).length=n:=by simp[rng]
theorem zld {c:ST} {body:SS} (I:Nat->DS->Store->Prop) (post:DS->Store->Prop) {σ:DS} {st:Store} {k:Nat} (h0:I k σ st) (hm:k < wCap)
  (s:∀j σ st,I j σ st->∃b st1,c σ st=.ok b st1/\((b=false/\post σ st1)\/(b=true/\∃i σ2 st2,body σ st1=.ok (.nx σ2) st2/\I i σ2 st2/\i < j))):∃σ' st',sWhile c body σ st=.ok (.nx σ') st'/\post σ' st':=by
 have main:∀n j σ st,I j σ st->j < n->∃σ' st',whileF c body n σ st=.ok (.nx σ') st'/\post σ' st':=by
  intro n
  induction n with
  | zero=>intro j σ st _ h;lia
  | succ n ih =>
   intro j σ st hI hlt;obtain ⟨b,st1,e1,h⟩:=s j σ st hI;unfold whileF;rw[e1];dsimp only [zfj];rcases h with ⟨rfl,h⟩ | ⟨rfl,i,σ2,st2,e2,h2,h3⟩
   ·exact ⟨σ,st1,by rw[if_neg (by decide)],h⟩
   ·obtain ⟨σ',st',e3,h4⟩:=ih i σ2 st2 h2 (by lia);refine ⟨σ',st',?_,h4⟩;rw[if_pos rfl,e2];exact e3
 exact main wCap k σ st h0 hm
section
variable {st:Store} {n:Nat} {xs:List D} {i:Int}
@[simp] theorem zvb:seqOf st (.tup xs)=some xs:=rfl
@[simp] theorem zvc:seqOf st (.scr xs)=some xs:=rfl
@[simp] theorem zvd:seqOf st (.lst xs)=some xs:=rfl
@[simp] theorem zvv:seqV (.tup xs)=some xs:=rfl
@[simp] theorem zvx:seqV (.lst xs)=some xs:=rfl
@[simp] theorem zvw:seqV (.scr xs)=some xs:=rfl
@[simp] theorem zbab:asL st (.lst xs)=some xs:=rfl
theorem zkx (h:st[n]?=some (.lst xs)):asL st (.ref n)=some xs:=by
 unfold asL;dsimp only;rw[h]
theorem zhs (h:st[n]?=some (.lst xs)):seqOf st (.ref n)=some xs:=zkx h
theorem ziz {x:D} {d:D} (h:seqOf st x=some xs) (h2:L2.atI xs i=some d):oIx x (.int i) st=.ok d st:=by
 unfold oIx;rw[h];dsimp only;rw[h2]
@[simp] theorem zyz:bLen [.tup xs] st=.ok (.int xs.length) st:=rfl
@[simp] theorem zzb:bLen [.lst xs] st=.ok (.int xs.length) st:=rfl
@[simp] theorem zza:bLen [.scr xs] st=.ok (.int xs.length) st:=rfl
@[simp] theorem zbbz:bAbs [.int i] st=.ok (.int (if i < 0 then -i else i)) st:=rfl
@[simp] theorem zbcd {g:Int->Int->Int} {j:Int}:b2I g [.int i,.int j] st=.ok (.int (g i j)) st:=rfl
@[simp] theorem zyy {ns:List Int}:bSum [rowD ns] st=.ok (.int ns.sum) st:=by
 unfold bSum;simp
@[simp] theorem zut:bTuple [.tup xs] st=.ok (.tup xs) st:=rfl
@[simp] theorem zuu:bTuple [.lst xs] st=.ok (.tup xs) st:=rfl
theorem zga {j:Nat} {d:D} (h:xs[j]?=some d):L2.atI xs (j:Int)=some d:=zob h
theorem zjm {o:O} (h:n < st.length):(st.set n o)[n]?=some o:=xdj h
theorem zcx {o:O} (h:st[n]?=some o):n < st.length:=(xbn.mp h).1
theorem zvt {o:O} (h:st[n]?=some o):st.set n o=st:=by
 apply xhn;intro i;by_cases e:i=n
 ·subst e;rw[xdj (zcx h),h]
 ·rw[xcw (xeg e)]
end
theorem zml {n np:Nat} {b:SS} {ds:List D} {st st':Store} {v:D} (h:ds.length=np) (e:b (ds.map some++List.replicate (n - np) none) st=.ok (.ret v) st'):fnD n np b ds st=.ok v st':=by
 rw[zbbc,if_pos h,e]
noncomputable abbrev bagO (c x:Int):O:=.lst [.int c,.int x]
noncomputable def BagAt (st:Store) (n:Nat):Prop:=∃c x:Int,st[n]?=some (bagO c x)/\0<=c/\0<=x
structure Drew (st st':Store) (n:Nat):Prop where
 len:st.length<=st'.length
 keep : ∀ i, i < st.length -> i ≠ n -> st'[i]? = st[i]?
 bag:BagAt st' n
theorem Drew.set {st:Store} {n:Nat} {c x:Int} (h:BagAt st n) (hc:0<=c) (hx:0<=x):Drew st (st.set n (bagO c x)) n:=by
 obtain ⟨_,_,e,_⟩:=h;exact ⟨by rw[xex];exact xbg _,fun i _ h2=>xcw (xeg h2),c,x,zjm (zcx e),hc,hx⟩
theorem zrq {st:Store} {n:Nat} {m:Int} (hb:BagAt st n) (h1:1<=m) (h2:m < 2 ^ 1000) :
  ∃r st',zbi [.ref n,.int m] st=.ok (.int r) st'/\0<=r/\r < m/\Drew st st' n/\st'.length=st.length:=by
 obtain ⟨c,x,hn,hc,hx⟩:=id hb;have s0:∀{c x:Int} {st:Store},st[n]?=some (bagO c x)->oIx (.ref n) (.int 0) st=.ok (.int c) st:=fun h=>ziz (zhs h) rfl
 have s1:∀{c x:Int} {st:Store},st[n]?=some (bagO c x)->oIx (.ref n) (.int 1) st=.ok (.int x) st:=fun h=>ziz (zhs h) rfl
 by_cases h0:0 < c
 ·have d1:CDivP c m:=⟨by lia,h2⟩
  have e0:ixN 2 0=some 0:=rfl;refine ⟨c % m,st.set n (bagO (c / m) x),zml rfl ?_,xhb _ (by lia),Int.emod_lt_of_pos _ (by lia),Drew.set hb (Int.ediv_nonneg hc (by lia)) hx,xex⟩;simp[s0 hn,h0,hn,e0,show (0:Int) < m by lia,d1]
 ·have hlen:=zcx hn
  have W:=zld (c:=eB (eOp oLtT (eVar 4) (eVar 1))) (body:=sSeq (sSetIx (eVar 0) (eC (.int 1)) (eOp oMod (eOp oAdd (eOp oMulI (eOp oIx (eVar 0) (eC (.int 1))) (eC (.int 48271))) (eC (.int 7919))) (eC (.int 2147483647))))
   (sSeq (sSet 3 (eOp oAdd (eOp oMulI (eVar 3) (eC (.int 1073741789))) (eOp oMod (eOp oMulI (eOp oFdiv (eOp oIx (eVar 0) (eC (.int 1))) (eC (.int 8))) (eC (.int 69621))) (eC (.int 1073741789)))))
   (sSet 4 (eOp oMulI (eVar 4) (eC (.int 1073741789)))))) (k:=1000) (σ:=[some (.ref n),some (.int m),none,some (.int 0),some (.int 1)]) (st:=st)
   (fun j σ s=>∃c' x' nn rr:Int,σ=[some (.ref n),some (.int m),none,some (.int nn),some (.int rr)]/\s=st.set n (bagO c' x')/\0<=c'/\0<=x'/\0<=nn/\j<=1000/\2 ^ (1000 - j)<=rr)
   (fun σ s=>∃c' x' nn:Int,(∃rr,σ=[some (.ref n),some (.int m),none,some (.int nn),some (.int rr)])/\s=st.set n (bagO c' x')/\0<=c'/\0<=x'/\0<=nn)
   ⟨c,x,0,1,rfl,(zvt hn).symm,hc,hx,by lia,by lia,by decide⟩ (by decide) (by
    rintro j σ s ⟨c',x',nn,rr,rfl,rfl,a1,a2,a3,a4,a5⟩;have g1:(st.set n (bagO c' x'))[n]?=some (bagO c' x'):=zjm hlen;by_cases hlt:rr < m
    ·have hj:1<=j:=by
      rcases Nat.eq_zero_or_pos j with z | z
      ·subst z;have a5':(2:Int) ^ 1000<=rr:=a5;lia
      ·exact z
     have e1:ixN 2 1=some 1:=rfl;have m1:CMul x' 48271:=.inr ⟨by decide,by decide⟩;have m2:CMul nn 1073741789:=.inr ⟨by decide,by decide⟩;have m3:CMul rr 1073741789:=.inr ⟨by decide,by decide⟩;have g2:∀y:Int,(st.set n (bagO c' y))[n]?=some (bagO c' y):=fun y=>zjm hlen
     have m4:∀y:Int,CMul y 69621:=fun y=>.inr ⟨by decide,by decide⟩
     have d8:∀y:Int,CDivP y 8:=fun y=>⟨by decide,by decide +kernel⟩
     refine ⟨true,st.set n (bagO c' x'),by simp[hlt],.inr ⟨rfl,j - 1,_,st.set n (bagO c' ((x' * 48271+7919) % 2147483647)),?_,⟨c',(x' * 48271+7919) % 2147483647,nn * 1073741789+(x' * 48271+7919) % 2147483647 / 8 * 69621 % 1073741789,rr * 1073741789,rfl,rfl,a1,?_,?_,by lia,?_⟩,by lia⟩⟩
     ·simp[s1 g1,g1,e1,m1,m2,m3,m4,d8,s1 (g2 _)]
     ·exact xhb _ (by lia)
     ·have a1:0<=nn * 1073741789:=Int.mul_nonneg a3 (by lia);have a2:=xhb ((x' * 48271+7919) % 2147483647 / 8 * 69621) (show (1073741789:Int)≠0 by lia);lia
     ·have e:(2:Int) ^ (1000 - (j - 1))=2 ^ (1000 - j) * 2:=by
       rw[← Int.pow_succ];congr 1;lia
      rw[e];have hp:(0:Int)<=2 ^ (1000 - j):=Int.pow_nonneg (by decide);lia
    ·exact ⟨false,_,by simp[hlt],.inl ⟨rfl,c',x',nn,⟨rr,rfl⟩,rfl,a1,a2,a3⟩⟩)
  obtain ⟨σ',st',e,c',x',nn,hσ,hst,k1,k2,k3⟩:=W;obtain ⟨rr,rfl⟩:=hσ;subst hst;refine ⟨nn % m,st.set n (bagO c' x'),zml rfl ?_,xhb _ (by lia),Int.emod_lt_of_pos _ (by lia),Drew.set hb k1 k2,xex⟩;simp[s0 hn,h0,e,show (0:Int) < m by lia]
theorem zgs {ns:List Int} {j:Nat} (h:j < ns.length):L2.atI (ns.map D.int) (j:Int)=some (.int ns[j]):=zob (by rw[xcg,xbi h];rfl)
theorem zyx {st:Store} {ns:List Int} {i:Nat} (hl:ns.length<=63) (hi:i<=100000):∃c x:Int,0<=c/\0<=x/\zci [.scr (ns.map .int),.int i] st=.ok (.ref st.length) (st++[bagO c x]):=by
 have cell:∃c:Int,0<=c/\sIf (eB (eOp oLtT (eVar 1) (eCall bLen (aCons (eVar 0) aNil)))) (sSet 2 (eCall bAbs (aCons (eOp oIx (eVar 0) (eVar 1)) aNil))) sNx [some (.scr (ns.map .int)),some (.int i),some (.int 0),none,none] st
   = .ok (.nx [some (.scr (ns.map .int)),some (.int i),some (.int c),none,none]) st:=by
  by_cases h:i < ns.length
  ·have e:oIx (.scr (ns.map .int)) (.int i) st=.ok (.int ns[i]) st:=ziz rfl (zgs h);refine ⟨if ns[i] < 0 then -ns[i] else ns[i],by split<;>lia,?_⟩;simp[h,e]
  ·exact ⟨0,by lia,by simp[h]⟩
 obtain ⟨c,hc,ec⟩:=cell;have hmin:(if (60:Int) < (ns.length:Int) then (60:Int) else ns.length).toNat<=ns.length:=by split<;>lia
 have W:=zxn (bd:=gN 4) (body:=sSet 3 (eOp oMod (eOp oAdd (eOp oAdd (eOp oMulI (eVar 3) (eC (.int 48271))) (eOp oMod (eOp oIx (eVar 0) (eVar 4)) (eC (.int 2147483647)))) (eVar 4)) (eC (.int 2147483629))))
  (xs:=rng 0 (if (60:Int) < (ns.length:Int) then (60:Int) else ns.length).toNat) (σ:=[some (.scr (ns.map .int)),some (.int i),some (.int c),some (.int (7919 * i+17)),none]) (st:=st)
  (fun j σ s=>s=st/\∃(mix:Int) (v:Option D),σ=[some (.scr (ns.map .int)),some (.int i),some (.int c),some (.int mix),v]/\0<=mix) ⟨rfl,_,none,rfl,by lia⟩ (by
   rintro j x σ s hx ⟨rfl,mix,v,rfl,hm⟩;obtain ⟨hj,rfl⟩:=zvz hx;have hj2:j < ns.length:=by lia
   have e:oIx (.scr (ns.map .int)) (.int (0+j)) s=.ok (.int ns[j]) s:=ziz rfl (by rw[xiv];exact zgs hj2);rw[xiv] at e;have m1:CMul mix 48271:=.inr ⟨by decide,by decide⟩;refine ⟨_,[some (.scr (ns.map .int)),some (.int i),some (.int c),some (.int ((mix * 48271+ns[j] % 2147483647+j) % 2147483629)),some (.int (0+j))],s,rfl,?_,rfl,_,_,rfl,xhb _ (by lia)⟩
   simp[e,m1])
 obtain ⟨σ',st',e,rfl,mix,v,rfl,hm⟩:=W;have m0:CMul 7919 (i:Int):=.inl ⟨by decide,by decide⟩;have p0:CPow 10 18:=⟨by decide,by decide,by decide⟩
 have hr:RngOk (if (60:Int) < (ns.length:Int) then (60:Int) else ns.length):=by
  split<;>exact rngOk (by lia) (by lia)
 by_cases hlt:c < 1000000000000000000
 ·refine ⟨0,mix,by lia,hm,zml rfl ?_⟩;have hs:=small 2 (by lia);simp at ec;simp[ec,m0,hr,e,p0,hlt,hs]
 ·refine ⟨c,mix,hc,hm,zml rfl ?_⟩;have hs:=small 2 (by lia);simp at ec;simp[ec,m0,hr,e,p0,hlt,hs]
theorem zln {l:List (List Int)} {i:Nat} {x:D} (h:(rowsD l)[i]?=some x):∃k,l[i]?=some k/\x=rowD k:=by
 unfold rowsD at h;rw[xcg] at h;cases e:l[i]? with
 | none=>rw[e] at h;cases h
 | some k=>rw[e] at h;exact ⟨k,rfl,(xca h).symm⟩
theorem zy (l:List (List Int)):(rowsD l).length=l.length:=xbk _
theorem zct {α:Type} {l:List α} {i:Nat} {k:α} (h:l[i]?=some k):l.take (i+1)=l.take i++[k]:=by
 obtain ⟨hi,e⟩:=xbn.mp h;rw[xfs hi,e]
end Dd
namespace K07
open PySem L2
end K07
namespace K23
open PySem L2 K07
end K23
namespace Dd
open PySem L2 K07 K23
noncomputable def slowAt (r:List Int) (p:Nat):Prop:=∃a b:Int,r[p]?=some a/\r[p+1]?=some b/\a < 2 * b
noncomputable instance (r:List Int) (p:Nat):Decidable (slowAt r p) :=
 match h1:r[p]?,h2:r[p+1]? with
 | some a,some b=>if h:a < 2 * b then .isTrue ⟨a,b,h1,h2,h⟩ else .isFalse fun ⟨x,y,e1,e2,e3⟩=>by rw[h1] at e1;rw[h2] at e2;cases e1;cases e2;exact h e3
 | none,_=>.isFalse fun ⟨x,y,e1,_⟩=>by rw[h1] at e1;cases e1
 | some _,none=>.isFalse fun ⟨x,y,_,e2,_⟩=>by rw[h2] at e2;cases e2
theorem ztt {i j:Int} (h0:0 < j) (h1:j<=1000):CDivP i j:=⟨h0,Int.lt_of_le_of_lt h1 (by decide +kernel)⟩
theorem rngN {j:Int} (h1:-10000<=j) (h2:j<=10000):RngOk j:=rngOk (by lia) (by lia)
end Dd
namespace Dd
open PySem L2
noncomputable def WP {α:Type} (r:Res α) (Q:α->Store->Prop):Prop:=match r with
 | .ok a st=>Q a st
 | _=>False
theorem WP.get {α:Type} {r:Res α} {Q:α->Store->Prop} (h:WP r Q):∃a st,r=.ok a st/\Q a st:=by
 cases r with
 | ok a st=>exact ⟨a,st,rfl,h⟩
 | exc x st=>exact h.elim
 | stuck=>exact h.elim
theorem WP.of {α:Type} {r:Res α} {Q:α->Store->Prop} {a:α} {st:Store} (e:r=.ok a st) (h:Q a st):WP r Q:=by rw[e];exact h
theorem WP.mono {α:Type} {r:Res α} {Q Q':α->Store->Prop} (h:WP r Q) (k:∀a st,Q a st->Q' a st):WP r Q':=by
 obtain ⟨a,st,rfl,q⟩:=h.get;exact k a st q
theorem zg {α β:Type} {r:Res α} {f:α->Store->Res β} {Q:β->Store->Prop}:WP (r.bind f) Q=WP r (fun a st=>WP (f a st) Q):=by
 cases r<;>rfl
noncomputable def seqK (t:SS) (Q:Fl->Store->Prop):Fl->Store->Prop:=fun fl st=>match fl with
 | .nx σ=>WP (t σ st) Q
 | fl=>Q fl st
theorem zvl {s t:SS} {σ:DS} {st:Store} {Q:Fl->Store->Prop}:WP (sSeq s t σ st) Q=WP (s σ st) (seqK t Q):=by
 unfold sSeq;cases s σ st with
 | ok fl st1=>cases fl<;>rfl
 | exc x st=>rfl
 | stuck=>rfl
theorem zlb {α:Type} {c:Prop} [Decidable c] {a b:Res α} {Q:α->Store->Prop}:WP (if c then a else b) Q=if c then WP a Q else WP b Q:=by
 split<;>rfl
theorem zgu {α:Type} {c:Prop} [Decidable c] {a:Res α} {Q:α->Store->Prop}:WP (if c then a else .stuck) Q=(c/\WP a Q):=by
 by_cases h:c
 ·rw[if_pos h];simp[h]
 ·rw[if_neg h];simp[h,WP]
noncomputable def retK (Q:D->Store->Prop):Fl->Store->Prop:=fun fl st=>match fl with
 | .ret v=>Q v st
 | .nx _=>Q .non st
 | _=>False
theorem zva {n np:Nat} {b:SS} {ds:List D} {st:Store} {Q:D->Store->Prop} (h:ds.length=np) (k:WP (b (ds.map some++List.replicate (n - np) none) st) (retK Q)):WP (fnD n np b ds st) Q:=by
 obtain ⟨fl,st',e,q⟩:=k.get;unfold fnD;rw[if_pos h,e];cases fl<;>first | exact q | exact q.elim
noncomputable def bK (Q:Bool->Store->Prop):D->Store->Prop:=fun v st=>match v with
 | .bl b=>Q b st
 | _=>False
noncomputable def gK (bd:SG) (Q:Fl->Store->Prop) (σ:DS):D->Store->Prop:=fun v st=>match bd v σ with
 | some σ1=>Q (.nx σ1) st
 | none=>False
theorem W:(∀{α:Type} {a:α} {st:Store} {Q:α->Store->Prop},WP (.ok a st) Q=Q a st)
 /\ (∀{s t:SS} {σ:DS} {st:Store} {Q:Fl->Store->Prop},WP (sSeq s t σ st) Q=WP (s σ st) (seqK t Q))
 /\ (∀{t:SS} {σ:DS} {st:Store} {Q:Fl->Store->Prop},seqK t Q (.nx σ) st=WP (t σ st) Q)
 /\ (∀{t:SS} {v:D} {st:Store} {Q:Fl->Store->Prop},seqK t Q (.ret v) st=Q (.ret v) st)
 /\ (∀{t:SS} {σ:DS} {st:Store} {Q:Fl->Store->Prop},seqK t Q (.brk σ) st=Q (.brk σ) st)
 /\ (∀{t:SS} {σ:DS} {st:Store} {Q:Fl->Store->Prop},seqK t Q (.ct σ) st=Q (.ct σ) st)
 /\ (∀{v:D} {st:Store} {Q:D->Store->Prop},retK Q (.ret v) st=Q v st)
 /\ (∀{σ:DS} {st:Store} {Q:D->Store->Prop},retK Q (.nx σ) st=Q .non st)
 /\ (∀{b:Bool} {st:Store} {Q:Bool->Store->Prop},bK Q (.bl b) st=Q b st)
 /\ (∀{d:D} {σ:DS} {st:Store} {Q:D->Store->Prop},WP (eC d σ st) Q=Q d st)
 /\ (∀{g:D->D->Store->Res D} {f f':SE} {σ:DS} {st:Store} {Q:D->Store->Prop},WP (eOp g f f' σ st) Q=WP (f σ st) (fun x st1=>WP (f' σ st1) (fun y st2=>WP (g x y st2) Q)))
 /\ (∀{g:D->Store->Res D} {f:SE} {σ:DS} {st:Store} {Q:D->Store->Prop},WP (eUn g f σ st) Q=WP (f σ st) (fun x st1=>WP (g x st1) Q))
 /\ (∀{g:List D->Store->Res D} {f:SA} {σ:DS} {st:Store} {Q:D->Store->Prop},WP (eCall g f σ st) Q=WP (f σ st) (fun x st1=>WP (g x st1) Q))
 /\ (∀{σ:DS} {st:Store} {Q:List D->Store->Prop},WP (aNil σ st) Q=Q [] st)
 /\ (∀{f:SE} {g:SA} {σ:DS} {st:Store} {Q:List D->Store->Prop},WP (aCons f g σ st) Q=WP (f σ st) (fun x st1=>WP (g σ st1) (fun xs st2=>Q (x::xs) st2)))
 /\ (∀{f:SE} {σ:DS} {st:Store} {Q:Bool->Store->Prop},WP (eB f σ st) Q=WP (f σ st) (bK Q))
 /\ (∀{f f':ST} {σ:DS} {st:Store} {Q:Bool->Store->Prop},WP (bAnd f f' σ st) Q=WP (f σ st) (fun b st1=>if b=true then WP (f' σ st1) Q else Q false st1))
 /\ (∀{f f':ST} {σ:DS} {st:Store} {Q:Bool->Store->Prop},WP (bOr f f' σ st) Q=WP (f σ st) (fun b st1=>if b=true then Q true st1 else WP (f' σ st1) Q))
 /\ (∀{f:ST} {σ:DS} {st:Store} {Q:Bool->Store->Prop},WP (bNot f σ st) Q=WP (f σ st) (fun b st1=>Q (!b) st1))
 /\ (∀{σ:DS} {st:Store} {Q:Bool->Store->Prop},WP (bYes σ st) Q=Q true st)
 /\ (∀{f f':SE} {σ:DS} {st:Store} {Q:D->Store->Prop},WP (eAnd f f' σ st) Q=WP (f σ st) (bK fun b st1=>if b=true then WP (f' σ st1) Q else Q (.bl false) st1))
 /\ (∀{f f':SE} {σ:DS} {st:Store} {Q:D->Store->Prop},WP (eOr f f' σ st) Q=WP (f σ st) (bK fun b st1=>if b=true then Q (.bl true) st1 else WP (f' σ st1) Q))
 /\ (∀{f:SE} {σ:DS} {st:Store} {Q:D->Store->Prop},WP (eNot f σ st) Q=WP (f σ st) (bK fun b st1=>Q (.bl (!b)) st1))
 /\ (∀{c:ST} {f f':SE} {σ:DS} {st:Store} {Q:D->Store->Prop},WP (eIf c f f' σ st) Q=WP (c σ st) (fun b st1=>if b=true then WP (f σ st1) Q else WP (f' σ st1) Q))
 /\ (∀{g:SA} {σ:DS} {st:Store} {Q:D->Store->Prop},WP (eTup g σ st) Q=WP (g σ st) (fun xs st1=>xs.length<=sizeLine/\Q (.tup xs) st1))
 /\ (∀{g:SA} {σ:DS} {st:Store} {Q:D->Store->Prop},WP (eLst g σ st) Q=WP (g σ st) (fun xs st1=>xs.length<=sizeLine/\Q (.lst xs) st1))
 /\ (∀{g:SA} {σ:DS} {st:Store} {Q:D->Store->Prop},WP (eLstM g σ st) Q=WP (g σ st) (fun xs st1=>xs.length<=sizeLine/\Q (.ref st1.length) (st1++[.lst xs])))
 /\ (∀{σ:DS} {st:Store} {Q:D->Store->Prop},WP (eDNew σ st) Q=Q (.ref st.length) (st++[.dT []]))
 /\ (∀{σ:DS} {st:Store} {Q:Fl->Store->Prop},WP (sNx σ st) Q=Q (.nx σ) st)
 /\ (∀{σ:DS} {st:Store} {Q:Fl->Store->Prop},WP (sBrk σ st) Q=Q (.brk σ) st)
 /\ (∀{σ:DS} {st:Store} {Q:Fl->Store->Prop},WP (sCt σ st) Q=Q (.ct σ) st)
 /\ (∀{σ:DS} {st:Store} {Q:Fl->Store->Prop},WP (sRetN σ st) Q=Q (.ret .non) st)
 /\ (∀{f:SE} {σ:DS} {st:Store} {Q:Fl->Store->Prop},WP (sRet f σ st) Q=WP (f σ st) (fun v st1=>Q (.ret v) st1))
 /\ (∀{f:SE} {σ:DS} {st:Store} {Q:Fl->Store->Prop},WP (sDrop f σ st) Q=WP (f σ st) (fun _ st1=>Q (.nx σ) st1))
 /\ (∀{i:Nat} {f:SE} {σ:DS} {st:Store} {Q:Fl->Store->Prop},WP (sSet i f σ st) Q=WP (f σ st) (fun v st1=>Q (.nx (σ.set i (some v))) st1))
 /\ (∀{bd:SG} {f:SE} {σ:DS} {st:Store} {Q:Fl->Store->Prop},WP (sSetG bd f σ st) Q=WP (f σ st) (gK bd Q σ))
 /\ (∀{c:ST} {s t:SS} {σ:DS} {st:Store} {Q:Fl->Store->Prop},WP (sIf c s t σ st) Q=WP (c σ st) (fun b st1=>if b=true then WP (s σ st1) Q else WP (t σ st1) Q))
 /\ (∀{it:SA} {bd:SG} {body:SS} {σ:DS} {st:Store} {Q:Fl->Store->Prop},WP (sFor it bd body σ st) Q=WP (it σ st) (fun xs st1=>WP (forF bd body xs σ st1) Q))
 /\ (∀{it:SA} {k:Nat} {is:List Nat} {bd:SG} {c:ST} {f:SE} {σ:DS} {st:Store} {Q:D->Store->Prop},WP (eComp it k is bd c f σ st) Q=WP (it σ st) (fun xs st1=>xs.length<=sizeLine/\WP (compF bd c f xs (startD k is σ) st1) (fun ys st2=>Q (.lst ys) st2)))
 /\ (∀{it:SA} {k:Nat} {is:List Nat} {bd:SG} {c:ST} {f:SE} {σ:DS} {st:Store} {Q:D->Store->Prop},WP (eCompM it k is bd c f σ st) Q=WP (it σ st) (fun xs st1=>xs.length<=sizeLine/\WP (compF bd c f xs (startD k is σ) st1) (fun ys st2=>Q (.ref st2.length) (st2++[.lst ys]))))
 /\ (∀{C:Int->Int->Prop} [DecidableRel C] {h:Int->Int->D} {i j:Int} {st:Store} {Q:D->Store->Prop},WP (oI C h (.int i) (.int j) st) Q=(C i j/\Q (h i j) st))
 /\ (∀{i j:Int} {st:Store} {Q:D->Store->Prop},WP (oAdd (.int i) (.int j) st) Q=Q (.int (i+j)) st)
 /\ (∀{a b:List D} {st:Store} {Q:D->Store->Prop},WP (oAdd (.tup a) (.tup b) st) Q=(a.length+b.length<=sizeLine/\Q (.tup (a++b)) st))
 /\ (∀{i j:Int} {st:Store} {Q:D->Store->Prop},WP (oLtT (.int i) (.int j) st) Q=Q (.bl (decide (i < j))) st)
 /\ (∀{i j:Int} {st:Store} {Q:D->Store->Prop},WP (oEqG false (.int i) (.int j) st) Q=Q (.bl (decide (i=j))) st)
 /\ (∀{i j:Int} {st:Store} {Q:D->Store->Prop},WP (oEqG true (.int i) (.int j) st) Q=Q (.bl (!decide (i=j))) st)
 /\ (∀{i:Int} {st:Store} {Q:D->Store->Prop},WP (oNeg (.int i) st) Q=Q (.int (-i)) st)
 /\ (∀{i j:Int} {g:Int->Int->Int} {st:Store} {Q:D->Store->Prop},WP (b2I g [.int i,.int j] st) Q=Q (.int (g i j)) st)
 /\ (∀{i:Int} {st:Store} {Q:D->Store->Prop},WP (bAbs [.int i] st) Q=Q (.int (if i < 0 then -i else i)) st)
 /\ (∀{b:Bool} {st:Store} {Q:D->Store->Prop},WP (bInt [.bl b] st) Q=Q (.int (if b=true then 1 else 0)) st)
 /\ (∀{xs:List D} {st:Store} {Q:D->Store->Prop},WP (bLen [.tup xs] st) Q=Q (.int xs.length) st)
 /\ (∀{xs:List D} {st:Store} {Q:D->Store->Prop},WP (bLen [.lst xs] st) Q=Q (.int xs.length) st)
 /\ (∀{xs:List D} {st:Store} {Q:D->Store->Prop},WP (bLen [.scr xs] st) Q=Q (.int xs.length) st)
 /\ (∀{xs:List D} {st:Store} {Q:D->Store->Prop},WP (bTuple [.tup xs] st) Q=Q (.tup xs) st)
 /\ (∀{xs:List D} {st:Store} {Q:D->Store->Prop},WP (bTuple [.lst xs] st) Q=Q (.tup xs) st)
 /\ (∀{xs:List D} {st:Store} {Q:D->Store->Prop},WP (bList [.tup xs] st) Q=Q (.lst xs) st)
 /\ (∀{xs:List D} {st:Store} {Q:D->Store->Prop},WP (bList [.lst xs] st) Q=Q (.lst xs) st)
 /\ (∀{d:D} {σ:DS} {st:Store} {Q:D->Store->Prop},WP (eVar 0 (some d::σ) st) Q=Q d st)
 /\ (∀{i:Nat} {σ:DS} {st:Store} {Q:D->Store->Prop} {o:Option D},WP (eVar (i+1) (o::σ) st) Q=WP (eVar i σ st) Q)
 /\ (∀{f:SE} {σ:DS} {st:Store} {Q:List D->Store->Prop},WP (iSeq f σ st) Q=WP (f σ st) (fun x st1=>∃xs,seqV x=some xs/\Q xs st1))
 /\ (∀{f:SE} {σ:DS} {st:Store} {Q:Bool->Store->Prop},WP (eTru f σ st) Q=WP (f σ st) (fun x st1=>∃b,tru st1 x=some b/\Q b st1))
 /\ (∀{g:SA} {σ:DS} {st:Store} {Q:List D->Store->Prop},WP (iR1 g σ st) Q=WP (g σ st) (fun xs st1=>∃j,xs=[.int j]/\RngOk j/\Q (rng 0 j.toNat) st1))
 /\ (∀{g:SA} {σ:DS} {st:Store} {Q:List D->Store->Prop},WP (iR2 g σ st) Q=WP (g σ st) (fun xs st1=>∃i j,xs=[.int i,.int j]/\RngOk i/\RngOk j/\Q (rng i (j - i).toNat) st1)):=by
 have g2:∀{α:Type} {c:Prop} [Decidable c] {a:α} {st:Store} {Q:α->Store->Prop},WP (if c then .ok a st else .stuck) Q=(c/\Q a st):=fun {α c _ a st Q}=>zgu
 refine ⟨rfl,zvl,rfl,rfl,rfl,rfl,rfl,rfl,rfl,rfl,?_⟩;refine ⟨?_,?_⟩
 ·intros;rw[zbbg,zg];congr;funext x st1;rw[zg]
 refine ⟨zg,zg,rfl,?_⟩;refine ⟨?_,?_⟩
 ·intros;rw[zuz,zg];congr;funext x st1;rw[zg];rfl
 refine ⟨?_,?_⟩
 ·intros;rw[eB_v,zg];congr;funext x st1;cases x<;>rfl
 refine ⟨?_,?_⟩
 ·intros;rw[zzc,zg];congr;funext x st1;rw[zlb];rfl
 refine ⟨?_,?_⟩
 ·intros;rw[zbbx,zg];congr;funext x st1;rw[zlb];rfl
 refine ⟨zg,rfl,?_⟩;refine ⟨?_,?_⟩
 ·intros;rw[zxv,zg];congr;funext x st1;cases x<;>try rfl
  rename_i b;cases b<;>rfl
 refine ⟨?_,?_⟩
 ·intros;rw[zbbf,zg];congr;funext x st1;cases x<;>try rfl
  rename_i b;cases b<;>rfl
 refine ⟨?_,?_⟩
 ·intros;rw[zxr,zg];congr;funext x st1;cases x<;>rfl
 refine ⟨?_,?_⟩
 ·intros;rw[zbbh,zg];congr;funext x st1;rw[zlb]
 refine ⟨?_,?_⟩
 ·intros;rw[zxp,zg];congr;funext x st1;rw[g2]
 refine ⟨?_,?_⟩
 ·intros;rw[zxs,zg];congr;funext x st1;rw[g2]
 refine ⟨?_,?_⟩
 ·intros;rw[ztl,zg];congr;funext x st1;rw[g2]
 refine ⟨rfl,rfl,rfl,rfl,rfl,zg,zg,zg,?_⟩;refine ⟨?_,?_⟩
 ·intro bd f σ st Q;unfold sSetG;rw[zg];congr;funext x st1;unfold gK;cases bd x σ<;>rfl
 refine ⟨?_,?_⟩
 ·intros;rw[zbaj,zg];congr;funext x st1;rw[zlb]
 refine ⟨zg,?_⟩;refine ⟨?_,?_⟩
 ·intros;rw[ztm,zg];congr;funext x st1;rw[zgu,zg];rfl
 refine ⟨?_,?_⟩
 ·intros;unfold eCompM;rw[zg];congr;funext x st1;rw[zgu,zg];rfl
 refine ⟨?_,?_⟩
 ·intros;rw[oI_v,g2]
 refine ⟨rfl,?_⟩;refine ⟨?_,?_⟩
 ·intros;rw[zww,g2]
 refine ⟨rfl,?_⟩;refine ⟨?_,?_⟩
 ·intros;rw[show ∀i j st,oEqG false (.int i) (.int j) st=_ from fun i j st=>zbaw];rfl
 refine ⟨?_,?_⟩
 ·intros;rw[show ∀i j st,oEqG true (.int i) (.int j) st=_ from fun i j st=>zbat];rfl
 refine ⟨rfl,rfl,rfl,rfl,rfl,rfl,rfl,rfl,rfl,rfl,rfl,fun {d σ st Q}=>rfl,fun {i σ st Q o}=>rfl,?_⟩;refine ⟨?_,?_⟩
 ·intros;rw[zxj,zg];congr;funext x st1
  cases h:seqV x with
  | none=>simp[WP]
  | some xs=>simp[WP]
 refine ⟨?_,?_⟩
 ·intros;rw[zxq,zg];congr;funext x st1
  cases h:tru st1 x with
  | none=>simp[WP]
  | some xs=>simp[WP]
 refine ⟨?_,?_⟩
 ·intros;rw[zbbb,zg];congr;funext x st1
  split
  ·rw[g2];simp[RngOk]
  ·rename_i hne;have:∀j,x≠[D.int j]:=fun j h=>hne j h
   simp[WP,this]
 ·intros;rw[zbba,zg];congr;funext x st1
  split
  ·rw[g2];simp only[RngOk,List.cons.injEq,D.int.injEq,and_true];apply propext;constructor
   ·rintro ⟨h,q⟩;exact ⟨_,_,⟨rfl,rfl⟩,h.1,h.2,q⟩
   ·rintro ⟨i',j',⟨rfl,rfl⟩,h1,h2,q⟩;exact ⟨⟨h1,h2⟩,q⟩
  ·rename_i hne;have:∀i j,x≠[D.int i,D.int j]:=fun i j h=>hne i j h
   simp[WP,this]
noncomputable def loopK (I:DS->Store->Prop) (Q:Fl->Store->Prop):Fl->Store->Prop:=fun fl st=>match fl with
 | .nx σ=>I σ st
 | .ct σ=>I σ st
 | .brk σ=>Q (.nx σ) st
 | .ret v=>Q (.ret v) st
theorem zey {bd:SG} {body:SS} {Q:Fl->Store->Prop} (I:Nat->DS->Store->Prop):∀(xs:List D) (k:Nat) (σ:DS) (st:Store),I k σ st ->
  (∀i x σ st,xs[i]?=some x->I (k+i) σ st->∃σ1,bd x σ=some σ1/\WP (body σ1 st) (loopK (I (k+i+1)) Q))->(∀σ st,I (k+xs.length) σ st->Q (.nx σ) st)->WP (forF bd body xs σ st) Q
 | [],k,σ,st,h,_,q=>q σ st h
 | x::xs,k,σ,st,h,s,q=>by
  obtain ⟨σ1,e1,w⟩:=s 0 x σ st rfl h;obtain ⟨fl,st2,e2,w⟩:=w.get;unfold forF;rw[e1];dsimp only;rw[e2]
  have go:∀σ2,I (k+0+1) σ2 st2->WP (forF bd body xs σ2 st2) Q:=fun σ2 h2=>zey I xs (k+1) σ2 st2 h2 (fun i y σ st hy hi=>by
   have:=s (i+1) y σ st (by simpa using hy) (by rw[show k+(i+1)=k+1+i by lia];exact hi);rw[show k+(i+1)+1=k+1+i+1 by lia] at this
   exact this) (fun σ st h=>q σ st (by rw[xcn,show k+(xs.length+1)=k+1+xs.length by lia];exact h))
  cases fl with
  | nx σ2=>exact go σ2 w
  | ct σ2=>exact go σ2 w
  | brk σ2=>exact w
  | ret v=>exact w
theorem zis {bd:SG} {body:SS} {Q:Fl->Store->Prop} (I:Nat->DS->Store->Prop) {xs:List D} {σ:DS} {st:Store} (h0:I 0 σ st)
  (s:∀i x σ st,xs[i]?=some x->I i σ st->∃σ1,bd x σ=some σ1/\WP (body σ1 st) (loopK (I (i+1)) Q)) (q:∀σ st,I xs.length σ st->Q (.nx σ) st):WP (forF bd body xs σ st) Q :=
 zey I xs 0 σ st h0 (fun i x σ st hx hi=>by rw[xdr] at hi ⊢;exact s i x σ st hx hi) fun σ st h=>q σ st (by rw[xdr] at h;exact h)
theorem L:(∀{I:DS->Store->Prop} {Q:Fl->Store->Prop} {σ:DS} {st:Store},loopK I Q (.nx σ) st=I σ st)
 /\ (∀{I:DS->Store->Prop} {Q:Fl->Store->Prop} {σ:DS} {st:Store},loopK I Q (.ct σ) st=I σ st)
 /\ (∀{I:DS->Store->Prop} {Q:Fl->Store->Prop} {σ:DS} {st:Store},loopK I Q (.brk σ) st=Q (.nx σ) st)
 /\ (∀{I:DS->Store->Prop} {Q:Fl->Store->Prop} {v:D} {st:Store},loopK I Q (.ret v) st=Q (.ret v) st):=⟨rfl,rfl,rfl,rfl⟩
theorem zcm {bd:SG} {c:ST} {f:SE} (I:Nat->List D->DS->Store->Prop):∀(xs:List D) (k:Nat) (acc:List D) (σ:DS) (st:Store) (Q:List D->Store->Prop),I k acc σ st ->
  (∀i x acc σ st,xs[i]?=some x->I (k+i) acc σ st->∃σ1,bd x σ=some σ1/\WP (c σ1 st) (fun b st1=>if b=true then WP (f σ1 st1) (fun y st2=>I (k+i+1) (acc++[y]) σ1 st2) else I (k+i+1) acc σ1 st1)) ->
  (∀ys σ st,I (k+xs.length) (acc++ys) σ st->Q ys st)->WP (compF bd c f xs σ st) Q
 | [],k,acc,σ,st,Q,h,_,q=>q [] σ st (by rw[xdo];exact h)
 | x::xs,k,acc,σ,st,Q,h,s,q=>by
  obtain ⟨σ1,e1,w⟩:=s 0 x acc σ st rfl h;obtain ⟨b,st1,e2,w⟩:=w.get;have s':∀i y acc σ st,xs[i]?=some y->I (k+1+i) acc σ st->∃σ1,bd y σ=some σ1/\WP (c σ1 st) (fun b st1=>if b=true then WP (f σ1 st1) (fun y st2=>I (k+1+i+1) (acc++[y]) σ1 st2) else I (k+1+i+1) acc σ1 st1):=fun i y acc σ st hy hi=>by
   have:=s (i+1) y acc σ st (by simpa using hy) (by rw[show k+(i+1)=k+1+i by lia];exact hi);rw[show k+(i+1)+1=k+1+i+1 by lia] at this;exact this
  have ln:∀(zs:List D) σ st,I (k+1+xs.length) zs σ st->I (k+(x::xs).length) zs σ st:=fun zs σ st h=>by rw[xcn,show k+(xs.length+1)=k+1+xs.length by lia];exact h
  unfold compF;rw[e1];dsimp only;rw[e2];dsimp only [zfj];cases b with
  | false =>
   rw[if_neg (by decide)] at w ⊢;exact zcm I xs (k+1) acc σ1 st1 Q w s' fun ys σ st h=>q ys σ st (ln _ _ _ h)
  | true =>
   rw[if_pos rfl] at w ⊢;obtain ⟨y,st2,e3,w⟩:=w.get;rw[e3];dsimp only [zfj];rw[zg];exact zcm I xs (k+1) (acc++[y]) σ1 st2 _ w s' fun ys σ st h=>q (y::ys) σ st (ln _ _ _ (by rw[xcb] at h;exact h))
theorem zni {bd:SG} {c:ST} {f:SE} {Q:List D->Store->Prop} (I:Nat->List D->DS->Store->Prop) {xs:List D} {σ:DS} {st:Store} (h0:I 0 [] σ st)
  (s:∀i x acc σ st,xs[i]?=some x->I i acc σ st->∃σ1,bd x σ=some σ1/\WP (c σ1 st) (fun b st1=>if b=true then WP (f σ1 st1) (fun y st2=>I (i+1) (acc++[y]) σ1 st2) else I (i+1) acc σ1 st1))
  (q:∀ys σ st,I xs.length ys σ st->Q ys st):WP (compF bd c f xs σ st) Q :=
 zcm I xs 0 [] σ st Q h0 (fun i x acc σ st hx hi=>by rw[xdr] at hi ⊢;exact s i x acc σ st hx hi) fun ys σ st h=>q ys σ st (by rw[xdr] at h;simpa using h)
theorem zog {bd:SG} {c:ST} {f:SE} {α:Type} (S:DS->Prop) (P:α->Bool) (G:α->D) (E:α->D) {as:List α} {σ:DS} {st:Store} {Q:List D->Store->Prop} (h0:S σ)
  (s:∀x∈as,∀σ,S σ->∃σ1,bd (E x) σ=some σ1/\S σ1/\WP (c σ1 st) (fun b st1=>st1=st/\b=P x)/\(P x=true->WP (f σ1 st) (fun y st1=>st1=st/\y=G x)))
  (q:Q ((as.filter P).map G) st):WP (compF bd c f (as.map E) σ st) Q:=by
 refine zni (fun i acc σ s'=>S σ/\s'=st/\acc=((as.take i).filter P).map G) ⟨h0,rfl,rfl⟩ (fun i x acc σ s' hx hI=>?_) fun ys σ s' hI=>?_
 ·obtain ⟨hS,rfl,rfl⟩:=hI;rw[xcg] at hx;obtain ⟨z,hz,rfl⟩:=xdk.mp hx;obtain ⟨σ1,e1,hS1,w1,w2⟩:=s z (xcx hz) σ hS;refine ⟨σ1,e1,w1.mono fun b st1 hb=>?_⟩;obtain ⟨rfl,rfl⟩:=hb;cases hP:P z with
  | false =>
   rw[if_neg (by decide)];refine ⟨hS1,rfl,?_⟩;rw[zct hz,xhh,List.filter_cons_of_neg (by rw[hP];decide)];simp
  | true =>
   rw[if_pos rfl];refine (w2 hP).mono fun y st2 hy=>?_
   obtain ⟨rfl,rfl⟩:=hy;refine ⟨hS1,rfl,?_⟩;rw[zct hz,xhh,List.filter_cons_of_pos hP,xjb];simp
 ·obtain ⟨_,rfl,rfl⟩:=hI;rw[xbk,xhu];exact q
theorem V:(∀{α:Type} {a b:α} {l:List α},(a::l).set 0 b=b::l)
 /\ (∀{α:Type} {a b:α} {l:List α} {i:Nat},(a::l).set (i+1) b=a::l.set i b)
 /\ (∀{σ:DS} {k:Nat} {is:List Nat},startD k is σ=List.replicate k none++is.map fun i=>(σ[i]?).getD none)
 /\ (∀{α:Type} {a:α} {k:Nat},List.replicate (k+1) a=a::List.replicate k a)
 /\ (∀{α:Type} {a:α},List.replicate 0 a=[])
 /\ (∀{α β:Type} {f:α->β} {a:α} {l:List α},(a::l).map f=f a::l.map f)
 /\ (∀{α β:Type} {f:α->β},([]:List α).map f=[])
 /\ (∀{α:Type} {a:α} {l m:List α},(a::l)++m=a::(l++m))
 /\ (∀{α:Type} {l:List α},[]++l=l)
 /\ (∀{α:Type} {a:α} {l:List α},(a::l)[0]?=some a)
 /\ (∀{α:Type} {a:α} {l:List α} {i:Nat},(a::l)[i+1]?=l[i]?)
 /\ (∀{α:Type} {a:α} {d:α},(some a).getD d=a)
 /\ (∀{i:Nat} {d:D} {σ:DS},gN i d σ=some (σ.set i (some d)))
 /\ (∀{p:Prop} [Decidable p],(decide p=true)=p)
 /\ (∀{p:Prop} [Decidable p],((!decide p)=true)=¬ p)
 /\ (∀{b:Bool},((!b)=true)=(b=false))
 /\ (∀{a b:Prop},(if True then a else b)=a)
 /\ (∀{a b:Prop},(if False then a else b)=b)
 /\ (∀{a b:Prop},(if true=true then a else b)=a)
 /\ (∀{a b:Prop},(if false=true then a else b)=b)
 /\ (∀{α:Type} {a b:α},(if True then a else b)=a)
 /\ (∀{α:Type} {a b:α},(if False then a else b)=b)
 /\ ((true=false)=False)/\((false=true)=False)/\((true=true)=True)/\((false=false)=True)/\((¬ True)=False)/\((¬ False)=True):=by
 refine ⟨rfl,rfl,rfl,rfl,rfl,rfl,rfl,rfl,rfl,rfl,?_,rfl,rfl,?_,?_,?_,rfl,rfl,rfl,rfl,rfl,rfl,by simp,by simp,by simp,by simp,by simp,by simp⟩
 ·intros;rfl
 ·intro p _;simp
 ·intro p _;simp
 ·intro b;simp
theorem M:(∀{f:SE} {σ:DS} {st:Store} {Q:Option Int->Store->Prop},WP (pSome f σ st) Q=WP (f σ st) (fun v st1=>∃i,v=.int i/\Q (some i) st1))
 /\ (∀{σ:DS} {st:Store} {Q:Option Int->Store->Prop},WP (pNone σ st) Q=Q none st)
 /\ (∀{f:SE} {lo hi:DS->Store->Res (Option Int)} {σ:DS} {st:Store} {Q:D->Store->Prop},WP (eSl f lo hi σ st) Q=WP (f σ st) (fun x st1=>WP (lo σ st1) (fun l st2=>WP (hi σ st2) (fun h st3=>(∃xs,x=.tup xs/\Q (.tup (cutD xs l h)) st3)\/(∃xs,asL st3 x=some xs/\Q (.lst (cutD xs l h)) st3)))))
 /\ (∀{f:SE} {σ:DS} {st:Store} {Q:D->Store->Prop},WP (eFz f σ st) Q=WP (f σ st) (fun x st1=>∃n xs,x=.ref n/\st1[n]?=some (.lst xs)/\Q (.lst xs) (st1.set n .dead)))
 /\ (∀{f g h:SE} {σ:DS} {st:Store} {Q:Fl->Store->Prop},WP (sSetIx f g h σ st) Q=WP (h σ st) (fun v st1=>WP (f σ st1) (fun x st2=>WP (g σ st2) (fun y st3=>∃n k xs j,x=.ref n/\y=.int k/\st3[n]?=some (.lst xs)/\ixN xs.length k=some j/\Q (.nx σ) (st3.set n (.lst (xs.set j v)))))))
 /\ (∀{f:SE} {g:SA} {σ:DS} {st:Store} {Q:D->Store->Prop},WP (eAppend f g σ st) Q=WP (f σ st) (fun x st1=>∃n xs0,x=.ref n/\st1[n]?=some (.lst xs0)/\WP (g σ st1) (fun ys st2=>∃y xs,ys=[y]/\st2[n]?=some (.lst xs)/\xs.length < sizeLine/\Q .non (st2.set n (.lst (xs++[y]))))))
 /\ (∀{x:D} {st:Store} {Q:D->Store->Prop},WP (bSum [x] st) Q=∃ns,(seqOf st x).bind asInts=some ns/\Q (.int ns.sum) st)
 /\ (∀{x:D} {al:Bool} {st:Store} {Q:D->Store->Prop},WP (bAny al [x] st) Q=∃bs,(asL st x).bind asBools=some bs/\Q (.bl (if al then bs.all id else bs.any id)) st)
 /\ (∀{x:D} {gt:Bool} {st:Store} {Q:D->Store->Prop},WP (bBest gt [x] st) Q=∃n ns,(seqOf st x).bind asInts=some (n::ns)/\Q (.int (bestI gt n ns)) st)
 /\ (∀{g:SA} {σ:DS} {st:Store} {Q:List D->Store->Prop},WP (iZipT g σ st) Q=WP (g σ st) (fun xs st1=>∃a b,xs=[.tup a,.tup b]/\Q (pairsF a b) st1))
 /\ (∀{i:Nat} {g:D->D->Store->Res D} {f:SE} {σ:DS} {st:Store} {Q:Fl->Store->Prop},WP (sAug i g f σ st) Q=∃x,σ[i]?=some (some x)/\WP (f σ st) (fun y st1=>WP (g x y st1) (fun z st2=>Q (.nx (σ.set i (some z))) st2))):=by
 refine ⟨?_,rfl,?_,?_,?_,?_,?_,?_,?_,?_,?_⟩
 ·intros;rw[zsl,zg];congr;funext x st1
  cases x<;>simp[WP]
 ·intros;rw[zbbe,zg];congr;funext x st1;rw[zg];congr;funext l st2;rw[zg];congr;funext h st3
  apply propext;split
  ·constructor
   ·intro q;exact .inl ⟨_,rfl,q⟩
   ·rintro (⟨xs,e,q⟩ | ⟨xs,e,q⟩)
    ·cases e;exact q
    ·cases e
  ·rename_i hne;constructor
   ·intro q;split at q
    ·rename_i xs e;exact .inr ⟨xs,e,q⟩
    ·exact q.elim
   ·rintro (⟨xs,e,q⟩ | ⟨xs,e,q⟩)
    ·exact absurd e (hne xs)
    ·rw[e];exact q
 ·intros;rw[zbbi,zg];congr;funext x st1
  apply propext;constructor
  ·intro q;split at q
   ·split at q
    ·rename_i xs e;exact ⟨_,xs,rfl,e,q⟩
    ·exact q.elim
   ·exact q.elim
  ·rintro ⟨n,xs,rfl,e,q⟩;dsimp only;rw[e];exact q
 ·intros;rw[zon,zg];congr;funext v st1;rw[zg];congr;funext x st2;rw[zg];congr;funext y st3
  apply propext;constructor
  ·intro q;split at q
   ·split at q
    ·split at q
     ·exact ⟨_,_,_,_,rfl,rfl,by assumption,by assumption,q⟩
     ·exact q.elim
    ·exact q.elim
   ·exact q.elim
  ·rintro ⟨n,k,xs,j,rfl,rfl,e1,e2,q⟩;dsimp only;rw[e1];dsimp only;rw[e2];exact q
 ·intros;rw[zmp,zg];congr;funext x st1
  apply propext;constructor
  ·intro q;split at q
   ·rename_i n xs0 e;rw[zg] at q;have e':st1[n]?=some (.lst xs0):=by
     unfold asL at e;dsimp only at e;split at e
     ·cases e;assumption
     ·cases e
    refine ⟨n,xs0,rfl,e',q.mono fun ys st2 h=>?_⟩;split at h
    ·split at h
     ·exact ⟨_,_,rfl,by assumption,by assumption,h⟩
     ·exact h.elim
    ·exact h.elim
   ·exact q.elim
  ·rintro ⟨n,xs0,rfl,e,q⟩;rw[zkx e];dsimp only;rw[zg];refine q.mono fun ys st2 h=>?_
   obtain ⟨y,xs,rfl,e2,hl,h⟩:=h;rw[e2];dsimp only;rw[if_pos hl];exact h
 ·intro x st Q;unfold bSum;dsimp only;cases h:(seqOf st x).bind asInts with
  | none=>simp[WP]
  | some ns=>simp[WP]
 ·intro x al st Q;unfold bAny;dsimp only;cases h:(asL st x).bind asBools with
  | none=>simp[WP]
  | some ns=>simp[WP]
 ·intro x gt st Q;unfold bBest;dsimp only;cases h:(seqOf st x).bind asInts with
  | none=>simp[WP]
  | some ns =>
   cases ns with
   | nil=>simp[WP]
   | cons n ns =>
    apply propext;constructor
    ·intro q;exact ⟨_,_,rfl,q⟩
    ·rintro ⟨a,b,e,q⟩;cases e;exact q
 ·intro g σ st Q;unfold iZipT;rw[zg];congr;funext x st1
  apply propext;constructor
  ·intro q;split at q
   ·exact ⟨_,_,rfl,q⟩
   ·exact q.elim
  ·rintro ⟨a,b,rfl,q⟩;exact q
 ·intro i g f σ st Q;rw[zvy];apply propext;constructor
  ·intro q;split at q
   ·rename_i x e;rw[zg] at q;exact ⟨x,e,q.mono fun y st1 h=>by rw[zg] at h;exact h⟩
   ·exact q.elim
  ·rintro ⟨x,e,q⟩;rw[e];dsimp only;rw[zg];exact q.mono fun y st1 h=>by rw[zg];exact h
theorem N:(∀{xs:List D} {P:List D->Prop},(∃ys,D.tup xs=D.tup ys/\P ys)=P xs)
 /\ (∀{i:Int} {P:Int->Prop},(∃j,D.int i=D.int j/\P j)=P i)
 /\ (∀{xs:List D} {st:Store} {P:List D->Prop},(∃ys,asL st (.tup xs)=some ys/\P ys)=False)
 /\ (∀{xs:List D} {st:Store} {P:List D->Prop},(∃ys,asL st (.lst xs)=some ys/\P ys)=P xs)
 /\ (∀{xs:List D} {P:List D->Prop},(∃ys,seqV (.tup xs)=some ys/\P ys)=P xs)
 /\ (∀{xs:List D} {P:List D->Prop},(∃ys,seqV (.lst xs)=some ys/\P ys)=P xs)
 /\ (∀{b:Bool} {st:Store} {P:Bool->Prop},(∃c,tru st (.bl b)=some c/\P c)=P b)
 /\ (∀{i:Int} {P:Int->Prop},(∃j,[D.int i]=[D.int j]/\P j)=P i)
 /\ (∀{i j:Int} {P:Int->Int->Prop},(∃k l,[D.int i,D.int j]=[D.int k,D.int l]/\P k l)=P i j)
 /\ (∀{x:D} {P:D->Prop},(∃y,[x]=[y]/\P y)=P x)
 /\ (∀{a b:List D} {P:List D->List D->Prop},(∃c d,[D.tup a,D.tup b]=[.tup c,.tup d]/\P c d)=P a b)
 /\ (∀{p:Prop},(p\/False)=p)/\(∀{p:Prop},(True/\p)=p):=by
 refine ⟨?_,?_,?_,?_,?_,?_,?_,?_,?_,?_,?_,by simp,by simp⟩
 ·intros;apply propext;exact ⟨fun ⟨_,e,p⟩=>by cases e;exact p,fun p=>⟨_,rfl,p⟩⟩
 ·intros;apply propext;exact ⟨fun ⟨_,e,p⟩=>by cases e;exact p,fun p=>⟨_,rfl,p⟩⟩
 ·intros;apply propext;exact ⟨fun ⟨_,e,p⟩=>(by cases e),fun p=>p.elim⟩
 ·intros;apply propext;exact ⟨fun ⟨_,e,p⟩=>by cases e;exact p,fun p=>⟨_,rfl,p⟩⟩
 ·intros;apply propext;exact ⟨fun ⟨_,e,p⟩=>by cases e;exact p,fun p=>⟨_,rfl,p⟩⟩
 ·intros;apply propext;exact ⟨fun ⟨_,e,p⟩=>by cases e;exact p,fun p=>⟨_,rfl,p⟩⟩
 ·intros;apply propext;exact ⟨fun ⟨_,e,p⟩=>by cases e;exact p,fun p=>⟨_,rfl,p⟩⟩
 ·intros;apply propext;exact ⟨fun ⟨_,e,p⟩=>by cases e;exact p,fun p=>⟨_,rfl,p⟩⟩
 ·intros;apply propext;exact ⟨fun ⟨_,_,e,p⟩=>by cases e;exact p,fun p=>⟨_,_,rfl,p⟩⟩
 ·intros;apply propext;exact ⟨fun ⟨_,e,p⟩=>by cases e;exact p,fun p=>⟨_,rfl,p⟩⟩
 ·intros;apply propext;exact ⟨fun ⟨_,_,e,p⟩=>by cases e;exact p,fun p=>⟨_,_,rfl,p⟩⟩
section
variable {st:Store} {n:Nat} {Q:D->Store->Prop}
theorem znl {m:Int} (hb:BagAt st n) (h1:1<=m) (h2:m<=1000000) (k:∀r st',0<=r->r < m->Drew st st' n->Q (.int r) st'):WP (zbi [.ref n,.int m] st) Q:=by
 obtain ⟨r,st',e,a1,a2,a3,_⟩:=zrq hb h1 (Int.lt_of_le_of_lt h2 (by decide +kernel));exact WP.of e (k r st' a1 a2 a3)
theorem zrc {x:D} {xs:List D} {i:Int} {d:D} (h:seqOf st x=some xs) (h2:L2.atI xs i=some d) (q:Q d st):WP (oIx x (.int i) st) Q:=WP.of (ziz h h2) q
theorem zsf {xs:List D} {i:Int} (h0:0<=i) (h1:i < xs.length) (q:∀d∈xs,Q d st):WP (oIx (.lst xs) (.int i) st) Q:=by
 obtain ⟨j,rfl⟩:=xfc h0;have hj:j < xs.length:=by lia
 exact zrc (xs:=xs) (d:=xs[j]) rfl (zga (xbi hj)) (q _ (xed hj))
theorem zyw {ns:List Int} {i:Nat} (hl:ns.length<=63) (hi:i<=100000) (k:∀g,BagAt (st++g) st.length->Q (.ref st.length) (st++g)):WP (zci [.scr (ns.map .int),.int i] st) Q:=by
 obtain ⟨c,x,hc,hx,e⟩:=zyx (st:=st) hl hi;exact WP.of e (k _ ⟨c,x,by simp,hc,hx⟩)
end
noncomputable def WX {α:Type} (r:Res α) (Q:α->Store->Prop) (E:Exc->Store->Prop):Prop:=match r with
 | .ok a st=>Q a st
 | .exc x st=>E x st
 | .stuck=>False
theorem WX.wp {α:Type} {r:Res α} {Q:α->Store->Prop} (h:WX r Q fun _ _=>False):WP r Q:=by
 cases r<;>exact h
theorem zvm {α:Type} {f:DS->Store->Res α} {σ:DS} {st:Store} {Q:α->Store->Prop}:WP (noX f σ st) Q=WP (f σ st) Q:=by
 unfold noX;cases f σ st<;>rfl
theorem zoe {α:Type} {f:DS->Store->Res α} {σ:DS} {st:Store} {Q:α->Store->Prop} {E:Exc->Store->Prop}:WX (noX f σ st) Q E=WP (f σ st) Q:=by
 unfold noX;cases f σ st<;>rfl
theorem zhn {α β:Type} {f:DS->Store->Res α} {σ:DS} {st:Store} {g:α->Store->Res β} {Q:β->Store->Prop} {E:Exc->Store->Prop}:WX ((noX f σ st).bind g) Q E=WP (f σ st) (fun a st1=>WX (g a st1) Q E):=by
 unfold noX;cases f σ st<;>rfl
noncomputable def seqX (t:SS) (Q:Fl->Store->Prop) (E:Exc->Store->Prop):Fl->Store->Prop:=fun fl st=>match fl with
 | .nx σ=>WX (t σ st) Q E
 | fl=>Q fl st
theorem VX:(∀{α:Type} {f:DS->Store->Res α} {σ:DS} {st:Store} {Q:α->Store->Prop},WP (noX f σ st) Q=WP (f σ st) Q)
 /\ (∀{f:SE} {σ:DS} {st:Store} {Q:D->Store->Prop} {E:Exc->Store->Prop},WX (noX f σ st) Q E=WP (f σ st) Q)
 /\ (∀{f:SS} {σ:DS} {st:Store} {Q:Fl->Store->Prop} {E:Exc->Store->Prop},WX (noX f σ st) Q E=WP (f σ st) Q)
 /\ (∀{s t:SS} {σ:DS} {st:Store} {Q:Fl->Store->Prop} {E:Exc->Store->Prop},WX (sSeq s t σ st) Q E=WX (s σ st) (seqX t Q E) E)
 /\ (∀{t:SS} {σ:DS} {st:Store} {Q:Fl->Store->Prop} {E:Exc->Store->Prop},seqX t Q E (.nx σ) st=WX (t σ st) Q E)
 /\ (∀{t:SS} {v:D} {st:Store} {Q:Fl->Store->Prop} {E:Exc->Store->Prop},seqX t Q E (.ret v) st=Q (.ret v) st)
 /\ (∀{c:ST} {s t:SS} {σ:DS} {st:Store} {Q:Fl->Store->Prop} {E:Exc->Store->Prop},WX (sIf (noX c) s t σ st) Q E=WP (c σ st) (fun b st1=>if b=true then WX (s σ st1) Q E else WX (t σ st1) Q E))
 /\ (∀{c:Str} {g:SA} {σ:DS} {st:Store} {Q:Fl->Store->Prop} {E:Exc->Store->Prop},WX (sRaise c (noX g) σ st) Q E=WP (g σ st) (fun xs st1=>xs.length<=sizeLine/\E ⟨c,[]⟩ st1))
 /\ (∀{F:DFn} {g:SA} {σ:DS} {st:Store} {Q:D->Store->Prop} {E:Exc->Store->Prop},WX (eCall F (noX g) σ st) Q E=WP (g σ st) (fun xs st1=>WX (F xs st1) Q E))
 /\ (∀{f:SE} {σ:DS} {st:Store} {Q:Fl->Store->Prop} {E:Exc->Store->Prop},WX (sRet f σ st) Q E=WX (f σ st) (fun v st1=>Q (.ret v) st1) E)
 /\ (∀{f:SE} {σ:DS} {st:Store} {Q:Fl->Store->Prop} {E:Exc->Store->Prop},WX (sDrop f σ st) Q E=WX (f σ st) (fun v st1=>Q (.nx σ) st1) E)
 /\ (∀{i:Nat} {f:SE} {σ:DS} {st:Store} {Q:Fl->Store->Prop} {E:Exc->Store->Prop},WX (sSet i f σ st) Q E=WX (f σ st) (fun v st1=>Q (.nx (σ.set i (some v))) st1) E)
 /\ (∀{it:SA} {bd:SG} {b:SS} {σ:DS} {st:Store} {Q:Fl->Store->Prop} {E:Exc->Store->Prop},WX (sFor (noX it) bd b σ st) Q E=WP (it σ st) (fun xs st1=>WX (forF bd b xs σ st1) Q E))
 /\ (∀{i:Nat} {cs:List Str} {b u:SS} {σ:DS} {st:Store} {Q:Fl->Store->Prop},WP (sTry i cs b u σ st) Q=WX (b σ st) Q (fun x st1=>x.cls∈cs/\WP (u (σ.set i (some (.exn x.cls x.at_))) st1) (fun fl st2=>match fl with | .ret v=>Q (.ret v) st2 | _=>False))):=by
 refine ⟨zvm,zoe,zoe,?_,rfl,rfl,?_,?_,?_,?_,?_,?_,?_,?_⟩
 ·intro s t σ st Q E;unfold sSeq;cases s σ st with
  | ok fl st1=>cases fl<;>rfl
  | exc x st=>rfl
  | stuck=>rfl
 ·intro c s t σ st Q E;show WX ((noX c σ st).bind _) Q E=_;rw[zhn]
  congr;funext b st1
  split<;>rfl
 ·intro c g σ st Q E;show WX ((noX g σ st).bind _) Q E=_;rw[zhn]
  congr;funext xs st1
  by_cases h:xs.length<=sizeLine
  ·rw[if_pos h];simp[WX,h]
  ·rw[if_neg h];simp[WX,h]
 ·intro F g σ st Q E;exact zhn
 ·intro f σ st Q E;unfold sRet;cases f σ st<;>rfl
 ·intro f σ st Q E;unfold sDrop;cases f σ st<;>rfl
 ·intro i f σ st Q E;unfold sSet;cases f σ st<;>rfl
 ·intro it bd b σ st Q E;exact zhn
 ·intro i cs b u σ st Q;unfold sTry;cases b σ st with
  | ok fl st1=>rfl
  | stuck=>rfl
  | exc x st1 =>
   show WP (if x.cls∈cs then _ else _) Q=(x.cls∈cs/\_)
   by_cases h:x.cls∈cs
   ·rw[if_pos h];simp only[h,true_and];cases u (σ.set i (some (.exn x.cls x.at_))) st1 with
    | ok fl st2=>cases fl<;>rfl
    | exc _ _=>rfl
    | stuck=>rfl
   ·rw[if_neg h];simp[WP,h]
theorem zbac {n np:Nat} {b:SS} {ds:List D} {st:Store} {Q:D->Store->Prop} {E:Exc->Store->Prop} (h:ds.length=np) (k:WX (b (ds.map some++List.replicate (n - np) none) st) (retK Q) E):WX (fnD n np b ds st) Q E:=by
 unfold fnD;rw[if_pos h];revert k;cases b (ds.map some++List.replicate (n - np) none) st with
 | ok fl st'=>cases fl<;>first | exact fun q=>q | exact fun q=>q.elim
 | exc x st'=>exact fun q=>q
 | stuck=>exact fun q=>q
theorem zfq {α:Type} (l:List α):(l.filter fun _=>true)=l:=List.filter_eq_self.mpr (by simp)
section
variable {st:Store} {n:Nat} {Q:D->Store->Prop}
end
section
variable {st:Store} {n:Nat} {Q:D->Store->Prop}
end
section
variable {S:D} {v1 v2 v5 v6 v7 v8:Option D} {N:Int} {l:List (List Int)} {st:Store} {I:DS->Store->Prop} {Q:Fl->Store->Prop}
end
end Dd
namespace K61
end K61
namespace Dd
open PySem L2
inductive Pl (k:Nat):D->Prop
 | non:Pl k .non
 | bl (b:Bool):Pl k (.bl b)
 | int (i:Int):Pl k (.int i)
 | str (x:Str):Pl k (.str x)
 | tup {ds:List D} (h:∀d∈ds,Pl k d) (hl:ds.length<=k):Pl k (.tup ds)
 | lst {ds:List D} (h:∀d∈ds,Pl k d) (hl:ds.length<=k):Pl k (.lst ds)
noncomputable def wholeB:D->Bool
 | .int _=>true
 | _=>false
section
variable {k:Nat} {d:D} {st:Store}
theorem zdl (h:Pl k d):zt [d] st=.ok (.bl (wholeB d)) st:=by
 cases h<;>rfl
end
section
variable {k:Nat} {d:D} {st:Store} {Q:D->Store->Prop}
end
section
variable {k:Nat} {d:D} {st:Store} {Q:D->Store->Prop}
end
section
variable {st:Store} {n:Nat} {Q:D->Store->Prop}
end
section
variable {st:Store} {n:Nat} {Q:D->Store->Prop}
end
section
variable {st:Store} {n:Nat} {Q:D->Store->Prop}
end
end Dd
namespace K03
end K03
namespace K13
open PySem PyProof.Rows
end K13
namespace Dd
open PySem L2 K13
theorem zof {c:ST} {body:SS} {Q:Fl->Store->Prop} (I:Nat->DS->Store->Prop) {k:Nat} {σ:DS} {st:Store} (h0:I k σ st) (hm:k < 1000000)
  (s:∀j σ st,I j σ st->WP (c σ st) (fun b st1=>if b=true then WP (body σ st1) (loopK (fun σ2 st2=>∃i,i < j/\I i σ2 st2) Q) else Q (.nx σ) st1)):WP (sWhile c body σ st) Q:=by
 have main:∀n j σ st,I j σ st->j < n->WP (whileF c body n σ st) Q:=by
  intro n
  induction n with
  | zero=>intro j σ st _ h;lia
  | succ n ih =>
   intro j σ st hI hlt;obtain ⟨b,st1,e1,w⟩:=(s j σ st hI).get;unfold whileF;rw[e1];dsimp only [zfj];cases b with
   | false=>exact w
   | true =>
    rw[if_pos rfl] at w ⊢;obtain ⟨fl,st2,e2,w⟩:=w.get;rw[e2];cases fl with
    | nx σ2=>obtain ⟨i,hi,h⟩:=w;exact ih i σ2 st2 h (by lia)
    | ct σ2=>obtain ⟨i,hi,h⟩:=w;exact ih i σ2 st2 h (by lia)
    | brk σ2=>exact w
    | ret v=>exact w
 exact main wCap k σ st h0 hm
section
variable {st:Store} {n:Nat} {Q:D->Store->Prop}
end
section
variable {st:Store} {n:Nat} {Q:D->Store->Prop}
end
section
variable {st:Store} {n:Nat} {Q:D->Store->Prop}
end
end Dd
namespace K13
end K13
namespace Dd
open PySem L2 K13
theorem zlc {f:SE} {g:SA} {σ:DS} {st:Store} {Q:D->Store->Prop}:WP (eExtend f g σ st) Q=WP (f σ st) (fun x st1=>∃n xs0,x=.ref n/\st1[n]?=some (.lst xs0)/\WP (g σ st1) (fun ys st2=>∃y xs zs,ys=[y]/\st2[n]?=some (.lst xs)/\asL st2 y=some zs/\xs.length+zs.length<=sizeLine/\Q .non (st2.set n (.lst (xs++zs))))):=by
 rw[zmo,zg]
 congr
 funext x st1
 apply propext;constructor
 ·intro q;split at q
  ·rename_i n xs0 e;rw[zg] at q;have e':st1[n]?=some (.lst xs0):=by
    unfold asL at e;dsimp only at e;split at e
    ·cases e;assumption
    ·cases e
   refine ⟨n,xs0,rfl,e',q.mono fun ys st2 h=>?_⟩;split at h
   ·split at h
    ·split at h
     ·exact ⟨_,_,_,rfl,by assumption,by assumption,by assumption,h⟩
     ·exact h.elim
    ·exact h.elim
   ·exact h.elim
  ·exact q.elim
 ·rintro ⟨n,xs0,rfl,e,q⟩;rw[zkx e];dsimp only;rw[zg];refine q.mono fun ys st2 h=>?_
  obtain ⟨y,xs,zs,rfl,e2,e3,hl,h⟩:=h;rw[e2];dsimp only;rw[e3];dsimp only;rw[if_pos hl];exact h
section
variable {st:Store} {n:Nat} {Q:D->Store->Prop}
end
end Dd
namespace Dd
open PySem L2
section
variable {k:Nat} {d:D} {st:Store}
end
section
variable {st:Store} {Q:D->Store->Prop}
end
section
variable {st:Store} {k:Nat} {d:D} {m:Int} {Q:D->Store->Prop}
end
theorem zrf {G:Store->Prop} {bd:SG} {b:SS} {E:Exc->Store->Prop} {Q:Fl->Store->Prop} (I:List D->DS->Store->Prop) (g:∀xs σ st,I xs σ st->G st) (turn:∀x xs σ st,I (x::xs) σ st->∃σ1,bd x σ=some σ1/\WX (b σ1 st) (fun fl st1=>match fl with | .nx σ2=>I xs σ2 st1 | .ct σ2=>I xs σ2 st1 | .brk σ2=>Q (.nx σ2) st1 | .ret v=>Q (.ret v) st1) E)
  (done:∀σ st,I [] σ st->Q (.nx σ) st):∀xs σ st,I xs σ st->WX (forG G bd b xs σ st) Q E:=by
 intro xs
 induction xs with
 | nil=>exact fun σ st h=>by unfold forG;rw[if_pos (g _ _ _ h)];exact done σ st h
 | cons x xs ih =>
  intro σ st h;obtain ⟨σ1,e,w⟩:=turn x xs σ st h;unfold forG;rw[if_pos (g _ _ _ h),e];dsimp only;revert w;cases b σ1 st with
  | stuck=>exact fun w=>w
  | exc y st1=>exact fun w=>w
  | ok fl st1 =>
   cases fl with
   | nx σ2=>exact fun w=>ih σ2 st1 w
   | ct σ2=>exact fun w=>ih σ2 st1 w
   | brk σ2=>exact fun w=>w
   | ret v=>exact fun w=>w
theorem zrg {en:Bool} {f:SE} {bd:SG} {b:SS} {σ:DS} {st:Store} {Q:Fl->Store->Prop} {E:Exc->Store->Prop} {n:Nat} {xs:List D} (hf:f σ st=.ok (.ref n) st) (hn:st[n]?=some (.lst xs)) (h:WX (forG (LsIs n xs) bd b (if en then numF 0 xs else xs) σ st) Q E):WX (sForA en (noX f) bd b σ st) Q E:=by
 unfold sForA noX;rw[hf]
 show WX (match st[n]? with
  | some (.lst xs)=>forG (LsIs n xs) bd b (if en then numF 0 xs else xs) σ st
  | _=>.stuck) Q E
 rw[hn];exact h
theorem zoh {f:SE} {σ:DS} {st:Store} {n:Nat} {xs:List D} {Q:D->Store->Prop} (hf:f σ st=.ok (.ref n) st) (hn:st[n]?=some (.lst xs)) (q:Q .non (st.set n (.lst []))):WP (eClear f σ st) Q:=by
 unfold eClear;rw[hf]
 show WP (match st[n]? with
  | some (.lst _)=>Res.ok D.non (st.set n (.lst []))
  | _=>.stuck) Q
 rw[hn];exact q
noncomputable def Sh (n:Nat) (d:D):Prop:=∃p,toData d=some p/\p.canLay0=true/\p.depth<=n
theorem Sh.int {n:Nat} {i:Int}:Sh n (.int i):=⟨_,rfl,rfl,xdh _⟩
theorem Sh.str {n:Nat} {x:Str} (h:(PyData.str x).canLay0=true):Sh n (.str x):=⟨_,rfl,h,xdh _⟩
theorem Sh.all {n:Nat}:∀{ds:List D},(∀d∈ds,Sh n d)->∃ps,toDatas ds=some ps/\PyData.canLayAll0 ps=true/\PyData.depthAll ps<=n
 | [],_=>⟨[],rfl,rfl,xdh _⟩
 | d::ds,h=>by
  obtain ⟨p,e,h1,h2⟩:=h d (by simp);obtain ⟨ps,es,h3,h4⟩:=Sh.all (ds:=ds) fun x hx=>h x (by simp[hx])
  refine ⟨p::ps,by rw[toDatas,e,es];rfl,?_,?_⟩
  ·show (p.canLay0 && PyData.canLayAll0 ps)=true;rw[h1,h3];rfl
  ·show max p.depth (PyData.depthAll ps)<=n;lia
theorem Sh.tup {n:Nat} {ds:List D} (h:∀d∈ds,Sh n d):Sh (n+1) (.tup ds):=by
 obtain ⟨ps,e,h1,h2⟩:=Sh.all h;exact ⟨.tuple ps,by rw[toData,e];rfl,h1,xdl h2⟩
theorem Sh.lst {n:Nat} {ds:List D} (h:∀d∈ds,Sh n d):Sh (n+1) (.lst ds):=by
 obtain ⟨ps,e,h1,h2⟩:=Sh.all h;exact ⟨.list ps,by rw[toData,e];rfl,h1,xdl h2⟩
theorem Sh.mono {n m:Nat} (h:n<=m) {d:D} (s:Sh n d):Sh m d:=by
 obtain ⟨p,e,h1,h2⟩:=s;exact ⟨p,e,h1,xbb h2 h⟩
theorem Sh.row {n:Nat} {r:List Int}:Sh (n+1) (rowD r):=Sh.tup fun d hd=>by
 obtain ⟨x,_,rfl⟩:=xfg.mp hd;exact .int
theorem Sh.ok {d:D} {p:PyData} (e:toData d=some p) (h1:p.canLay0=true) (h2:p.depth<=64):PySem.SeqAt.shaped p=true/\PyData.eqv p p=true:=by
 refine ⟨?_,PySem.SeqAt.eqv_refl p h1⟩;show (p.canLay0 && decide (p.depth<=64))=true;rw[h1,xdc h2];rfl
theorem znx {neg:Bool} {x y d:D} {st:Store} (hx:now st x=d) (hy:now st y=d) (h:Sh 64 d):oEqG neg x y st=.ok (.bl (!neg)) st:=by
 obtain ⟨p,e,h1,h2⟩:=h;obtain ⟨s1,s2⟩:=Sh.ok e h1 h2;unfold oEqG dataOf;rw[hx,hy,e];dsimp only;rw[if_pos ⟨s1,s1⟩,s2];cases neg<;>rfl
theorem zss {st:Store} {n:Nat} {xs:List D} (h:st[n]?=some (.lst xs)):now st (.ref n)=.lst xs:=by
 unfold now;rw[show asL st (.ref n)=some xs from by unfold asL;dsimp only;rw[h]]
section
variable {st:Store} {n m:Nat} {Q:D->Store->Prop}
end
noncomputable def stF:Nat->Int->Int->List (List Int)
 | 0,_,_=>[]
 | f+1,r,most=>if r=0 then [[]] else (List.range (if most < r then most else r).toNat).flatMap fun i:Nat=>(stF f (r - ((i:Int)+1)) (((i:Int)+1) / 2)).map fun w=>((i:Int)+1)::w
theorem zrs:∀f∈List.range 8,∀r∈List.range 17,∀m∈List.range 17,(stF f r m).length<=100:=by decide +kernel
theorem zjj {f:Nat} {r m:Int} (hf:f<=7) (h0:0<=r) (h1:r<=16) (h2:0<=m) (h3:m<=16):(stF f r m).length<=100:=by
 obtain ⟨a,rfl⟩:=xfc h0;obtain ⟨b,rfl⟩:=xfc h2;exact zrs f (xde.mpr (by lia)) a (xde.mpr (by lia)) b (xde.mpr (by lia))
theorem zji:∀(f:Nat) (r m:Int) (w:List Int),w∈stF f r m->w.length<=f
 | 0,_,_,_,h=>by simp[stF] at h
 | f+1,r,m,w,h=>by
  unfold stF at h;split at h
  ·rw[xbs] at h;rw[h];exact xdh _
  ·obtain ⟨i,_,h⟩:=List.mem_flatMap.mp h;obtain ⟨u,hu,rfl⟩:=xfg.mp h;exact xdl (zji f _ _ u hu)
theorem zia {α β:Type} (g:α->List β) (l:List α) (i:Nat):((l.take i).flatMap g).length<=(l.flatMap g).length:=by
 have:=congrArg (fun m=>(m.flatMap g).length) (xes i l);simp only[xgx,xbx] at this;lia
theorem zcp {st:Store} (o:O) (g:Store):(st++o::g)[st.length]?=some o:=by simp
theorem zfk {st:Store} (o o':O) (g:Store):(st++o::g).set st.length o'=st++o'::g:=by simp
theorem zdn:∀(f:Nat),f<=7->∀{r m:Int} {st:Store} {Q:D->Store->Prop},0<=r->r<=16->0<=m->m<=16->m < 2 ^ (f - 1)->1<=f ->
  (∀g,Q (.ref st.length) (st++.lst (rowsD (stF f r m))::g))->WP (iterF zn f [.int r,.int m] st) Q
 | 0,_,_,_,_,_,_,_,_,_,_,h,_=>absurd h (by lia)
 | f+1,hf,r,m,st,Q,h0,h1,h2,h3,h4,_,k=>by
  show WP (zn (iterF zn f) [.int r,.int m] st) Q;have ih:=fun (hf:f<=7)=>@zdn f hf
  generalize iterF zn f=G at ih;unfold zn;refine zva rfl ?_;simp only[W,V];by_cases hr:r=0
  ·subst hr;rw[if_pos rfl];refine ⟨small _ (by simp),small _ (by simp),?_⟩;have:=k [];unfold stF at this;rw[if_pos rfl] at this;exact this
  ·rw[if_neg hr];have big:=zjj (f:=f+1) hf h0 h1 h2 h3;unfold stF at big;rw[if_neg hr] at big;have kk:∀g,Q (.ref st.length) (st++.lst (rowsD ((List.range (if m < r then m else r).toNat).flatMap fun i:Nat=>(stF f (r - ((i:Int)+1)) (((i:Int)+1) / 2)).map fun w=>((i:Int)+1)::w))::g):=fun g=>by
    have:=k g;unfold stF at this;rw[if_neg hr] at this;exact this
   have hc:(if m < r then m else r).toNat<=16/\((if m < r then m else r).toNat:Int)<=r/\((if m < r then m else r).toNat:Int)<=m:=by split<;>lia
   generalize hcc:(if m < r then m else r).toNat=c at hc big kk;refine ⟨small _ (by simp),_,_,rfl,rngN (by lia) (by lia),rngN (by split<;>lia) (by split<;>lia),?_⟩;have ec:((if m < r then m else r)+1 - 1).toNat=c:=by rw[← hcc];congr 1;lia
   rw[ec];refine zis (fun i σ s=>i<=c/\∃v g,σ=[some (.int r),some (.int m),some (.ref st.length),v]/\s=st++.lst (rowsD (((List.range c).take i).flatMap fun i:Nat=>(stF f (r - ((i:Int)+1)) (((i:Int)+1) / 2)).map fun w=>((i:Int)+1)::w))::g) ⟨xdh _,_,[],rfl,rfl⟩ ?_ ?_
   ·rintro i x σ s hx ⟨hi,v,g,rfl,rfl⟩;obtain ⟨hi,rfl⟩:=zdq hx;refine ⟨_,rfl,?_⟩;unfold zcl;simp only[W,V,zlc];have e1:(1:Int)+i=(i:Int)+1:=by lia
    rw[e1];refine ⟨_,_,rfl,zcp _ _,?_⟩;simp only[W,V,M];have f1:1<=f:=by
     rcases Nat.eq_zero_or_pos f with z | z
     ·subst z;have:m < 1:=h4;lia
     ·exact z
    have h5:(((i:Int)+1) / 2) < 2 ^ (f - 1):=by
     obtain ⟨f',rfl⟩:∃f',f=f'+1:=⟨f - 1,by lia⟩
     have e2:(2:Int) ^ (f'+1+1 - 1)=2 * 2 ^ (f'+1 - 1):=by
      rw[xij,xij,Int.pow_succ];lia
     rw[e2] at h4;lia
    refine ⟨trivial,ztt (by lia) (by lia),ih (by lia) (by lia) (by lia) (by lia) (by lia) h5 f1 fun g'=>⟨_,_,rfl,zcp _ _,_,rfl,?_,?_⟩⟩
    ·have:=zjj (f:=f) (r:=r - ((i:Int)+1)) (m:=((i:Int)+1) / 2) (by lia) (by lia) (by lia) (by lia) (by lia);rw[zy];exact small _ (by lia)
    rw[zfk];refine zog (as:=stF f (r - ((i:Int)+1)) (((i:Int)+1) / 2)) (fun σ=>∃v,σ=[v,some (.int ((i:Int)+1))]) (fun _=>true) (fun w=>rowD (((i:Int)+1)::w)) rowD ⟨_,rfl⟩ ?_ ?_
    ·rintro w hw σ ⟨v,rfl⟩;refine ⟨_,rfl,⟨_,rfl⟩,by simp only[W,and_self],fun _=>?_⟩;simp only[W,V];refine ⟨small _ (by simp),small _ (by have:=zji _ _ _ _ hw;simp;lia),trivial,rfl⟩
    ·rw[zfq];have e3:st++O.lst (rowsD (((List.range c).take i).flatMap fun i:Nat=>(stF f (r - ((i:Int)+1)) (((i:Int)+1) / 2)).map fun w=>((i:Int)+1)::w))::g++O.dead::g'=st++O.lst (rowsD (((List.range c).take i).flatMap fun i:Nat=>(stF f (r - ((i:Int)+1)) (((i:Int)+1) / 2)).map fun w=>((i:Int)+1)::w))::(g++O.dead::g'):=by simp
     rw[e3];have e4:(List.range c).take (i+1)=(List.range c).take i++[i]:=by
      rw[List.take_range,List.take_range,xdq (by lia),xdq (by lia),xiy]
     have e5:((List.range c).take (i+1)).flatMap (fun i:Nat=>(stF f (r - ((i:Int)+1)) (((i:Int)+1) / 2)).map fun w=>((i:Int)+1)::w)=(((List.range c).take i).flatMap fun i:Nat=>(stF f (r - ((i:Int)+1)) (((i:Int)+1) / 2)).map fun w=>((i:Int)+1)::w)++(stF f (r - ((i:Int)+1)) (((i:Int)+1) / 2)).map fun w=>((i:Int)+1)::w:=by
      rw[e4,xgx];simp
     have b1:=zia (fun i:Nat=>(stF f (r - ((i:Int)+1)) (((i:Int)+1) / 2)).map fun w=>((i:Int)+1)::w) (List.range c) (i+1);rw[e5,xbx,xbk] at b1;refine ⟨_,_,_,rfl,zcp _ _,rfl,?_,by lia,_,g++O.dead::g',rfl,?_⟩
     ·rw[zy,xbk];exact small _ (by lia)
     ·rw[zfk,e5];unfold rowsD;rw[xjb,xfr]
      rfl
   ·rintro σ s ⟨hi,v,g,rfl,rfl⟩;rw[zcu,xgf (by simp)];simp only[W,V];exact kk g
noncomputable def hdI:List Int->Int
 | []=>0
 | x::_=>x
noncomputable def loI (w:List Int):Int:=2 * hdI w+if w=[] then 1 else 0
noncomputable def nextR (w:List Int):List (List Int):=(List.range (17 - w.sum - loI w).toNat).map fun j:Nat=>(loI w+(j:Int))::w
noncomputable def lev:Nat->List (List Int)
 | 0=>[[]]
 | k+1=>(lev k).flatMap nextR
noncomputable def dn:Nat->List (List Int)
 | 0=>[]
 | k+1=>dn k++lev k
noncomputable def buck (P:List (List Int)) (r:Nat):List (List Int):=P.filter fun w=>decide (w.sum=(r:Int))
theorem zsy:lev 5=[]:=by decide +kernel
theorem zsx:∀k∈List.range 6,(lev k).length<=200/\(∀w∈lev k,0<=w.sum/\w.sum<=16/\w.length<=5/\0<=hdI w/\hdI w<=16)/\(lev k=[]->dn k=dn 5):=by decide +kernel
theorem zts:∀k∈List.range 6,(dn k).length<=300:=by decide +kernel
noncomputable def upB:List (List Int)->Bool
 | []=>true
 | a::l=>l.all (fun b=>!HT.lexLt b a) && upB l
theorem zzm:∀{l:List (List Int)},upB l=true->UpR l
 | [],_=>.nil
 | a::l,h=>by
  unfold upB at h;rw[xfd,xhs] at h;exact .cons (fun b hb=>by have:=h.1 b hb;simpa using this) (zzm h.2)
theorem zqz:∀r∈List.range 17,(stF 7 r r).isPerm (buck (dn 5) r)=true/\upB (stF 7 r r)=true:=by decide +kernel
theorem zru {r:Nat} (h:r < 17):sortR (buck (dn 5) r)=stF 7 r r:=by
 obtain ⟨h1,h2⟩:=zqz r (xde.mpr h);exact (zgy (List.isPerm_iff.mp h1) (zzm h2)).symm
noncomputable def BK (P:List (List Int)):Store:=(List.range 17).map fun r:Nat=>O.lst (rowsD (buck P r))
theorem zdg (P:List (List Int)):(BK P).length=17:=by unfold BK;simp
theorem znh {P:List (List Int)} {r:Nat} (h:r < 17):(BK P)[r]?=some (.lst (rowsD (buck P r))):=by
 unfold BK;rw[xcg,xfw h];rfl
theorem zzi {P:List (List Int)} {w:List Int} {r:Nat} (h:r < 17) (hw:w.sum=(r:Int)):(BK P).set r (.lst (rowsD (buck P r)++[rowD w]))=BK (P++[w]):=by
 refine xhn fun i=>?_
 by_cases hi:i=r
 ·subst hi;rw[xdj (by rw[zdg];exact h),znh h];unfold buck;rw[xhh,List.filter_cons_of_pos (by simpa using hw)];simp[rowsD]
 ·rw[xcw (xeg hi)];rcases xec i 17 with z | z
  ·rw[znh z,znh z];unfold buck;rw[xhh,List.filter_cons_of_neg (by rw[xio,hw];lia)];simp
  ·rw[xfl (by rw[zdg];exact z),xfl (by rw[zdg];exact z)]
section
variable {st:Store} {Q:D->Store->Prop}
theorem zxi {P:List (List Int)} {g:Store} {r:Nat} (h:r < 17):(st++(BK P++g))[st.length+r]?=some (.lst (rowsD (buck P r))):=by
 rw[xbq (xbj _ _),xbo,xby (by rw[zdg];exact h),znh h]
theorem zvu {P:List (List Int)} {w:List Int} {g:Store} {r:Nat} (h:r < 17) (hw:w.sum=(r:Int)):(st++(BK P++g)).set (st.length+r) (.lst (rowsD (buck P r)++[rowD w]))=st++(BK (P++[w])++g):=by
 rw[xev _ _ (xbj _ _),xbo,List.set_append_left _ _ (by rw[zdg];exact h),zzi h hw]
noncomputable def refsF (b:Nat):List D:=(List.range 17).map fun r:Nat=>D.ref (b+r)
theorem zoo {b r:Nat} (h:r < 17):(refsF b)[r]?=some (.ref (b+r)):=by
 unfold refsF;rw[xcg,xfw h];rfl
theorem zjb {A P:List (List Int)} {g:Store} {v3 v4:Option D} {QQ:Fl->Store->Prop} (hA:A.length<=200) (hw:∀w∈A,0<=w.sum/\w.sum<=16/\w.length<=5/\0<=hdI w/\hdI w<=16) (hn:(A.flatMap nextR).length<=200) (hP:P.length+A.length<=1000)
  (k:∀v3 v4,QQ (.nx [some (.lst (refsF st.length)),some (.lst (rowsD A)),some (.ref (st.length+(17+g.length))),v3,v4]) (st++(BK (P++A)++(g++[.lst (rowsD (A.flatMap nextR))])))) :
  WP (forF (gN 3) zbw (rowsD A) [some (.lst (refsF st.length)),some (.lst (rowsD A)),some (.ref (st.length+(17+g.length))),v3,v4] (st++(BK P++(g++[.lst []])))) QQ:=by
 have fur:∀(P':List (List Int)) (o:O),(st++(BK P'++(g++[o])))[st.length+(17+g.length)]?=some o:=fun P' o=>by
  rw[xbq (xbj _ _),xbo,xbq (by rw[zdg];lia),zdg,xbo];simp
 have furS:∀(P':List (List Int)) (o o':O),(st++(BK P'++(g++[o]))).set (st.length+(17+g.length)) o'=st++(BK P'++(g++[o'])):=fun P' o o'=>by
  rw[xev _ _ (xbj _ _),xbo,xev _ _ (by rw[zdg];lia),zdg,xbo];simp
 refine zis (fun i σ s=>∃v3 v4:Option D,σ=[some (.lst (refsF st.length)),some (.lst (rowsD A)),some (.ref (st.length+(17+g.length))),v3,v4]/\s=st++(BK (P++A.take i)++(g++[.lst (rowsD ((A.take i).flatMap nextR))]))) ⟨_,_,rfl,by simp[rowsD]⟩ ?_ ?_
 ·rintro i x σ s hx ⟨v3,v4,rfl,rfl⟩;obtain ⟨w,hwA,rfl⟩:=zln hx;obtain ⟨w1,w2,w3,w4,w5⟩:=hw w (xcx hwA);refine ⟨_,rfl,?_⟩;unfold zbw;simp only[W,V,M];obtain ⟨r,hr2⟩:=xfc w1;have hr:r < 17:=by lia
  have hl:(A.take i).length<=A.length:=by rw[xea];exact xgn _ _
  refine ⟨w,zdd w,?_⟩;refine zrc (xs:=refsF st.length) (d:=.ref (st.length+r)) rfl (by rw[hr2];exact zga (zoo hr)) ?_;have bl:(buck (P++A.take i) r).length<=1000:=by
   refine xbb (List.length_filter_le _ _) ?_;rw[xbx];lia
  refine ⟨_,_,rfl,zxi hr,_,_,rfl,zxi hr,by rw[zy,xgu];lia,small _ (by simp),small _ (by simp;lia),?_⟩;rw[zvu hr hr2];refine zrc (xs:=w.map .int++[.int 0]) (d:=.int (hdI w)) rfl (by cases w with | nil=>rfl | cons a l=>exact zga (j:=0) rfl) ?_;simp only[W,V];refine ⟨.inl ⟨by lia,by lia⟩,small _ (by simp),?_⟩;refine WP.of (zsq w []) ?_;simp only[W,V];refine ⟨w,zdd w,trivial,_,_,rfl,?_,rngN (by lia) (by lia),?_⟩
  ·exact rngN (by split<;>lia) (by split<;>lia)
  show WP (forF (gN 4) zbx (rng (loI w) (17 - w.sum - loI w).toNat) _ _) _;have F0:((A.take i).flatMap nextR).length+(nextR w).length<=200:=by
   have:=zia nextR A (i+1);rw[zct hwA,xgx,xbx,List.flatMap_cons,List.flatMap_nil,xdo] at this;lia
  have nl:(nextR w).length=(17 - w.sum - loI w).toNat:=by unfold nextR;simp
  refine zis (fun j σ s=>∃v4:Option D,σ=[some (.lst (refsF st.length)),some (.lst (rowsD A)),some (.ref (st.length+(17+g.length))),some (rowD w),v4]/\s=st++(BK (P++A.take i++[w])++(g++[.lst (rowsD ((A.take i).flatMap nextR++(nextR w).take j))]))) ⟨_,rfl,by simp⟩ ?_ ?_
  ·rintro j y σ s hy ⟨v4,rfl,rfl⟩;obtain ⟨hj,rfl⟩:=zdq hy;refine ⟨_,rfl,?_⟩;unfold zbx;simp only[W,V,M,L];have tl:((nextR w).take j).length<=(nextR w).length:=by rw[xea];exact xgn _ _
   refine ⟨_,_,rfl,fur _ _,small _ (by simp),small _ (by simp;lia),_,_,rfl,fur _ _,by rw[zy,xbx,xgu];lia,_,rfl,?_⟩;rw[furS];have ej:(nextR w)[j]?=some ((loI w+(j:Int))::w):=by
    unfold nextR;rw[xcg,xfw hj];rfl
   rw[zct ej,← xcb];simp[rowsD]
  ·rintro σ s ⟨v4,rfl,rfl⟩;rw[zcu,← nl,xhu];simp only[L];refine ⟨_,_,rfl,?_⟩;rw[zct hwA,xgx,← xcb];simp
 ·rintro σ s ⟨v3,v4,rfl,rfl⟩;rw[zy,xhu];exact k _ _
end
section
variable {st:Store} {Q:D->Store->Prop}
theorem zjk {l:List (List Int)} {n:Nat} (h:st[n]?=some (.lst (rowsD l))) (hl:l.length<=1000000):bSorted [.ref n] st=.ok (.lst (rowsD (sortR l))) st:=by
 unfold bSorted;dsimp only
 rw[show (asL st (.ref n)).bind asRows=some l from by
  rw[show asL st (.ref n)=some (rowsD l) from by unfold asL;dsimp only;rw[h]]
  exact zkw l]
 dsimp only;rw[if_pos hl]
theorem zti (P':List (List Int)) (g:Store) (o:O):(st++(BK P'++(g++[o])))[st.length+(17+g.length)]?=some o:=by
 rw[xbq (xbj _ _),xbo,xbq (by rw[zdg];lia),zdg,xbo];simp
theorem zth (P':List (List Int)) (g:Store) (o o':O):(st++(BK P'++(g++[o]))).set (st.length+(17+g.length)) o'=st++(BK P'++(g++[o'])):=by
 rw[xev _ _ (xbj _ _),xbo,xev _ _ (by rw[zdg];lia),zdg,xbo];simp
noncomputable def allD:D:=.lst ((List.range 17).map fun r:Nat=>D.lst (rowsD (stF 7 r r)))
theorem zkk {QQ:List D->Store->Prop} (q:QQ (refsF st.length) (st++(BK []++[]))):WP (compF (gN 0) bYes (eLstM aNil) (rng 0 (Int.toNat 17)) [none] st) QQ:=by
 refine zni (fun i acc σ s=>(∃v,σ=[v])/\acc=(List.range i).map (fun r:Nat=>D.ref (st.length+r))/\s=st++List.replicate i (O.lst [])) ⟨⟨_,rfl⟩,rfl,by simp⟩ ?_ ?_
 ·rintro i x acc σ s hx ⟨⟨v,rfl⟩,rfl,rfl⟩;obtain ⟨hi,rfl⟩:=zdq hx;refine ⟨_,rfl,?_⟩;simp only[W,V];refine ⟨small _ (by simp),⟨_,rfl⟩,?_,?_⟩
  ·rw[xiy,xjb];simp
  ·rw[xcb,← List.replicate_succ',List.replicate_succ]
 ·rintro ys σ s ⟨_,rfl,rfl⟩;rw[zcu];exact q
theorem zkf (k:∀g,Q allD (st++g)):WP (zcg [] st) Q:=by
 refine zva rfl ?_;simp only[W,V];refine ⟨_,rfl,rngN (by lia) (by lia),by rw[zcu];exact small _ (by simp),zkk ?_⟩;refine ⟨small _ (by simp),small _ (by simp),?_⟩;refine zof (fun j σ s=>∃(q:Nat) (g:Store) (v2 v3 v4:Option D),q<=5/\j=6 - q/\σ=[some (.lst (refsF st.length)),some (.lst (rowsD (lev q))),v2,v3,v4]/\s=st++(BK (dn q)++g)) (k:=6) ⟨0,[],_,_,_,by lia,rfl,rfl,rfl⟩ (by lia) ?_;rintro j σ s ⟨q,g,v2,v3,v4,hq,rfl,rfl,rfl⟩;obtain ⟨l1,l2,l3⟩:=zsx q (xde.mpr (by lia));have d1:=zts q (xde.mpr (by lia));simp only[W,V];rw[zy];refine ⟨trivial,?_⟩;split
 ·rename_i h0;have q5:q < 5:=by
   rcases xec q 5 with z | z
   ·exact z
   ·obtain rfl:q=5:=by lia
    rw[zsy] at h0;simp at h0
  obtain ⟨m1,_,_⟩:=zsx (q+1) (xde.mpr (by lia));unfold zer;simp only[W,V,M,Dd.N];refine ⟨small _ (by simp),?_⟩;have eu:(st++(BK (dn q)++g)).length=st.length+(17+g.length):=by rw[xbx,xbx,zdg]
  rw[eu,xcb,xcb];refine zjb l1 l2 m1 (by lia) fun v3 v4=>?_
  simp only[W,V,M,L];refine ⟨_,_,rfl,zti _ _ _,6 - (q+1),by lia,q+1,g++[.dead],_,_,_,by lia,rfl,rfl,?_⟩;rw[zth]
  rfl
 ·rename_i h0;have hn:lev q=[]:=xif (by lia);rw[l3 hn];simp only[W,V,Dd.N];have d5:=zts 5 (by simp);refine ⟨by unfold refsF;rw[xbk,xho];exact small _ (by lia),?_⟩;refine zog (as:=List.range 17) (fun σ=>∃v,σ=[v]) (fun _=>true) (fun r:Nat=>D.lst (rowsD (stF 7 r r))) (fun r:Nat=>D.ref (st.length+r)) ⟨_,rfl⟩ ?_ ?_
  ·rintro r hr σ ⟨v,rfl⟩;have hr:=xde.mp hr;refine ⟨_,rfl,⟨_,rfl⟩,by simp only[W,and_self],fun _=>?_⟩;simp only[W,V];refine WP.of (zjk (zxi hr) (xbb (List.length_filter_le _ _) (by lia))) ⟨rfl,?_⟩;rw[zru hr]
  ·rw[zfq];exact k _
end
section
variable {st:Store} {n:Nat} {Q:D->Store->Prop}
theorem zfm {g : Store -> Res D} (h : WX (g st) (fun _ s => Q (.str "") s) (fun x s => x = ⟨"NoPart", []⟩ /\ Q (.str "part") s)) : WP (zx g [.ref n] st) Q := by
 unfold zx;cases e:g st with
 | stuck=>rw[e] at h;exact h.elim
 | ok v s1 =>
  rw[e] at h;have z : fnD 4 1 (zo g) [.ref n] st = .ok (.str "") s1 := by
   unfold fnD zo sSeq sTry sDrop;simp only[e]
   rfl
  exact WP.of z h
 | exc x s1 =>
  rw[e] at h;obtain ⟨rfl,h⟩:=h;have z : fnD 4 1 (zo g) [.ref n] st = .ok (.str "part") s1 := by
   unfold fnD zo sSeq sTry sDrop;simp only[e]
   rfl
  exact WP.of z h
theorem zee {F:(Store->Res D)->DFn} {is:List Nat} {lam:SE} {σ:DS} (h0:st[0]?=some .tab) (q:WP (F (lam (startD 0 is σ)) [.ref st.length] (st++[.dead])) Q):WP (eRefd F is lam σ st) Q:=by
 unfold eRefd;rw[h0];exact q
theorem chain31 {f:SE} {a b i:Int} {σ:DS} (hf:f σ st=.ok (.int i) st):eChain oLe oLe (eC (.int a)) f (eC (.int b)) σ st=.ok (.bl (decide (a<=i) && decide (i<=b))) st:=by
 have e0:eC (.int a) σ st=.ok (.int a) st:=rfl;have e1:eC (.int b) σ st=.ok (.int b) st:=rfl;unfold eChain;rw[e0,zfj,hf,zfj];by_cases h:a<=i
 ·simp[oI,h,e1]
 ·simp[oI,h]
noncomputable def steepB:D->Bool
 | .int i=>decide (0<=i) && decide (i<=16)
 | _=>false
theorem zbl {d : D} {E : Exc -> Store -> Prop} (h : Pl 1000 d) (good : ∀ r : Nat, d = .int r -> r <= 16 -> ∀ g, Q (.ref st.length) (st ++ .lst (rowsD (stF 7 r r)) :: g)) (bad : steepB d = false -> E ⟨"NoPart", []⟩ st) : WX (zbd [d] st) Q E := by
 refine zbac rfl ?_;simp only[VX,W,V];refine WP.of (zdl h) ⟨_,rfl,?_⟩;cases hb:wholeB d with
 | false =>
  rw[if_pos (by decide)];refine ⟨small _ (by simp),bad ?_⟩;cases d<;>first | rfl | cases hb
 | true =>
  obtain ⟨i,rfl⟩:∃i,d=.int i:=by cases d<;>first | exact ⟨_,rfl⟩ | cases hb
  rw[if_neg (by decide)];refine WP.of (chain31 (i:=i) rfl) ?_;dsimp only [bK];cases hs:(decide (0<=i) && decide (i<=16)) with
  | false =>
   rw[if_pos (by decide)];exact ⟨small _ (by simp),bad hs⟩
  | true =>
   rw[if_neg (by decide)];rw[xfd,xio,xio] at hs;obtain ⟨r,rfl⟩:=xfc hs.1;exact zdn 7 (by lia) (by lia) (by lia) (by lia) (by lia) (by have:(2:Int) ^ (7 - 1)=64:=rfl;lia) (by lia) fun g=>good r rfl (by lia) g
theorem zfl {l:List (List Int)} (h:st[n]?=some (.lst (rowsD l))) (hr:∀w∈l,w.length<=100) (hl:l.length<=100) (q:Q (.bl true) st):WP (zbj [.ref n,.lst (rowsD l)] st) Q:=by
 refine zva rfl ?_;simp only[W,V];have e1 : bIsinst [D.ref n, D.ty "list"] st = .ok (.bl true) st := by
  unfold bIsinst tyName;dsimp only;rw[h]
  rfl
 refine WP.of e1 ⟨true,rfl,?_⟩;rw[if_neg (by decide)]
 have sh:Sh 64 (.lst (rowsD l)):=(Sh.lst (n:=5) fun d hd=>by
  obtain ⟨w,_,rfl⟩:=xfg.mp (show d∈l.map rowD from hd)
  exact Sh.row).mono (by lia)
 refine WP.of (znx (zss h) rfl sh) ?_;dsimp only [bK];rw[if_neg (by decide)];refine WX.wp (zrg (n:=n) rfl h ?_);refine zrf (fun xs σ s=>∃i v,i<=l.length/\xs=rowsD (l.drop i)/\σ=[some (.ref n),some (.lst (rowsD l)),v]/\s=st) ?_ ?_ ?_ _ _ _ ⟨0,_,xdh _,rfl,rfl,rfl⟩
 ·rintro xs σ s ⟨i,v,_,_,_,rfl⟩;exact h
 ·rintro x xs σ s ⟨i,v,hi,hx,rfl,rfl⟩;have hlt:i < l.length:=by
   rcases xec i l.length with z | z
   ·exact z
   ·rw[xem z] at hx;cases hx
  obtain ⟨w,hw,hd⟩:=zig hlt;rw[hd] at hx;obtain ⟨rfl,rfl⟩:=List.cons.inj (show x::xs=rowD w::rowsD (l.drop (i+1)) from hx);refine ⟨_,rfl,?_⟩;unfold zdf;rw[zoe];simp only[W,V];refine WP.of (show bIsinst [rowD w, D.ty "tuple"] s = .ok (.bl true) s from rfl) ⟨true, rfl, ?_⟩
  rw[if_neg (by decide)];simp only[W,V,M,Dd.N];refine ⟨by rw[xbk];exact small _ (by have:=hr w (xcx hw);lia),?_⟩;refine zog (as:=w) (fun σ=>∃v,σ=[v]) (fun _=>true) (fun _=>D.bl false) D.int ⟨_,rfl⟩ ?_ ?_
  ·rintro y hy σ ⟨v,rfl⟩;refine ⟨_,rfl,⟨_,rfl⟩,by simp only[W,and_self],fun _=>?_⟩;simp only[W,V];refine WP.of (zdl (k:=1000) (.int y)) ?_;exact ⟨rfl,rfl⟩
  ·rw[zfq];have eb:asBools (w.map fun _=>D.bl false)=some (w.map fun _=>false):=by
    clear hw hd hr hx
    induction w with
    | nil=>rfl
    | cons a w ih=>rw[xcd,xcd];unfold asBools;rw[ih];rfl
   refine ⟨_,eb,?_⟩;rw[show (w.map fun _=>false).any id=false from by simp];simp only[if_neg,xdd,xgq];exact ⟨i+1,_,hlt,by first | rfl | trivial,by first | rfl | trivial,by first | rfl | trivial⟩
 ·rintro σ s ⟨i,v,hi,hx,rfl,rfl⟩;simp only[W,V];exact q
theorem tab31 {st:Store} (h:st[0]?=some .tab) (g:Store):(st++g)[0]?=some .tab:=by rw[xby (zcx h)];exact h
theorem tabD31 {st s:Store} {n:Nat} (h:st[0]?=some .tab) (hn:BagAt st n) (d:Drew st s n):s[0]?=some .tab:=by
 refine (d.keep 0 (zcx h) fun e=>?_).trans h;subst e;obtain ⟨c,x,e,_⟩:=hn;rw[h] at e;cases e
theorem zzf {r:Nat} (h:r < 17) (s:Store):oIx allD (.int r) s=.ok (.lst (rowsD (stF 7 r r))) s:=by
 refine ziz (xs:=(List.range 17).map fun r:Nat=>D.lst (rowsD (stF 7 r r))) rfl (zga ?_);rw[xcg,xfw h];rfl
end
section
variable {S v2 v3 v4 v5 v6 v7 v8 v9:Option D} {st:Store}
theorem zmi {QQ:Fl->Store->Prop} (h0:st[0]?=some .tab) (k:∀v2 v3 v4 s,s[0]?=some .tab->QQ (.nx [S,some allD,v2,v3,v4,v5,v6,v7,v8,v9]) s) :
  WP (forF (gN 2) zhm (rng 0 17) [S,some allD,v2,v3,v4,v5,v6,v7,v8,v9] st) QQ:=by
 refine zis (fun i σ s=>∃v2 v3 v4:Option D,σ=[S,some allD,v2,v3,v4,v5,v6,v7,v8,v9]/\s[0]?=some .tab) ⟨_,_,_,rfl,h0⟩ ?_ ?_
 ·rintro r x σ s hx ⟨v2,v3,v4,rfl,hs⟩;obtain ⟨hr,rfl⟩:=zdq hx;rw[xiv];refine ⟨_,rfl,?_⟩;unfold zhm;simp only[W,V];refine ⟨_,rfl,rngN (by lia) (by lia),?_⟩;refine zis (fun i σ s=>∃v3 v4:Option D,σ=[S,some allD,some (.int (r:Int)),v3,v4,v5,v6,v7,v8,v9]/\s[0]?=some .tab) ⟨_,_,rfl,hs⟩ ?_ ?_
  ·rintro i x σ s hx ⟨v3,v4,rfl,hs⟩;obtain ⟨hi,rfl⟩:=zdq hx;refine ⟨_,rfl,?_⟩;unfold zkz;simp only[W,V];refine WX.wp (zbl (.int _) (fun r' e hr' g=>?_) fun hb=>?_)
   ·obtain rfl:r=r':=by injection e with e;lia
    have few:=zjj (f:=7) (r:=(r:Int)) (m:=(r:Int)) (by lia) (by lia) (by lia) (by lia) (by lia);refine WP.of (zzf hr _) ?_;refine zfl (zcp _ _) (fun w hw=>by have:=zji _ _ _ _ hw;lia) few ⟨true,rfl,?_⟩;rw[if_neg (by decide)];simp only[W,V,M];refine ⟨_,_,rfl,zcp _ _,small _ (by simp),_,_,rfl,zcp _ _,by rw[zy,xgu];lia,?_⟩;rw[zfk];refine zoh (n:=s.length) rfl (zcp _ _) ?_;rw[zfk];simp only[L];exact ⟨_,_,rfl,tab31 hs _⟩
   ·exfalso
    have:(decide ((0:Int)<=(r:Int)) && decide ((r:Int)<=16))=false:=hb;rw[xdc (by lia),xdc (by lia)] at this;cases this
  ·rintro σ s ⟨v3,v4,rfl,hs⟩;simp only[L];exact ⟨_,_,_,rfl,hs⟩
 ·rintro σ s ⟨v2,v3,v4,rfl,hs⟩;exact k _ _ _ s hs
theorem zpo {len:Int} (hle:len<=63) (hge:0<=len) {ns:List Int} (hl:ns.length<=63) {st:Store} {w2 w3 w4:Option D} {QQ:Fl->Store->Prop} (t1:st[0]?=some .tab) (c:Nat) (hc:c<=20)
  (k:∀σ s,QQ (.nx σ) s):WP (forF (gN 5) zhl (rng 0 c) [some (.scr (ns.map .int)),some allD,w2,w3,w4,v5,v6,v7,v8,v9] st) QQ:=by
 refine zis (fun i σ s=>(∃v2 v3 v4 v5 v6 v7 v8 v9:Option D,σ=[some (.scr (ns.map .int)),some allD,v2,v3,v4,v5,v6,v7,v8,v9])/\s[0]?=some .tab) ⟨⟨_,_,_,_,_,_,_,_,rfl⟩,t1⟩ ?_ fun σ s _=>k σ s
 rintro i x σ s0 hx ⟨⟨v2,v3,v4,v5,v6,v7,v8,v9,rfl⟩,t0⟩;obtain ⟨hi,rfl⟩:=zdq hx;refine ⟨_,rfl,?_⟩;generalize allD=A;unfold zhl;simp only[W,V];rw[xiv];refine zyw hl (by lia) fun g hb=>?_
 refine znl hb (by lia) (by lia) fun r s2 r1 r2 d2=>?_
 simp only[W,V];have p39:CPow 10 39:=⟨by decide,by decide,by decide⟩
 have sm:∀q:Nat,q<=1000->q<=sizeLine:=fun q h=>small _ (by lia)
 have es:bStrI [.int r] s2=.ok (.str (toString r)) s2:=by
  unfold bStrI;dsimp only;rw[if_pos ⟨by lia,by lia⟩]
 refine ⟨trivial,p39,p39,WP.of es ⟨sm _ (by simp),sm _ (by simp),sm _ (by simp),sm _ (by simp),sm _ (by simp),?_⟩⟩;have t2:=tabD31 (tab31 t0 g) hb d2;refine znl d2.bag (by lia) (by lia) fun t s3 u1 u2 d3=>?_
 have t3:=tabD31 t2 d2.bag d3;have pls : ∀ d ∈ [D.int (-1), D.int 17, D.int (-r - 1), D.int (r + 17), D.int (10 ^ Int.toNat 39), D.int (-10 ^ Int.toNat 39), D.bl true, D.bl false, D.non, D.str "", D.str (toString r), D.tup [], D.lst [], D.tup [D.int r], D.lst [D.int r], D.str "a", D.int r], Pl 1000 d := fun d hd => by
  simp only[xcc,xft,or_false] at hd;rcases hd with rfl | rfl | rfl | rfl | rfl | rfl | rfl | rfl | rfl | rfl | rfl | rfl | rfl | rfl | rfl | rfl | rfl
  ·exact .int _
  ·exact .int _
  ·exact .int _
  ·exact .int _
  ·exact .int _
  ·exact .int _
  ·exact .bl _
  ·exact .bl _
  ·exact .non
  ·exact .str _
  ·exact .str _
  ·exact .tup (fun d hd=>absurd hd xft) (by simp)
  ·exact .lst (fun d hd=>absurd hd xft) (by simp)
  ·exact .tup (fun d hd=>by rw[xbs.mp hd];exact .int _) (by simp)
  ·exact .lst (fun d hd=>by rw[xbs.mp hd];exact .int _) (by simp)
  ·exact .str _
  ·exact .int _
 refine zsf u1 (by simp;lia) fun d hd=>?_
 have hpl:=pls d hd;clear hd pls;refine ⟨sm _ (by simp),WP.of (zdl hpl) ?_⟩;dsimp only [bK];have str:∀(x:Str) (s:Store),(PyData.str x).canLay0=true->oEqG true (.str x) (.str x) s=.ok (.bl false) s:=fun x s h=>znx rfl rfl (Sh.str h)
 have sp : (PyData.str "part").canLay0 = true := by decide +kernel
 have se : (PyData.str "").canLay0 = true := by decide +kernel
 cases hb:wholeB d with
 | false =>
  rw[if_neg (by decide)];refine zrc (d := .str "part") rfl rfl ?_
  refine zee t3 (zfm ?_);simp only[VX,W,V];refine zbl hpl (fun r' e=>by rw[e] at hb;cases hb) fun _=>⟨rfl,?_⟩
  refine WP.of (str _ _ sp) ?_;dsimp only [bK];rw[if_neg (by decide)];simp only[W,V,L];exact ⟨⟨_,_,_,_,_,_,_,_,rfl⟩,tab31 t3 _⟩
 | true =>
  obtain ⟨j,rfl⟩:∃j,d=.int j:=by cases d<;>first | exact ⟨_,rfl⟩ | cases hb
  rw[if_pos rfl];refine WP.of (chain31 (i:=j) rfl) ?_;simp only[W,V];cases hs:(decide (0<=j) && decide (j<=16)) with
  | false =>
   refine zrc (d := .str "part") rfl rfl ?_
   refine zee t3 (zfm ?_);simp only[VX,W,V];refine zbl hpl (fun r' e h'=>?_) fun _=>⟨rfl,?_⟩
   ·injection e with e
    rw[e,xdc (by lia),xdc (by lia)] at hs;cases hs
   refine WP.of (str _ _ sp) ?_;dsimp only [bK];rw[if_neg (by decide)];simp only[W,V,L];exact ⟨⟨_,_,_,_,_,_,_,_,rfl⟩,tab31 t3 _⟩
  | true =>
   refine zrc (d := .str "") rfl rfl ?_
   refine zee t3 (zfm ?_);simp only[VX,W,V];refine zbl hpl (fun r' e h' g'=>?_) fun hb'=>?_
   ·refine WP.of (str _ _ se) ?_;dsimp only [bK];rw[if_neg (by decide)];simp only[W,V,L];exact ⟨⟨_,_,_,_,_,_,_,_,rfl⟩,tab31 (tab31 t3 _) _⟩
   ·rw[show steepB (.int j)=(decide (0<=j) && decide (j<=16)) from rfl,hs] at hb';cases hb'
theorem ztb {ns:List Int} (hl:ns.length<=63) {st:Store} (t0:st[0]?=some .tab):WP (zzh [.scr (ns.map .int)] st) (fun v _=>v=.bl true):=by
 refine zva rfl ?_;simp only[W,V];refine zkf fun g=>⟨_,rfl,rngN (by lia) (by lia),?_⟩
 refine zmi (tab31 t0 _) fun w2 w3 w4 s1 t1=>?_
 have hle:((ns.map D.int).length:Int)<=63:=by rw[xbk];lia
 have hge:(0:Int)<=((ns.map D.int).length:Int):=by lia
 simp only[W,V];generalize ((ns.map D.int).length:Int)=len at hle hge;refine ⟨_,rfl,rngN (by split<;>lia) (by split<;>lia),?_⟩;refine zpo hle hge hl t1 _ (by split<;>lia) fun σ s=>?_
 simp only[W,V]
theorem zmh (ns:List Int) (hl:ns.length<=63) (st:Store) (es:st=[.tab]):∃st',zzh [.scr (ns.map .int)] st=.ok (.bl true) st':=by
 have h0:st[0]?=some .tab:=by rw[es];rfl
 clear es;obtain ⟨a,st',e,rfl⟩:=(ztb hl h0).get;exact ⟨st',e⟩
end
end Dd
namespace K31
theorem holds:∀ns:List Int,ns.length<=63->∃st',Dd.zzh [.scr (ns.map .int)] [.tab]=.ok (.bl true) st':=fun ns hl=>Dd.zmh ns hl _ rfl
end K31
namespace K31
open PySem L2 Dd
noncomputable def top (i:Nat):Stmt:=PySem.Challenge.pw_raisedsums_k31_all_steep_rows.main.body.getD i (.Pass ⟨0,0,0,0⟩)
noncomputable abbrev zed:Stmt:=top 26
noncomputable abbrev zec:Stmt:=top 22
noncomputable abbrev zdj:Stmt:=top 23
noncomputable abbrev zbr:Stmt:=top 19
noncomputable abbrev zeb:Stmt:=top 16
noncomputable abbrev zcn:Stmt:=top 20
noncomputable abbrev zbs:Stmt:=top 24
noncomputable abbrev zbo:Stmt:=top 25
noncomputable abbrev zco:Stmt:=top 27
noncomputable abbrev zra:Stmt:=top 28
section
variable {P:Program} {w:World} {K:Fg} {mg:Str->Option Value} {base h:Heap}
theorem zfb : FnScope ["_law_found", "_law_ahead", "_law_further", "_law_row", "_law_part"] [] (defScope zed) := ⟨rfl, rfl, rfl, by decide +kernel, rfl, by decide +kernel, by decide +kernel⟩
theorem ziy (T : TopF K "_law_all" zed) (XX : K.In h) (G : h.Ns mainGlobals mg) (z_range : mg "range" = none) (z_len : mg "len" = none) (z_sum : mg "sum" = none) (z_int : mg "int" = none) (z_sorted : mg "sorted" = none) : CalD P w K mg base "_law_all" 1 [] zcg :=
  have nd := zfb.nd
  zcr (k := 0) T XX G zfb (fun _ _ _ _ _ _ us hl => len0 us hl rfl) fun f cdv A outer s H E hr => (zf (zqa (i := 0) rfl nd rfl (Or.inl rfl) (zcf rfl z_range (za zj zc)) (fun _ _ _ _ _ => (zbe (i := 0) (show (["_law_r"] : List Str).Nodup from by decide +kernel) rfl (Or.inl rfl))) (fun _ _ _ _ _ => zfs) (fun _ _ _ _ _ => (zgo zc)) (N := ["_law_r"]) (k := 1) (is := []) (zgp (by rfl)))
  (zf (zq (i := 1) nd rfl (Or.inl rfl) (zex (za (zfv zc) zc)))
  (zf (zie xdy (zcz zzu (zlv fun _ _ _ _ => .bl _) (zp zbv zng rfl z_len znd (za (zd (pv 1)) zc)) zj (nomark _)) (zf (zq (i := 2) nd rfl (Or.inl rfl) (zgo zc))
  (zf (zen xdy rfl (zih (zd (pv 1))) (zbe (i := 3) nd rfl (Or.inl rfl))
  (zf (zeo (zfx (zja (zd (pv 0)) (zp (zik rfl) zuv rfl z_sum zuo (za (zd (pv 3)) zc)) (fun _ _ => rfl)) (za (zd (pv 3)) zc)))
  (zm (zen xdy rfl (zgn rfl z_range (za (zbz zbn zcv (zbz zhd (oI_D fun _ _ _ _ => .int _) zj (zja (zbz zbn zcv (zd (pv 3)) (zfv (za zj zc))) zj (fun _ _ => rfl))) (zfw zil zux rfl z_int zne (za (zyo (zsm hr.units) zsr (zd (pv 3)) (zfv zc) (nomark _)) zc))) (za (zbz zpd (zlv fun _ _ _ _ => .int _) zj (zp (zik rfl) zuv rfl z_sum zuo (za (zd (pv 3)) zc))) zc))) (zbe (i := 4) nd rfl (Or.inl rfl))
  (zm (zeo (zfx (zd (pv 2)) (za (zbz zbn zcv (zfv (za (zd (pv 4)) zc)) (zd (pv 3))) zc))))))))
  (zm (zq (i := 1) nd rfl (Or.inl rfl) (zzz (zd (pv 2))))))))
  (zm (zbb (zkn rfl (zih (zd (pv 0))) (fun _ _ _ _ _ => (zbe (i := 0) (show (["_law_rows"] : List Str).Nodup from by decide +kernel) rfl (Or.inl rfl))) (fun _ _ _ _ _ => zfs) (fun _ _ _ _ _ => (zp (zhk rfl hr.units) znf rfl z_sorted znc (za (zd (pv 0)) zc))) (N := ["_law_rows"]) (k := 1) (is := []) (zgp (by rfl))))))))
theorem zfa : FnScope ["_law_script", "_law_at", "_law_cell", "_law_mix", "_law_k"] ["_law_script", "_law_at"] (defScope zec) := ⟨rfl, rfl, rfl, by decide +kernel, rfl, by decide +kernel, by decide +kernel⟩
theorem zix (T : TopF K "_law_bag" zec) (XX : K.In h) (G : h.Ns mainGlobals mg) (z_len : mg "len" = none) (z_abs : mg "abs" = none) (z_min : mg "min" = none) (z_range : mg "range" = none) : CalD P w K mg base "_law_bag" 1 ["_law_script", "_law_at"] zci :=
 have nd:=zfa.nd
 zcr (k:=0) T XX G zfa (fun _ _ _ _ _ _ us hl=>len2 us hl fun _ _=>rfl) fun f cdv A outer s H E hr=>(zf (zq (i:=2) nd rfl (Or.inl rfl) zj)
 (zf (zew (zcz (zpg hr.units0) zph (zd (pv 1)) (zp zbv zng rfl z_len znd (za (zd (pv 0)) zc)) (nomark _)) (zm (zq (i:=2) nd rfl (Or.inl rfl) (zp zqs zzd rfl z_abs zyu (za (zja (zd (pv 0)) (zd (pv 1)) (fun _ _=>rfl)) zc)))) zce)
 (zf (zq (i:=3) nd rfl (Or.inl rfl) (zbz zbn zcv (zbz zhd (oI_D fun _ _ _ _=>.int _) zj (zd (pv 1))) zj))
 (zf (zen xdy rfl (zcf rfl z_range (za (zp (zfz rfl) zze rfl z_min zqu (za (zp zbv zng rfl z_len znd (za (zd (pv 0)) zc)) (za zj zc))) zc)) (zbe (i:=4) nd rfl (Or.inl rfl))
 (zm (zq (i:=3) nd rfl (Or.inl rfl) (zbz ziv (oI_D fun _ _ _ _=>.int _) (zbz zbn zcv (zbz zbn zcv (zbz zhd (oI_D fun _ _ _ _=>.int _) (zd (pv 3)) zj) (zbz ziv (oI_D fun _ _ _ _=>.int _) (zja (zd (pv 0)) (zd (pv 4)) (fun _ _=>rfl)) zj)) (zd (pv 4))) zj))))
 (zf (zew (zcz (zpg hr.units0) zph (zd (pv 2)) (zbz zpe (oI_D fun _ _ _ _=>.int _) zj zj) (nomark _)) (zm (zq (i:=2) nd rfl (Or.inl rfl) zj)) zce)
 (zm (zbb (zgo (za (zd (pv 2)) (za (zd (pv 3)) zc))))))))))
theorem zea : FnScope ["_law_bag_here", "_law_many", "_law_digit", "_law_number", "_law_room"] ["_law_bag_here", "_law_many"] (defScope zdj) := ⟨rfl, rfl, rfl, by decide +kernel, rfl, by decide +kernel, by decide +kernel⟩
theorem zhf (T : TopF K "_law_take" zdj) (XX : K.In h) (G : h.Ns mainGlobals mg)  : CalD P w K mg base "_law_take" 1 ["_law_bag_here", "_law_many"] zbi :=
 have nd:=zea.nd
 zcr (k:=0) T XX G zea (fun _ _ _ _ _ _ us hl=>len2 us hl fun _ _=>rfl) fun f cdv A outer s H E hr=>(zf (zew (zcz zzu (zlv fun _ _ _ _=>.bl _) (zja (zd (pv 0)) zj (fun _ _=>rfl)) zj (nomark _)) (zf (zq (i:=2) nd rfl (Or.inl rfl) (zbz ziv (oI_D fun _ _ _ _=>.int _) (zja (zd (pv 0)) zj (fun _ _=>rfl)) (zd (pv 1))))
 (zf (zif (zbz zhe (oI_D fun _ _ _ _=>.int _) (zja (zd (pv 0)) zj (fun _ _=>rfl)) (zd (pv 1))) (zd (pv 0)) zj)
 (zm (zbb (zd (pv 2)))))) zce)
 (zf (zq (i:=3) nd rfl (Or.inl rfl) zj)
 (zf (zq (i:=4) nd rfl (Or.inl rfl) zj)
 (zf (zie xdy (zcz (zpg hr.units0) zph (zd (pv 4)) (zd (pv 1)) (nomark _)) (zf (zif (zbz ziv (oI_D fun _ _ _ _=>.int _) (zbz zbn zcv (zbz zhd (oI_D fun _ _ _ _=>.int _) (zja (zd (pv 0)) zj (fun _ _=>rfl)) zj) zj) zj) (zd (pv 0)) zj)
 (zf (zq (i:=3) nd rfl (Or.inl rfl) (zbz zbn zcv (zbz zhd (oI_D fun _ _ _ _=>.int _) (zd (pv 3)) zj) (zbz ziv (oI_D fun _ _ _ _=>.int _) (zbz zhd (oI_D fun _ _ _ _=>.int _) (zbz zhe (oI_D fun _ _ _ _=>.int _) (zja (zd (pv 0)) zj (fun _ _=>rfl)) zj) zj) zj)))
 (zm (zq (i:=4) nd rfl (Or.inl rfl) (zbz zhd (oI_D fun _ _ _ _=>.int _) (zd (pv 4)) zj))))))
 (zm (zbb (zbz ziv (oI_D fun _ _ _ _=>.int _) (zd (pv 3)) (zd (pv 1)))))))))
theorem zca : FnScope ["r", "most", "told", "first"] ["r", "most"] (defScope zbr) := ⟨rfl, rfl, rfl, by decide +kernel, rfl, by decide +kernel, by decide +kernel⟩
theorem zet {fF : DFn} {j : Nat} (hj : 1 <= j) (hself : ∀ ds st v st', fF ds st = .ok v st' -> ds.length = 2) (T : TopF K "steep_from" zbr) (XX : K.In h) (G : h.Ns mainGlobals mg) (z_min : mg "min" = none) (z_range : mg "range" = none) (c_steep_from : CalD P w K mg base "steep_from" j ["r", "most"] fF) : CalD P w K mg base "steep_from" (j + 1) ["r", "most"] (zn fF) :=
 have nd:=zca.nd
 zcr (k:=j) T XX G zca (fun _ _ _ _ _ _ us hl=>len2 us hl fun _ _=>rfl) fun f cdv A outer s H E hr=>(zf (zew (zcz (zsm hr.units) zsr (zd (pv 0)) zj (nomark _)) (zm (zbb (zgo (za (zfv zc) zc)))) zce)
 (zf (zq (i:=2) nd rfl (Or.inl rfl) (zgo zc))
 (zf (zen xdy rfl (zgn rfl z_range (za zj (za (zbz zbn zcv (zp (zfz rfl) zze rfl z_min zqu (za (zd (pv 0)) (za (zd (pv 1)) zc))) zj) zc))) (zbe (i:=3) nd rfl (Or.inr rfl))
 (zm (zeo (zmx (zd (pv 2)) (za (zkn rfl (zih (zzz (zdb c_steep_from hself hr rfl (za (zbz zpd (zlv fun _ _ _ _ => .int _) (zd (pv 0)) (zd (pv 3))) (za (zbz zhe (oI_D fun _ _ _ _ => .int _) (zd (pv 3)) zj) zc))))) (fun _ _ _ _ _ => (zbe (i := 0) (show (["rest", "first"] : List Str).Nodup from by decide +kernel) rfl (Or.inl rfl))) (fun _ _ _ _ _ => zfs) (fun _ _ _ _ _ => (zbz zbn zcv (zfv (za (zd (pv 1)) zc)) (zd (pv 0)))) (N := ["rest", "first"]) (k := 1) (is := [3]) (zgp (by rfl))) zc)))))
 (zm (zbb (zd (pv 2)))))))
theorem zgg (T : TopF K "steep_from" zbr) (XX : K.In h) (G : h.Ns mainGlobals mg) (z_min : mg "min" = none) (z_range : mg "range" = none) : CalD P w K mg base "steep_from" 8 ["r", "most"] (iterF zn 7) := CalD.iter (L := 1) (zku T XX G zca (fun _ _ _ _ _ _ us hl => len2 us hl fun _ _ => rfl)) (fun _ _ _ _ _ h => zck h) (fun F j hj hs c => zet hj hs T XX G z_min z_range c) 7
theorem zez : FnScope ["thing"] ["thing"] (defScope zeb) := ⟨rfl, rfl, rfl, by decide +kernel, rfl, by decide +kernel, by decide +kernel⟩
theorem ziw (T : TopF K "is_whole" zeb) (XX : K.In h) (G : h.Ns mainGlobals mg) (z_bool : mg "bool" = none) (z_isinstance : mg "isinstance" = none) (z_int : mg "int" = none) : CalD P w K mg base "is_whole" 1 ["thing"] zt :=
 have nd:=zez.nd
 zcr (k := 0) T XX G zez (fun _ _ _ _ _ _ us hl => len1 us hl fun _ => rfl) fun f cdv A outer s H E hr => (zm (zbb (zqn (zp zbg zch rfl z_isinstance zr (za (zd (pv 0)) (za (zhi (zeh (v := .ty "int") rfl z_int zne rfl) (fun _ _ => .ty _)) zc))) (zqd (zqe (zp zbg zch rfl z_isinstance zr (za (zd (pv 0)) (za (zhi (zeh (v := .ty "bool") rfl z_bool zoa rfl) (fun _ _ => .ty _)) zc))))))))
theorem zdo : FnScope ["r"] ["r"] (defScope zcn) := ⟨rfl, rfl, rfl, by decide +kernel, rfl, by decide +kernel, by decide +kernel⟩
theorem zgf (T : TopF K "steep_rows" zcn) (XX : K.In h) (G : h.Ns mainGlobals mg) {k_MOST_RAISED : Tok} (m_MOST_RAISED : mg "MOST_RAISED" = some (.int 16 k_MOST_RAISED)) {C_NoPart : Addr} (n_NoPart : PySem.W.nsIn K mainGlobals "NoPart" = some (some (.ref C_NoPart))) (q_NoPart : PySem.W.excIn K C_NoPart bmV "ValueError.__new__" = true) (c_is_whole : CalD P w K mg base "is_whole" 1 ["thing"] zt) (c_steep_from : CalD P w K mg base "steep_from" 8 ["r", "most"] (iterF zn 7)) : CalX P w K mg base "steep_rows" 9 ["r"] zbd :=
 have nd:=zdo.nd
 zuk (k:=8) T XX G zdo (fun _ _ _ _ _ _ us hl=>len1 us hl fun _=>rfl) fun f cdv A outer s H E hr=>(zpx (fun _ _=>rfl) (zya (JW.pt (zmq (zfh (zem (zdb c_is_whole (fun _ _ _ _ h=>zck h) (hr.mono (by decide)) rfl (za (zd (pv 0)) zc)))) (zid (zfh (zmr zvh zvh (zlv fun _ _ _ _=>.bl _) (zlv fun _ _ _ _=>.bl _) zj (zd (pv 0)) (zhi (zbm (v:=.int 16) rfl m_MOST_RAISED ⟨_,rfl⟩) (fun _ _=>.int _)))) (by first | exact Or.inl rfl | exact Or.inr rfl)))) (zto (zms zoj ⟨n_NoPart,q_NoPart⟩ rfl rfl (za zds zc))) (zkl zce))
 (zkl (zm (zbb (zdb c_steep_from (fun _ _ _ _ h=>zck h) (hr.mono (by decide)) rfl (za (zd (pv 0)) (za (zd (pv 0)) zc)))))))
theorem zcj : FnScope ["_law_call", "_law_kinds", "_law_others", "e"] ["_law_call"] (defScope zbs) := ⟨rfl, rfl, rfl, by decide +kernel, rfl, by decide +kernel, by decide +kernel⟩
theorem zeu (T : TopF K "_law_refused" zbs) (XX : K.In h) (G : h.Ns mainGlobals mg) (z_ValueError : mg "ValueError" = none) (z_isinstance : mg "isinstance" = none) (z_any : mg "any" = none) {C_Full : Addr} {C_NoDeed : Addr} {C_NoExchange : Addr} {C_NoLetters : Addr} {C_NoLine : Addr} {C_NoName : Addr} {C_NoPaper : Addr} {C_NoPart : Addr} {C_NoProduct : Addr} {C_NoRow : Addr} {C_NoText : Addr} {C_RaisedError : Addr} {C_TooMany : Addr} {C_Unlike : Addr} (n_NoPart : PySem.W.nsIn K mainGlobals "NoPart" = some (some (.ref C_NoPart))) (l_NoPart : ErrLook K C_NoPart) (i_NoPart_ValueError : PySem.W.kitOne K (.ref C_NoPart) (.type "ValueError") = some true) (i_NoPart_NoPart : PySem.W.kitOne K (.ref C_NoPart) (.ref C_NoPart) = some true) (n_TooMany : PySem.W.nsIn K mainGlobals "TooMany" = some (some (.ref C_TooMany))) (i_NoPart_TooMany : PySem.W.kitOne K (.ref C_NoPart) (.ref C_TooMany) = some false) (n_NoRow : PySem.W.nsIn K mainGlobals "NoRow" = some (some (.ref C_NoRow))) (i_NoPart_NoRow : PySem.W.kitOne K (.ref C_NoPart) (.ref C_NoRow) = some false) (n_NoExchange : PySem.W.nsIn K mainGlobals "NoExchange" = some (some (.ref C_NoExchange))) (i_NoPart_NoExchange : PySem.W.kitOne K (.ref C_NoPart) (.ref C_NoExchange) = some false) (n_NoText : PySem.W.nsIn K mainGlobals "NoText" = some (some (.ref C_NoText))) (i_NoPart_NoText : PySem.W.kitOne K (.ref C_NoPart) (.ref C_NoText) = some false) (n_NoPaper : PySem.W.nsIn K mainGlobals "NoPaper" = some (some (.ref C_NoPaper))) (i_NoPart_NoPaper : PySem.W.kitOne K (.ref C_NoPart) (.ref C_NoPaper) = some false) (n_Unlike : PySem.W.nsIn K mainGlobals "Unlike" = some (some (.ref C_Unlike))) (i_NoPart_Unlike : PySem.W.kitOne K (.ref C_NoPart) (.ref C_Unlike) = some false) (n_NoProduct : PySem.W.nsIn K mainGlobals "NoProduct" = some (some (.ref C_NoProduct))) (i_NoPart_NoProduct : PySem.W.kitOne K (.ref C_NoPart) (.ref C_NoProduct) = some false) (n_NoName : PySem.W.nsIn K mainGlobals "NoName" = some (some (.ref C_NoName))) (i_NoPart_NoName : PySem.W.kitOne K (.ref C_NoPart) (.ref C_NoName) = some false) (n_NoLine : PySem.W.nsIn K mainGlobals "NoLine" = some (some (.ref C_NoLine))) (i_NoPart_NoLine : PySem.W.kitOne K (.ref C_NoPart) (.ref C_NoLine) = some false) (n_NoLetters : PySem.W.nsIn K mainGlobals "NoLetters" = some (some (.ref C_NoLetters))) (i_NoPart_NoLetters : PySem.W.kitOne K (.ref C_NoPart) (.ref C_NoLetters) = some false) (n_NoDeed : PySem.W.nsIn K mainGlobals "NoDeed" = some (some (.ref C_NoDeed))) (i_NoPart_NoDeed : PySem.W.kitOne K (.ref C_NoPart) (.ref C_NoDeed) = some false) (n_Full : PySem.W.nsIn K mainGlobals "Full" = some (some (.ref C_Full))) (i_NoPart_Full : PySem.W.kitOne K (.ref C_NoPart) (.ref C_Full) = some false) (n_RaisedError : PySem.W.nsIn K mainGlobals "RaisedError" = some (some (.ref C_RaisedError))) (e_NoPart_RaisedError : PySem.W.exmOne K (.ref C_NoPart) (.ref C_RaisedError) = some true) : CalT P w K mg base "_law_refused" 9 zx :=
 have nd:=zcj.nd
 zul (k := 9) (b := zo) T XX G zcj (fun _ _ _ _ _ _ us hl => len1 us hl fun _ => rfl) fun fr cdv A outer s H E f σL τL g Gg hG hr T => (zyh (zyg (i := 3) (cs := ["NoPart"]) rfl rfl rfl nd rfl rfl rfl n_RaisedError (zuh n_NoPart e_NoPart_RaisedError zyq) T hG (fun E pn => pv 0) (fun e => (zf (zew (zfh (zem (zda (tbl := [("NoPart", true)]) rfl z_isinstance (pv 3) (zeh (v := .ty "ValueError") rfl z_ValueError PyProof.Rows.Boot.«ValueError» rfl) rfl (fun _ h => h) (zbk n_NoPart l_NoPart i_NoPart_ValueError zcs)))) (zm (zbb zds)) zce)
 (zf (zq (i := 1) nd rfl (Or.inl rfl) (zex (za (zda (tbl := [("NoPart", false)]) rfl z_isinstance (pv 3) (zbm (v := .ref _) rfl (xcl XX G n_NoExchange) rfl) rfl (fun _ h => h) (zbk n_NoPart l_NoPart i_NoPart_NoExchange zcs)) (za (zda (tbl := [("NoPart", false)]) rfl z_isinstance (pv 3) (zbm (v := .ref _) rfl (xcl XX G n_NoRow) rfl) rfl (fun _ h => h) (zbk n_NoPart l_NoPart i_NoPart_NoRow zcs)) (za (zda (tbl := [("NoPart", false)]) rfl z_isinstance (pv 3) (zbm (v := .ref _) rfl (xcl XX G n_TooMany) rfl) rfl (fun _ h => h) (zbk n_NoPart l_NoPart i_NoPart_TooMany zcs)) (za (zda (tbl := [("NoPart", true)]) rfl z_isinstance (pv 3) (zbm (v := .ref _) rfl (xcl XX G n_NoPart) rfl) rfl (fun _ h => h) (zbk n_NoPart l_NoPart i_NoPart_NoPart zcs)) zc))))))
 (zf (zq (i := 2) nd rfl (Or.inl rfl) (zex (za (zda (tbl := [("NoPart", false)]) rfl z_isinstance (pv 3) (zbm (v := .ref _) rfl (xcl XX G n_NoProduct) rfl) rfl (fun _ h => h) (zbk n_NoPart l_NoPart i_NoPart_NoProduct zcs)) (za (zda (tbl := [("NoPart", false)]) rfl z_isinstance (pv 3) (zbm (v := .ref _) rfl (xcl XX G n_Unlike) rfl) rfl (fun _ h => h) (zbk n_NoPart l_NoPart i_NoPart_Unlike zcs)) (za (zda (tbl := [("NoPart", false)]) rfl z_isinstance (pv 3) (zbm (v := .ref _) rfl (xcl XX G n_NoPaper) rfl) rfl (fun _ h => h) (zbk n_NoPart l_NoPart i_NoPart_NoPaper zcs)) (za (zda (tbl := [("NoPart", false)]) rfl z_isinstance (pv 3) (zbm (v := .ref _) rfl (xcl XX G n_NoText) rfl) rfl (fun _ h => h) (zbk n_NoPart l_NoPart i_NoPart_NoText zcs)) zc))))))
 (zf (zq (i := 2) nd rfl (Or.inl rfl) (zbz zbn zcv (zd (pv 2)) (zex (za (zda (tbl := [("NoPart", false)]) rfl z_isinstance (pv 3) (zbm (v := .ref _) rfl (xcl XX G n_NoLetters) rfl) rfl (fun _ h => h) (zbk n_NoPart l_NoPart i_NoPart_NoLetters zcs)) (za (zda (tbl := [("NoPart", false)]) rfl z_isinstance (pv 3) (zbm (v := .ref _) rfl (xcl XX G n_NoLine) rfl) rfl (fun _ h => h) (zbk n_NoPart l_NoPart i_NoPart_NoLine zcs)) (za (zda (tbl := [("NoPart", false)]) rfl z_isinstance (pv 3) (zbm (v := .ref _) rfl (xcl XX G n_NoName) rfl) rfl (fun _ h => h) (zbk n_NoPart l_NoPart i_NoPart_NoName zcs)) zc))))))
 (zf (zq (i := 2) nd rfl (Or.inl rfl) (zbz zbn zcv (zd (pv 2)) (zex (za (zda (tbl := [("NoPart", false)]) rfl z_isinstance (pv 3) (zbm (v := .ref _) rfl (xcl XX G n_Full) rfl) rfl (fun _ h => h) (zbk n_NoPart l_NoPart i_NoPart_Full zcs)) (za (zda (tbl := [("NoPart", false)]) rfl z_isinstance (pv 3) (zbm (v := .ref _) rfl (xcl XX G n_NoDeed) rfl) rfl (fun _ h => h) (zbk n_NoPart l_NoPart i_NoPart_NoDeed zcs)) zc)))))
 (zf (zew (JW.pt (zmq (zem (zp znb zuy rfl z_any zuq (za (zd (pv 2)) zc))) (zid (zcz (zpf hr.units) zsr (zmy (zd (pv 1)) (za zla zc)) zj (nomark _)) (by first | exact Or.inl rfl | exact Or.inr rfl)))) (zm (zbb zds)) zce)
 (zm (zbb (zja (zex (za zds (za zds (za zds (za zds zc))))) (zmw (zd (pv 1)) (za zla zc)) (fun _ _=>rfl))))))))))))
 (zm (zbb zds)))
theorem zcb : FnScope ["_law_thing"] ["_law_thing"] (defScope zbo) := ⟨rfl, rfl, rfl, by decide +kernel, rfl, by decide +kernel, by decide +kernel⟩
theorem zei (T : TopF K "_law_is_whole" zbo) (XX : K.In h) (G : h.Ns mainGlobals mg) (z_bool : mg "bool" = none) (z_isinstance : mg "isinstance" = none) (z_int : mg "int" = none) : CalD P w K mg base "_law_is_whole" 1 ["_law_thing"] zt :=
 have nd:=zcb.nd
 zcr (k := 0) T XX G zcb (fun _ _ _ _ _ _ us hl => len1 us hl fun _ => rfl) fun f cdv A outer s H E hr => (zm (zbb (zqn (zp zbg zch rfl z_isinstance zr (za (zd (pv 0)) (za (zhi (zeh (v := .ty "int") rfl z_int zne rfl) (fun _ _ => .ty _)) zc))) (zqd (zqe (zp zbg zch rfl z_isinstance zr (za (zd (pv 0)) (za (zhi (zeh (v := .ty "bool") rfl z_bool zoa rfl) (fun _ _ => .ty _)) zc))))))))
theorem zdp : FnScope ["_law_found", "_law_due", "_law_row"] ["_law_found", "_law_due"] (defScope zco) := ⟨rfl, rfl, rfl, by decide +kernel, rfl, by decide +kernel, by decide +kernel⟩
theorem zgh (T : TopF K "_law_right" zco) (XX : K.In h) (G : h.Ns mainGlobals mg) (z_list : mg "list" = none) (z_isinstance : mg "isinstance" = none) (z_any : mg "any" = none) (z_tuple : mg "tuple" = none) (c__law_is_whole : CalD P w K mg base "_law_is_whole" 1 ["_law_thing"] zt) : CalD P w K mg base "_law_right" 2 ["_law_found", "_law_due"] zbj :=
 have nd:=zdp.nd
 zcr (k := 1) T XX G zdp (fun _ _ _ _ _ _ us hl => len2 us hl fun _ _ => rfl) fun f cdv A outer s H E hr => (zf (zew (JW.pt (zmq (zfh (zem (zp zbg zch rfl z_isinstance zr (za (zd (pv 0)) (za (zhi (zeh (v := .ty "list") rfl z_list zup rfl) (fun _ _ => .ty _)) zc))))) (zid (zcz (zpf hr.units) zsr (zd (pv 0)) (zd (pv 1)) (nomark _)) (by first | exact Or.inl rfl | exact Or.inr rfl)))) (zm (zbb zla)) zce)
 (zf (zqb xdy rfl (zd (pv 0)) (zbe (i:=2) nd rfl (Or.inl rfl))
 (zm (zew (JW.pt (zmq (zfh (zem (zp zbg zch rfl z_isinstance zr (za (zd (pv 2)) (za (zhi (zeh (v := .ty "tuple") rfl z_tuple zqt rfl) (fun _ _ => .ty _)) zc))))) (zid (zem (zp (zqr rfl) zuy rfl z_any zuq (za (zkn rfl (zih (zd (pv 2))) (fun _ _ _ _ _ => (zbe (i := 0) (show (["_law_part"] : List Str).Nodup from by decide +kernel) rfl (Or.inl rfl))) (fun _ _ _ _ _ => zfs) (fun _ _ _ _ _ => (zqe (zdb c__law_is_whole (fun _ _ _ _ h => zck h) (hr.mono (by decide)) rfl (za (zd (pv 0)) zc)))) (N := ["_law_part"]) (k := 1) (is := []) (zgp (by rfl))) zc))) (by first | exact Or.inl rfl | exact Or.inr rfl)))) (zm (zbb zla)) zce)))
 (zm (zbb zla))))
theorem zrt : FnScope ["_law_script", "_law_all_rows", "_law_r", "_law_again", "_law_found", "_law_k", "_law_bag_here", "_law_some", "_law_thing", "_law_due"] ["_law_script"] (defScope zra) := ⟨rfl, rfl, rfl, by decide +kernel, rfl, by decide +kernel, by decide +kernel⟩
theorem zwv {f c T : Addr} {fd : FuncData} (F : Fun K "law" "law" zra f fd) (hfc : fd.code = .ref c) (CT : PySem.W.CodeHd base c T) (ht : PySem.W.tabIn K "law" = some (c, T)) (Bm : BmOk mg base) (z_range : mg "range" = none) (z_len : mg "len" = none) (z_min : mg "min" = none) (z_str : mg "str" = none) (z_int : mg "int" = none) (c__law_all : CalD P w K mg base "_law_all" 1 [] zcg) (c_steep_rows : CalX P w K mg base "steep_rows" 9 ["r"] zbd) (c__law_right : CalD P w K mg base "_law_right" 2 ["_law_found", "_law_due"] zbj) (c__law_bag : CalD P w K mg base "_law_bag" 1 ["_law_script", "_law_at"] zci) (c__law_take : CalD P w K mg base "_law_take" 1 ["_law_bag_here", "_law_many"] zbi) (c__law_is_whole : CalD P w K mg base "_law_is_whole" 1 ["_law_thing"] zt) (c__law_refused : CalT P w K mg base "_law_refused" 9 zx) : FnOk P w K mg base CX0 12 f fd ["_law_script"] (spLawT K T) :=
 have nd:=zrt.nd
 zsz (k:=11) F zrt rfl (fun cdv A outer s H E hcd hr=>(zf (zq (i:=1) nd rfl (Or.inl rfl) (zql c__law_all (hr.mono (by decide)) rfl))
 (zf (zen xdy rfl (zcf rfl z_range (za zj zc)) (zbe (i:=2) nd rfl (Or.inl rfl))
 (zm (zen xdy rfl (zcf rfl z_range (za zj zc)) (zbe (i:=3) nd rfl (Or.inl rfl))
 (zf (zq (i:=4) nd rfl (Or.inl rfl) (zqj c_steep_rows (fun _ _ _ _ h=>zck h) (hr.mono (by decide)) rfl (za (zd (pv 2)) zc)))
 (zf (zew (zfh (zem (zdb c__law_right (fun _ _ _ _ h=>zck h) (hr.mono (by decide)) rfl (za (zd (pv 4)) (za (zja (zd (pv 1)) (zd (pv 2)) (fun _ _=>rfl)) zc))))) (zm (zbb zla)) zce)
 (zf (zeo (zfx (zd (pv 4)) (za (zfv (za zj (za zj zc))) zc)))
 (zm (zeo (zqh (zd (pv 4)))))))))))
 (zf (zen xdy rfl (zcf rfl z_range (za (zbz zbn zcv (zp (zfz rfl) zze rfl z_min zqu (za (zp zbv zng rfl z_len znd (za (zd (pv 0)) zc)) (za zj zc))) zj) zc)) (zbe (i:=5) nd rfl (Or.inl rfl))
 (zf (zq (i:=6) nd rfl (Or.inl rfl) (zdb c__law_bag (fun _ _ _ _ h=>zck h) (hr.mono (by decide)) rfl (za (zd (pv 0)) (za (zd (pv 5)) zc))))
 (zf (zq (i:=2) nd rfl (Or.inl rfl) (zdb c__law_take (fun _ _ _ _ h=>zck h) (hr.mono (by decide)) rfl (za (zd (pv 6)) (za zj zc))))
 (zf (zq (i:=7) nd rfl (Or.inl rfl) (zex (za (zqf zj) (za zj (za (zbz zpd (zlv fun _ _ _ _=>.int _) (zqf (zd (pv 2))) zj) (za (zbz zbn zcv (zd (pv 2)) zj) (za (zbz zpe (oI_D fun _ _ _ _=>.int _) zj zj) (za (zqf (zbz zpe (oI_D fun _ _ _ _=>.int _) zj zj)) (za zla (za zla (za zyl (za zds (za (zfw zna zuw rfl z_str zyt (za (zd (pv 2)) zc)) (za (zfv zc) (za (zex zc) (za (zfv (za (zd (pv 2)) zc)) (za (zex (za (zd (pv 2)) zc)) (za zds (za (zd (pv 2)) zc)))))))))))))))))))
 (zf (zq (i:=8) nd rfl (Or.inr rfl) (zja (zd (pv 7)) (zdb c__law_take (fun _ _ _ _ h=>zck h) (hr.mono (by decide)) rfl (za (zd (pv 6)) (za zj zc))) (fun _ _=>rfl)))
 (zf (zq (i:=9) nd rfl (Or.inl rfl) (zja (zex (za zds (za zds zc))) (zfw zil zux rfl z_int zne (za (zqn (zdb c__law_is_whole (fun _ _ _ _ h=>zck h) (hr.mono (by decide)) rfl (za (zd (pv 8)) zc)) (zqd (zqi zvh zvh (zlv fun _ _ _ _=>.bl _) (zlv fun _ _ _ _=>.bl _) zj (zd (pv 8)) zj))) zc)) (fun _ _=>rfl)))
 (zm (zew (zcz (zpf hr.units) zsr (zyk c__law_refused CT ht Bm (hcd.symm.trans hfc) rfl rfl (hr.mono (by decide)) rfl (zgp (N := ["_law_thing"]) (k := 0) (is := [8]) (by rfl)) ⟨rfl, rfl, rfl, by decide +kernel⟩ (fun _ _ _ _ => rfl) (fun f cd cl A outer s H E hr => (ztn c_steep_rows zoi (fun _ _ h => zmm _ _ h) (hr.mono (by decide)) rfl (za (zd (pv 0)) zc)))) (zd (pv 9)) (nomark _)) (zm (zbb zla)) zce))))))))
 (zm (zbb zla)))))) K31.holds
end
theorem all_mk {l : PySem.W.OpenLaw} {w : World} {K : Fg} {h : Heap} {mg : Str -> Option Value} {fa c T : Addr} {ts : List Addr} {u0 : Tok} {C_Full : Addr} {C_NoDeed : Addr} {C_NoExchange : Addr} {C_NoLetters : Addr} {C_NoLine : Addr} {C_NoName : Addr} {C_NoPaper : Addr} {C_NoPart : Addr} {C_NoProduct : Addr} {C_NoRow : Addr} {C_NoText : Addr} {C_RaisedError : Addr} {C_TooMany : Addr} {C_Unlike : Addr} (X : K.In h) (G : h.Ns mainGlobals mg) (hfa : mg "law" = some (.ref fa)) (lt : LawTab K ts c T)
  (t1 : TopF K "_law_all" zed) (t2 : TopF K "_law_bag" zec) (t3 : TopF K "_law_take" zdj) (t4 : TopF K "steep_from" zbr) (t5 : TopF K "is_whole" zeb) (t6 : TopF K "steep_rows" zcn) (t7 : TopF K "_law_refused" zbs) (t8 : TopF K "_law_is_whole" zbo) (t9 : TopF K "_law_right" zco) (t10 : TopF K "law" zra) (z0 : PySem.W.nsIn K mainGlobals "range" = some none) (z1 : PySem.W.nsIn K mainGlobals "len" = some none) (z2 : PySem.W.nsIn K mainGlobals "sum" = some none) (z3 : PySem.W.nsIn K mainGlobals "int" = some none) (z4 : PySem.W.nsIn K mainGlobals "sorted" = some none) (z5 : PySem.W.nsIn K mainGlobals "abs" = some none) (z6 : PySem.W.nsIn K mainGlobals "min" = some none) (z7 : PySem.W.nsIn K mainGlobals "bool" = some none) (z8 : PySem.W.nsIn K mainGlobals "isinstance" = some none) (z9 : PySem.W.nsIn K mainGlobals "ValueError" = some none) (z10 : PySem.W.nsIn K mainGlobals "any" = some none) (z11 : PySem.W.nsIn K mainGlobals "list" = some none) (z12 : PySem.W.nsIn K mainGlobals "tuple" = some none) (z13 : PySem.W.nsIn K mainGlobals "str" = some none) (y0 : PySem.W.nsIn K mainGlobals "MOST_RAISED" = some (some (.int 16 u0))) (n_Full : PySem.W.nsIn K mainGlobals "Full" = some (some (.ref C_Full))) (n_NoDeed : PySem.W.nsIn K mainGlobals "NoDeed" = some (some (.ref C_NoDeed))) (n_NoExchange : PySem.W.nsIn K mainGlobals "NoExchange" = some (some (.ref C_NoExchange))) (n_NoLetters : PySem.W.nsIn K mainGlobals "NoLetters" = some (some (.ref C_NoLetters))) (n_NoLine : PySem.W.nsIn K mainGlobals "NoLine" = some (some (.ref C_NoLine))) (n_NoName : PySem.W.nsIn K mainGlobals "NoName" = some (some (.ref C_NoName))) (n_NoPaper : PySem.W.nsIn K mainGlobals "NoPaper" = some (some (.ref C_NoPaper))) (n_NoPart : PySem.W.nsIn K mainGlobals "NoPart" = some (some (.ref C_NoPart))) (n_NoProduct : PySem.W.nsIn K mainGlobals "NoProduct" = some (some (.ref C_NoProduct))) (n_NoRow : PySem.W.nsIn K mainGlobals "NoRow" = some (some (.ref C_NoRow))) (n_NoText : PySem.W.nsIn K mainGlobals "NoText" = some (some (.ref C_NoText))) (n_RaisedError : PySem.W.nsIn K mainGlobals "RaisedError" = some (some (.ref C_RaisedError))) (n_TooMany : PySem.W.nsIn K mainGlobals "TooMany" = some (some (.ref C_TooMany))) (n_Unlike : PySem.W.nsIn K mainGlobals "Unlike" = some (some (.ref C_Unlike))) (q_NoPart : PySem.W.excIn K C_NoPart bmV "ValueError.__new__" = true) (l_NoPart : ErrLook K C_NoPart) (e_NoPart_RaisedError : PySem.W.exmOne K (.ref C_NoPart) (.ref C_RaisedError) = some true) (i_NoPart_Full : PySem.W.kitOne K (.ref C_NoPart) (.ref C_Full) = some false) (i_NoPart_NoDeed : PySem.W.kitOne K (.ref C_NoPart) (.ref C_NoDeed) = some false) (i_NoPart_NoExchange : PySem.W.kitOne K (.ref C_NoPart) (.ref C_NoExchange) = some false) (i_NoPart_NoLetters : PySem.W.kitOne K (.ref C_NoPart) (.ref C_NoLetters) = some false) (i_NoPart_NoLine : PySem.W.kitOne K (.ref C_NoPart) (.ref C_NoLine) = some false) (i_NoPart_NoName : PySem.W.kitOne K (.ref C_NoPart) (.ref C_NoName) = some false) (i_NoPart_NoPaper : PySem.W.kitOne K (.ref C_NoPart) (.ref C_NoPaper) = some false) (i_NoPart_NoPart : PySem.W.kitOne K (.ref C_NoPart) (.ref C_NoPart) = some true) (i_NoPart_NoProduct : PySem.W.kitOne K (.ref C_NoPart) (.ref C_NoProduct) = some false) (i_NoPart_NoRow : PySem.W.kitOne K (.ref C_NoPart) (.ref C_NoRow) = some false) (i_NoPart_NoText : PySem.W.kitOne K (.ref C_NoPart) (.ref C_NoText) = some false) (i_NoPart_TooMany : PySem.W.kitOne K (.ref C_NoPart) (.ref C_TooMany) = some false) (i_NoPart_Unlike : PySem.W.kitOne K (.ref C_NoPart) (.ref C_Unlike) = some false) (i_NoPart_ValueError : PySem.W.kitOne K (.ref C_NoPart) (.type "ValueError") = some true) :
  ∃ (c T : Addr) (fd : FuncData), LawTab K ts c T /\ (∀ (s : Shared) (v : Value), BindsTo s fd ⟨[v], []⟩ [("_law_script", v)]) /\ ∀ base : Heap, K.In base -> base.Ns mainGlobals mg -> PySem.W.CodeHd base c T -> BmOk mg base -> FnOk l.prog w K mg base CX0 12 fa fd ["_law_script"] (spLawT K T) := by
 have x0:=xcu X G z0;have x1:=xcu X G z1;have x2:=xcu X G z2;have x3:=xcu X G z3;have x4:=xcu X G z4;have x5:=xcu X G z5;have x6:=xcu X G z6;have x7:=xcu X G z7;have x8:=xcu X G z8;have x9:=xcu X G z9;have x10:=xcu X G z10;have x11:=xcu X G z11;have x12:=xcu X G z12;have x13:=xcu X G z13;have v0:=xcl X G y0;obtain ⟨f,fd,a,F⟩:=t10;have e:=hfa.symm.trans (xcl X G a);cases e;obtain ⟨oc,od,kV,doc,pm,an,cdv,ct,osl,rfl,lk,hcd⟩:=id F.ex;refine ⟨c, T, PySem.W.fnOf "law" "law" (defArgs zra) (defBody zra) (defScope zra) .none kV doc pm an cdv ct, lt, fun s v => .of_eq rfl, fun base _ _ CT Bm => ?_⟩
 have k__law_all:CalD l.prog w K mg base _ _ _ _:=ziy t1 X G x0 x1 x2 x3 x4
 have k__law_bag:CalD l.prog w K mg base _ _ _ _:=zix t2 X G x1 x5 x6 x0
 have k__law_take:CalD l.prog w K mg base _ _ _ _:=zhf t3 X G 
 have k_steep_from:CalD l.prog w K mg base _ _ _ _:=zgg t4 X G x6 x0
 have k_is_whole:CalD l.prog w K mg base _ _ _ _:=ziw t5 X G x7 x8 x3
 have k_steep_rows : CalX l.prog w K mg base "steep_rows" 9 ["r"] zbd := zgf t6 X G v0 n_NoPart q_NoPart k_is_whole k_steep_from
 have k__law_refused : CalT l.prog w K mg base "_law_refused" 9 zx := zeu t7 X G x9 x8 x10 n_NoPart l_NoPart i_NoPart_ValueError i_NoPart_NoPart n_TooMany i_NoPart_TooMany n_NoRow i_NoPart_NoRow n_NoExchange i_NoPart_NoExchange n_NoText i_NoPart_NoText n_NoPaper i_NoPart_NoPaper n_Unlike i_NoPart_Unlike n_NoProduct i_NoPart_NoProduct n_NoName i_NoPart_NoName n_NoLine i_NoPart_NoLine n_NoLetters i_NoPart_NoLetters n_NoDeed i_NoPart_NoDeed n_Full i_NoPart_Full n_RaisedError e_NoPart_RaisedError
 have k__law_is_whole:CalD l.prog w K mg base _ _ _ _:=zei t8 X G x7 x8 x3
 have k__law_right:CalD l.prog w K mg base _ _ _ _:=zgh t9 X G x11 x8 x10 x12 k__law_is_whole
 exact zwv F (PySem.W.law_code X G lt.tin hfa (X _ _ lk) rfl) CT lt.tin Bm x0 x1 x6 x13 x3 k__law_all k_steep_rows k__law_right k__law_bag k__law_take k__law_is_whole k__law_refused
end K31
open PySem PySem.W PyProof.Rows
set_option maxRecDepth 100000 in
set_option maxHeartbeats 0 in
theorem PySem.Challenge.cw_raisedsums_k31_all_steep_rows_holds : PySem.Challenge.rw_raisedsums_k31_all_steep_rows.Holds := by
  w_on; o_law; k_head; (case hw => w_witness2)
  k_fill
  refine L2.zok (l := PySem.Challenge.rw_raisedsums_k31_all_steep_rows) (n := 63) (k := 12) (x := "_law_script") (sp := Dd.spLawT) rfl (by decide) rfl ⟨rfl, by decide, by decide⟩ (fun w h Y => PySem.W.km_in_of Y) (fun w h Y => PySem.W.km_tabs_of Y) ?F (fun _ c _ _ a ns ht hl hT hS => ⟨a, ns, rfl, hS, hl, hT, ⟨c, ht⟩, fun _ => rfl⟩)
  case F =>
    intro w mg fa h KX G hmg
    refine' K31.all_mk KX G hmg ?lt ?t1 ?t2 ?t3 ?t4 ?t5 ?t6 ?t7 ?t8 ?t9 ?t10 ?z0 ?z1 ?z2 ?z3 ?z4 ?z5 ?z6 ?z7 ?z8 ?z9 ?z10 ?z11 ?z12 ?z13 ?y0 ?n_Full ?n_NoDeed ?n_NoExchange ?n_NoLetters ?n_NoLine ?n_NoName ?n_NoPaper ?n_NoPart ?n_NoProduct ?n_NoRow ?n_NoText ?n_RaisedError ?n_TooMany ?n_Unlike ?q_NoPart ?l_NoPart ?e_NoPart_RaisedError ?i_NoPart_Full ?i_NoPart_NoDeed ?i_NoPart_NoExchange ?i_NoPart_NoLetters ?i_NoPart_NoLine ?i_NoPart_NoName ?i_NoPart_NoPaper ?i_NoPart_NoPart ?i_NoPart_NoProduct ?i_NoPart_NoRow ?i_NoPart_NoText ?i_NoPart_TooMany ?i_NoPart_Unlike ?i_NoPart_ValueError
    (case lt => refine' (L2.zmf ?lta ?ltl ?ltc ?ltk ?ltv ?ltd ?ltm ?lto).1; (case lta => k_is); (case ltl => k_is); (case ltc => exact rfl); (case ltk => k_is); (case ltv => exact rfl); (case ltd => kernel_rfl); (case ltm => first | k_mem | decide); (case lto => kernel_rfl))
    all_goals first|k_is|kernel_rfl|(refine' L2.zes ?a ?l ?c ?k;(case a=>k_is);(case l=>k_is);(case c=>k_is);(case k=>k_is))|(apply L2.ErrLook.mk<;>first|k_is|kernel_rfl)|skip
#print axioms PySem.Challenge.cw_raisedsums_k31_all_steep_rows_holds
